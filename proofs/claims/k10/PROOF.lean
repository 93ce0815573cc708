import PyProof.Rows.All
import Wide.All
import OpenK.AllK
import Wide.FinOn
import Lean
import PyProof.EqAt
import PyProof.EqKinds
import PyProof.TupleCall
import PyProof.CompFree
import PyProof.ConsumeWalk
import PyProof.StrWalks
import PyProof.SliceStr2
import PyProof.Rows.StrJoin2
import PyProof.StrOps2
import PyProof.ListMulRoad
import PyProof.TupleOps
import PyProof.NeKinds
import KE.KRevIter
import PyProof.Rows.SortWalk
import PyProof.Draws
import PyProof.EnumMake
import PyProof.AutoListH
import PyProof.ZipIter
import PySem.Challenge.RW_clockhouse_k10_boxes
set_option Elab.async false
set_option linter.all false
set_option maxRecDepth 100000
set_option maxHeartbeats 4000000
set_option genSizeOf false
set_option compiler.extract_closed false
namespace L2
open PySem PySem.Spec PyProof.Rows
noncomputable abbrev Key:=Sum Int Str
noncomputable def keyIs:Key->Value->Bool
 | .inl k,v=>Value.isInt k v
 | .inr x,v=>Value.isStrOf x v
noncomputable def keyH (w:World):Key->Int
 | .inl k=>hashInt k
 | .inr x=>hashStr w x
theorem zta:∀ {k:Key} {v:Value},keyIs k v=true->(∃ i t,k=Sum.inl i/\v=Value.int i t) ∨ (∃ x t,k=Sum.inr x/\v=Value.str x t)
 | .inl i,v,h=>by
  obtain⟨t,e⟩:=Value.isInt_shape (k:=i) (v:=v) h
  exact .inl ⟨i,t,rfl,e⟩
 | .inr x,v,h=>by
  obtain⟨t,e⟩:=Value.isStrOf_shape (x:=x) (v:=v) h
  exact .inr ⟨x,t,rfl,e⟩
theorem key_ll (a b:Int):decide ((Sum.inl a:Key)=Sum.inl b)=(a == b):=by
 by_cases e:a=b
 ·subst e;simp
 ·have h:¬ (Sum.inl a:Key)=Sum.inl b:=fun q=>e (Sum.inl.inj q)
  rw [decide_eq_false h]
  exact (beq_eq_false_iff_ne.mpr e).symm
theorem key_rr (a b:Str):decide ((Sum.inr a:Key)=Sum.inr b)=decide (a=b):=by
 by_cases e:a=b
 ·subst e;simp
 ·have h:¬ (Sum.inr a:Key)=Sum.inr b:=fun q=>e (Sum.inr.inj q)
  rw [decide_eq_false h,decide_eq_false e]
theorem key_lr (a:Int)(b:Str):decide ((Sum.inl a:Key)=Sum.inr b)=false:=decide_eq_false (fun q=>nomatch q)
theorem key_rl (a:Str)(b:Int):decide ((Sum.inr a:Key)=Sum.inl b)=false:=decide_eq_false (fun q=>nomatch q)
noncomputable def mixKind (prog:Program) (w:World):PySem.KeyKind prog w Key where
 is:=keyIs
 hash:=keyH w
 inj:=fun v a b ha hb=>by
  rcases zta ha with⟨i,t,rfl,rfl⟩ | ⟨x,t,rfl,rfl⟩
  ·rcases zta hb with⟨j,u,rfl,e⟩ | ⟨y,u,rfl,e⟩
   ·injection e with e1 _;rw [e1]
   ·exact nomatch e
  ·rcases zta hb with⟨j,u,rfl,e⟩ | ⟨y,u,rfl,e⟩
   ·exact nomatch e
   ·injection e with e1 _;rw [e1]
 byValue:=fun k v h=>by
  rcases zta h with⟨i,t,rfl,rfl⟩ | ⟨x,t,rfl,rfl⟩<;>rfl
 pyHash:=fun hv h=>by
  rcases zta hv with⟨i,t,rfl,rfl⟩ | ⟨x,t,rfl,rfl⟩
  ·exact wpAny_pyHash_int h
  ·exact wpAny_pyHash_str h
 eqBool:=fun hu hv h=>by
  rcases zta hu with⟨i,t,rfl,rfl⟩ | ⟨x,t,rfl,rfl⟩
  ·rcases zta hv with⟨j,u,rfl,rfl⟩ | ⟨y,u,rfl,rfl⟩
   ·rw [key_ll] at h;exact wpAny_eqBool_int h
   ·rw [key_lr] at h;exact SeqAt.EqAt.int_str i t y u _ _ _ _ h
  ·rcases zta hv with⟨j,u,rfl,rfl⟩ | ⟨y,u,rfl,rfl⟩
   ·rw [key_rl] at h;exact SeqAt.EqAt.str_int x t j u _ _ _ _ h
   ·rw [key_rr] at h;exact wpAny_eqBool_str h
 «strs»:=fun k x t v h=>by
  rcases zta h with⟨i,u,rfl,e⟩ | ⟨y,u,rfl,e⟩
  ·exact nomatch e
  ·injection e with e1 _
   subst e1
   cases v<;>rfl
end L2
namespace L2
open PySem PySem.Spec PyProof.Rows
inductive V where
 | non | bl (b:Bool) | int (i:Int) | str (x:Str) | byt (b:Array UInt8) | flt (b:UInt64) | ref (a:Addr) | ty (n:String)
 deriving DecidableEq
noncomputable def RelV:V->Value->Prop
 | .non,u=>u=Value.none
 | .bl b,u=>u=Value.bool b
 | .int i,u=>∃ t,u=Value.int i t
 | .str x,u=>∃ t,u=Value.str x t
 | .byt b,u=>∃ t,u=Value.bytes b t
 | .flt b,u=>∃ t,u=Value.float b t
 | .ref a,u=>u=Value.ref a
 | .ty n,u=>u=Value.type n
noncomputable abbrev Vals:List V->List Value->Prop:=Paired RelV
theorem Vals.length {xs:List V}{us:List Value}(r:Vals xs us):xs.length=us.length:=Paired.length r
theorem Vals.get:∀ {xs:List V} {us:List Value} {i:Nat} {x:V},Vals xs us->xs[i]?=some x->∃ u,us[i]?=some u/\RelV x u
 | _,_,_,_,.nil,e=>by simp at e
 | _,_,0,_,.cons r _,e=>by simp at e;subst e;exact⟨_,rfl,r⟩
 | _,_,i+1,x,.cons _ t,e=>by
  obtain⟨u,h1,h2⟩:=Vals.get (i:=i) (x:=x) t (by simpa using e)
  exact⟨u,by simpa using h1,h2⟩
theorem Vals.set {x:V}{u:Value}(r:RelV x u):∀ {xs:List V} {us:List Value} (i:Nat),Vals xs us->Vals (xs.set i x) (us.set i u)
 | _,_,_,.nil=>.nil
 | _,_,0,.cons _ t=>.cons r t
 | _,_,i+1,.cons q t=>.cons q (Vals.set r i t)
theorem Vals.append:∀ {xs ys:List V} {us ws:List Value},Vals xs us->Vals ys ws->Vals (xs++ys) (us++ws)
 | _,_,_,_,.nil,s=>s
 | _,_,_,_,.cons r t,s=>.cons r (Vals.append t s)
theorem Vals.take:∀ {xs:List V} {us:List Value} (n:Nat),Vals xs us->Vals (xs.take n) (us.take n)
 | _,_,0,_=>.nil
 | _,_,_+1,.nil=>.nil
 | _,_,n+1,.cons r t=>.cons r (Vals.take n t)
theorem Vals.drop:∀ {xs:List V} {us:List Value} (n:Nat),Vals xs us->Vals (xs.drop n) (us.drop n)
 | _,_,0,r=>r
 | _,_,_+1,.nil=>.nil
 | _,_,n+1,.cons _ t=>Vals.drop n t
noncomputable def RelO:Option V->Option Value->Prop
 | some v,some u=>RelV v u
 | none,none=>True
 | _,_=>False
noncomputable def KV {κ : Type}:List (κ×V)->List (κ×Value)->Prop:=Paired fun (p : κ×V) (q : κ×Value)=>p.1=q.1/\RelV p.2 q.2
noncomputable def kV:Key->V
 | .inl i=>.int i
 | .inr x=>.str x
inductive HO where
 | lst (xs:List V)
 | tup (xs:List V)
 | dK (kvs:List (Key×V)) | dT (kvs:List (List Key×V))
 | set (S:Int->Bool) (n:Nat)
 | ins (C dx:Addr) (fs:List (Str×V))
 | own (x:Addr)
 | xd (fs:List (Str×V))
 | met (f x:Addr)
 | rng (lo hi:Int)
 | frz (o:Obj) (u:HO)
 | tbl (ps:Array Value)
 | ext (φ : Heap->Prop)
noncomputable abbrev Hp:=Addr->Option HO
noncomputable def upd (H:Hp) (a:Addr) (o:HO):Hp:=fun b=>if b=a then some o else H b
theorem zfa {H:Hp}{a:Addr}{o:HO}:upd H a o a=some o:=by unfold upd;rw [if_pos rfl]
theorem upd_ne {H:Hp}{a b:Addr}{o:HO}(h:b≠a):upd H a o b=H b:=by unfold upd;rw [if_neg h]
theorem zma {H:Hp}{a b:Addr}{o:HO}(h:H a=some o)(h':H b=none):a≠b:=by
 intro e;subst e;rw [h] at h';cases h'
section
variable  (P:Program)(w:World)
noncomputable def ObjOk (H:Hp) (h:Heap) (a:Addr):HO->Prop
 | .lst xs=>xs.length<=sizeLine/\∃ (its:List Value) (n:Nat),Vals xs its/\h.get? a=some { cls:=.type "list",data:=.seq its.toArray n }
 | .tup xs=>xs.length<=sizeLine/\∃ its:List Value,Vals xs its/\IsTup h a its.toArray
 | .dK kvs=>kvs.length<=sizeLine/\(a == sysModules)=false/\∃ vs,KV kvs vs/\h.DictOf (mixKind P w) a vs
 | .dT kvs=>kvs.length<=sizeLine/\(a == sysModules)=false/\∃ xs:List (List Key×Addr×Value),
   Paired (fun (p:List Key×V) (q:List Key×Addr×Value)=>p.1=q.1/\H q.2.1=some (.tup (p.1.map kV))/\RelV p.2 q.2.2) kvs xs ∧
   ∃ o es ep,h.get? a=some o/\o.ExactDict/\o.data = .dict es ep/\es.toList=xs.map (entryOfKey (tupleKind (mixKind P w)))/\(xs.map (·.1)).Nodup
 | .set S n=>h.SetOf (intKind P w) a S n
 | .ins C dx fs=>H dx=some (.own a)/\fs.length<=1000/\dx≠a/\h.get? a=some (PySem.W.instObj C dx) ∧
   ∃ mA,h.Ns1 dx mA/\(∀ f,RelO (fs.lookup f) (mA f))/\PySem.Within mA (fs.map (·.1))
 | .own _=>∃ o,h.get? a=some o
 | .xd fs=>∃ mA,h.Ns1 a mA/\∀ f,RelO (fs.lookup f) (mA f)
 | .rng lo hi=>∃ t u v,h.get? a=some { cls:=.type "range",data:=.fields #[.int lo t,.int hi u,.int 1 v] }
 | .frz o u=>h.get? a=some o/\ObjOk H h a u
 | .tbl ps=>h.get? a=some { cls:=.none,data:=.fields ps }
 | .met f x=>h.get? a=some (PySem.W.methodObj (.ref f) (.ref x))
 | .ext φ=>φ h/\(∃ o,h.get? a=some o)/\∀ h1 h2:Heap,φ h1->(∀ o,h1.get? a=some o->h2.get? a=some o)->φ h2
noncomputable def HOk (H:Hp) (h:Heap):Prop:=∀ a o,H a=some o->ObjOk P w H h a o
end
section
variable  {P:Program}{w:World}{H H':Hp}{h h':Heap}{a:Addr}{o:HO}
theorem ObjOk.lt (x:ObjOk P w H h a o):a<h.objs.size:=by
 cases o with
 | lst xs=>obtain⟨_,_,_,_,e⟩:=x;exact Heap.lt_size e
 | tup xs=>obtain⟨_,_,_,p⟩:=x;exact p.lt
 | dK kvs=>obtain⟨_,_,_,_,o,_,_,e,_⟩:=x;exact Heap.lt_size e
 | dT kvs=>obtain⟨_,_,_,_,o,_,_,e,_⟩:=x;exact Heap.lt_size e
 | set S n=>obtain⟨o,_,_,_,e,_⟩:=x;exact Heap.lt_size e
 | ins C dx fs=>obtain⟨_,_,_,e,_⟩:=x;exact Heap.lt_size e
 | own y=>obtain⟨_,e⟩:=x;exact Heap.lt_size e
 | xd fs=>obtain⟨_,⟨_,_,_,e,_⟩,_⟩:=x;exact Heap.lt_size e
 | rng lo hi=>obtain⟨_,_,_,e⟩:=x;exact Heap.lt_size e
 | frz ob u=>obtain⟨e,_⟩:=x;exact Heap.lt_size e
 | tbl ps=>exact Heap.lt_size (show h.get? a=some _ from x)
 | met f y=>exact Heap.lt_size (show h.get? a=some _ from x)
 | ext φ=>obtain⟨_,⟨_,e⟩,_⟩:=x;exact Heap.lt_size e
theorem Paired.mapP {α β:Type}{F G : α->β->Prop}:∀ {l₁ : List α} {l₂ : List β},Paired F l₁ l₂->(∀ a b,F a b->G a b)->Paired G l₁ l₂
 | _,_,.nil,_=>.nil
 | _,_,.cons r t,f=>.cons (f _ _ r) (Paired.mapP t f)
theorem ObjOk.stay (x:ObjOk P w H h a o)(k:∀ b u,(b=a ∨ H b=some (.own a))->h.get? b=some u->h'.get? b=some u)
  (ho:∀ b,H b=some (.own a)->H' b=some (.own a)) (ht:∀ b xs,H b=some (.tup xs)->H' b=some (.tup xs)):ObjOk P w H' h' a o:=by
 induction o with
 | lst xs=>obtain⟨z,its,n,r,e⟩:=x;exact⟨z,its,n,r,k _ _ (.inl rfl) e⟩
 | tup xs=>obtain⟨z,its,r,ob,e,c⟩:=x;exact⟨z,its,r,ob,k _ _ (.inl rfl) e,c⟩
 | dK kvs=>obtain⟨z,y,vs,r,ob,es,ep,e,c⟩:=x;exact⟨z,y,vs,r,ob,es,ep,k _ _ (.inl rfl) e,c⟩
 | dT kvs=>
  obtain⟨z,y,xs,r,ob,es,ep,e,c⟩:=x
  exact⟨z,y,xs,Paired.mapP r fun p q z=>⟨z.1,ht _ _ z.2.1,z.2.2⟩,ob,es,ep,k _ _ (.inl rfl) e,c⟩
 | set S n=>obtain⟨ob,es,ep,t,e,c⟩:=x;exact⟨ob,es,ep,t,k _ _ (.inl rfl) e,c⟩
 | ins C dx fs=>
  obtain⟨d,z,ne,e,mA,⟨od,es,ep,e2,c⟩,r⟩:=x
  exact⟨ho _ d,z,ne,k _ _ (.inl rfl) e,mA,⟨od,es,ep,k _ _ (.inr d) e2,c⟩,r⟩
 | own y=>obtain⟨ob,e⟩:=x;exact⟨ob,k _ _ (.inl rfl) e⟩
 | xd fs=>obtain⟨mA,⟨od,es,ep,e,c⟩,r⟩:=x;exact⟨mA,⟨od,es,ep,k _ _ (.inl rfl) e,c⟩,r⟩
 | rng lo hi=>obtain⟨t,u,v,e⟩:=x;exact⟨t,u,v,k _ _ (.inl rfl) e⟩
 | frz ob u ih=>obtain⟨e,q⟩:=x;exact⟨k _ _ (.inl rfl) e,ih q⟩
 | tbl ps=>
  have e:h.get? a=some { cls:=.none,data:=.fields ps }:=x
  show h'.get? a=some { cls:=.none,data:=.fields ps }
  exact k a _ (.inl rfl) e
 | met f y=>
  have e:h.get? a=some (PySem.W.methodObj (.ref f) (.ref y)):=x
  show h'.get? a=some (PySem.W.methodObj (.ref f) (.ref y))
  exact k a _ (.inl rfl) e
 | ext φ=>obtain⟨p,⟨o,e⟩,st⟩:=x;exact⟨st _ _ p fun o q=>k _ _ (.inl rfl) q,⟨o,k _ _ (.inl rfl) e⟩,st⟩
theorem HOk.lt (x:HOk P w H h)(e:H a=some o):a<h.objs.size:=(x a o e).lt
theorem HOk.fresh (x:HOk P w H h)(e:h.objs.size<=a):H a=none:=by
 cases q:H a with
 | none=>rfl
 | some u=>exact absurd (Nat.lt_of_lt_of_le (x.lt q) e) (Nat.lt_irrefl _)
theorem HOk.kept (x:HOk P w H h)(k:∀ b u,h.get? b=some u->h'.get? b=some u):HOk P w H h':=fun a o e=>
 (x a o e).stay (fun b u _ q=>k b u q) (fun _ q=>q) fun _ _ q=>q
theorem HOk.laid (x:HOk P w H h)(k:∀ b u,h.get? b=some u->h'.get? b=some u)(hp:h.objs.size<=a)(new:ObjOk P w (upd H a o) h' a o):HOk P w (upd H a o) h':=fun b u e=>by
 have hn:=x.fresh hp
 by_cases hb:b=a
 ·subst hb;rw [zfa] at e;cases e;exact new
 ·rw [upd_ne hb] at e
  exact (x b u e).stay (fun c v _ q=>k c v q) (fun c q=>by rw [upd_ne (zma q hn)];exact q) fun c xs q=>by rw [upd_ne (zma q hn)];exact q
end
noncomputable def Rd (H:Hp) (a:Addr) (u:HO):Prop:=H a=some u ∨ ∃ o,H a=some (.frz o u)
theorem Rd.ok {P:Program}{w:World}{H:Hp}{h:Heap}{a:Addr}{u:HO}(r:Rd H a u)(x:HOk P w H h):ObjOk P w H h a u:=by
 rcases r with r | ⟨o,r⟩
 ·exact x a u r
 ·obtain⟨_,q⟩:=x a _ r
  exact q
noncomputable def Mut:Option HO->Prop
 | some (.lst _)=>True
 | some (.dK _)=>True
 | some (.dT _)=>True
 | some (.set _ _)=>True
 | some (.ins _ _ _)=>True
 | some (.ext _)=>True
 | _=>False
section
variable  {P:Program}{w:World}{H:Hp}{h h':Heap}{x e:Addr}{o':HO}
theorem HOk.write (ok:HOk P w H h)(mu:Mut (H x))(he:e=x ∨ H e=some (.own x))(k:∀ b u,b≠e->h.get? b=some u->h'.get? b=some u)(heo:∃ u,h'.get? e=some u)
  (new:ObjOk P w (upd H x o') h' x o'):HOk P w (upd H x o') h':=fun b u q=>by
 have nown:∀ c y,H c=some (.own y)->c≠x:=fun c y r z=>by subst z;rw [r] at mu;exact mu
 have ntup:∀ c xs,H c=some (.tup xs)->c≠x:=fun c xs r z=>by subst z;rw [r] at mu;exact mu
 by_cases hb:b=x
 ·subst hb;rw [zfa] at q;cases q;exact new
 ·rw [upd_ne hb] at q
  by_cases hbe:b=e
  ·have q':H b=some (.own x):=by
    rcases he with z | z
    ·exact absurd (hbe.trans z) hb
    ·rw [hbe];exact z
   rw [q] at q';cases q'
   obtain⟨v,hv⟩:=heo
   exact⟨v,by rw [hbe];exact hv⟩
  ·refine (ok b u q).stay (fun c v hc r=>k c v ?_ r) (fun c r=>by rw [upd_ne (nown c b r)];exact r) fun c xs r=>by rw [upd_ne (ntup c xs r)];exact r
   rcases hc with rfl | hc
   ·exact hbe
   ·rintro rfl
    rcases he with z | z
    ·exact nown c b hc z
    ·rw [hc] at z;cases z;exact hb rfl
end
structure Un (fs ex:List Addr)(H H':Hp)(h h':Heap):Prop where
 keep:∀ b o,h.get? b=some o->H b=none->b ∉ fs->b ∉ ex->h'.get? b=some o
 slot:∀ b o,h.get? b=some o->H b=none->b∈fs->b ∉ ex->∃ sl,h'.get? b=some { o with slots:=sl }
 free:∀ b o,h.get? b=some o->H b=none->b ∉ ex->H' b=none
 there:∀ b o,h.get? b=some o->b ∉ ex->∃ o',h'.get? b=some o'
 tups:∀ b xs,H b=some (.tup xs)->H' b=some (.tup xs)
 frzs:∀ b o u,H b=some (.frz o u)->H' b=some (.frz o u)
 tbls:∀ b ps,H b=some (.tbl ps)->∃ more,H' b=some (.tbl (ps++more))
section
variable  {fs fs' ex ex':List Addr}{H H1 H2:Hp}{h h1 h2 h':Heap}{a x e:Addr}{o:HO}
theorem Un.any (u:Un fs ex H H1 h h1){b:Addr}{ob:Obj}(q:h.get? b=some ob)(n:H b=none)(hx:b ∉ ex):∃ sl,h1.get? b=some { ob with slots:=sl }:=by
 by_cases hb:b∈fs
 ·exact u.slot b ob q n hb hx
 ·exact⟨ob.slots,u.keep b ob q n hb hx⟩
theorem Un.kept (k:∀ b u,h.get? b=some u->h'.get? b=some u):Un fs ex H H h h':=
 ⟨fun b ob q _ _ _=>k b ob q,fun b ob q _ _ _=>⟨ob.slots,k b ob q⟩,fun _ _ _ n _=>n,fun b ob q _=>⟨ob,k b ob q⟩,fun _ _ q=>q,fun _ _ _ q=>q,fun _ ps q=>⟨#[],by rw [q];simp⟩⟩
theorem Un.refl:Un fs ex H H h h:=Un.kept fun _ _ q=>q
theorem Un.laid (k:∀ b u,h.get? b=some u->h'.get? b=some u)(hp:h.objs.size<=a)(hn:H a=none):Un fs ex H (upd H a o) h h' where
 keep:=fun b u q _ _ _=>k b u q
 slot:=fun b u q _ _ _=>⟨u.slots,k b u q⟩
 free:=fun b u q n _=>by rw [upd_ne (Nat.ne_of_lt (Nat.lt_of_lt_of_le (Heap.lt_size q) hp))];exact n
 there:=fun b u q _=>⟨u,k b u q⟩
 tups:=fun b xs q=>by rw [upd_ne (zma q hn)];exact q
 frzs:=fun b u xs q=>by rw [upd_ne (zma q hn)];exact q
 tbls:=fun b ps q=>⟨#[],by rw [upd_ne (zma q hn),q];simp⟩
theorem Un.write (mu:Mut (H x))(he:e=x ∨ H e=some (.own x))(k:∀ b u,b≠e->h.get? b=some u->h'.get? b=some u)(heo:∃ u,h'.get? e=some u):Un fs ex H (upd H x o) h h':=by
 have hx:∀ b,H b=none->b≠x:=fun b n z=>by subst z;rw [n] at mu;exact mu
 have hb:∀ b,H b=none->b≠e:=fun b n z=>by
  subst z
  rcases he with r | r
  ·exact hx b n r
  ·rw [n] at r;cases r
 have hm:∀ b u,H b=some u->¬ Mut (some u)->b≠x:=fun b u q nm z=>by subst z;rw [q] at mu;exact nm mu
 refine⟨fun b u q n _ _=>k b u (hb b n) q,fun b u q n _ _=>⟨u.slots,k b u (hb b n) q⟩,fun b u q n _=>by rw [upd_ne (hx b n)];exact n,fun b u q _=>?_,
  fun b xs q=>by rw [upd_ne (hm b _ q fun z=>z)];exact q,fun b u xs q=>by rw [upd_ne (hm b _ q fun z=>z)];exact q,fun b ps q=>⟨#[],by rw [upd_ne (hm b _ q fun z=>z),q];simp⟩⟩
 by_cases hbe:b=e
 ·subst hbe;exact heo
 ·exact⟨u,k b u hbe q⟩
end
noncomputable def trk (h:Heap) (H:Hp):List Addr:=(List.range h.objs.size).filter fun a=>(H a).isSome
noncomputable def hidT (h:Heap) (H:Hp):Heap:=PySem.W.hideAll h (trk h H)
theorem hidT_size (h:Heap)(H:Hp):(hidT h H).objs.size=h.objs.size:=PySem.W.hideAll_size _ _
theorem hidT_get {h:Heap}{H:Hp}{b:Addr}{o:Obj}(e:h.get? b=some o)(n:H b=none):(hidT h H).get? b=some o:=
 PySem.W.hideAll_get _ e fun hm=>by
  have q:(H b).isSome=true:=(List.mem_filter.mp hm).2
  rw [n] at q;simp at q
theorem of_hidT {h:Heap}{H:Hp}{b:Addr}{o:Obj}(e:(hidT h H).get? b=some o):h.get? b=some o/\H b=none:=by
 have e':h.get? b=some o:=PySem.W.of_hideAll (trk h H) e
 refine⟨e',?_⟩
 cases q:H b with
 | none=>rfl
 | some x=>
  have hm:b∈trk h H:=List.mem_filter.mpr ⟨List.mem_range.mpr (Heap.lt_size e'),by simp [q]⟩
  have z:(hidT h H).get? b=none:=PySem.W.hideAll_none (trk h H) hm
  rw [z] at e;cases e
noncomputable def allNews (g h:Heap) (L:Addr):List (Addr×Obj):=(List.range h.objs.size).filterMap fun a=>if a=L ∨ (g.get? a).isSome=true then none else (h.get? a).map fun o=>(a,o)
noncomputable def rest (g h:Heap) (L d:Addr):List (Addr×Obj):=(allNews g h L).filter fun p=>decide (p.1≠d)
end L2
namespace L2
open PySem PySem.Spec PyProof.Rows
structure Mod (K:PySem.W.Frag)(mg:Str->Option Value)(base:Heap):Prop where
 kin:K.In base
 glob:base.Ns mainGlobals mg
 blt:∃ mb,base.Ns builtinsNs mb/\∀ x:Str,x ≠ "__name__" → mb x=bootBuiltins x
 nolimit:base.NoLimit
structure Cx where
 prog:Program
 w:World
 K:PySem.W.Frag
 mg:Str->Option Value
 base:Heap
 A:Around
 N:List Str
 s₀ : Shared
 H₀ : Hp
 env:Env
 outer:List Env
 stack:List Env
 ex:List Addr
 fn:Str->Bool
 calm:Bool
 pn:List (Addr×Obj)
 xe:Value->Shared->Prop
def frs (l:List Env):List Addr:=l.filterMap (·.frame)
noncomputable abbrev Cx.fs (X:Cx):List Addr:=frs X.outer
noncomputable def Vis (sc:Scope) (x:Str):Prop:=sc.names.lookup x=some .local ∨ sc.names.lookup x=some .cell ∨ sc.names.lookup x=some .free
noncomputable def Loc (sc:Scope) (x:Str):Prop:=sc.names.lookup x=some .local ∨ sc.names.lookup x=some .cell
noncomputable def Look (env:Env) (h:Heap) (m:Str->Option Value) (x:Str) (u:Value):Prop:=
 (env.kindOf x=some .local/\m x=some u) ∨ ((env.kindOf x=some .cell ∨ env.kindOf x=some .free)/\∃ c,env.cells.lookup x=some c/\h.IsCell c (some u))
structure Cx.Ok (X:Cx):Prop where
 mod:Mod X.K X.mg X.base
 kind:X.env.scope.kind = .function
 glob:X.env.globals=mainGlobals
 blt:X.env.builtins=builtinsNs
 above:X.s₀.heap.objs.size<=X.env.locals
 inj:∀ x y c,X.env.cells.lookup x=some c->X.env.cells.lookup y=some c->x=y
 has:∀ x,(X.env.kindOf x=some .cell ∨ X.env.kindOf x=some .free)->∃ c,X.env.cells.lookup x=some c
 cab:∀ x c,X.fn x=true->X.env.cells.lookup x=some c->X.s₀.heap.objs.size<=c
 hd:X.calm=true->X.A.handled=none
 frames:X.A.frames=some X.stack
 stk:X.stack=X.outer ∨ (X.stack=X.env::X.outer/\X.env.frame=some X.env.locals)
 exf:∀ b∈X.ex,b≠X.env.locals/\∀ x c,X.env.cells.lookup x=some c->c≠b
 bs:∀ b o,X.base.get? b=some o->X.s₀.heap.get? b=some o/\X.H₀ b=none
 bsz:X.base.objs.size<=X.s₀.heap.objs.size
 noex:∀ b o,X.base.get? b=some o->b ∉ X.ex
 exfs:∀ b∈X.ex,b ∉ X.fs
 funs:X.s₀.heap.FunFrames X.base X.outer
 frf:∀ b∈X.fs,X.H₀ b=none
structure Inv (X:Cx)(pins:List (Addr×Obj))(σ:List (Option V))(H:Hp)(s:Shared):Prop where
 ok:X.Ok
 os:s.os=X.s₀.os
 bare:AllBare s.gens
 base:Un X.fs X.ex X.H₀ H X.s₀.heap s.heap
 loc:∃ m,s.heap.Ns X.env.locals m/\∀ (i:Nat) (x:Str) (v:V),X.N[i]?=some x->σ[i]?=some (some v)->Vis X.env.scope x->∃ u,RelV v u/\Look X.env s.heap m x u
 cell:∀ x c,X.env.cells.lookup x=some c->∃ v,s.heap.IsCell c v
 free:H X.env.locals=none
 freeC:∀ x c,X.env.cells.lookup x=some c->H c=none
 pin:∀ p∈X.pn++pins,s.heap.get? p.1=some p.2/\H p.1=none/\p.1≠X.env.locals/\p.1 ∉ X.fs/\∀ v,p.2.data ≠ .cell v
 hok:HOk X.prog X.w H s.heap
 len : σ.length=X.N.length
section
variable  {X:Cx}{pins:List (Addr×Obj)}{σ:List (Option V)}{H H':Hp}{s:Shared}{h':Heap}
theorem Cx.Ok.nofr (ok:X.Ok){b:Addr}{o:Obj}(e:X.base.get? b=some o):b ∉ X.fs:=fun hb=>by
 have:=(ok.funs.mem hb).1
 rw [e] at this;cases this
theorem Inv.bs (I:Inv X pins σ H s):∀ b o,X.base.get? b=some o->s.heap.get? b=some o/\H b=none:=fun b o e=>
 ⟨I.base.keep b o (I.ok.bs b o e).1 (I.ok.bs b o e).2 (I.ok.nofr e) (I.ok.noex b o e),I.base.free b o (I.ok.bs b o e).1 (I.ok.bs b o e).2 (I.ok.noex b o e)⟩
theorem Inv.bk (I:Inv X pins σ H s):∀ b o,X.base.get? b=some o->s.heap.get? b=some o:=fun b o e=>(I.bs b o e).1
theorem Inv.mod (I:Inv X pins σ H s):Mod X.K X.mg X.base:=I.ok.mod
theorem Inv.kIn (I:Inv X pins σ H s):X.K.In s.heap:=I.ok.mod.kin.keeps I.bk
theorem Inv.fr (I:Inv X pins σ H s):∃ m,Fr X.base X.env.locals s.heap m:=
 let ⟨m,hn,_⟩:=I.loc
 ⟨m,hn,I.bk,Nat.le_trans I.ok.bsz I.ok.above⟩
theorem Inv.lt (I:Inv X pins σ H s):X.env.locals<s.heap.objs.size:=let ⟨_,hn,_⟩:=I.loc;hn.lt
theorem Inv.sz (I:Inv X pins σ H s):X.s₀.heap.objs.size<=s.heap.objs.size:=Nat.le_trans I.ok.above (Nat.le_of_lt I.lt)
theorem Inv.nofs (I:Inv X pins σ H s){a:Addr}(h:s.heap.objs.size<=a):a ∉ X.fs:=fun hb=>by
 obtain⟨_,o,ho,_⟩:=I.ok.funs.mem hb
 exact absurd (Nat.lt_of_lt_of_le (Heap.lt_size ho) (Nat.le_trans I.sz h)) (Nat.lt_irrefl _)
theorem Inv.cne (I:Inv X pins σ H s):∀ x c,X.env.cells.lookup x=some c->c≠X.env.locals:=fun x c e z=>by
 obtain⟨v,o,ho,hd⟩:=I.cell x c e
 obtain⟨m,⟨o',es,ep,ho',hd',_⟩,_⟩:=I.loc
 rw [z,ho'] at ho;cases ho;rw [hd'] at hd;cases hd
theorem Inv.funs (I:Inv X pins σ H s):s.heap.FunFrames X.base X.outer:=by
 have all:∀ (l:List Env),(∀ b∈frs l,b∈X.fs)->X.s₀.heap.FunFrames X.base l->s.heap.FunFrames X.base l:=by
  intro l
  induction l with
  | nil=>intro _ _;trivial
  | cons env r ih=>
   intro hs hl
   obtain⟨hk,⟨L,o,hf,hn,ho,hd⟩,hr⟩:=hl
   have hL:L∈X.fs:=hs L (by unfold frs;rw [List.filterMap_cons,hf];exact List.mem_cons_self)
   obtain⟨sl,e⟩:=I.base.slot L o ho (I.ok.frf L hL) hL fun z=>I.ok.exfs L z hL
   exact⟨hk,⟨L,_,hf,hn,e,hd⟩,ih (fun b hb=>hs b (by unfold frs;rw [List.filterMap_cons,hf];exact List.mem_cons_of_mem _ hb)) hr⟩
 exact all X.outer (fun _ hb=>hb) I.ok.funs
theorem Inv.stack (I:Inv X pins σ H s):s.heap.FunFrames X.base X.stack:=by
 rcases I.ok.stk with e | ⟨e,hf⟩
 ·rw [e];exact I.funs
 ·rw [e]
  obtain⟨m,hn,_⟩:=I.loc
  refine .cons (by rw [I.ok.kind];decide) hf hn ?_ I.funs
  exact Heap.get?_none_of_le (Nat.le_trans I.ok.bsz I.ok.above)
theorem Inv.stkSub (I:Inv X pins σ H s):∀ b∈frs X.stack,b∈X.env.locals::X.fs:=fun b hb=>by
 rcases I.ok.stk with e | ⟨e,hf⟩
 ·rw [e] at hb;exact List.mem_cons_of_mem _ hb
 ·rw [e] at hb
  unfold frs at hb
  rw [List.filterMap_cons,hf] at hb
  exact hb
theorem Inv.stkFree (I:Inv X pins σ H s):∀ b∈frs X.stack,H b=none:=fun b hb=>by
 rcases List.mem_cons.mp (I.stkSub b hb) with e | hb
 ·rw [e];exact I.free
 ·obtain⟨_,o,ho,_⟩:=I.ok.funs.mem hb
  exact I.base.free b o ho (I.ok.frf b hb) fun z=>I.ok.exfs b z hb
theorem Inv.step {g':Array GenState}{t':Nat}{d':Drawn}{ch:List Addr}(I:Inv X pins σ H s)
  (hch:∀ b∈ch,(b∈X.ex ∨ X.s₀.heap.objs.size<=b)/\b≠X.env.locals/\(∀ x c,X.env.cells.lookup x=some c->c≠b)/\∀ p∈X.pn++pins,p.1≠b)
  (keep:∀ b o,b≠X.env.locals->b ∉ X.fs->b ∉ ch->s.heap.get? b=some o->H b=none->h'.get? b=some o)
  (slot:∀ b o,b≠X.env.locals->b∈X.fs->b ∉ ch->s.heap.get? b=some o->H b=none->∃ sl,h'.get? b=some { o with slots:=sl }) (free:∀ b o,b ∉ ch->s.heap.get? b=some o->H b=none->H' b=none)
  (there:∀ b o,b ∉ ch->s.heap.get? b=some o->∃ o',h'.get? b=some o')
  (tups:∀ b xs,H b=some (.tup xs)->H' b=some (.tup xs)) (frzs:∀ b o u,H b=some (.frz o u)->H' b=some (.frz o u)) (tbls:∀ b ps,H b=some (.tbl ps)->∃ more,H' b=some (.tbl (ps++more)))
  (ns:∀ m,s.heap.Ns X.env.locals m->h'.Ns X.env.locals m) (hok:HOk X.prog X.w H' h') (hg:AllBare g') :
  Inv X pins σ H' { s with heap:=h',gens:=g',drawn:=d',toks:=t' }:=by
 have neL:∀ b o,X.s₀.heap.get? b=some o->b≠X.env.locals:=fun b o e=>Nat.ne_of_lt (Nat.lt_of_lt_of_le (Heap.lt_size e) I.ok.above)
 have neC:∀ b o,X.s₀.heap.get? b=some o->b ∉ X.ex->b ∉ ch:=fun b o e hx hb=>by
  rcases (hch b hb).1 with z | z
  ·exact hx z
  ·exact absurd (Nat.lt_of_lt_of_le (Heap.lt_size e) z) (Nat.lt_irrefl _)
 have cellK:∀ x c,X.env.cells.lookup x=some c->∀ v,s.heap.IsCell c v->h'.IsCell c v:=fun x c e v ⟨o,ho,hd⟩=>by
  have nch:c ∉ ch:=fun z=>(hch c z).2.2.1 x c e rfl
  by_cases hc:c∈X.fs
  ·obtain⟨sl,q⟩:=slot c o (I.cne x c e) hc nch ho (I.freeC x c e)
   exact⟨_,q,hd⟩
  ·exact⟨o,keep c o (I.cne x c e) hc nch ho (I.freeC x c e),hd⟩
 refine⟨I.ok,I.os,hg,⟨fun b o e n hb hx=>?_,fun b o e n hb hx=>?_,fun b o e n hx=>?_,fun b o e hx=>?_,fun b xs e=>tups b xs (I.base.tups b xs e),fun b o xs e=>frzs b o xs (I.base.frzs b o xs e),fun b ps e=>?_⟩,?_,fun x c e=>?_,?_,fun x c e=>?_,fun p hp=>?_,hok,I.len⟩
 ·exact keep b o (neL b o e) hb (neC b o e hx) (I.base.keep b o e n hb hx) (I.base.free b o e n hx)
 ·obtain⟨sl,e1⟩:=I.base.slot b o e n hb hx
  obtain⟨sl',e2⟩:=slot b _ (neL b o e) hb (neC b o e hx) e1 (I.base.free b o e n hx)
  exact⟨sl',e2⟩
 ·obtain⟨o',e1⟩:=I.base.there b o e hx
  exact free b o' (neC b o e hx) e1 (I.base.free b o e n hx)
 ·obtain⟨o',e1⟩:=I.base.there b o e hx
  exact there b o' (neC b o e hx) e1
 ·obtain⟨m1,e1⟩:=I.base.tbls b ps e
  obtain⟨m2,e2⟩:=tbls b _ e1
  exact⟨m1++m2,by rw [e2,Array.append_assoc]⟩
 ·obtain⟨m,hn,hl⟩:=I.loc
  refine⟨m,ns m hn,fun i x v e1 e2 e3=>?_⟩
  obtain⟨u,r,l⟩:=hl i x v e1 e2 e3
  refine⟨u,r,?_⟩
  rcases l with l | ⟨k,c,e,z⟩
  ·exact .inl l
  ·exact .inr ⟨k,c,e,cellK x c e _ z⟩
 ·obtain⟨v,z⟩:=I.cell x c e
  exact⟨v,cellK x c e v z⟩
 ·obtain⟨m,⟨o,_,_,ho,_⟩,_⟩:=I.loc
  exact free _ o (fun z=>(hch _ z).2.1 rfl) ho I.free
 ·obtain⟨v,o,ho,hd⟩:=I.cell x c e
  exact free c o (fun z=>(hch c z).2.2.1 x c e rfl) ho (I.freeC x c e)
 ·obtain⟨e,n,ne,nf,d⟩:=I.pin p hp
  have nch:p.1 ∉ ch:=fun z=>(hch p.1 z).2.2.2 p hp rfl
  exact⟨keep p.1 p.2 ne nf nch e n,free p.1 p.2 nch e n,ne,nf,d⟩
theorem Inv.un {t':Nat}(I:Inv X pins σ H s)(u:Un X.fs [] H H' s.heap h')(hok:HOk X.prog X.w H' h'):Inv X pins σ H' { s with heap:=h',toks:=t' }:=by
 obtain⟨m,⟨o,es,ep,ho,r⟩,_⟩:=id I.loc
 obtain⟨sl,hL⟩:=u.any ho I.free (by simp)
 exact I.step (g':=s.gens) (d':=s.drawn) (ch:=[]) (fun _ z=>nomatch z) (fun b o _ hb _ e n=>u.keep b o e n hb (by simp)) (fun b o _ hb _ e n=>u.slot b o e n hb (by simp)) (fun b o _ e n=>u.free b o e n (by simp)) (fun b o _ e=>u.there b o e (by simp)) u.tups u.frzs u.tbls (fun m' hm=>by
  obtain⟨o',es',ep',ho',r'⟩:=hm
  rw [ho] at ho';cases ho'
  exact⟨_,es',ep',hL,r'⟩) hok I.bare
theorem Inv.call {g':Array GenState}{t':Nat}{d':Drawn}{ch:List Addr}(I:Inv X pins σ H s)(u:Un (frs X.stack) ch H H' s.heap h')(hok:HOk X.prog X.w H' h')(hg:AllBare g')
  (hch:∀ b∈ch,(b∈X.ex ∨ X.s₀.heap.objs.size<=b)/\b≠X.env.locals/\(∀ x c,X.env.cells.lookup x=some c->c≠b)/\∀ p∈X.pn++pins,p.1≠b) :
  Inv X pins σ H' { s with heap:=h',gens:=g',drawn:=d',toks:=t' }:=by
 obtain⟨m,⟨o,es,ep,ho,r⟩,_⟩:=id I.loc
 obtain⟨sl,hL⟩:=u.any ho I.free fun z=>(hch _ z).2.1 rfl
 exact I.step (ch:=ch) hch (fun b o hL hb hc e n=>u.keep b o e n (fun z=>(List.mem_cons.mp (I.stkSub b z)).elim hL hb) hc) (fun b o _ _ hc e n=>u.any e n hc) (fun b o hc e n=>u.free b o e n hc) (fun b o hc e=>u.there b o e hc) u.tups u.frzs u.tbls (fun m' hm=>by
  obtain⟨o',es',ep',ho',r'⟩:=hm
  rw [ho] at ho';cases ho'
  exact⟨_,es',ep',hL,r'⟩) hok hg
theorem Inv.turned {t':Nat}{it:Addr}(I:Inv X pins σ H s)(k:∀ b o,b≠it->s.heap.get? b=some o->h'.get? b=some o)(hn:H it=none)(hL:it≠X.env.locals)
  (h1:it∈X.ex ∨ X.s₀.heap.objs.size<=it) (h2:∀ x c,X.env.cells.lookup x=some c->c≠it) (h3:∀ p∈X.pn++pins,p.1≠it):Inv X pins σ H { s with heap:=h',toks:=t' }:=by
 have nit:∀ b u,H b=some u->b≠it:=fun b u e z=>by rw [z,hn] at e;cases e
 refine I.step (g':=s.gens) (d':=s.drawn) (ch:=[it]) (fun b hb=>?_) (fun b o _ _ hc e _=>k b o (fun z=>hc (by simp [z])) e) (fun b o _ _ hc e _=>⟨o.slots,k b o (fun z=>hc (by simp [z])) e⟩) (fun _ _ _ _ n=>n)
  (fun b o hc e=>⟨o,k b o (fun z=>hc (by simp [z])) e⟩) (fun _ _ e=>e) (fun _ _ _ e=>e) (fun b ps e=>⟨#[],by rw [e];simp⟩) (fun m hm=>?_) (fun b u e=>?_) I.bare
 ·have e:b=it:=by simpa using hb
  subst e
  exact⟨h1,hL,h2,h3⟩
 ·obtain⟨o,es,ep,ho,r⟩:=hm
  exact⟨o,es,ep,k _ o (Ne.symm hL) ho,r⟩
 ·refine (I.hok b u e).stay (fun c v hc q=>k c v ?_ q) (fun _ q=>q) fun _ _ q=>q
  rcases hc with z | z
  ·rw [z];exact nit b u e
  ·exact nit c _ z
theorem Inv.tok (I:Inv X pins σ H s)(t:Nat):Inv X pins σ H { s with toks:=t }:=I.un (h':=s.heap) (t':=t) Un.refl I.hok
theorem Inv.kept {t':Nat}(I:Inv X pins σ H s)(k:∀ b u,s.heap.get? b=some u->h'.get? b=some u):Inv X pins σ H { s with heap:=h',toks:=t' }:=I.un (Un.kept k) (I.hok.kept k)
theorem Inv.laid {a:Addr}{o:HO}{t':Nat}(I:Inv X pins σ H s)(k:∀ b u,s.heap.get? b=some u->h'.get? b=some u)(hp:s.heap.objs.size<=a)(new:ObjOk X.prog X.w (upd H a o) h' a o) :
  Inv X pins σ (upd H a o) { s with heap:=h',toks:=t' }:=I.un (Un.laid k hp (I.hok.fresh hp)) (I.hok.laid k hp new)
theorem Inv.write {x e:Addr}{o:HO}{t':Nat}(I:Inv X pins σ H s)(mu:Mut (H x))(he:e=x ∨ H e=some (.own x))(k:∀ b u,b≠e->s.heap.get? b=some u->h'.get? b=some u)(heo:∃ u,h'.get? e=some u)
  (new:ObjOk X.prog X.w (upd H x o) h' x o):Inv X pins σ (upd H x o) { s with heap:=h',toks:=t' }:=I.un (Un.write mu he k heo) (I.hok.write mu he k heo new)
theorem Inv.weak {σ':List (Option V)}(I:Inv X pins σ H s)(hl : σ'.length=σ.length)(w:∀ (i:Nat) v,σ'[i]?=some (some v)->σ[i]?=some (some v)):Inv X pins σ' H s:=
 ⟨I.ok,I.os,I.bare,I.base,let ⟨m,hn,hl'⟩:=I.loc;⟨m,hn,fun i x v e1 e2 e3=>hl' i x v e1 (w i v e2) e3⟩,I.cell,I.free,I.freeC,I.pin,I.hok,hl.trans I.len⟩
theorem Inv.pins_of {pins':List (Addr×Obj)}(I:Inv X pins σ H s)(h:∀ p∈pins',s.heap.get? p.1=some p.2/\H p.1=none/\p.1≠X.env.locals/\p.1 ∉ X.fs/\∀ v,p.2.data ≠ .cell v):Inv X pins' σ H s:=
 ⟨I.ok,I.os,I.bare,I.base,I.loc,I.cell,I.free,I.freeC,fun p hp=>(List.mem_append.mp hp).elim (fun z=>I.pin p (List.mem_append_left _ z)) (h p),I.hok,I.len⟩
theorem nodup_ix {N:List Str}(hN:N.Nodup){i j:Nat}{x:Str}(a:N[i]?=some x)(b:N[j]?=some x):i=j:=by
 obtain⟨h1,e1⟩:=List.getElem?_eq_some_iff.mp a
 obtain⟨h2,e2⟩:=List.getElem?_eq_some_iff.mp b
 exact (List.getElem_inj hN).mp (e1.trans e2.symm)
theorem store_ok2 {M:Model}{A:Around}{E:Value->Shared->Prop}{i:Nat}{x:Str}{v:V}{u:Value}{Q:Unit->Shared->Prop}(I:Inv X pins σ H s)(hN:X.N.Nodup)(hi:X.N[i]?=some x)(hx:Loc X.env.scope x)(r:RelV v u)
  (h:∀ s',Inv X pins (σ.set i (some v)) H s'->(∃ a,Heap.SameBut a s.heap s'.heap/\(a=X.env.locals ∨ X.env.cells.lookup x=some a))->Q () s') (hf:X.fn x=true ∨ X.env.scope.names.lookup x=some .local:=by first | exact .inl rfl | exact .inr rfl | assumption):wpAny M A (storeName X.env x u) Q E s:=by
 obtain⟨m,hn,hl⟩:=id I.loc
 have hcls:(X.env.scope.kind == .class || (X.env.scope.kind == .module && X.env.locals != X.env.globals))=false:=by rw [I.ok.kind];rfl
 have hiσ:i < σ.length:=by rw [I.len];exact (List.getElem?_eq_some_iff.mp hi).1
 have cne:=I.cne
 have tracked:∀ {a:Addr} {h':Heap},(∃ o,s.heap.get? a=some o/\H a=none)->Heap.SameBut a s.heap h'->HOk X.prog X.w H h':=fun {a h'} ha hs b ob e=>by
  obtain⟨_,_,hfree⟩:=ha
  refine (I.hok b ob e).stay (fun c w' hc q=>(hs.2 c ?_).trans q) (fun _ q=>q) fun _ _ q=>q
  rintro rfl
  rcases hc with rfl | hc
  ·rw [hfree] at e;cases e
  ·rw [hfree] at hc;cases hc
 rcases hx with hk | hk
 ·refine wpAny_storeName_local hk hn (fun h' hn' hs=>?_) hcls
  obtain⟨oL,_,_,hoL,_⟩:=id hn
  refine h _ ⟨I.ok,I.os,I.bare,⟨fun b o e n hb hx=>?_,fun b o e n hb hx=>?_,I.base.free,fun b o e hx=>?_,I.base.tups,I.base.frzs,I.base.tbls⟩,⟨_,hn',fun j y v' e1 e2 e3=>?_⟩,fun y c e=>?_,I.free,I.freeC,fun p hp=>?_,tracked ⟨oL,hoL,I.free⟩ hs,by simpa using I.len⟩ ⟨_,hs,.inl rfl⟩
  ·exact (hs.2 b (Nat.ne_of_lt (Nat.lt_of_lt_of_le (Heap.lt_size e) I.ok.above))).trans (I.base.keep b o e n hb hx)
  ·obtain⟨sl,e1⟩:=I.base.slot b o e n hb hx
   exact⟨sl,(hs.2 b (Nat.ne_of_lt (Nat.lt_of_lt_of_le (Heap.lt_size e) I.ok.above))).trans e1⟩
  ·obtain⟨o',e1⟩:=I.base.there b o e hx
   exact⟨o',(hs.2 b (Nat.ne_of_lt (Nat.lt_of_lt_of_le (Heap.lt_size e) I.ok.above))).trans e1⟩
  ·by_cases hj:j=i
   ·subst hj
    rw [hi] at e1;cases e1
    rw [List.getElem?_set_self hiσ] at e2
    cases e2
    exact⟨u,r,.inl ⟨hk,by simp⟩⟩
   ·rw [List.getElem?_set_ne (Ne.symm hj)] at e2
    obtain⟨u',r',q⟩:=hl j y v' e1 e2 e3
    refine⟨u',r',?_⟩
    rcases q with⟨k,e⟩ | ⟨k,c,e,z⟩
    ·refine .inl ⟨k,?_⟩
     have:y≠x:=fun e=>hj (nodup_ix hN e1 (e ▸ hi))
     simp [this,e]
    ·exact .inr ⟨k,c,e,z.sameBut hs (cne y c e)⟩
  ·obtain⟨w',z⟩:=I.cell y c e
   exact⟨w',z.sameBut hs (cne y c e)⟩
  ·obtain⟨e,n,ne,nf,d⟩:=I.pin p hp
   exact⟨(hs.2 p.1 ne).trans e,n,ne,nf,d⟩
 ·have hfn:X.fn x=true:=by
   rcases hf with z | z
   ·exact z
   ·rw [z] at hk;cases hk
  obtain⟨c,hc⟩:=I.ok.has x (.inl hk)
  obtain⟨w',z⟩:=I.cell x c hc
  refine wpAny_storeName_cell I.ok.kind hk hc z (fun h' hc' hs=>?_)
  obtain⟨oc,hoc,hocd⟩:=id z
  refine h { s with heap:=h' } ⟨I.ok,I.os,I.bare,⟨fun b o e n hb hx=>?_,fun b o e n hb hx=>?_,I.base.free,fun b o e hx=>?_,I.base.tups,I.base.frzs,I.base.tbls⟩,⟨m,hn.sameBut hs (Ne.symm (cne x c hc)),fun j y v' e1 e2 e3=>?_⟩,fun y c' e=>?_,I.free,I.freeC,fun p hp=>?_,tracked ⟨oc,hoc,I.freeC x c hc⟩ hs,by simpa using I.len⟩ ⟨c,hs,.inr hc⟩
  ·exact (hs.2 b (Nat.ne_of_lt (Nat.lt_of_lt_of_le (Heap.lt_size e) (I.ok.cab x c hfn hc)))).trans (I.base.keep b o e n hb hx)
  ·obtain⟨sl,e1⟩:=I.base.slot b o e n hb hx
   exact⟨sl,(hs.2 b (Nat.ne_of_lt (Nat.lt_of_lt_of_le (Heap.lt_size e) (I.ok.cab x c hfn hc)))).trans e1⟩
  ·obtain⟨o',e1⟩:=I.base.there b o e hx
   exact⟨o',(hs.2 b (Nat.ne_of_lt (Nat.lt_of_lt_of_le (Heap.lt_size e) (I.ok.cab x c hfn hc)))).trans e1⟩
  ·by_cases hj:j=i
   ·subst hj
    rw [hi] at e1;cases e1
    rw [List.getElem?_set_self hiσ] at e2
    cases e2
    exact⟨u,r,.inr ⟨.inl hk,c,hc,hc'⟩⟩
   ·rw [List.getElem?_set_ne (Ne.symm hj)] at e2
    obtain⟨u',r',q⟩:=hl j y v' e1 e2 e3
    refine⟨u',r',?_⟩
    rcases q with q | ⟨k,c',e,z'⟩
    ·exact .inl q
    ·refine .inr ⟨k,c',e,z'.sameBut hs ?_⟩
     rintro rfl
     exact hj (nodup_ix hN e1 (I.ok.inj _ _ _ e hc ▸ hi))
  ·by_cases hcc:c'=c
   ·subst hcc;exact⟨_,hc'⟩
   ·obtain⟨w2,z2⟩:=I.cell y c' e
    exact⟨w2,z2.sameBut hs hcc⟩
  ·obtain⟨e,n,ne,nf,d⟩:=I.pin p hp
   refine⟨(hs.2 p.1 ?_).trans e,n,ne,nf,d⟩
   intro q
   rw [q,hoc] at e
   have q':oc=p.2:=Option.some.inj e
   exact d w' (by rw [← q'];exact hocd)
theorem store_ok {M:Model}{A:Around}{E:Value->Shared->Prop}{i:Nat}{x:Str}{v:V}{u:Value}{Q:Unit->Shared->Prop}(I:Inv X pins σ H s)(hN:X.N.Nodup)(hi:X.N[i]?=some x)(hx:Loc X.env.scope x)(r:RelV v u)
  (h:∀ s',Inv X pins (σ.set i (some v)) H s'->Q () s') (hf:X.fn x=true ∨ X.env.scope.names.lookup x=some .local:=by first | exact .inl rfl | exact .inr rfl | assumption):wpAny M A (storeName X.env x u) Q E s:=
 store_ok2 I hN hi hx r (fun s' I' _=>h s' I') hf
theorem Inv.call' {s':Shared}{ch:List Addr}(I:Inv X pins σ H s)(ho:s'.os=s.os)(u:Un (frs X.stack) ch H H' s.heap s'.heap)(hok:HOk X.prog X.w H' s'.heap)(hg:AllBare s'.gens)
  (hch:∀ b∈ch,(b∈X.ex ∨ X.s₀.heap.objs.size<=b)/\b≠X.env.locals/\(∀ x c,X.env.cells.lookup x=some c->c≠b)/\∀ p∈X.pn++pins,p.1≠b):Inv X pins σ H' s':=by
 obtain⟨h',g',d',t',o'⟩:=s'
 have e:o'=s.os:=ho
 subst e
 exact I.call (g':=g') (t':=t') (d':=d') u hok hg hch
end
noncomputable abbrev XK:=Value->Option Addr->Hp->Prop
noncomputable abbrev St:=List (Option V)
noncomputable abbrev VK:=V->Hp->Prop
noncomputable abbrev TE:=St->Hp->VK->Prop
noncomputable abbrev TT:=St->Hp->(Bool->Hp->Prop)->Prop
noncomputable abbrev TA:=St->Hp->(List V->Hp->Prop)->Prop
structure Ends where
 nx:St->Hp->Prop
 rt:VK
 bk:St->Hp->Prop:=fun _ _=>False
 ct:St->Hp->Prop:=fun _ _=>False
noncomputable abbrev TS:=Ends->St->Hp->Prop
noncomputable def EP (X:Cx) (pins:List (Addr×Obj)) (σ:St) (Q:VK) (u:Value) (s':Shared):Prop:=∃ v H',Inv X pins σ H' s'/\RelV v u/\Q v H'
noncomputable def TP (X:Cx) (pins:List (Addr×Obj)) (σ:St) (Q:Bool->Hp->Prop) (b:Bool) (s':Shared):Prop:=∃ H',Inv X pins σ H' s'/\Q b H'
noncomputable def AP (X:Cx) (pins:List (Addr×Obj)) (σ:St) (Q:List V->Hp->Prop) (us:List Value) (s':Shared):Prop:=∃ vs H',Inv X pins σ H' s'/\Vals vs us/\Q vs H'
noncomputable def SP (X:Cx) (pins:List (Addr×Obj)) (D:Ends) (f:Flow) (s':Shared):Prop:=
 match f with
 | .next=>∃ σ' H',Inv X pins σ' H' s'/\D.nx σ' H'
 | .brk=>∃ σ' H',Inv X pins σ' H' s'/\D.bk σ' H'
 | .cont=>∃ σ' H',Inv X pins σ' H' s'/\D.ct σ' H'
 | .ret u=>∃ v σ' H',Inv X pins σ' H' s'/\RelV v u/\D.rt v H'
noncomputable def PE (X:Cx) (e:Expr) (t:TE):Prop:=
 ∀ (pins:List (Addr×Obj)) (s:Shared) (σ:St) (H:Hp) (Q:VK),Inv X pins σ H s->t σ H Q->wpAny (model X.prog X.w) X.A (eval e X.env) (EP X pins σ Q) X.xe s
noncomputable def PT (X:Cx) (e:Expr) (t:TT):Prop:=
 ∀ (pins:List (Addr×Obj)) (s:Shared) (σ:St) (H:Hp) (Q:Bool->Hp->Prop),Inv X pins σ H s->t σ H Q->wpAny (model X.prog X.w) X.A (isTrue e X.env (eval e X.env)) (TP X pins σ Q) X.xe s
noncomputable def PW (X:Cx) (e:Expr) (t:TT):Prop:=
 ∀ (whole:Sem Value) (pins:List (Addr×Obj)) (s:Shared) (σ:St) (H:Hp) (Q:Bool->Hp->Prop),Inv X pins σ H s->t σ H Q->wpAny (model X.prog X.w) X.A (isTrue e X.env whole) (TP X pins σ Q) X.xe s
theorem PW.pt {X:Cx}{e:Expr}{t:TT}(h:PW X e t):PT X e t:=h _
noncomputable def PA (X:Cx) (es:List Expr) (t:TA):Prop:=
 ∀ (pos:Pos) (pins:List (Addr×Obj)) (s:Shared) (σ:St) (H:Hp) (Q:List V->Hp->Prop),Inv X pins σ H s->t σ H Q->wpAny (model X.prog X.w) X.A (spliced (backTo pos (starEach es X.env))) (AP X pins σ Q) X.xe s
noncomputable def PS (X:Cx) (st:Stmt) (t:TS):Prop:=
 ∀ (pins:List (Addr×Obj)) (s:Shared) (σ:St) (H:Hp) (D:Ends),Inv X pins σ H s->t D σ H->wpAny (model X.prog X.w) X.A (exec st X.env) (SP X pins D) X.xe s
noncomputable def PSs (X:Cx) (st:List Stmt) (t:TS):Prop:=
 ∀ (pins:List (Addr×Obj)) (s:Shared) (σ:St) (H:Hp) (D:Ends),Inv X pins σ H s->t D σ H->wpAny (model X.prog X.w) X.A (execs st X.env) (SP X pins D) X.xe s
theorem thn {α:Type}{t:Sem α}{Q Q' : α->Shared->Prop}{M:Model}{A:Around}{E:Value->Shared->Prop}{s:Shared}(h:wpAny M A t Q E s)(hQ:∀ a s,Q a s->Q' a s):wpAny M A t Q' E s:=wpAny_mono h hQ fun _ _ x=>x
end L2
namespace L2
open PySem PySem.Spec PyProof.Rows
section
variable  {X:Cx}
theorem bin {a b:Expr}{ta tb:TE}(ha:PE X a ta)(hb:PE X b tb){pins:List (Addr×Obj)}{s:Shared}{σ:St}{H:Hp}{R:V->V->Hp->Prop}(I:Inv X pins σ H s)(h:ta σ H fun x H1=>tb σ H1 fun y H2=>R x y H2)
  {α:Type} {Q : α->Shared->Prop} {f:Value->Value->Sem α}
  (hf:∀ v u s2 x y H2,Inv X pins σ H2 s2->RelV x v->RelV y u->R x y H2->wpAny (model X.prog X.w) X.A (f v u) Q X.xe s2) :
  wpAny (model X.prog X.w) X.A (eval a X.env) (fun v s₁=>wpAny (model X.prog X.w) X.A (eval b X.env) (fun u s₂=>wpAny (model X.prog X.w) X.A (f v u) Q X.xe s₂) X.xe s₁) X.xe s:=by
 refine thn (ha pins s σ H _ I h) fun v s1 ⟨x,H1,I1,r1,q1⟩=>?_
 refine thn (hb pins s1 σ H1 _ I1 q1) fun u s2 ⟨y,H2,I2,r2,q2⟩=>?_
 exact hf v u s2 x y H2 I2 r1 r2 q2
noncomputable def tVar (i:Nat):TE:=fun σ H Q=>∃ v,σ[i]?=some (some v)/\Q v H
noncomputable def tC (v:V):TE:=fun _ H Q=>Q v H
theorem pe_var {i:Nat}{x:Str}{pos:Pos}(hN:X.N[i]?=some x)(hv:Vis X.env.scope x)(hd:(x == ("__debug__" : Str))=false:=by decide)(hcd:(x == ("__classdict__" : Str))=false:=by decide):PE X (.Name x pos) (tVar i):=by
 intro pins s σ H Q I h
 obtain⟨v,e,h⟩:=h
 obtain⟨m,hn,hl⟩:=I.loc
 obtain⟨u,r,l⟩:=hl i x v hN e hv
 have fin:EP X pins σ Q u s:=⟨v,H,I,r,h⟩
 rcases l with⟨hk,hm⟩ | ⟨hk,c,hc,hcell⟩
 ·exact wpAny_Name (wpAny_loadName_local I.ok.kind hk hn hm fin) hd
 ·rcases hk with hk | hk
  ·exact wpAny_Name (wpAny_loadName_cell I.ok.kind hk hc hcell fin) hd
  ·exact wpAny_Name (wpAny_loadName_free I.ok.kind hk hc hcell fin hcd) hd
theorem pe_int {i j pos}:PE X (.Constant (.int i) j pos) (tC (.int i)):=fun _ _ _ H _ I h=>wpAny_Constant_int ⟨.int i,H,I.tok _,⟨_,rfl⟩,h⟩
theorem pe_bl {b j pos}:PE X (.Constant (.bool b) j pos) (tC (.bl b)):=fun _ _ _ H _ I h=>Constant_bool ⟨.bl b,H,I,rfl,h⟩
theorem pe_str {x j pos}:PE X (.Constant (.str x) j pos) (tC (.str x)):=fun _ _ _ H _ I h=>Calls.Constant_str ⟨.str x,H,I.tok _,⟨_,rfl⟩,h⟩
noncomputable def Gl (X:Cx) (x:Str):Prop:=X.env.kindOf x=some .globalImplicit
theorem ld_glob {E:Value->Shared->Prop}{pins:List (Addr×Obj)}{s:Shared}{σ:St}{H:Hp}{x:Str}{u:Value}{pos:Pos}{Q:Value->Shared->Prop}(I:Inv X pins σ H s)(hg:Gl X x)(hm:X.mg x=some u)(h:Q u s)
  (hd:(x == ("__debug__" : Str))=false:=by decide):wpAny (model X.prog X.w) X.A (eval (.Name x pos) X.env) Q E s:=
 Calls.Name_function_global I.ok.kind hg (Calls.loadGlobal_global (by rw [I.ok.glob];exact I.mod.glob.keeps I.bk) hm h) hd
theorem ld_blt {E:Value->Shared->Prop}{pins:List (Addr×Obj)}{s:Shared}{σ:St}{H:Hp}{x:Str}{u:Value}{pos:Pos}{Q:Value->Shared->Prop}(I:Inv X pins σ H s)(hg:Gl X x)(hm:X.mg x=none)(hv:bootBuiltins x=some u)(h:Q u s)
  (hn:x ≠ "__name__" :=by decide) (hd:(x == ("__debug__" : Str))=false:=by decide):wpAny (model X.prog X.w) X.A (eval (.Name x pos) X.env) Q E s:=by
 obtain⟨mb,h1,h2⟩:=I.mod.blt
 exact Calls.Name_function_global I.ok.kind hg (Calls.loadGlobal_builtin (by rw [I.ok.glob];exact I.mod.glob.keeps I.bk) hm (by rw [I.ok.blt];exact h1.keeps I.bk) ((h2 x hn).trans hv) h) hd
theorem pe_bltn {x:Str}{v:V}{u:Value}{pos:Pos}(hg:Gl X x)(hm:X.mg x=none)(hv:bootBuiltins x=some u)(r:RelV v u)(hn:x ≠ "__name__" :=by decide)(hd:(x == ("__debug__" : Str))=false:=by decide):PE X (.Name x pos) (tC v):=
 fun _ _ _ H _ I h=>ld_blt I hg hm hv ⟨v,H,I,r,h⟩ hn hd
variable  {a b:Expr}{ta tb:TE}{pos:Pos}
noncomputable def PC (X:Cx) (op:CmpOp) (a b:Expr) (t:TE):Prop:=
 ∀ (pins:List (Addr×Obj)) (s:Shared) (σ:St) (H:Hp) (Q:VK),Inv X pins σ H s->t σ H Q →
  wpAny (model X.prog X.w) X.A (eval a X.env) (fun v s₁=>wpAny (model X.prog X.w) X.A (eval b X.env) (fun u s₂=>wpAny (model X.prog X.w) X.A (compareOp op v u) (EP X pins σ Q) X.xe s₂) X.xe s₁) X.xe s
noncomputable def tB (t:TE):TT:=fun σ H Q=>t σ H fun x H1=>∃ c,x = .bl c/\Q c H1
theorem pt_cmp {op:CmpOp}{t:TE}(h:PC X op a b t)(h1:behindInMarks op b=false:=by first | exact nobehind _ (by decide) (by decide) | rfl):PT X (.Compare a [op] [b] pos) (tB t):=by
 intro pins s σ H Q I hw
 refine wpAny_isTrue_Compare1 (thn (h pins s σ H _ I hw) fun v s1 h1=>thn h1 fun u s2 h2=>thn h2 fun c s3 ⟨x,H1,I1,r1,q1⟩=>?_) h1
 obtain⟨d,rfl,q⟩:=q1
 cases r1
 exact wpAny_truthy_bool ⟨H1,I1,q⟩
theorem pt_val {e:Expr}{t:TE}(h:PE X e t)(he:∀ whole,isTrue e X.env whole=(do let v ← whole;standAt e.pos;holding [v] (truthy v)):=by intro _;rfl):PT X e (tB t):=by
 intro pins s σ H Q I hw
 refine isTrue_plain (thn (h pins s σ H _ I hw) fun v s1 ⟨x,H1,I1,r1,q1⟩=>?_) (he _)
 obtain⟨d,rfl,q⟩:=q1
 cases r1
 exact wpAny_truthy_bool ⟨H1,I1,q⟩
variable  {tA tB':TT}{rest:List Expr}
noncomputable def tAnd (t u:TT):TT:=fun σ H Q=>t σ H fun c H1=>if c=true then u σ H1 Q else Q false H1
noncomputable def tOr (t u:TT):TT:=fun σ H Q=>t σ H fun c H1=>if c=true then Q true H1 else u σ H1 Q
noncomputable def tNot (t:TT):TT:=fun σ H Q=>t σ H fun c H1=>Q (!c) H1
theorem pw_and1 (ha:PT X a tA):PW X (.BoolOp .And [a] pos) tA:=by
 intro wh pins s σ H Q I h
 refine isTrue_and (thn (ha pins s σ H Q I h) fun c s1 e=>?_)
 cases c with
 | true=>exact isTrue_and_nil e
 | false=>exact e
theorem pw_or1 (ha:PT X a tA):PW X (.BoolOp .Or [a] pos) tA:=by
 intro wh pins s σ H Q I h
 refine isTrue_or (thn (ha pins s σ H Q I h) fun c s1 e=>?_)
 cases c with
 | false=>exact isTrue_or_nil e
 | true=>exact e
theorem pw_and (ha:PT X a tA)(hb:PW X (.BoolOp .And (b::rest) pos) tB'):PW X (.BoolOp .And (a::b::rest) pos) (tAnd tA tB'):=by
 intro wh pins s σ H Q I h
 refine isTrue_and (thn (ha pins s σ H _ I h) fun c s1 ⟨H1,I1,q1⟩=>?_)
 cases c with
 | true=>exact hb wh pins s1 σ H1 Q I1 q1
 | false=>exact⟨H1,I1,q1⟩
theorem pw_or (ha:PT X a tA)(hb:PW X (.BoolOp .Or (b::rest) pos) tB'):PW X (.BoolOp .Or (a::b::rest) pos) (tOr tA tB'):=by
 intro wh pins s σ H Q I h
 refine isTrue_or (thn (ha pins s σ H _ I h) fun c s1 ⟨H1,I1,q1⟩=>?_)
 cases c with
 | true=>exact⟨H1,I1,q1⟩
 | false=>exact hb wh pins s1 σ H1 Q I1 q1
theorem pt_not (ha:PT X a tA):PT X (.UnaryOp .Not a pos) (tNot tA):=by
 intro pins s σ H Q I h
 exact isTrue_not (ha pins s σ H (fun c H1=>Q (!c) H1) I h)
noncomputable def tAndV (ta tb:TE):TE:=fun σ H Q=>ta σ H fun x H1=>∃ c,x = .bl c/\if c=true then tb σ H1 Q else Q (.bl false) H1
noncomputable def tNotV (ta:TE):TE:=fun σ H Q=>ta σ H fun x H1=>∃ c,x = .bl c/\Q (.bl (!c)) H1
theorem pe_one {op}{t:TE}(h:PE X a t):PE X (.BoolOp op [a] pos) t:=fun pins s σ H Q I hw=>BoolOp_one (h pins s σ H Q I hw)
theorem pe_and (ha:PE X a ta)(hb:PE X (.BoolOp .And (b::rest) pos) tb):PE X (.BoolOp .And (a::b::rest) pos) (tAndV ta tb):=by
 intro pins s σ H Q I h
 refine BoolOp_and (thn (ha pins s σ H _ I h) fun v s1 ⟨x,H1,I1,r1,q1⟩=>?_)
 obtain⟨c,rfl,q1⟩:=q1
 cases r1
 refine wpAny_truthy_bool ?_
 cases c with
 | true=>exact hb pins s1 σ H1 Q I1 q1
 | false=>exact⟨.bl false,H1,I1,rfl,q1⟩
theorem pe_not (ha:PE X a ta):PE X (.UnaryOp .Not a pos) (tNotV ta):=by
 intro pins s σ H Q I h
 refine UnaryOp_ (thn (ha pins s σ H _ I h) fun v s1 ⟨x,H1,I1,r1,q1⟩=>?_)
 obtain⟨c,rfl,q1⟩:=q1
 cases r1
 exact not_of (wpAny_truthy_bool ⟨.bl (!c),H1,I1,rfl,q1⟩)
end
end L2
namespace L2
open PySem PySem.Spec PyProof.Rows
noncomputable def SqL (K:PySem.W.Frag) (H:Hp) (a:Addr) (xs:List V):Prop:=
 Rd H a (.lst xs) ∨
  ∃ (o:Obj) (its:Array Value) (n:Nat),K.lookup a=some o/\o.cls = .type "list" ∧ o.dict=none/\o.data = .seq its n/\its.size<=sizeLine/\Vals xs its.toList
noncomputable def SqT (K:PySem.W.Frag) (H:Hp) (a:Addr) (xs:List V):Prop:=
 Rd H a (.tup xs) ∨
  ∃ (o:Obj) (its:Array Value) (n:Nat),K.lookup a=some o/\o.cls = .type "tuple" ∧ o.data = .seq its n/\its.size<=sizeLine/\Vals xs its.toList
noncomputable def absV:Value->Option V
 | .none=>some .non
 | .bool b=>some (.bl b)
 | .int i _=>some (.int i)
 | .str x _=>some (.str x)
 | .bytes b _=>some (.byt b)
 | .float b _=>some (.flt b)
 | .ref a=>some (.ref a)
 | .type n=>some (.ty n)
 | _=>none
theorem RelV.abs {x:V}{u:Value}(r:RelV x u):absV u=some x:=by
 cases x with
 | non=>cases r;rfl
 | bl _=>cases r;rfl
 | int _=>obtain⟨t,rfl⟩:=r;rfl
 | str _=>obtain⟨t,rfl⟩:=r;rfl
 | byt _=>obtain⟨t,rfl⟩:=r;rfl
 | flt _=>obtain⟨t,rfl⟩:=r;rfl
 | ref _=>cases r;rfl
 | ty _=>cases r;rfl
theorem RelV.inj {x y:V}{u:Value}(r:RelV x u)(q:RelV y u):x=y:=Option.some.inj (r.abs.symm.trans q.abs)
theorem Vals.inj:∀ {xs ys:List V} {us:List Value},Vals xs us->Vals ys us->xs=ys
 | _,_,_,.nil,.nil=>rfl
 | _,_,_,.cons r t,.cons r' t'=>by rw [r.inj r',Vals.inj t t']
section
variable  {X:Cx}{pins:List (Addr×Obj)}{σ:St}{H:Hp}{s:Shared}{a:Addr}{xs ys:List V}
theorem SqL.of {K:PySem.W.Frag}(h:H a=some (.lst xs)):SqL K H a xs:=.inl (.inl h)
theorem SqT.of {K:PySem.W.Frag}(h:H a=some (.tup xs)):SqT K H a xs:=.inl (.inl h)
theorem Inv.list (I:Inv X pins σ H s)(h:SqL X.K H a xs):∃ its:List Value,Vals xs its/\PlainL s.heap a its.toArray/\xs.length<=sizeLine:=by
 rcases h with h | ⟨o,its,n,hk,hc,hd,hs,hz,r⟩
 ·obtain⟨z,its,n,r,e⟩:=h.ok I.hok
  exact⟨its,r,⟨_,n,e,rfl,rfl,rfl⟩,z⟩
 ·refine⟨its.toList,r,⟨o,n,I.kIn a o hk,hc,hd,by simpa using hs⟩,?_⟩
  have e:=r.length
  simp only [Array.length_toList] at e
  omega
theorem Inv.tuple (I:Inv X pins σ H s)(h:SqT X.K H a xs):∃ its:List Value,Vals xs its/\IsTup s.heap a its.toArray/\xs.length<=sizeLine:=by
 rcases h with h | ⟨o,its,n,hk,hc,hs,hz,r⟩
 ·obtain⟨z,its,r,p⟩:=h.ok I.hok
  exact⟨its,r,p,z⟩
 ·refine⟨its.toList,r,⟨o,I.kIn a o hk,hc,n,by simpa using hs⟩,?_⟩
  have e:=r.length
  simp only [Array.length_toList] at e
  omega
theorem Inv.list_inj (I:Inv X pins σ H s)(h:SqL X.K H a xs)(h':SqL X.K H a ys):xs=ys:=by
 obtain⟨its,r,⟨o,n,e,_,_,d⟩,_⟩:=I.list h
 obtain⟨its',r',⟨o',n',e',_,_,d'⟩,_⟩:=I.list h'
 rw [e] at e';cases e'
 rw [d] at d'
 injection d' with d1 _
 have:its=its':=by simpa using congrArg Array.toList d1
 subst this
 exact r.inj r'
theorem Inv.tuple_inj (I:Inv X pins σ H s)(h:SqT X.K H a xs)(h':SqT X.K H a ys):xs=ys:=by
 obtain⟨its,r,⟨o,e,_,n,d⟩,_⟩:=I.tuple h
 obtain⟨its',r',⟨o',e',_,n',d'⟩,_⟩:=I.tuple h'
 rw [e] at e';cases e'
 rw [d] at d'
 injection d' with d1 _
 have:its=its':=by simpa using congrArg Array.toList d1
 subst this
 exact r.inj r'
end
noncomputable abbrev Cx.wish (X:Cx) (E:Value->Shared->Prop):Cx:={ X with xe:=E }
noncomputable abbrev Cx.nox (X:Cx):Cx:=X.wish fun _ _=>False
theorem Cx.Ok.wish {X:Cx}(ok:X.Ok)(E:Value->Shared->Prop):(X.wish E).Ok:=
 ⟨ok.mod,ok.kind,ok.glob,ok.blt,ok.above,ok.inj,ok.has,ok.cab,ok.hd,ok.frames,ok.stk,ok.exf,ok.bs,ok.bsz,ok.noex,ok.exfs,ok.funs,ok.frf⟩
theorem Cx.Ok.unwish {X:Cx}{E:Value->Shared->Prop}(ok:(X.wish E).Ok):X.Ok:=
 ⟨ok.mod,ok.kind,ok.glob,ok.blt,ok.above,ok.inj,ok.has,ok.cab,ok.hd,ok.frames,ok.stk,ok.exf,ok.bs,ok.bsz,ok.noex,ok.exfs,ok.funs,ok.frf⟩
section
variable  {X:Cx}{pins:List (Addr×Obj)}{σ:St}{H:Hp}{s:Shared}{E:Value->Shared->Prop}
theorem Inv.wish (I:Inv X pins σ H s)(E:Value->Shared->Prop):Inv (X.wish E) pins σ H s:=⟨I.ok.wish E,I.os,I.bare,I.base,I.loc,I.cell,I.free,I.freeC,I.pin,I.hok,I.len⟩
theorem Inv.unwish (I:Inv (X.wish E) pins σ H s):Inv X pins σ H s:=⟨I.ok.unwish,I.os,I.bare,I.base,I.loc,I.cell,I.free,I.freeC,I.pin,I.hok,I.len⟩
theorem SP.unwish {D:Ends}{f:Flow}{s':Shared}(h:SP (X.wish E) pins D f s'):SP X pins D f s':=by
 cases f with
 | next=>obtain⟨σ',H',I,q⟩:=h;exact⟨σ',H',I.unwish,q⟩
 | brk=>obtain⟨σ',H',I,q⟩:=h;exact⟨σ',H',I.unwish,q⟩
 | cont=>obtain⟨σ',H',I,q⟩:=h;exact⟨σ',H',I.unwish,q⟩
 | ret u=>obtain⟨v,σ',H',I,r,q⟩:=h;exact⟨v,σ',H',I.unwish,r,q⟩
theorem PSs.nox {st:List Stmt}{t:TS}(h:PSs X.nox st t):PSs X st t:=fun pins s σ H D I hw=>
 wpAny_mono (h pins s σ H D (I.wish _) hw) (fun _ _ q=>q.unwish) fun _ _ z=>False.elim z
end
section
variable  {X:Cx}{st:Stmt}{rest:List Stmt}{t u:TS}{e:Expr}{te:TE}{pos:Pos}
noncomputable def tNext:TS:=fun D σ H=>D.nx σ H
noncomputable def tSeq (t u:TS):TS:=fun D σ H=>t { D with nx:=u D } σ H
theorem pss_nil:PSs X [] tNext:=fun _ _ σ H _ I h=>wpAny_execs_nil ⟨σ,H,I,h⟩
theorem pss_cons (h1:PS X st t)(h2:PSs X rest u):PSs X (st::rest) (tSeq t u):=by
 intro pins s σ H D I h
 refine wpAny_execs_cons (thn (h1 pins s σ H { D with nx:=u D } I h) fun f s1 q=>?_)
 cases f with
 | next=>
  obtain⟨σ',H',I',q⟩:=q
  exact h2 pins s1 σ' H' D I' q
 | ret v=>exact q
 | brk=>exact q
 | cont=>exact q
theorem pss_one (h1:PS X st t):PSs X [st] t:=by
 intro pins s σ H D I h
 refine wpAny_execs_cons (thn (h1 pins s σ H D I h) fun f s1 q=>?_)
 cases f with
 | next=>exact wpAny_execs_nil q
 | ret v=>exact q
 | brk=>exact q
 | cont=>exact q
theorem Inv.quiet {pins:List (Addr×Obj)}{σ:St}{H:Hp}{s:Shared}(I:Inv X pins σ H s):interactive X.env=false:=by simp [interactive,I.ok.kind]
noncomputable def tDrop (te:TE):TS:=fun D σ H=>te σ H fun _ H1=>D.nx σ H1
theorem ps_expr (he:PE X e te)(hs:swapsWith e none pos.line X.env=pure false:=by rfl):PS X (.Expr e pos) (tDrop te):=by
 intro pins s σ H D I h
 exact wpAny_Expr_any (thn (he pins s σ H _ I h) fun v s1 ⟨x,H1,I1,r1,q1⟩=>⟨σ,H1,I1,q1⟩) I.quiet hs
noncomputable def tRet (te:TE):TS:=fun D σ H=>te σ H D.rt
theorem ps_ret (he:PE X e te):PS X (.Return (some e) pos) (tRet te):=by
 intro pins s σ H D I h
 exact wpAny_Return_some (thn (he pins s σ H _ I h) fun v s1 ⟨x,H1,I1,r1,q1⟩=>⟨x,σ,H1,I1,r1,q1⟩)
noncomputable def tIfS (c:TT) (t u:TS):TS:=fun D σ H=>c σ H fun b H1=>if b=true then t D σ H1 else u D σ H1
theorem ps_if {c:Expr}{a b:List Stmt}{tc:TT}(hc:PT X c tc)(ha:PSs X a t)(hb:PSs X b u):PS X (.If c a b pos) (tIfS tc t u):=by
 intro pins s σ H D I h
 refine wpAny_If (thn (hc pins s σ H _ I h) fun d s1 ⟨H1,I1,q1⟩=>?_)
 cases d with
 | true=>exact ha pins s1 σ H1 D I1 q1
 | false=>exact hb pins s1 σ H1 D I1 q1
end
noncomputable abbrev TG:=V->St->Hp->(St->Hp->Prop)->Prop
noncomputable abbrev TGs:=List V->St->Hp->(St->Hp->Prop)->Prop
noncomputable def PG (X:Cx) (target:Expr) (t:TG):Prop:=
 ∀ (pins:List (Addr×Obj)) (s:Shared) (σ:St) (H:Hp) (v:V) (u:Value) (Q:St->Hp->Prop),Inv X pins σ H s->RelV v u->t v σ H Q →
  wpAny (model X.prog X.w) X.A (assign target X.env u) (fun _ s'=>∃ σ' H',Inv X pins σ' H' s'/\Q σ' H') X.xe s
noncomputable def PGs (X:Cx) (ts:List Expr) (t:TGs):Prop:=
 ∀ (pins:List (Addr×Obj)) (s:Shared) (σ:St) (H:Hp) (vs:List V) (us:List Value) (Q:St->Hp->Prop),Inv X pins σ H s->Vals vs us->t vs σ H Q →
  wpAny (model X.prog X.w) X.A (assignInOrder ((assignEach ts X.env).map (·.2)) us) (fun _ s'=>∃ σ' H',Inv X pins σ' H' s'/\Q σ' H') X.xe s
noncomputable abbrev TSet:=V->V->V->Hp->(Hp->Prop)->Prop
noncomputable def PSet (X:Cx) (t:TSet):Prop:=
 ∀ (pins:List (Addr×Obj)) (s:Shared) (σ:St) (H:Hp) (o i v:V) (ov iv u:Value) (Q:Hp->Prop),Inv X pins σ H s->RelV o ov->RelV i iv->RelV v u->t o i v H Q →
  wpAny (model X.prog X.w) X.A (setItem ov iv u) (fun _ s'=>∃ H',Inv X pins σ H' s'/\Q H') X.xe s
section
variable  {X:Cx}{pos:Pos}
noncomputable def gName (i:Nat):TG:=fun v σ H Q=>Q (σ.set i (some v)) H
theorem pg_name {i:Nat}{x:Str}(hN:X.N.Nodup)(hi:X.N[i]?=some x)(hx:Loc X.env.scope x)(hf:X.fn x=true ∨ X.env.scope.names.lookup x=some .local:=by first | exact .inl rfl | exact .inr rfl | assumption):PG X (.Name x pos) (gName i):=by
 intro pins s σ H v u Q I r h
 exact wpAny_assign_Name (store_ok I hN hi hx r (fun s' I'=>⟨_,H,I',h⟩) hf)
noncomputable def gNil:TGs:=fun vs σ H Q=>vs = []/\Q σ H
noncomputable def gCons (t:TG) (u:TGs):TGs:=fun vs σ H Q=>∃ v r,vs=v::r/\t v σ H fun σ' H'=>u r σ' H' Q
theorem pgs_nil:PGs X [] gNil:=by
 intro pins s σ H vs us Q I r h
 obtain⟨e,h⟩:=h
 subst e
 cases r
 exact assignInOrder_nil ⟨σ,H,I,h⟩
theorem pgs_cons {e:Expr}{es:List Expr}{t:TG}{u:TGs}(h1:PG X e t)(h2:PGs X es u)
  (hs:(assignEach (e::es) X.env).map (·.2)=assign e X.env::(assignEach es X.env).map (·.2):=by rfl):PGs X (e::es) (gCons t u):=by
 intro pins s σ H vs us Q I r h
 obtain⟨v,vr,e1,h⟩:=h
 subst e1
 cases r with
 | cons r rr=>
  rw [hs]
  refine assignInOrder_cons (thn (h1 pins s σ H _ _ _ I r h) fun _ s1 ⟨σ1,H1,I1,q1⟩=>?_)
  exact h2 pins s1 σ1 H1 _ _ Q I1 rr q1
noncomputable def gTup (K:PySem.W.Frag) (n:Nat) (t:TGs):TG:=fun v σ H Q=>∃ a xs,v = .ref a/\SqT K H a xs/\xs.length=n/\t xs σ H Q
theorem pg_tup {es:List Expr}{k:Nat}{t:TGs}{n:Nat}(hc:X.calm=true)(h:PGs X es t)
  (hn:(assignEach es X.env).length=n:=by rfl) (hst:(assignEach es X.env).findIdx? (·.1)=none:=by rfl):PG X (.Tuple es k pos) (gTup X.K n t):=by
 intro pins s σ H v u Q I r hw
 obtain⟨a,xs,e1,hq,hl,hw⟩:=hw
 subst e1
 cases r
 obtain⟨its,rv,ht,hz⟩:=I.tuple hq
 refine assign_Tuple_tuple (I.ok.hd hc) ht (by simp [hn,← hl,rv.length]) hst fun h' hx=>?_
 have I1:Inv X pins σ H { s with heap:=h' }:=I.kept (t':=s.toks) fun b o e=>hx b o (Nat.ne_of_lt (Heap.lt_size e)) e
 exact h pins _ σ H xs _ Q I1 (by simpa using rv) hw
noncomputable def gSub (to ti:TE) (t:TSet):TG:=fun v σ H Q=>to σ H fun o H1=>ti σ H1 fun i H2=>t o i v H2 fun H3=>Q σ H3
theorem pg_sub {o i:Expr}{to ti:TE}{t:TSet}(ho:PE X o to)(hi:PE X i ti)(hs:PSet X t)
  (ha:∀ v,assign (.Subscript o i pos) X.env v=(do
   let ov ← holding [v] (eval o X.env)
   let iv ← holding [v,ov] (eval i X.env)
   standAt pos
   holding [v,ov,iv] (setItem ov iv v)
   release [v,ov,iv] []):=by intro _;rfl):PG X (.Subscript o i pos) (gSub to ti t):=by
 intro pins s σ H v u Q I r h
 rw [ha]
 refine wpAny_bind (wpAny_holding (thn (ho pins s σ H _ I h) fun ov s1 ⟨x,H1,I1,r1,q1⟩=>?_))
 refine wpAny_bind (wpAny_holding (thn (hi pins s1 σ H1 _ I1 q1) fun iv s2 ⟨y,H2,I2,r2,q2⟩=>?_))
 refine wpAny_bind (wpAny_standAt (wpAny_bind (wpAny_holding (thn (hs pins s2 σ H2 x y v ov iv u _ I2 r1 r2 r q2) fun _ s3 ⟨H3,I3,q3⟩=>?_))))
 exact wpAny_release ⟨σ,H3,I3,q3⟩
noncomputable def tAsg (te:TE) (g:TG):TS:=fun D σ H=>te σ H fun x H1=>g x σ H1 D.nx
theorem ps_asg {tg e:Expr}{te:TE}{g:TG}(he:PE X e te)(hg:PG X tg g)(hs:swapsWithSole [tg] e pos.line X.env=pure false:=by rfl)(hw:swappedStores [tg] e X.env=pure none:=by rfl)
  (h1:(assignEach [tg] X.env).map (·.2) = [assign tg X.env]:=by rfl):PS X (.Assign [tg] e pos) (tAsg te g):=by
 intro pins s σ H D I h
 refine wpAny_Assign_stores (thn (he pins s σ H _ I h) fun v s1 ⟨x,H1,I1,r1,q1⟩=>?_) hs hw
 rw [h1]
 exact thn (hg pins s1 σ H1 x v _ I1 r1 q1) fun _ s2 q=>q
theorem ps_set {i:Nat}{x:Str}{e:Expr}{te:TE}{pos':Pos}(hN:X.N.Nodup)(hi:X.N[i]?=some x)(hx:Loc X.env.scope x)(he:PE X e te)(hs:swapsWith e (some (.Name x pos')) pos.line X.env=pure false:=by rfl)(hf:X.fn x=true ∨ X.env.scope.names.lookup x=some .local:=by first | exact .inl rfl | exact .inr rfl | assumption) :
  PS X (.Assign [.Name x pos'] e pos) (tAsg te (gName i)):=by
 intro pins s σ H D I h
 refine wpAny_Assign_Name (thn (he pins s σ H _ I h) fun v s1 ⟨y,H1,I1,r1,q1⟩=>?_) hs
 exact store_ok I1 hN hi hx r1 (fun s2 I2=>⟨_,H1,I2,q1⟩) hf
noncomputable def tPar (i j:Nat) (ta:TA):TS:=fun D σ H=>ta σ H fun vs H1=>∃ v w,vs = [v,w]/\D.nx ((σ.set i (some v)).set j (some w)) H1
theorem ps_par {i j:Nat}{x y:Str}{a b:Expr}{ta:TA}{px py pt:Pos}{kt k2 pt2}(hc:X.calm=true)(hN:X.N.Nodup)(hi:X.N[i]?=some x)(hj:X.N[j]?=some y)(hij:i≠j)
  (hx:X.env.scope.names.lookup x=some .local) (hy:X.env.scope.names.lookup y=some .local) (ha:PA X [a,b] ta)
  (hw:swappedStores [.Tuple [.Name x px,.Name y py] kt pt] (.Tuple [a,b] k2 pt2) X.env=pure (some [x,y]))
  (hs:swapsWithSole [.Tuple [.Name x px,.Name y py] kt pt] (.Tuple [a,b] k2 pt2) pos.line X.env=pure false:=by rfl) :
  PS X (.Assign [.Tuple [.Name x px,.Name y py] kt pt] (.Tuple [a,b] k2 pt2) pos) (tPar i j ta):=by
 intro pins s σ H D I h
 rw [exec_Assign_arm]
 refine wpAny_bind (wpAny_standAt ?_)
 rw [hs]
 refine wpAny_bind (wpAny_pure ?_)
 rw [if_neg (by decide)]
 refine wpAny_bind (Tuple_ (thn (ha _ pins s σ H _ I h) fun us s1 ⟨vs,H1,I1,r1,q1⟩=>?_))
 obtain⟨v,w,e1,q1⟩:=q1
 subst e1
 obtain⟨u1,u2,rfl,rv,rw'⟩:∃ u1 u2,us = [u1,u2]/\RelV v u1/\RelV w u2:=by
  cases r1 with
  | cons p q=>
   cases q with
   | cons p' q'=>
    cases q'
    exact⟨_,_,rfl,p,p'⟩
 refine wpAny_newObj_type ?_ (by show 2<=sizeLine;decide)
 have I2:Inv X pins σ H1 { s1 with heap:=s1.heap.push { cls:=.type "tuple",data:=.seq [u1,u2].toArray } }:=I1.kept (t':=s1.toks) fun b o e=>Heap.get?_push_of_some _ e
 rw [hw]
 refine wpAny_bind (wpAny_pure ?_)
 show wpAny (model X.prog X.w) X.A (do rule "assign.swapped-stores";let items ← unpackItems (.ref s1.heap.objs.size) 2 none;assignInOrder [fun v=>bindName X.env y v,fun v=>bindName X.env x v] items.reverse;pure Flow.next) _ _ _
 refine wpAny_bind (wpAny_rule (wpAny_bind (unpackItems_tuple (items:=#[u1,u2]) (I.ok.hd hc) (IsTup.new s1.heap _) fun h' hx'=>?_)))
 have I3:=I2.kept (h':=h') (t':=s1.toks) fun b o e=>hx' b o (Nat.ne_of_lt (Heap.lt_size e)) e
 show wpAny _ _ (assignInOrder [fun v=>bindName X.env y v,fun v=>bindName X.env x v] [u2,u1] >>= fun _=>pure Flow.next) _ _ _
 refine wpAny_bind (assignInOrder_cons (wpAny_bindName (store_ok I3 hN hj (.inl hy) rw' (fun s2 I4=>?_) (.inr hy))))
 refine assignInOrder_cons (wpAny_bindName (store_ok I4 hN hi (.inl hx) rv (fun s3 I5=>assignInOrder_nil (wpAny_pure ?_)) (.inr hx)))
 rw [List.set_comm _ _ (Ne.symm hij)] at I5
 exact⟨_,H1,I5,q1⟩
end
section
variable  {X:Cx}{pos:Pos}
noncomputable def tWhile (c:TT) (tb:TS):TS:=fun D σ H=>∃ W:Nat->St->Hp->Prop,(∃ m,W m σ H)/\∀ m σ H,W m σ H →
 c σ H fun b H1=>if b=true then ∃ N:St->Hp->Prop,(∀ σ' H',N σ' H'->∃ m',m'<m/\W m' σ' H')/\tb { D with nx:=N,ct:=N,bk:=D.nx } σ H1 else D.nx σ H1
theorem ps_while {c:Expr}{body:List Stmt}{tc:TT}{tb:TS}(hp:PassesOwn (model X.prog X.w) X.A X.env X.xe)(hc:PT X c tc)(hb:PSs X body tb):PS X (.While c body [] pos) (tWhile tc tb):=by
 intro pins s σ H D I h
 obtain⟨W,⟨m0,w0⟩,turn⟩:=h
 refine wpAny_While (codeAny_whileLoop (fun n s'=>∃ σ' H',Inv X pins σ' H' s'/\W n σ' H') ?_ m0 ⟨σ,H,I,w0⟩)
 rintro n s1 ⟨σ1,H1,I1,w1⟩
 refine wpAny_passesOwn hp (thn (hc pins s1 σ1 H1 _ I1 (turn n σ1 H1 w1)) fun b s2 ⟨H2,I2,q2⟩=>?_)
 cases b with
 | true=>
  obtain⟨N,hN,q2⟩:=q2
  rw [if_pos rfl]
  refine wpAny_passesOwn hp (thn (hb pins s2 σ1 H2 _ I2 q2) fun f s3 q3=>?_)
  cases f with
  | next=>
   obtain⟨σ3,H3,I3,n3⟩:=q3
   obtain⟨m',hm,w3⟩:=hN σ3 H3 n3
   exact⟨m',hm,σ3,H3,I3,w3⟩
  | cont=>
   obtain⟨σ3,H3,I3,n3⟩:=q3
   obtain⟨m',hm,w3⟩:=hN σ3 H3 n3
   exact⟨m',hm,σ3,H3,I3,w3⟩
  | brk=>exact q3
  | ret v=>exact q3
 | false=>
  rw [if_neg Bool.false_ne_true]
  exact wpAny_execs_nil ⟨σ1,H2,I2,q2⟩
end
structure It where
 go:Nat->Hp->Prop
 yld:Nat->Hp->V->Hp->Prop
 stop:Nat->Hp->Prop
noncomputable def FpOk (X:Cx) (pins:List (Addr×Obj)) (H:Hp) (b:Addr):Prop:=
 H b=none/\b≠X.env.locals/\b ∉ X.fs/\(b∈X.ex ∨ X.s₀.heap.objs.size<=b)/\(∀ x c,X.env.cells.lookup x=some c->c≠b)/\∀ p∈X.pn++pins,p.1≠b
theorem Inv.fpOk {X:Cx}{pins:List (Addr×Obj)}{σ:St}{H H':Hp}{s:Shared}{b:Addr}(I:Inv X pins σ H s)(hb:s.heap.objs.size<=b)(hn:H' b=none):FpOk X pins H' b:=by
 refine⟨hn,Nat.ne_of_gt (Nat.lt_of_lt_of_le I.lt hb),I.nofs hb,.inr (Nat.le_trans I.sz hb),fun x c e z=>?_,fun p hp z=>?_⟩
 ·obtain⟨v,q⟩:=I.cell x c e
  exact absurd (Nat.lt_of_lt_of_le q.lt (by rw [z];exact hb)) (Nat.lt_irrefl _)
 ·exact absurd (Nat.lt_of_lt_of_le (Heap.lt_size (I.pin p hp).1) (by rw [z];exact hb)) (Nat.lt_irrefl _)
structure Turn (P:Program)(w:World)(K:PySem.W.Frag)(tg:Expr)(J:It)(fp:List Addr)(it:Addr)(tn:Nat->Heap->Prop):Prop where
 mem:it∈fp
 obj:∀ i h,tn i h->∀ b∈fp,∃ o,h.get? b=some o/\∀ v,o.data ≠ .cell v
 keep:∀ i h h',tn i h->(∀ b∈fp,∀ o,h.get? b=some o->h'.get? b=some o)->tn i h'
 item:∀ (X:Cx),X.prog=P->X.w=w->X.K=K->X.calm=true->∀ (i:Nat) (pins:List (Addr×Obj)) (s:Shared) (σ:St) (H:Hp) (E:Value->Shared->Prop),Inv X pins σ H s->(∀ b∈fp,FpOk X pins H b)->tn i s.heap->J.go i H →
  wpAny (model P w) X.A (pyNext (.ref it)) (fun r s1=>∃ u,r=some u ∧
   wpAny (model P w) X.A (letOwnedTupleGo tg (.ref it) u) (fun _ s2=>∃ x H',Inv X pins σ H' s2/\RelV x u/\J.yld i H x H'/\tn (i+1) s2.heap/\∀ b∈fp,H' b=none) E s1) E s
 done:∀ (X:Cx),X.prog=P->X.w=w->X.K=K->X.calm=true->∀ (i:Nat) (pins:List (Addr×Obj)) (s:Shared) (σ:St) (H:Hp) (E:Value->Shared->Prop),Inv X pins σ H s->(∀ b∈fp,FpOk X pins H b)->tn i s.heap->J.stop i H →
  wpAny (model P w) X.A (pyNext (.ref it)) (fun r s1=>r=none/\Inv X pins σ H s1) E s
 self:∀ (A:Around) (i:Nat) (s:Shared) (Q:Value->Shared->Prop) (E:Value->Shared->Prop),tn i s.heap->Q (.ref it) s->wpAny (model P w) A (pyIter (.ref it)) Q E s
noncomputable abbrev TI:=St->Hp->(It->Hp->Prop)->Prop
noncomputable def PIE (X:Cx) (pins:List (Addr×Obj)) (σ:St) (tg:Expr) (R:It->Hp->Prop) (itv:Value) (s2:Shared):Prop:=
 ∃ (it:Addr) (fp:List Addr) (tn:Nat->Heap->Prop) (J:It) (H':Hp),itv = .ref it/\Inv X pins σ H' s2/\Turn X.prog X.w X.K tg J fp it tn/\tn 0 s2.heap/\(∀ b∈fp,FpOk X pins H' b)/\R J H'
noncomputable def PI (X:Cx) (tg iter:Expr) (wi:TI):Prop:=
 ∀ (pins:List (Addr×Obj)) (s:Shared) (σ:St) (H:Hp) (R:It->Hp->Prop),Inv X pins σ H s->wi σ H R →
  wpAny (model X.prog X.w) X.A (eval iter X.env) (fun v s1=>wpAny (model X.prog X.w) X.A (pyIter v) (PIE X pins σ tg R) X.xe s1) X.xe s
theorem go_of {M:Model}{A:Around}{E:Value->Shared->Prop}{s:Shared}{tg:Expr}{it:Addr}{u:Value}{o:Obj}{n:String}{vs:Array Value}{Q:Unit->Shared->Prop}(ho:s.heap.get? it=some o)(hc:o.cls = .type n)(hd:o.data = .fields vs)
  (hn:["enumerate","zip","dict_itemiterator","dict_reverseitemiterator","odict_iterator","itertools.zip_longest","itertools.pairwise"].contains n=false) (hQ:Q () s):wpAny M A (letOwnedTupleGo tg (.ref it) u) Q E s:=by
 unfold letOwnedTupleGo
 cases tg<;>first
  | exact wpAny_pure hQ
  | (cases u<;>first
    | exact wpAny_pure hQ
    | (refine wpAny_bind (wpAny_load ho ?_)
       rw [hc,hd]
       show wpAny M A (if (["enumerate","zip","dict_itemiterator","dict_reverseitemiterator","odict_iterator","itertools.zip_longest","itertools.pairwise"].contains n && vs[0]? == some (rawInt _))=true then _ else _) Q E s
       rw [if_neg (by intro h;rw [hn,Bool.false_and] at h;cases h)]
       exact wpAny_pure hQ))
noncomputable def Itl (K:PySem.W.Frag) (a:Addr):It:=
 ⟨fun i H=>∃ xs x,SqL K H a xs/\xs[i]?=some x,fun i H x H'=>H'=H/\∀ xs,SqL K H a xs->xs[i]?=some x,fun i H=>∃ xs,SqL K H a xs/\xs.length<=i⟩
noncomputable def Itt (K:PySem.W.Frag) (a:Addr):It:=
 ⟨fun i H=>∃ xs x,SqT K H a xs/\xs[i]?=some x,fun i H x H'=>H'=H/\∀ xs,SqT K H a xs->xs[i]?=some x,fun i H=>∃ xs,SqT K H a xs/\xs.length<=i⟩
noncomputable def Itr (lo:Int) (n:Nat):It:=⟨fun i _=>i<n,fun i H x H'=>H'=H/\x = .int (lo+i),fun i _=>n<=i⟩
theorem turn_list {P:Program}{w:World}{K:PySem.W.Frag}{tg:Expr}(a it:Addr):Turn P w K tg (Itl K a) [it] it (fun i h=>h.IsListIter it a i) where
 mem:=by simp
 obj:=fun i h st b hb=>by
  have e:b=it:=by simpa using hb
  subst e
  obtain⟨o,e,c,d⟩:=st
  exact⟨o,e,fun v z=>by rw [d] at z;cases z⟩
 keep:=fun i h h' st k=>st.at fun o e=>k it (by simp) o e
 item:=by
  intro X hP hw hK hc i pins s σ H E I hf st hg
  subst hP hw hK
  obtain⟨xs,x,hq,hx⟩:=hg
  obtain⟨its,rv,p,hz⟩:=I.list hq
  obtain⟨u,hu,ru⟩:=rv.get hx
  obtain⟨f0,f1,f2,f3,f4,f5⟩:=hf it (by simp)
  refine wpAny_pyNext_list_item st p.isList (x:=u) (by simpa using hu) fun h' st' sb=>?_
  have I1:Inv X pins σ H { s with heap:=h' }:=I.turned (t':=s.toks) (fun b o hb e=>(sb.2 b hb).trans e) f0 f1 f3 f4 f5
  obtain⟨o,e,c,d⟩:=id st'
  exact⟨u,rfl,go_of (s:={ s with heap:=h' }) e c d (by decide) ⟨x,H,I1,ru,⟨rfl,fun ys hy=>by rw [I.list_inj hy hq];exact hx⟩,st',fun b hb=>(hf b hb).1⟩⟩
 done:=by
  intro X hP hw hK hc i pins s σ H E I hf st hg
  subst hP hw hK
  obtain⟨xs,hq,hx⟩:=hg
  obtain⟨its,rv,p,hz⟩:=I.list hq
  obtain⟨f0,f1,f2,f3,f4,f5⟩:=hf it (by simp)
  have hl:=rv.length
  exact wpAny_pyNext_list_end (I.ok.hd hc) st p.isList (by simp;omega) fun h' eb=>⟨rfl,I.turned (t':=s.toks) (fun b o hb e=>eb b o hb e) f0 f1 f3 f4 f5⟩
 self:=fun _ _ _ _ _ st h=>wpAny_pyIter_listiter st h
theorem turn_tuple {P:Program}{w:World}{K:PySem.W.Frag}{tg:Expr}(a it:Addr):Turn P w K tg (Itt K a) [it] it (fun i h=>h.IsTupleIter it a i) where
 mem:=by simp
 obj:=fun i h st b hb=>by
  have e:b=it:=by simpa using hb
  subst e
  obtain⟨o,e,c,d⟩:=st
  exact⟨o,e,fun v z=>by rw [d] at z;cases z⟩
 keep:=fun i h h' st k=>st.at fun o e=>k it (by simp) o e
 item:=by
  intro X hP hw hK hc i pins s σ H E I hf st hg
  subst hP hw hK
  obtain⟨xs,x,hq,hx⟩:=hg
  obtain⟨its,rv,p,hz⟩:=I.tuple hq
  obtain⟨u,hu,ru⟩:=rv.get hx
  obtain⟨f0,f1,f2,f3,f4,f5⟩:=hf it (by simp)
  refine wpAny_pyNext_tuple_item st (show s.heap.IsTuple a its.toArray from p) (x:=u) (by simpa using hu) fun h' st' sb=>?_
  have I1:Inv X pins σ H { s with heap:=h' }:=I.turned (t':=s.toks) (fun b o hb e=>(sb.2 b hb).trans e) f0 f1 f3 f4 f5
  obtain⟨o,e,c,d⟩:=id st'
  exact⟨u,rfl,go_of (s:={ s with heap:=h' }) e c d (by decide) ⟨x,H,I1,ru,⟨rfl,fun ys hy=>by rw [I.tuple_inj hy hq];exact hx⟩,st',fun b hb=>(hf b hb).1⟩⟩
 done:=by
  intro X hP hw hK hc i pins s σ H E I hf st hg
  subst hP hw hK
  obtain⟨xs,hq,hx⟩:=hg
  obtain⟨its,rv,p,hz⟩:=I.tuple hq
  obtain⟨f0,f1,f2,f3,f4,f5⟩:=hf it (by simp)
  have hl:=rv.length
  exact wpAny_pyNext_tuple_end (I.ok.hd hc) st (show s.heap.IsTuple a its.toArray from p) (by simp;omega) fun h' eb=>⟨rfl,I.turned (t':=s.toks) (fun b o hb e=>eb b o hb e) f0 f1 f3 f4 f5⟩
 self:=fun _ _ _ _ _ st h=>wpAny_pyIter_tupleiter st h
theorem turn_range {P:Program}{w:World}{K:PySem.W.Frag}{tg:Expr}(it:Addr)(lo:Int)(n:Nat):Turn P w K tg (Itr lo n) [it] it (fun i h=>IsRangeIter h it (lo+(i:Nat) * 1) ((n:Int) - (i:Nat)) 1) where
 mem:=by simp
 obj:=fun i h st b hb=>by
  have e:b=it:=by simpa using hb
  subst e
  exact⟨_,st,fun v z=>by
   have z':Data.fields _=Data.cell v:=z
   cases z'⟩
 keep:=fun i h h' st k=>k it (by simp) _ st
 item:=by
  intro X hP hw hK hc i pins s σ H E I hf st hg
  subst hP hw hK
  obtain⟨f0,f1,f2,f3,f4,f5⟩:=hf it (by simp)
  have W:=Walks.range (prog:=X.prog) (w:=X.w) (I.ok.hd hc) it lo 1 n
  refine W.item i s _ _ hg st fun v h' tk hv st' kk=>?_
  obtain⟨t,rfl⟩:=hv
  have I1:Inv X pins σ H { s with heap:=h',toks:=tk }:=I.turned (fun b o hb e=>kk b o (by simpa using hb) e) f0 f1 f3 f4 f5
  refine⟨_,rfl,go_of (s:={ s with heap:=h',toks:=tk }) (n:="range_iterator") st' rfl rfl (by decide) ⟨.int (lo+i),H,I1,⟨t,?_⟩,⟨rfl,rfl⟩,st',fun b hb=>(hf b hb).1⟩⟩
  rw [Int.mul_one]
 done:=by
  intro X hP hw hK hc i pins s σ H E I hf st hg
  subst hP hw hK
  obtain⟨f0,f1,f2,f3,f4,f5⟩:=hf it (by simp)
  exact wpAny_pyNext_range_end (I.ok.hd hc) st (by have:n<=i:=hg;omega) fun h' eb=>⟨rfl,I.turned (t':=s.toks) (fun b o hb e=>eb b o hb e) f0 f1 f3 f4 f5⟩
 self:=fun _ _ _ _ _ st h=>wpAny_pyIter_rangeiter st h
end L2
namespace L2
open PySem PySem.Spec PyProof.Rows
section
variable  {X:Cx}{tg:Expr}
noncomputable def iList (K:PySem.W.Frag) (tl:TE):TI:=fun σ H R=>tl σ H fun x H1=>∃ a,x = .ref a/\(∃ xs,SqL K H1 a xs)/\R (Itl K a) H1
noncomputable def iTup (K:PySem.W.Frag) (tl:TE):TI:=fun σ H R=>tl σ H fun x H1=>∃ a,x = .ref a/\(∃ xs,SqT K H1 a xs)/\R (Itt K a) H1
theorem pi_list {l:Expr}{tl:TE}(hl:PE X l tl):PI X tg l (iList X.K tl):=by
 intro pins s σ H R I h
 refine thn (hl pins s σ H _ I h) fun v s1 ⟨x,H1,I1,r1,q1⟩=>?_
 obtain⟨a,e,⟨xs,hq⟩,q⟩:=q1
 subst e
 cases r1
 obtain⟨its,rv,p,hz⟩:=I1.list hq
 refine wpAny_pyIter_list p.isList ?_
 refine⟨s1.heap.objs.size,[s1.heap.objs.size],_,_,H1,rfl,I1.kept (t':=s1.toks) fun b o e=>Heap.get?_push_of_some _ e,turn_list a _,⟨_,Heap.get?_push_size _ rfl,rfl,rfl⟩,fun b hb=>?_,q⟩
 have e:b=s1.heap.objs.size:=by simpa using hb
 subst e
 exact I1.fpOk (Nat.le_refl _) (I1.hok.fresh (Nat.le_refl _))
theorem pi_tup {l:Expr}{tl:TE}(hl:PE X l tl):PI X tg l (iTup X.K tl):=by
 intro pins s σ H R I h
 refine thn (hl pins s σ H _ I h) fun v s1 ⟨x,H1,I1,r1,q1⟩=>?_
 obtain⟨a,e,⟨xs,hq⟩,q⟩:=q1
 subst e
 cases r1
 obtain⟨its,rv,p,hz⟩:=I1.tuple hq
 refine wpAny_pyIter_tuple (show s1.heap.IsTuple a its.toArray from p) ?_
 refine⟨s1.heap.objs.size,[s1.heap.objs.size],_,_,H1,rfl,I1.kept (t':=s1.toks) fun b o e=>Heap.get?_push_of_some _ e,turn_tuple a _,⟨_,Heap.get?_push_size _ rfl,rfl,rfl⟩,fun b hb=>?_,q⟩
 have e:b=s1.heap.objs.size:=by simpa using hb
 subst e
 exact I1.fpOk (Nat.le_refl _) (I1.hok.fresh (Nat.le_refl _))
theorem range_it {pins:List (Addr×Obj)}{σ:St}{H:Hp}{s:Shared}{R:It->Hp->Prop}{E:Value->Shared->Prop}{lo hi:Int}{t u v:Tok}{tk:Nat}(I:Inv X pins σ H s)(h1 : -(2 ^ 62)<=lo)(h2:lo<2 ^ 62)(h3 : -(2 ^ 62)<=hi)(h4:hi<2 ^ 62)
  (q:R (Itr lo (hi - lo).toNat) H):wpAny (model X.prog X.w) X.A (pyIter (.ref s.heap.objs.size)) (PIE X pins σ tg R) E { s with heap:=s.heap.push { cls:=.type "range",data:=.fields #[.int lo t,.int hi u,.int 1 v] },toks:=tk }:=by
 refine wpAny_pyIter_range (IsRange.new ..) (small_one h1 h2 h3 h4) ?_
 have I1:Inv X pins σ H { s with heap:=s.heap.push { cls:=.type "range",data:=.fields #[.int lo t,.int hi u,.int 1 v] },toks:=tk }:=I.kept fun b o e=>Heap.get?_push_of_some _ e
 refine⟨(s.heap.push { cls:=.type "range",data:=.fields #[.int lo t,.int hi u,.int 1 v] }).objs.size,[(s.heap.push { cls:=.type "range",data:=.fields #[.int lo t,.int hi u,.int 1 v] }).objs.size],_,_,H,rfl,
  I1.kept (t':=tk) fun b o e=>Heap.get?_push_of_some _ e,turn_range _ lo (hi - lo).toNat,?_,fun b hb=>?_,q⟩
 ·have e1:lo+((0:Nat):Int) * 1=lo:=by simp
  have e2:(((hi - lo).toNat:Nat):Int) - ((0:Nat):Int)=Builtin.Range.rangeSize lo hi 1:=by rw [rangeSize_one];split<;>omega
  show IsRangeIter _ _ (lo+((0:Nat):Int) * 1) ((((hi - lo).toNat:Nat):Int) - ((0:Nat):Int)) 1
  rw [e1,e2]
  exact Heap.get?_push_size _ rfl
 ·have e:b=(s.heap.push { cls:=.type "range",data:=.fields #[.int lo t,.int hi u,.int 1 v] }).objs.size:=by simpa using hb
  subst e
  exact I1.fpOk (Nat.le_refl _) (I1.hok.fresh (Nat.le_refl _))
noncomputable def iRng1 (ta:TA):TI:=fun σ H R=>ta σ H fun vs H1=>∃ j:Int,vs = [.int j]/\-(2 ^ 62)<=j/\j<2 ^ 62/\R (Itr 0 j.toNat) H1
noncomputable def iRng2 (ta:TA):TI:=fun σ H R=>ta σ H fun vs H1=>∃ i j:Int,vs = [.int i,.int j]/\(-(2 ^ 62)<=i/\i<2 ^ 62/\-(2 ^ 62)<=j/\j<2 ^ 62)/\R (Itr i (j - i).toNat) H1
theorem pi_range1 {a:Expr}{ta:TA}{p pos:Pos}(hg:Gl X "range")(hm:X.mg "range" = none)(ha:PA X [a] ta)(hs:starEach [a] X.env = [(false,eval a X.env)]:=by rfl):PI X tg (.Call (.Name "range" p) [a] [] pos) (iRng1 ta):=by
 intro pins s σ H R I h
 refine Call_ (ld_blt I hg hm boot_range (PyProof.Rows.callWith_type1 (thn (ha pos pins s σ H _ I h) fun us s1 ⟨vs,H1,I1,r1,q1⟩=>?_) hs rfl))
 obtain⟨j,e,q1,q2,q⟩:=q1
 subst e
 cases r1 with
 | cons r rr=>
  cases rr
  obtain⟨t,rfl⟩:=r
  exact call_range_1 (range_it I1 (by omega) (by omega) q1 q2 (by simpa using q))
theorem pi_range2 {a b:Expr}{ta:TA}{p pos:Pos}(hg:Gl X "range")(hm:X.mg "range" = none)(ha:PA X [a,b] ta)(hs:starEach [a,b] X.env = [(false,eval a X.env),(false,eval b X.env)]:=by rfl)(hs2:starEach [b] X.env = [(false,eval b X.env)]:=by rfl) :
  PI X tg (.Call (.Name "range" p) [a,b] [] pos) (iRng2 ta):=by
 intro pins s σ H R I h
 refine Call_ (ld_blt I hg hm boot_range (PyProof.Rows.callWith_type1 (thn (ha pos pins s σ H _ I h) fun us s1 ⟨vs,H1,I1,r1,q1⟩=>?_) (by rw [hs,hs2]) (by rw [hs2];rfl)))
 obtain⟨i,j,e,⟨q1,q2,q3,q4⟩,q⟩:=q1
 subst e
 cases r1 with
 | cons r rr=>
  cases rr with
  | cons r' rr=>
   cases rr
   obtain⟨t,rfl⟩:=r
   obtain⟨t',rfl⟩:=r'
   exact call_range_2 (range_it I1 q1 q2 q3 q4 q)
noncomputable def tFor (wi:TI) (g:TG) (tb:TS):TS:=fun D σ H=>wi σ H fun J H1=>∃ W:Nat->Nat->St->Hp->Prop,(∃ m,W 0 m σ H1)/\∀ i m σ H,W i m σ H →
 (J.stop i H/\D.nx σ H) ∨ (J.go i H/\∃ N:St->Hp->Prop,(∀ σ' H',N σ' H'->∃ m',m'<m/\W (i+1) m' σ' H')/\∀ x H',J.yld i H x H'->g x σ H' fun σ2 H2=>tb { D with nx:=N,ct:=N,bk:=D.nx } σ2 H2)
noncomputable def zsb (fp:List Addr) (h:Heap):List (Addr×Obj):=fp.filterMap fun b=>(h.get? b).map fun o=>(b,o)
theorem zob {fp:List Addr}{h:Heap}{b:Addr}{o:Obj}(hb:b∈fp)(e:h.get? b=some o):(b,o)∈zsb fp h:=List.mem_filterMap.mpr ⟨b,hb,by rw [e];rfl⟩
theorem of_pinsAt {fp:List Addr}{h:Heap}{p:Addr×Obj}(hp:p∈zsb fp h):p.1∈fp/\h.get? p.1=some p.2:=by
 obtain⟨b,hb,e⟩:=List.mem_filterMap.mp hp
 cases q:h.get? b with
 | none=>rw [q] at e;cases e
 | some o=>
  rw [q] at e
  have e':(b,o)=p:=Option.some.inj e
  subst e'
  exact⟨hb,q⟩
theorem Inv.pinned {pins:List (Addr×Obj)}{σ:St}{H:Hp}{s:Shared}{fp:List Addr}(I:Inv X pins σ H s)(hf:∀ b∈fp,FpOk X pins H b)(ho:∀ b∈fp,∃ o,s.heap.get? b=some o/\∀ v,o.data ≠ .cell v):Inv X (pins++zsb fp s.heap) σ H s:=
 I.pins_of fun p hp=>(List.mem_append.mp hp).elim (fun z=>I.pin p (List.mem_append_right _ z)) fun z=>by
  obtain⟨hb,e⟩:=of_pinsAt z
  obtain⟨f0,f1,f2,_⟩:=hf p.1 hb
  obtain⟨o,e',d⟩:=ho p.1 hb
  rw [e] at e';cases e'
  exact⟨e,f0,f1,f2,d⟩
theorem Inv.unpinned {pins pl:List (Addr×Obj)}{σ:St}{H:Hp}{s:Shared}(I:Inv X (pins++pl) σ H s):Inv X pins σ H s:=I.pins_of fun p hp=>I.pin p (List.mem_append_right _ (List.mem_append_left _ hp))
theorem ps_for {iter:Expr}{body:List Stmt}{wi:TI}{g:TG}{tb:TS}{pos:Pos}(hp:PassesOwn (model X.prog X.w) X.A X.env X.xe)(hc:X.calm=true)(hi:PI X tg iter wi)(hg:PG X tg g)(hb:PSs X body tb)
  (hs:∀ x,foldedSetIterable iter X.env x=pure x:=by intro _;rfl):PS X (.For tg iter body [] pos) (tFor wi g tb):=by
 intro pins s σ H D I h
 refine wpAny_For (thn (hi pins s σ H _ I h) fun v s1 h1=>thn h1 fun itv s2 h2=>?_) hs
 obtain⟨it,fp,tn,J,H2,e,I2,T,st2,f2,W,⟨m0,w0⟩,turn⟩:=h2
 subst e
 have stat:∀ {H':Hp},(∀ b∈fp,H' b=none)->∀ b∈fp,FpOk X pins H' b:=fun hn b hb=>⟨hn b hb,(f2 b hb).2⟩
 refine codeAny_forLoop_any (fun n s'=>∃ i σ' H',Inv X pins σ' H' s'/\tn i s'.heap/\(∀ b∈fp,H' b=none)/\W i n σ' H') ?_ m0 ⟨0,σ,H2,I2,st2,fun b hb=>(f2 b hb).1,w0⟩
 rintro n s3 ⟨i,σ3,H3,I3,st3,fr3,w3⟩
 rcases turn i n σ3 H3 w3 with⟨stop,qn⟩ | ⟨go,N,hN,step⟩
 ·refine wpAny_passesOwn hp (thn (T.done X rfl rfl rfl hc i pins s3 σ3 H3 X.xe I3 (stat fr3) st3 stop) fun r s4 ⟨hr,I4⟩=>?_)
  subst hr
  exact wpAny_execs_nil ⟨σ3,H3,I4,qn⟩
 ·refine wpAny_passesOwn hp (thn (T.item X rfl rfl rfl hc i pins s3 σ3 H3 X.xe I3 (stat fr3) st3 go) fun r s4 ⟨u,hr,h4⟩=>?_)
  subst hr
  refine wpAny_passesOwn hp (thn h4 fun _ s5 ⟨x,H5,I5,r5,y5,st5,fr5⟩=>?_)
  have I5':=I5.pinned (stat fr5) (T.obj _ _ st5)
  refine wpAny_passesOwn hp (thn (hg _ s5 σ3 H5 x u _ I5' r5 (step x H5 y5)) fun _ s6 ⟨σ6,H6,I6,q6⟩=>?_)
  refine wpAny_passesOwn hp (thn (hb _ s6 σ6 H6 _ I6 q6) fun f s7 q7=>?_)
  have again:∀ {σ7:St} {H7:Hp},Inv X (pins++zsb fp s5.heap) σ7 H7 s7->N σ7 H7->∃ m,m<n/\∃ i σ' H',Inv X pins σ' H' s7/\tn i s7.heap/\(∀ b∈fp,H' b=none)/\W i m σ' H':=fun {σ7 H7} I7 n7=>by
   obtain⟨m',hm,w7⟩:=hN σ7 H7 n7
   refine⟨m',hm,i+1,σ7,H7,I7.unpinned,T.keep _ _ _ st5 fun b hb o e=>(I7.pin (b,o) (List.mem_append_right _ (List.mem_append_right _ (zob hb e)))).1,fun b hb=>?_,w7⟩
   obtain⟨o,e,d⟩:=T.obj _ _ st5 b hb
   exact (I7.pin (b,o) (List.mem_append_right _ (List.mem_append_right _ (zob hb e)))).2.1
  cases f with
  | next=>obtain⟨σ7,H7,I7,n7⟩:=q7;exact again I7 n7
  | cont=>obtain⟨σ7,H7,I7,n7⟩:=q7;exact again I7 n7
  | brk=>obtain⟨σ7,H7,I7,q7⟩:=q7;exact⟨σ7,H7,I7.unpinned,q7⟩
  | ret v=>obtain⟨x7,σ7,H7,I7,r7,q7⟩:=q7;exact⟨x7,σ7,H7,I7.unpinned,r7,q7⟩
end
end L2
namespace L2
open PySem PySem.Spec PyProof.Rows
noncomputable abbrev R2:=V->V->Hp->VK->Prop
noncomputable def OpR (X:Cx) (f:Value->Value->Sem Value) (r:R2):Prop:=
 ∀ (pins:List (Addr×Obj)) (s:Shared) (σ:St) (H:Hp) (x y:V) (v u:Value) (Q:VK),Inv X pins σ H s->RelV x v->RelV y u->r x y H Q →
  wpAny (model X.prog X.w) X.A (f v u) (EP X pins σ Q) X.xe s
noncomputable def CallR (X:Cx) (f:Value) (r:List V->Hp->VK->Prop):Prop:=
 ∀ (pins:List (Addr×Obj)) (s:Shared) (σ:St) (H:Hp) (xs:List V) (us:List Value) (Q:VK),Inv X pins σ H s->Vals xs us->r xs H Q →
  wpAny (model X.prog X.w) X.A (call f us) (EP X pins σ Q) X.xe s
noncomputable def tOp (r:R2) (ta tb:TE):TE:=fun σ H Q=>ta σ H fun x H1=>tb σ H1 fun y H2=>r x y H2 Q
noncomputable def tUn (r:V->Hp->VK->Prop) (ta:TE):TE:=fun σ H Q=>ta σ H fun x H1=>r x H1 Q
noncomputable def rI (C:Int->Int->Prop) (g:Int->Int->V):R2:=fun x y H Q=>∃ i j,x = .int i/\y = .int j/\C i j/\Q (g i j) H
noncomputable def rI0 (g:Int->Int->V):R2:=fun x y H Q=>∃ i j,x = .int i/\y = .int j/\Q (g i j) H
section
variable  {X:Cx}{a b c:Expr}{ta tb tc:TE}{pos:Pos}
theorem binT (ha:PE X a ta)(hb:PE X b tb){pins:List (Addr×Obj)}{s:Shared}{σ:St}{H:Hp}{R:V->V->Hp->Prop}(I:Inv X pins σ H s)
  (h:ta σ H fun x H1=>tb σ H1 fun y H2=>R x y H2) {Q:Value->Shared->Prop} {f:Value->Value->Sem Value}
  (hf:∀ v u s2 x y H2,Inv X pins σ H2 s2->RelV x v->RelV y u->R x y H2->wpAny (model X.prog X.w) X.A (f v u) Q X.xe s2) :
  wpAny (model X.prog X.w) X.A (eval a X.env) (fun v s₁=>wpAny (model X.prog X.w) X.A (eval b X.env) (fun u s₂=>wpAny (model X.prog X.w) X.A (f v u) Q X.xe s₂) X.xe s₁) X.xe s:=by
 refine thn (ha pins s σ H _ I h) fun v s1 ⟨x,H1,I1,r1,q1⟩=>?_
 refine thn (hb pins s1 σ H1 _ I1 q1) fun u s2 ⟨y,H2,I2,r2,q2⟩=>?_
 exact hf v u s2 x y H2 I2 r1 r2 q2
theorem pe_op {op:Operator}{r:R2}(ho:OpR X (binaryOp op) r)(ha:PE X a ta)(hb:PE X b tb):PE X (.BinOp a op b pos) (tOp r ta tb):=by
 intro pins s σ H Q I h
 exact wpAny_BinOp (binT ha hb I h fun v u s2 x y H2 I2 rx ry q=>ho pins s2 σ H2 x y v u Q I2 rx ry q)
theorem opI {f:Value->Value->Sem Value}{C:Int->Int->Prop}{g:Int->Int->Int}
  (rule:∀ (i j:Int) (t u:Tok) (s:Shared) (Q:Value->Shared->Prop) (E:Value->Shared->Prop),C i j->Q (.int (g i j) s.toks) { s with toks:=s.toks+1 }->wpAny (model X.prog X.w) X.A (f (.int i t) (.int j u)) Q E s) :
  OpR X f (rI C fun i j=>.int (g i j)):=by
 intro pins s σ H x y v u Q I rx ry h
 obtain⟨i,j,rfl,rfl,hc,q⟩:=h
 obtain⟨t,rfl⟩:=rx
 obtain⟨t',rfl⟩:=ry
 exact rule i j t t' s _ _ hc ⟨.int (g i j),H,I.tok _,⟨_,rfl⟩,q⟩
theorem opI0 {f:Value->Value->Sem Value}{g:Int->Int->Int}
  (rule:∀ (i j:Int) (t u:Tok) (s:Shared) (Q:Value->Shared->Prop) (E:Value->Shared->Prop),Q (.int (g i j) s.toks) { s with toks:=s.toks+1 }->wpAny (model X.prog X.w) X.A (f (.int i t) (.int j u)) Q E s) :
  OpR X f (rI0 fun i j=>.int (g i j)):=by
 intro pins s σ H x y v u Q I rx ry h
 obtain⟨i,j,rfl,rfl,q⟩:=h
 obtain⟨t,rfl⟩:=rx
 obtain⟨t',rfl⟩:=ry
 exact rule i j t t' s _ _ ⟨.int (g i j),H,I.tok _,⟨_,rfl⟩,q⟩
theorem opB0 {f:Value->Value->Sem Value}{g:Int->Int->Bool}
  (rule:∀ (i j:Int) (t u:Tok) (s:Shared) (Q:Value->Shared->Prop) (E:Value->Shared->Prop),Q (.bool (g i j)) s->wpAny (model X.prog X.w) X.A (f (.int i t) (.int j u)) Q E s) :
  OpR X f (rI0 fun i j=>.bl (g i j)):=by
 intro pins s σ H x y v u Q I rx ry h
 obtain⟨i,j,rfl,rfl,q⟩:=h
 obtain⟨t,rfl⟩:=rx
 obtain⟨t',rfl⟩:=ry
 exact rule i j t t' s _ _ ⟨.bl (g i j),H,I,rfl,q⟩
noncomputable def CPow (i j:Int):Prop:=0<=j/\j<=1000000/\i.natAbs<2 ^ 64
noncomputable def CMul (i j:Int):Prop:=(-(2 ^ 64)<i/\i<2 ^ 64) ∨ (-(2 ^ 64)<j/\j<2 ^ 64)
theorem CMul.ok {i j:Int}(h:CMul i j):IntMulOk i j:=by
 rcases h with⟨h1,h2⟩ | ⟨h1,h2⟩
 ·exact .of_left (intBits_le_64 h1 h2)
 ·exact .of_right (intBits_le_64 h1 h2)
theorem op_add:OpR X (binaryOp .Add) (rI0 fun i j=>.int (i+j)):=opI0 fun _ _ _ _ _ _ _ q=>add_int q
theorem op_sub:OpR X (binaryOp .Sub) (rI0 fun i j=>.int (i - j)):=opI0 fun _ _ _ _ _ _ _ q=>sub_int q
theorem op_mul:OpR X (binaryOp .Mult) (rI CMul fun i j=>.int (i * j)):=opI fun _ _ _ _ _ _ _ hc q=>mul_int q hc.ok
theorem op_mod:OpR X (binaryOp .Mod) (rI (fun _ j=>0<j) fun i j=>.int (i % j)):=opI fun i j _ _ _ _ _ hc q=>by
 have h1:(0:Int)<j:=hc
 exact mod_int' (by omega) (by rw [Int.fmod_eq_emod_of_nonneg i (by omega)];exact q)
theorem op_pow:OpR X (binaryOp .Pow) (rI CPow fun i j=>.int (i ^ j.toNat)):=opI fun _ _ _ _ _ _ _ hc q=>pow_int_small hc.1 hc.2.1 hc.2.2 q
end
noncomputable def scal:V->V->Bool
 | .non,.non=>true | .non,.int _=>true | .int _,.non=>true | .non,.bl _=>true | .bl _,.non=>true | .non,.str _=>true | .str _,.non=>true
 | .int _,.int _=>true | .bl _,.bl _=>true | .str _,.str _=>true | .byt _,.byt _=>true
 | .int _,.str _=>true | .str _,.int _=>true | .bl _,.str _=>true | .str _,.bl _=>true
 | _,_=>false
noncomputable def rEq:R2:=fun x y H Q=>scal x y=true/\Q (.bl (decide (x=y))) H
noncomputable def rNe:R2:=fun x y H Q=>scal x y=true/\Q (.bl (!decide (x=y))) H
theorem dec_int {i j:Int}:decide (V.int i=V.int j)=(i == j):=by
 rw [Bool.eq_iff_iff]
 simp
theorem dec_bl {i j:Bool}:decide (V.bl i=V.bl j)=(i == j):=by
 rw [Bool.eq_iff_iff]
 simp
theorem dec_str {i j:Str}:decide (V.str i=V.str j)=(i == j):=by
 rw [Bool.eq_iff_iff]
 simp
theorem dec_byt {i j:Array UInt8}:decide (V.byt i=V.byt j)=(i.toList == j.toList):=by
 rw [Bool.eq_iff_iff]
 cases i
 cases j
 simp
section
variable  {X:Cx}{a b c:Expr}{ta tb tc:TE}{pos:Pos}
theorem zka {pins:List (Addr×Obj)}{σ:St}{H:Hp}{s:Shared}{Q:VK}{k k':Bool}(I:Inv X pins σ H s)(q:Q (.bl k) H)(e:k=k'):EP X pins σ Q (.bool k') s:=by
 subst e
 exact⟨.bl k,H,I,rfl,q⟩
theorem op_eq:OpR X (compareOp .Eq) rEq:=by
 intro pins s σ H x y v u Q I rx ry h
 obtain⟨hs,q⟩:=h
 cases x with
 | non=>
  cases rx
  cases y with
  | non=>cases ry;exact PySem.EqNone.eq_none_none (zka I q (by simp))
  | bl j=>cases ry;exact PySem.EqNone.eq_none_bool (zka I q (by simp))
  | int j=>obtain⟨t',rfl⟩:=ry;exact PySem.EqNone.eq_none_int (zka I q (by simp))
  | str j=>obtain⟨t',rfl⟩:=ry;exact PySem.EqNone.eq_none_str (zka I q (by simp))
  | _=>exact absurd (show false=true from hs) Bool.false_ne_true
 | bl i=>
  cases rx
  cases y with
  | non=>cases ry;exact PySem.EqNone.eq_bool_none (zka I q (by simp))
  | bl j=>cases ry;exact eq_bool (zka I q dec_bl)
  | str j=>obtain⟨t',rfl⟩:=ry;exact PySem.EqMixed.eq_bool_str (zka I q (by simp))
  | _=>exact absurd (show false=true from hs) Bool.false_ne_true
 | int i=>
  obtain⟨t,rfl⟩:=rx
  cases y with
  | non=>cases ry;exact PySem.EqNone.eq_int_none (zka I q (by simp))
  | int j=>obtain⟨t',rfl⟩:=ry;exact eq_int (zka I q dec_int)
  | str j=>obtain⟨t',rfl⟩:=ry;exact PySem.EqMixed.eq_int_str (zka I q (by simp))
  | _=>exact absurd (show false=true from hs) Bool.false_ne_true
 | str i=>
  obtain⟨t,rfl⟩:=rx
  cases y with
  | non=>cases ry;exact PySem.EqNone.eq_str_none (zka I q (by simp))
  | bl j=>cases ry;exact PySem.EqMixed.eq_str_bool (zka I q (by simp))
  | int j=>obtain⟨t',rfl⟩:=ry;exact PySem.EqMixed.eq_str_int (zka I q (by simp))
  | str j=>obtain⟨t',rfl⟩:=ry;exact eq_str (zka I q dec_str)
  | _=>exact absurd (show false=true from hs) Bool.false_ne_true
 | byt i=>
  obtain⟨t,rfl⟩:=rx
  cases y with
  | byt j=>obtain⟨t',rfl⟩:=ry;exact PySem.W.eq_bytes (zka I q dec_byt)
  | _=>exact absurd (show false=true from hs) Bool.false_ne_true
 | _=>cases y<;>exact absurd (show false=true from hs) Bool.false_ne_true
theorem op_ne:OpR X (compareOp .NotEq) rNe:=by
 intro pins s σ H x y v u Q I rx ry h
 obtain⟨hs,q⟩:=h
 cases x with
 | non=>
  cases rx
  cases y with
  | non=>cases ry;exact PySem.EqNone.ne_none_none (zka I q (by simp))
  | bl j=>cases ry;exact PySem.EqNone.ne_none_bool (zka I q (by simp))
  | int j=>obtain⟨t',rfl⟩:=ry;exact PySem.EqNone.ne_none_int (zka I q (by simp))
  | str j=>obtain⟨t',rfl⟩:=ry;exact PySem.EqNone.ne_none_str (zka I q (by simp))
  | _=>exact absurd (show false=true from hs) Bool.false_ne_true
 | bl i=>
  cases rx
  cases y with
  | non=>cases ry;exact PySem.EqNone.ne_bool_none (zka I q (by simp))
  | bl j=>cases ry;exact ne_bool (zka I q (congrArg not dec_bl))
  | str j=>obtain⟨t',rfl⟩:=ry;exact PySem.EqMixed.ne_bool_str (zka I q (by simp))
  | _=>exact absurd (show false=true from hs) Bool.false_ne_true
 | int i=>
  obtain⟨t,rfl⟩:=rx
  cases y with
  | non=>cases ry;exact PySem.EqNone.ne_int_none (zka I q (by simp))
  | int j=>obtain⟨t',rfl⟩:=ry;exact ne_int (zka I q (congrArg not dec_int))
  | str j=>obtain⟨t',rfl⟩:=ry;exact PySem.EqMixed.ne_int_str (zka I q (by simp))
  | _=>exact absurd (show false=true from hs) Bool.false_ne_true
 | str i=>
  obtain⟨t,rfl⟩:=rx
  cases y with
  | non=>cases ry;exact PySem.EqNone.ne_str_none (zka I q (by simp))
  | bl j=>cases ry;exact PySem.EqMixed.ne_str_bool (zka I q (by simp))
  | int j=>obtain⟨t',rfl⟩:=ry;exact PySem.EqMixed.ne_str_int (zka I q (by simp))
  | str j=>obtain⟨t',rfl⟩:=ry;exact ne_str (zka I q (congrArg not dec_str))
  | _=>exact absurd (show false=true from hs) Bool.false_ne_true
 | byt i=>
  obtain⟨t,rfl⟩:=rx
  cases y with
  | byt j=>obtain⟨t',rfl⟩:=ry;exact PySem.W.ne_bytes (zka I q (congrArg not dec_byt))
  | _=>exact absurd (show false=true from hs) Bool.false_ne_true
 | _=>cases y<;>exact absurd (show false=true from hs) Bool.false_ne_true
theorem op_lt:OpR X (compareOp .Lt) (rI0 fun i j=>.bl (decide (i<j))):=opB0 fun _ _ _ _ _ _ _ q=>lt_int q
theorem op_gt:OpR X (compareOp .Gt) (rI0 fun i j=>.bl (decide (j<i))):=opB0 fun _ _ _ _ _ _ _ q=>gt_int q
theorem op_ge:OpR X (compareOp .GtE) (rI0 fun i j=>.bl (decide (j<=i))):=opB0 fun _ _ _ _ _ _ _ q=>ge_int q
theorem op_in_str:OpR X (compareOp .In) (fun x y H Q=>∃ i j,x = .str i/\y = .str j/\Q (.bl (!(Builtin.Str.occurrences j i 0 j.length 1).isEmpty)) H):=by
 intro pins s σ H x y v u Q I rx ry h
 obtain⟨i,j,rfl,rfl,q⟩:=h
 obtain⟨t,rfl⟩:=rx
 obtain⟨t',rfl⟩:=ry
 exact in_str (zka I q rfl)
theorem OpR.or {f:Value->Value->Sem Value}{r r':R2}(h:OpR X f r)(h':OpR X f r'):OpR X f (fun x y H Q=>r x y H Q ∨ r' x y H Q):=by
 intro pins s σ H x y v u Q I rx ry q
 rcases q with q | q
 ·exact h pins s σ H x y v u Q I rx ry q
 ·exact h' pins s σ H x y v u Q I rx ry q
theorem nomark (b:Expr){op:CmpOp}(h:op ≠ .In:=by decide)(h2:op ≠ .NotIn:=by decide):behindInMarks op b=false:=by
 have e1:(op == CmpOp.In)=false:=by cases op<;>first | rfl | exact absurd rfl h
 have e2:(op == CmpOp.NotIn)=false:=by cases op<;>first | rfl | exact absurd rfl h2
 cases b<;>simp [behindInMarks,e1,e2]
theorem pe_cmpR {op:CmpOp}{r:R2}(ho:OpR X (compareOp op) r)(ha:PE X a ta)(hb:PE X b tb)(hm:behindInMarks op b=false):PE X (.Compare a [op] [b] pos) (tOp r ta tb):=by
 intro pins s σ H Q I h
 exact wpAny_Compare1 (binT ha hb I h fun v u s2 x y H2 I2 rx ry q=>ho pins s2 σ H2 x y v u Q I2 rx ry q) hm
noncomputable def tTest (t:TE):TT:=fun σ H Q=>t σ H fun x H'=>∃ k,x = .bl k/\Q k H'
theorem pt_cmpR {op:CmpOp}{r:R2}(ho:OpR X (compareOp op) r)(ha:PE X a ta)(hb:PE X b tb)(hm:behindInMarks op b=false):PT X (.Compare a [op] [b] pos) (tTest (tOp r ta tb)):=by
 intro pins s σ H Q I h
 refine wpAny_isTrue_Compare1 (thn (ha pins s σ H _ I h) fun v s1 ⟨x,H1,I1,r1,q1⟩=>thn (hb pins s1 σ H1 _ I1 q1) fun u s2 ⟨y,H2,I2,r2,q2⟩=>
  thn (ho pins s2 σ H2 x y v u _ I2 r1 r2 q2) fun c s3 ⟨z,H3,I3,r3,k,e,q3⟩=>?_) hm
 subst e
 cases r3
 exact wpAny_truthy_bool ⟨H3,I3,q3⟩
theorem line63:(sizeLine:Nat)<2 ^ 63:=by rw [sizeLine_eq];decide
theorem op_add_str:OpR X (binaryOp .Add) (fun x y H Q=>∃ i j,x = .str i/\y = .str j/\i.length+j.length<=sizeLine/\Q (.str (i++j)) H):=by
 intro pins s σ H x y v u Q I rx ry h
 obtain⟨i,j,rfl,rfl,hz,q⟩:=h
 obtain⟨t,rfl⟩:=rx
 obtain⟨t',rfl⟩:=ry
 exact add_str (fun t' tk=>⟨.str (i++j),H,I.tok _,⟨_,rfl⟩,q⟩) hz
theorem vals1 {x:V}{us:List Value}(r:Vals [x] us):∃ u,us = [u]/\RelV x u:=by
 cases r with
 | cons r1 r2=>cases r2;exact⟨_,rfl,r1⟩
theorem vals2 {x y:V}{us:List Value}(r:Vals [x,y] us):∃ u w',us = [u,w']/\RelV x u/\RelV y w':=by
 cases r with
 | cons r1 r2=>
  cases r2 with
  | cons r3 r4=>cases r4;exact⟨_,_,rfl,r1,r3⟩
theorem call_max2 (hc:X.calm=true):CallR X (.builtin "max") (fun xs H Q=>∃ i j,xs = [.int i,.int j]/\Q (.int (if j > i then j else i)) H):=by
 intro pins s σ H xs us Q I r h
 obtain⟨i,j,rfl,q⟩:=h
 obtain⟨u,w',rfl,⟨t,rfl⟩,⟨t',rfl⟩⟩:=vals2 r
 refine max_two_ints (I.ok.hd hc) fun h' tk k=>⟨_,H,I.kept k,?_,q⟩
 by_cases hj:j > i
 ·rw [if_pos hj,if_pos hj];exact⟨_,rfl⟩
 ·rw [if_neg hj,if_neg hj];exact⟨_,rfl⟩
theorem call_min2 (hc:X.calm=true):CallR X (.builtin "min") (fun xs H Q=>∃ i j,xs = [.int i,.int j]/\Q (.int (if j<i then j else i)) H):=by
 intro pins s σ H xs us Q I r h
 obtain⟨i,j,rfl,q⟩:=h
 obtain⟨u,w',rfl,⟨t,rfl⟩,⟨t',rfl⟩⟩:=vals2 r
 refine min_two_ints (I.ok.hd hc) fun h' tk k=>⟨_,H,I.kept k,?_,q⟩
 by_cases hj:j<i
 ·rw [if_pos hj,if_pos hj];exact⟨_,rfl⟩
 ·rw [if_neg hj,if_neg hj];exact⟨_,rfl⟩
theorem call_int1:CallR X (.type "int") (fun xs H Q=>(∃ i,xs = [.int i]/\Q (.int i) H) ∨ ∃ k,xs = [.bl k]/\Q (.int (if k then 1 else 0)) H):=by
 intro pins s σ H xs us Q I r h
 rcases h with⟨i,rfl,q⟩ | ⟨k,rfl,q⟩
 ·obtain⟨u,rfl,t,rfl⟩:=vals1 r
  exact call_int_int ⟨.int i,H,I,⟨_,rfl⟩,q⟩
 ·obtain⟨u,rfl,r1⟩:=vals1 r
  cases r1
  exact call_int_bool ⟨.int (if k then 1 else 0),H,I.tok _,⟨_,rfl⟩,q⟩
end
end L2
namespace L2
open PySem PySem.Spec PyProof.Rows
structure ObjM (h:Heap)(x dx C:Addr)(mA:Str->Option Value):Prop where
 obj:h.get? x=some (PySem.W.instObj C dx)
 ns:h.Ns1 dx mA
 ne:dx≠x
section
variable  {prog:Program}{w:World}{A:Around}{E:Value->Shared->Prop}{s:Shared}{K:PySem.W.Frag}{x dx C f:Addr}{mA:Str->Option Value}{name:Str}{v:Value}
end
section
variable  {P:Program}{w:World}{H H':Hp}{h h':Heap}{a C dx:Addr}{fs fs':List (Str×V)}
end
structure Cls (K:PySem.W.Frag)(C:Addr):Prop where
 pg:PySem.W.plainGet K C Str.empty=true
 hd:PySem.W.hasDictIn K C=true
 po:PySem.W.plainOver K C=true
 sa:PySem.W.findIn K (.ref C) "__setattr__" = some (some (.builtin "object.__setattr__"))
structure Con (K:PySem.W.Frag)(C:Addr)(f:Str)(v:V)(u:Value):Prop where
 at_:PySem.W.findIn K (.ref C) f=some (some u)
 rel:RelV v u
 get:PySem.W.specialIn K u "__get__" = some none
 cp:PySem.W.copiedNames.contains f=false
structure Meth (K:PySem.W.Frag)(C:Addr)(m:Str)(f:Addr):Prop where
 at_:PySem.W.findIn K (.ref C) m=some (some (.ref f))
 fn:PySem.W.isFn K (.ref f)=true
 kp:PySem.W.keepIn K (.ref f)=true
section
variable  {X:Cx}{pins:List (Addr×Obj)}{σ:St}{H:Hp}{s:Shared}{a C dx:Addr}{fs:List (Str×V)}{f:Str}{v:V}{A:Around}{E:Value->Shared->Prop}
end
section
variable  {X:Cx}{o e value:Expr}{f:Str}{pos pos' tpos:Pos}{ta tv:TE}
end
section
variable  {X:Cx}{pins:List (Addr×Obj)}{σ:St}{H:Hp}{s:Shared}{A:Around}{E:Value->Shared->Prop}{Q:Value->Shared->Prop}{c:Value}{b:Bool}
inductive TyOf (K:PySem.W.Frag) (H:Hp):V->Value->Prop where
 | non:TyOf K H .non (.type "NoneType")
 | bl (x:Bool):TyOf K H (.bl x) (.type "bool")
 | int (i:Int):TyOf K H (.int i) (.type "int")
 | str (x:Str):TyOf K H (.str x) (.type "str")
 | flt (x:UInt64):TyOf K H (.flt x) (.type "float")
 | lst {a:Addr} {xs:List V} (e:H a=some (.lst xs)):TyOf K H (.ref a) (.type "list")
 | frz {a:Addr} {o:Obj} {xs:List V} (e:H a=some (.frz o (.lst xs))):TyOf K H (.ref a) (.type "list")
 | tup {a:Addr} {xs:List V} (e:H a=some (.tup xs)):TyOf K H (.ref a) (.type "tuple")
 | dK {a:Addr} {kvs:List (Key×V)} (e:H a=some (.dK kvs)):TyOf K H (.ref a) (.type "dict")
 | dT {a:Addr} {kvs:List (List Key×V)} (e:H a=some (.dT kvs)):TyOf K H (.ref a) (.type "dict")
 | ins {a C dx:Addr} {fs:List (Str×V)} (e:H a=some (.ins C dx fs)) (cl:Cls K C) (ha:PySem.W.findIn K (.ref C) "__class__" = some (some (.builtin "object.__class__")))
   (hn:PySem.W.specialIn K (.builtin "object.__class__") "__get__" = some (some (.builtin "getset_descriptor.__get__"))) (htk:PySem.W.takesIn K (.builtin "object.__class__")=some true)
   (hm:PySem.W.mroIn K C (.type "object")=some true):TyOf K H (.ref a) (.ref C)
end
end L2
namespace L2
open PySem PySem.Spec PyProof.Rows
structure Room (k:Nat)(A:Around):Prop where
 hd:A.handled=none
 dp:A.depth+3 * k+5<recursionLimit
 un:A.units+16 * k+200<cLine
theorem Room.mono {j k:Nat}{A:Around}(r:Room k A)(h:j<=k):Room j A:=⟨r.hd,by have:=r.dp;omega,by have:=r.un;omega⟩
theorem Room.deeper {k:Nat}{A:Around}(r:Room (k+1) A)(env:Env):Room k (A.deeper env):=
 ⟨r.hd,by have:=r.dp;show A.depth+1+3 * k+5<_;omega,by have:=r.un;show A.units+3+16 * k+200<_;omega⟩
theorem Room.in1 {k:Nat}{A:Around}(r:Room (k+1) A):Room k A.in1:=
 ⟨r.hd,by have:=r.dp;show A.depth+3 * k+5<_;omega,by have:=r.un;show A.units+1+16 * k+200<_;omega⟩
theorem Room.depth {k:Nat}{A:Around}(r:Room k A):A.depth<recursionLimit:=by have:=r.dp;omega
theorem Room.units {k:Nat}{A:Around}(r:Room k A):A.units+64<cLine:=by have:=r.un;omega
noncomputable def tNil:TA:=fun _ H Q=>Q [] H
noncomputable def tCons (ta:TE) (tr:TA):TA:=fun σ H Q=>ta σ H fun x H1=>tr σ H1 fun xs H2=>Q (x::xs) H2
section
variable  {X:Cx}{e:Expr}{es:List Expr}{te:TE}{t:TA}{pos:Pos}
theorem pa_nil:PA X [] tNil:=fun _ _ _ _ H Q I h=>Calls.spliced_nil ⟨[],H,I,.nil,h⟩
theorem pa_cons (ha:PE X e te)(hr:PA X es t)(hs:starEach (e::es) X.env=(false,eval e X.env)::starEach es X.env:=by rfl):PA X (e::es) (tCons te t):=by
 intro pos pins s σ H Q I h
 rw [hs]
 show wpAny _ _ (spliced ((false,eval e X.env)::backTo pos (starEach es X.env))) _ _ s
 refine Calls.spliced_cons (thn (ha pins s σ H _ I h) fun u s1 ⟨x,H1,I1,r1,q1⟩=>?_)
 exact thn (hr pos pins s1 σ H1 _ I1 q1) fun us s2 ⟨xs,H2,I2,r2,q2⟩=>⟨x::xs,H2,I2,.cons r1 r2,q2⟩
noncomputable def tTup (t:TA):TE:=fun σ H Q=>t σ H fun xs H1=>xs.length<=sizeLine/\∀ p,H1 p=none->Q (.ref p) (upd H1 p (.tup xs))
noncomputable def tLst (t:TA):TE:=fun σ H Q=>t σ H fun xs H1=>xs.length<=sizeLine/\∀ p,H1 p=none->Q (.ref p) (upd H1 p (.lst xs))
theorem pe_tup {x1}(h:PA X es t):PE X (.Tuple es x1 pos) (tTup t):=by
 intro pins s σ H Q I hq
 refine wpAny_Tuple_spliced (thn (h pos pins s σ H _ I hq) fun us s1 ⟨xs,H1,I1,r,z,q⟩=>⟨by rw [← r.length];exact z,?_⟩)
 have hf:H1 s1.heap.objs.size=none:=I1.hok.fresh (Nat.le_refl _)
 refine⟨.ref s1.heap.objs.size,upd H1 s1.heap.objs.size (.tup xs),I1.laid (t':=s1.toks) (fun b u e=>Heap.get?_push_of_some _ e) (Nat.le_refl _) ?_,rfl,q _ hf⟩
 exact⟨z,us,r,⟨_,Heap.get?_push_size _ rfl,rfl,_,rfl⟩⟩
theorem pe_lst (h:PA X es t):PE X (.List es pos) (tLst t):=by
 intro pins s σ H Q I hq
 refine wpAny_List_spliced (thn (h pos pins s σ H _ I hq) fun us s1 ⟨xs,H1,I1,r,z,q⟩=>⟨by rw [← r.length];exact z,?_⟩)
 have hf:H1 s1.heap.objs.size=none:=I1.hok.fresh (Nat.le_refl _)
 refine⟨.ref s1.heap.objs.size,upd H1 s1.heap.objs.size (.lst xs),I1.laid (t':=s1.toks) (fun b u e=>Heap.get?_push_of_some _ e) (Nat.le_refl _) ?_,rfl,q _ hf⟩
 exact⟨z,us,0,r,Heap.get?_push_size _ rfl⟩
end
noncomputable abbrev Sp:=List V->Hp->VK->XK->Prop
noncomputable abbrev CXT:=List Env->Hp->Shared->XK->Value->Shared->Prop
structure Env0 (P:Program)(w:World)(K:PySem.W.Frag)(mg:Str->Option Value)(base:Heap)(A:Around)(outer:List Env)(s:Shared)(H:Hp):Prop where
 frames:A.frames=some outer
 mod:Mod K mg base
 bs:∀ b o,base.get? b=some o->s.heap.get? b=some o/\H b=none
 bsz:base.objs.size<=s.heap.objs.size
 funs:s.heap.FunFrames base outer
 frf:∀ b∈frs outer,H b=none
 hok:HOk P w H s.heap
 bare:AllBare s.gens
noncomputable def CE (outer:List Env) (P:Program) (w:World) (H:Hp) (s:Shared) (Q:VK) (u:Value) (s':Shared):Prop:=
 ∃ v H',s'.os=s.os/\AllBare s'.gens/\Un (frs outer) [] H H' s.heap s'.heap/\HOk P w H' s'.heap/\RelV v u/\Q v H'
noncomputable def CR (CX:CXT) (outer:List Env) (P:Program) (w:World) (H:Hp) (s:Shared) (Q:VK) (E:XK) (r:Result) (s':Shared):Prop:=
 match r with
 | .ok (.ret u)=>CE outer P w H s Q u s'
 | .ok _=>False
 | .error e=>CX outer H s E e s'
structure FnOk (P:Program)(w:World)(K:PySem.W.Frag)(mg:Str->Option Value)(base:Heap)(CX:CXT)(k:Nat)(f:Addr)(fd:FuncData)(ps:List Str)(sp:Sp):Prop where
 len:∀ vs H Q E,sp vs H Q E->vs.length=ps.length
 run:∀ (A:Around) (outer:List Env) (s:Shared) (H:Hp) (args:Args) (us:List Value) (vs:List V) (Q:VK) (E:XK),Room k A->Env0 P w K mg base A outer s H->BindsTo s fd args (ps.zip us)->Vals vs us->sp vs H Q E →
  codeAny (model P w) A (.call (.ref f) args) (CR CX outer P w H s Q E) s
theorem Env0.in1 {P:Program}{w:World}{K:PySem.W.Frag}{mg:Str->Option Value}{base:Heap}{A:Around}{outer:List Env}{s:Shared}{H:Hp}(e:Env0 P w K mg base A outer s H) :
  Env0 P w K mg base A.in1 outer s H:=⟨e.frames,e.mod,e.bs,e.bsz,e.funs,e.frf,e.hok,e.bare⟩
section
variable  {X:Cx}{pins:List (Addr×Obj)}{σ:St}{H:Hp}{s s':Shared}
theorem Inv.env0 (I:Inv X pins σ H s):Env0 X.prog X.w X.K X.mg X.base X.A X.stack s H:=
 ⟨I.ok.frames,I.ok.mod,I.bs,Nat.le_trans I.ok.bsz I.sz,I.stack,I.stkFree,I.hok,I.bare⟩
theorem Inv.after {Q:VK}{u:Value}(I:Inv X pins σ H s)(h:CE X.stack X.prog X.w H s Q u s'):EP X pins σ Q u s':=by
 obtain⟨v,H',os,bare,un,hok,r,q⟩:=h
 obtain⟨hh,g,d,t,os'⟩:=s'
 obtain rfl:os'=s.os:=os
 exact⟨v,H',I.call (h':=hh) (g':=g) (d':=d) (t':=t) (ch:=[]) un hok bare (fun b z=>absurd z (by simp)),r,q⟩
end
noncomputable def tCall (sp:Sp) (dvs:List V) (E:XK) (t:TA):TE:=fun σ H Q=>t σ H fun vs H1=>sp (vs++dvs) H1 Q E
noncomputable def Binds (K:PySem.W.Frag) (fd:FuncData) (ps:List Str) (ds:List Value):Prop:=
 ∀ (s:Shared) (us:List Value),K.In s.heap->(us++ds).length=ps.length->BindsTo s fd ⟨us,[]⟩ (ps.zip (us++ds))
theorem Binds.all {K:PySem.W.Frag}{fd:FuncData}{ps:List Str}(h:∀ us:List Value,us.length=ps.length->bindArgs fd ⟨us,[]⟩=pure (ps.zip us)):Binds K fd ps []:=fun s us _ hl=>by
 rw [List.append_nil] at hl ⊢
 exact .of_eq (h us hl)
noncomputable def Passes (CX:CXT) (X:Cx) (E:XK):Prop:=∀ (pins:List (Addr×Obj)) (σ:St) (H:Hp) (s:Shared) (e:Value) (s':Shared),Inv X pins σ H s->CX X.stack H s E e s'->X.xe e s'
section
variable  {X:Cx}{CX:CXT}{k:Nat}{f C:Addr}{fd:FuncData}{ps:List Str}{sp:Sp}{dvs:List V}{ds:List Value}{E:XK}{x m:Str}{p pos apos:Pos}{e o:Expr}{es:List Expr}{ta:TE}{t:TA}
theorem run_fn {pins:List (Addr×Obj)}{σ:St}{H:Hp}{s:Shared}{Q:VK}{us:List Value}{vs:List V}(F:FnOk X.prog X.w X.K X.mg X.base CX k f fd ps sp)(hr:Room k X.A)(hb:Binds X.K fd ps ds)(hd:Vals dvs ds)(hx:Passes CX X E)
  (I:Inv X pins σ H s) (r:Vals vs us) (h:sp (vs++dvs) H Q E):wpAny (model X.prog X.w) X.A (call (.ref f) us) (EP X pins σ Q) X.xe s:=by
 have r2:Vals (vs++dvs) (us++ds):=r.append hd
 have hl:(us++ds).length=ps.length:=by rw [← r2.length];exact F.len _ _ _ _ h
 refine wpAny_call (codeAny_mono (F.run X.A X.stack s H ⟨us,[]⟩ (us++ds) (vs++dvs) Q E hr I.env0 (hb s us I.kIn hl) r2 h) fun r s' hq=>?_)
 cases r with
 | error e=>exact hx pins σ H s e s' I hq
 | ok fl=>
  cases fl with
  | ret u=>exact I.after hq
  | next=>exact False.elim hq
  | brk=>exact False.elim hq
  | cont=>exact False.elim hq
theorem pe_call (F:FnOk X.prog X.w X.K X.mg X.base CX k f fd ps sp)(hr:Room k X.A)(hg:Gl X x)(hm:X.mg x=some (.ref f))(hk:PySem.W.keepIn X.K (.ref f)=true)(hb:Binds X.K fd ps ds)(hd:Vals dvs ds)(hx:Passes CX X E)
  (ha:PA X (e::es) t) (hdb:(x == ("__debug__" : Str))=false:=by decide) (he:starEach (e::es) X.env=(false,eval e X.env)::starEach es X.env:=by rfl) (hpl:(backTo pos (starEach es X.env)).any (·.1)=false:=by rfl) :
  PE X (.Call (.Name x p) (e::es) [] pos) (tCall sp dvs E t):=by
 intro pins s σ H Q I h
 refine wpAny_Call_Name_kw (ld_glob I hg hm ?_ hdb)
 refine PySem.W.callWith_K (h₀:=X.base) I.ok.mod.kin hk (thn (ha pos pins s σ H _ I h) fun us s1 ⟨vs,H1,I1,r,q⟩=>⟨I1.kIn,?_⟩) he hpl
 exact run_fn F hr hb hd hx I1 r q
end
section
variable  {X:Cx}{CX:CXT}{k:Nat}{f C:Addr}{fd:FuncData}{ps ks:List Str}{sp:Sp}{E:XK}{x m:Str}{p pos apos kpos:Pos}{e o:Expr}{es:List Expr}{kws:List Keyword}{te ta:TE}{t tk:TA}{nm:Option Str}
structure KBinds (K:PySem.W.Frag)(fd:FuncData)(ps ks:List Str)(g:List Value->List Value->List Value)(gV:List V->List V->List V):Prop where
 to:∀ (s:Shared) (us ws:List Value),K.In s.heap->(g us ws).length=ps.length->BindsTo s fd ⟨us,ks.zip ws⟩ (ps.zip (g us ws))
 rel:∀ {vs:List V} {us:List Value} {zs:List V} {ws:List Value},Vals vs us->Vals zs ws->Vals (gV vs zs) (g us ws)
variable  {g:List Value->List Value->List Value}{gV:List V->List V->List V}
end
structure FnScope (N P:List Str)(sc:Scope):Prop where
 kind:sc.kind = .function
 co:sc.isCoroutine=false
 gen:sc.isGenerator=false
 nd:N.Nodup
 pre:N.take P.length=P
 par:∀ x∈P,sc.names.lookup x=some .local ∨ sc.names.lookup x=some .cell
 nofree:∀ y∈sc.names,y.2 ≠ .free
theorem bindL_out {kindOf:Str->Option NameKind}{x:Str}:∀ {binds:List (Str×Value)} {m:Str->Option Value},(∀ v,(x,v) ∉ binds)->bindL kindOf binds m x=m x
 | [],_,_=>rfl
 | (n,v)::r,m,h=>by
  unfold bindL
  rw [bindL_out fun w hw=>h w (List.mem_cons_of_mem _ hw)]
  split
  ·have:x≠n:=by rintro rfl;exact h v List.mem_cons_self
   simp [this]
  ·rfl
theorem bindC_out {kindOf:Str->Option NameKind}{x:Str}:∀ {binds:List (Str×Value)} {m:Str->Option Value},(∀ v,(x,v) ∉ binds)->bindC kindOf binds m x=m x
 | [],_,_=>rfl
 | (n,v)::r,m,h=>by
  unfold bindC
  rw [bindC_out fun w hw=>h w (List.mem_cons_of_mem _ hw)]
  split
  ·rfl
  ·have:x≠n:=by rintro rfl;exact h v List.mem_cons_self
   simp [this]
theorem bindL_get {kindOf:Str->Option NameKind}{x:Str}{v:Value}:∀ {P:List Str} {vs:List Value} {i:Nat} {m:Str->Option Value},P.Nodup->P[i]?=some x->vs[i]?=some v->kindOf x=some .local →
  bindL kindOf (P.zip vs) m x=some v
 | [],_,_,_,_,h,_,_=>by simp at h
 | _::_,[],_,_,_,_,h,_=>by simp at h
 | p::P,w::vs,0,m,nd,h1,h2,hk=>by
  simp at h1 h2;subst h1;subst h2
  show bindL kindOf ((p,w)::P.zip vs) m p=_
  unfold bindL
  rw [bindL_out fun v hv=>(List.nodup_cons.mp nd).1 (List.of_mem_zip hv).1,if_pos hk]
  simp
 | p::P,w::vs,i+1,m,nd,h1,h2,hk=>by
  show bindL kindOf ((p,w)::P.zip vs) m x=_
  unfold bindL
  exact bindL_get (i:=i) (List.nodup_cons.mp nd).2 (by simpa using h1) (by simpa using h2) hk
theorem bindC_get {kindOf:Str->Option NameKind}{x:Str}{v:Value}:∀ {P:List Str} {vs:List Value} {i:Nat} {m:Str->Option Value},P.Nodup->P[i]?=some x->vs[i]?=some v->kindOf x≠some .local →
  bindC kindOf (P.zip vs) m x=some v
 | [],_,_,_,_,h,_,_=>by simp at h
 | _::_,[],_,_,_,_,h,_=>by simp at h
 | p::P,w::vs,0,m,nd,h1,h2,hk=>by
  simp at h1 h2;subst h1;subst h2
  show bindC kindOf ((p,w)::P.zip vs) m p=_
  unfold bindC
  rw [bindC_out fun v hv=>(List.nodup_cons.mp nd).1 (List.of_mem_zip hv).1,if_neg hk]
  simp
 | p::P,w::vs,i+1,m,nd,h1,h2,hk=>by
  show bindC kindOf ((p,w)::P.zip vs) m x=_
  unfold bindC
  exact bindC_get (i:=i) (List.nodup_cons.mp nd).2 (by simpa using h1) (by simpa using h2) hk
noncomputable def start (N:List Str) (vs:List V):St:=vs.map some++List.replicate (N.length - vs.length) none
noncomputable def cxOf (CX:CXT) (P:Program) (w:World) (K:PySem.W.Frag) (mg:Str->Option Value) (base:Heap) (N:List Str) (qual:Str) (scope:Scope) (f:Addr) (cd:Value) (A:Around) (outer:List Env) (s:Shared) (H:Hp) (E:XK):Cx where
 prog:=P
 w:=w
 K:=K
 mg:=mg
 base:=base
 A:=A.deeper (envOfC qual scope s.heap.objs.size f cd)
 N:=N
 s₀:=s
 H₀:=H
 env:=envOfC qual scope s.heap.objs.size f cd
 outer:=outer
 stack:=envOfC qual scope s.heap.objs.size f cd::outer
 ex:=[]
 calm:=true
 fn:=fun _=>true
 pn:=[]
 xe:=fun e s'=>wpAny (model P w) (A.deeper (envOfC qual scope s.heap.objs.size f cd)) (leaving (envOfC qual scope s.heap.objs.size f cd) e) (fun _ s''=>CX outer H s E e s'') (fun e' s''=>CX outer H s E e' s'') s'
theorem cell_has {sc:Scope}{n:Nat}{x:Str}(h:sc.names.lookup x=some .cell):∃ c,(cellsFrom n sc.names []).lookup x=some c:=by
 have q:=PySem.W.cellsFrom_some sc.names n [] (.inl h)
 exact Option.isSome_iff_exists.mp q
theorem inv_start {CX:CXT}{P:Program}{w:World}{K:PySem.W.Frag}{mg:Str->Option Value}{base:Heap}{N ps:List Str}{qual:Str}{scope:Scope}{f:Addr}{cd:Value}{A:Around}{outer:List Env}{s s1:Shared}{H:Hp}{E:XK}{us:List Value}{vs:List V}
  (S:FnScope N ps scope) (hd:A.handled=none) (e0:Env0 P w K mg base A outer s H) (hl:vs.length=ps.length) (r:Vals vs us)
  (x:InCallC s s.heap.objs.size (bindL (envOfC qual scope s.heap.objs.size f cd).kindOf (ps.zip us) fun _=>none) (cellsFrom (s.heap.objs.size+1) scope.names []) (bindC (envOfC qual scope s.heap.objs.size f cd).kindOf (ps.zip us) fun _=>none) s1) :
  Inv (cxOf CX P w K mg base N qual scope f cd A outer s H E) [] (start N vs) H s1:=by
 have hpl:ps.length<=N.length:=by have:=congrArg List.length S.pre;rw [List.length_take] at this;omega
 obtain⟨h1,tk,rfl,hk⟩:=x.done
 have noA:∀ b:Addr,b ∉ (cxOf CX P w K mg base N qual scope f cd A outer s H E).ex:=fun b z=>absurd (show b∈([]:List Addr) from z) (by simp)
 refine⟨⟨e0.mod,S.kind,rfl,rfl,Nat.le_refl _,fun y z c h1 h2=>?_,fun y hy=>?_,fun y c _ h=>?_,fun _=>hd,Around.frames_deeper e0.frames,.inr ⟨rfl,rfl⟩,fun b z=>absurd z (noA b),e0.bs,e0.bsz,fun b _ _=>noA b,fun b z=>absurd z (noA b),e0.funs,e0.frf⟩,
  rfl,e0.bare,Un.kept hk,⟨_,x.toInCall.ns,fun i y v h1 h2 h3=>?_⟩,fun y c h=>⟨_,x.cell y c h⟩,e0.hok.fresh (Nat.le_refl _),fun y c h=>?_,fun p hp=>absurd (show p∈([]:List (Addr×Obj)) from hp) (by simp),e0.hok.kept hk,?_⟩
 ·exact name_of_addr x.apart (PySem.mem_of_lookup h1) (PySem.mem_of_lookup h2)
 ·have hy:scope.names.lookup y=some .cell ∨ scope.names.lookup y=some .free:=hy
  rcases hy with hy | hy
  ·exact cell_has hy
  ·exact absurd rfl (S.nofree _ (PySem.mem_of_lookup hy))
 ·exact Nat.le_of_lt (x.above y c (PySem.mem_of_lookup h))
 ·have hi:i<vs.length:=by
   unfold start at h2
   by_cases hi:i<vs.length
   ·exact hi
   ·rw [List.getElem?_append_right (by simpa using hi)] at h2
    rw [List.getElem?_replicate] at h2
    split at h2<;>cases h2
  have ha:vs[i]?=some v:=by
   unfold start at h2
   rw [List.getElem?_append_left (by simpa using hi),List.getElem?_map] at h2
   cases e:vs[i]? with
   | none=>rw [e] at h2;cases h2
   | some a=>rw [e] at h2;cases h2;rfl
  obtain⟨u,hu,rv⟩:=r.get ha
  have hp:ps[i]?=some y:=by
   rw [← S.pre,List.getElem?_take_of_lt (by omega)];exact h1
  have ndP:ps.Nodup:=by rw [← S.pre];exact S.nd.sublist (List.take_sublist _ _)
  refine⟨u,rv,?_⟩
  rcases S.par y (List.mem_of_getElem? hp) with k | k
  ·exact .inl ⟨k,bindL_get ndP hp hu k⟩
  ·obtain⟨c,e⟩:=cell_has (n:=s.heap.objs.size+1) k
   refine .inr ⟨.inl k,c,e,?_⟩
   have q:=x.cell y c e
   rw [bindC_get ndP hp hu (by show scope.names.lookup y≠_;rw [k];decide)] at q
   exact q
 ·exact e0.hok.fresh (Nat.le_of_lt (x.above y c (PySem.mem_of_lookup h)))
 ·unfold start
  show _=N.length
  rw [List.length_append,List.length_map,List.length_replicate]
  omega
theorem fn_of {CX:CXT}{P:Program}{w:World}{K:PySem.W.Frag}{mg:Str->Option Value}{base:Heap}{k:Nat}{f:Addr}{name qual:Str}{params:Arguments}{body:List Stmt}{scope:Scope}{dV kV doc pm cdv ct oc:Value}{an od:Option Addr}
  {osl:Array (Option Value)} {N ps:List Str} {sp:Sp} (lk:K.lookup f=some ⟨oc,od,.func (PySem.W.fnOf name qual params body scope dV kV doc pm an cdv ct),osl⟩) (hcd:PySem.W.codeIn K cdv qual=true) (S:FnScope N ps scope)
  (len:∀ vs H Q E,sp vs H Q E->vs.length=ps.length)
  (hbody:∀ (A:Around) (outer:List Env) (s:Shared) (H:Hp) (vs:List V) (Q:VK) (E:XK),Room k (A.deeper (envOfC qual scope s.heap.objs.size f cdv))->sp vs H Q E →
   ∃ t,PSs (cxOf CX P w K mg base N qual scope f cdv A outer s H E) body t/\t { nx:=fun _ H'=>Q .non H',rt:=Q } (start N vs) H) :
  FnOk P w K mg base CX (k+1) f (PySem.W.fnOf name qual params body scope dV kV doc pm an cdv ct) ps sp:=by
 refine⟨len,fun A outer s H args us vs Q E hr e0 hb r hsp=>?_⟩
 have hl:=len _ _ _ _ hsp
 have KX:K.In s.heap:=e0.mod.kin.keeps fun b o e=>(e0.bs b o e).1
 have lim:s.heap.NoLimit:=e0.mod.nolimit.keeps fun b o e=>(e0.bs b o e).1
 have hkind:∀ y∈ps.zip us,scope.names.lookup y.1=some .local ∨ (scope.names.lookup y.1=some .cell/\((cellsFrom (s.heap.objs.size+1) scope.names []).lookup y.1).isSome=true):=fun⟨n,v⟩ hy=>by
  rcases S.par n (List.of_mem_zip hy).1 with q | q
  ·exact .inl q
  ·exact .inr ⟨q,PySem.W.cellsFrom_some _ _ _ (.inl q)⟩
 refine codeAny_call_function hr.depth (KX _ _ lk) rfl S.co S.gen rfl (PySem.W.codeRec_of KX hcd) (hb _ _ _ _ ?_)
 refine wpAny_newFunctionEnv_cells S.kind hkind fun env he s1 x=>?_
 subst he
 refine⟨lim.keeps x.toInCall.keep,codeAny_func ?_⟩
 obtain⟨t,ht,hq⟩:=hbody A outer s H vs Q E (hr.deeper _) hsp
 have I:Inv (cxOf CX P w K mg base N qual scope f cdv A outer s H E) [] (start N vs) H s1:=inv_start S hr.hd e0 hl r x
 refine wpAny_mono (ht [] s1 (start N vs) H _ I hq) (fun fl s' hs=>?_) fun e s' hs=>hs
 have fin:∀ {σ':St} {H':Hp} {v:V} {u:Value},Inv (cxOf CX P w K mg base N qual scope f cdv A outer s H E) [] σ' H' s'->RelV v u->Q v H'->CE outer P w H s Q u s':=
  fun {σ' H' v u} J rv q=>⟨v,H',J.os,J.bare,J.base,J.hok,rv,q⟩
 cases fl with
 | ret u=>
  obtain⟨v,σ',H',J,rv,q⟩:=hs
  exact fin J rv q
 | next=>
  obtain⟨σ',H',J,q⟩:=hs
  exact fin (v:=V.non) (u:=Value.none) J rfl q
 | brk=>
  obtain⟨_,_,_,q⟩:=hs
  exact False.elim q
 | cont=>
  obtain⟨_,_,_,q⟩:=hs
  exact False.elim q
end L2
namespace L2
open PySem PySem.Spec PyProof.Rows
section
variable  {X:Cx}{x:Str}{p pos:Pos}{e:Expr}{es:List Expr}{t:TA}{id T:String}{r:List V->Hp->VK->Prop}
noncomputable def tCB (r:List V->Hp->VK->Prop) (t:TA):TE:=fun σ H Q=>t σ H fun vs H1=>r vs H1 Q
theorem pe_callB (hc:CallR X (.builtin id) r)(hg:Gl X x)(hm:X.mg x=none)(hv:bootBuiltins x=some (.builtin id))(ha:PA X (e::es) t)(hn:x ≠ "__name__" :=by decide)(hdb:(x == ("__debug__" : Str))=false:=by decide)
  (he:starEach (e::es) X.env=(false,eval e X.env)::starEach es X.env:=by rfl) (hpl:(backTo pos (starEach es X.env)).any (·.1)=false:=by rfl):PE X (.Call (.Name x p) (e::es) [] pos) (tCB r t):=by
 intro pins s σ H Q I h
 refine wpAny_Call_Name_kw (ld_blt I hg hm hv ?_ hn hdb)
 exact PyProof.Rows.callWith_builtin1 (thn (ha pos pins s σ H _ I h) fun us s1 ⟨vs,H1,I1,r1,q1⟩=>hc pins s1 σ H1 vs us Q I1 r1 q1) he hpl
theorem pe_callTy (hc:CallR X (.type T) r)(hg:Gl X x)(hm:X.mg x=none)(hv:bootBuiltins x=some (.type T))(ha:PA X (e::es) t)(hn:x ≠ "__name__" :=by decide)(hdb:(x == ("__debug__" : Str))=false:=by decide)
  (he:starEach (e::es) X.env=(false,eval e X.env)::starEach es X.env:=by rfl) (hpl:(backTo pos (starEach es X.env)).any (·.1)=false:=by rfl):PE X (.Call (.Name x p) (e::es) [] pos) (tCB r t):=by
 intro pins s σ H Q I h
 refine wpAny_Call_Name_kw (ld_blt I hg hm hv ?_ hn hdb)
 exact PyProof.Rows.callWith_type1 (thn (ha pos pins s σ H _ I h) fun us s1 ⟨vs,H1,I1,r1,q1⟩=>hc pins s1 σ H1 vs us Q I1 r1 q1) he hpl
end
end L2
namespace HT
open PySem PyProof.Rows
section
open PySem.SeqAt
open PySem.AutoSeq1 (wpAny_loadPart')
open PySem.MeetsSeq PySem.MeetsSeq2 PySem.MeetsSeq3
end
section
variable  {prog:Program}{w:World}{A:Around}{E:Value->Shared->Prop}{s:Shared}
theorem cat_tup {t b:Addr}{vs ws:List Value}{Q:Value->Shared->Prop}(ht:IsTup s.heap t vs.toArray)(hb:IsTup s.heap b ws.toArray)(hv:vs≠[])
  (h1:ws = []->Q (.ref t) s) (h2:ws≠[]->Q (.ref s.heap.objs.size) { s with heap:=s.heap.push { cls:=.type "tuple",data:=.seq (vs++ws).toArray } })
  (hsz:vs.length+ws.length<=sizeLine):wpAny (model prog w) A (binaryOp .Add (.ref t) (.ref b)) Q E s:=by
 obtain⟨⟨cls,dd,data,sl⟩,ho,hc,n,hd⟩:=id ht
 obtain⟨⟨cls2,dd2,data2,sl2⟩,ho2,hc2,n2,hd2⟩:=id hb
 simp only at hc hd hc2 hd2
 subst hc hd hc2 hd2
 have e:vs.toArray++ws.toArray=(vs++ws).toArray:=by simp
 by_cases hw:ws = []
 ·exact concat_meets ⟨_,ho,rfl⟩ ⟨_,ho2,rfl⟩ noFill_tuple_add seq_tuple_add PySem.F.slot_tuple_add PySem.F.entry_tuple_add (PySem.F.args_tuple_add_2 _ _)
   (tuple_addW1 t b vs.toArray ws.toArray n n2 dd dd2 sl sl2 (by simpa using hv) (by simp [hw])) ⟨ho,ho2,h1 hw⟩
 ·refine concat_meets ⟨_,ho,rfl⟩ ⟨_,ho2,rfl⟩ noFill_tuple_add seq_tuple_add PySem.F.slot_tuple_add PySem.F.entry_tuple_add (PySem.F.args_tuple_add_2 _ _)
   (tuple_addW2 t b vs.toArray ws.toArray n n2 dd dd2 sl sl2 (by simpa using hv) (by simpa using hw) (by rw [List.size_toArray,List.size_toArray];exact hsz)) ⟨ho,ho2,?_⟩
  rw [e]
  exact h2 hw
noncomputable def sIx (n d:Nat):Option Int->Nat
 | none=>d
 | some v=>if v<0 then (v+(n:Int)).toNat else min v.toNat n
theorem sIx_none (n d:Nat):sIx n d none=d:=rfl
theorem sIx_nat (n d k:Nat):sIx n d (some (k:Int))=min k n:=by
 show (if (k:Int)<0 then ((k:Int)+(n:Int)).toNat else min (k:Int).toNat n)=min k n
 rw [if_neg (by omega),Int.toNat_natCast]
theorem sIx_le (n d:Nat)(hd:d<=n)(o:Option Int):sIx n d o<=n:=by
 cases o with
 | none=>exact hd
 | some v=>
  show (if v<0 then (v+(n:Int)).toNat else min v.toNat n)<=n
  by_cases hv:v<0
  ·rw [if_pos hv];omega
  ·rw [if_neg hv];exact Nat.min_le_right _ _
theorem clip_eq (v:Int)(n d:Nat):(if v<0 then max (v+(n:Int)) 0 else min v (n:Int))=((sIx n d (some v):Nat):Int):=by
 show (if v<0 then max (v+(n:Int)) 0 else min v (n:Int))=(((if v<0 then (v+(n:Int)).toNat else min v.toNat n):Nat):Int)
 by_cases hv:v<0
 ·simp only [if_pos hv];omega
 ·simp only [if_neg hv];omega
theorem adjust_gen (lo hi:Option Int)(n:Nat):Builtin.Slice.sliceAdjust lo hi 1 (n:Int)=(((sIx n 0 lo:Nat):Int),((sIx n n hi:Nat):Int)):=by
 have h1:¬ ((1:Int)<0):=by omega
 unfold Builtin.Slice.sliceAdjust
 simp only [h1,if_false]
 refine Prod.ext ?_ ?_
 ·cases lo with
  | none=>rfl
  | some v=>exact clip_eq v n 0
 ·cases hi with
  | none=>rfl
  | some v=>exact clip_eq v n n
theorem places_gen (i j:Nat):Builtin.Slice.slicePlaces (i:Int) (j:Int) 1=j - i:=by
 unfold Builtin.Slice.slicePlaces
 have h1:(1:Int) > 0:=by omega
 simp only [h1,if_true,Int.ediv_one]
 split<;>omega
theorem slicePart_ {v:Value}{o:Option Int}{Q:Option Int->Shared->Prop}(p:IsPart v o)(h:Q o s):wpAny (model prog w) A (Builtin.Slice.slicePartIndex v) Q E s:=by
 cases p with
 | none=>exact slicePart_none h
 | int i t=>exact slicePart_int h
theorem sliceApplied_gen {sl:Addr}{vl vu:Value}{lo hi:Option Int}{n:Nat}{Q:Int×Int×Nat->Shared->Prop}(hs:s.heap.IsSliceOf sl vl vu .none)(pl:IsPart vl lo)(pu:IsPart vu hi)
  (h:Q (((sIx n 0 lo:Nat):Int),1,sIx n n hi - sIx n 0 lo) s):wpAny (model prog w) A (Builtin.Slice.sliceApplied (.ref sl) (pure (n:Int))) Q E s:=by
 obtain⟨os,hos,hcs,hds⟩:=id hs
 unfold Builtin.Slice.sliceApplied Builtin.Slice.sliceFields
 refine wpAny_bind (wpAny_bind (wpAny_field hos hds (x:=vl) rfl (wpAny_bind (wpAny_field hos hds (x:=vu) rfl (wpAny_bind (wpAny_field hos hds (x:=.none) rfl (wpAny_pure ?_)))))))
 refine wpAny_bind (slicePart_none ?_)
 show wpAny _ _ (if ((1:Int) == 0)=true then _ else _) _ _ s
 rw [if_neg (by decide)]
 refine wpAny_bind (slicePart_ pl (wpAny_bind (slicePart_ pu (wpAny_bind (wpAny_pure ?_)))))
 show wpAny _ _ (match Builtin.Slice.sliceAdjust lo hi 1 (n:Int) with | (lo,hi)=>pure (lo,(1:Int),Builtin.Slice.slicePlaces lo hi 1)) _ _ s
 rw [adjust_gen lo hi n]
 show wpAny _ _ (pure (((sIx n 0 lo:Nat):Int),(1:Int),Builtin.Slice.slicePlaces ((sIx n 0 lo:Nat):Int) ((sIx n n hi:Nat):Int) 1)) _ _ s
 rw [places_gen]
 exact wpAny_pure h
theorem pick_gen (xs:Array Value)(i k:Nat):((List.range k).filterMap fun (m:Nat)=>xs[((i:Int)+(m:Int) * 1).toNat]?).toArray=((xs.toList.drop i).take k).toArray:=by
 have e:(fun (m:Nat)=>xs[((i:Int)+(m:Int) * 1).toNat]?)=fun m=>xs[i+m]?:=by
  funext m
  have:((i:Int)+(m:Int) * 1).toNat=i+m:=by omega
  rw [this]
 rw [e]
 have:=pick_run xs i k
 rw [List.filterMap_map] at this
 have e2:((fun x=>xs[x]?) ∘ fun x=>i+x)=fun m=>xs[i+m]?:=rfl
 rw [e2] at this
 rw [this]
theorem getItem_tuple_cut {t sl:Addr}{items:Array Value}{vl vu:Value}{lo hi:Option Int}{Q:Value->Shared->Prop}(ht:IsTup s.heap t items)(hs:s.heap.IsSliceOf sl vl vu .none)(pl:IsPart vl lo)(pu:IsPart vu hi)
  (hw:¬ (sIx items.size 0 lo=0/\sIx items.size items.size hi=items.size))
  (h:Q (.ref s.heap.objs.size) { s with heap:=s.heap.push { cls:=.type "tuple",data:=.seq ((items.toList.drop (sIx items.size 0 lo)).take (sIx items.size items.size hi - sIx items.size 0 lo)).toArray } })
  (hsz:items.size<=sizeLine):wpAny (model prog w) A (getItem (.ref t) (.ref sl)) Q E s:=by
 have htake:sizeOk (.seq ((items.toList.drop (sIx items.size 0 lo)).take (sIx items.size items.size hi - sIx items.size 0 lo)).toArray):=by
  show ((items.toList.drop (sIx items.size 0 lo)).take (sIx items.size items.size hi - sIx items.size 0 lo)).toArray.size<=sizeLine
  rw [List.size_toArray,List.length_take,List.length_drop,Array.length_toList]
  omega
 have hj:sIx items.size items.size hi<=items.size:=sIx_le _ _ (Nat.le_refl _) hi
 obtain⟨os,hos,hcs,hds⟩:=id hs
 have hTs:s.TypeIs (.ref sl) "slice" :=⟨os,hos,hcs⟩
 unfold getItem
 try with_reducible refine wpAny_holding ?_
 first | refine wpAny_bind (wpAny_pure ?_) | skip
 refine wpAny_bind (wpAny_sequenceKey ht.typeIs (by decide) ?_)
 refine wpAny_bind (wpAny_callSpecial?_slot (name:=Str.ofString "__getitem__") ht.typeIs PyProof.Rows.slot_tuple_getitem
  (wpAny_call_entry PyProof.Rows.slot_tuple_getitem ht.typeIs entry_tuple_getitem ?_ (args_tuple_getitem _ _)))
 show wpAny _ _ (Builtin.Tuple.tupleItemsOf (.ref t) >>= _) _ _ s
 refine wpAny_bind (tupleItemsOf_ ht ?_)
 refine wpAny_bind (wpAny_typeOf hTs ?_)
 rw [if_pos (by decide)]
 refine wpAny_bind (sliceApplied_gen hs pl pu ?_)
 have hno:¬ ((((sIx items.size 0 lo:Nat):Int) == 0 && (1:Int) == 1 && (sIx items.size items.size hi - sIx items.size 0 lo) == items.size)=true):=by
  intro q
  rw [Bool.and_eq_true,Bool.and_eq_true] at q
  have q1:((sIx items.size 0 lo:Nat):Int)=0:=eq_of_beq q.1.1
  have q2:sIx items.size items.size hi - sIx items.size 0 lo=items.size:=eq_of_beq q.2
  exact hw ⟨by omega,by omega⟩
 show wpAny _ _ (if (((sIx items.size 0 lo:Nat):Int) == 0 && (1:Int) == 1 && (sIx items.size items.size hi - sIx items.size 0 lo) == items.size)=true then _ else _) _ _ s
 rw [if_neg hno,pick_gen]
 first
  | exact wpAny_bind (m:=Builtin.Tuple.tupleExact _) (wpAny_newObj_type (wpAny_pure ⟨_,rfl,wpAny_pure h⟩) htake)
  | exact wpAny_bind (m:=Builtin.Tuple.tupleExact _) (wpAny_newObj_type (wpAny_bind (wpAny_pure (wpAny_pure ⟨_,rfl,wpAny_pure h⟩))) htake)
  | exact wpAny_bind (wpAny_bind (m:=Builtin.Tuple.tupleExact _) (wpAny_newObj_type (wpAny_pure (wpAny_pure ⟨_,rfl,wpAny_pure h⟩)) htake))
  | exact wpAny_bind (wpAny_bind (m:=Builtin.Tuple.tupleExact _) (wpAny_newObj_type (wpAny_pure ⟨_,rfl,wpAny_pure h⟩) htake))
end
end HT
namespace L2
open PySem PySem.Spec PyProof.Rows
noncomputable abbrev TO:=St->Hp->(Option Int->Hp->Prop)->Prop
noncomputable def PO (X:Cx) (e:Option Expr) (t:TO):Prop:=
 ∀ (pins:List (Addr×Obj)) (s:Shared) (σ:St) (H:Hp) (Q:Option Int->Hp->Prop),Inv X pins σ H s->t σ H Q →
  wpAny (model X.prog X.w) X.A (evalPart e X.env) (fun u s'=>∃ o H',Inv X pins σ H' s'/\IsPart u o/\Q o H') X.xe s
noncomputable def tNoPart:TO:=fun _ H Q=>Q none H
noncomputable def tPart (t:TE):TO:=fun σ H Q=>t σ H fun x H1=>∃ i,x = .int i/\Q (some i) H1
section
variable  {X:Cx}{e:Expr}{te:TE}{lo hi:Option Expr}{tl th:TO}{pos p2:Pos}
theorem po_none:PO X none tNoPart:=by
 intro pins s σ H Q I h
 rw [evalPart_none]
 exact wpAny_pure ⟨none,H,I,.none,h⟩
theorem po_some (h:PE X e te):PO X (some e) (tPart te):=by
 intro pins s σ H Q I hw
 rw [evalPart_some]
 refine thn (h pins s σ H _ I hw) fun u s1 ⟨x,H1,I1,r1,q1⟩=>?_
 obtain⟨i,rfl,q⟩:=q1
 obtain⟨t,rfl⟩:=r1
 exact⟨some i,H1,I1,.int i t,q⟩
noncomputable def SlR (X:Cx) (r:V->Option Int->Option Int->Hp->VK->Prop):Prop:=
 ∀ (pins:List (Addr×Obj)) (s:Shared) (σ:St) (H:Hp) (x:V) (v vl vu:Value) (lo hi:Option Int) (sl:Addr) (Q:VK),Inv X pins σ H s->RelV x v->s.heap.IsSliceOf sl vl vu .none->IsPart vl lo->IsPart vu hi->r x lo hi H Q →
  ∃ T id,typeLookup (.type T) "__getitem__" = pure (some (.builtin id))/\s.TypeIs v T/\wpAny (model X.prog X.w) X.A (getItem v (.ref sl)) (EP X pins σ Q) X.xe s
theorem SlR.or {r r':V->Option Int->Option Int->Hp->VK->Prop}(h:SlR X r)(h':SlR X r'):SlR X (fun x lo hi H Q=>r x lo hi H Q ∨ r' x lo hi H Q):=by
 intro pins s σ H x v vl vu lo hi sl Q I rx hs pl pu q
 rcases q with q | q
 ·exact h pins s σ H x v vl vu lo hi sl Q I rx hs pl pu q
 ·exact h' pins s σ H x v vl vu lo hi sl Q I rx hs pl pu q
noncomputable def tSl (r:V->Option Int->Option Int->Hp->VK->Prop) (te:TE) (tl th:TO):TE:=fun σ H Q=>te σ H fun x H1=>tl σ H1 fun l H2=>th σ H2 fun u H3=>r x l u H3 Q
theorem pe_slice {r:V->Option Int->Option Int->Hp->VK->Prop}(hr:SlR X r)(he:PE X e te)(hl:PO X lo tl)(hu:PO X hi th):PE X (.Subscript e (.Slice lo hi none p2) pos) (tSl r te tl th):=by
 intro pins s σ H Q I h
 refine Subscript_ (thn (he pins s σ H _ I h) fun v s1 ⟨x,H1,I1,r1,q1⟩=>?_)
 refine wpAny_Slice (thn (hl pins s1 σ H1 _ I1 q1) fun vl s2 ⟨l,H2,I2,pl,q2⟩=>thn (hu pins s2 σ H2 _ I2 q2) fun vu s3 ⟨u,H3,I3,pu,q3⟩=>?_)
 rw [evalPart_none]
 refine wpAny_pure ?_
 have I4:Inv X pins σ H3 { s3 with heap:=s3.heap.push { cls:=.type "slice",data:=.fields #[vl,vu,.none] } }:=I3.kept (t':=s3.toks) fun b ob q=>Heap.get?_push_of_some _ q
 obtain⟨T,id,hT,ht,hg⟩:=hr pins { s3 with heap:=s3.heap.push { cls:=.type "slice",data:=.fields #[vl,vu,.none] } } σ H3 x v vl vu l u s3.heap.objs.size Q I4 r1 (Heap.IsSliceOf.new ..) pl pu q3
 show wpAny (model X.prog X.w) X.A (subscriptTail e (.Slice lo hi none p2) v (.ref s3.heap.objs.size)) (EP X pins σ Q) X.xe { s3 with heap:=s3.heap.push { cls:=.type "slice",data:=.fields #[vl,vu,.none] } }
 exact tail_any (ops:=[.ref s3.heap.objs.size,v]) ht hT hg (by with_unfolding_all rfl)
noncomputable def cutV (xs:List V) (lo hi:Option Int):List V:=(xs.drop (HT.sIx xs.length 0 lo)).take (HT.sIx xs.length xs.length hi - HT.sIx xs.length 0 lo)
theorem cutV_length (xs:List V)(lo hi:Option Int):(cutV xs lo hi).length<=xs.length:=by
 unfold cutV
 rw [List.length_take,List.length_drop]
 omega
noncomputable def rSlT (K:PySem.W.Frag):V->Option Int->Option Int->Hp->VK->Prop:=fun x lo hi H Q=>∃ a xs,x = .ref a/\SqT K H a xs ∧
 ¬ (HT.sIx xs.length 0 lo=0/\HT.sIx xs.length xs.length hi=xs.length)/\∀ p,H p=none->Q (.ref p) (upd H p (.tup (cutV xs lo hi)))
theorem sl_tup:SlR X (rSlT X.K):=by
 intro pins s σ H x v vl vu lo hi sl Q I rx hs pl pu h
 obtain⟨a,xs,rfl,hx,hw,q⟩:=h
 cases rx
 obtain⟨its,r,ht,hz⟩:=I.tuple hx
 have hlen:its.toArray.size=xs.length:=by rw [List.size_toArray];exact r.length.symm
 refine⟨"tuple",_,PyProof.Rows.slot_tuple_getitem.lookup,ht.typeIs,?_⟩
 refine HT.getItem_tuple_cut ht hs pl pu (by rw [hlen];exact hw) ?_ (by rw [hlen];exact hz)
 rw [hlen]
 refine⟨.ref s.heap.objs.size,_,I.laid (t':=s.toks) (o:=.tup (cutV xs lo hi)) (fun b ob q=>Heap.get?_push_of_some _ q) (Nat.le_refl _) ?_,rfl,q _ (I.hok.fresh (Nat.le_refl _))⟩
 exact⟨Nat.le_trans (cutV_length xs lo hi) hz,_,(r.drop (HT.sIx xs.length 0 lo)).take (HT.sIx xs.length xs.length hi - HT.sIx xs.length 0 lo),IsTup.new _ _⟩
noncomputable def rCatT (K:PySem.W.Frag):R2:=fun x y H Q=>∃ a b xs ys,x = .ref a/\y = .ref b/\SqT K H a xs/\SqT K H b ys/\xs≠[]/\xs.length+ys.length<=sizeLine ∧
 (ys = []->Q (.ref a) H)/\(ys≠[]->∀ p,H p=none->Q (.ref p) (upd H p (.tup (xs++ys))))
theorem Vals.nil_iff {xs:List V}{us:List Value}(r:Vals xs us):us = []↔xs = []:=by
 cases r with
 | nil=>simp
 | cons _ _=>simp
theorem op_catT:OpR X (binaryOp .Add) (rCatT X.K):=by
 intro pins s σ H x y v u Q I rx ry h
 obtain⟨a,b,xs,ys,rfl,rfl,ha,hb,hx,hz,q1,q2⟩:=h
 cases rx
 cases ry
 obtain⟨its,r1,p1,_⟩:=I.tuple ha
 obtain⟨its2,r2,p2,_⟩:=I.tuple hb
 refine HT.cat_tup p1 p2 (fun z=>hx (r1.nil_iff.mp z)) (fun z=>⟨.ref a,H,I,rfl,q1 (r2.nil_iff.mp z)⟩) (fun z=>?_) (by rw [← r1.length,← r2.length];exact hz)
 refine⟨.ref s.heap.objs.size,_,I.laid (t':=s.toks) (o:=.tup (xs++ys)) (fun b ob q=>Heap.get?_push_of_some _ q) (Nat.le_refl _) ?_,rfl,q2 (fun w=>z (r2.nil_iff.mpr w)) _ (I.hok.fresh (Nat.le_refl _))⟩
 exact⟨by rw [List.length_append];exact hz,_,r1.append r2,IsTup.new _ _⟩
end
end L2
namespace L2
open PySem PySem.Spec PyProof.Rows
noncomputable def ixN (n:Nat) (i:Int):Option Nat:=if 0<=i then (if i<n then some i.toNat else none) else if -(n:Int)<=i then some (i+n).toNat else none
noncomputable def atI {α:Type} (xs:List α) (i:Int):Option α:=(ixN xs.length i).bind fun j=>xs[j]?
theorem ixN_seq {n:Nat}{i:Int}{j:Nat}(h:ixN n i=some j):seqIndex? i n=some j/\j<n/\-(n:Int)<=i/\i<n:=by
 unfold ixN at h
 by_cases h0:0<=i
 ·rw [if_pos h0] at h
  by_cases h1:i<n
  ·rw [if_pos h1] at h
   have e:i.toNat=j:=Option.some.inj h
   exact⟨by rw [seqIndex_of h0 h1,e],by omega,by omega,h1⟩
  ·rw [if_neg h1] at h;cases h
 ·rw [if_neg h0] at h
  by_cases h1 : -(n:Int)<=i
  ·rw [if_pos h1] at h
   have e:(i+n).toNat=j:=Option.some.inj h
   exact⟨by rw [seqIndex_neg (by omega) h1,e],by omega,h1,by omega⟩
  ·rw [if_neg h1] at h;cases h
theorem atI_get {α:Type}{xs:List α}{i:Int}{v : α}(h:atI xs i=some v):∃ j,seqIndex? i xs.length=some j/\xs[j]?=some v/\j<xs.length/\-(xs.length:Int)<=i/\i<xs.length:=by
 unfold atI at h
 cases e:ixN xs.length i with
 | none=>rw [e] at h;cases h
 | some j=>
  rw [e] at h
  obtain⟨h1,h2,h3,h4⟩:=ixN_seq e
  exact⟨j,h1,h,h2,h3,h4⟩
noncomputable def PlainIx (b:Expr):Prop:=∀ o i,subscripted b false o i=operate [o,i] (getItem o i)
noncomputable def IxR (X:Cx) (r:R2):Prop:=
 ∀ (value slice:Expr) (pins:List (Addr×Obj)) (s:Shared) (σ:St) (H:Hp) (x y:V) (v u:Value) (Q:VK),Inv X pins σ H s->RelV x v->RelV y u->r x y H Q →
  subscripted slice false v u=operate [v,u] (getItem v u)->wpAny (model X.prog X.w) X.A (subscriptTail value slice v u) (EP X pins σ Q) X.xe s
noncomputable def MtR (X:Cx) (id:String) (r:V->List V->Hp->VK->Prop):Prop:=
 ∀ (pins:List (Addr×Obj)) (s:Shared) (σ:St) (H:Hp) (x:V) (xs:List V) (v:Value) (us:List Value) (Q:VK),Inv X pins σ H s->RelV x v->Vals xs us->r x xs H Q →
  wpAny (model X.prog X.w) X.A (call (.builtin id) (v::us)) (EP X pins σ Q) X.xe s
section
variable  {X:Cx}{a b:Expr}{ta tb:TE}{pos:Pos}
theorem IxR.or {r r':R2}(h:IxR X r)(h':IxR X r'):IxR X (fun x y H Q=>r x y H Q ∨ r' x y H Q):=by
 intro value slice pins s σ H x y v u Q I rx ry q hs
 rcases q with q | q
 ·exact h value slice pins s σ H x y v u Q I rx ry q hs
 ·exact h' value slice pins s σ H x y v u Q I rx ry q hs
theorem MtR.or {id:String}{r r':V->List V->Hp->VK->Prop}(h:MtR X id r)(h':MtR X id r'):MtR X id (fun x xs H Q=>r x xs H Q ∨ r' x xs H Q):=by
 intro pins s σ H x xs v us Q I rx rs q
 rcases q with q | q
 ·exact h pins s σ H x xs v us Q I rx rs q
 ·exact h' pins s σ H x xs v us Q I rx rs q
theorem pe_ix {r:R2}(hr:IxR X r)(ha:PE X a ta)(hb:PE X b tb)(hs:PlainIx b):PE X (.Subscript a b pos) (tOp r ta tb):=by
 intro pins s σ H Q I h
 exact Subscript_ (binT ha hb I h fun v u s2 x y H2 I2 rx ry q=>hr a b pins s2 σ H2 x y v u Q I2 rx ry q (hs _ _))
noncomputable def rIxL (K:PySem.W.Frag):R2:=fun x y H Q=>∃ p xs i v,x = .ref p/\y = .int i/\SqL K H p xs/\atI xs i=some v/\Q v H
noncomputable def rIxT (K:PySem.W.Frag):R2:=fun x y H Q=>∃ p xs i v,x = .ref p/\y = .int i/\SqT K H p xs/\atI xs i=some v/\Q v H
noncomputable def rIxS:R2:=fun x y H Q=>∃ z i c,x = .str z/\y = .int i/\z.length<=sizeLine/\atI z.cps.toList i=some c/\Q (.str ⟨#[c]⟩) H
theorem ix_list:IxR X (rIxL X.K):=by
 intro value slice pins s σ H x y v u Q I rx ry h hs
 obtain⟨p,xs,i,z,rfl,rfl,hq,he,q⟩:=h
 cases rx
 obtain⟨t,rfl⟩:=ry
 obtain⟨its,r,pl,hz⟩:=I.list hq
 obtain⟨j,h1,h2,h3,h4,h5⟩:=atI_get he
 obtain⟨w,ew,rw'⟩:=r.get h2
 have hl:=r.length
 have hn:=line63
 have fin:EP X pins σ Q w s:=⟨z,H,I,rw',q⟩
 by_cases h0:0<=i
 ·have hj:i.toNat=j:=by
   rw [seqIndex_of h0 h5] at h1
   exact Option.some.inj h1
  exact item_listR pl.isList h0 (by omega) (by rw [hj];simpa using ew) fin hs
 ·have hj:(i+(its.toArray.size:Int)).toNat=j:=by
   rw [seqIndex_neg (by omega) h4] at h1
   rw [List.size_toArray,← hl]
   exact Option.some.inj h1
  exact subscriptTail_builtinR (x:=w) pl.isList.typeIs slot_list_getitem.lookup
   (wpAny_getItem_list_neg (Q:=fun r s'=>r=w/\EP X pins σ Q r s') pl.isList (by omega) (by rw [List.size_toArray]<;>omega) (by omega) (by rw [hj];simpa using ew) ⟨rfl,fin⟩) hs
theorem ix_tup:IxR X (rIxT X.K):=by
 intro value slice pins s σ H x y v u Q I rx ry h hs
 obtain⟨p,xs,i,z,rfl,rfl,hq,he,q⟩:=h
 cases rx
 obtain⟨t,rfl⟩:=ry
 obtain⟨its,r,pl,hz⟩:=I.tuple hq
 obtain⟨j,h1,h2,h3,h4,h5⟩:=atI_get he
 obtain⟨w,ew,rw'⟩:=r.get h2
 have hl:=r.length
 have hn:=line63
 have fin:EP X pins σ Q w s:=⟨z,H,I,rw',q⟩
 exact subscriptTail_builtinR (x:=w) pl.typeIs slot_tuple_getitem.lookup
  (getItem_tuple (j:=j) (Q:=fun r s'=>r=w/\EP X pins σ Q r s') pl (by omega) (by omega) (by rw [List.size_toArray,← hl];exact h1) (by simpa using ew) ⟨rfl,fin⟩) hs
theorem ix_str:IxR X rIxS:=by
 intro value slice pins s σ H x y v u Q I rx ry h hs
 obtain⟨z,i,c,rfl,rfl,hz,he,q⟩:=h
 obtain⟨t,rfl⟩:=rx
 obtain⟨t',rfl⟩:=ry
 obtain⟨j,h1,h2,h3,h4,h5⟩:=atI_get he
 have hl:z.cps.toList.length=z.length:=by simp [Str.length]
 rw [hl] at h1 h4 h5
 have hn:=line63
 exact tail_any (typeIs_str s z t) slot_str_getitem.lookup (getItem_str (c:=c) (by
  have e1:decide (i < -(2 ^ 63:Int))=false:=decide_eq_false (by omega)
  have e2:decide (i ≥ 2 ^ 63)=false:=decide_eq_false (by omega)
  rw [e1,e2,Bool.or_false]) (by rw [h1];simpa using h2) ⟨.str ⟨#[c]⟩,H,I.tok _,⟨_,rfl⟩,q⟩) hs
noncomputable def rIx (K:PySem.W.Frag):R2:=fun x y H Q=>rIxL K x y H Q ∨ rIxT K x y H Q ∨ rIxS x y H Q
theorem ix_seq:IxR X (rIx X.K):=ix_list.or (ix_tup.or ix_str)
theorem mapSeq_set (its:List Value)(n j:Nat)(u:Value):Obj.mapSeq (·.setIfInBounds j u) { cls:=.type "list",data:=.seq its.toArray n } = { cls:=.type "list",data:=.seq (its.set j u).toArray n }:=by
 simp [Obj.mapSeq]
theorem Inv.lst {pins:List (Addr×Obj)}{σ:St}{H:Hp}{s:Shared}{p:Addr}{xs:List V}(I:Inv X pins σ H s)(h:H p=some (.lst xs)) :
  ∃ (its:List Value) (n:Nat),Vals xs its/\s.heap.get? p=some { cls:=.type "list",data:=.seq its.toArray n }/\xs.length<=sizeLine:=by
 obtain⟨z,its,n,r,e⟩:=I.hok p _ h
 exact⟨its,n,r,e,z⟩
theorem Inv.lstUpd {pins:List (Addr×Obj)}{σ:St}{H:Hp}{s:Shared}{p:Addr}{xs ys:List V}{its its':List Value}{n n':Nat}{f:Obj->Obj}(I:Inv X pins σ H s)(h:H p=some (.lst xs))
  (ho:s.heap.get? p=some { cls:=.type "list",data:=.seq its.toArray n }) (hf:f { cls:=.type "list",data:=.seq its.toArray n } = { cls:=.type "list",data:=.seq its'.toArray n' }) (r:Vals ys its') (hz:ys.length<=sizeLine) (t:Nat) :
  Inv X pins σ (upd H p (.lst ys)) { s with heap:=s.heap.update p f,toks:=t }:=by
 have e:(s.heap.update p f).get? p=some { cls:=.type "list",data:=.seq its'.toArray n' }:=by
  rw [Heap.get?_update_self f ho (by rw [hf]<;>rfl),hf]
 refine I.write (x:=p) (e:=p) (by rw [h];trivial) (.inl rfl) (fun b u hb q=>(Heap.get?_update_other _ _ (Ne.symm hb)).trans q) ⟨_,e⟩ ?_
 exact⟨hz,its',n',r,e⟩
noncomputable def rSetL:V->V->V->Hp->(Hp->Prop)->Prop:=fun o i v H Q=>∃ p xs k j,o = .ref p/\i = .int k/\H p=some (.lst xs)/\ixN xs.length k=some j/\Q (upd H p (.lst (xs.set j v)))
theorem set_list:PSet X rSetL:=by
 intro pins s σ H o i v ov iv u Q I ro ri rv h
 obtain⟨p,xs,k,j,rfl,rfl,hp,hj,q⟩:=h
 cases ro
 obtain⟨t,rfl⟩:=ri
 obtain⟨its,n,r,ho,hz⟩:=I.lst hp
 obtain⟨h1,h2,h3,h4⟩:=ixN_seq hj
 have hl:=r.length
 have hn:=line63
 have I':Inv X pins σ (upd H p (.lst (xs.set j v))) { s with heap:=s.heap.update p (Obj.mapSeq (·.setIfInBounds j u)) }:=
  I.lstUpd hp ho (mapSeq_set its n j u) (r.set rv j) (by rw [List.length_set];exact hz) s.toks
 by_cases h0:0<=k
 ·have hk:k.toNat=j:=by
   rw [seqIndex_of h0 h4] at h1
   exact Option.some.inj h1
  exact PySem.W.ki_setAt ho h0 (by omega) (by rw [List.size_toArray,← hl];exact h4) (by rw [hk];exact⟨_,I',q⟩)
 ·have hk:(k+(its.toArray.size:Int)).toNat=j:=by
   rw [seqIndex_neg (by omega) h3] at h1
   rw [List.size_toArray,← hl]
   exact Option.some.inj h1
  exact PySem.W.ki_setBack ho (by omega) (by rw [List.size_toArray,← hl];exact h3) (by omega) (by rw [hk];exact⟨_,I',q⟩)
theorem slice_bounds (lo hi:Option Int)(n:Nat):(sliceBounds lo hi none n).1=((HT.sIx n 0 lo:Nat):Int)/\(sliceBounds lo hi none n).2.1=((HT.sIx n n hi:Nat):Int)/\(sliceBounds lo hi none n).2.2=1:=by
 refine⟨?_,?_,rfl⟩
 ·cases lo with
  | none=>simp [sliceBounds,HT.sIx]
  | some i=>
   simp only [sliceBounds,HT.sIx,Option.getD_none,show (1:Int) > 0 by decide,if_true]
   by_cases h:i<0
   ·simp only [h,if_true]<;>omega
   ·simp only [h,if_false]<;>omega
 ·cases hi with
  | none=>simp [sliceBounds,HT.sIx]
  | some i=>
   simp only [sliceBounds,HT.sIx,Option.getD_none,show (1:Int) > 0 by decide,if_true]
   by_cases h:i<0
   ·simp only [h,if_true]<;>omega
   ·simp only [h,if_false]<;>omega
theorem slicePick_cut (its:List Value)(lo hi:Option Int):slicePick its.toArray lo hi none=((its.drop (HT.sIx its.length 0 lo)).take (HT.sIx its.length its.length hi - HT.sIx its.length 0 lo)).toArray:=by
 obtain⟨h1,h2,h3⟩:=slice_bounds lo hi its.toArray.size
 unfold slicePick
 rw [h1,h2,h3]
 simp only [sliceRange_one,pick_run,List.size_toArray]<;>rfl
noncomputable def rSlL (K:PySem.W.Frag):V->Option Int->Option Int->Hp->VK->Prop:=fun x lo hi H Q=>∃ a xs,x = .ref a/\SqL K H a xs/\∀ p,H p=none->Q (.ref p) (upd H p (.lst (cutV xs lo hi)))
theorem sl_list:SlR X (rSlL X.K):=by
 intro pins s σ H x v vl vu lo hi sl Q I rx hs pl pu h
 obtain⟨a,xs,rfl,hx,q⟩:=h
 cases rx
 obtain⟨its,r,ht,hz⟩:=I.list hx
 have hlen:=r.length
 refine⟨"list",_,slot_list_getitem.lookup,ht.isList.typeIs,?_⟩
 refine wpAny_getItem_list_slice ht.isList hs pl pu .none (by simp) ?_ (by rw [List.size_toArray]<;>omega)
 rw [slicePick_cut,← hlen]
 refine⟨.ref s.heap.objs.size,_,I.laid (t':=s.toks) (o:=.lst (cutV xs lo hi)) (fun b ob q=>Heap.get?_push_of_some _ q) (Nat.le_refl _) ?_,rfl,q _ (I.hok.fresh (Nat.le_refl _))⟩
 exact⟨Nat.le_trans (cutV_length xs lo hi) hz,_,0,(r.drop (HT.sIx xs.length 0 lo)).take (HT.sIx xs.length xs.length hi - HT.sIx xs.length 0 lo),Heap.get?_push_size _ rfl⟩
noncomputable def flatV:V->Bool
 | .non=>true
 | .bl _=>true
 | .int _=>true
 | .str _=>true
 | _=>false
noncomputable def eqV:V->V->Bool
 | .non,.non=>true
 | .bl a,.bl b=>a == b
 | .bl a,.int b=>(if a then 1 else 0) == b
 | .int a,.bl b=>a == (if b then 1 else 0)
 | .int a,.int b=>a == b
 | .str a,.str b=>a == b
 | _,_=>false
theorem eqAt_V {A:Around}{s:Shared}{y x:V}{u v:Value}(ry:RelV y u)(rx:RelV x v)(fy:flatV y=true)(fx:flatV x=true):SeqAt.EqAt A s u v (eqV y x):=by
 cases y with
 | non=>
  cases ry
  cases x with
  | non=>cases rx;exact SeqAt.EqAt.same _
  | bl b=>cases rx;exact SeqAt.EqAt.none_bool b
  | int b=>obtain⟨t,rfl⟩:=rx;exact SeqAt.EqAt.none_int b t
  | str b=>obtain⟨t,rfl⟩:=rx;exact SeqAt.EqAt.none_str b t
  | _=>exact absurd (show false=true from fx) Bool.false_ne_true
 | bl a=>
  cases ry
  cases x with
  | non=>cases rx;exact SeqAt.EqAt.bool_none a
  | bl b=>cases rx;exact SeqAt.EqAt.bool_bool a b
  | int b=>obtain⟨t,rfl⟩:=rx;exact SeqAt.EqAt.bool_int a b t
  | str b=>obtain⟨t,rfl⟩:=rx;exact SeqAt.EqAt.bool_str a b t
  | _=>exact absurd (show false=true from fx) Bool.false_ne_true
 | int a=>
  obtain⟨t',rfl⟩:=ry
  cases x with
  | non=>cases rx;exact SeqAt.EqAt.int_none a t'
  | bl b=>cases rx;exact SeqAt.EqAt.int_bool a t' b
  | int b=>obtain⟨t,rfl⟩:=rx;exact SeqAt.EqAt.int_int a t' b t
  | str b=>obtain⟨t,rfl⟩:=rx;exact SeqAt.EqAt.int_str a t' b t
  | _=>exact absurd (show false=true from fx) Bool.false_ne_true
 | str a=>
  obtain⟨t',rfl⟩:=ry
  cases x with
  | non=>cases rx;exact SeqAt.EqAt.str_none a t'
  | bl b=>cases rx;exact SeqAt.EqAt.str_bool a t' b
  | int b=>obtain⟨t,rfl⟩:=rx;exact SeqAt.EqAt.str_int a t' b t
  | str b=>obtain⟨t,rfl⟩:=rx;exact SeqAt.EqAt.str_str a t' b t
  | _=>exact absurd (show false=true from fx) Bool.false_ne_true
 | _=>exact absurd (show false=true from fy) Bool.false_ne_true
noncomputable def eqU (x:V) (u:Value):Bool:=match u with
 | .none=>eqV .non x
 | .bool b=>eqV (.bl b) x
 | .int i _=>eqV (.int i) x
 | .str z _=>eqV (.str z) x
 | _=>false
theorem eqU_of {x y:V}{u:Value}(r:RelV y u)(f:flatV y=true):eqU x u=eqV y x:=by
 cases y with
 | non=>cases r;rfl
 | bl b=>cases r;rfl
 | int i=>obtain⟨t,rfl⟩:=r;rfl
 | str z=>obtain⟨t,rfl⟩:=r;rfl
 | _=>exact absurd (show false=true from f) Bool.false_ne_true
theorem any_eqU {x:V}:∀ {xs:List V} {us:List Value},Vals xs us->xs.all flatV=true->us.any (eqU x)=xs.any fun y=>eqV y x
 | _,_,.nil,_=>rfl
 | y::xs,u::us,.cons r t,f=>by
  rw [List.all_cons,Bool.and_eq_true] at f
  rw [List.any_cons,List.any_cons,eqU_of r f.1,any_eqU t f.2]
theorem mem_eqAt {A:Around}{s:Shared}{x:V}{v:Value}(rx:RelV x v)(fx:flatV x=true):∀ {xs:List V} {us:List Value},Vals xs us->xs.all flatV=true->∀ u∈us,SeqAt.EqAt A s u v (eqU x u)
 | _,_,.nil,_=>fun u hu=>by cases hu
 | y::xs,u::us,.cons r t,f=>fun u' hu=>by
  rw [List.all_cons,Bool.and_eq_true] at f
  rcases List.mem_cons.mp hu with rfl | hu
  ·rw [eqU_of r f.1];exact eqAt_V r rx f.1 fx
  ·exact mem_eqAt rx fx t f.2 u' hu
noncomputable def inV (x:V) (xs:List V):Bool:=xs.any fun y=>eqV y x
noncomputable def rIn (K:PySem.W.Frag) (neg:Bool):R2:=fun x y H Q=>∃ p xs,y = .ref p/\(SqL K H p xs ∨ SqT K H p xs)/\flatV x=true/\xs.all flatV=true/\Q (.bl (if neg then !inV x xs else inV x xs)) H
theorem op_in_seq:OpR X (compareOp .In) (rIn X.K false):=by
 intro pins s σ H x y v u Q I rx ry h
 obtain⟨p,xs,rfl,hq,fx,fs,q⟩:=h
 cases ry
 rcases hq with hq | hq
 ·obtain⟨its,r,pl,hz⟩:=I.list hq
  refine SeqAt.in_listAt (eqU x) pl.isList (fun w hw=>mem_eqAt rx fx r fs w (by simpa using hw)) ⟨.bl _,H,I,rfl,?_⟩
  rw [show its.toArray.any (eqU x)=its.any (eqU x) by simp,any_eqU r fs]
  exact q
 ·obtain⟨its,r,pl,hz⟩:=I.tuple hq
  refine SeqAt.in_tupleAt (eqU x) pl (fun w hw=>mem_eqAt rx fx r fs w (by simpa using hw)) ⟨.bl _,H,I,rfl,?_⟩
  rw [show its.toArray.any (eqU x)=its.any (eqU x) by simp,any_eqU r fs]
  exact q
theorem call_len_seq:CallR X (.builtin "len") (fun xs H Q=>∃ p ys,xs = [.ref p]/\(SqL X.K H p ys ∨ SqT X.K H p ys)/\Q (.int ys.length) H):=by
 intro pins s σ H xs us Q I r h
 obtain⟨p,ys,rfl,hq,q⟩:=h
 obtain⟨u,rfl,rx⟩:=vals1 r
 cases rx
 have hn:=line63
 rcases hq with hq | hq
 ·obtain⟨its,r',pl,hz⟩:=I.list hq
  have hlen:=r'.length
  exact Calls.call_len_list pl.isList (by simp only [List.size_toArray]<;>omega) ⟨.int ys.length,H,I.tok _,⟨s.toks+1,by rw [List.size_toArray,hlen]⟩,q⟩
 ·obtain⟨its,r',pl,hz⟩:=I.tuple hq
  have hlen:=r'.length
  exact len_tuple pl (by simp only [List.size_toArray]<;>omega) ⟨.int ys.length,H,I.tok _,⟨s.toks+1,by rw [List.size_toArray,hlen]⟩,q⟩
theorem call_len_str:CallR X (.builtin "len") (fun xs H Q=>∃ z,xs = [.str z]/\z.length<=sizeLine/\Q (.int z.length) H):=by
 intro pins s σ H xs us Q I r h
 obtain⟨z,rfl,hz,q⟩:=h
 obtain⟨u,rfl,t,rfl⟩:=vals1 r
 have hn:=line63
 exact len_str (by omega) ⟨.int z.length,H,I.tok _,⟨_,rfl⟩,q⟩
theorem CallR.or {f:Value}{r r':List V->Hp->VK->Prop}(h:CallR X f r)(h':CallR X f r'):CallR X f (fun xs H Q=>r xs H Q ∨ r' xs H Q):=by
 intro pins s σ H xs us Q I rs q
 rcases q with q | q
 ·exact h pins s σ H xs us Q I rs q
 ·exact h' pins s σ H xs us Q I rs q
theorem call_list_of:CallR X (.type "list") (fun xs H Q=>∃ p ys,xs = [.ref p]/\(SqL X.K H p ys ∨ SqT X.K H p ys)/\∀ l,H l=none->Q (.ref l) (upd H l (.lst ys))):=by
 intro pins s σ H xs us Q I r h
 obtain⟨p,ys,rfl,hq,q⟩:=h
 obtain⟨u,rfl,rx⟩:=vals1 r
 cases rx
 have fin:∀ (its:List Value),Vals ys its->ys.length<=sizeLine->∀ (h':Heap) (c':Nat),(∀ b o',s.heap.get? b=some o'->h'.get? b=some o') →
   h'.get? s.heap.objs.size=some { cls:=.type "list",dict:=none,data:=.seq its.toArray c',slots:=#[] }->EP X pins σ Q (.ref s.heap.objs.size) { s with heap:=h' }:=fun its r' hz h' c' kp e=>
  ⟨.ref s.heap.objs.size,_,I.laid (t':=s.toks) kp (Nat.le_refl _) (show ObjOk X.prog X.w _ h' _ (.lst ys) from⟨hz,its,c',r',e⟩),rfl,q _ (I.hok.fresh (Nat.le_refl _))⟩
 rcases hq with hq | hq
 ·obtain⟨its,r',pl,hz⟩:=I.list hq
  have hlen:=r'.length
  obtain⟨o,ho,hc,n,hd⟩:=pl.isList
  exact call_list_seq p (.inl rfl) ho hc hd (fun h' c' kp e=>fin its r' hz h' c' kp e) (by simp only [List.size_toArray]<;>omega)
 ·obtain⟨its,r',pl,hz⟩:=I.tuple hq
  have hlen:=r'.length
  obtain⟨o,ho,hc,n,hd⟩:=pl
  exact call_list_seq p (.inr rfl) ho hc hd (fun h' c' kp e=>fin its r' hz h' c' kp e) (by simp only [List.size_toArray]<;>omega)
theorem call_tuple_of:CallR X (.type "tuple") (fun xs H Q=>∃ p ys,xs = [.ref p]/\((SqL X.K H p ys/\∀ l,H l=none->Q (.ref l) (upd H l (.tup ys))) ∨ (SqT X.K H p ys/\Q (.ref p) H))):=by
 intro pins s σ H xs us Q I r h
 obtain⟨p,ys,rfl,h⟩:=h
 obtain⟨u,rfl,rx⟩:=vals1 r
 cases rx
 rcases h with⟨hq,q⟩ | ⟨hq,q⟩
 ·obtain⟨its,r',pl,hz⟩:=I.list hq
  have hlen:=r'.length
  refine call_tuple_list pl.isList (fun h' kp=>?_) (by simp only [List.size_toArray]<;>omega)
  have I1:Inv X pins σ H { s with heap:=h' }:=I.kept (t':=s.toks) kp
  have I2:Inv X pins σ (upd H h'.objs.size (.tup ys)) { s with heap:=h'.push { cls:=.type "tuple",data:=.seq its.toArray } }:=
   I1.laid (t':=s.toks) (fun b o e=>Heap.get?_push_of_some _ e) (Nat.le_refl _) (show ObjOk X.prog X.w _ _ _ (.tup ys) from⟨hz,its,r',IsTup.new _ _⟩)
  exact⟨.ref h'.objs.size,_,I2,rfl,q _ (I1.hok.fresh (Nat.le_refl _))⟩
 ·obtain⟨its,r',pl,hz⟩:=I.tuple hq
  exact call_tuple_same pl ⟨.ref p,H,I,rfl,q⟩
noncomputable def tyV (K:PySem.W.Frag) (T:String) (x:V) (H:Hp):Prop:=match x with
 | .str _=>T = "str"
 | .int _=>T = "int"
 | .ref p=>(T = "list" ∧ ∃ xs,SqL K H p xs) ∨ (T = "tuple" ∧ ∃ o,K.lookup p=some o/\o.cls = .type "tuple" ∧ o.dict=none) ∨
   (T = "dict" ∧ ((∃ kvs,H p=some (.dK kvs)) ∨ ∃ kvs,H p=some (.dT kvs))) ∨ (T = "set" ∧ ∃ S n,H p=some (.set S n))
 | _=>False
theorem tyV_is {pins:List (Addr×Obj)}{σ:St}{H:Hp}{s:Shared}{T:String}{x:V}{v:Value}(I:Inv X pins σ H s)(r:RelV x v)(ty:tyV X.K T x H) :
  s.TypeIs v T/\∀ a,v = .ref a->∃ ob,s.heap.get? a=some ob/\ob.dict=none:=by
 cases x with
 | str z=>
  obtain⟨t,rfl⟩:=r
  cases (show T = "str" from ty)
  exact⟨typeIs_str s z t,fun _ e=>nomatch e⟩
 | int i=>
  obtain⟨t,rfl⟩:=r
  cases (show T = "int" from ty)
  exact⟨typeIs_int s i t,fun _ e=>nomatch e⟩
 | ref p=>
  cases r
  rcases ty with⟨rfl,xs,hq⟩ | ⟨rfl,o,hk,hc,hd⟩ | ⟨rfl,hk⟩ | ⟨rfl,S,n,hk⟩
  ·obtain⟨its,_,pl,_⟩:=I.list hq
   refine⟨pl.isList.typeIs,fun a e=>?_⟩
   cases e
   obtain⟨o,n,e,c,hd,_⟩:=pl
   exact⟨o,e,hd⟩
  ·refine⟨⟨o,I.kIn p o hk,hc⟩,fun a e=>?_⟩
   cases e
   exact⟨o,I.kIn _ o hk,hd⟩
  ·have z:∃ o,s.heap.get? p=some o/\o.ExactDict:=by
    rcases hk with⟨kvs,hk⟩ | ⟨kvs,hk⟩
    ·obtain⟨_,_,_,_,o,_,_,e,ex,_⟩:=I.hok p _ hk
     exact⟨o,e,ex⟩
    ·obtain⟨_,_,_,_,o,_,_,e,ex,_⟩:=I.hok p _ hk
     exact⟨o,e,ex⟩
   obtain⟨o,e,ex⟩:=z
   refine⟨⟨o,e,ex.1⟩,fun a e2=>?_⟩
   cases e2
   exact⟨o,e,ex.2.1⟩
  ·obtain⟨o,_,_,_,e,ex,_⟩:=I.hok p _ hk
   refine⟨⟨o,e,ex.1⟩,fun a e2=>?_⟩
   cases e2
   exact⟨o,e,ex.2.1⟩
 | _=>exact False.elim ty
noncomputable def tBM (K:PySem.W.Frag) (T:String) (r:V->List V->Hp->VK->Prop) (to:TE) (t:TA):TE:=fun σ H Q=>to σ H fun x H1=>tyV K T x H1/\t σ H1 fun xs H2=>r x xs H2 Q
variable  {o e:Expr}{es:List Expr}{to:TE}{t:TA}{name:Str}{apos cpos:Pos}{T id:String}{r:V->List V->Hp->VK->Prop}
theorem pe_bm (pa:PlainAttrs T)(slot:Slot T name id)(hty:typeOf (.builtin id)=pure (.type "method_descriptor"))(hm:MtR X id r)(ho:PE X o to)(ha:PA X (e::es) t)
  (hbase:attributeBase o name X.env (eval o X.env)=eval o X.env:=by rfl)
  (hfew:((backTo cpos (starEach (e::es) X.env)).all (fun x=>!x.1) && (backToKw cpos (keywordEach [] X.env)).all (fun x=>x.1.isSome)
   && decide ((e::es).length+([]:List Keyword).length+(if ([]:List Keyword).isEmpty then 0 else 1)<30))=true:=by rfl)
  (hline:(apos.endLine == cpos.line)=true:=by rfl) (hs:starEach (e::es) X.env=(false,eval e X.env)::starEach es X.env:=by rfl) (hplain:(backTo cpos (starEach es X.env)).any (·.1)=false:=by rfl) :
  PE X (.Call (.Attribute o name apos) (e::es) [] cpos) (tBM X.K T r to t):=by
 intro pins s σ H Q I h
 refine wpAny_Call_method_late hbase hfew hline rfl (thn (ho pins s σ H _ I h) fun v s1 ⟨x,H1,I1,r1,ty,q1⟩=>?_)
 obtain⟨h1,h2⟩:=tyV_is I1 r1 ty
 refine⟨T,id,pa,slot,hty,h1,h2,?_⟩
 have hA:=ha cpos pins s1 σ H1 _ I1 q1
 rw [hs] at hA ⊢
 refine Calls.callWith_builtin (by show (false || (backTo cpos (starEach es X.env)).any (·.1))=false;rw [hplain]<;>rfl) (Calls.evalArgs_plain ?_)
 exact thn hA fun us s2 ⟨vs,H2,I2,r2,q2⟩=>hm pins s2 σ H2 x vs v us Q I2 r1 r2 q2
end
end L2
namespace L2
open PySem PySem.Spec PyProof.Rows
noncomputable def MtM (X:Cx) (id:String) (r:V->List V->Hp->VK->Prop):Prop:=
 ∀ (pins:List (Addr×Obj)) (s:Shared) (σ:St) (H:Hp) (x:V) (xs:List V) (v:Value) (us:List Value) (Q:VK),Inv X pins σ H s->RelV x v->Vals xs us->r x xs H Q →
  wpAny (model X.prog X.w) X.A (call (.builtin id) (v::us)) (EP X pins σ Q) X.xe s
theorem Vals.one:∀ {x:V} {us:List Value},Vals [x] us->∃ u,us = [u]/\RelV x u
 | _,_,.cons r .nil=>⟨_,rfl,r⟩
theorem Vals.rep {xs:List V}{us:List Value}(h:Vals xs us):∀ k:Nat,Vals (List.replicate k xs).flatten (List.replicate k us).flatten
 | 0=>.nil
 | k+1=>by
  rw [List.replicate_succ,List.replicate_succ,List.flatten_cons,List.flatten_cons]
  exact Vals.append h (Vals.rep h k)
theorem zae (its:List Value):∀ (k:Nat) (acc:List Value),
  List.foldl (fun x1 x2=>x1++x2) acc.toArray (List.replicate k its.toArray)=(acc++(List.replicate k its).flatten).toArray
 | 0,acc=>by simp
 | k+1,acc=>by
  have e:acc.toArray++its.toArray=(acc++its).toArray:=by simp
  have e2:(acc++its)++(List.replicate k its).flatten=acc++(List.replicate (k+1) its).flatten:=by
   rw [List.replicate_succ,List.flatten_cons,List.append_assoc]
  rw [← e2,← zae its k (acc++its),← e,List.replicate_succ,List.foldl_cons]
section
variable  {X:Cx}{pins:List (Addr×Obj)}{σ:St}{H:Hp}{s:Shared}{l b:Addr}{xs ys zs:List V}
theorem Inv.lset {its its':List Value}{n:Nat}{f:Array Value->Array Value}{t':Nat}(I:Inv X pins σ H s)(hH:H l=some (.lst xs))
  (e:s.heap.get? l=some { cls:=.type "list",data:=.seq its.toArray n }) (hf:f its.toArray=its'.toArray) (hv:Vals ys its') (hz:ys.length<=sizeLine) :
  Inv X pins σ (upd H l (.lst ys)) { s with heap:=s.heap.update l (Obj.mapSeq f),toks:=t' }:=by
 have q:=PySem.IsL.update e f
 rw [hf] at q
 refine I.write (x:=l) (e:=l) (by rw [hH];exact trivial) (.inl rfl) (fun b' u hb hu=>(Heap.get?_update_other s.heap (Obj.mapSeq f) (Ne.symm hb)).trans hu) ⟨_,q⟩ ?_
 exact⟨hz,its',_,hv,q⟩
theorem Inv.lnew {its:List Value}{t':Nat}(I:Inv X pins σ H s)(hv:Vals ys its)(hz:ys.length<=sizeLine) :
  Inv X pins σ (upd H s.heap.objs.size (.lst ys)) { s with heap:=s.heap.push { cls:=.type "list",data:=.seq its.toArray },toks:=t' }:=
 I.laid (fun _ _ q=>Heap.get?_push_of_some _ q) (Nat.le_refl _) ⟨hz,its,0,hv,Heap.get?_push_size _ rfl⟩
theorem Inv.fresh (I:Inv X pins σ H s):H s.heap.objs.size=none:=I.hok.fresh (Nat.le_refl _)
theorem Inv.lstM (I:Inv X pins σ H s)(hH:H l=some (.lst xs)):xs.length<=sizeLine/\∃ (its:List Value) (n:Nat),Vals xs its/\xs.length=its.length/\s.heap.get? l=some { cls:=.type "list",data:=.seq its.toArray n }:=by
 obtain⟨z,its,n,r,e⟩:=I.hok l _ hH
 exact⟨z,its,n,r,r.length,e⟩
theorem zsd {n:Nat}(h:n<=sizeLine):Builtin.List.listTooLong n=false:=by
 unfold Builtin.List.listTooLong
 exact decide_eq_false (by omega)
end
section
variable  {X:Cx}
noncomputable def rAppend:V->List V->Hp->VK->Prop:=fun x vs H Q=>∃ l xs y,x = .ref l/\vs = [y]/\H l=some (.lst xs)/\xs.length<sizeLine/\Q .non (upd H l (.lst (xs++[y])))
theorem mt_append:MtM X "list.append" rAppend:=by
 intro pins s σ H x vs v us Q I rx rv h
 obtain⟨l,xs,y,rfl,rfl,hH,hz,q⟩:=h
 cases rx
 obtain⟨u,rfl,ru⟩:=rv.one
 obtain⟨z,its,n,r,hl,e⟩:=I.lstM hH
 refine call_meets F.slot_list_append ⟨_,e,rfl⟩ F.entry_list_append (F.args_list_append_2 _ _) (PySem.list_append l its.toArray n u (by rw [List.size_toArray];omega)) ⟨e,?_⟩
 refine⟨.non,_,I.lset (its':=its++[u]) hH e (by simp) (r.append (.cons ru .nil)) ?_,rfl,q⟩
 rw [List.length_append,List.length_singleton]
 omega
noncomputable def rExtend:V->List V->Hp->VK->Prop:=fun x vs H Q=>∃ l b xs zs,x = .ref l/\vs = [.ref b]/\H l=some (.lst xs)/\H b=some (.lst zs)/\xs.length+zs.length<=sizeLine/\Q .non (upd H l (.lst (xs++zs)))
theorem mt_extend:MtM X "list.extend" rExtend:=by
 intro pins s σ H x vs v us Q I rx rv h
 obtain⟨l,b,xs,zs,rfl,rfl,hH,hB,hz,q⟩:=h
 cases rx
 obtain⟨u,rfl,ru⟩:=rv.one
 cases ru
 obtain⟨z,its,n,r,hl,e⟩:=I.lstM hH
 obtain⟨z2,its2,n2,r2,hl2,e2⟩:=I.lstM hB
 have hsz:its.toArray.size+its2.toArray.size<=sizeLine:=by rw [List.size_toArray,List.size_toArray];omega
 have hlong:¬ (!its.toArray.isEmpty && Builtin.List.listTooLong (its.toArray.size+its2.toArray.size))=true:=by
  rw [zsd hsz,Bool.and_false]
  exact Bool.false_ne_true
 refine call_meets F.slot_list_extend ⟨_,e,rfl⟩ F.entry_list_extend (F.args_list_extend_2 _ _)
  (AutoSeq1.list_extend_list_list_0 l its.toArray n b its2.toArray n2 hlong (by rw [List.size_toArray];omega) (by omega)) ⟨e,e2,?_⟩
 refine⟨.non,_,I.lset (its':=its++its2) hH e (by simp) (r.append r2) ?_,rfl,q⟩
 rw [List.length_append]
 omega
noncomputable def rCat:R2:=fun x y H Q=>∃ l b xs zs,x = .ref l/\y = .ref b/\H l=some (.lst xs)/\H b=some (.lst zs)/\xs.length+zs.length<=sizeLine/\∀ p,H p=none->Q (.ref p) (upd H p (.lst (xs++zs)))
theorem op_cat:OpR X (binaryOp .Add) rCat:=by
 intro pins s σ H x y v u Q I rx ry h
 obtain⟨l,b,xs,zs,rfl,rfl,hH,hB,hz,q⟩:=h
 cases rx
 cases ry
 obtain⟨z,its,n,r,hl,e⟩:=I.lstM hH
 obtain⟨z2,its2,n2,r2,hl2,e2⟩:=I.lstM hB
 refine PySem.P.add_list e e2 ?_ (by rw [List.size_toArray,List.size_toArray];omega)
 have ea:its.toArray++its2.toArray=(its++its2).toArray:=by simp
 rw [ea]
 exact⟨.ref _,_,I.lnew (t':=s.toks) (r.append r2) (by rw [List.length_append];omega),rfl,q _ I.fresh⟩
noncomputable def rRep:R2:=fun x y H Q=>∃ l k xs,x = .ref l/\y = .int k/\H l=some (.lst xs)/\-(2 ^ 63)<=k/\k<2 ^ 63/\xs.length * k.toNat<=sizeLine ∧
 ∀ p,H p=none->Q (.ref p) (upd H p (.lst (List.replicate k.toNat xs).flatten))
theorem len_rep {α:Type}(xs:List α)(k:Nat):(List.replicate k xs).flatten.length=k * xs.length:=by
 induction k with
 | zero=>simp
 | succ k ih=>rw [List.replicate_succ,List.flatten_cons,List.length_append,ih,Nat.succ_mul,Nat.add_comm]
theorem op_rep:OpR X (binaryOp .Mult) rRep:=by
 intro pins s σ H x y v u Q I rx ry h
 obtain⟨l,k,xs,rfl,rfl,hH,h1,h2,hz,q⟩:=h
 cases rx
 obtain⟨t,rfl⟩:=ry
 obtain⟨z,its,n,r,hl,e⟩:=I.lstM hH
 have hlen:its.toArray.size * k.toNat<=sizeLine:=by rw [List.size_toArray,← hl];exact hz
 have hcap:¬ its.toArray.size * k.toNat > (2 ^ 63 - 1) / 8:=by
  have:(sizeLine:Nat)<=(2 ^ 63 - 1) / 8:=by decide
  omega
 have hfit:¬ (!Builtin.List.listFitsIndex k)=true:=by
  rw [fitsIndex_both h1 h2]
  exact Bool.false_ne_true
 have hlong:¬ Builtin.List.listTooLong (its.toArray.size * k.toNat)=true:=by
  rw [zsd hlen]
  exact Bool.false_ne_true
 have hnew:List.foldl (fun x1 x2=>x1++x2) #[] (List.replicate (if its.toArray.isEmpty=true then 0 else k.toNat) its.toArray)=(List.replicate k.toNat its).flatten.toArray:=by
  have f0:∀ m:Nat,List.foldl (fun x1 x2=>x1++x2) #[] (List.replicate m its.toArray)=(List.replicate m its).flatten.toArray:=fun m=>by
   have:=zae its m []
   rw [List.nil_append] at this
   exact this
  rw [f0]
  cases its with
  | nil=>simp
  | cons a r'=>rw [if_neg (by simp)]
 refine wpAny_binaryOp_repeat_ref (T:="list") (U:="int") (by decide) ⟨_,e,rfl⟩ (fun s'=>typeIs_int s' k t) noFill_list_mul F.fills_int_mul F.slot_int_rmul repeat_list F.slot_int_index.lookup
  (call_meets F.slot_int_rmul (typeIs_int s k t) F.entry_int_rmul (F.args_int_rmul_2 _ _) (int___rmul___int_list k t l its.toArray n)
   ⟨e,rfl,⟨_,e,rfl⟩,call_meets F.slot_list_mul ⟨_,e,rfl⟩ F.entry_list_mul (F.args_list_mul_2 _ _) (AutoListH.list___mul___list_int_3 l its.toArray n k t hfit hcap hlong) ⟨e,?_⟩⟩)
 rw [hnew]
 exact⟨.ref _,_,I.lnew (t':=s.toks) (r.rep k.toNat) (by rw [len_rep,Nat.mul_comm];exact hz),rfl,q _ I.fresh⟩
end
section
variable  {prog:Program}{w:World}{A:Around}{E:Value->Shared->Prop}{s:Shared}
theorem splice_eq (its its2:List Value)(a c:Nat):its.toArray.extract 0 a++its2.toArray++its.toArray.extract c its.toArray.size=(its.take a++its2++its.drop c).toArray:=by
 apply Array.toList_inj.mp
 first
  | (simp
     exact List.take_of_length_le (by simp))
  | simp [List.take_of_length_le]
  | simp
theorem bounds_run {a c n:Nat}(hac:a<=c)(hc:c<=n):sliceBounds (some (a:Int)) (some (c:Int)) none n=((a:Int),(c:Int),1):=by
 simp only [sliceBounds,Option.getD_none]
 have h1:¬ ((a:Int)<0):=by omega
 have h2:¬ ((c:Int)<0):=by omega
 simp only [h1,h2,if_false,show (1:Int) > 0 by decide,if_true]
 congr 1
 ·omega
 ·congr 1;omega
set_option maxRecDepth 100000 in
theorem setItem_slice {l b sl:Addr}{items new:Array Value}{n n2:Nat}{vl vu:Value}{a c:Nat}{Q:Unit->Shared->Prop}
  (e:s.heap.get? l=some { cls:=.type "list",data:=.seq items n }) (e2:s.heap.get? b=some { cls:=.type "list",data:=.seq new n2 }) (hne:l≠b)
  (hs:s.heap.IsSliceOf sl vl vu .none) (pl:IsPart vl (some (a:Int))) (pu:IsPart vu (some (c:Int))) (hac:a<=c) (hc:c<=items.size)
  (hsz:items.size+new.size<=sizeLine) (h:Q () { s with heap:=s.heap.update l (Obj.mapSeq fun xs=>xs.extract 0 a++new++xs.extract c xs.size) }) :
  wpAny (model prog w) A (setItem (.ref l) (.ref sl) (.ref b)) Q E s:=by
 have hl:s.heap.IsList l items:=PySem.IsL.isList e
 have hb:s.heap.IsList b new:=PySem.IsL.isList e2
 obtain⟨os,hos,hcs,hds⟩:=id hs
 have hTs:s.TypeIs (.ref sl) "slice" :=⟨os,hos,hcs⟩
 have hstep:¬ ((rawPart none == rawInt 0)=true):=Bool.false_ne_true
 have hsame:Builtin.List.listSameRef (.ref l) (.ref b)=false:=by
  unfold Builtin.List.listSameRef
  exact beq_eq_false_iff_ne.mpr hne
 have hmax:(max (a:Int) (c:Int)).toNat=c:=by omega
 have hz':((fun xs:Array Value=>xs.extract 0 a++new++xs.extract c xs.size) items).size<=sizeLine+1:=by
  simp only [Array.size_append,Array.size_extract]
  omega
 unfold setItem
 try with_reducible refine wpAny_holding ?_
 first | refine wpAny_bind (wpAny_pure ?_) | skip
 refine wpAny_bind (wpAny_sequenceKey hl.typeIs (by decide) ?_)
 refine wpAny_bind (wpAny_callSpecial?_slot (name:=Str.ofString "__setitem__") hl.typeIs slot_list_setitem
  (wpAny_call_entry slot_list_setitem hl.typeIs entry_list_setitem ?_ (args_list_setitem _ _ _)))
 show wpAny _ _ (Builtin.List.listSubscript? (.ref sl) >>= _) _ _ s
 refine wpAny_bind ?_
 unfold Builtin.List.listSubscript?
 refine wpAny_bind (wpAny_specialOf hTs slice_no_index ?_)
 simp only [Option.isNone_none,if_true]
 refine wpAny_pure ?_
 show wpAny _ _ (typeOf (.ref sl) >>= _) _ _ s
 refine wpAny_bind (wpAny_typeOf hTs ?_)
 first
  | rw [if_neg (by decide)]
  | refine PySem.W.KFB.if_not (by decide) ?_
 rw [listSliceParts_eq]
 refine wpAny_bind (wpAny_bind (wpAny_field hos hds (x:=.none) rfl (wpAny_bind (wpAny_listPart .none ?_))))
 rw [if_neg hstep]
 refine wpAny_bind (wpAny_field hos hds (x:=vl) rfl (wpAny_bind (wpAny_listPart pl ?_)))
 refine wpAny_bind (wpAny_field hos hds (x:=vu) rfl (wpAny_bind (wpAny_listPart pu (wpAny_pure ?_))))
 first
  | simp only [hsame,Bool.false_eq_true,if_false]
  | refine PySem.W.KFB.if_not hsame ?_
  | (dsimp only
     rw [if_neg (by rw [hsame];exact Bool.false_ne_true)])
 refine wpAny_bind (m:=Builtin.List.listAllItems (.ref b) "must assign iterable to extended slice") ?_
 unfold Builtin.List.listAllItems
 refine wpAny_bind (wpAny_typeOf hb.typeIs ?_)
 first
  | refine PySem.W.KFB.if_so (by decide) ?_
  | rw [if_pos (by decide)]
  | simp only [beq_self_eq_true,Bool.true_or,if_true]
 unfold Builtin.List.listItems
 refine wpAny_bind (wpAny_seqItems e2 rfl (wpAny_pure ?_))
 refine wpAny_bind (wpAny_bind (wpAny_seqItems e rfl (wpAny_pure ?_)))
 refine wpAny_bind (wpAny_of_eq ((sliceIndices_raw (some (a:Int)) (some (c:Int)) none items.size (by simp)).trans (congrArg (pure:Int×Int×Int->Sem (Int×Int×Int)) (bounds_run hac hc))) ?_)
 show wpAny _ _ (if ((1:Int) == 1)=true then _ else _) _ _ s
 rw [if_pos (by decide)]
 refine wpAny_bind (wpAny_rule ?_)
 first
  | simp only [zsd hsz,Bool.false_eq_true,if_false]
  | refine PySem.W.KFB.if_not (zsd hsz) ?_
 first | refine wpAny_bind (wpAny_pure ?_) | skip
 show wpAny _ _ (updateSeq l (fun xs=>xs.extract 0 ((a:Int)).toNat++new++xs.extract (max (a:Int) (c:Int)).toNat xs.size) >>= _) _ _ s
 rw [hmax,Int.toNat_natCast]
 refine wpAny_bind (wpAny_updateSeq (hz:=Nat.le_trans (Nat.le_add_right _ _) hsz) (_hz':=hz') e rfl ?_)
 refine wpAny_bind (wpAny_letGo ?_)
 first
  | exact wpAny_bind (wpAny_pure (wpAny_pure ⟨.none,rfl,wpAny_pure h⟩))
  | exact wpAny_pure ⟨.none,rfl,wpAny_pure h⟩
end
section
variable  {X:Cx}
theorem set_slice {pins:List (Addr×Obj)}{s:Shared}{σ:St}{H:Hp}{l b sl:Addr}{xs ys:List V}{a c:Int}{vl vu:Value}{Q:Unit->Shared->Prop}(I:Inv X pins σ H s)
  (hH:H l=some (.lst xs)) (hB:H b=some (.lst ys)) (hne:l≠b) (hs:s.heap.IsSliceOf sl vl vu .none) (ra:RelV (.int a) vl) (rc:RelV (.int c) vu) (h0:0<=a) (hac:a<=c) (hc:c<=xs.length)
  (hz:xs.length+ys.length<=sizeLine) (h:∀ s',Inv X pins σ (upd H l (.lst (xs.take a.toNat++ys++xs.drop c.toNat))) s'->Q () s') :
  wpAny (model X.prog X.w) X.A (setItem (.ref l) (.ref sl) (.ref b)) Q X.xe s:=by
 obtain⟨ta,rfl⟩:=ra
 obtain⟨tc,rfl⟩:=rc
 obtain⟨z,its,n,r,hl,e⟩:=I.lstM hH
 obtain⟨z2,its2,n2,r2,hl2,e2⟩:=I.lstM hB
 obtain⟨a',rfl⟩:=Int.eq_ofNat_of_zero_le h0
 obtain⟨c',rfl⟩:=Int.eq_ofNat_of_zero_le (Int.le_trans h0 hac)
 simp only [Int.toNat_natCast] at h
 refine setItem_slice (a:=a') (c:=c') e e2 hne hs (.int _ _) (.int _ _) (by omega) (by rw [List.size_toArray];omega) (by rw [List.size_toArray,List.size_toArray];omega) (h _ ?_)
 refine I.lset (its':=its.take a'++its2++its.drop c') (t':=s.toks) hH e ?_ (Vals.append (Vals.append (r.take _) r2) (r.drop _)) ?_
 ·exact splice_eq its its2 a' c'
 ·rw [List.length_append,List.length_append,List.length_take,List.length_drop]
  omega
end
end L2
namespace Att
open PySem PySem.W PySem.Calls PyProof.Rows
theorem ints_of_wellAll {P:Params}{h:Heap}:∀ (ns:List Int) (vs:List Value),WellAll P h vs (ns.map WData.int)->IntsAre vs ns:=by
 intro ns
 induction ns with
 | nil=>
  intro vs w
  rw [List.map_nil] at w
  cases w
  exact .nil
 | cons n ns ih=>
  intro vs w
  rw [List.map_cons] at w
  cases w with
  | cons a b=>
   cases a
   exact .cons _ _ (ih _ b)
theorem script_of {l:OpenLaw}{n:Nat}(hn:l.most=some n){P:Params}{h:Heap}{args:List WData}{vals:List Value}
  (hpre:l.row.toRowW.claim.pre args=true) (hwl:WellAll P h vals args) :
  ∃ a vs ns,vals = [Value.ref a]/\args = [WData.list (ns.map WData.int)]/\h.get? a=some { cls:=.type "list",data:=.seq vs.toArray }/\IntsAre vs ns/\ns.length<=n:=by
 have hsh:WShape.hasAll [] args [.list .int]=true:=(pre_splitW hpre).1
 have hc:l.pre.holds [] { args:=args }=true:=(pre_splitW hpre).2
 obtain⟨d,r,rfl,h1,h2⟩:=hasAllW_cons hsh
 obtain rfl:=hasAllW_nil h2
 obtain⟨xs,rfl,h3⟩:=hasW_list h1
 obtain⟨ns,rfl⟩:=items_int h3
 have hlen:ns.length<=n:=by
  unfold OpenLaw.pre at hc
  have h4:(WTm.not (.lt (.lit (.int (n:Int))) (.len (.arg 0)))).holds [] { args:=[.list (ns.map .int)] }=true:=by
   have h4:=(holds_andW hc).1
   rw [hn] at h4
   exact h4
  have h5:=condW_of h4 (w_not (w_lt w_lit (w_len_list (w_arg rfl))))
  rw [List.length_map] at h5
  refine Nat.le_of_not_lt fun q=>?_
  have q':(n:Int)<((ns.length:Nat):Int):=by omega
  first
   | (rw [decide_eq_true q'] at h5;exact absurd h5 (by decide))
   | (simp at h5;omega)
 cases hwl with
 | cons w1 w2=>
  cases w2
  cases w1 with
  | list ho hall=>exact⟨_,_,ns,rfl,rfl,ho,ints_of_wellAll ns _ hall,hlen⟩
theorem post_true (l:OpenLaw)(args:List WData):l.row.toRowW.claim.post args (.bool true) args=true:=
 postW_of (r:=l.row.toRowW) (X:=(true == true))
  (show WShape.has [] (.bool true) .bool=true by first | rfl | decide | simp [WShape.has,WShape.arms,WShape.armsAll])
  (show (WTm.eq .res (.lit (.bool true))).value [] { args:=args,res:=some (.bool true),after:=args }=some (.bool (true == true)) from w_eq_bool (w_res rfl) w_lit) rfl
theorem attach_call {l:OpenLaw}{n:Nat}{q:Program}{loose:List Str}{XP:(Str->Option Value)->Heap->Prop}{YP:World->Heap->Prop}{d:DefRec}
  (hn:l.most=some n) (hdf:d.params.defaults = [])
  (call:∀ (w:World) (s₀ s₁ : Shared) (mg mb:Str->Option Value) (fa:Addr) (o:Obj) (pm cd doc:Value) (a:Addr) (vs:List Value) (ns:List Int),
   Ground q loose [] XP w s₀ mg mb s₁.heap->YP w s₁.heap →
   s₁.heap.get? fa=some o->o.data = .func (docDef d.name d.params d.body d.scope pm cd doc)->s₁.heap.CodeRec cd d.name->mg d.name=some (.ref fa) →
   s₁.heap.get? a=some { cls:=.type "list",data:=.seq vs.toArray }->IntsAre vs ns->ns.length<=n->s₁.gens = #[] →
   codeAny (model l.prog w) callerA (.call (.ref fa) ⟨[.ref a],[]⟩) (fun r s'=>r = .ok (.ret (.bool true))/\OldK s₁.heap s'.heap/\s'.os=s₁.os/\AllBare s'.gens) s₁) :
  WalkO q loose XP YP l.row.toRowW d [] (fun f vs=>PySem.call f vs):=by
 intro w s₀ s₁ mg mb G Y fa o pm cd doc dV kV ho hd hcd hD hmg hg args vals as hpre hlay hrd hwl hlo
 obtain rfl:dV = .none:=Dflts.none hD hdf
 obtain rfl:kV = .none:=Dflts.noKw hD
 obtain⟨a,vs,ns,rfl,rfl,hobj,hints,hlen⟩:=script_of hn hpre hwl
 refine enter_call (codeAny_mono (call w s₀ s₁ mg mb fa o pm cd doc a vs ns G Y ho (fd_plain hd) hcd hmg hobj hints hlen hg) fun r s' hq=>?_)
 obtain⟨rfl,h2,h3,h4⟩:=hq
 exact⟨.inl ⟨.bool true,.bool true,[],rfl,fun _=>rfl,.bool true,post_true l _,fun _=>⟨List.Pairwise.nil,fun _ hm=>(nomatch hm)⟩⟩,h2,h3,h4⟩
section
variable  {prog:Program}{w:World}{A:Around}{E:Value->Shared->Prop}{s:Shared}{K:Frag}
end
end Att
namespace L2
open PySem PySem.Spec PyProof.Rows
theorem vals_ints:∀ {vs:List Value} {ns:List Int},IntsAre vs ns->Vals (ns.map V.int) vs
 | _,_,.nil=>.nil
 | _,_,.cons n t h=>.cons ⟨t,rfl⟩ (vals_ints h)
noncomputable def Only (H:Hp):Prop:=∀ b,H b=none ∨ ∃ o xs,H b=some (.frz o (.lst xs))
theorem law_call {P:Program}{w:World}{K:PySem.W.Frag}{mg mb:Str->Option Value}{CX:CXT}{k:Nat}{fa a:Addr}{fd:FuncData}{x:Str}{sp:Sp}{s₁ : Shared}{vs:List Value}{ns:List Int}
  (KX:K.In s₁.heap) (hns:s₁.heap.Ns mainGlobals mg) (hb:s₁.heap.Ns builtinsNs mb) (hbb:∀ x:Str,x ≠ "__name__" → mb x=bootBuiltins x) (hlim:s₁.heap.NoLimit) (hg:s₁.gens = #[])
  (ha:s₁.heap.get? a=some { cls:=.type "list",data:=.seq vs.toArray }) (hi:IntsAre vs ns) (hl:ns.length<=sizeLine) (hr:Room k callerA)
  (F:∀ base:Heap,K.In base->base.Ns mainGlobals mg->FnOk P w K mg base CX k fa fd [x] sp) (hbind:∀ (s:Shared) (u:Value),BindsTo s fd ⟨[u],[]⟩ [(x,u)])
  (hsp:∀ H:Hp,Only H->SqL K H a (ns.map V.int)->sp [.ref a] H (fun v _=>v = .bl true) fun _ _ _=>False)
  (hCX:∀ H e s',CX [] H s₁ (fun _ _ _=>False) e s'->False) :
  codeAny (model P w) callerA (.call (.ref fa) ⟨[.ref a],[]⟩) (fun r s'=>r = .ok (.ret (.bool true))/\OldK s₁.heap s'.heap/\s'.os=s₁.os/\AllBare s'.gens) s₁:=by
 have rv:=vals_ints hi
 have lenV:=hi.length
 have core:∀ H:Hp,Only H->SqL K H a (ns.map V.int)->HOk P w H s₁.heap->(∀ b,H b≠none->b=a)->(H a≠none->K.lookup a=none) →
   codeAny (model P w) callerA (.call (.ref fa) ⟨[.ref a],[]⟩) (fun r s'=>r = .ok (.ret (.bool true))/\OldK s₁.heap s'.heap/\s'.os=s₁.os/\AllBare s'.gens) s₁:=by
  intro H hO hS hok hA hK
  have base_of:∀ {b:Addr} {o:Obj},s₁.heap.get? b=some o->H b=none->(hidT s₁.heap H).get? b=some o:=fun e n=>hidT_get e n
  have noA:∀ {b:Addr} {o:Obj} {es:Array DictEntry} {ep:Nat},s₁.heap.get? b=some o->o.data = .dict es ep->H b=none:=fun {b o es ep} e d=>by
   cases q:H b with
   | none=>rfl
   | some u=>
    have e':b=a:=hA b (by rw [q];simp)
    subst e'
    rw [ha] at e;cases e
    have d':Data.seq vs.toArray _=Data.dict es ep:=d
    cases d'
  have nsK:∀ {b:Addr} {m:Str->Option Value},s₁.heap.Ns b m->(hidT s₁.heap H).Ns b m:=fun {b m} ⟨o,es,ep,e,d,r⟩=>⟨o,es,ep,base_of e (noA e d),d,r⟩
  have hKb:K.In (hidT s₁.heap H):=fun b o e=>base_of (KX b o e) (by
   cases q:H b with
   | none=>rfl
   | some u=>
    have e':b=a:=hA b (by rw [q];simp)
    subst e'
    rw [hK (by rw [q];simp)] at e;cases e)
  have hM:Mod K mg (hidT s₁.heap H):=⟨hKb,nsK hns,⟨mb,nsK hb,hbb⟩,let ⟨mc,h1,h2⟩:=hlim;⟨mc,nsK h1,h2⟩⟩
  have e0:Env0 P w K mg (hidT s₁.heap H) callerA [] s₁ H:=⟨rfl,hM,fun b o e=>of_hidT e,Nat.le_of_eq (hidT_size _ _),trivial,fun b hb=>absurd (show b∈([]:List Addr) from hb) (by simp),hok,.of_eq hg⟩
  refine codeAny_mono ((F _ hKb (nsK hns)).run callerA [] s₁ H ⟨[.ref a],[]⟩ [.ref a] [.ref a] _ _ hr e0 (hbind s₁ (.ref a)) (.cons rfl .nil) (hsp H hO hS)) fun r s' h=>?_
  cases r with
  | error e=>exact (hCX H e s' h).elim
  | ok fl=>
   cases fl with
   | next=>exact False.elim h
   | brk=>exact False.elim h
   | cont=>exact False.elim h
   | ret u=>
    obtain⟨v,H',os,bare,un,hok',r',q⟩:=h
    have q':v = .bl true:=q
    subst q'
    obtain rfl:u=Value.bool true:=r'
    refine⟨rfl,OldK.of_keep fun b o e=>?_,os,bare⟩
    cases q:H b with
    | none=>exact un.keep b o e q (by intro z;exact absurd (show b∈([]:List Addr) from z) (by simp)) (by simp)
    | some u=>
     rcases hO b with z | ⟨ob,xs,z⟩
     ·rw [q] at z;cases z
     ·have z2:=un.frzs b ob _ z
      obtain⟨e1,_⟩:=hok b _ z
      obtain⟨e2,_⟩:=hok' b _ z2
      rw [e] at e1;cases e1
      exact e2
 cases hk:K.lookup a with
 | some o=>
  have e:=KX a o hk
  rw [ha] at e
  cases e
  refine core (fun _=>none) (fun _=>.inl rfl) (.inr ⟨_,vs.toArray,_,hk,rfl,rfl,rfl,by rw [List.size_toArray,lenV];exact hl,by simpa using rv⟩) (fun b u z=>by have z':(none:Option HO)=some u:=z;cases z') (fun b z=>absurd rfl z) fun z=>absurd rfl z
 | none=>
  refine core (fun b=>if b=a then some (.frz { cls:=.type "list",data:=.seq vs.toArray } (.lst (ns.map V.int))) else none) (fun b=>?_) (.inl (.inr ⟨{ cls:=.type "list",data:=.seq vs.toArray },if_pos rfl⟩)) (fun b u z=>?_) (fun b z=>?_) fun _=>hk
  ·by_cases hb:b=a
   ·exact .inr ⟨_,_,if_pos hb⟩
   ·exact .inl (if_neg hb)
  ·by_cases hb:b=a
   ·have z':=(if_pos hb).symm.trans z
    cases z'
    subst hb
    exact⟨ha,by rw [List.length_map];exact hl,vs,_,rv,ha⟩
   ·have z':=(if_neg hb).symm.trans z
    cases z'
  ·by_cases hb:b=a
   ·exact hb
   ·exact absurd (if_neg hb) z
end L2
namespace L2
open PySem PySem.Spec PyProof.Rows
end L2
namespace L2
open PySem PySem.Spec PyProof.Rows
noncomputable def zod (s:Stmt):Arguments:=match s with
 | .FunctionDef _ a _ _ _ _ _ _ _ _=>a
 | _=>{ posonlyargs:=[],args:=[],vararg:=none,kwonlyargs:=[],kw_defaults:=[],kwarg:=none,defaults:=[] }
noncomputable def zkb (s:Stmt):List Stmt:=match s with
 | .FunctionDef _ _ b _ _ _ _ _ _ _=>b
 | _=>[]
noncomputable def zq (s:Stmt):Scope:=match s with
 | .FunctionDef _ _ _ _ _ _ sc _ _ _=>sc
 | _=>{ kind:=.function,names:=[],isGenerator:=false,isCoroutine:=false }
noncomputable abbrev CX0:CXT:=fun _ _ _ _ _ _=>False
noncomputable abbrev E0:XK:=fun _ _ _=>False
theorem pass0 {X:Cx}:Passes CX0 X E0:=fun _ _ _ _ _ _ _ h=>h.elim
structure Fun (K:PySem.W.Frag)(x qual:Str)(st:Stmt)(f:Addr)(fd:FuncData):Prop where
 ex:∃ (oc:Value) (od:Option Addr) (kV doc pm:Value) (an:Option Addr) (cdv ct:Value) (osl:Array (Option Value)),
  fd=PySem.W.fnOf x qual (zod st) (zkb st) (zq st) .none kV doc pm an cdv ct/\K.lookup f=some ⟨oc,od,.func fd,osl⟩/\PySem.W.codeIn K cdv qual=true
 kp:PySem.W.keepIn K (.ref f)=true
section
variable  {P:Program}{w:World}{K:PySem.W.Frag}{mg:Str->Option Value}{base:Heap}
theorem Fun.ok {x qual:Str}{st:Stmt}{f:Addr}{fd:FuncData}{N ps:List Str}{k:Nat}{sp:Sp}(F:Fun K x qual st f fd)(S:FnScope N ps (zq st))(len:∀ vs H Q E,sp vs H Q E->vs.length=ps.length)
  (hbody:∀ (cdv:Value) (A:Around) (outer:List Env) (s:Shared) (H:Hp) (vs:List V) (Q:VK) (E:XK),Room k (A.deeper (envOfC qual (zq st) s.heap.objs.size f cdv))->sp vs H Q E →
   ∃ t,PSs (cxOf CX0 P w K mg base N qual (zq st) f cdv A outer s H E).nox (zkb st) t/\t { nx:=fun _ H'=>Q .non H',rt:=Q } (start N vs) H):FnOk P w K mg base CX0 (k+1) f fd ps sp:=by
 obtain⟨oc,od,kV,doc,pm,an,cdv,ct,osl,rfl,lk,hcd⟩:=F.ex
 refine fn_of lk hcd S len fun A outer s H vs Q E hr hsp=>?_
 obtain⟨t,h,q⟩:=hbody cdv A outer s H vs Q E hr hsp
 exact⟨t,h.nox,q⟩
theorem fun_mk {x qual:Str}{st:Stmt}{f:Addr}{oc:Value}{od an:Option Addr}{osl:Array (Option Value)}{kV doc pm cdv ct:Value}(l:K.lookup f=some ⟨oc,od,.func (PySem.W.fnOf x qual (zod st) (zkb st) (zq st) .none kV doc pm an cdv ct),osl⟩)
  (c:PySem.W.codeIn K cdv qual=true) (k:PySem.W.keepIn K (.ref f)=true):Fun K x qual st f (PySem.W.fnOf x qual (zod st) (zkb st) (zq st) .none kV doc pm an cdv ct):=⟨⟨oc,od,kV,doc,pm,an,cdv,ct,osl,rfl,l,c⟩,k⟩
end
section
variable  {X:Cx}
end
theorem iteF {A B:Prop}(h:B):if false=true then A else B:=by
 rw [if_neg Bool.false_ne_true]
 exact h
theorem iteT {A B:Prop}(h:A):if true=true then A else B:=by
 rw [if_pos rfl]
 exact h
noncomputable def Same (H H':Hp):Prop:=∀ b o,H b=some o->H' b=some o
theorem Same.refl (H:Hp):Same H H:=fun _ _ h=>h
theorem Same.seq {K:PySem.W.Frag}{H H':Hp}{a:Addr}{xs:List V}(e:Same H H')(h:SqL K H a xs):SqL K H' a xs:=by
 rcases h with (h | ⟨o,h⟩) | h
 ·exact .inl (.inl (e _ _ h))
 ·exact .inl (.inr ⟨o,e _ _ h⟩)
 ·exact .inr h
end L2
namespace L2
open PySem PySem.Spec PyProof.Rows
noncomputable def zkc (env:Env):List (Str×NameKind)->List (Str×Addr)->List (Str×Addr)
 | [],acc=>acc
 | (n,k)::r,acc=>if k == .free then zkc env r ((n,(env.cells.lookup n).getD 0)::acc) else zkc env r acc
theorem clos_loop {env:Env}:∀ (names:List (Str×NameKind)) (acc:List (Str×Addr)),(∀ x∈names,x.2 = .free->∃ c,env.cells.lookup x.1=some c) →
  (forIn names acc fun (x:Str×NameKind) (cs:List (Str×Addr))=>if x.2 == .free then (do let c ← cellOf env x.1;pure (ForInStep.yield ((x.1,c)::cs)):Sem _) else pure (ForInStep.yield cs))=(pure (zkc env names acc):Sem _)
 | [],acc,_=>rfl
 | (n,k)::r,acc,h=>by
  have hr:∀ x∈r,x.2 = .free->∃ c,env.cells.lookup x.1=some c:=fun x hx=>h x (List.mem_cons_of_mem _ hx)
  rw [List.forIn_cons]
  unfold zkc
  by_cases hk:(k == NameKind.free)=true
  ·obtain⟨c,hc⟩:=h (n,k) List.mem_cons_self (by simpa using hk)
   have hc':env.cells.lookup n=some c:=hc
   have e:cellOf env n=pure c:=by unfold cellOf;rw [hc']
   simp only [hk,if_true,e,hc',Option.getD_some,pure_bind]
   exact clos_loop r _ hr
  ·have hk':(k == NameKind.free)=false:=by simpa using hk
   simp only [hk',Bool.false_eq_true,if_false,pure_bind]
   exact clos_loop r _ hr
theorem zlc {env:Env}{scope:Scope}(h:∀ x∈scope.names,x.2 = .free->∃ c,env.cells.lookup x.1=some c):closureFor scope env=pure (zkc env scope.names []):=by
 have:=clos_loop (env:=env) scope.names [] h
 simp only [closureFor]
 rw [this,pure_bind]
theorem closL_sub {env:Env}{x:Str}{c:Addr}:∀ (names:List (Str×NameKind)) (acc:List (Str×Addr)),(∀ y∈names,y.2 = .free->∃ c,env.cells.lookup y.1=some c)->(acc.lookup x=some c->env.cells.lookup x=some c) →
  (zkc env names acc).lookup x=some c->env.cells.lookup x=some c
 | [],acc,_,h0,h=>h0 h
 | (n,k)::r,acc,hn,h0,h=>by
  have hr:∀ y∈r,y.2 = .free->∃ c,env.cells.lookup y.1=some c:=fun y hy=>hn y (List.mem_cons_of_mem _ hy)
  unfold zkc at h
  by_cases hk:(k == NameKind.free)=true
  ·rw [if_pos hk] at h
   refine closL_sub r _ hr (fun e=>?_) h
   obtain⟨c',hc'⟩:=hn (n,k) List.mem_cons_self (by simpa using hk)
   have hc'':env.cells.lookup n=some c':=hc'
   rw [List.lookup_cons] at e
   by_cases hx:(x == n)=true
   ·rw [hx] at e
    have hxn:x=n:=by simpa using hx
    subst hxn
    rw [hc''] at e ⊢
    exact e
   ·have hx':(x == n)=false:=by simpa using hx
    rw [hx'] at e
    exact h0 e
  ·rw [if_neg hk] at h
   exact closL_sub r acc hr h0 h
theorem closL_acc {env:Env}{x:Str}:∀ (names:List (Str×NameKind)) (acc:List (Str×Addr)),(acc.lookup x).isSome=true->((zkc env names acc).lookup x).isSome=true
 | [],_,h=>h
 | (n,k)::r,acc,h=>by
  unfold zkc
  by_cases hk:(k == NameKind.free)=true
  ·rw [if_pos hk]
   refine closL_acc r _ ?_
   rw [List.lookup_cons]
   cases hx:(x == n) with
   | true=>rfl
   | false=>exact h
  ·rw [if_neg hk]
   exact closL_acc r acc h
theorem zne {env:Env}{x:Str}:∀ (names:List (Str×NameKind)) (acc:List (Str×Addr)),(x,NameKind.free)∈names->((zkc env names acc).lookup x).isSome=true
 | [],_,h=>by cases h
 | (n,k)::r,acc,h=>by
  unfold zkc
  rcases List.mem_cons.mp h with e | h
  ·cases e
   rw [if_pos (by rfl)]
   refine closL_acc r _ ?_
   rw [List.lookup_cons,beq_self_eq_true]
   rfl
  ·by_cases hk:(k == NameKind.free)=true
   ·rw [if_pos hk]
    exact zne r _ h
   ·rw [if_neg hk]
    exact zne r _ h
theorem cf_cases {x:Str}{c:Addr}:∀ (names:List (Str×NameKind)) (n:Nat) (acc:List (Str×Addr)),(cellsFrom n names acc).lookup x=some c->(n<=c/\(x,NameKind.cell)∈names) ∨ acc.lookup x=some c
 | [],_,_,h=>.inr h
 | (y,k)::r,n,acc,h=>by
  unfold cellsFrom at h
  by_cases hk:(k == NameKind.cell)=true
  ·rw [if_pos hk] at h
   rcases cf_cases r (n+1) _ h with⟨h1,h2⟩ | h1
   ·exact .inl ⟨by omega,List.mem_cons_of_mem _ h2⟩
   ·rw [List.lookup_cons] at h1
    by_cases hx:(x == y)=true
    ·rw [hx] at h1
     have hxy:x=y:=by simpa using hx
     have hkc:k = .cell:=by simpa using hk
     subst hxy hkc
     cases h1
     exact .inl ⟨Nat.le_refl _,List.mem_cons_self⟩
    ·have hx':(x == y)=false:=by simpa using hx
     rw [hx'] at h1
     exact .inr h1
  ·rw [if_neg hk] at h
   rcases cf_cases r n _ h with⟨h1,h2⟩ | h1
   ·exact .inl ⟨h1,List.mem_cons_of_mem _ h2⟩
   ·exact .inr h1
theorem cf_inj:∀ (names:List (Str×NameKind)) (n:Nat) (acc:List (Str×Addr)),(∀ x c,acc.lookup x=some c->c<n)->(∀ x y c,acc.lookup x=some c->acc.lookup y=some c->x=y) →
  ∀ x y c,(cellsFrom n names acc).lookup x=some c->(cellsFrom n names acc).lookup y=some c->x=y
 | [],_,_,_,hi,x,y,c,h1,h2=>hi x y c h1 h2
 | (z,k)::r,n,acc,hb,hi,x,y,c,h1,h2=>by
  unfold cellsFrom at h1 h2
  by_cases hk:(k == NameKind.cell)=true
  ·rw [if_pos hk] at h1 h2
   refine cf_inj r (n+1) ((z,n)::acc) (fun a b e=>?_) (fun a b d e1 e2=>?_) x y c h1 h2
   ·rw [List.lookup_cons] at e
    cases q:(a == z) with
    | true=>rw [q] at e;cases e;exact Nat.lt_succ_self _
    | false=>rw [q] at e;exact Nat.lt_succ_of_lt (hb a b e)
   ·rw [List.lookup_cons] at e1 e2
    cases q1:(a == z) with
    | true=>
     cases q2:(b == z) with
     | true=>rw [beq_iff_eq.mp q1,beq_iff_eq.mp q2]
     | false=>rw [q1] at e1;rw [q2] at e2;cases e1;exact absurd (hb b n e2) (Nat.lt_irrefl _)
    | false=>
     cases q2:(b == z) with
     | true=>rw [q1] at e1;rw [q2] at e2;cases e2;exact absurd (hb a n e1) (Nat.lt_irrefl _)
     | false=>rw [q1] at e1;rw [q2] at e2;exact hi a b d e1 e2
  ·rw [if_neg hk] at h1 h2
   exact cf_inj r n acc hb hi x y c h1 h2
theorem cf_old {x:Str}:∀ (names:List (Str×NameKind)) (n:Nat) (acc:List (Str×Addr)),(x,NameKind.cell) ∉ names->(cellsFrom n names acc).lookup x=acc.lookup x
 | [],_,_,_=>rfl
 | (y,k)::r,n,acc,h=>by
  unfold cellsFrom
  by_cases hk:(k == NameKind.cell)=true
  ·rw [if_pos hk,cf_old r _ _ (fun z=>h (List.mem_cons_of_mem _ z)),List.lookup_cons]
   have hkc:k = .cell:=by simpa using hk
   have hx:(x == y)=false:=by
    cases q:(x == y) with
    | false=>rfl
    | true=>exact absurd (by rw [beq_iff_eq.mp q,hkc];exact List.mem_cons_self) h
   rw [hx]
  ·rw [if_neg hk]
   exact cf_old r _ _ fun z=>h (List.mem_cons_of_mem _ z)
theorem cf_new {x:Str}{c:Addr}:∀ (names:List (Str×NameKind)) (n:Nat) (acc:List (Str×Addr)),((x,NameKind.cell)∈names ∨ ∀ c',acc.lookup x=some c'->n<=c')->(cellsFrom n names acc).lookup x=some c->∀ lo,lo<=n->(∀ c',acc.lookup x=some c'->lo<=c') ∨ (x,NameKind.cell)∈names->lo<=c
 | [],n,acc,_,h,lo,hl,h2=>by
  rcases h2 with h2 | h2
  ·exact h2 c h
  ·cases h2
 | (y,k)::r,n,acc,_,h,lo,hl,h2=>by
  unfold cellsFrom at h
  by_cases hk:(k == NameKind.cell)=true
  ·rw [if_pos hk] at h
   have key:(∀ c',((y,n)::acc).lookup x=some c'->lo<=c') ∨ (x,NameKind.cell)∈r:=by
    by_cases hx:(x == y)=true
    ·refine .inl fun c' e=>?_
     rw [List.lookup_cons,hx] at e
     cases e
     exact hl
    ·have hx':(x == y)=false:=by simpa using hx
     rcases h2 with h2 | h2
     ·refine .inl fun c' e=>?_
      rw [List.lookup_cons,hx'] at e
      exact h2 c' e
     ·rcases List.mem_cons.mp h2 with e | h2
      ·cases e
       simp at hx
      ·exact .inr h2
   have key2:(x,NameKind.cell)∈r ∨ ∀ c',((y,n)::acc).lookup x=some c'->n+1<=c' ∨ True:=.inr fun _ _=>.inr trivial
   rcases key with key | key
   ·by_cases hm:(x,NameKind.cell)∈r
    ·exact cf_new r (n+1) _ (.inl hm) h lo (by omega) (.inr hm)
    ·rw [cf_old r _ _ hm] at h
     exact key c h
   ·exact cf_new r (n+1) _ (.inl key) h lo (by omega) (.inr key)
  ·rw [if_neg hk] at h
   have key:(∀ c',acc.lookup x=some c'->lo<=c') ∨ (x,NameKind.cell)∈r:=by
    rcases h2 with h2 | h2
    ·exact .inl h2
    ·rcases List.mem_cons.mp h2 with e | h2
     ·cases e
      exact absurd rfl hk
     ·exact .inr h2
   by_cases hm:(x,NameKind.cell)∈r
   ·exact cf_new r n _ (.inl hm) h lo hl (.inr hm)
   ·rcases key with key | key
    ·rw [cf_old r _ _ hm] at h
     exact key c h
    ·exact absurd key hm
theorem zud {x:Str}{c:Addr}:∀ (names:List (Str×NameKind)) (h:Heap) (acc:List (Str×Addr)),(cellsFrom h.objs.size names acc).lookup x=some c->(pushCells h names).IsCell c none ∨ acc.lookup x=some c
 | [],_,_,e=>.inr e
 | (y,k)::r,h,acc,e=>by
  unfold cellsFrom at e
  unfold pushCells
  by_cases hk:(k == NameKind.cell)=true
  ·rw [if_pos hk] at e ⊢
   have e':(cellsFrom (h.push { cls:=.type "cell",data:=.cell none }).objs.size r ((y,h.objs.size)::acc)).lookup x=some c:=by rw [Heap.size_push];exact e
   rcases zud r (h.push { cls:=.type "cell",data:=.cell none }) ((y,h.objs.size)::acc) e' with q | q
   ·exact .inl q
   ·rw [List.lookup_cons] at q
    cases hx:(x == y) with
    | true=>
     rw [hx] at q
     cases q
     exact .inl ⟨_,pushCells_keeps r _ _ _ (Heap.get?_push_size _ rfl),rfl⟩
    | false=>rw [hx] at q;exact .inr q
  ·rw [if_neg hk] at e ⊢
   exact zud r h acc e
theorem wpAny_blockEnv {M:Model}{A:Around}{E:Value->Shared->Prop}{s:Shared}{scope:Scope}{globals:Addr}{cl:List (Str×Addr)}{qual:Str}{env:Env}{Q:Env->Shared->Prop}
  (hQ:∀ h',h'.Ns s.heap.objs.size (fun _=>none)->(∀ b o,s.heap.get? b=some o->h'.get? b=some o)->(∀ x c,(cellsFrom (s.heap.objs.size+1) scope.names cl).lookup x=some c->h'.IsCell c none ∨ cl.lookup x=some c) →
   Q (newEnv scope s.heap.objs.size globals (cellsFrom (s.heap.objs.size+1) scope.names cl) qual none .none (some env) builtinsNs) { s with heap:=h' }) :
  wpAny M A (newFunctionEnv scope globals cl [] qual none .none (some env)) Q E s:=by
 simp only [newFunctionEnv,Option.isSome_some,if_true]
 refine wpAny_bind (wpAny_alloc ?_)
 refine wpAny_bind (wpAny_layCells _ (fun name kind cells=>by cases hkc:kind == NameKind.cell<;>simp [hkc]) _ _ _ _ ?_)
 rw [show ({ s with heap:=s.heap.push { cls:=.type "dict",data:=.dict #[] } }:Shared).heap.objs.size=s.heap.objs.size+1 from Heap.size_push ..]
 rw [List.forIn_nil]
 refine wpAny_bind (wpAny_pure (wpAny_pure (hQ _ ?_ ?_ ?_)))
 ·exact (Heap.Ns.new s.heap (.type "dict")).keeps (pushCells_keeps _ _)
 ·exact fun b o e=>pushCells_keeps _ _ b o (Heap.get?_push_of_some _ e)
 ·intro x c e
  have e':(cellsFrom (s.heap.push { cls:=.type "dict",data:=.dict #[] }).objs.size scope.names cl).lookup x=some c:=by rw [Heap.size_push];exact e
  exact zud _ _ _ e'
noncomputable def rlK (env:Env) (n:Str) (k:NameKind):NameKind:=if (k == .free && env.scope.kind == .function && env.kindOf n == some .cell) then .cell else k
theorem lookup_rl {env:Env}{x:Str}:∀ (names:List (Str×NameKind)),
  (names.map fun (n,k)=>if (k == NameKind.free && env.scope.kind == .function && env.kindOf n == some .cell) then (n,NameKind.cell) else (n,k)).lookup x=(names.lookup x).map (rlK env x)
 | []=>rfl
 | (n,k)::r=>by
  have ih:=lookup_rl (env:=env) (x:=x) r
  rw [List.map_cons,List.lookup_cons]
  have e1:(if (k == NameKind.free && env.scope.kind == .function && env.kindOf n == some .cell) then (n,NameKind.cell) else (n,k))=(n,rlK env n k):=by
   unfold rlK;split<;>rfl
  show List.lookup x ((if (k == NameKind.free && env.scope.kind == .function && env.kindOf n == some .cell) then (n,NameKind.cell) else (n,k))::_)=_
  rw [e1,List.lookup_cons,List.lookup_cons]
  cases hx:(x == n) with
  | true=>
   have e2:=beq_iff_eq.mp hx
   subst e2
   rfl
  | false=>exact ih
theorem lookup_relabel {scope:Scope}{env:Env}{x:Str}:(relabel scope env).names.lookup x=(scope.names.lookup x).map (rlK env x):=lookup_rl scope.names
end L2
namespace L2
open PySem PySem.Spec PyProof.Rows
structure Blk (osc sc:Scope)(N N':List Str)(fr:List (Option Nat)):Prop where
 kind:sc.kind = .function
 nd:N'.Nodup
 len:fr.length=N'.length
 free:∀ (i j:Nat) (x:Str),fr[i]?=some (some j)->N'[i]?=some x->N[j]?=some x/\sc.names.lookup x=some .free
 out:∀ x∈sc.names,x.2 = .free->(osc.names.lookup x.1=some .cell ∨ osc.names.lookup x.1=some .free)/\(x.1,NameKind.cell) ∉ sc.names
 locl:∀ x∈sc.names,x.2 = .local->sc.names.lookup x.1=some .local
noncomputable def blkB (osc sc:Scope) (N N':List Str) (fr:List (Option Nat)):Bool:=
 (sc.kind == .function) && decide N'.Nodup && (fr.length == N'.length) &&
 (fr.zip N').all (fun p=>match p.1 with | none=>true | some j=>N[j]? == some p.2 && sc.names.lookup p.2 == some .free) &&
 sc.names.all (fun p=>(p.2 != .free || ((osc.names.lookup p.1 == some .cell || osc.names.lookup p.1 == some .free) && !sc.names.contains (p.1,.cell))) && (p.2 != .local || sc.names.lookup p.1 == some .local))
theorem Blk.of {osc sc:Scope}{N N':List Str}{fr:List (Option Nat)}(h:blkB osc sc N N' fr=true):Blk osc sc N N' fr:=by
 unfold blkB at h
 simp only [Bool.and_eq_true] at h
 obtain⟨⟨⟨⟨h1,h2⟩,h3⟩,h4⟩,h5⟩:=h
 refine⟨by simpa using h1,of_decide_eq_true h2,by simpa using h3,fun i j x e1 e2=>?_,fun x hx hk=>?_,fun x hx hk=>?_⟩
 ·have hm:(some j,x)∈fr.zip N':=by
   refine List.mem_iff_getElem?.mpr ⟨i,?_⟩
   rw [List.getElem?_zip_eq_some]
   exact⟨e1,e2⟩
  have:=List.all_eq_true.mp h4 _ hm
  simp only [Bool.and_eq_true] at this
  exact⟨by simpa using this.1,by simpa using this.2⟩
 ·have:=List.all_eq_true.mp h5 x hx
  simp only [Bool.and_eq_true] at this
  have t1:=this.1
  rw [hk] at t1
  simp only [bne_self_eq_false,Bool.false_or,Bool.and_eq_true,Bool.or_eq_true,Bool.not_eq_true'] at t1
  refine⟨t1.1.imp (fun z=>by simpa using z) (fun z=>by simpa using z),fun hm=>?_⟩
  have t2:=t1.2
  rw [List.contains_iff_mem.mpr hm] at t2
  cases t2
 ·have:=List.all_eq_true.mp h5 x hx
  simp only [Bool.and_eq_true] at this
  have t1:=this.2
  rw [hk] at t1
  simp only [bne_self_eq_false,Bool.false_or] at t1
  simpa using t1
noncomputable def inSt (fr:List (Option Nat)) (σ:St):St:=fr.map fun o=>match o with
 | none=>none
 | some j=>σ.getD j none
theorem zcc (fr:List (Option Nat))(σ:St):(inSt fr σ).length=fr.length:=by unfold inSt;rw [List.length_map]
noncomputable def cxIn (X:Cx) (scope:Scope) (N':List Str) (cells:List (Str×Addr)) (C:Addr) (s:Shared) (H:Hp) (ex:List Addr) (pn:List (Addr×Obj)) (xe:Value->Shared->Prop):Cx where
 prog:=X.prog
 w:=X.w
 K:=X.K
 mg:=X.mg
 base:=X.base
 A:=X.A
 N:=N'
 s₀:=s
 H₀:=H
 env:=compEnvC scope cells C X.env
 outer:=X.stack
 stack:=X.stack
 ex:=ex
 fn:=fun x=>scope.names.lookup x == some .cell
 calm:=X.calm
 pn:=pn
 xe:=xe
section
variable  {X:Cx}{pins:List (Addr×Obj)}{σ:St}{H H':Hp}{s:Shared}{scope:Scope}{N':List Str}{fr:List (Option Nat)}{ex:List Addr}{xe:Value->Shared->Prop}
theorem zid {sc:Scope}{x:Str}{k:NameKind}(h:sc.names.lookup x=some k):(x,k)∈sc.names:=PySem.mem_of_lookup h
theorem Inv.freeCells (I:Inv X pins σ H s)(B:Blk X.env.scope scope X.N N' fr):∀ x∈scope.names,x.2 = .free->∃ c,X.env.cells.lookup x.1=some c:=fun x hx hk=>I.ok.has x.1 (B.out x hx hk).1
theorem Inv.enter {h':Heap}(I:Inv X pins σ H s)(B:Blk X.env.scope scope X.N N' fr)(hex:∀ b∈ex,FpOk X pins H b/\∃ o,s.heap.get? b=some o)
  (hns:h'.Ns s.heap.objs.size (fun _=>none)) (hk:∀ b o,s.heap.get? b=some o->h'.get? b=some o)
  (hc:∀ x c,(cellsFrom (s.heap.objs.size+1) scope.names (zkc X.env scope.names [])).lookup x=some c->h'.IsCell c none ∨ (zkc X.env scope.names []).lookup x=some c) :
  Inv (cxIn X scope N' (cellsFrom (s.heap.objs.size+1) scope.names (zkc X.env scope.names [])) s.heap.objs.size s H ex (X.pn++pins) xe) [] (inSt fr σ) H { s with heap:=h' }:=by
 have hfc:=I.freeCells B
 have old:∀ x c,(zkc X.env scope.names []).lookup x=some c->X.env.cells.lookup x=some c:=fun x c e=>closL_sub scope.names [] hfc (fun z=>by cases z) e
 have lt:∀ x c,X.env.cells.lookup x=some c->c<s.heap.objs.size:=fun x c e=>by
  obtain⟨v,q⟩:=I.cell x c e
  exact q.lt
 have cases2:∀ x c,(cellsFrom (s.heap.objs.size+1) scope.names (zkc X.env scope.names [])).lookup x=some c->s.heap.objs.size+1<=c ∨ X.env.cells.lookup x=some c:=fun x c e=>
  (cf_cases _ _ _ e).imp (fun z=>z.1) (old x c)
 have hlt:∀ b∈ex,b<s.heap.objs.size:=fun b hb=>by
  obtain⟨o,e⟩:=(hex b hb).2
  exact Heap.lt_size e
 have has:∀ x,scope.names.lookup x=some .cell ∨ scope.names.lookup x=some .free->∃ c,(cellsFrom (s.heap.objs.size+1) scope.names (zkc X.env scope.names [])).lookup x=some c:=fun x hx=>by
  refine Option.isSome_iff_exists.mp (PySem.W.cellsFrom_some _ _ _ (hx.imp id fun z=>zne _ _ (zid z)))
 refine⟨⟨I.ok.mod,?_,I.ok.glob,I.ok.blt,Nat.le_refl _,?_,?_,?_,I.ok.hd,I.ok.frames,.inl rfl,?_,I.bs,Nat.le_trans I.ok.bsz I.sz,?_,?_,I.stack,I.stkFree⟩,rfl,I.bare,Un.kept hk,⟨_,hns,?_⟩,?_,?_,?_,?_,I.hok.kept hk,?_⟩
 ·exact B.kind
 ·exact cf_inj _ _ _ (fun x c e=>Nat.lt_succ_of_lt (lt x c (old x c e))) (fun x y c e1 e2=>I.ok.inj x y c (old x c e1) (old y c e2))
 ·intro x hx
  refine has x ?_
  have hx':(relabel scope X.env).names.lookup x=some .cell ∨ (relabel scope X.env).names.lookup x=some .free:=hx
  rw [lookup_relabel] at hx'
  cases q:scope.names.lookup x with
  | none=>rw [q] at hx';rcases hx' with z | z<;>cases z
  | some k=>
   rw [q] at hx'
   have hx2:rlK X.env x k = .cell ∨ rlK X.env x k = .free:=hx'.imp (fun z=>Option.some.inj z) (fun z=>Option.some.inj z)
   unfold rlK at hx2
   split at hx2
   ·rename_i hc
    simp only [Bool.and_eq_true] at hc
    have:k = .free:=by simpa using hc.1.1
    rw [this];exact .inr rfl
   ·rcases hx2 with z | z<;>rw [z]
    ·exact .inl rfl
    ·exact .inr rfl
 ·intro x c hf e
  have hf':scope.names.lookup x=some .cell:=by
   have:(scope.names.lookup x == some NameKind.cell)=true:=hf
   simpa using this
  exact cf_new _ _ _ (.inl (zid hf')) e _ (Nat.le_succ _) (.inr (zid hf'))
 ·intro b hb
  obtain⟨⟨_,_,_,_,f4,_⟩,_⟩:=hex b hb
  refine⟨Nat.ne_of_lt (hlt b hb),fun x c e z=>?_⟩
  rcases cases2 x c e with q | q
  ·rw [z] at q
   exact absurd (Nat.lt_of_lt_of_le (hlt b hb) (Nat.le_of_succ_le q)) (Nat.lt_irrefl _)
  ·exact f4 x c q z
 ·intro b o e hb
  obtain⟨⟨_,_,_,f3,_,_⟩,_⟩:=hex b hb
  rcases f3 with z | z
  ·exact I.ok.noex b o e z
  ·exact absurd (Nat.lt_of_lt_of_le (Heap.lt_size e) (Nat.le_trans I.ok.bsz z)) (Nat.lt_irrefl _)
 ·intro b hb hf
  obtain⟨⟨_,f1,f2,_,_,_⟩,_⟩:=hex b hb
  rcases List.mem_cons.mp (I.stkSub b hf) with z | z
  ·exact f1 z
  ·exact f2 z
 ·intro i x v e1 e2 e3
  unfold inSt at e2
  rw [List.getElem?_map] at e2
  cases q:fr[i]? with
  | none=>rw [q] at e2;cases e2
  | some o=>
   rw [q] at e2
   cases o with
   | none=>simp at e2
   | some j=>
    have e2' : σ.getD j none=some v:=by simpa using e2
    obtain⟨b1,b2⟩:=B.free i j x q e1
    have e4 : σ[j]?=some (some v):=by
     rw [List.getD_eq_getElem?_getD] at e2'
     cases q2 : σ[j]? with
     | none=>rw [q2] at e2';cases e2'
     | some y=>rw [q2] at e2';simp at e2';rw [e2']
    obtain⟨o1,o2⟩:=B.out (x,.free) (zid b2) rfl
    obtain⟨m,hn,hl⟩:=I.loc
    have vis:Vis X.env.scope x:=o1.elim (fun z=>.inr (.inl z)) fun z=>.inr (.inr z)
    obtain⟨u,r,l⟩:=hl j x v b1 e4 vis
    refine⟨u,r,.inr ?_⟩
    have nl:∃ c,X.env.cells.lookup x=some c/\s.heap.IsCell c (some u):=by
     rcases l with⟨kl,_⟩ | ⟨_,c,h1,h2⟩
     ·have kl':X.env.scope.names.lookup x=some .local:=kl
      rcases o1 with z | z<;>· have z':X.env.scope.names.lookup x=_:=z;rw [kl'] at z';cases z'
     ·exact⟨c,h1,h2⟩
    obtain⟨c,h1,h2⟩:=nl
    have kd:(compEnvC scope (cellsFrom (s.heap.objs.size+1) scope.names (zkc X.env scope.names [])) s.heap.objs.size X.env).kindOf x=some .cell ∨ (compEnvC scope (cellsFrom (s.heap.objs.size+1) scope.names (zkc X.env scope.names [])) s.heap.objs.size X.env).kindOf x=some .free:=by
     show (relabel scope X.env).names.lookup x=some .cell ∨ (relabel scope X.env).names.lookup x=some .free
     rw [lookup_relabel,b2]
     show some (rlK X.env x .free)=_ ∨ some (rlK X.env x .free)=_
     unfold rlK
     split
     ·exact .inl rfl
     ·exact .inr rfl
    refine⟨kd,c,?_,h2.keeps hk⟩
    show (cellsFrom (s.heap.objs.size+1) scope.names (zkc X.env scope.names [])).lookup x=some c
    rw [cf_old _ _ _ o2]
    obtain⟨c',hc'⟩:=Option.isSome_iff_exists.mp (zne (env:=X.env) scope.names [] (zid b2))
    rw [hc']
    have:=old x c' hc'
    rw [h1] at this
    exact this.symm
 ·intro x c e
  rcases hc x c e with q | q
  ·exact⟨_,q⟩
  ·obtain⟨v,z⟩:=I.cell x c (old x c q)
   exact⟨v,z.keeps hk⟩
 ·exact I.hok.fresh (Nat.le_refl _)
 ·intro x c e
  rcases cases2 x c e with q | q
  ·exact I.hok.fresh (by omega)
  ·exact I.freeC x c q
 ·intro p hp
  have hp':p∈X.pn++pins:=by
   have:p∈(X.pn++pins)++[]:=hp
   rwa [List.append_nil] at this
  obtain⟨e,n,ne,nf,d⟩:=I.pin p hp'
  refine⟨hk _ _ e,n,Nat.ne_of_lt (Heap.lt_size e),fun z=>?_,d⟩
  rcases List.mem_cons.mp (I.stkSub p.1 z) with q | q
  ·exact ne q
  ·exact nf q
 ·show (inSt fr σ).length=N'.length
  rw [zcc,B.len]
theorem Inv.leave {cells:List (Str×Addr)}{C:Addr}{pins':List (Addr×Obj)}{σ':St}{s':Shared}{pn:List (Addr×Obj)}(I:Inv X pins σ H s)(hex:∀ b∈ex,FpOk X pins H b)
  (J:Inv (cxIn X scope N' cells C s H ex pn xe) pins' σ' H' s'):Inv X pins σ H' s':=
 I.call' J.os J.base J.hok J.bare fun b hb=>by
  obtain⟨_,f1,_,f3,f4,f5⟩:=hex b hb
  exact⟨f3,f1,f4,f5⟩
theorem Inv.track {d:Addr}{o:HO}(I:Inv X pins σ H s)(hd:FpOk X pins H d)(hX:d ∉ X.ex ∨ X.s₀.heap.objs.size<=d)(h0:X.s₀.heap.objs.size<=d)(new:ObjOk X.prog X.w (upd H d o) s.heap d o):Inv X pins σ (upd H d o) s:=by
 obtain⟨f0,f1,f2,f3,f4,f5⟩:=hd
 refine⟨I.ok,I.os,I.bare,⟨I.base.keep,I.base.slot,fun b u q n hx=>?_,I.base.there,fun b xs q=>?_,fun b u xs q=>?_,fun b ps q=>?_⟩,I.loc,I.cell,?_,fun x c e=>?_,fun p hp=>?_,fun b u q=>?_,I.len⟩
 ·rw [upd_ne (Nat.ne_of_lt (Nat.lt_of_lt_of_le (Heap.lt_size q) h0))]
  exact I.base.free b u q n hx
 ·have:=I.base.tups b xs q
  rw [upd_ne (zma this f0)]
  exact this
 ·have:=I.base.frzs b u xs q
  rw [upd_ne (zma this f0)]
  exact this
 ·obtain⟨m,this⟩:=I.base.tbls b ps q
  exact⟨m,by rw [upd_ne (zma this f0)];exact this⟩
 ·rw [upd_ne (Ne.symm f1)]
  exact I.free
 ·rw [upd_ne (f4 x c e)]
  exact I.freeC x c e
 ·obtain⟨e,n,ne,nf,dd⟩:=I.pin p hp
  exact⟨e,by rw [upd_ne (f5 p hp)];exact n,ne,nf,dd⟩
 ·by_cases hb:b=d
  ·subst hb
   rw [zfa] at q
   cases q
   exact new
  ·rw [upd_ne hb] at q
   exact (I.hok b u q).stay (fun _ _ _ z=>z) (fun c z=>by rw [upd_ne (zma z f0)];exact z) fun c xs z=>by rw [upd_ne (zma z f0)];exact z
end
end L2
namespace L2
open PySem PySem.Spec PyProof.Rows
noncomputable abbrev testsOf (ifs:List Expr) (env:Env):Sem Bool:=forIn ifs true fun c r=>if r=true then do let ok ← isTrue c env (eval c env);pure (ForInStep.yield ok) else pure (ForInStep.yield r)
theorem codeAny_compLoop_gen {prog:Program}{w:World}{A:Around}{R:Result->Shared->Prop}{s:Shared}{elt target iter:Expr}{ifs:List Expr}{scope:Scope}{pos:Pos}{it acc:Value}{env:Env}(I:Nat->Shared->Prop)
  (turn:∀ n s,I n s->wpAny (model prog w) A (pyNext it) (fun r s₁=>match r with
   | none=>R (.ok .next) s₁
   | some v=>wpAny (model prog w) A (letOwnedTupleGo target it v) (fun _ s₁'=>wpAny (model prog w) A (assign target env v) (fun _ s₂=>
     wpAny (model prog w) A (testsOf ifs env) (fun ok s₃=>
      if ok=true then wpAny (model prog w) A (eval elt env) (fun x s₄=>
       wpAny (model prog w) A (call (.builtin "list.append") [acc,x]) (fun _ s₅=>∃ m,m<n/\I m s₅) (notedBy (model prog w) A env fun e s'=>R (.error e) s') s₄) (notedBy (model prog w) A env fun e s'=>R (.error e) s') s₃
      else ∃ m,m<n/\I m s₃) (notedBy (model prog w) A env fun e s'=>R (.error e) s') s₂) (notedBy (model prog w) A env fun e s'=>R (.error e) s') s₁') (notedBy (model prog w) A env fun e s'=>R (.error e) s') s₁) (notedBy (model prog w) A env fun e s'=>R (.error e) s') s)
  (n:Nat) (h:I n s):codeAny (model prog w) A (.compLoop (.ListComp elt [⟨target,iter,ifs,0⟩] scope pos) 0 it acc env) R s:=by
 refine codeAny_loop rfl I (fun n s hI=>?_) n h
 show wpAny _ A ((compTurn (.ListComp elt [⟨target,iter,ifs,0⟩] scope pos) 0 it acc env).onRaise (fun x=>do noteFrame x env;theTreesLotGoes x)) _ _ s
 refine wpAny_noted ?_
 rw [compTurn_list]
 refine wpAny_bind (wpAny_standAt (wpAny_bind (wpAny_mono (turn n s hI) (fun r s₁ h₁=>?_) fun _ _ h'=>h')))
 cases r with
 | none=>exact wpAny_pure h₁
 | some v=>
  refine wpAny_bind (wpAny_mono h₁ (fun _ s₁' h₁'=>?_) fun _ _ h'=>h')
  refine wpAny_bind (wpAny_mono h₁' (fun _ s₂ h₂=>wpAny_bind (wpAny_mono h₂ (fun ok s₃ h₃=>?_) fun _ _ h'=>h')) fun _ _ h'=>h')
  cases ok with
  | false=>exact wpAny_pure ⟨rfl,h₃⟩
  | true=>
   exact wpAny_bind (wpAny_bind (wpAny_mono h₃ (fun x s₄ h₄=>wpAny_bind (wpAny_mono h₄ (fun _ s₅ h₅=>wpAny_pure (wpAny_pure ⟨rfl,h₅⟩)) fun _ _ h'=>h')) fun _ _ h'=>h'))
noncomputable def PTs (X:Cx) (ifs:List Expr) (t:TT):Prop:=
 ∀ (pins:List (Addr×Obj)) (s:Shared) (σ:St) (H:Hp) (Q:Bool->Hp->Prop),Inv X pins σ H s->t σ H Q->wpAny (model X.prog X.w) X.A (testsOf ifs X.env) (TP X pins σ Q) X.xe s
noncomputable def tYes:TT:=fun _ H Q=>Q true H
theorem pts_nil {X:Cx}:PTs X [] tYes:=fun _ _ _ H _ I h=>wpAny_tests_nil ⟨H,I,h⟩
noncomputable def Kp (fr:List (Option Nat)) (σ σ':St):Prop:=σ'.length=σ.length/\∀ i j:Nat,fr[i]?=some (some j)->σ'[i]?=σ[i]?
theorem Kp.refl (fr:List (Option Nat))(σ:St):Kp fr σ σ:=⟨rfl,fun _ _ _=>rfl⟩
theorem Kp.trans {fr:List (Option Nat)}{σ σ' σ'':St}(a:Kp fr σ σ')(b:Kp fr σ' σ''):Kp fr σ σ'':=⟨b.1.trans a.1,fun i j e=>(b.2 i j e).trans (a.2 i j e)⟩
noncomputable def GKeep (fr:List (Option Nat)) (g:TG):Prop:=∀ v σ H (Q Q':St->Hp->Prop),(∀ σ' H',Q σ' H'->Kp fr σ σ'->Q' σ' H')->g v σ H Q->g v σ H Q'
noncomputable def GKeeps (fr:List (Option Nat)) (g:TGs):Prop:=∀ v σ H (Q Q':St->Hp->Prop),(∀ σ' H',Q σ' H'->Kp fr σ σ'->Q' σ' H')->g v σ H Q->g v σ H Q'
theorem gk_name {fr:List (Option Nat)}{i:Nat}(h:fr[i]?=some none):GKeep fr (gName i):=fun v σ H Q Q' k q=>by
 refine k _ _ q ⟨List.length_set,fun i' j e=>?_⟩
 have:i≠i':=fun z=>by subst z;rw [h] at e;cases e
 exact List.getElem?_set_ne this
theorem gk_nil {fr:List (Option Nat)}:GKeeps fr gNil:=fun v σ H Q Q' k q=>⟨q.1,k _ _ q.2 (Kp.refl _ _)⟩
theorem gk_cons {fr:List (Option Nat)}{g:TG}{gs:TGs}(h1:GKeep fr g)(h2:GKeeps fr gs):GKeeps fr (gCons g gs):=fun vs σ H Q Q' k q=>by
 obtain⟨v,r,e,q⟩:=q
 refine⟨v,r,e,h1 v σ H _ _ (fun σ1 H1 q1 k1=>h2 r σ1 H1 _ _ (fun σ2 H2 q2 k2=>k σ2 H2 q2 (k1.trans k2)) q1) q⟩
theorem gk_tup {fr:List (Option Nat)}{K:PySem.W.Frag}{n:Nat}{gs:TGs}(h:GKeeps fr gs):GKeep fr (gTup K n gs):=fun v σ H Q Q' k q=>by
 obtain⟨a,xs,e1,e2,e3,q⟩:=q
 exact⟨a,xs,e1,e2,e3,h xs σ H Q Q' k q⟩
structure Bk where
 cells:List (Str×Addr)
 C:Addr
 s:Shared
 H:Hp
 ex:List Addr
 pn:List (Addr×Obj)
noncomputable abbrev cxB (X:Cx) (scope:Scope) (N':List Str) (b:Bk):Cx:=cxIn X scope N' b.cells b.C b.s b.H b.ex b.pn fun _ _=>False
noncomputable def tComp (wi:TI) (fr:List (Option Nat)) (g:TG) (tc:TT) (te:TE):TE:=fun σ H Q=>
 wi σ H fun J H1=>∃ W:Nat->Nat->List V->Hp->Prop,(∃ m,W 0 m [] H1)/\∀ i m acc H,W i m acc H->acc.length<sizeLine ∧
  ((J.stop i H/\∀ d,H d=none->Q (.ref d) (upd H d (.lst acc))) ∨
  (J.go i H/\∃ N:List V->Hp->Prop,(∀ acc' H',N acc' H'->∃ m',m'<m/\W (i+1) m' acc' H') ∧
   ∀ x H',J.yld i H x H'->g x (inSt fr σ) H' fun σ2 H2=>tc σ2 H2 fun b H3=>if b=true then te σ2 H3 fun v H4=>N (acc++[v]) H4 else N acc H3))
section
variable  {X:Cx}{elt tg iter:Expr}{ifs:List Expr}{scope:Scope}{pos:Pos}{N':List Str}{fr:List (Option Nat)}{wi:TI}{g:TG}{tc:TT}{te:TE}
theorem comp_block (hc:X.calm=true)(B:Blk X.env.scope scope X.N N' fr)
  (hg:∀ b,PG (cxB X scope N' b) tg g) (hgk:GKeep fr g) (ht:∀ b,PTs (cxB X scope N' b) ifs tc) (he:∀ b,PE (cxB X scope N' b) elt te)
  {pins:List (Addr×Obj)} {σ:St} {Q:VK} {itv:Value} {s2:Shared} {E:Value->Shared->Prop} {RR:Value->Addr->Result->Shared->Prop}
  (h2:PIE X pins σ tg (fun J H1=>∃ W:Nat->Nat->List V->Hp->Prop,(∃ m,W 0 m [] H1)/\∀ i m acc H,W i m acc H->acc.length<sizeLine ∧
   ((J.stop i H/\∀ d,H d=none->Q (.ref d) (upd H d (.lst acc))) ∨
   (J.go i H/\∃ N:List V->Hp->Prop,(∀ acc' H',N acc' H'->∃ m',m'<m/\W (i+1) m' acc' H') ∧
    ∀ x H',J.yld i H x H'->g x (inSt fr σ) H' fun σ2 H2=>tc σ2 H2 fun b H3=>if b=true then te σ2 H3 fun v H4=>N (acc++[v]) H4 else N acc H3))) itv s2)
  (hRR:∀ (d C:Addr) (v:V) (H':Hp) (s':Shared) m',Inv X pins σ H' s'->v = .ref d->Q v H'->s'.heap.Ns C m'->FpOk X pins H' C->C≠d->RR (.ref d) C (.ok .next) s') :
  wpAny (model X.prog X.w) X.A (newList []) (fun acc s₃=>wpAny (model X.prog X.w) X.A (newFunctionEnv scope X.env.globals (zkc X.env scope.names []) [] X.env.qual none .none (some X.env)) (fun cenv s₄=>
   codeAny (model X.prog X.w) X.A (.compStart (.ListComp elt [⟨tg,iter,ifs,0⟩] scope pos) 0 itv acc { cenv with scope:=relabel scope X.env }) (RR acc cenv.locals) s₄) E s₃) E s2:=by
 obtain⟨it,fp,tn,J,H2,rfl,I2,T,st2,f2,W,⟨m0,w0⟩,turn⟩:=h2
 refine wpAny_newObj_type ?_
 generalize hd:s2.heap.objs.size=d
 have I3:Inv X pins σ H2 { s2 with heap:=s2.heap.push { cls:=.type "list",dict:=none,data:=.seq ([]:List Value).toArray } }:=I2.kept (t':=s2.toks) fun b o e=>Heap.get?_push_of_some _ e
 have fd:FpOk X pins H2 d:=I2.fpOk (by rw [hd];exact Nat.le_refl _) (I2.hok.fresh (by rw [hd];exact Nat.le_refl _))
 have od:(s2.heap.push { cls:=.type "list",dict:=none,data:=.seq ([]:List Value).toArray }).get? d=some { cls:=.type "list",dict:=none,data:=.seq ([]:List Value).toArray }:=by rw [← hd];exact Heap.get?_push_size _ rfl
 have st3:tn 0 (s2.heap.push { cls:=.type "list",dict:=none,data:=.seq ([]:List Value).toArray }):=T.keep _ _ _ st2 fun b _ o e=>Heap.get?_push_of_some _ e
 have ne_d:∀ b∈fp,b≠d:=fun b hb=>by
  obtain⟨o,e,_⟩:=T.obj _ _ st2 b hb
  rw [← hd]
  exact Nat.ne_of_lt (Heap.lt_size e)
 have hd0:X.s₀.heap.objs.size<=d:=by rw [← hd];exact I2.sz
 generalize hs3:({ s2 with heap:=s2.heap.push { cls:=.type "list",dict:=none,data:=.seq ([]:List Value).toArray } }:Shared)=s3 at I3
 have od3:s3.heap.get? d=some { cls:=.type "list",dict:=none,data:=.seq ([]:List Value).toArray }:=by rw [← hs3];exact od
 have st3':tn 0 s3.heap:=by rw [← hs3];exact st3
 have hex:∀ b∈d::fp,FpOk X pins H2 b/\∃ o,s3.heap.get? b=some o:=fun b hb=>by
  rcases List.mem_cons.mp hb with e | hb
  ·subst e;exact⟨fd,_,od3⟩
  ·obtain⟨o,e,_⟩:=T.obj _ _ st3' b hb
   exact⟨f2 b hb,o,e⟩
 refine wpAny_blockEnv fun h4 hns hk hcl=>?_
 have J0:=I3.enter (ex:=d::fp) (xe:=fun _ _=>False) B hex hns hk hcl
 generalize hCs:cellsFrom (s3.heap.objs.size+1) scope.names (zkc X.env scope.names [])=cells at J0
 have hCd:s3.heap.objs.size≠d:=fun z=>by have:=Heap.lt_size od3;rw [z] at this;exact Nat.lt_irrefl _ this
 let bk:Bk:=⟨cells,s3.heap.objs.size,s3,H2,d::fp,X.pn++pins⟩
 have J0':Inv (cxB X scope N' bk) [] (inSt fr σ) H2 { s3 with heap:=h4 }:=J0
 show codeAny (model X.prog X.w) X.A (.compStart (.ListComp elt [⟨tg,iter,ifs,0⟩] scope pos) 0 (.ref it) (.ref d) (cxB X scope N' bk).env) (RR (.ref d) s3.heap.objs.size) { s3 with heap:=h4 }
 have ne_pn:∀ p∈X.pn++pins,p.1≠d/\∀ b∈fp,p.1≠b:=fun p hp=>⟨fd.2.2.2.2.2 p hp,fun b hb=>(f2 b hb).2.2.2.2.2 p hp⟩
 have fpk:∀ {Hx:Hp} {o:Obj},(∀ b∈fp,Hx b=none)->∀ b∈fp,FpOk (cxB X scope N' bk) [(d,o)] Hx b:=fun {Hx o} hn b hb=>by
  have hb':b∈d::fp:=List.mem_cons_of_mem _ hb
  refine⟨hn b hb,(J0'.ok.exf b hb').1,J0'.ok.exfs b hb',.inl hb',fun x c e=>(J0'.ok.exf b hb').2 x c e,fun p hp=>?_⟩
  have hp':p∈(X.pn++pins)++[(d,o)]:=hp
  rcases List.mem_append.mp hp' with z | z
  ·exact (ne_pn p z).2 b hb
  ·have:p=(d,o):=by simpa using z
   rw [this]
   exact Ne.symm (ne_d b hb)
 have loop:∀ s4:Shared,Inv (cxB X scope N' bk) [] (inSt fr σ) H2 s4->tn 0 s4.heap->s4.heap.PlainList d #[] →
   codeAny (model X.prog X.w) X.A (.compLoop (.ListComp elt [⟨tg,iter,ifs,0⟩] scope pos) 0 (.ref it) (.ref d) (cxB X scope N' bk).env) (RR (.ref d) s3.heap.objs.size) s4:=by
  intro s4 J4 st4 pl4
  refine codeAny_compLoop_gen (fun n s'=>∃ i acc its H' σ',Inv (cxB X scope N' bk) [] σ' H' s'/\Kp fr (inSt fr σ) σ'/\tn i s'.heap/\(∀ b∈fp,H' b=none)/\H' d=none/\s'.heap.PlainList d (List.toArray its)/\Vals acc its/\W i n acc H') ?_ m0
   ⟨0,[],[],H2,inSt fr σ,J4,Kp.refl _ _,st4,fun b hb=>(f2 b hb).1,fd.1,pl4,.nil,w0⟩
  rintro n s5 ⟨i,acc,its,H5,σ5,J5,kp5,st5,fr5,hd5,⟨n5,pl5⟩,va5,w5⟩
  obtain⟨hz,cs⟩:=turn i n acc H5 w5
  have J5p:Inv (cxB X scope N' bk) [(d,{ cls:=.type "list",data:=.seq its.toArray n5 })] σ5 H5 s5:=J5.pins_of fun p hp=>by
   have:p=(d,{ cls:=.type "list",data:=.seq its.toArray n5 }):=by simpa using hp
   subst this
   exact⟨pl5,hd5,(J0'.ok.exf d List.mem_cons_self).1,J0'.ok.exfs d List.mem_cons_self,fun v z=>by cases z⟩
  rcases cs with⟨stop,q⟩ | ⟨go,N,hN,step⟩
  ·refine thn (T.done (cxB X scope N' bk) rfl rfl rfl hc i _ s5 σ5 H5 _ J5p (fpk fr5) st5 stop) fun r s6 ⟨hr,J6⟩=>?_
   subst hr
   obtain⟨e6,n6,_⟩:=J6.pin (d,{ cls:=.type "list",data:=.seq its.toArray n5 }) (List.mem_append_right _ (by simp))
   have I6:Inv X pins σ H5 s6:=I3.leave (fun b hb=>(hex b hb).1) J6
   have I6t:Inv X pins σ (upd H5 d (.lst acc)) s6:=I6.track ⟨hd5,fd.2⟩ (.inr hd0) hd0 ⟨by omega,its,n5,va5,e6⟩
   obtain⟨m6,hn6,_⟩:=J6.loc
   refine hRR d s3.heap.objs.size (.ref d) _ s6 m6 I6t rfl (q d hd5) hn6 ?_ hCd
   exact I3.fpOk (Nat.le_refl _) (by rw [upd_ne hCd];exact J6.free)
  ·refine thn (T.item (cxB X scope N' bk) rfl rfl rfl hc i _ s5 σ5 H5 _ J5p (fpk fr5) st5 go) fun r s6 ⟨u,hr,h6⟩=>?_
   subst hr
   refine thn h6 fun _ s7 ⟨x,H7,J7,r7,y7,st7,fr7⟩=>?_
   have J7w:Inv (cxB X scope N' bk) [(d,{ cls:=.type "list",data:=.seq its.toArray n5 })] (inSt fr σ) H7 s7:=J7.weak kp5.1.symm fun k v e=>by
    cases q:fr[k]? with
    | none=>
     unfold inSt at e
     rw [List.getElem?_map,q] at e
     cases e
    | some o=>
     cases o with
     | none=>
      unfold inSt at e
      rw [List.getElem?_map,q] at e
      simp at e
     | some j=>rw [kp5.2 k j q];exact e
   have J7p:=J7w.pinned (fpk fr7) (T.obj _ _ st7)
   have never:∀ {α:Type} {t:Sem α} {QQ : α->Shared->Prop} {EE:Value->Shared->Prop} {ss:Shared},wpAny (model X.prog X.w) X.A t QQ (fun _ _=>False) ss->wpAny (model X.prog X.w) X.A t QQ EE ss:=fun hh=>wpAny_mono hh (fun _ _ z=>z) fun _ _ z=>z.elim
   have G:=hgk x (inSt fr σ) H7 _ (fun σ2 H2=>(tc σ2 H2 fun b H3=>if b=true then te σ2 H3 fun v H4=>N (acc++[v]) H4 else N acc H3)/\Kp fr (inSt fr σ) σ2) (fun σ' H' a b=>⟨a,b⟩) (step x H7 y7)
   refine never (thn (hg bk _ s7 (inSt fr σ) H7 x u _ J7p r7 G) fun _ s8 ⟨σ8,H8,J8,q8,kp8⟩=>?_)
   refine never (thn (ht bk _ s8 σ8 H8 _ J8 q8) fun ok s9 ⟨H9,J9,q9⟩=>?_)
   have keepT:∀ {σx:St} {Hx:Hp} {sx:Shared},Inv (cxB X scope N' bk) ([(d,{ cls:=.type "list",data:=.seq its.toArray n5 })]++zsb fp s7.heap) σx Hx sx->(∀ b∈fp,∀ o,s7.heap.get? b=some o->sx.heap.get? b=some o)/\(∀ b∈fp,Hx b=none)/\sx.heap.get? d=some { cls:=.type "list",data:=.seq its.toArray n5 }/\Hx d=none:=fun {σx Hx sx} Jx=>by
    refine⟨fun b hb o e=>(Jx.pin (b,o) (List.mem_append_right _ (List.mem_append_right _ (zob hb e)))).1,fun b hb=>?_,?_⟩
    ·obtain⟨o,e,_⟩:=T.obj _ _ st7 b hb
     exact (Jx.pin (b,o) (List.mem_append_right _ (List.mem_append_right _ (zob hb e)))).2.1
    ·have:=Jx.pin (d,{ cls:=.type "list",data:=.seq its.toArray n5 }) (List.mem_append_right _ (List.mem_append_left _ (by simp)))
     exact⟨this.1,this.2.1⟩
   cases ok with
   | false=>
    rw [if_neg (by decide)] at q9 ⊢
    obtain⟨m',hm,w9⟩:=hN _ _ q9
    obtain⟨k1,k2,k3,k4⟩:=keepT J9
    exact⟨m',hm,i+1,acc,its,H9,σ8,J9.pins_of (fun p hp=>by simp at hp),kp8,T.keep _ _ _ st7 k1,k2,k4,⟨n5,k3⟩,va5,w9⟩
   | true=>
    rw [if_pos rfl] at q9 ⊢
    refine never (thn (he bk _ s9 σ8 H9 _ J9 q9) fun y s10 ⟨v,H10,J10,r10,q10⟩=>?_)
    obtain⟨m',hm,w10⟩:=hN _ _ q10
    obtain⟨k1,k2,k3,k4⟩:=keepT J10
    have hzs:its.toArray.size<=sizeLine:=by rw [List.size_toArray,← va5.length];omega
    refine wpAny_list_append_plain (hsz:=hzs) ⟨n5,k3⟩ fun h11 pl11 sb11=>?_
    have J10':Inv (cxB X scope N' bk) [] σ8 H10 s10:=J10.pins_of (fun p hp=>by simp at hp)
    have J11:Inv (cxB X scope N' bk) [] σ8 H10 { s10 with heap:=h11 }:=J10'.turned (it:=d) (t':=s10.toks) (fun b o hb e=>(sb11.2 b hb).trans e) k4 (J0'.ok.exf d List.mem_cons_self).1 (.inl List.mem_cons_self) (fun x c e=>(J0'.ok.exf d List.mem_cons_self).2 x c e) fun p hp=>by
     have hp':p∈(X.pn++pins)++[]:=hp
     rw [List.append_nil] at hp'
     exact (ne_pn p hp').1
    refine⟨m',hm,i+1,acc++[v],its++[y],H10,σ8,J11,kp8,T.keep _ _ _ st7 (fun b hb o e=>(sb11.2 b (ne_d b hb)).trans (k1 b hb o e)),k2,k4,?_,va5.append (.cons r10 .nil),w10⟩
    have:(its++[y]).toArray=its.toArray.push y:=by simp
    rw [this]
    exact pl11
 have st4:tn 0 h4:=T.keep _ _ _ st3' fun b _ o e=>hk b o e
 have pl4:h4.PlainList d #[]:=⟨0,hk d _ od3⟩
 have L4:=loop { s3 with heap:=h4 } J0' st4 pl4
 exact codeAny_compStart_list L4 (T.self X.A 0 _ _ _ st4 L4)
theorem pe_comp (hc:X.calm=true)(B:Blk X.env.scope scope X.N N' fr)(hi:PI X tg iter wi)
  (hg:∀ b,PG (cxB X scope N' b) tg g) (hgk:GKeep fr g) (ht:∀ b,PTs (cxB X scope N' b) ifs tc) (he:∀ b,PE (cxB X scope N' b) elt te)
  (hs:∀ x,foldedSetIterable iter X.env x=pure x:=by intro _;rfl):PE X (.ListComp elt [⟨tg,iter,ifs,0⟩] scope pos) (tComp wi fr g tc te):=by
 intro pins s σ H Q I h
 rw [eval_ListComp]
 refine wpAny_comprehension_free (use:=none) rfl hs (zlc (I.freeCells B)) B.kind B.locl (thn (hi pins s σ H _ I h) fun v s1 h1=>thn h1 fun itv s2 h2=>?_)
 refine comp_block (RR:=fun acc C=>compPost (model X.prog X.w) X.A X.xe none (EP X pins σ Q) acc C) hc B hg hgk ht he h2 ?_
 intro d C v H' s' m' I' hv q hn fC hCd
 refine⟨m',hn,fun h'' sb=>?_⟩
 obtain⟨c0,c1,c2,c3,c4,c5⟩:=fC
 exact⟨v,H',I'.turned (it:=C) (t':=s'.toks) (fun b o hb e=>(sb.2 b hb).trans e) c0 c1 c3 c4 c5,by rw [hv];rfl,q⟩
theorem ps_setcomp {i:Nat}{x:Str}{pos' spos:Pos}(hc:X.calm=true)(hN:X.N.Nodup)(hi':X.N[i]?=some x)(hx:X.env.scope.names.lookup x=some .local)(B:Blk X.env.scope scope X.N N' fr)(hi:PI X tg iter wi)
  (hg:∀ b,PG (cxB X scope N' b) tg g) (hgk:GKeep fr g) (ht:∀ b,PTs (cxB X scope N' b) ifs tc) (he:∀ b,PE (cxB X scope N' b) elt te)
  (hsw:swapsWith (.ListComp elt [⟨tg,iter,ifs,0⟩] scope pos) (some (.Name x pos')) spos.line X.env=pure true:=by rfl)
  (hs:∀ x,foldedSetIterable iter X.env x=pure x:=by intro _;rfl):PS X (.Assign [.Name x pos'] (.ListComp elt [⟨tg,iter,ifs,0⟩] scope pos) spos) (tAsg (tComp wi fr g tc te) (gName i)):=by
 intro pins s σ H D I h
 rw [exec_Assign_Name_used _ _ _ _ hsw]
 refine wpAny_bind (wpAny_standAt (wpAny_bind ?_))
 show wpAny _ _ (do let _ ← comprehension (.ListComp elt [⟨tg,iter,ifs,0⟩] scope pos) scope X.env _ (newList []) false (eval iter X.env) (some (assign (.Name x pos') X.env))) _ _ s
 refine wpAny_bind (wpAny_mono (wpAny_comprehension_free (use:=some (assign (.Name x pos') X.env)) (Q:=fun _ s'=>SP X pins D .next s') rfl hs (zlc (I.freeCells B)) B.kind B.locl (thn (hi pins s σ H _ I h) fun v s1 h1=>thn h1 fun itv s2 h2=>?_)) (fun _ s' hq=>wpAny_pure (wpAny_pure hq)) fun _ _ e=>e)
 refine comp_block (Q:=fun v H1=>gName i v σ H1 D.nx) (RR:=fun acc C=>compPost (model X.prog X.w) X.A X.xe (some (assign (.Name x pos') X.env)) (fun _ s'=>SP X pins D .next s') acc C) hc B hg hgk ht he h2 ?_
 intro d C v H' s' m' I' hv q hn fC hCd
 obtain⟨c0,c1,c2,c3,c4,c5⟩:=fC
 subst hv
 refine wpAny_assign_Name (store_ok2 I' hN hi' (.inl hx) (show RelV (.ref d) (.ref d) from rfl) (fun s6 I6 ⟨a,sa,ha⟩=>?_) (.inr hx))
 have haC:C≠a:=by
  rcases ha with z | z
  ·rw [z];exact c1
  ·exact fun z'=>c4 x a z z'.symm
 refine⟨m',hn.sameBut sa haC,fun h'' sb=>?_⟩
 exact⟨_,H',I6.turned (it:=C) (t':=s6.toks) (fun b o hb e=>(sb.2 b hb).trans e) c0 c1 c3 c4 c5,q⟩
end
end L2
namespace L2
open PySem PySem.Spec PyProof.Rows
inductive D where
 | int (i:Int) | str (x:Str) | tup (ds:List D)
mutual
noncomputable def Rep (K:PySem.W.Frag) (H:Hp):D->V->Prop
 | .int i,v=>v = .int i
 | .str x,v=>v = .str x
 | .tup ds,v=>∃ a xs,v = .ref a/\SqT K H a xs/\Reps K H ds xs
noncomputable def Reps (K:PySem.W.Frag) (H:Hp):List D->List V->Prop
 | [],xs=>xs = []
 | d::ds,xs=>∃ x r,xs=x::r/\Rep K H d x/\Reps K H ds r
end
mutual
noncomputable def D.depth:D->Nat
 | .int _=>0
 | .str _=>0
 | .tup ds=>depths ds+1
noncomputable def depths:List D->Nat
 | []=>0
 | d::ds=>max d.depth (depths ds)
end
theorem depth_mem {d:D}:∀ {ds:List D},d∈ds->d.depth<=depths ds
 | [],h=>by cases h
 | e::ds,h=>by
  rw [depths]
  rcases List.mem_cons.mp h with z | z
  ·rw [z];exact Nat.le_max_left _ _
  ·exact Nat.le_trans (depth_mem z) (Nat.le_max_right _ _)
theorem Reps.length {K:PySem.W.Frag}{H:Hp}:∀ {ds:List D} {xs:List V},Reps K H ds xs->xs.length=ds.length
 | [],xs,h=>by rw [Reps] at h;rw [h];rfl
 | d::ds,xs,h=>by
  rw [Reps] at h
  obtain⟨x,r,rfl,_,h3⟩:=h
  rw [List.length_cons,List.length_cons,h3.length]
theorem Rep.tup_iff {K:PySem.W.Frag}{H:Hp}{ds:List D}{v:V}:Rep K H (.tup ds) v ↔ ∃ a xs,v = .ref a/\SqT K H a xs/\Reps K H ds xs:=by rw [Rep]
theorem Same.laid {H:Hp}{p:Addr}{o:HO}(hp:H p=none):Same H (upd H p o):=fun b u e=>by rw [upd_ne (zma e hp)];exact e
section
variable  {X:Cx}{pins:List (Addr×Obj)}{σ:St}{H:Hp}{s:Shared}
mutual
theorem Rep.inj (I:Inv X pins σ H s):∀ {d e:D} {v:V},Rep X.K H d v->Rep X.K H e v->d=e
 | .int i,.int j,v,h,h'=>by simp only [Rep] at h h';subst h;cases h';rfl
 | .int i,.str j,v,h,h'=>by simp only [Rep] at h h';subst h;cases h'
 | .int i,.tup j,v,h,h'=>by simp only [Rep] at h h';subst h;obtain⟨_,_,z,_⟩:=h';cases z
 | .str i,.int j,v,h,h'=>by simp only [Rep] at h h';subst h;cases h'
 | .str i,.str j,v,h,h'=>by simp only [Rep] at h h';subst h;cases h';rfl
 | .str i,.tup j,v,h,h'=>by simp only [Rep] at h h';subst h;obtain⟨_,_,z,_⟩:=h';cases z
 | .tup i,.int j,v,h,h'=>by simp only [Rep] at h h';subst h';obtain⟨_,_,z,_⟩:=h;cases z
 | .tup i,.str j,v,h,h'=>by simp only [Rep] at h h';subst h';obtain⟨_,_,z,_⟩:=h;cases z
 | .tup ds,.tup es,v,h,h'=>by
  simp only [Rep] at h h'
  obtain⟨a,xs,rfl,h2,h3⟩:=h
  obtain⟨b,ys,z,h4,h5⟩:=h'
  cases z
  rw [I.tuple_inj h4 h2] at h5
  rw [Reps.inj I h3 h5]
theorem Reps.inj (I:Inv X pins σ H s):∀ {ds es:List D} {xs:List V},Reps X.K H ds xs->Reps X.K H es xs->ds=es
 | [],[],xs,h,h'=>rfl
 | [],e::es,xs,h,h'=>by simp only [Reps] at h h';subst h;obtain⟨_,_,z,_⟩:=h';cases z
 | d::ds,[],xs,h,h'=>by simp only [Reps] at h h';subst h';obtain⟨_,_,z,_⟩:=h;cases z
 | d::ds,e::es,xs,h,h'=>by
  simp only [Reps] at h h'
  obtain⟨x,r,rfl,h2,h3⟩:=h
  obtain⟨y,q,z,h4,h5⟩:=h'
  cases z
  rw [Rep.inj I h2 h4,Reps.inj I h3 h5]
end
open SeqAt in
mutual
theorem eqAt_D (I:Inv X pins σ H s):∀ (d e:D) {x y:V} {u v:Value} {A:Around},Rep X.K H d x->Rep X.K H e y->RelV x u->RelV y v->A.units+d.depth<cLine->∃ b,(b=true↔d=e)/\EqAt A s u v b
 | .int i,.int j,x,y,u,v,A,h,h',r,r',_=>by
  simp only [Rep] at h h';subst h h';obtain⟨t,rfl⟩:=r;obtain⟨t',rfl⟩:=r'
  exact⟨_,by simp,EqAt.int_int i t j t'⟩
 | .int i,.str j,x,y,u,v,A,h,h',r,r',_=>by
  simp only [Rep] at h h';subst h h';obtain⟨t,rfl⟩:=r;obtain⟨t',rfl⟩:=r'
  exact⟨_,by simp,EqAt.int_str i t j t'⟩
 | .str i,.int j,x,y,u,v,A,h,h',r,r',_=>by
  simp only [Rep] at h h';subst h h';obtain⟨t,rfl⟩:=r;obtain⟨t',rfl⟩:=r'
  exact⟨_,by simp,EqAt.str_int i t j t'⟩
 | .str i,.str j,x,y,u,v,A,h,h',r,r',_=>by
  simp only [Rep] at h h';subst h h';obtain⟨t,rfl⟩:=r;obtain⟨t',rfl⟩:=r'
  exact⟨_,by simp,EqAt.str_str i t j t'⟩
 | .int i,.tup j,x,y,u,v,A,h,h',r,r',hu=>by
  simp only [Rep] at h h';subst h;obtain⟨t,rfl⟩:=r
  obtain⟨a,xs,rfl,h2,_⟩:=h'
  cases r'
  obtain⟨its,_,p,_⟩:=I.tuple h2
  exact⟨false,by simp,EqAt.int_tuple i t (show s.heap.IsTuple a its.toArray from p) (Nat.lt_of_le_of_lt (Nat.le_add_right _ _) hu)⟩
 | .str i,.tup j,x,y,u,v,A,h,h',r,r',hu=>by
  simp only [Rep] at h h';subst h;obtain⟨t,rfl⟩:=r
  obtain⟨a,xs,rfl,h2,_⟩:=h'
  cases r'
  obtain⟨its,_,p,_⟩:=I.tuple h2
  exact⟨false,by simp,EqAt.str_tuple i t (show s.heap.IsTuple a its.toArray from p) (Nat.lt_of_le_of_lt (Nat.le_add_right _ _) hu)⟩
 | .tup j,.int i,x,y,u,v,A,h,h',r,r',hu=>by
  simp only [Rep] at h h';subst h';obtain⟨t,rfl⟩:=r'
  obtain⟨a,xs,rfl,h2,_⟩:=h
  cases r
  obtain⟨its,_,p,_⟩:=I.tuple h2
  exact⟨false,by simp,EqAt.tuple_int i t (show s.heap.IsTuple a its.toArray from p) (Nat.lt_of_le_of_lt (Nat.le_add_right _ _) hu)⟩
 | .tup j,.str i,x,y,u,v,A,h,h',r,r',hu=>by
  simp only [Rep] at h h';subst h';obtain⟨t,rfl⟩:=r'
  obtain⟨a,xs,rfl,h2,_⟩:=h
  cases r
  obtain⟨its,_,p,_⟩:=I.tuple h2
  exact⟨false,by simp,EqAt.tuple_str i t (show s.heap.IsTuple a its.toArray from p) (Nat.lt_of_le_of_lt (Nat.le_add_right _ _) hu)⟩
 | .tup ds,.tup es,x,y,u,v,A,h,h',r,r',hu=>by
  by_cases hne:u=v
  ·subst hne
   have hxy:x=y:=r.inj r'
   subst hxy
   exact⟨true,by simp [Rep.inj I h h'],EqAt.same u⟩
  ·simp only [Rep] at h h'
   obtain⟨a,xs,rfl,h2,h3⟩:=h
   obtain⟨b,ys,rfl,h4,h5⟩:=h'
   cases r
   cases r'
   obtain⟨its,rv,p,_⟩:=I.tuple h2
   obtain⟨its',rv',p',_⟩:=I.tuple h4
   have hab:a≠b:=fun z=>hne (by rw [z])
   have hu':A.in1.units+depths ds<cLine:=by
    have:A.units+(depths ds+1)<cLine:=by rw [D.depth] at hu;exact hu
    show A.units+1+depths ds<cLine
    omega
   obtain⟨e,he,hE⟩:=eqAt_Ds I ds es (A:=A.in1) h3 h5 rv rv' hu'
   have R:=RcAt.tuples (A:=A) (s:=s) (l:=a) (b:=b) (items:=its.toArray) (items2:=its'.toArray) (e:=e) (show s.heap.IsTuple a its.toArray from p) (show s.heap.IsTuple b its'.toArray from p') (Nat.lt_of_le_of_lt (Nat.le_add_right _ _) hu) (fun j h1 h2=>by
    simpa using hE j (its[j]'(by simpa using h1)) (its'[j]'(by simpa using h2)) (by simp) (by simp))
   refine⟨_,?_,EqAt.of_refs hab R⟩
   rw [he.symm]
   have l1:its.toArray.size=ds.length:=by rw [List.size_toArray,← rv.length,h3.length]
   have l2:its'.toArray.size=es.length:=by rw [List.size_toArray,← rv'.length,h5.length]
   rw [l1,l2]
   simp
theorem eqAt_Ds (I:Inv X pins σ H s):∀ (ds es:List D) {xs ys:List V} {us vs:List Value} {A:Around},Reps X.K H ds xs->Reps X.K H es ys->Vals xs us->Vals ys vs->A.units+depths ds<cLine →
  ∃ e:Nat->Bool,(((List.range (min ds.length es.length)).all e=true/\ds.length=es.length)↔D.tup ds=D.tup es)/\∀ (j:Nat) u v,us[j]?=some u->vs[j]?=some v->EqAt A s u v (e j)
 | [],es,xs,ys,us,vs,A,h,h',r,r',_=>by
  rw [Reps] at h;subst h;cases r
  refine⟨fun _=>true,?_,fun j u v e=>by simp at e⟩
  cases es<;>simp
 | d::ds,[],xs,ys,us,vs,A,h,h',r,r',_=>by
  rw [Reps] at h';subst h';cases r'
  exact⟨fun _=>true,by simp,fun j u v _ e=>by simp at e⟩
 | d::ds,e::es,xs,ys,us,vs,A,h,h',r,r',hu=>by
  simp only [Reps] at h h'
  obtain⟨x,q,rfl,h2,h3⟩:=h
  obtain⟨y,q',rfl,h4,h5⟩:=h'
  cases r with
  | cons r1 r2=>
   cases r' with
   | cons r3 r4=>
    rw [depths] at hu
    have m1:=Nat.le_max_left d.depth (depths ds)
    have m2:=Nat.le_max_right d.depth (depths ds)
    obtain⟨b,hb,hB⟩:=eqAt_D I d e (A:=A) h2 h4 r1 r3 (by omega)
    obtain⟨f,hf,hF⟩:=eqAt_Ds I ds es (A:=A) h3 h5 r2 r4 (by omega)
    refine⟨fun j=>match j with | 0=>b | j+1=>f j,?_,fun j u v e1 e2=>?_⟩
    ·have hf':((List.range (min ds.length es.length)).all f=true/\ds.length=es.length)↔ds=es:=by rw [hf];simp
     rw [List.length_cons,List.length_cons,Nat.succ_min_succ,List.range_succ_eq_map,List.all_cons,List.all_map]
     simp only [D.tup.injEq,List.cons.injEq,Bool.and_eq_true,Nat.add_right_cancel_iff]
     rw [← hf',← hb]
     constructor
     ·rintro ⟨⟨a1,a2⟩,a3⟩;exact⟨a1,a2,a3⟩
     ·rintro ⟨a1,a2,a3⟩;exact⟨⟨a1,a2⟩,a3⟩
    ·cases j with
     | zero=>simp at e1 e2;subst e1 e2;exact hB
     | succ j=>exact hF j u v (by simpa using e1) (by simpa using e2)
end
end
end L2
namespace L2
open PySem PySem.Spec PyProof.Rows
section
variable  {X:Cx}
noncomputable def rEqD (K:PySem.W.Frag):R2:=fun x y H Q=>∃ ds es,Rep K H (.tup ds) x/\Rep K H (.tup es) y/\depths ds<=50/\∀ b,(b=true↔ds=es)->Q (.bl b) H
noncomputable def rNeD (K:PySem.W.Frag):R2:=fun x y H Q=>∃ ds es,Rep K H (.tup ds) x/\Rep K H (.tup es) y/\depths ds<=50/\∀ b,(b=true↔ds≠es)->Q (.bl b) H
theorem op_eqD (hu:X.A.units+64<cLine):OpR X (compareOp .Eq) (rEqD X.K):=by
 intro pins s σ H x y v u Q I rx ry h
 obtain⟨ds,es,h1,h2,hd,q⟩:=h
 rw [Rep.tup_iff] at h1 h2
 obtain⟨a,xs,rfl,h3,h4⟩:=h1
 obtain⟨b,ys,rfl,h5,h6⟩:=h2
 cases rx
 cases ry
 obtain⟨its,rv,p,_⟩:=I.tuple h3
 obtain⟨its',rv',p',_⟩:=I.tuple h5
 have hu':X.A.in1.units+depths ds<cLine:=by show X.A.units+1+depths ds<cLine;omega
 obtain⟨e,he,hE⟩:=eqAt_Ds I ds es (A:=X.A.in1) h4 h6 rv rv' hu'
 have R:=SeqAt.RcAt.tuples (A:=X.A) (s:=s) (l:=a) (b:=b) (items:=its.toArray) (items2:=its'.toArray) (e:=e) (show s.heap.IsTuple a its.toArray from p) (show s.heap.IsTuple b its'.toArray from p') (by omega) (fun j h1 h2=>by
  simpa using hE j (its[j]'(by simpa using h1)) (its'[j]'(by simpa using h2)) (by simp) (by simp))
 refine R X.prog X.w X.xe _ ⟨.bl _,H,I,rfl,q _ ?_⟩
 have l1:its.toArray.size=ds.length:=by rw [List.size_toArray,← rv.length,h4.length]
 have l2:its'.toArray.size=es.length:=by rw [List.size_toArray,← rv'.length,h6.length]
 have he':((List.range (min ds.length es.length)).all e=true/\ds.length=es.length)↔ds=es:=by rw [he];simp
 rw [l1,l2,← he']
 simp
theorem op_neD (hu:X.A.units+64<cLine):OpR X (compareOp .NotEq) (rNeD X.K):=by
 intro pins s σ H x y v u Q I rx ry h
 obtain⟨ds,es,h1,h2,hd,q⟩:=h
 rw [Rep.tup_iff] at h1 h2
 obtain⟨a,xs,rfl,h3,h4⟩:=h1
 obtain⟨b,ys,rfl,h5,h6⟩:=h2
 cases rx
 cases ry
 obtain⟨its,rv,p,_⟩:=I.tuple h3
 obtain⟨its',rv',p',_⟩:=I.tuple h5
 have hu':X.A.in1.units+depths ds<cLine:=by show X.A.units+1+depths ds<cLine;omega
 obtain⟨e,he,hE⟩:=eqAt_Ds I ds es (A:=X.A.in1) h4 h6 rv rv' hu'
 have R:=SeqAt.RcNeAt.tuples (A:=X.A) (s:=s) (l:=a) (b:=b) (items:=its.toArray) (items2:=its'.toArray) (e:=e) (show s.heap.IsTuple a its.toArray from p) (show s.heap.IsTuple b its'.toArray from p') (by omega) (fun j h1 h2=>by
  simpa using hE j (its[j]'(by simpa using h1)) (its'[j]'(by simpa using h2)) (by simp) (by simp))
 refine R X.prog X.w X.xe _ ⟨.bl _,H,I,rfl,q _ ?_⟩
 have l1:its.toArray.size=ds.length:=by rw [List.size_toArray,← rv.length,h4.length]
 have l2:its'.toArray.size=es.length:=by rw [List.size_toArray,← rv'.length,h6.length]
 have he':((List.range (min ds.length es.length)).all e=true/\ds.length=es.length)↔ds=es:=by rw [he];simp
 rw [l1,l2,ne_eq,← not_congr he',Bool.not_eq_true',← Bool.not_eq_true,Bool.and_eq_true,beq_iff_eq]
noncomputable def rEqL (K:PySem.W.Frag):R2:=fun x y H Q=>∃ a b xs ys ds es,x = .ref a/\y = .ref b/\SqL K H a xs/\SqL K H b ys/\Reps K H ds xs/\Reps K H es ys/\depths ds<=50/\∀ c,(c=true↔ds=es)->Q (.bl c) H
noncomputable def rNeL (K:PySem.W.Frag):R2:=fun x y H Q=>∃ a b xs ys ds es,x = .ref a/\y = .ref b/\SqL K H a xs/\SqL K H b ys/\Reps K H ds xs/\Reps K H es ys/\depths ds<=50/\∀ c,(c=true↔ds≠es)->Q (.bl c) H
theorem op_eqL (hu:X.A.units+64<cLine):OpR X (compareOp .Eq) (rEqL X.K):=by
 intro pins s σ H x y v u Q I rx ry h
 obtain⟨a,b,xs,ys,ds,es,rfl,rfl,h3,h5,h4,h6,hd,q⟩:=h
 cases rx
 cases ry
 obtain⟨its,rv,p,_⟩:=I.list h3
 obtain⟨its',rv',p',_⟩:=I.list h5
 have hu':X.A.in1.units+depths ds<cLine:=by show X.A.units+1+depths ds<cLine;omega
 obtain⟨e,he,hE⟩:=eqAt_Ds I ds es (A:=X.A.in1) h4 h6 rv rv' hu'
 have l1:its.toArray.size=ds.length:=by rw [List.size_toArray,← rv.length,h4.length]
 have l2:its'.toArray.size=es.length:=by rw [List.size_toArray,← rv'.length,h6.length]
 have he':((List.range (min ds.length es.length)).all e=true/\ds.length=es.length)↔ds=es:=by rw [he];simp
 by_cases hl:ds.length=es.length
 ·have R:=SeqAt.RcAt.lists (A:=X.A) (s:=s) (l:=a) (b:=b) (items:=its.toArray) (items2:=its'.toArray) (e:=e) p.isList p'.isList (by rw [l1,l2];exact hl) (by omega) (fun j h1 h2=>by
   simpa using hE j (its[j]'(by simpa using h1)) (its'[j]'(by simpa using h2)) (by simp) (by simp))
  refine R X.prog X.w X.xe _ ⟨.bl _,H,I,rfl,q _ ?_⟩
  rw [l1,← he',← hl,Nat.min_self]
  simp
 ·have R:=SeqAt.RcAt.lists_lengths (A:=X.A) (s:=s) (l:=a) (b:=b) (items:=its.toArray) (items2:=its'.toArray) p.isList p'.isList (by rw [l1,l2];simpa using hl) (by omega)
  refine R X.prog X.w X.xe _ ⟨.bl _,H,I,rfl,q _ ?_⟩
  constructor
  ·intro z;cases z
  ·intro z;exact absurd (by rw [z]) hl
theorem op_neL (hu:X.A.units+64<cLine):OpR X (compareOp .NotEq) (rNeL X.K):=by
 intro pins s σ H x y v u Q I rx ry h
 obtain⟨a,b,xs,ys,ds,es,rfl,rfl,h3,h5,h4,h6,hd,q⟩:=h
 cases rx
 cases ry
 obtain⟨its,rv,p,_⟩:=I.list h3
 obtain⟨its',rv',p',_⟩:=I.list h5
 have hu':X.A.in1.units+depths ds<cLine:=by show X.A.units+1+depths ds<cLine;omega
 obtain⟨e,he,hE⟩:=eqAt_Ds I ds es (A:=X.A.in1) h4 h6 rv rv' hu'
 have l1:its.toArray.size=ds.length:=by rw [List.size_toArray,← rv.length,h4.length]
 have l2:its'.toArray.size=es.length:=by rw [List.size_toArray,← rv'.length,h6.length]
 have he':((List.range (min ds.length es.length)).all e=true/\ds.length=es.length)↔ds=es:=by rw [he];simp
 by_cases hl:ds.length=es.length
 ·have R:=SeqAt.RcNeAt.lists (A:=X.A) (s:=s) (l:=a) (b:=b) (items:=its.toArray) (items2:=its'.toArray) (e:=e) p.isList p'.isList (by rw [l1,l2];exact hl) (by omega) (fun j h1 h2=>by
   simpa using hE j (its[j]'(by simpa using h1)) (its'[j]'(by simpa using h2)) (by simp) (by simp))
  refine R X.prog X.w X.xe _ ⟨.bl _,H,I,rfl,q _ ?_⟩
  rw [l1,ne_eq,← not_congr he',← hl,Nat.min_self]
  simp
 ·have R:=SeqAt.RcNeAt.lists_lengths (A:=X.A) (s:=s) (l:=a) (b:=b) (items:=its.toArray) (items2:=its'.toArray) p.isList p'.isList (by rw [l1,l2];simpa using hl) (by omega)
  refine R X.prog X.w X.xe _ ⟨.bl _,H,I,rfl,q _ ?_⟩
  constructor
  ·intro _ z;exact absurd (by rw [z]) hl
  ·intro _;rfl
open Classical in
noncomputable def isD (K:PySem.W.Frag) (H:Hp) (d:D) (u:Value):Bool:=decide (∃ v,RelV v u/\Rep K H d v)
open Classical in
theorem isD_iff {K:PySem.W.Frag}{H:Hp}{d:D}{u:Value}:isD K H d u=true ↔ ∃ v,RelV v u/\Rep K H d v:=by
 unfold isD
 exact decide_eq_true_iff
theorem any_isD {pins:List (Addr×Obj)}{σ:St}{H:Hp}{s:Shared}(I:Inv X pins σ H s){d:D}:∀ {ds:List D} {xs:List V} {us:List Value},Reps X.K H ds xs->Vals xs us->(us.any (isD X.K H d)=true↔d∈ds)
 | [],xs,us,h,r=>by rw [Reps] at h;subst h;cases r;simp
 | e::ds,xs,us,h,r=>by
  rw [Reps] at h
  obtain⟨x,q,rfl,h2,h3⟩:=h
  cases r with
  | @cons _ u0 _ us0 r1 r2=>
   rw [List.any_cons,Bool.or_eq_true,any_isD I h3 r2,List.mem_cons]
   have:isD X.K H d u0=true↔d=e:=by
    rw [isD_iff]
    constructor
    ·rintro ⟨v,rv,hv⟩
     rw [rv.inj r1] at hv
     exact Rep.inj I hv h2
    ·intro z
     subst z
     exact⟨x,r1,h2⟩
   rw [this]
theorem eqAt_isD {pins:List (Addr×Obj)}{σ:St}{H:Hp}{s:Shared}(I:Inv X pins σ H s){A:Around}{d:D}{x:V}{v:Value}(hx:Rep X.K H d x)(rx:RelV x v){ds:List D}(hu:A.units+depths ds<cLine) :
  ∀ {es:List D} {xs:List V} {us:List Value},(∀ e∈es,e∈ds)->Reps X.K H es xs->Vals xs us->∀ u∈us,SeqAt.EqAt A s u v (isD X.K H d u)
 | [],xs,us,_,h,r=>by rw [Reps] at h;subst h;cases r;intro u hu;cases hu
 | e::es,xs,us,hs,h,r=>by
  rw [Reps] at h
  obtain⟨y,q,rfl,h2,h3⟩:=h
  cases r with
  | cons r1 r2=>
   intro u hu'
   rcases List.mem_cons.mp hu' with z | z
   ·subst z
    obtain⟨b,hb,hB⟩:=eqAt_D I e d (A:=A) h2 hx r1 rx (Nat.lt_of_le_of_lt (Nat.add_le_add_left (depth_mem (hs e List.mem_cons_self)) _) hu)
    have:isD X.K H d u=b:=by
     have h5:isD X.K H d u=true↔e=d:=by
      rw [isD_iff]
      constructor
      ·rintro ⟨w,rw',hw⟩
       rw [rw'.inj r1] at hw
       exact (Rep.inj I hw h2).symm
      ·intro z
       subst z
       exact⟨y,r1,h2⟩
     rw [Bool.eq_iff_iff,h5,hb]
    rw [this]
    exact hB
   ·exact eqAt_isD I hx rx hu (fun e' h'=>hs e' (List.mem_cons_of_mem _ h')) h3 r2 u z
noncomputable def rInD (K:PySem.W.Frag) (neg:Bool):R2:=fun x y H Q=>∃ p xs d ds,y = .ref p/\(SqL K H p xs ∨ SqT K H p xs)/\Rep K H d x/\Reps K H ds xs/\depths ds<=50/\∀ b,(b=true↔(if neg=true then d ∉ ds else d∈ds))->Q (.bl b) H
theorem op_inD (hu:X.A.units+64<cLine):OpR X (compareOp .In) (rInD X.K false):=by
 intro pins s σ H x y v u Q I rx ry h
 obtain⟨p,xs,d,ds,rfl,hq,hx,hs,hd,q⟩:=h
 cases ry
 have hu':X.A.in1.units+depths ds<cLine:=by show X.A.units+1+depths ds<cLine;omega
 rcases hq with hq | hq
 ·obtain⟨its,rv,pl,_⟩:=I.list hq
  refine SeqAt.in_listAt (isD X.K H d) pl.isList (fun y hy=>eqAt_isD I hx rx hu' (fun _ z=>z) hs rv y (by simpa using hy)) ⟨.bl _,H,I,rfl,q _ ?_⟩
  rw [if_neg (by decide),← any_isD I hs rv];simp
 ·obtain⟨its,rv,pl,_⟩:=I.tuple hq
  refine SeqAt.in_tupleAt (isD X.K H d) (show s.heap.IsTuple p its.toArray from pl) (fun y hy=>eqAt_isD I hx rx hu' (fun _ z=>z) hs rv y (by simpa using hy)) ⟨.bl _,H,I,rfl,q _ ?_⟩
  rw [if_neg (by decide),← any_isD I hs rv];simp
noncomputable def CDiv64 (i j:Int):Prop:=0<j/\j<2 ^ 64
theorem op_fdiv64:OpR X (binaryOp .FloorDiv) (rI CDiv64 fun i j=>.int (i / j)):=opI fun i j _ _ _ _ _ hc q=>by
 have h1:(0:Int)<j:=hc.1
 have h2:j<2 ^ 64:=hc.2
 refine floordiv_int (by omega) (by rw [Int.fdiv_eq_ediv_of_nonneg i (by omega)];exact q) (.inl (PyProof.noPylong_of_log2 ?_))
 have h3:j.natAbs<2 ^ 64:=by omega
 have h4:j.natAbs≠0:=by omega
 have:=(Nat.log2_lt h4).mpr h3
 omega
theorem pi_str {tg e:Expr}{te:TE}(he:PE X e te):PI X tg e (fun σ H R=>te σ H fun x H1=>∃ z:Str,x = .str z/\R ⟨fun i _=>i<z.cps.size,fun i H y H'=>H'=H/\∃ c,z.cps[i]?=some c/\y = .str ⟨#[c]⟩,fun i _=>z.cps.size<=i⟩ H1):=by
 intro pins s σ H R I h
 refine thn (he pins s σ H _ I h) fun v s1 ⟨x,H1,I1,r1,q1⟩=>?_
 obtain⟨z,rfl,q⟩:=q1
 obtain⟨t,rfl⟩:=r1
 have main:∀ (n:String) (o:Obj),(["enumerate","zip","dict_itemiterator","dict_reverseitemiterator","odict_iterator","itertools.zip_longest","itertools.pairwise"].contains n=false) →
   o = { cls:=.type n,data:=.fields #[.str z t,.int 0 0] }->(∀ A':Around,A'.handled=none->Walks X.prog X.w A' s1.heap.objs.size [s1.heap.objs.size] [s1.heap.objs.size] z.cps.size (SignAt z) (fun i h=>h.IsStrIter s1.heap.objs.size n z t i)) →
   (∀ (A:Around) (i:Nat) (s:Shared) (Q:Value->Shared->Prop) (E:Value->Shared->Prop),s.heap.IsStrIter s1.heap.objs.size n z t i->Q (.ref s1.heap.objs.size) s->wpAny (model X.prog X.w) A (pyIter (.ref s1.heap.objs.size)) Q E s) →
   PIE X pins σ tg R (.ref s1.heap.objs.size) { s1 with heap:=s1.heap.push o }:=by
  intro n o hn ho W hself
  subst ho
  refine⟨s1.heap.objs.size,[s1.heap.objs.size],fun i h=>h.IsStrIter s1.heap.objs.size n z t i/\i<=z.cps.size,_,H1,rfl,I1.kept (t':=s1.toks) fun b o e=>Heap.get?_push_of_some _ e,?_,⟨⟨_,Heap.get?_push_size _ rfl,rfl,rfl⟩,Nat.zero_le _⟩,fun b hb=>?_,q⟩
  ·refine⟨by simp,fun i h st b hb=>?_,fun i h h' st k=>⟨?_,st.2⟩,?_,?_,fun A i s Q E st h=>?_⟩
   ·have e:b=s1.heap.objs.size:=by simpa using hb
    subst e
    obtain⟨o,e,c,d⟩:=st.1
    exact⟨o,e,fun v z=>by rw [d] at z;cases z⟩
   ·obtain⟨o,ho,r⟩:=st.1
    exact⟨o,k _ (by simp) o ho,r⟩
   ·intro Y hP hw hK hc i pins' s' σ' H' E I' hf st hg
    obtain⟨f0,f1,f2,f3,f4,f5⟩:=hf s1.heap.objs.size (by simp)
    refine (W Y.A (I'.ok.hd hc)).item i s' _ _ hg st.1 fun v h' tk hv st' kk=>?_
    obtain⟨c,u,hc',rfl⟩:=hv
    have I1':Inv Y pins' σ' H' { s' with heap:=h',toks:=tk }:=I'.turned (fun b o hb e=>kk b o (by simpa using hb) e) f0 f1 f3 f4 f5
    obtain⟨o,e,cl,d⟩:=id st'
    exact⟨_,rfl,go_of (s:={ s' with heap:=h',toks:=tk }) e cl d hn ⟨.str ⟨#[c]⟩,H',I1',⟨u,rfl⟩,⟨rfl,c,hc',rfl⟩,⟨st',hg⟩,fun b hb=>(hf b hb).1⟩⟩
   ·intro Y hP hw hK hc i pins' s' σ' H' E I' hf st hg
    obtain⟨f0,f1,f2,f3,f4,f5⟩:=hf s1.heap.objs.size (by simp)
    have hi:i=z.cps.size:=Nat.le_antisymm st.2 hg
    refine (W Y.A (I'.ok.hd hc)).done s' _ _ (hi ▸ st.1) fun h' tk kk=>⟨rfl,?_⟩
    exact I'.turned (fun b o hb e=>kk b o (by simpa using hb) e) f0 f1 f3 f4 f5
   ·exact hself A i s Q E st.1 h
  ·have e:b=s1.heap.objs.size:=by simpa using hb
   subst e
   exact I1.fpOk (Nat.le_refl _) (I1.hok.fresh (Nat.le_refl _))
 cases ha:z.cps.all (· < 128)
 ·exact wpAny_pyIter_wide ha (main "str_iterator" _ (by decide) rfl (fun A' hA=>Walks.strWide hA _ z t) fun A i s Q E st h=>wpAny_pyIter_striter_wide st h)
 ·exact wpAny_pyIter_ascii ha (main "str_ascii_iterator" _ (by decide) rfl (fun A' hA=>Walks.strAscii hA _ z t) fun A i s Q E st h=>wpAny_pyIter_striter_ascii st h)
end
end L2
namespace L2
open PySem PySem.Spec PyProof.Rows
noncomputable abbrev sL (z:Str):List Nat:=z.cps.toList
noncomputable abbrev oL (l:List Nat):Str:=⟨l.toArray⟩
theorem sL_oL (l:List Nat):sL (oL l)=l:=rfl
theorem oL_sL (z:Str):oL (sL z)=z:=by cases z;rfl
theorem zve (z:Str):z.length=(sL z).length:=by unfold Str.length sL;rw [Array.length_toList]
theorem sL_app (x y:Str):sL (x++y)=sL x++sL y:=by
 show (x.cps++y.cps).toList=_
 rw [Array.toList_append]
theorem sL_inj {x y:Str}(h:sL x=sL y):x=y:=by rw [← oL_sL x,h,oL_sL]
noncomputable def cutL {α:Type} (xs:List α) (lo hi:Option Int):List α:=(xs.drop (HT.sIx xs.length 0 lo)).take (HT.sIx xs.length xs.length hi - HT.sIx xs.length 0 lo)
theorem strIx_eq (lo hi:Option Int)(n:Nat):Builtin.Str.strSliceIndices lo hi 1 n=(List.range (HT.sIx n n hi - HT.sIx n 0 lo)).map (HT.sIx n 0 lo + ·):=by
 have h1:(1:Int) > 0:=by omega
 have clip:∀ (v:Option Int) (d:Nat),(match v with | none=>(d:Int) | some i=>(if (1:Int) > 0 then max 0 (min (if i<0 then i+(n:Int) else i) (n:Int)) else max (-1) (min (if i<0 then i+(n:Int) else i) ((n:Int) - 1))))=((HT.sIx n d v:Nat):Int):=by
  intro v d
  cases v with
  | none=>rfl
  | some i=>
   show (if (1:Int) > 0 then max 0 (min (if i<0 then i+(n:Int) else i) (n:Int)) else _)=(((if i<0 then (i+(n:Int)).toNat else min i.toNat n):Nat):Int)
   rw [if_pos h1]
   by_cases hi:i<0
   ·simp only [if_pos hi];omega
   ·simp only [if_neg hi];omega
 have e:Builtin.Str.strSliceIndices lo hi 1 n=sliceRange ((HT.sIx n 0 lo:Nat):Int) ((HT.sIx n n hi:Nat):Int) 1:=by
  unfold Builtin.Str.strSliceIndices
  simp only [h1,if_true]
  have c1:=clip lo 0
  have c2:=clip hi n
  simp only [h1,if_true] at c1 c2
  rw [← c1,← c2]
  rfl
 rw [e,sliceRange_one]
theorem Txt_slice_eq (x:Str)(lo hi:Option Int):Txt.slice x lo hi=oL (cutL (sL x) lo hi):=by
 have hn:x.length=(sL x).length:=zve x
 have key:((Builtin.Str.strSliceIndices lo hi 1 x.length).filterMap (x.cps[·]?))=cutL (sL x) lo hi:=by
  rw [strIx_eq,hn]
  unfold cutL
  exact pick_run x.cps _ _
 unfold Txt.slice
 split
 ·rename_i h
  have h2:(Builtin.Str.strSliceIndices lo hi 1 x.length).length=x.length:=by
   simp only [Bool.and_eq_true] at h
   simpa using h.2
  have h3:(cutL (sL x) lo hi)=sL x:=by
   unfold cutL
   rw [strIx_eq,List.length_map,List.length_range,hn] at h2
   have a1:=HT.sIx_le (sL x).length (sL x).length (Nat.le_refl _) hi
   have a2:HT.sIx (sL x).length 0 lo=0 ∨ (sL x).length=0:=by omega
   rcases a2 with a2 | a2
   ·rw [a2,List.drop_zero]
    exact List.take_of_length_le (by omega)
   ·rw [List.eq_nil_of_length_eq_zero a2]
    simp
  rw [h3,oL_sL]
 ·rw [key]
section
variable  {X:Cx}
theorem sl_str:SlR X (fun x lo hi H Q=>∃ z,x = .str z/\z.length<=sizeLine/\Q (.str (oL (cutL (sL z) lo hi))) H):=by
 intro pins s σ H x v vl vu lo hi sl Q I rx hs pl pu h
 obtain⟨z,rfl,hz,q⟩:=h
 obtain⟨t,rfl⟩:=rx
 have hp:∀ {v:Value} {o:Option Int},IsPart v o->∃ p:Option (Int×Tok),v=partValue p/\p.map (·.1)=o:=fun {v o} p=>by
  cases p with
  | none=>exact⟨none,rfl,rfl⟩
  | int i t=>exact⟨some (i,t),rfl,rfl⟩
 obtain⟨l,rfl,rfl⟩:=hp pl
 obtain⟨u,rfl,rfl⟩:=hp pu
 refine⟨"str",_,F.slot_str_getitem.lookup,typeIs_str _ _ _,?_⟩
 refine wpAny_getItem_str_slice (l:=l) (u:=u) (st:=none) hs rfl ?_
 have e:sliceMade z t l u none=if ((1:Int) == 1 && (Builtin.Str.strSliceIndices (l.map (·.1)) (u.map (·.1)) 1 z.length).length == z.length)=true then Made.val (.str z t) else Made.str ⟨((Builtin.Str.strSliceIndices (l.map (·.1)) (u.map (·.1)) 1 z.length).filterMap (z.cps[·]?)).toArray⟩:=rfl
 rw [e]
 refine post_val_or_str ⟨Nat.le_trans (Txt.slice_le z _ _) hz,fun t' k=>?_⟩
 refine⟨.str (Txt.slice z (l.map (·.1)) (u.map (·.1))),H,I.tok k,⟨t',rfl⟩,?_⟩
 rw [Txt_slice_eq]
 exact q
noncomputable def rSl (K:PySem.W.Frag):V->Option Int->Option Int->Hp->VK->Prop:=fun x lo hi H Q=>rSlT K x lo hi H Q ∨ rSlL K x lo hi H Q ∨ ∃ z,x = .str z/\z.length<=sizeLine/\Q (.str (oL (cutL (sL z) lo hi))) H
theorem strsAre_of {zs:List Str}:∀ {us:List Value},Vals (zs.map V.str) us->StrsAre us zs:=by
 induction zs with
 | nil=>intro us r;rw [List.map_nil] at r;cases r;exact .nil
 | cons n ns ih=>
  intro us r
  rw [List.map_cons] at r
  cases r with
  | cons r1 r2=>
   obtain⟨t,e⟩:=r1
   subst e
   exact .cons n t (ih r2)
theorem mt_join:MtR X "str.join" (fun x vs H Q=>∃ z a zs,x = .str z/\vs = [.ref a]/\SqL X.K H a (zs.map V.str)/\(zs.map (·.length)).sum+zs.length * z.length<=16777216/\Q (.str (Txt.join z zs)) H):=by
 intro pins s σ H x xs v us Q I rx rv h
 obtain⟨z,a,zs,rfl,rfl,hq,hz,q⟩:=h
 obtain⟨t,rfl⟩:=rx
 obtain⟨u,rfl,ru⟩:=vals1 rv
 cases ru
 obtain⟨its,r,p,_⟩:=I.list hq
 exact join_list p.isList (by simpa using strsAre_of r) hz fun t' k=>⟨.str (Txt.join z zs),H,I.tok k,⟨t',rfl⟩,q⟩
theorem glued_nil (zs:List Str):sL (Txt.join (oL []) zs)=(zs.map sL).flatten:=by
 have key:∀ (zs:List Str) (acc:Array Nat),(zs.foldl (fun acc p=>acc++(oL []).cps++p.cps) acc).toList=acc.toList++(zs.map sL).flatten:=by
  intro zs
  induction zs with
  | nil=>intro acc;simp
  | cons z zs ih=>
   intro acc
   rw [List.foldl_cons,ih]
   simp
 cases zs with
 | nil=>rfl
 | cons z zs=>
  show (zs.foldl (fun acc p=>acc++(oL []).cps++p.cps) z.cps).toList=_
  rw [key]
  simp
theorem op_mulS:OpR X (binaryOp .Mult) (fun x y H Q=>∃ z n,x = .str z/\y = .int n/\1<=n/\n<=1000/\z.length<=1000/\Q (.str (oL (List.replicate n.toNat (sL z)).flatten)) H):=by
 intro pins s σ H x y v u Q I rx ry h
 obtain⟨z,n,rfl,rfl,h1,h2,h3,q⟩:=h
 obtain⟨t,rfl⟩:=rx
 obtain⟨t',rfl⟩:=ry
 have hf:∀ (m:Nat) (acc:Array Nat),(List.replicate m z.cps).foldl (· ++ ·) acc=acc++(List.replicate m (sL z)).flatten.toArray:=by
  intro m
  induction m with
  | zero=>intro acc;simp
  | succ m ih=>intro acc;rw [List.replicate_succ,List.foldl_cons,ih,List.replicate_succ,List.flatten_cons];apply Array.ext';simp
 have hlen:z.length * n.toNat<=1000 * 1000:=Nat.mul_le_mul h3 (by omega)
 have e3:¬ n<1:=by omega
 refine P.mul_str ?_ ?_ ?_ ?_
 ·rw [decide_eq_false (by omega),decide_eq_false (by omega)];rfl
 ·intro _ _
  have a1:n * 9223372036854775<=2 ^ 63 - 1:=by omega
  have:(9223372036854775:Int)<=(2 ^ 63 - 1) / n:=(Int.le_ediv_iff_mul_le (by omega)).mpr (by omega)
  omega
 ·intro _ _
  unfold Builtin.Str.tooLong
  exact decide_eq_false (by rw [sizeLine_eq];omega)
 ·rw [if_neg e3]
  refine post_val_or_str ?_
  have hv:(if (n == 1 || z.length == 0)=true then z else (⟨(List.replicate n.toNat z.cps).foldl (· ++ ·) #[]⟩:Str))=oL (List.replicate n.toNat (sL z)).flatten:=by
   split
   ·rename_i hc
    rcases Bool.or_eq_true_iff.mp hc with c | c
    ·have:n=1:=by simpa using c
     subst this
     show z=oL (List.replicate 1 (sL z)).flatten
     simp only [List.replicate_succ,List.replicate_zero,List.flatten_cons,List.flatten_nil,List.append_nil]
    ·have h0:(sL z).length=0:=by rw [← zve];simpa using c
     have h00:sL z = []:=List.eq_nil_of_length_eq_zero h0
     rw [h00]
     apply sL_inj
     rw [h00,sL_oL]
     symm
     exact List.eq_nil_iff_forall_not_mem.mpr fun a ha=>by
      obtain⟨l,hl,hal⟩:=List.mem_flatten.mp ha
      rw [List.eq_of_mem_replicate hl] at hal
      cases hal
   ·rw [hf];simp
  rw [hv]
  refine⟨?_,fun t2 k=>⟨.str (oL (List.replicate n.toNat (sL z)).flatten),H,I.tok k,⟨t2,rfl⟩,q⟩⟩
  rw [zve,sL_oL,len_rep,← zve,sizeLine_eq,Nat.mul_comm]
  omega
theorem noFill_tuple_mul:fillsNumberSlot (.type "tuple") "mul" = pure false:=
 PySem.fillsNumberSlot_seq (id:="tuple.__mul__") (r:=some (.builtin "tuple.__rmul__")) F.slot_tuple_mul.lookup (by decide +kernel) F.slot_tuple_rmul.lookup (by decide +kernel)
theorem repeat_tuple:seqRepeat? (.type "tuple")=pure (some (.builtin "tuple.__mul__")):=by
 unfold seqRepeat?
 rw [PySem.seqSlot_of (T:="tuple") (name:="__mul__") (id:="tuple.__mul__") F.slot_tuple_mul.lookup (by decide +kernel),PySem.seqSlot_of (T:="tuple") (name:="__rmul__") (id:="tuple.__rmul__") F.slot_tuple_rmul.lookup (by decide +kernel)]
 rfl
theorem int_rmul_tuple (a:Int)(t:Tok)(l:Addr)(items:Array Value)(n:Nat)(dd:Option Addr)(sl:Array (Option Value)) :
  Meets (Builtin.«int.__rmul__» ⟨[.int a t,.ref l],[]⟩) (fun _ R s=>s.heap.get? l=some { cls:=.type "tuple",dict:=dd,data:=.seq items n,slots:=sl }/\R (.ok (.ret Value.notImplemented)) s):=
 .of_wp fun prog w A R s h=>by obtain⟨hp,g,d,tk,os⟩:=s;obtain⟨hl,h⟩:=h;wp_walk;exact⟨_,rfl,h⟩
theorem tuple_mul_meets (l:Addr)(items:Array Value)(n:Nat)(dd:Option Addr)(sl:Array (Option Value))(k:Int)(t:Tok)(h1:2<=k)(h2:k<=1000)(hne:items.isEmpty=false)(hz:items.size<=1000) :
  Meets (Builtin.«tuple.__mul__» ⟨[.ref l,.int k t],[]⟩) (fun _ R s=>s.heap.get? l=some { cls:=.type "tuple",dict:=dd,data:=.seq items n,slots:=sl } ∧
   R (.ok (.ret (.ref s.heap.objs.size))) { s with heap:=s.heap.push { cls:=.type "tuple",data:=.seq ((List.replicate k.toNat items).foldl (· ++ ·) #[]) } }):=
 .of_wp fun prog w A R s h=>by
  obtain⟨hp,g,d,tk,os⟩:=s;obtain⟨hl,h⟩:=h
  have c1:¬ (decide (k < -(2 ^ 63)) || decide (k ≥ 2 ^ 63))=true:=by rw [decide_eq_false (by omega),decide_eq_false (by omega)];decide
  have c2:¬ (items.isEmpty || k == 1)=true:=by rw [hne];simp;omega
  have c3:¬ (decide (k<=0) || items.isEmpty)=true:=by rw [hne,decide_eq_false (by omega)];decide
  have c0:((items.size:Nat):Int) * k<=1000 * 1000:=Int.mul_le_mul (by omega) h2 (by omega) (by omega)
  have c4:¬ ((items.size:Int) * k > (2 ^ 63 - 1) / 8):=by omega
  have c5:¬ Builtin.Tuple.tupleTooMany ((items.size:Int) * k)=true:=by unfold Builtin.Tuple.tupleTooMany;simp;rw [sizeLine_eq];omega
  have f1:=AutoSeq1.idx_int
  wp_walk using AutoSeq1.wpAny_loadPart' hl
  rw [if_neg c1]
  refine wpAny_bind (tupleItemsOf_ ⟨_,hl,rfl,n,rfl⟩ ?_)
  dsimp only
  rw [if_neg c2,if_neg c3,if_neg c4,if_neg c5]
  have hsz:sizeOk (.seq ((List.replicate k.toNat items).foldl (· ++ ·) #[])):=by
   show ((List.replicate k.toNat items).foldl (· ++ ·) #[]).size<=sizeLine
   have f0:=zae items.toList k.toNat []
   have e0:(List.replicate k.toNat items.toList.toArray).foldl (· ++ ·) #[]=(List.replicate k.toNat items.toList).flatten.toArray:=by simpa using f0
   have e1:items.toList.toArray=items:=by simp
   rw [e1] at e0
   rw [e0,List.size_toArray,len_rep,Array.length_toList,sizeLine_eq]
   have a1:k.toNat * items.size<=1000 * 1000:=Nat.mul_le_mul (by omega) hz
   omega
  first
   | exact wpAny_bind (m:=Builtin.Tuple.tupleExact _) (wpAny_newObj_type (wpAny_pure ⟨_,rfl,h⟩) hsz)
   | exact wpAny_bind (wpAny_bind (m:=Builtin.Tuple.tupleExact _) (wpAny_newObj_type (wpAny_pure ⟨_,rfl,h⟩) hsz))
noncomputable def rRepT (K:PySem.W.Frag):R2:=fun x y H Q=>∃ l k xs,x = .ref l/\y = .int k/\SqT K H l xs/\xs≠[]/\xs.length<=1000/\1<=k/\k<=1000 ∧
 (k=1->Q (.ref l) H)/\(2<=k->∀ p,H p=none->Q (.ref p) (upd H p (.tup (List.replicate k.toNat xs).flatten)))
theorem op_repT:OpR X (binaryOp .Mult) (rRepT X.K):=by
 intro pins s σ H x y v u Q I rx ry h
 obtain⟨l,k,xs,rfl,rfl,hH,hne,hlen,h1,h2,q1,q2⟩:=h
 cases rx
 obtain⟨t,rfl⟩:=ry
 obtain⟨its,r,p,hz⟩:=I.tuple (X:=X) hH
 obtain⟨⟨cls,dd,data,sl⟩,ho,hc,n,hd⟩:=id p
 simp only at hc hd
 subst hc hd
 have hl:=r.length
 have hne':its.toArray.isEmpty=false:=by
  cases its with
  | nil=>cases r;exact absurd rfl hne
  | cons a r'=>rfl
 have hTy:s.TypeIs (.ref l) "tuple" :=⟨_,ho,rfl⟩
 refine wpAny_binaryOp_repeat_ref (T:="tuple") (U:="int") (by decide) hTy (fun s'=>typeIs_int s' k t) noFill_tuple_mul F.fills_int_mul F.slot_int_rmul repeat_tuple F.slot_int_index.lookup
  (call_meets F.slot_int_rmul (typeIs_int s k t) F.entry_int_rmul (F.args_int_rmul_2 _ _) (int_rmul_tuple k t l its.toArray n dd sl)
   ⟨ho,rfl,hTy,?_⟩)
 by_cases hk:k=1
 ·subst hk
  refine wpAny_call_entry F.slot_tuple_mul hTy F.entry_tuple_mul ?_ (F.args_tuple_mul_2 _ _)
  have f1:=AutoSeq1.idx_int
  have c1:¬ (decide ((1:Int) < -(2 ^ 63)) || decide ((1:Int) ≥ 2 ^ 63))=true:=by decide
  obtain⟨hp,g,d,tk,os⟩:=s
  wp_walk using AutoSeq1.wpAny_loadPart' ho
  exact⟨_,rfl,.ref l,H,I,rfl,q1 rfl⟩
 ·refine call_meets F.slot_tuple_mul hTy F.entry_tuple_mul (F.args_tuple_mul_2 _ _) (tuple_mul_meets l its.toArray n dd sl k t (by omega) h2 hne' (by rw [List.size_toArray,← hl];exact hlen)) ⟨ho,?_⟩
  have e0:(List.replicate k.toNat its.toArray).foldl (· ++ ·) #[]=(List.replicate k.toNat its).flatten.toArray:=by simpa using zae its k.toNat []
  rw [e0]
  refine⟨.ref s.heap.objs.size,_,I.laid (t':=s.toks) (o:=.tup (List.replicate k.toNat xs).flatten) (fun b ob q=>Heap.get?_push_of_some _ q) (Nat.le_refl _) ?_,rfl,q2 (by omega) _ (I.hok.fresh (Nat.le_refl _))⟩
  refine⟨?_,_,r.rep k.toNat,IsTup.new _ _⟩
  rw [len_rep,sizeLine_eq]
  have a1:k.toNat * xs.length<=1000 * 1000:=Nat.mul_le_mul (by omega) hlen
  omega
theorem extend_tuple_meets (l:Addr)(items:Array Value)(n:Nat)(b:Addr)(items2:Array Value)(n2:Nat)(dd:Option Addr)(sl:Array (Option Value))(hs0:¬(!items.isEmpty && Builtin.List.listTooLong (items.size+items2.size))=true)(hs1:items.size<=sizeLine)(hs2:items.size+items2.size<=sizeLine+1) :
  Meets (Builtin.«list.extend» ⟨[.ref l,.ref b],[]⟩) (fun _ R s=>s.heap.get? l=some { cls:=.type "list",dict:=none,data:=.seq items n,slots:=#[] }/\s.heap.get? b=some { cls:=.type "tuple",dict:=dd,data:=.seq items2 n2,slots:=sl }/\R (.ok (.ret Value.none)) { s with heap:=s.heap.update l (Obj.mapSeq fun x=>x++items2),toks:=s.toks }):=
 .of_wp fun prog w A R s h=>by
  obtain⟨hp,g,d,tk,os⟩:=s;obtain⟨hl,hb,h⟩:=h;have f1:=AutoSeq1.idx_int;have f2:=AutoSeq1.sub_tuple_tuple;have f3:=AutoSeq1.sub_list_list;have f4:=AutoSeq1.sub_tuple_list;have f5:=AutoSeq1.sub_list_tuple;
  have hz':(items++items2).size<=sizeLine+1:=by rw [Array.size_append];exact hs2
  wp_walk using (wpAny_updateSeq hl rfl (hz:=hs1) (_hz':=hz')),AutoSeq1.wpAny_loadPart' hl,AutoSeq1.wpAny_loadPart' hb;exact⟨_,rfl,h⟩
noncomputable def rExtendT (K:PySem.W.Frag):V->List V->Hp->VK->Prop:=fun x vs H Q=>∃ l b xs zs,x = .ref l/\vs = [.ref b]/\H l=some (.lst xs)/\SqT K H b zs/\xs.length+zs.length<=sizeLine/\Q .non (upd H l (.lst (xs++zs)))
theorem mt_extendT:MtM X "list.extend" (rExtendT X.K):=by
 intro pins s σ H x vs v us Q I rx rv h
 obtain⟨l,b,xs,zs,rfl,rfl,hH,hB,hz,q⟩:=h
 cases rx
 obtain⟨u,rfl,ru⟩:=rv.one
 cases ru
 obtain⟨z,its,n,r,hl,e⟩:=I.lstM hH
 obtain⟨its2,r2,p2,z2⟩:=I.tuple hB
 obtain⟨⟨cls,dd,data,sl⟩,ho,hc,n2,hd⟩:=id p2
 simp only at hc hd
 subst hc hd
 have hl2:=r2.length
 have hsz:its.toArray.size+its2.toArray.size<=sizeLine:=by rw [List.size_toArray,List.size_toArray];omega
 have hlong:¬ (!its.toArray.isEmpty && Builtin.List.listTooLong (its.toArray.size+its2.toArray.size))=true:=by
  rw [zsd hsz,Bool.and_false]
  exact Bool.false_ne_true
 refine call_meets F.slot_list_extend ⟨_,e,rfl⟩ F.entry_list_extend (F.args_list_extend_2 _ _)
  (extend_tuple_meets l its.toArray n b its2.toArray n2 dd sl hlong (by rw [List.size_toArray];omega) (by omega)) ⟨e,ho,?_⟩
 refine⟨.non,_,I.lset (its':=its++its2) hH e (by simp) (r.append r2) ?_,rfl,q⟩
 rw [List.length_append]
 omega
end
end L2
namespace L2
open PySem PySem.Spec PyProof.Rows
section
variable  {X:Cx}
theorem truth_list {A:Around}{bs:List Bool}:TruthOf X.prog X.w A (fun i v=>(bs.map Value.bool)[i]?=some v) (fun i=>bs.getD i false):=by
 intro i v s Q E hv hq
 rw [List.getElem?_map] at hv
 cases q:bs[i]? with
 | none=>rw [q] at hv;cases hv
 | some b=>
  rw [q] at hv
  cases hv
  have e:bs.getD i false=b:=by rw [List.getD_eq_getElem?_getD,q];rfl
  simp only [e] at hq
  exact wpAny_truthy_bool hq
theorem valsB {bs:List Bool}:∀ {us:List Value},Vals (bs.map V.bl) us->us=bs.map Value.bool:=by
 induction bs with
 | nil=>intro us r;rw [List.map_nil] at r;cases r;rfl
 | cons b bs ih=>
  intro us r
  rw [List.map_cons] at r
  cases r with
  | cons r1 r2=>rw [ih r2,List.map_cons];cases r1;rfl
theorem range_getD (bs:List Bool):(List.range bs.length).all (fun i=>bs.getD i false)=bs.all id:=by
 have:(List.range bs.length).map (fun i=>bs.getD i false)=bs:=PyProof.Rows.range_getD bs false
 conv=>rhs;rw [← this]
 rw [List.all_map]
 rfl
theorem call_all (hc:X.calm=true):CallR X (.builtin "all") (fun xs H Q=>∃ (a:Addr) (bs:List Bool),xs = [.ref a]/\SqL X.K H a (bs.map V.bl)/\Q (.bl (bs.all id)) H):=by
 intro pins s σ H xs us Q I rv h
 obtain⟨a,bs,rfl,hq,q⟩:=h
 obtain⟨u,rfl,ru⟩:=vals1 rv
 cases ru
 obtain⟨its,r,p,hz⟩:=I.list hq
 have e:=valsB r
 subst e
 have hne:a≠s.heap.objs.size:=by
  obtain⟨o,n,e,_⟩:=p
  exact Nat.ne_of_lt (Heap.lt_size e)
 refine call_all_walk (wpAny_pyIter_list p.isList ?_)
 refine⟨s.heap.objs.size,_,_,_,_,_,fun i=>bs.getD i false,rfl,Walks.list (A:=X.A.in1) (show X.A.in1.handled=none from I.ok.hd hc) s.heap.objs.size a hne (bs.map Value.bool).toArray,⟨⟨_,Heap.get?_push_size _ rfl,rfl,rfl⟩,?_⟩,?_,fun h' tk hk=>?_⟩
 ·exact p.isList.at fun o e=>Heap.get?_push_of_some _ e
 ·intro i v s Q E hv hq
  exact truth_list (bs:=bs) i v s Q E (by simpa using hv) hq
 ·have I1:Inv X pins σ H { s with heap:=h',toks:=tk }:=I.kept fun b o e=>hk b o (fun z=>absurd (List.mem_singleton.mp z) (Nat.ne_of_lt (Heap.lt_size e))) (Heap.get?_push_of_some _ e)
  refine⟨.bl _,H,I1,rfl,?_⟩
  have:(List.range (bs.map Value.bool).toArray.size).all (fun i=>bs.getD i false)=bs.all id:=by rw [List.size_toArray,List.length_map];exact range_getD bs
  rw [this]
  exact q
noncomputable def gSubSl (to:TE) (tl th:TO):TG:=fun v σ H Q=>to σ H fun o H1=>tl σ H1 fun l H2=>th σ H2 fun u H3=>∃ p b xs ys a c,o = .ref p/\v = .ref b/\l=some a/\u=some c/\H3 p=some (.lst xs)/\H3 b=some (.lst ys)/\p≠b/\0<=a/\a<=c/\c<=xs.length/\xs.length+ys.length<=sizeLine ∧
 Q σ (upd H3 p (.lst (xs.take a.toNat++ys++xs.drop c.toNat)))
theorem pg_subsl {o:Expr}{lo hi:Option Expr}{to:TE}{tl th:TO}{p2 pos:Pos}(ho:PE X o to)(hl:PO X lo tl)(hu:PO X hi th)
  (ha:∀ v,assign (.Subscript o (.Slice lo hi none p2) pos) X.env v=(do
   let ov ← holding [v] (eval o X.env)
   let iv ← holding [v,ov] (eval (.Slice lo hi none p2) X.env)
   standAt pos
   holding [v,ov,iv] (setItem ov iv v)
   release [iv,v,ov] []):=by intro _;rfl):PG X (.Subscript o (.Slice lo hi none p2) pos) (gSubSl to tl th):=by
 intro pins s σ H v u Q I r h
 rw [ha]
 refine wpAny_bind (wpAny_holding (thn (ho pins s σ H _ I h) fun ov s1 ⟨x,H1,I1,r1,q1⟩=>?_))
 refine wpAny_bind (wpAny_holding (wpAny_Slice (thn (hl pins s1 σ H1 _ I1 q1) fun vl s2 ⟨l,H2,I2,pl,q2⟩=>thn (hu pins s2 σ H2 _ I2 q2) fun vu s3 ⟨w',H3,I3,pu,q3⟩=>?_)))
 rw [evalPart_none]
 refine wpAny_pure ?_
 obtain⟨p,b,xs,ys,a,c,rfl,rfl,rfl,rfl,hp,hb,hne,h0,hac,hc,hz,q⟩:=q3
 have I4:Inv X pins σ H3 { s3 with heap:=s3.heap.push { cls:=.type "slice",data:=.fields #[vl,vu,.none] } }:=I3.kept (t':=s3.toks) fun b ob q=>Heap.get?_push_of_some _ q
 cases r1
 cases r
 refine wpAny_bind (wpAny_standAt (wpAny_bind (wpAny_holding ?_)))
 cases pl with
 | int _ t1=>
  cases pu with
  | int _ t2=>
   exact set_slice (sl:=s3.heap.objs.size) I4 hp hb hne (Heap.IsSliceOf.new ..) ⟨t1,rfl⟩ ⟨t2,rfl⟩ h0 hac hc hz fun s' I'=>wpAny_release ⟨σ,_,I',q⟩
end
end L2
namespace L2
open PySem PySem.Spec PyProof.Rows
noncomputable def Has (P:Program) (w:World) (K:PySem.W.Frag) (mg:Str->Option Value) (base:Heap) (k:Nat) (name:Str) (ps:List Str) (sp:Sp):Prop:=
 ∃ (f:Addr) (fd:FuncData),mg name=some (.ref f)/\PySem.W.keepIn K (.ref f)=true/\Binds K fd ps []/\FnOk P w K mg base CX0 k f fd ps sp/\∃ oc od osl,K.lookup f=some ⟨oc,od,.func fd,osl⟩
noncomputable def Def (K:PySem.W.Frag) (mg:Str->Option Value) (name:Str) (st:Stmt) (ps:List Str):Prop:=
 ∃ (f:Addr) (fd:FuncData),mg name=some (.ref f)/\Fun K name name st f fd/\Binds K fd ps []
theorem Def.has {P:Program}{w:World}{K:PySem.W.Frag}{mg:Str->Option Value}{base:Heap}{k:Nat}{name:Str}{st:Stmt}{N ps:List Str}{sp:Sp}(d:Def K mg name st ps)(S:FnScope N ps (zq st))(len:∀ vs H Q E,sp vs H Q E->vs.length=ps.length)
  (hbody:∀ (f:Addr) (cdv:Value) (A:Around) (outer:List Env) (s:Shared) (H:Hp) (vs:List V) (Q:VK) (E:XK),Room k (A.deeper (envOfC name (zq st) s.heap.objs.size f cdv))->sp vs H Q E →
   ∃ t,PSs (cxOf CX0 P w K mg base N name (zq st) f cdv A outer s H E).nox (zkb st) t/\t { nx:=fun _ H'=>Q .non H',rt:=Q } (start N vs) H):Has P w K mg base (k+1) name ps sp:=by
 obtain⟨f,fd,h1,F,b⟩:=d
 obtain⟨oc,od,kV,doc,pm,an,cdv,ct,osl,e,lk,hcd⟩:=F.ex
 exact⟨f,fd,h1,F.kp,b,F.ok S len (hbody f),oc,od,osl,lk⟩
theorem law_head {P:Program}{w:World}{K:PySem.W.Frag}{mg:Str->Option Value}{fa:Addr}{name:Str}{st:Stmt}{x:Str}{k:Nat}{sp:Sp}(hfa:mg name=some (.ref fa))(d:Def K mg name st [x])
  (hb:∀ (kV doc pm:Value) (an:Option Addr) (cdv ct:Value) (s:Shared) (v:Value),BindsTo s (PySem.W.fnOf name name (zod st) (zkb st) (zq st) .none kV doc pm an cdv ct) ⟨[v],[]⟩ [(x,v)])
  (H:∀ base:Heap,K.In base->base.Ns mainGlobals mg->Has P w K mg base k name [x] sp) :
  ∃ fd:FuncData,(∀ (s:Shared) (v:Value),BindsTo s fd ⟨[v],[]⟩ [(x,v)])/\∀ base:Heap,K.In base->base.Ns mainGlobals mg->FnOk P w K mg base CX0 k fa fd [x] sp:=by
 obtain⟨f,fd,h1,F,b⟩:=d
 rw [hfa] at h1
 cases h1
 obtain⟨oc,od,kV,doc,pm,an,cdv,ct,osl,e,lk,hcd⟩:=F.ex
 refine⟨fd,fun s v=>by rw [e];exact hb _ _ _ _ _ _ s v,fun base kb nb=>?_⟩
 obtain⟨f',fd',g1,_,_,g4,oc',od',osl',lk'⟩:=H base kb nb
 rw [hfa] at g1
 cases g1
 rw [lk] at lk'
 cases lk'
 exact g4
section
variable  {X:Cx}{x:Str}{e:Expr}{es:List Expr}{p pos:Pos}{k:Nat}{ps:List Str}{sp:Sp}{t:TA}
theorem pe_fn (h:Has X.prog X.w X.K X.mg X.base k x ps sp)(hr:Room k X.A)(hg:Gl X x)(ha:PA X (e::es) t)(hdb:(x == ("__debug__" : Str))=false:=by decide)
  (he:starEach (e::es) X.env=(false,eval e X.env)::starEach es X.env:=by rfl) (hpl:(backTo pos (starEach es X.env)).any (·.1)=false:=by rfl) :
  PE X (.Call (.Name x p) (e::es) [] pos) (tCall sp [] E0 t):=by
 obtain⟨f,fd,h1,h2,h3,h4,_⟩:=h
 exact pe_call h4 hr hg h1 h2 h3 .nil pass0 ha hdb he hpl
end
section
variable  {X:Cx}
noncomputable def rAddX (K:PySem.W.Frag):R2:=fun x y H Q=>rI0 (fun i j=>.int (i+j)) x y H Q ∨ ((∃ i j,x = .str i/\y = .str j/\i.length+j.length<=sizeLine/\Q (.str (i++j)) H) ∨ (rCat x y H Q ∨ rCatT K x y H Q))
theorem op_addX:OpR X (binaryOp .Add) (rAddX X.K):=op_add.or (op_add_str.or (op_cat.or op_catT))
noncomputable def rMulX (K:PySem.W.Frag):R2:=fun x y H Q=>rI CMul (fun i j=>.int (i * j)) x y H Q ∨ ((∃ z n,x = .str z/\y = .int n/\1<=n/\n<=1000/\z.length<=1000/\Q (.str (oL (List.replicate n.toNat (sL z)).flatten)) H) ∨ (rRep x y H Q ∨ rRepT K x y H Q))
theorem op_mulX:OpR X (binaryOp .Mult) (rMulX X.K):=op_mul.or (op_mulS.or (op_rep.or op_repT))
noncomputable def rEqX (K:PySem.W.Frag):R2:=fun x y H Q=>rEq x y H Q ∨ (rEqD K x y H Q ∨ rEqL K x y H Q)
theorem op_eqX (hu:X.A.units+64<cLine):OpR X (compareOp .Eq) (rEqX X.K):=op_eq.or ((op_eqD hu).or (op_eqL hu))
noncomputable def rNeX (K:PySem.W.Frag):R2:=fun x y H Q=>rNe x y H Q ∨ (rNeD K x y H Q ∨ rNeL K x y H Q)
theorem op_neX (hu:X.A.units+64<cLine):OpR X (compareOp .NotEq) (rNeX X.K):=op_ne.or ((op_neD hu).or (op_neL hu))
noncomputable def rInX (K:PySem.W.Frag):R2:=fun x y H Q=>(∃ i j,x = .str i/\y = .str j/\Q (.bl (!(Builtin.Str.occurrences j i 0 j.length 1).isEmpty)) H) ∨ (rIn K false x y H Q ∨ rInD K false x y H Q)
theorem op_inX (hu:X.A.units+64<cLine):OpR X (compareOp .In) (rInX X.K):=op_in_str.or (op_in_seq.or (op_inD hu))
theorem sl_X:SlR X (rSl X.K):=sl_tup.or (sl_list.or sl_str)
noncomputable def rLenX (K:PySem.W.Frag):List V->Hp->VK->Prop:=fun xs H Q=>(∃ p ys,xs = [.ref p]/\(SqL K H p ys ∨ SqT K H p ys)/\Q (.int ys.length) H) ∨ (∃ z,xs = [.str z]/\z.length<=sizeLine/\Q (.int z.length) H)
theorem call_lenX:CallR X (.builtin "len") (rLenX X.K):=CallR.or call_len_seq call_len_str
theorem rg_ty (n:String):RelV (.ty n) (.type n):=rfl
end
section
variable  {σ:St}{H:Hp}{Q:VK}{D:Ends}{K:PySem.W.Frag}
end
end L2
namespace L2
open PySem PySem.Spec PyProof.Rows
end L2
namespace L2
open PySem PySem.Spec PyProof.Rows
noncomputable def Its (z:Str):It:=⟨fun i _=>i<z.cps.size,fun i H y H'=>H'=H/\∃ c,z.cps[i]?=some c/\y = .str ⟨#[c]⟩,fun i _=>z.cps.size<=i⟩
noncomputable def iStr (te:TE):TI:=fun σ H R=>te σ H fun x H1=>∃ z:Str,x = .str z/\R (Its z) H1
theorem pi_text {X:Cx}{tg e:Expr}{te:TE}(he:PE X e te):PI X tg e (iStr te):=pi_str he
theorem zpc {N:List Str}(h:decide N.Nodup=true):N.Nodup:=of_decide_eq_true h
section
variable  {X:Cx}{K:PySem.W.Frag}
theorem ix_K (h:X.K=K):IxR X (rIx K):=h ▸ ix_seq
noncomputable def rTupOf (K:PySem.W.Frag):List V->Hp->VK->Prop:=fun xs H Q=>∃ p ys,xs = [.ref p]/\((SqL K H p ys/\∀ l,H l=none->Q (.ref l) (upd H l (.tup ys))) ∨ (SqT K H p ys/\Q (.ref p) H))
noncomputable def rLstOf (K:PySem.W.Frag):List V->Hp->VK->Prop:=fun xs H Q=>∃ p ys,xs = [.ref p]/\(SqL K H p ys ∨ SqT K H p ys)/\∀ l,H l=none->Q (.ref l) (upd H l (.lst ys))
noncomputable def rAll (K:PySem.W.Frag):List V->Hp->VK->Prop:=fun xs H Q=>∃ (a:Addr) (bs:List Bool),xs = [.ref a]/\SqL K H a (bs.map V.bl)/\Q (.bl (bs.all id)) H
noncomputable def rJoin (K:PySem.W.Frag):V->List V->Hp->VK->Prop:=fun x vs H Q=>∃ z a zs,x = .str z/\vs = [.ref a]/\SqL K H a (zs.map V.str)/\(zs.map (·.length)).sum+zs.length * z.length<=16777216/\Q (.str (Txt.join z zs)) H
theorem tgK {es:List Expr}{k:Nat}{t:TGs}{n:Nat}{pos:Pos}(h:X.K=K)(hc:X.calm=true)(hs:PGs X es t)
  (hn:(assignEach es X.env).length=n:=by rfl) (hst:(assignEach es X.env).findIdx? (·.1)=none:=by rfl):PG X (.Tuple es k pos) (gTup K n t):=h ▸ pg_tup hc hs hn hst
theorem ilK {tg l:Expr}{tl:TE}(h:X.K=K)(hl:PE X l tl):PI X tg l (iList K tl):=h ▸ pi_list hl
theorem itK {tg l:Expr}{tl:TE}(h:X.K=K)(hl:PE X l tl):PI X tg l (iTup K tl):=h ▸ pi_tup hl
variable  {o e:Expr}{es:List Expr}{to:TE}{t:TA}{name:Str}{apos cpos:Pos}{T id:String}{r:V->List V->Hp->VK->Prop}
theorem bmK (h:X.K=K)(pa:PlainAttrs T)(slot:Slot T name id)(hty:typeOf (.builtin id)=pure (.type "method_descriptor"))(hm:MtR X id r)(ho:PE X o to)(ha:PA X (e::es) t)
  (hbase:attributeBase o name X.env (eval o X.env)=eval o X.env:=by rfl)
  (hfew:((backTo cpos (starEach (e::es) X.env)).all (fun x=>!x.1) && (backToKw cpos (keywordEach [] X.env)).all (fun x=>x.1.isSome)
   && decide ((e::es).length+([]:List Keyword).length+(if ([]:List Keyword).isEmpty then 0 else 1)<30))=true:=by rfl)
  (hline:(apos.endLine == cpos.line)=true:=by rfl) (hs:starEach (e::es) X.env=(false,eval e X.env)::starEach es X.env:=by rfl) (hplain:(backTo cpos (starEach es X.env)).any (·.1)=false:=by rfl) :
  PE X (.Call (.Attribute o name apos) (e::es) [] cpos) (tBM K T r to t):=h ▸ pe_bm pa slot hty hm ho ha hbase hfew hline hs hplain
end
theorem Same.put {H H1:Hp}{l:Addr}{o:HO}(s:Same H H1)(hl:H l=none):Same H (L2.upd H1 l o):=fun b u h=>by rw [L2.upd_ne (zma h hl)];exact s b u h
end L2
namespace L2
open PySem PySem.Spec PyProof.Rows
structure Bi (mg:Str->Option Value):Prop where
 b_len:mg "len" = none
 b_all:mg "all" = none
 b_any:mg "any" = none
 b_tuple:mg "tuple" = none
 b_list:mg "list" = none
 b_range:mg "range" = none
 b_min:mg "min" = none
 b_max:mg "max" = none
 b_int:mg "int" = none
 b_bool:mg "bool" = none
 b_isinstance:mg "isinstance" = none
 b_str:mg "str" = none
 b_sorted:mg "sorted" = none
 b_sum:mg "sum" = none
 b_zip:mg "zip" = none
 b_enumerate:mg "enumerate" = none
 b_dict:mg "dict" = none
 b_abs:mg "abs" = none
 b_repr:mg "repr" = none
 b_reversed:mg "reversed" = none
 b_set:mg "set" = none
noncomputable abbrev LET:Str:="abcdefghijklmnopqrstuvwxyz"
theorem LET_len:(sL LET).length=26:=by decide +kernel
theorem LET_len':LET.length=26:=by decide +kernel
noncomputable def rd:D->Option D
 | .tup [.str x,nm,row]=>if x=("at" : Str) then some (.tup [nm,row]) else none
 | _=>none
end L2
namespace L2
open PySem PySem.Spec PyProof.Rows
end L2
namespace L2
open PySem PySem.Spec PyProof.Rows
noncomputable def Bd (m x:Int):Prop:=0<=x/\x<m
theorem Bd.mod {m:Int}(h:0<m)(x:Int):Bd m (x % m):=⟨Int.emod_nonneg _ (by omega),Int.emod_lt_of_pos _ h⟩
end L2
namespace L2
open PySem PySem.Spec PyProof.Rows
theorem turn_outer (elt tg iter tg2 iter2:Expr)(ifs2:List Expr)(scope:Scope)(pos:Pos)(it acc:Value)(env:Env) :
  compTurn (.ListComp elt [⟨tg,iter,[],0⟩,⟨tg2,iter2,ifs2,0⟩] scope pos) 0 it acc env=(standAt iter.pos >>= fun _=>pyNext it >>= fun r=>match r with
   | none=>pure (.done .next)
   | some v=>letOwnedTupleGo tg it v >>= fun _=>assign tg env v >>= fun _=>
    (eval iter2 env >>= fun x=>standAt iter2.pos >>= fun _=>foldedSetIterable iter2 env x >>= fun x=>holding [x] (pyIter x) >>= fun j=>runOwn (.compStart (.ListComp elt [⟨tg,iter,[],0⟩,⟨tg2,iter2,ifs2,0⟩] scope pos) 1 j acc env) env >>= fun _=>
     again (.compLoop (.ListComp elt [⟨tg,iter,[],0⟩,⟨tg2,iter2,ifs2,0⟩] scope pos) 0 it acc env))):=by
 unfold compTurn
 rfl
theorem turn_inner (elt tg2 iter2:Expr)(g1:Comprehension)(ifs2:List Expr)(scope:Scope)(pos:Pos)(it acc:Value)(env:Env) :
  compTurn (.ListComp elt [g1,⟨tg2,iter2,ifs2,0⟩] scope pos) 1 it acc env=(do
   standAt iter2.pos
   match ← pyNext it with
   | none=>pure (.done .next)
   | some v=>
    letOwnedTupleGo tg2 it v
    assign tg2 env v
    let mut ok:=true
    for c in ifs2 do
     if ok then ok ← isTrue c env (eval c env)
    if ok then
     (do let _ ← call (.builtin "list.append") [acc,← eval elt env])
    again (.compLoop (.ListComp elt [g1,⟨tg2,iter2,ifs2,0⟩] scope pos) 1 it acc env)):=by rfl
theorem loop_inner {prog:Program}{w:World}{A:Around}{R:Result->Shared->Prop}{s:Shared}{elt tg2 iter2:Expr}{g1:Comprehension}{ifs2:List Expr}{scope:Scope}{pos:Pos}{it acc:Value}{env:Env}(I:Nat->Shared->Prop)
  (turn:∀ n s,I n s->wpAny (model prog w) A (pyNext it) (fun r s₁=>match r with
   | none=>R (.ok .next) s₁
   | some v=>wpAny (model prog w) A (letOwnedTupleGo tg2 it v) (fun _ s₁'=>wpAny (model prog w) A (assign tg2 env v) (fun _ s₂=>
     wpAny (model prog w) A (testsOf ifs2 env) (fun ok s₃=>
      if ok=true then wpAny (model prog w) A (eval elt env) (fun x s₄=>
       wpAny (model prog w) A (call (.builtin "list.append") [acc,x]) (fun _ s₅=>∃ m,m<n/\I m s₅) (fun _ _=>False) s₄) (fun _ _=>False) s₃
      else ∃ m,m<n/\I m s₃) (fun _ _=>False) s₂) (fun _ _=>False) s₁') (fun _ _=>False) s₁) (fun _ _=>False) s)
  (n:Nat) (h:I n s):codeAny (model prog w) A (.compLoop (.ListComp elt [g1,⟨tg2,iter2,ifs2,0⟩] scope pos) 1 it acc env) R s:=by
 have never:∀ {α:Type} {t:Sem α} {QQ : α->Shared->Prop} {EE:Value->Shared->Prop} {ss:Shared},wpAny (model prog w) A t QQ (fun _ _=>False) ss->wpAny (model prog w) A t QQ EE ss:=fun hh=>wpAny_mono hh (fun _ _ z=>z) fun _ _ z=>z.elim
 refine codeAny_loop rfl I (fun n s hI=>?_) n h
 show wpAny _ A ((compTurn (.ListComp elt [g1,⟨tg2,iter2,ifs2,0⟩] scope pos) 1 it acc env).onRaise (fun x=>do noteFrame x env;theTreesLotGoes x)) _ _ s
 refine wpAny_noted ?_
 rw [turn_inner]
 refine wpAny_bind (wpAny_standAt (wpAny_bind (wpAny_mono (turn n s hI) (fun r s₁ h₁=>?_) fun _ _ z=>z.elim)))
 cases r with
 | none=>exact wpAny_pure h₁
 | some v=>
  refine wpAny_bind (wpAny_mono h₁ (fun _ s₁' h₁'=>?_) fun _ _ z=>z.elim)
  refine wpAny_bind (wpAny_mono h₁' (fun _ s₂ h₂=>wpAny_bind (wpAny_mono h₂ (fun ok s₃ h₃=>?_) fun _ _ z=>z.elim)) fun _ _ z=>z.elim)
  cases ok with
  | false=>exact wpAny_pure ⟨rfl,h₃⟩
  | true=>
   exact wpAny_bind (wpAny_bind (wpAny_mono h₃ (fun x s₄ h₄=>wpAny_bind (wpAny_mono h₄ (fun _ s₅ h₅=>wpAny_pure (wpAny_pure ⟨rfl,h₅⟩)) fun _ _ z=>z.elim)) fun _ _ z=>z.elim))
theorem start_inner {prog:Program}{w:World}{A:Around}{R:Result->Shared->Prop}{s:Shared}{elt tg2 iter2:Expr}{g1:Comprehension}{ifs2:List Expr}{scope:Scope}{pos:Pos}{it acc:Value}{env:Env}
  (h0:codeAny (model prog w) A (.compLoop (.ListComp elt [g1,⟨tg2,iter2,ifs2,0⟩] scope pos) 1 it acc env) R s)
  (h:wpAny (model prog w) A (pyIter it) (fun it' s'=>codeAny (model prog w) A (.compLoop (.ListComp elt [g1,⟨tg2,iter2,ifs2,0⟩] scope pos) 1 it' acc env) R s') (notedBy (model prog w) A env fun x s'=>R (.error x) s') s) :
  codeAny (model prog w) A (.compStart (.ListComp elt [g1,⟨tg2,iter2,ifs2,0⟩] scope pos) 1 it acc env) R s:=by
 refine codeAny_of_tree ?_
 show wpAny _ _ ((compStart (.ListComp elt [g1,⟨tg2,iter2,ifs2,0⟩] scope pos) 1 it acc env).onRaise (fun x=>do noteFrame x env;standAt theWindowsPlace)) _ _ s
 refine wpAny_notedAt ?_
 unfold compStart
 show wpAny _ _ (ask >>= _) _ _ s
 refine wpAny_bind (wpAny_askSetting (wpAny_ite ?_))
 split
 ·first
   | exact wpAny_pure (And.intro rfl h0)
   | exact wpAny_bind (wpAny_pure (wpAny_pure (And.intro rfl h0)))
 ·refine wpAny_bind (wpAny_rule ?_)
  show wpAny _ _ (standAt iter2.pos >>= _) _ _ s
  exact wpAny_bind (wpAny_standAt (wpAny_bind (wpAny_mono h (fun it' s' h'=>wpAny_pure (And.intro rfl h')) fun _ _ x=>x)))
theorem loop_outer {prog:Program}{w:World}{A:Around}{R:Result->Shared->Prop}{s:Shared}{elt tg iter tg2 iter2:Expr}{ifs2:List Expr}{scope:Scope}{pos:Pos}{it acc:Value}{env:Env}(hs:∀ x,foldedSetIterable iter2 env x=pure x)(I:Nat->Shared->Prop)
  (turn:∀ n s,I n s->wpAny (model prog w) A (pyNext it) (fun r s₁=>match r with
   | none=>R (.ok .next) s₁
   | some v=>wpAny (model prog w) A (letOwnedTupleGo tg it v) (fun _ s₁'=>wpAny (model prog w) A (assign tg env v) (fun _ s₂=>
     wpAny (model prog w) A (eval iter2 env) (fun x s₃=>wpAny (model prog w) A (pyIter x) (fun j s₄=>
      codeAny (model prog w) A (.compStart (.ListComp elt [⟨tg,iter,[],0⟩,⟨tg2,iter2,ifs2,0⟩] scope pos) 1 j acc env) (fun r s₅=>match r with | .ok _=>∃ m,m<n/\I m s₅ | .error _=>False) s₄)
       (fun _ _=>False) s₃) (fun _ _=>False) s₂) (fun _ _=>False) s₁') (fun _ _=>False) s₁) (fun _ _=>False) s)
  (n:Nat) (h:I n s):codeAny (model prog w) A (.compLoop (.ListComp elt [⟨tg,iter,[],0⟩,⟨tg2,iter2,ifs2,0⟩] scope pos) 0 it acc env) R s:=by
 refine codeAny_loop rfl I (fun n s hI=>?_) n h
 show wpAny _ A ((compTurn (.ListComp elt [⟨tg,iter,[],0⟩,⟨tg2,iter2,ifs2,0⟩] scope pos) 0 it acc env).onRaise (fun x=>do noteFrame x env;theTreesLotGoes x)) _ _ s
 refine wpAny_noted ?_
 rw [turn_outer]
 refine wpAny_bind (wpAny_standAt (wpAny_bind (wpAny_mono (turn n s hI) (fun r s₁ h₁=>?_) fun _ _ z=>z.elim)))
 cases r with
 | none=>exact wpAny_pure h₁
 | some v=>
  refine wpAny_bind (wpAny_mono h₁ (fun _ s₁' h₁'=>?_) fun _ _ z=>z.elim)
  refine wpAny_bind (wpAny_mono h₁' (fun _ s₂ h₂=>?_) fun _ _ z=>z.elim)
  refine wpAny_bind (wpAny_mono h₂ (fun x s₃ h₃=>wpAny_bind (wpAny_standAt (wpAny_bind (wpAny_of_eq (hs x) (wpAny_bind (wpAny_holding (wpAny_mono h₃ (fun j s₄ h₄=>?_) fun _ _ z=>z.elim))))))) fun _ _ z=>z.elim)
  refine wpAny_bind (wpAny_runOwn (codeAny_mono h₄ fun r s₅ h₅=>?_))
  cases r with
  | ok f=>exact wpAny_pure ⟨rfl,h₅⟩
  | error e=>exact h₅.elim
end L2
namespace L2
open PySem PySem.Spec PyProof.Rows
noncomputable def CompI (J2:It) (σi:St) (g2:TG) (tc2:TT) (te:TE) (acc0:List V) (H3:Hp) (N:List V->Hp->Prop):Prop:=
 ∃ W2:Nat->Nat->List V->Hp->Prop,(∃ m,W2 0 m acc0 H3)/\∀ i m acc H,W2 i m acc H->acc.length<sizeLine ∧
  ((J2.stop i H/\N acc H) ∨
  (J2.go i H/\∃ N2:List V->Hp->Prop,(∀ acc' H',N2 acc' H'->∃ m',m'<m/\W2 (i+1) m' acc' H') ∧
   ∀ x H',J2.yld i H x H'->g2 x σi H' fun σ3 H4=>tc2 σ3 H4 fun b H5=>if b=true then te σ3 H5 fun v H6=>N2 (acc++[v]) H6 else N2 acc H5))
noncomputable def CompW2 (J:It) (σi:St) (g:TG) (wi2:TI) (fr2:List (Option Nat)) (g2:TG) (tc2:TT) (te:TE) (H1:Hp) (Q:VK):Prop:=
 ∃ W:Nat->Nat->List V->Hp->Prop,(∃ m,W 0 m [] H1)/\∀ i m acc H,W i m acc H->acc.length<sizeLine ∧
  ((J.stop i H/\∀ d,H d=none->Q (.ref d) (upd H d (.lst acc))) ∨
  (J.go i H/\∃ N:List V->Hp->Prop,(∀ acc' H',N acc' H'->∃ m',m'<m/\W (i+1) m' acc' H') ∧
   ∀ x H',J.yld i H x H'->g x σi H' fun σ2 H2=>wi2 σ2 H2 fun J2 H3=>CompI J2 (inSt fr2 σ2) g2 tc2 te acc H3 N))
noncomputable def tComp2 (wi:TI) (fr:List (Option Nat)) (g:TG) (wi2:TI) (fr2:List (Option Nat)) (g2:TG) (tc2:TT) (te:TE):TE:=fun σ H Q=>wi σ H fun J H1=>CompW2 J (inSt fr σ) g wi2 fr2 g2 tc2 te H1 Q
section
variable  {X:Cx}{elt tg iter tg2 iter2:Expr}{ifs2:List Expr}{scope:Scope}{pos:Pos}{N':List Str}{fr fr2:List (Option Nat)}{wi wi2:TI}{g g2:TG}{tc2:TT}{te:TE}
noncomputable def sub2 (fr fr2:List (Option Nat)):Bool:=(fr2.length == fr.length) && (List.range fr.length).all fun k=>(fr2[k]? == some (some k)) || (fr2[k]? == some none && fr[k]? == some none)
theorem weak_of {fr:List (Option Nat)}{σ σ5:St}(kp:Kp fr (inSt fr σ) σ5):∀ (k:Nat) v,(inSt fr σ)[k]?=some (some v)->σ5[k]?=some (some v):=fun k v e=>by
 cases q:fr[k]? with
 | none=>
  unfold inSt at e
  rw [List.getElem?_map,q] at e
  cases e
 | some o=>
  cases o with
  | none=>
   unfold inSt at e
   rw [List.getElem?_map,q] at e
   simp at e
  | some j=>rw [kp.2 k j q];exact e
theorem kp_sub {σ σ8 σ5:St}(h:sub2 fr fr2=true)(kp8:Kp fr (inSt fr σ) σ8)(kp5:Kp fr2 (inSt fr2 σ8) σ5):Kp fr (inSt fr σ) σ5:=by
 unfold sub2 at h
 rw [Bool.and_eq_true] at h
 obtain⟨h1,h2⟩:=h
 have hl:fr2.length=fr.length:=by simpa using h1
 refine⟨by rw [kp5.1,zcc,zcc,hl],fun k j e=>?_⟩
 have hk:k<fr.length:=(List.getElem?_eq_some_iff.mp e).1
 have h3:=List.all_eq_true.mp h2 k (List.mem_range.mpr hk)
 rw [e] at h3
 have h4:fr2[k]?=some (some k):=by
  rw [Bool.or_eq_true] at h3
  rcases h3 with z | z
  ·simpa using z
  ·rw [Bool.and_eq_true] at z
   have z2:=z.2
   simp at z2
 rw [kp5.2 k k h4,← kp8.2 k j e]
 have hlen:k < σ8.length:=by rw [kp8.1,zcc];exact hk
 unfold inSt
 rw [List.getElem?_map,h4]
 show some (σ8.getD k none)=_
 rw [List.getD_eq_getElem?_getD,List.getElem?_eq_getElem hlen]
 rfl
theorem comp_block2 (hc:X.calm=true)(B:Blk X.env.scope scope X.N N' fr)(hsub:sub2 fr fr2=true)
  (hg:∀ b,PG (cxB X scope N' b) tg g) (hgk:GKeep fr g) (hi2:∀ b,PI (cxB X scope N' b) tg2 iter2 wi2) (hg2:∀ b,PG (cxB X scope N' b) tg2 g2) (hgk2:GKeep fr2 g2) (ht:∀ b,PTs (cxB X scope N' b) ifs2 tc2) (he:∀ b,PE (cxB X scope N' b) elt te)
  (hs2:∀ b x,foldedSetIterable iter2 (cxB X scope N' b).env x=pure x)
  {pins:List (Addr×Obj)} {σ:St} {Q:VK} {itv:Value} {s2:Shared} {E:Value->Shared->Prop} {RR:Value->Addr->Result->Shared->Prop}
  (h2:PIE X pins σ tg (fun J H1=>CompW2 J (inSt fr σ) g wi2 fr2 g2 tc2 te H1 Q) itv s2)
  (hRR:∀ (d C:Addr) (v:V) (H':Hp) (s':Shared) m',Inv X pins σ H' s'->v = .ref d->Q v H'->s'.heap.Ns C m'->FpOk X pins H' C->C≠d->RR (.ref d) C (.ok .next) s') :
  wpAny (model X.prog X.w) X.A (newList []) (fun acc s₃=>wpAny (model X.prog X.w) X.A (newFunctionEnv scope X.env.globals (zkc X.env scope.names []) [] X.env.qual none .none (some X.env)) (fun cenv s₄=>
   codeAny (model X.prog X.w) X.A (.compStart (.ListComp elt [⟨tg,iter,[],0⟩,⟨tg2,iter2,ifs2,0⟩] scope pos) 0 itv acc { cenv with scope:=relabel scope X.env }) (RR acc cenv.locals) s₄) E s₃) E s2:=by
 obtain⟨it,fp,tn,J,H2,rfl,I2,T,st2,f2,W,⟨m0,w0⟩,turn⟩:=h2
 refine wpAny_newObj_type ?_
 generalize hd:s2.heap.objs.size=d
 have I3:Inv X pins σ H2 { s2 with heap:=s2.heap.push { cls:=.type "list",dict:=none,data:=.seq ([]:List Value).toArray } }:=I2.kept (t':=s2.toks) fun b o e=>Heap.get?_push_of_some _ e
 have fd:FpOk X pins H2 d:=I2.fpOk (by rw [hd];exact Nat.le_refl _) (I2.hok.fresh (by rw [hd];exact Nat.le_refl _))
 have od:(s2.heap.push { cls:=.type "list",dict:=none,data:=.seq ([]:List Value).toArray }).get? d=some { cls:=.type "list",dict:=none,data:=.seq ([]:List Value).toArray }:=by rw [← hd];exact Heap.get?_push_size _ rfl
 have st3:tn 0 (s2.heap.push { cls:=.type "list",dict:=none,data:=.seq ([]:List Value).toArray }):=T.keep _ _ _ st2 fun b _ o e=>Heap.get?_push_of_some _ e
 have ne_d:∀ b∈fp,b≠d:=fun b hb=>by
  obtain⟨o,e,_⟩:=T.obj _ _ st2 b hb
  rw [← hd]
  exact Nat.ne_of_lt (Heap.lt_size e)
 have hd0:X.s₀.heap.objs.size<=d:=by rw [← hd];exact I2.sz
 generalize hs3:({ s2 with heap:=s2.heap.push { cls:=.type "list",dict:=none,data:=.seq ([]:List Value).toArray } }:Shared)=s3 at I3
 have od3:s3.heap.get? d=some { cls:=.type "list",dict:=none,data:=.seq ([]:List Value).toArray }:=by rw [← hs3];exact od
 have st3':tn 0 s3.heap:=by rw [← hs3];exact st3
 have hex:∀ b∈d::fp,FpOk X pins H2 b/\∃ o,s3.heap.get? b=some o:=fun b hb=>by
  rcases List.mem_cons.mp hb with e | hb
  ·subst e;exact⟨fd,_,od3⟩
  ·obtain⟨o,e,_⟩:=T.obj _ _ st3' b hb
   exact⟨f2 b hb,o,e⟩
 refine wpAny_blockEnv fun h4 hns hk hcl=>?_
 have J0:=I3.enter (ex:=d::fp) (xe:=fun _ _=>False) B hex hns hk hcl
 generalize hCs:cellsFrom (s3.heap.objs.size+1) scope.names (zkc X.env scope.names [])=cells at J0
 have hCd:s3.heap.objs.size≠d:=fun z=>by have:=Heap.lt_size od3;rw [z] at this;exact Nat.lt_irrefl _ this
 let bk:Bk:=⟨cells,s3.heap.objs.size,s3,H2,d::fp,X.pn++pins⟩
 have J0':Inv (cxB X scope N' bk) [] (inSt fr σ) H2 { s3 with heap:=h4 }:=J0
 show codeAny (model X.prog X.w) X.A (.compStart (.ListComp elt [⟨tg,iter,[],0⟩,⟨tg2,iter2,ifs2,0⟩] scope pos) 0 (.ref it) (.ref d) (cxB X scope N' bk).env) (RR (.ref d) s3.heap.objs.size) { s3 with heap:=h4 }
 have ne_pn:∀ p∈X.pn++pins,p.1≠d/\∀ b∈fp,p.1≠b:=fun p hp=>⟨fd.2.2.2.2.2 p hp,fun b hb=>(f2 b hb).2.2.2.2.2 p hp⟩
 have never:∀ {α:Type} {t:Sem α} {QQ : α->Shared->Prop} {EE:Value->Shared->Prop} {ss:Shared},wpAny (model X.prog X.w) X.A t QQ (fun _ _=>False) ss->wpAny (model X.prog X.w) X.A t QQ EE ss:=fun hh=>wpAny_mono hh (fun _ _ z=>z) fun _ _ z=>z.elim
 have fpk:∀ {Hx:Hp} {o:Obj},(∀ b∈fp,Hx b=none)->∀ b∈fp,FpOk (cxB X scope N' bk) [(d,o)] Hx b:=fun {Hx o} hn b hb=>by
  have hb':b∈d::fp:=List.mem_cons_of_mem _ hb
  refine⟨hn b hb,(J0'.ok.exf b hb').1,J0'.ok.exfs b hb',.inl hb',fun x c e=>(J0'.ok.exf b hb').2 x c e,fun p hp=>?_⟩
  have hp':p∈(X.pn++pins)++[(d,o)]:=hp
  rcases List.mem_append.mp hp' with z | z
  ·exact (ne_pn p z).2 b hb
  ·have:p=(d,o):=by simpa using z
   rw [this]
   exact Ne.symm (ne_d b hb)
 have dC:=(J0'.ok.exf d List.mem_cons_self).1
 have dS:=J0'.ok.exfs d List.mem_cons_self
 have loop:∀ s4:Shared,Inv (cxB X scope N' bk) [] (inSt fr σ) H2 s4->tn 0 s4.heap->s4.heap.PlainList d #[] →
   codeAny (model X.prog X.w) X.A (.compLoop (.ListComp elt [⟨tg,iter,[],0⟩,⟨tg2,iter2,ifs2,0⟩] scope pos) 0 (.ref it) (.ref d) (cxB X scope N' bk).env) (RR (.ref d) s3.heap.objs.size) s4:=by
  intro s4 J4 st4 pl4
  refine loop_outer (hs2 bk) (fun n s'=>∃ i acc its H' σ',Inv (cxB X scope N' bk) [] σ' H' s'/\Kp fr (inSt fr σ) σ'/\tn i s'.heap/\(∀ b∈fp,H' b=none)/\H' d=none/\s'.heap.PlainList d (List.toArray its)/\Vals acc its/\W i n acc H') ?_ m0
   ⟨0,[],[],H2,inSt fr σ,J4,Kp.refl _ _,st4,fun b hb=>(f2 b hb).1,fd.1,pl4,.nil,w0⟩
  rintro n s5 ⟨i,acc,its,H5,σ5,J5,kp5,st5,fr5,hd5,⟨n5,pl5⟩,va5,w5⟩
  obtain⟨hz,cs⟩:=turn i n acc H5 w5
  have J5p:Inv (cxB X scope N' bk) [(d,{ cls:=.type "list",data:=.seq its.toArray n5 })] σ5 H5 s5:=J5.pins_of fun p hp=>by
   have:p=(d,{ cls:=.type "list",data:=.seq its.toArray n5 }):=by simpa using hp
   subst this
   exact⟨pl5,hd5,dC,dS,fun v z=>by cases z⟩
  rcases cs with⟨stop,q⟩ | ⟨go,N,hN,step⟩
  ·refine never (thn (T.done (cxB X scope N' bk) rfl rfl rfl hc i _ s5 σ5 H5 _ J5p (fpk fr5) st5 stop) fun r s6 ⟨hr,J6⟩=>?_)
   subst hr
   obtain⟨e6,n6,_⟩:=J6.pin (d,{ cls:=.type "list",data:=.seq its.toArray n5 }) (List.mem_append_right _ (by simp))
   have I6:Inv X pins σ H5 s6:=I3.leave (fun b hb=>(hex b hb).1) J6
   have I6t:Inv X pins σ (upd H5 d (.lst acc)) s6:=I6.track ⟨hd5,fd.2⟩ (.inr hd0) hd0 ⟨by omega,its,n5,va5,e6⟩
   obtain⟨m6,hn6,_⟩:=J6.loc
   refine hRR d s3.heap.objs.size (.ref d) _ s6 m6 I6t rfl (q d hd5) hn6 ?_ hCd
   exact I3.fpOk (Nat.le_refl _) (by rw [upd_ne hCd];exact J6.free)
  ·refine never (thn (T.item (cxB X scope N' bk) rfl rfl rfl hc i _ s5 σ5 H5 _ J5p (fpk fr5) st5 go) fun r s6 ⟨u,hr,h6⟩=>?_)
   subst hr
   refine never (thn h6 fun _ s7 ⟨x,H7,J7,r7,y7,st7,fr7⟩=>?_)
   have J7w:Inv (cxB X scope N' bk) [(d,{ cls:=.type "list",data:=.seq its.toArray n5 })] (inSt fr σ) H7 s7:=J7.weak kp5.1.symm (weak_of kp5)
   have J7p:=J7w.pinned (fpk fr7) (T.obj _ _ st7)
   have G:=hgk x (inSt fr σ) H7 _ (fun σ2 H2=>(wi2 σ2 H2 fun J2 H3=>CompI J2 (inSt fr2 σ2) g2 tc2 te acc H3 N)/\Kp fr (inSt fr σ) σ2) (fun σ' H' a b=>⟨a,b⟩) (step x H7 y7)
   refine never (thn (hg bk _ s7 (inSt fr σ) H7 x u _ J7p r7 G) fun _ s8 ⟨σ8,H8,J8,q8,kp8⟩=>?_)
   refine never (thn (hi2 bk _ s8 σ8 H8 _ J8 q8) fun v9 s9 h9=>thn h9 fun j s10 h10=>?_)
   obtain⟨it2,fp2,tn2,J2,H10,rfl,J10,T2,st10,f10,W2,⟨m2,w2⟩,turn2⟩:=h10
   have keep1:∀ {pp:List (Addr×Obj)} {σx:St} {Hx:Hp} {sx:Shared},(∀ p∈zsb fp s7.heap,p∈pp)->Inv (cxB X scope N' bk) pp σx Hx sx->(∀ b∈fp,∀ o,s7.heap.get? b=some o->sx.heap.get? b=some o)/\(∀ b∈fp,Hx b=none):=fun {pp σx Hx sx} hpp Jx=>by
    refine⟨fun b hb o e=>(Jx.pin (b,o) (List.mem_append_right _ (hpp _ (zob hb e)))).1,fun b hb=>?_⟩
    obtain⟨o,e,_⟩:=T.obj _ _ st7 b hb
    exact (Jx.pin (b,o) (List.mem_append_right _ (hpp _ (zob hb e)))).2.1
   have ne2:∀ b∈fp2,b≠d:=fun b hb z=>(f10 b hb).2.2.2.2.2 (d,{ cls:=.type "list",data:=.seq its.toArray n5 }) (List.mem_append_right _ (List.mem_append_left _ (by simp))) z.symm
   have fpk2:∀ {Hx:Hp} {o:Obj},(∀ b∈fp2,Hx b=none)->∀ b∈fp2,FpOk (cxB X scope N' bk) ([(d,o)]++zsb fp s7.heap) Hx b:=fun {Hx o} hn b hb=>by
    obtain⟨_,k1,k2,k3,k4,k5⟩:=f10 b hb
    refine⟨hn b hb,k1,k2,k3,k4,fun p hp=>?_⟩
    rcases List.mem_append.mp hp with z | z
    ·exact k5 p (List.mem_append_left _ z)
    ·rcases List.mem_append.mp z with z | z
     ·have:p=(d,o):=by simpa using z
      rw [this]
      exact (ne2 b hb).symm
     ·exact k5 p (List.mem_append_right _ (List.mem_append_right _ z))
   obtain⟨e10,hd10,_⟩:=J10.pin (d,{ cls:=.type "list",data:=.seq its.toArray n5 }) (List.mem_append_right _ (List.mem_append_left _ (by simp)))
   have J10w:Inv (cxB X scope N' bk) (zsb fp s7.heap) (inSt fr2 σ8) H10 s10:=by
    have J10p:Inv (cxB X scope N' bk) (zsb fp s7.heap) σ8 H10 s10:=J10.pins_of fun p hp=>J10.pin p (List.mem_append_right _ (List.mem_append_right _ hp))
    refine J10p.weak ?_ fun k v e=>?_
    ·rw [zcc,kp8.1,zcc]
     unfold sub2 at hsub
     rw [Bool.and_eq_true] at hsub
     have h1:=hsub.1
     simpa using h1
    ·unfold inSt at e
     rw [List.getElem?_map] at e
     cases q:fr2[k]? with
     | none=>rw [q] at e;cases e
     | some o=>
      rw [q] at e
      cases o with
      | none=>simp at e
      | some j=>
       have hk:k<fr.length:=by
        unfold sub2 at hsub
        rw [Bool.and_eq_true] at hsub
        have h1:fr2.length=fr.length:=by simpa using hsub.1
        have:=(List.getElem?_eq_some_iff.mp q).1
        omega
       have hj:j=k:=by
        unfold sub2 at hsub
        rw [Bool.and_eq_true] at hsub
        have h3:=List.all_eq_true.mp hsub.2 k (List.mem_range.mpr hk)
        rw [q] at h3
        simp at h3
        exact h3
       subst hj
       have e' : σ8.getD j none=some v:=by simpa using e
       rw [List.getD_eq_getElem?_getD] at e'
       cases q2 : σ8[j]? with
       | none=>rw [q2] at e';cases e'
       | some y=>rw [q2] at e';simp at e';rw [e']
   have inner:∀ s11:Shared,s11=s10->codeAny (model X.prog X.w) X.A (.compLoop (.ListComp elt [⟨tg,iter,[],0⟩,⟨tg2,iter2,ifs2,0⟩] scope pos) 1 (.ref it2) (.ref d) (cxB X scope N' bk).env)
     (fun r s₅=>match r with | .ok _=>∃ m,m<n/\∃ i acc its H' σ',Inv (cxB X scope N' bk) [] σ' H' s₅/\Kp fr (inSt fr σ) σ'/\tn i s₅.heap/\(∀ b∈fp,H' b=none)/\H' d=none/\s₅.heap.PlainList d (List.toArray its)/\Vals acc its/\W i m acc H' | .error _=>False) s11:=by
    rintro s11 rfl
    refine loop_inner (fun n2 s'=>∃ i2 acc its H' σ',Inv (cxB X scope N' bk) (zsb fp s7.heap) σ' H' s'/\Kp fr2 (inSt fr2 σ8) σ'/\tn2 i2 s'.heap/\(∀ b∈fp2,H' b=none)/\H' d=none/\s'.heap.PlainList d (List.toArray its)/\Vals acc its/\W2 i2 n2 acc H') ?_ m2
     ⟨0,acc,its,H10,inSt fr2 σ8,J10w,Kp.refl _ _,st10,fun b hb=>(f10 b hb).1,hd10,⟨n5,e10⟩,va5,w2⟩
    rintro n' t5 ⟨i2,acc2,its2,K5,τ5,L5,kq5,ut5,gr5,he5,⟨n6,ql5⟩,vb5,x5⟩
    obtain⟨hz2,cs2⟩:=turn2 i2 n' acc2 K5 x5
    have L5p:Inv (cxB X scope N' bk) ([(d,{ cls:=.type "list",data:=.seq its2.toArray n6 })]++zsb fp s7.heap) τ5 K5 t5:=L5.pins_of fun p hp=>by
     rcases List.mem_append.mp hp with z | z
     ·have:p=(d,{ cls:=.type "list",data:=.seq its2.toArray n6 }):=by simpa using z
      subst this
      exact⟨ql5,he5,dC,dS,fun v z=>by cases z⟩
     ·exact L5.pin p (List.mem_append_right _ z)
    rcases cs2 with⟨stop2,q2⟩ | ⟨go2,N2,hN2,step2⟩
    ·refine thn (T2.done (cxB X scope N' bk) rfl rfl rfl hc i2 _ t5 τ5 K5 _ L5p (fpk2 gr5) ut5 stop2) fun r t6 ⟨hr,L6⟩=>?_
     subst hr
     obtain⟨e6,n6',_⟩:=L6.pin (d,{ cls:=.type "list",data:=.seq its2.toArray n6 }) (List.mem_append_right _ (List.mem_append_left _ (by simp)))
     obtain⟨m',hm,w6⟩:=hN _ _ q2
     obtain⟨k1,k2⟩:=keep1 (fun p hp=>List.mem_append_right _ hp) L6
     exact⟨m',hm,i+1,acc2,its2,K5,τ5,L6.pins_of (fun p hp=>by simp at hp),kp_sub hsub kp8 kq5,T.keep _ _ _ st7 k1,k2,n6',⟨n6,e6⟩,vb5,w6⟩
    ·refine thn (T2.item (cxB X scope N' bk) rfl rfl rfl hc i2 _ t5 τ5 K5 _ L5p (fpk2 gr5) ut5 go2) fun r t6 ⟨u2,hr,h6⟩=>?_
     subst hr
     refine thn h6 fun _ t7 ⟨x2,K7,L7,s7r,y72,ut7,gr7⟩=>?_
     have L7w:Inv (cxB X scope N' bk) ([(d,{ cls:=.type "list",data:=.seq its2.toArray n6 })]++zsb fp s7.heap) (inSt fr2 σ8) K7 t7:=L7.weak kq5.1.symm (weak_of kq5)
     have L7p:=L7w.pinned (fpk2 gr7) (T2.obj _ _ ut7)
     have G2:=hgk2 x2 (inSt fr2 σ8) K7 _ (fun σ3 H4=>(tc2 σ3 H4 fun b H5=>if b=true then te σ3 H5 fun v H6=>N2 (acc2++[v]) H6 else N2 acc2 H5)/\Kp fr2 (inSt fr2 σ8) σ3) (fun σ' H' a b=>⟨a,b⟩) (step2 x2 K7 y72)
     refine thn (hg2 bk _ t7 (inSt fr2 σ8) K7 x2 u2 _ L7p s7r G2) fun _ t8 ⟨τ8,K8,L8,q82,kq8⟩=>?_
     refine thn (ht bk _ t8 τ8 K8 _ L8 q82) fun ok t9 ⟨K9,L9,q9⟩=>?_
     have keepT:∀ {σx:St} {Hx:Hp} {sx:Shared},Inv (cxB X scope N' bk) (([(d,{ cls:=.type "list",data:=.seq its2.toArray n6 })]++zsb fp s7.heap)++zsb fp2 t7.heap) σx Hx sx->(∀ b∈fp2,∀ o,t7.heap.get? b=some o->sx.heap.get? b=some o)/\(∀ b∈fp2,Hx b=none)/\sx.heap.get? d=some { cls:=.type "list",data:=.seq its2.toArray n6 }/\Hx d=none:=fun {σx Hx sx} Jx=>by
      refine⟨fun b hb o e=>(Jx.pin (b,o) (List.mem_append_right _ (List.mem_append_right _ (zob hb e)))).1,fun b hb=>?_,?_⟩
      ·obtain⟨o,e,_⟩:=T2.obj _ _ ut7 b hb
       exact (Jx.pin (b,o) (List.mem_append_right _ (List.mem_append_right _ (zob hb e)))).2.1
      ·have:=Jx.pin (d,{ cls:=.type "list",data:=.seq its2.toArray n6 }) (List.mem_append_right _ (List.mem_append_left _ (List.mem_append_left _ (by simp))))
       exact⟨this.1,this.2.1⟩
     have strip:∀ {σx:St} {Hx:Hp} {sx:Shared},Inv (cxB X scope N' bk) (([(d,{ cls:=.type "list",data:=.seq its2.toArray n6 })]++zsb fp s7.heap)++zsb fp2 t7.heap) σx Hx sx->Inv (cxB X scope N' bk) (zsb fp s7.heap) σx Hx sx:=fun Jx=>Jx.pins_of fun p hp=>Jx.pin p (List.mem_append_right _ (List.mem_append_left _ (List.mem_append_right _ hp)))
     cases ok with
     | false=>
      rw [if_neg (by decide)] at q9 ⊢
      obtain⟨m',hm,w9⟩:=hN2 _ _ q9
      obtain⟨k1,k2,k3,k4⟩:=keepT L9
      exact⟨m',hm,i2+1,acc2,its2,K9,τ8,strip L9,kq8,T2.keep _ _ _ ut7 k1,k2,k4,⟨n6,k3⟩,vb5,w9⟩
     | true=>
      rw [if_pos rfl] at q9 ⊢
      refine thn (he bk _ t9 τ8 K9 _ L9 q9) fun y t10 ⟨v,K10,L10,r10,q10⟩=>?_
      obtain⟨m',hm,w10⟩:=hN2 _ _ q10
      obtain⟨k1,k2,k3,k4⟩:=keepT L10
      have hzs:its2.toArray.size<=sizeLine:=by rw [List.size_toArray,← vb5.length];omega
      refine wpAny_list_append_plain (hsz:=hzs) ⟨n6,k3⟩ fun h11 pl11 sb11=>?_
      have L11:Inv (cxB X scope N' bk) (zsb fp s7.heap) τ8 K10 { t10 with heap:=h11 }:=(strip L10).turned (it:=d) (t':=t10.toks) (fun b o hb e=>(sb11.2 b hb).trans e) k4 dC (.inl List.mem_cons_self) (fun x c e=>(J0'.ok.exf d List.mem_cons_self).2 x c e) fun p hp=>by
       have hp':p∈(X.pn++pins)++zsb fp s7.heap:=hp
       rcases List.mem_append.mp hp' with z | z
       ·exact (ne_pn p z).1
       ·exact ne_d p.1 (of_pinsAt z).1
      refine⟨m',hm,i2+1,acc2++[v],its2++[y],K10,τ8,L11,kq8,T2.keep _ _ _ ut7 (fun b hb o e=>(sb11.2 b (ne2 b hb)).trans (k1 b hb o e)),k2,k4,?_,vb5.append (.cons r10 .nil),w10⟩
      have:(its2++[y]).toArray=its2.toArray.push y:=by simp
      rw [this]
      exact pl11
   exact start_inner (inner s10 rfl) (T2.self X.A 0 _ _ _ st10 (inner s10 rfl))
 have st4:tn 0 h4:=T.keep _ _ _ st3' fun b _ o e=>hk b o e
 have pl4:h4.PlainList d #[]:=⟨0,hk d _ od3⟩
 have L4:=loop { s3 with heap:=h4 } J0' st4 pl4
 exact codeAny_compStart_list L4 (T.self X.A 0 _ _ _ st4 L4)
theorem pe_comp2 (hc:X.calm=true)(B:Blk X.env.scope scope X.N N' fr)(hsub:sub2 fr fr2=true)(hi:PI X tg iter wi)
  (hg:∀ b,PG (cxB X scope N' b) tg g) (hgk:GKeep fr g) (hi2:∀ b,PI (cxB X scope N' b) tg2 iter2 wi2) (hg2:∀ b,PG (cxB X scope N' b) tg2 g2) (hgk2:GKeep fr2 g2) (ht:∀ b,PTs (cxB X scope N' b) ifs2 tc2) (he:∀ b,PE (cxB X scope N' b) elt te)
  (hs:∀ x,foldedSetIterable iter X.env x=pure x:=by intro _;rfl) (hs2:∀ b x,foldedSetIterable iter2 (cxB X scope N' b).env x=pure x:=by intro _ _;rfl) :
  PE X (.ListComp elt [⟨tg,iter,[],0⟩,⟨tg2,iter2,ifs2,0⟩] scope pos) (tComp2 wi fr g wi2 fr2 g2 tc2 te):=by
 intro pins s σ H Q I h
 rw [eval_ListComp]
 refine wpAny_comprehension_free (use:=none) rfl hs (zlc (I.freeCells B)) B.kind B.locl (thn (hi pins s σ H _ I h) fun v s1 h1=>thn h1 fun itv s2 h2=>?_)
 refine comp_block2 (RR:=fun acc C=>compPost (model X.prog X.w) X.A X.xe none (EP X pins σ Q) acc C) hc B hsub hg hgk hi2 hg2 hgk2 ht he hs2 h2 ?_
 intro d C v H' s' m' I' hv q hn fC hCd
 refine⟨m',hn,fun h'' sb=>?_⟩
 obtain⟨c0,c1,c2,c3,c4,c5⟩:=fC
 exact⟨v,H',I'.turned (it:=C) (t':=s'.toks) (fun b o hb e=>(sb.2 b hb).trans e) c0 c1 c3 c4 c5,by rw [hv];rfl,q⟩
theorem ps_setcomp2 {i:Nat}{x:Str}{pos' spos:Pos}(hc:X.calm=true)(hN:X.N.Nodup)(hi':X.N[i]?=some x)(hx:X.env.scope.names.lookup x=some .local)(B:Blk X.env.scope scope X.N N' fr)(hsub:sub2 fr fr2=true)(hi:PI X tg iter wi)
  (hg:∀ b,PG (cxB X scope N' b) tg g) (hgk:GKeep fr g) (hi2:∀ b,PI (cxB X scope N' b) tg2 iter2 wi2) (hg2:∀ b,PG (cxB X scope N' b) tg2 g2) (hgk2:GKeep fr2 g2) (ht:∀ b,PTs (cxB X scope N' b) ifs2 tc2) (he:∀ b,PE (cxB X scope N' b) elt te)
  (hsw:swapsWith (.ListComp elt [⟨tg,iter,[],0⟩,⟨tg2,iter2,ifs2,0⟩] scope pos) (some (.Name x pos')) spos.line X.env=pure true:=by rfl)
  (hs:∀ x,foldedSetIterable iter X.env x=pure x:=by intro _;rfl) (hs2:∀ b x,foldedSetIterable iter2 (cxB X scope N' b).env x=pure x:=by intro _ _;rfl) :
  PS X (.Assign [.Name x pos'] (.ListComp elt [⟨tg,iter,[],0⟩,⟨tg2,iter2,ifs2,0⟩] scope pos) spos) (tAsg (tComp2 wi fr g wi2 fr2 g2 tc2 te) (gName i)):=by
 intro pins s σ H D I h
 rw [exec_Assign_Name_used _ _ _ _ hsw]
 refine wpAny_bind (wpAny_standAt (wpAny_bind ?_))
 show wpAny _ _ (do let _ ← comprehension (.ListComp elt [⟨tg,iter,[],0⟩,⟨tg2,iter2,ifs2,0⟩] scope pos) scope X.env _ (newList []) false (eval iter X.env) (some (assign (.Name x pos') X.env))) _ _ s
 refine wpAny_bind (wpAny_mono (wpAny_comprehension_free (use:=some (assign (.Name x pos') X.env)) (Q:=fun _ s'=>SP X pins D .next s') rfl hs (zlc (I.freeCells B)) B.kind B.locl (thn (hi pins s σ H _ I h) fun v s1 h1=>thn h1 fun itv s2 h2=>?_)) (fun _ s' hq=>wpAny_pure (wpAny_pure hq)) fun _ _ e=>e)
 refine comp_block2 (Q:=fun v H1=>gName i v σ H1 D.nx) (RR:=fun acc C=>compPost (model X.prog X.w) X.A X.xe (some (assign (.Name x pos') X.env)) (fun _ s'=>SP X pins D .next s') acc C) hc B hsub hg hgk hi2 hg2 hgk2 ht he hs2 h2 ?_
 intro d C v H' s' m' I' hv q hn fC hCd
 obtain⟨c0,c1,c2,c3,c4,c5⟩:=fC
 subst hv
 refine wpAny_assign_Name (store_ok2 I' hN hi' (.inl hx) (show RelV (.ref d) (.ref d) from rfl) (fun s6 I6 ⟨a,sa,ha⟩=>?_) (.inr hx))
 have haC:C≠a:=by
  rcases ha with z | z
  ·rw [z];exact c1
  ·exact fun z'=>c4 x a z z'.symm
 refine⟨m',hn.sameBut sa haC,fun h'' sb=>?_⟩
 exact⟨_,H',I6.turned (it:=C) (t':=s6.toks) (fun b o hb e=>(sb.2 b hb).trans e) c0 c1 c3 c4 c5,q⟩
end
end L2
namespace L2
open PySem PySem.Spec PyProof.Rows
open PySem.AutoSeq1 (wpAny_loadPart')
section
variable  {prog:Program}{w:World}{A:Around}{E:Value->Shared->Prop}{ss:Shared}
theorem nx_tuple_item {jt tt:Addr}{k:Nat}{els:Array Value}{y:Value}{Q:Value->Shared->Prop}(qi:ss.heap.IsTupleIter jt tt k)(qt:ss.heap.IsTuple tt els)(qy:els[k]?=some y)
  (kk:∀ h1,h1.IsTupleIter jt tt (k+1)->Heap.SameBut jt ss.heap h1->Q y { ss with heap:=h1 }):wpAny (model prog w) A (Builtin.SmallTypes.nextOf (.ref jt)) Q E ss:=by
 obtain⟨qo,eo,ec,ed⟩:=id qi
 obtain⟨ql,el,_,nl,edl⟩:=qt
 unfold Builtin.SmallTypes.nextOf
 refine wpAny_bind (wpAny_callSpecial?_slot (name:=Str.ofString "__next__") qi.typeIs F.slot_tuple_iterator_next (wpAny_call_entry F.slot_tuple_iterator_next qi.typeIs F.entry_tuple_iterator_next ?_ (F.args_tuple_iterator_next_1 _)))
 show wpAny _ _ (field (.ref jt) 0 >>= _) _ _ ss
 refine wpAny_bind (wpAny_field eo ed (x:=.ref tt) rfl ?_)
 show wpAny _ _ (if (Value.ref tt == Value.none)=true then _ else _) _ _ ss
 rw [if_neg (show ¬ ((Value.ref tt == Value.none)=true) from Bool.false_ne_true)]
 show wpAny _ _ (field (.ref jt) 1 >>= _) _ _ ss
 refine wpAny_bind (wpAny_field eo ed (x:=.int k 0) rfl ?_)
 show wpAny _ _ (seqItems? (.ref tt) >>= _) _ _ ss
 refine wpAny_bind (wpAny_seqItems el edl ?_)
 simp only [Int.toNat_natCast,qy]
 refine wpAny_bind (wpAny_setField eo ed (by simp) (wpAny_pure ⟨y,rfl,wpAny_pure (kk _ ?_ (Heap.SameBut.update ..))⟩))
 exact⟨_,Heap.get?_update_self _ eo (Obj.isFreed_of_fields (Obj.data_mapFields ed _)),(Obj.cls_mapFields ..).trans ec,by rw [Obj.data_mapFields ed];simp [rawInt]⟩
theorem nx_tuple_end {jt tt:Addr}{k:Nat}{els:Array Value}{Q:Value->Shared->Prop}(hh:A.handled=none)(qi:ss.heap.IsTupleIter jt tt k)(qt:ss.heap.IsTuple tt els)(qy:els[k]?=none)
  (kk:∀ h1 e,Heap.ExtBut jt ss.heap h1->(∃ o,h1.get? e=some o/\o.cls = .type "StopIteration")->E (.ref e) { ss with heap:=h1 }):wpAny (model prog w) A (Builtin.SmallTypes.nextOf (.ref jt)) Q E ss:=by
 obtain⟨qo,eo,ec,ed⟩:=id qi
 obtain⟨ql,el,_,nl,edl⟩:=qt
 unfold Builtin.SmallTypes.nextOf
 refine wpAny_bind (wpAny_callSpecial?_slot (name:=Str.ofString "__next__") qi.typeIs F.slot_tuple_iterator_next (wpAny_call_entry F.slot_tuple_iterator_next qi.typeIs F.entry_tuple_iterator_next ?_ (F.args_tuple_iterator_next_1 _)))
 show wpAny _ _ (field (.ref jt) 0 >>= _) _ _ ss
 refine wpAny_bind (wpAny_field eo ed (x:=.ref tt) rfl ?_)
 show wpAny _ _ (if (Value.ref tt == Value.none)=true then _ else _) _ _ ss
 rw [if_neg (show ¬ ((Value.ref tt == Value.none)=true) from Bool.false_ne_true)]
 show wpAny _ _ (field (.ref jt) 1 >>= _) _ _ ss
 refine wpAny_bind (wpAny_field eo ed (x:=.int k 0) rfl ?_)
 show wpAny _ _ (seqItems? (.ref tt) >>= _) _ _ ss
 refine wpAny_bind (wpAny_seqItems el edl ?_)
 simp only [Int.toNat_natCast,qy]
 refine wpAny_bind (wpAny_rule (wpAny_bind (wpAny_setField eo ed (by simp) ?_)))
 show wpAny _ _ (newExc (.type "StopIteration") ([]:List Value) >>= _) _ _ _
 refine wpAny_bind ?_
 simp only [newExc,newTuple]
 refine wpAny_bind (wpAny_newObj_type ?_ (by size_fits))
 refine wpAny_bind (m:=firstArgMember _ _) (wpAny_of_eq (a:=Value.none) (by first | rfl | (simp only [firstArgMember];rfl;done)) ?_)
 refine wpAny_newObj_type ?_ (by size_fits)
 simp only [raiseNew]
 refine wpAny_bind (wpAny_handled ?_)
 first | rw [show A.in1.handled=none from hh] | rw [id hh]
 refine wpAny_bind (wpAny_pure (wpAny_throw ?_))
 exact kk _ _ (((Heap.SameBut.update ..).extBut.push _).push _) ⟨_,Heap.get?_push_size _ rfl,rfl⟩
theorem draws_tuple (hh:A.handled=none)(jt tt:Addr)(ne:tt≠jt)(els:Array Value):Draws prog w A jt [jt,tt] els.size (fun k v=>els[k]?=some v) (fun k h=>h.IsTupleIter jt tt k/\h.IsTuple tt els) where
 live:=fun _ _ st=>let ⟨o,ho,_⟩:=st.1;⟨o,ho⟩
 frame:=fun _ _ _ st hk=>⟨st.1.at fun o e=>hk jt (by simp) o e,let ⟨o,ho,r⟩:=st.2;⟨o,hk tt (by simp) o ho,r⟩⟩
 item:=fun k s Q E hi st kk=>nx_tuple_item st.1 st.2 (y:=els[k]) (by simp [hi]) fun h1 i1 s1=>kk _ h1 s.toks (by simp [hi]) ⟨i1,st.2.extBut s1.extBut ne⟩ s1
 done:=fun s Q E st kk=>nx_tuple_end hh st.1 st.2 (by simp) kk
end
noncomputable def rInsert:V->List V->Hp->VK->Prop:=fun x vs H Q=>∃ l xs i y,x = .ref l/\vs = [.int i,y]/\H l=some (.lst xs)/\0<=i/\i<=xs.length/\xs.length<sizeLine/\Q .non (upd H l (.lst (xs.take i.toNat++y::xs.drop i.toNat)))
theorem mt_insert {X:Cx}:MtM X "list.insert" rInsert:=by
 intro pins s σ H x vs v us Q I rx rv h
 obtain⟨l,xs,i,y,rfl,rfl,hH,hi0,hi,hz0,q⟩:=h
 cases rx
 obtain⟨u1,u2,rfl,ru,ry⟩:=vals2 rv
 obtain⟨t,rfl⟩:=ru
 obtain⟨z,its,n,r,hl,e⟩:=I.lstM hH
 have h63:i<2 ^ 63:=by rw [sizeLine_eq] at hz0;omega
 have h62 : -(2 ^ 63)<=i:=by omega
 have hfit:¬(!Builtin.List.listFitsIndex i)=true:=by rw [fitsIndex_both h62 h63];exact Bool.false_ne_true
 have hsz:its.toArray.size<=sizeLine:=by rw [List.size_toArray];omega
 refine call_meets F.slot_list_insert ⟨_,e,rfl⟩ F.entry_list_insert (F.args_list_insert_3 _ _ _) (PySem.AutoSeq1.list_insert_list_int_val_1 l _ n i t u2 hfit hsz) ⟨e,?_⟩
 refine⟨.non,_,I.lset (its':=its.take i.toNat++u2::its.drop i.toNat) hH e ?_ ((r.take i.toNat).append (.cons ry (r.drop i.toNat))) ?_,rfl,q⟩
 ·show (its.toArray.extract 0 (if i<0 then (i+(its.toArray.size:Int)).toNat else min i.toNat its.toArray.size)).push u2++its.toArray.extract (if i<0 then (i+(its.toArray.size:Int)).toNat else min i.toNat its.toArray.size)=(its.take i.toNat++u2::its.drop i.toNat).toArray
  have hm:min i.toNat its.toArray.size=i.toNat:=by rw [List.size_toArray];omega
  rw [if_neg (by omega),hm]
  simp
  rw [List.take_of_length_le (by rw [List.length_drop];exact Nat.le_refl _)]
 ·rw [List.length_append,List.length_take,List.length_cons,List.length_drop]
  omega
end L2
namespace L2
open PySem PySem.Spec PyProof.Rows
noncomputable def zfc:Expr->Bool
 | .Starred _ _=>true
 | _=>false
theorem zsa {e:Expr}{es:List Expr}{env:Env}(h:zfc e=false):starEach (e::es) env=(false,eval e env)::starEach es env:=by
 cases e<;>first | rfl | cases h
noncomputable def zqa:List Expr->Bool
 | []=>true
 | e::es=>(!zfc e) && zqa es
theorem zqc {env:Env}{pos:Pos}:∀ {es:List Expr},zqa es=true->(backTo pos (starEach es env)).any (·.1)=false
 | [],_=>rfl
 | e::es,h=>by
  rw [zqa,Bool.and_eq_true] at h
  have h1:zfc e=false:=by simpa using h.1
  rw [zsa h1]
  show (false || (backTo pos (starEach es env)).any (·.1))=false
  rw [zqc h.2];rfl
theorem noStars_all {env:Env}{pos:Pos}:∀ {es:List Expr},zqa es=true->(backTo pos (starEach es env)).all (fun x=>!x.1)=true
 | [],_=>rfl
 | e::es,h=>by
  rw [zqa,Bool.and_eq_true] at h
  have h1:zfc e=false:=by simpa using h.1
  rw [zsa h1]
  show (!false && (backTo pos (starEach es env)).all (fun x=>!x.1))=true
  rw [noStars_all h.2];rfl
section
variable  {X:Cx}{K:PySem.W.Frag}{e:Expr}{es:List Expr}{te:TE}{t:TA}{x:Str}{p pos:Pos}{k:Nat}{ps:List Str}{sp:Sp}
theorem zxc (ha:PE X e te)(hr:PA X es t)(hs:zfc e=false:=by rfl):PA X (e::es) (tCons te t):=pa_cons ha hr (zsa hs)
theorem pe_fnF (h:Has X.prog X.w X.K X.mg X.base k x ps sp)(hr:Room k X.A)(hg:Gl X x)(ha:PA X (e::es) t)(hn:zqa (e::es)=true:=by rfl)(hdb:(x == ("__debug__" : Str))=false:=by decide):PE X (.Call (.Name x p) (e::es) [] pos) (tCall sp [] E0 t):=by
 rw [zqa,Bool.and_eq_true] at hn
 exact pe_fn h hr hg ha hdb (zsa (by simpa using hn.1)) (zqc hn.2)
theorem pe_callBF {id:String}{r:List V->Hp->VK->Prop}(hc:CallR X (.builtin id) r)(hg:Gl X x)(hm:X.mg x=none)(hb:bootBuiltins x=some (.builtin id))(ha:PA X (e::es) t)(hn:zqa (e::es)=true:=by rfl)(hx:x≠("__name__" : Str):=by decide)(hdb:(x == ("__debug__" : Str))=false:=by decide):PE X (.Call (.Name x p) (e::es) [] pos) (tCB r t):=by
 rw [zqa,Bool.and_eq_true] at hn
 exact pe_callB hc hg hm hb ha hx hdb (zsa (by simpa using hn.1)) (zqc hn.2)
theorem pe_callTyF {T:String}{r:List V->Hp->VK->Prop}(hc:CallR X (.type T) r)(hg:Gl X x)(hm:X.mg x=none)(hb:bootBuiltins x=some (.type T))(ha:PA X (e::es) t)(hn:zqa (e::es)=true:=by rfl)(hx:x≠("__name__" : Str):=by decide)(hdb:(x == ("__debug__" : Str))=false:=by decide):PE X (.Call (.Name x p) (e::es) [] pos) (tCB r t):=by
 rw [zqa,Bool.and_eq_true] at hn
 exact pe_callTy hc hg hm hb ha hx hdb (zsa (by simpa using hn.1)) (zqc hn.2)
theorem bmKF {o:Expr}{to:TE}{name:Str}{apos cpos:Pos}{T id:String}{r:V->List V->Hp->VK->Prop}(h:X.K=K)(pa:PlainAttrs T)(slot:Slot T name id)(hty:typeOf (.builtin id)=pure (.type "method_descriptor"))(hm:MtR X id r)(ho:PE X o to)(ha:PA X (e::es) t)(hn:zqa (e::es)=true:=by rfl)(hlen:decide ((e::es).length<30)=true:=by rfl)
  (hbase:attributeBase o name X.env (eval o X.env)=eval o X.env:=by rfl) (hline:(apos.endLine == cpos.line)=true:=by rfl):PE X (.Call (.Attribute o name apos) (e::es) [] cpos) (tBM K T r to t):=by
 have hn':=hn
 rw [zqa,Bool.and_eq_true] at hn'
 refine bmK h pa slot hty hm ho ha hbase ?_ hline (zsa (by simpa using hn'.1)) (zqc hn'.2)
 rw [noStars_all hn]
 have:=of_decide_eq_true hlen
 simp only [Bool.true_and,List.length_nil,Nat.add_zero,List.isEmpty_nil,if_true]
 rw [decide_eq_true this]
 rfl
end
end L2
namespace L2
open PySem PySem.Spec PyProof.Rows
section
variable  {X:Cx}
theorem Inv.lstR {pins:List (Addr×Obj)}{σ:St}{H:Hp}{s:Shared}{l:Addr}{xs:List V}(I:Inv X pins σ H s)(hH:Rd H l (.lst xs)):xs.length<=sizeLine/\∃ (its:List Value) (n:Nat),Vals xs its/\xs.length=its.length/\s.heap.get? l=some { cls:=.type "list",data:=.seq its.toArray n }:=by
 obtain⟨z,its,n,r,e⟩:=hH.ok I.hok
 exact⟨z,its,n,r,r.length,e⟩
noncomputable def rCatR:R2:=fun x y H Q=>∃ l b xs zs,x = .ref l/\y = .ref b/\Rd H l (.lst xs)/\Rd H b (.lst zs)/\xs.length+zs.length<=sizeLine/\∀ p,H p=none->Q (.ref p) (upd H p (.lst (xs++zs)))
theorem op_catR:OpR X (binaryOp .Add) rCatR:=by
 intro pins s σ H x y v u Q I rx ry h
 obtain⟨l,b,xs,zs,rfl,rfl,hH,hB,hz,q⟩:=h
 cases rx
 cases ry
 obtain⟨z,its,n,r,hl,e⟩:=I.lstR hH
 obtain⟨z2,its2,n2,r2,hl2,e2⟩:=I.lstR hB
 refine PySem.P.add_list e e2 ?_ (by rw [List.size_toArray,List.size_toArray];omega)
 have ea:its.toArray++its2.toArray=(its++its2).toArray:=by simp
 rw [ea]
 exact⟨.ref _,_,I.lnew (t':=s.toks) (r.append r2) (by rw [List.length_append];omega),rfl,q _ I.fresh⟩
noncomputable def rCatT0 (K:PySem.W.Frag):R2:=fun x y H Q=>∃ a b ys,x = .ref a/\y = .ref b/\SqT K H a []/\SqT K H b ys/\Q (.ref b) H
theorem op_catT0:OpR X (binaryOp .Add) (rCatT0 X.K):=by
 intro pins s σ H x y v u Q I rx ry h
 obtain⟨a,b,ys,rfl,rfl,ha,hb,q⟩:=h
 cases rx
 cases ry
 obtain⟨its,r1,p1,_⟩:=I.tuple ha
 obtain⟨its2,r2,p2,_⟩:=I.tuple hb
 have hv:its = []:=r1.nil_iff.mpr rfl
 subst hv
 obtain⟨⟨cls,dd,data,sl⟩,ho,hc,n,hd⟩:=id p1
 obtain⟨⟨cls2,dd2,data2,sl2⟩,ho2,hc2,n2,hd2⟩:=id p2
 simp only at hc hd hc2 hd2
 subst hc hd hc2 hd2
 exact concat_meets ⟨_,ho,rfl⟩ ⟨_,ho2,rfl⟩ noFill_tuple_add seq_tuple_add PySem.F.slot_tuple_add PySem.F.entry_tuple_add (PySem.F.args_tuple_add_2 _ _)
   (tuple_addW0 a b #[] its2.toArray n n2 dd dd2 sl sl2 rfl) ⟨ho,ho2,⟨.ref b,H,I,rfl,q⟩⟩
noncomputable def rAddY (K:PySem.W.Frag):R2:=fun x y H Q=>rAddX K x y H Q ∨ (rCatR x y H Q ∨ rCatT0 K x y H Q)
theorem op_addY:OpR X (binaryOp .Add) (rAddY X.K):=op_addX.or (op_catR.or op_catT0)
noncomputable def rRepR:R2:=fun x y H Q=>∃ l k xs,x = .ref l/\y = .int k/\Rd H l (.lst xs)/\-(2 ^ 63)<=k/\k<2 ^ 63/\xs.length * k.toNat<=sizeLine/\∀ p,H p=none->Q (.ref p) (upd H p (.lst (List.replicate k.toNat xs).flatten))
theorem op_repR:OpR X (binaryOp .Mult) rRepR:=by
 intro pins s σ H x y v u Q I rx ry h
 obtain⟨l,k,xs,rfl,rfl,hH,h1,h2,hz,q⟩:=h
 cases rx
 obtain⟨t,rfl⟩:=ry
 obtain⟨z,its,n,r,hl,e⟩:=I.lstR hH
 have hlen:its.toArray.size * k.toNat<=sizeLine:=by rw [List.size_toArray,← hl];exact hz
 have hcap:¬ its.toArray.size * k.toNat > (2 ^ 63 - 1) / 8:=by
  have:(sizeLine:Nat)<=(2 ^ 63 - 1) / 8:=by decide
  omega
 have hfit:¬ (!Builtin.List.listFitsIndex k)=true:=by
  rw [fitsIndex_both h1 h2]
  exact Bool.false_ne_true
 have hlong:¬ Builtin.List.listTooLong (its.toArray.size * k.toNat)=true:=by
  rw [zsd hlen]
  exact Bool.false_ne_true
 have hnew:List.foldl (fun x1 x2=>x1++x2) #[] (List.replicate (if its.toArray.isEmpty=true then 0 else k.toNat) its.toArray)=(List.replicate k.toNat its).flatten.toArray:=by
  have f0:∀ m:Nat,List.foldl (fun x1 x2=>x1++x2) #[] (List.replicate m its.toArray)=(List.replicate m its).flatten.toArray:=fun m=>by
   have:=zae its m []
   rw [List.nil_append] at this
   exact this
  rw [f0]
  cases its with
  | nil=>simp
  | cons a r'=>rw [if_neg (by simp)]
 refine wpAny_binaryOp_repeat_ref (T:="list") (U:="int") (by decide) ⟨_,e,rfl⟩ (fun s'=>typeIs_int s' k t) noFill_list_mul F.fills_int_mul F.slot_int_rmul repeat_list F.slot_int_index.lookup
  (call_meets F.slot_int_rmul (typeIs_int s k t) F.entry_int_rmul (F.args_int_rmul_2 _ _) (int___rmul___int_list k t l its.toArray n)
   ⟨e,rfl,⟨_,e,rfl⟩,call_meets F.slot_list_mul ⟨_,e,rfl⟩ F.entry_list_mul (F.args_list_mul_2 _ _) (AutoListH.list___mul___list_int_3 l its.toArray n k t hfit hcap hlong) ⟨e,?_⟩⟩)
 rw [hnew]
 exact⟨.ref _,_,I.lnew (t':=s.toks) (r.rep k.toNat) (by rw [len_rep,Nat.mul_comm];exact hz),rfl,q _ I.fresh⟩
noncomputable def rMulY (K:PySem.W.Frag):R2:=fun x y H Q=>rMulX K x y H Q ∨ rRepR x y H Q
theorem op_mulY:OpR X (binaryOp .Mult) (rMulY X.K):=op_mulX.or op_repR
noncomputable def rExtendR:V->List V->Hp->VK->Prop:=fun x vs H Q=>∃ l b xs zs,x = .ref l/\vs = [.ref b]/\H l=some (.lst xs)/\Rd H b (.lst zs)/\xs.length+zs.length<=sizeLine/\Q .non (upd H l (.lst (xs++zs)))
theorem mt_extendR:MtM X "list.extend" rExtendR:=by
 intro pins s σ H x vs v us Q I rx rv h
 obtain⟨l,b,xs,zs,rfl,rfl,hH,hB,hz,q⟩:=h
 cases rx
 obtain⟨u,rfl,ru⟩:=rv.one
 cases ru
 obtain⟨z,its,n,r,hl,e⟩:=I.lstM hH
 obtain⟨z2,its2,n2,r2,hl2,e2⟩:=I.lstR hB
 have hsz:its.toArray.size+its2.toArray.size<=sizeLine:=by rw [List.size_toArray,List.size_toArray];omega
 have hlong:¬ (!its.toArray.isEmpty && Builtin.List.listTooLong (its.toArray.size+its2.toArray.size))=true:=by
  rw [zsd hsz,Bool.and_false]
  exact Bool.false_ne_true
 refine call_meets F.slot_list_extend ⟨_,e,rfl⟩ F.entry_list_extend (F.args_list_extend_2 _ _)
  (AutoSeq1.list_extend_list_list_0 l its.toArray n b its2.toArray n2 hlong (by rw [List.size_toArray];omega) (by omega)) ⟨e,e2,?_⟩
 refine⟨.non,_,I.lset (its':=its++its2) hH e (by simp) (r.append r2) ?_,rfl,q⟩
 rw [List.length_append]
 omega
noncomputable def rExtY (K:PySem.W.Frag):V->List V->Hp->VK->Prop:=fun x xs H Q=>rExtendR x xs H Q ∨ rExtendT K x xs H Q
theorem mt_extY:MtR X "list.extend" (rExtY X.K):=MtR.or mt_extendR mt_extendT
end
end L2
namespace L2
open PySem PySem.Spec PyProof.Rows
theorem zip_item {prog:Program}{w:World}{A:Around}{E:Value->Shared->Prop}{s:Shared}{z TI TO i1 i2:Addr}{fp1 fp2:List Addr}{n1 n2 i:Nat}{P1 P2:Nat->Value->Prop}{St1 St2:Nat->Heap->Prop}{a b:Value}{Q:Value->Shared->Prop}
  (D1:Draws prog w A i1 fp1 n1 P1 St1) (D2:Draws prog w A i2 fp2 n2 P2 St2)
  (hz:IsZip s.heap z TI TO .none) (hTI:IsPair s.heap TI (.ref i1) (.ref i2)) (hTO:IsPair s.heap TO a b) (s1:St1 i s.heap) (s2:St2 i s.heap) (l1:i<n1) (l2:i<n2)
  (ap:TI≠z/\TO≠z/\TI≠TO/\TI≠i1/\TI≠i2/\i1≠z/\i2≠z/\i1≠TO/\i2≠TO/\i1≠i2) (f1:z ∉ fp1/\TO ∉ fp1/\i2 ∉ fp1) (f2:z ∉ fp2/\TO ∉ fp2/\i1 ∉ fp2)
  (k:∀ x y h' tk,P1 i x->P2 i y->IsZip h' z TI TO (rawInt s.heap.objs.size)->IsPair h' TO x y->St1 (i+1) h'->St2 (i+1) h'->IsPair h' s.heap.objs.size x y->h'.objs.size=s.heap.objs.size+1 →
   (∀ c o,c≠z->c≠TO->c≠i1->c≠i2->s.heap.get? c=some o->h'.get? c=some o)->Q (.ref s.heap.objs.size) { s with heap:=h',toks:=tk }) :
  wpAny (model prog w) A (Builtin.«zip.__next__» ⟨[.ref z],[]⟩) (fun fin s'=>∃ v,fin=Fin.done (Flow.ret v)/\Q v s') E s:=by
 show wpAny _ _ (field (.ref z) 2 >>= _) _ _ _
 refine wpAny_bind (wpAny_field hz rfl (x:=.bool false) rfl ?_)
 refine wpAny_bind (wpAny_field hz rfl (x:=.ref TI) rfl ?_)
 refine wpAny_bind (wpAny_seqItems hTI rfl ?_)
 show wpAny _ _ (Builtin.SmallTypes.ownedTupleIsFree (.ref z) >>= _) _ _ _
 refine wpAny_bind ?_
 show wpAny _ _ (field (.ref z) 0 >>= _) _ _ _
 refine wpAny_bind (wpAny_field hz rfl (x:=.none) rfl ?_)
 refine wpAny_pure ?_
 show wpAny _ _ (rule _ >>= _) _ _ _
 refine wpAny_bind (wpAny_rule ?_)
 refine wpAny_bind (wpAny_field hz rfl (x:=.ref TO) rfl ?_)
 refine wpAny_bind (wpAny_setField hz rfl (Nat.zero_lt_succ _) ?_)
 have hz1:=Heap.get?_update_self (Obj.mapFields fun x_1=>x_1.setIfInBounds 0 Value.ellipsis) hz rfl
 have b1:=Heap.SameBut.update s.heap z (Obj.mapFields fun x_1=>x_1.setIfInBounds 0 Value.ellipsis)
 generalize s.heap.update z (Obj.mapFields fun x_1=>x_1.setIfInBounds 0 Value.ellipsis)=h1 at hz1 b1 ⊢
 obtain⟨a1,a2,a3,a4,a5,a6,a7,a8,a9,a10⟩:=ap
 refine wpAny_bind ?_
 show wpAny _ _ (forIn [(Value.ref i1,0),(Value.ref i2,1)] ((none:Option PySem.Fin),()) _) _ _ _
 rw [List.forIn_cons]
 refine wpAny_bind (wpAny_bind (wpAny_onRaise ?_))
 show wpAny _ _ (Builtin.SmallTypes.nextOf (.ref i1) >>= _) _ _ _
 refine wpAny_bind (D1.item i _ _ _ l1 (D1.frame i _ _ s1 fun c hc o e=>(b1.2 c fun q=>f1.1 (q ▸ hc)).trans e) fun x h2 t2 px s1' b2=>?_)
 refine wpAny_pure ?_
 have b2':Heap.SameBut i1 h1 h2:=b2
 have hTO2:IsPair h2 TO a b:=((b2'.2 TO (Ne.symm a8)).trans (b1.2 TO a2)).trans hTO
 show wpAny _ _ (seqItems? (.ref TO) >>= _) _ _ _
 refine wpAny_bind (wpAny_seqItems hTO2 rfl ?_)
 refine wpAny_bind (wpAny_updateSeq_pair hTO2 fun h3 hTO3 b3=>?_)
 have b3':Heap.SameBut TO h2 h3:=b3
 refine wpAny_bind (wpAny_letGo (wpAny_pure ?_))
 show wpAny _ _ (forIn [(Value.ref i2,1)] ((none:Option PySem.Fin),()) _) _ _ _
 rw [List.forIn_cons]
 refine wpAny_bind (wpAny_bind (wpAny_onRaise ?_))
 show wpAny _ _ (Builtin.SmallTypes.nextOf (.ref i2) >>= _) _ _ _
 have hTO3':IsPair h3 TO x b:=hTO3
 refine wpAny_bind (D2.item i _ _ _ l2 (D2.frame i _ _ s2 fun c hc o e=>(b3'.2 c fun q=>f2.2.1 (q ▸ hc)).trans ((b2'.2 c fun q=>f2.2.2 (q ▸ hc)).trans ((b1.2 c fun q=>f2.1 (q ▸ hc)).trans e))) fun y h4 t4 py s2' b4=>?_)
 refine wpAny_pure ?_
 have b4':Heap.SameBut i2 h3 h4:=b4
 have hTO4:IsPair h4 TO x b:=(b4'.2 TO (Ne.symm a9)).trans hTO3'
 show wpAny _ _ (seqItems? (.ref TO) >>= _) _ _ _
 refine wpAny_bind (wpAny_seqItems hTO4 rfl ?_)
 refine wpAny_bind (wpAny_updateSeq_pair hTO4 fun h5 hTO5 b5=>?_)
 have b5':Heap.SameBut TO h4 h5:=b5
 refine wpAny_bind (wpAny_letGo (wpAny_pure ?_))
 have hTO5':IsPair h5 TO x y:=hTO5
 show wpAny _ _ (forIn ([]:List (Value×Nat)) ((none:Option PySem.Fin),()) _) _ _ _
 rw [List.forIn_nil]
 refine wpAny_pure ?_
 show wpAny _ _ (seqItems? (.ref TO) >>= _) _ _ _
 refine wpAny_bind (wpAny_seqItems hTO5' rfl ?_)
 refine wpAny_bind (wpAny_newTuple (items:=[x,y]) ?_ (by show 2<=sizeLine;decide))
 have hz5:h5.get? z=_:=(b5'.2 z (Ne.symm a2)).trans ((b4'.2 z (Ne.symm a7)).trans ((b3'.2 z (Ne.symm a2)).trans ((b2'.2 z (Ne.symm a6)).trans hz1)))
 have sz:h5.objs.size=s.heap.objs.size:=b5'.1.trans (b4'.1.trans (b3'.1.trans (b2'.1.trans b1.1)))
 have hz6:=Heap.get?_push_of_some { cls:=.type "tuple",data:=.seq [x,y].toArray } hz5
 have hn6:=Heap.get?_push_size h5 (o:={ cls:=.type "tuple",data:=.seq [x,y].toArray }) rfl
 show wpAny _ _ (Builtin.SmallTypes.ownedTupleHandOut (.ref z) (.ref h5.objs.size) >>= _) _ _ _
 refine wpAny_bind ?_
 show wpAny _ _ (setField (.ref z) 0 (rawInt h5.objs.size) >>= _) _ _ _
 refine wpAny_bind (wpAny_setField hz6 rfl (Nat.zero_lt_succ _) ?_)
 have hz7:=Heap.get?_update_self (Obj.mapFields fun x_1=>x_1.setIfInBounds 0 (rawInt h5.objs.size)) hz6 rfl
 have b7:=Heap.SameBut.update (h5.push { cls:=.type "tuple",data:=.seq [x,y].toArray }) z (Obj.mapFields fun x_1=>x_1.setIfInBounds 0 (rawInt h5.objs.size))
 generalize (h5.push { cls:=.type "tuple",data:=.seq [x,y].toArray }).update z (Obj.mapFields fun x_1=>x_1.setIfInBounds 0 (rawInt h5.objs.size))=h7 at hz7 b7 ⊢
 refine wpAny_setField hz7 rfl (Nat.succ_lt_succ (Nat.zero_lt_succ _)) ?_
 have hz8:=Heap.get?_update_self (Obj.mapFields fun x_1=>x_1.setIfInBounds 1 (Value.bool false)) hz7 rfl
 have b8:=Heap.SameBut.update h7 z (Obj.mapFields fun x_1=>x_1.setIfInBounds 1 (Value.bool false))
 generalize h7.update z (Obj.mapFields fun x_1=>x_1.setIfInBounds 1 (Value.bool false))=h8 at hz8 b8 ⊢
 have zl:z<s.heap.objs.size:=Heap.lt_size hz
 have nz:h5.objs.size≠z:=by rw [sz];exact Nat.ne_of_gt zl
 have all8:∀ c o,c≠z->h5.get? c=some o->h8.get? c=some o:=fun c o n e=>(b8.2 c n).trans ((b7.2 c n).trans (Heap.get?_push_of_some _ e))
 refine wpAny_pure ⟨_,rfl,?_⟩
 have e9:(s.heap.objs.size)=h5.objs.size:=sz.symm
 rw [← e9]
 refine k x y h8 t4 px py ?_ ?_ ?_ ?_ ?_ ?_ ?_
 ·rw [e9];exact hz8
 ·exact all8 TO _ a2 hTO5'
 ·refine D1.frame _ _ _ s1' fun c hc o e=>all8 c o (fun q=>f1.1 (q ▸ hc)) ((b5'.2 c fun q=>f1.2.1 (q ▸ hc)).trans ((b4'.2 c fun q=>f1.2.2 (q ▸ hc)).trans ((b3'.2 c fun q=>f1.2.1 (q ▸ hc)).trans e)))
 ·refine D2.frame _ _ _ s2' fun c hc o e=>all8 c o (fun q=>f2.1 (q ▸ hc)) ((b5'.2 c fun q=>f2.2.1 (q ▸ hc)).trans e)
 ·rw [e9];exact (b8.2 _ nz).trans ((b7.2 _ nz).trans hn6)
 ·rw [b8.1,b7.1,Heap.size_push,e9]
 ·intro c o n1 n2 n3 n4 e
  exact all8 c o n1 ((b5'.2 c n2).trans ((b4'.2 c n4).trans ((b3'.2 c n2).trans ((b2'.2 c n3).trans ((b1.2 c n1).trans e)))))
theorem zip_end {prog:Program}{w:World}{A:Around}{E:Value->Shared->Prop}{s:Shared}{z TI TO i1 i2:Addr}{fp1 fp2:List Addr}{n1 n2 i:Nat}{P1 P2:Nat->Value->Prop}{St1 St2:Nat->Heap->Prop}{a b:Value}{Q:PySem.Fin->Shared->Prop}
  (D1:Draws prog w A i1 fp1 n1 P1 St1) (D2:Draws prog w A i2 fp2 n2 P2 St2)
  (hz:IsZip s.heap z TI TO .none) (hTI:IsPair s.heap TI (.ref i1) (.ref i2)) (hTO:IsPair s.heap TO a b) (s1:St1 i s.heap) (s2:St2 i s.heap) (l:i=n1 ∨ (i<n1/\i=n2))
  (ap:TI≠z/\TO≠z/\TI≠TO/\TI≠i1/\TI≠i2/\i1≠z/\i2≠z/\i1≠TO/\i2≠TO/\i1≠i2) (f1:z ∉ fp1/\TO ∉ fp1/\i2 ∉ fp1) (f2:z ∉ fp2/\TO ∉ fp2/\i1 ∉ fp2)
  (k:∀ h' e tk,(∀ c o,c≠z->c≠TO->c≠i1->c≠i2->s.heap.get? c=some o->h'.get? c=some o)->(∃ o,h'.get? e=some o/\o.cls = .type "StopIteration")->E (.ref e) { s with heap:=h',toks:=tk }) :
  wpAny (model prog w) A (Builtin.«zip.__next__» ⟨[.ref z],[]⟩) Q E s:=by
 show wpAny _ _ (field (.ref z) 2 >>= _) _ _ _
 refine wpAny_bind (wpAny_field hz rfl (x:=.bool false) rfl ?_)
 refine wpAny_bind (wpAny_field hz rfl (x:=.ref TI) rfl ?_)
 refine wpAny_bind (wpAny_seqItems hTI rfl ?_)
 show wpAny _ _ (Builtin.SmallTypes.ownedTupleIsFree (.ref z) >>= _) _ _ _
 refine wpAny_bind ?_
 show wpAny _ _ (field (.ref z) 0 >>= _) _ _ _
 refine wpAny_bind (wpAny_field hz rfl (x:=.none) rfl ?_)
 refine wpAny_pure ?_
 show wpAny _ _ (rule _ >>= _) _ _ _
 refine wpAny_bind (wpAny_rule ?_)
 refine wpAny_bind (wpAny_field hz rfl (x:=.ref TO) rfl ?_)
 refine wpAny_bind (wpAny_setField hz rfl (Nat.zero_lt_succ _) ?_)
 have hz1:=Heap.get?_update_self (Obj.mapFields fun x_1=>x_1.setIfInBounds 0 Value.ellipsis) hz rfl
 have b1:=Heap.SameBut.update s.heap z (Obj.mapFields fun x_1=>x_1.setIfInBounds 0 Value.ellipsis)
 generalize s.heap.update z (Obj.mapFields fun x_1=>x_1.setIfInBounds 0 Value.ellipsis)=h1 at hz1 b1 ⊢
 obtain⟨a1,a2,a3,a4,a5,a6,a7,a8,a9,a10⟩:=ap
 refine wpAny_bind ?_
 show wpAny _ _ (forIn [(Value.ref i1,0),(Value.ref i2,1)] ((none:Option PySem.Fin),()) _) _ _ _
 rw [List.forIn_cons]
 refine wpAny_bind (wpAny_bind (wpAny_onRaise ?_))
 show wpAny _ _ (Builtin.SmallTypes.nextOf (.ref i1) >>= _) _ _ _
 have q1:St1 i h1:=D1.frame i _ _ s1 fun c hc o e=>(b1.2 c fun q=>f1.1 (q ▸ hc)).trans e
 have stop:∀ (hx:Heap) (e:Addr) (tk:Nat) (zo:Obj),hx.get? z=some zo->(∃ vs,zo.data = .fields vs/\0<vs.size)->zo.cls = .type "zip" → (∀ c o,c≠z->c≠TO->c≠i1->c≠i2->s.heap.get? c=some o->hx.get? c=some o)->(∃ o,hx.get? e=some o/\o.cls = .type "StopIteration") →
   wpAny (model prog w) A (setField (.ref z) 0 Value.none) (fun _ s''=>E (.ref e) s'') E { s with heap:=hx,toks:=tk }:=by
  intro hx e tk zo g1 g2 g3 g4 g5
  obtain⟨vs,d,lz⟩:=g2
  refine wpAny_setField g1 d lz ?_
  have b9:=Heap.SameBut.update hx z (Obj.mapFields fun x_1=>x_1.setIfInBounds 0 Value.none)
  obtain⟨o,g6,g7⟩:=g5
  have nez:e≠z:=fun q=>by
   subst q
   rw [g1] at g6;cases g6
   rw [g3] at g7
   exact absurd g7 (by decide +kernel)
  exact k _ e tk (fun c o n1 n2 n3 n4 h=>(b9.2 c n1).trans (g4 c o n1 n2 n3 n4 h)) ⟨o,(b9.2 e nez).trans g6,g7⟩
 rcases l with rfl | ⟨l1,rfl⟩
 ·refine wpAny_bind (D1.done _ _ _ q1 fun h2 e x2 st=>?_)
  exact stop h2 e _ _ (x2 z _ (Ne.symm a6) hz1) ⟨_,rfl,Nat.zero_lt_succ _⟩ rfl (fun c o n1 n2 n3 n4 h=>x2 c o n3 ((b1.2 c n1).trans h)) st
 ·refine wpAny_bind (D1.item i _ _ _ l1 q1 fun x h2 t2 px s1' b2=>?_)
  refine wpAny_pure ?_
  have b2':Heap.SameBut i1 h1 h2:=b2
  have hTO2:IsPair h2 TO a b:=((b2'.2 TO (Ne.symm a8)).trans (b1.2 TO a2)).trans hTO
  show wpAny _ _ (seqItems? (.ref TO) >>= _) _ _ _
  refine wpAny_bind (wpAny_seqItems hTO2 rfl ?_)
  refine wpAny_bind (wpAny_updateSeq_pair hTO2 fun h3 hTO3 b3=>?_)
  have b3':Heap.SameBut TO h2 h3:=b3
  refine wpAny_bind (wpAny_letGo (wpAny_pure ?_))
  show wpAny _ _ (forIn [(Value.ref i2,1)] ((none:Option PySem.Fin),()) _) _ _ _
  rw [List.forIn_cons]
  refine wpAny_bind (wpAny_bind (wpAny_onRaise ?_))
  show wpAny _ _ (Builtin.SmallTypes.nextOf (.ref i2) >>= _) _ _ _
  refine wpAny_bind (D2.done _ _ _ (D2.frame i _ _ s2 fun c hc o e=>(b3'.2 c fun q=>f2.2.1 (q ▸ hc)).trans ((b2'.2 c fun q=>f2.2.2 (q ▸ hc)).trans ((b1.2 c fun q=>f2.1 (q ▸ hc)).trans e))) fun h4 e x4 st=>?_)
  exact stop h4 e _ _ (x4 z _ (Ne.symm a7) ((b3'.2 z (Ne.symm a2)).trans ((b2'.2 z (Ne.symm a6)).trans hz1))) ⟨_,rfl,Nat.zero_lt_succ _⟩ rfl (fun c o n1 n2 n3 n4 h=>x4 c o n4 ((b3'.2 c n2).trans ((b2'.2 c n3).trans ((b1.2 c n1).trans h)))) st
theorem next_zip_item {prog:Program}{w:World}{A:Around}{E:Value->Shared->Prop}{s:Shared}{z TI TO i1 i2:Addr}{fp1 fp2:List Addr}{n1 n2 i:Nat}{P1 P2:Nat->Value->Prop}{St1 St2:Nat->Heap->Prop}{a b:Value}{Q:Option Value->Shared->Prop}
  (D1:Draws prog w A.in1 i1 fp1 n1 P1 St1) (D2:Draws prog w A.in1 i2 fp2 n2 P2 St2)
  (hz:IsZip s.heap z TI TO .none) (hTI:IsPair s.heap TI (.ref i1) (.ref i2)) (hTO:IsPair s.heap TO a b) (s1:St1 i s.heap) (s2:St2 i s.heap) (l1:i<n1) (l2:i<n2)
  (ap:TI≠z/\TO≠z/\TI≠TO/\TI≠i1/\TI≠i2/\i1≠z/\i2≠z/\i1≠TO/\i2≠TO/\i1≠i2) (f1:z ∉ fp1/\TO ∉ fp1/\i2 ∉ fp1) (f2:z ∉ fp2/\TO ∉ fp2/\i1 ∉ fp2)
  (k:∀ x y h' tk,P1 i x->P2 i y->IsZip h' z TI TO (rawInt s.heap.objs.size)->IsPair h' TO x y->St1 (i+1) h'->St2 (i+1) h'->IsPair h' s.heap.objs.size x y->h'.objs.size=s.heap.objs.size+1 →
   (∀ c o,c≠z->c≠TO->c≠i1->c≠i2->s.heap.get? c=some o->h'.get? c=some o)->Q (some (.ref s.heap.objs.size)) { s with heap:=h',toks:=tk }) :
  wpAny (model prog w) A (pyNext (.ref z)) Q E s:=by
 have hT:s.TypeIs (.ref z) "zip" :=⟨_,hz,rfl⟩
 unfold pyNext
 refine wpAny_bind (wpAny_attempt (wpAny_callSpecial?_slot (name:=Str.ofString "__next__") hT F.slot_zip_next (wpAny_call_entry F.slot_zip_next hT F.entry_zip_next ?_ (F.args_zip_next_1 _))))
 refine zip_item D1 D2 hz hTI hTO s1 s2 l1 l2 ap f1 f2 fun x y h' tk c1 c2 c3 c4 c5 c6 c7 c8 c9=>?_
 exact wpAny_pure (k x y h' tk c1 c2 c3 c4 c5 c6 c7 c8 c9)
theorem next_zip_end {prog:Program}{w:World}{A:Around}{E:Value->Shared->Prop}{s:Shared}{z TI TO i1 i2:Addr}{fp1 fp2:List Addr}{n1 n2 i:Nat}{P1 P2:Nat->Value->Prop}{St1 St2:Nat->Heap->Prop}{a b:Value}{Q:Option Value->Shared->Prop}
  (D1:Draws prog w A.in1 i1 fp1 n1 P1 St1) (D2:Draws prog w A.in1 i2 fp2 n2 P2 St2)
  (hz:IsZip s.heap z TI TO .none) (hTI:IsPair s.heap TI (.ref i1) (.ref i2)) (hTO:IsPair s.heap TO a b) (s1:St1 i s.heap) (s2:St2 i s.heap) (l:i=n1 ∨ (i<n1/\i=n2))
  (ap:TI≠z/\TO≠z/\TI≠TO/\TI≠i1/\TI≠i2/\i1≠z/\i2≠z/\i1≠TO/\i2≠TO/\i1≠i2) (f1:z ∉ fp1/\TO ∉ fp1/\i2 ∉ fp1) (f2:z ∉ fp2/\TO ∉ fp2/\i1 ∉ fp2)
  (k:∀ h' tk,(∀ c o,c≠z->c≠TO->c≠i1->c≠i2->s.heap.get? c=some o->h'.get? c=some o)->Q none { s with heap:=h',toks:=tk }) :
  wpAny (model prog w) A (pyNext (.ref z)) Q E s:=by
 have hT:s.TypeIs (.ref z) "zip" :=⟨_,hz,rfl⟩
 unfold pyNext
 refine wpAny_bind (wpAny_attempt (wpAny_callSpecial?_slot (name:=Str.ofString "__next__") hT F.slot_zip_next (wpAny_call_entry F.slot_zip_next hT F.entry_zip_next ?_ (F.args_zip_next_1 _))))
 refine zip_end D1 D2 hz hTI hTO s1 s2 l ap f1 f2 fun h' e tk kk st=>?_
 obtain⟨o,ho,hc⟩:=st
 refine wpAny_bind (wpAny_isInstance (T:="StopIteration") (b:=true) ⟨o,ho,hc⟩ isSubtype_stop ?_)
 exact wpAny_pure (k _ _ kk)
end L2
namespace L2
open PySem PySem.Spec PyProof.Rows
noncomputable def SeqK (kd:Bool) (h:Heap) (l:Addr) (els:Array Value):Prop:=match kd with | true=>h.IsList l els | false=>h.IsTuple l els
noncomputable def IterK (kd:Bool) (h:Heap) (it l:Addr) (k:Nat):Prop:=match kd with | true=>h.IsListIter it l k | false=>h.IsTupleIter it l k
noncomputable def itC (kd:Bool):String:=match kd with | true=>"list_iterator" | false=>"tuple_iterator"
noncomputable abbrev itO (kd:Bool) (l:Addr):Obj:={ cls:=.type (itC kd),data:=.fields #[.ref l,.int 0 0] }
theorem pyIterK {prog:Program}{w:World}{A:Around}{E:Value->Shared->Prop}{s:Shared}{l:Addr}{els:Array Value}{Q:Value->Shared->Prop}(kd:Bool)(h:SeqK kd s.heap l els)(q:Q (.ref s.heap.objs.size) { s with heap:=s.heap.push (itO kd l) }):wpAny (model prog w) A (pyIter (.ref l)) Q E s:=by
 cases kd with
 | true=>exact wpAny_pyIter_list h q
 | false=>exact wpAny_pyIter_tuple h q
theorem SeqK.keep {kd:Bool}{h h':Heap}{l:Addr}{els:Array Value}(x:SeqK kd h l els)(k:∀ o,h.get? l=some o->h'.get? l=some o):SeqK kd h' l els:=by
 cases kd with
 | true=>obtain⟨o,e,r⟩:=x;exact⟨o,k o e,r⟩
 | false=>obtain⟨o,e,r⟩:=x;exact⟨o,k o e,r⟩
theorem SeqK.get {kd:Bool}{h:Heap}{l:Addr}{els:Array Value}(x:SeqK kd h l els):∃ o,h.get? l=some o:=by
 cases kd with
 | true=>obtain⟨o,e,r⟩:=x;exact⟨o,e⟩
 | false=>obtain⟨o,e,r⟩:=x;exact⟨o,e⟩
noncomputable abbrev zK2 (h:Heap) (k1 k2:Bool) (l1 l2:Addr):Heap:=(h.push (itO k1 l1)).push (itO k2 l2)
noncomputable abbrev zK3 (h:Heap) (k1 k2:Bool) (l1 l2:Addr):Heap:=(zK2 h k1 k2 l1 l2).push { cls:=.type "tuple",data:=.seq #[.ref h.objs.size,.ref (h.push (itO k1 l1)).objs.size] }
noncomputable abbrev zK4 (h:Heap) (k1 k2:Bool) (l1 l2:Addr):Heap:=(zK3 h k1 k2 l1 l2).push { cls:=.type "tuple",data:=.seq #[.none,.none] }
noncomputable abbrev zK5 (h:Heap) (k1 k2:Bool) (l1 l2:Addr):Heap:=(zK4 h k1 k2 l1 l2).push { cls:=.type "zip",data:=.fields #[.none,.bool false,.bool false,.ref (zK2 h k1 k2 l1 l2).objs.size,.ref (zK3 h k1 k2 l1 l2).objs.size] }
theorem meets_zipK (k1 k2:Bool)(l1 l2:Addr)(xs ys:Array Value) :
  Meets (Builtin.«zip.__new__» ⟨[.type "zip",.ref l1,.ref l2],[]⟩) (fun _ R s=>SeqK k1 s.heap l1 xs/\SeqK k2 s.heap l2 ys/\R (.ok (.ret (.ref (zK4 s.heap k1 k2 l1 l2).objs.size))) { s with heap:=zK5 s.heap k1 k2 l1 l2 }):=
 .of_wp fun pr ww AA RR sh hyp=>by
  obtain⟨hp,g,d,tk,os⟩:=sh;obtain⟨h1,h2,hyp⟩:=hyp
  have hsubZ:=sub_zip
  have h2':SeqK k2 (hp.push (itO k1 l1)) l2 ys:=h2.keep fun o e=>Heap.get?_push_of_some _ e
  wp_walk using pyIterK k1 h1,pyIterK k2 h2'
  exact⟨_,rfl,hyp⟩
theorem call_zipK {prog:Program}{w:World}{A:Around}{E:Value->Shared->Prop}{s:Shared}{k1 k2:Bool}{l1 l2:Addr}{xs ys:Array Value}{Q:Value->Shared->Prop}(h1:SeqK k1 s.heap l1 xs)(h2:SeqK k2 s.heap l2 ys)
  (kk:∀ h',IsZip h' (s.heap.objs.size+4) (s.heap.objs.size+2) (s.heap.objs.size+3) .none->IsPair h' (s.heap.objs.size+2) (.ref s.heap.objs.size) (.ref (s.heap.objs.size+1))->IsPair h' (s.heap.objs.size+3) .none .none →
   IterK k1 h' s.heap.objs.size l1 0->IterK k2 h' (s.heap.objs.size+1) l2 0->h'.objs.size=s.heap.objs.size+5->(∀ c o,s.heap.get? c=some o->h'.get? c=some o)->Q (.ref (s.heap.objs.size+4)) { s with heap:=h' }) :
  wpAny (model prog w) A (call (.type "zip") [.ref l1,.ref l2]) Q E s:=by
 refine callType_new F.called_zip (by decide) (F.typeCall_zip_2 _ _) (F.newCall_zip_2 _ _) (fun obj=>F.args_object_init_3 obj _ _) F.entry_zip_new (meets_zipK k1 k2 l1 l2 xs ys) ⟨h1,h2,?_⟩
 have z1:(s.heap.push (itO k1 l1)).objs.size=s.heap.objs.size+1:=Heap.size_push ..
 have z2:(zK2 s.heap k1 k2 l1 l2).objs.size=s.heap.objs.size+2:=by rw [zK2,Heap.size_push,z1]
 have z3:(zK3 s.heap k1 k2 l1 l2).objs.size=s.heap.objs.size+3:=by rw [zK3,Heap.size_push,z2]
 have z4:(zK4 s.heap k1 k2 l1 l2).objs.size=s.heap.objs.size+4:=by rw [zK4,Heap.size_push,z3]
 have g0:(s.heap.push (itO k1 l1)).get? s.heap.objs.size=some (itO k1 l1):=Heap.get?_push_size _ rfl
 have g1:(zK2 s.heap k1 k2 l1 l2).get? (s.heap.objs.size+1)=some (itO k2 l2):=by have:=Heap.get?_push_size (s.heap.push (itO k1 l1)) (o:=itO k2 l2) rfl;rw [z1] at this;exact this
 have g2:=Heap.get?_push_size (zK2 s.heap k1 k2 l1 l2) (o:={ cls:=.type "tuple",data:=.seq #[.ref s.heap.objs.size,.ref (s.heap.push (itO k1 l1)).objs.size] }) rfl
 have g3:=Heap.get?_push_size (zK3 s.heap k1 k2 l1 l2) (o:={ cls:=.type "tuple",data:=.seq #[.none,.none] }) rfl
 have g4:=Heap.get?_push_size (zK4 s.heap k1 k2 l1 l2) (o:={ cls:=.type "zip",data:=.fields #[.none,.bool false,.bool false,.ref (zK2 s.heap k1 k2 l1 l2).objs.size,.ref (zK3 s.heap k1 k2 l1 l2).objs.size] }) rfl
 rw [z2,z1] at g2
 rw [z3] at g3
 rw [z4,z2,z3] at g4
 have up:∀ c o,(zK2 s.heap k1 k2 l1 l2).get? c=some o->(zK5 s.heap k1 k2 l1 l2).get? c=some o:=fun c o e=>Heap.get?_push_of_some _ (Heap.get?_push_of_some _ (Heap.get?_push_of_some _ e))
 have it:∀ (kd:Bool) (h:Heap) (a l:Addr),h.get? a=some (itO kd l)->IterK kd h a l 0:=fun kd h a l e=>by
  cases kd
  ·exact⟨_,e,rfl,rfl⟩
  ·exact⟨_,e,rfl,rfl⟩
 show _/\_
 rw [z4]
 have e5:(zK5 s.heap k1 k2 l1 l2).get? (s.heap.objs.size+4)=some { cls:=.type "zip",data:=.fields #[.none,.bool false,.bool false,.ref (s.heap.objs.size+2),.ref (s.heap.objs.size+3)] }:=by
  show (Heap.push _ _).get? _=_
  rw [z2,z3]
  exact g4
 refine⟨⟨_,e5,rfl⟩,kk _ e5 ?_ ?_ (it _ _ _ _ (up _ _ (Heap.get?_push_of_some _ g0))) (it _ _ _ _ (up _ _ g1)) ?_ fun c o e=>up c o (Heap.get?_push_of_some _ (Heap.get?_push_of_some _ e))⟩
 ·refine Heap.get?_push_of_some _ (Heap.get?_push_of_some _ ?_)
  show (Heap.push _ _).get? _=_
  rw [z1]
  exact g2
 ·exact Heap.get?_push_of_some _ g3
 ·rw [zK5,Heap.size_push,z4]
theorem drawsK {prog:Program}{w:World}{A:Around}(hh:A.handled=none)(kd:Bool)(it l:Addr)(ne:l≠it)(els:Array Value):Draws prog w A it [it,l] els.size (fun k v=>els[k]?=some v) (fun k h=>IterK kd h it l k/\SeqK kd h l els):=by
 cases kd with
 | true=>exact Draws.list hh it l ne els
 | false=>exact draws_tuple hh it l ne els
theorem drawsE {prog:Program}{w:World}{A:Around}(hh:A.handled=none)(kd:Bool)(it l:Addr)(els:Array Value)(i:Nat)(hi:els[i]?=none):Draws prog w A it [it,l] i (fun k v=>els[k]?=some v) (fun k h=>k=i/\IterK kd h it l k/\SeqK kd h l els) where
 live:=fun k h st=>by
  obtain⟨_,st,_⟩:=st
  cases kd
  ·obtain⟨o,e,_⟩:=st;exact⟨o,e⟩
  ·obtain⟨o,e,_⟩:=st;exact⟨o,e⟩
 frame:=fun k h h' st hk=>by
  obtain⟨e,st,sq⟩:=st
  refine⟨e,?_,sq.keep fun o e=>hk l (by simp) o e⟩
  cases kd
  ·obtain⟨o,e,r⟩:=st;exact⟨o,hk it (by simp) o e,r⟩
  ·obtain⟨o,e,r⟩:=st;exact⟨o,hk it (by simp) o e,r⟩
 item:=fun k s Q E hlt st _=>by
  have:=st.1
  omega
 done:=fun s Q E st kk=>by
  obtain⟨_,st,sq⟩:=st
  cases kd with
  | true=>exact wpAny_nextOf_list_end hh st sq hi kk
  | false=>exact nx_tuple_end hh st sq hi kk
end L2
namespace L2
open PySem PySem.Spec PyProof.Rows
noncomputable def SqK (K:PySem.W.Frag) (H:Hp) (kd:Bool) (a:Addr) (xs:List V):Prop:=match kd with | true=>SqL K H a xs | false=>SqT K H a xs
theorem Inv.seqK {X:Cx}{pins:List (Addr×Obj)}{σ:St}{H:Hp}{s:Shared}{kd:Bool}{a:Addr}{xs:List V}(I:Inv X pins σ H s)(h:SqK X.K H kd a xs):∃ its:List Value,Vals xs its/\SeqK kd s.heap a its.toArray:=by
 cases kd with
 | true=>
  obtain⟨its,rv,p,_⟩:=I.list h
  obtain⟨o,n,h1,h2,h3,h4⟩:=p
  exact⟨its,rv,o,h1,h2,n,h4⟩
 | false=>
  obtain⟨its,rv,p,_⟩:=I.tuple h
  exact⟨its,rv,p⟩
theorem Inv.seqK_inj {X:Cx}{pins:List (Addr×Obj)}{σ:St}{H:Hp}{s:Shared}{kd:Bool}{a:Addr}{xs ys:List V}(I:Inv X pins σ H s)(h:SqK X.K H kd a xs)(h':SqK X.K H kd a ys):xs=ys:=by
 cases kd with
 | true=>exact I.list_inj h h'
 | false=>exact I.tuple_inj h h'
noncomputable def Itz (K:PySem.W.Frag) (k1 k2:Bool) (a1 a2:Addr):It:=
 ⟨fun i H=>∃ xs ys x y,SqK K H k1 a1 xs/\SqK K H k2 a2 ys/\xs[i]?=some x/\ys[i]?=some y,
   fun i H v H'=>∃ p x y,H p=none/\v = .ref p/\H'=upd H p (.tup [x,y])/\(∀ xs,SqK K H k1 a1 xs->xs[i]?=some x)/\∀ ys,SqK K H k2 a2 ys->ys[i]?=some y,
   fun i H=>∃ xs ys,SqK K H k1 a1 xs/\SqK K H k2 a2 ys/\(xs.length<=i ∨ ys.length<=i)⟩
theorem Inv.turnedL {X:Cx}{pins:List (Addr×Obj)}{σ:St}{H:Hp}{s:Shared}{h':Heap}{t':Nat}{fs:List Addr}(I:Inv X pins σ H s)(k:∀ b o,b ∉ fs->s.heap.get? b=some o->h'.get? b=some o)(f:∀ b∈fs,FpOk X pins H b):Inv X pins σ H { s with heap:=h',toks:=t' }:=by
 have nit:∀ b u,H b=some u->b ∉ fs:=fun b u e z=>by rw [(f b z).1] at e;cases e
 have nl:X.env.locals ∉ fs:=fun z=>(f _ z).2.1 rfl
 refine I.step (g':=s.gens) (d':=s.drawn) (ch:=fs) (fun b hb=>?_) (fun b o _ _ hc e _=>k b o hc e) (fun b o _ _ hc e _=>⟨o.slots,k b o hc e⟩) (fun _ _ _ _ n=>n)
  (fun b o hc e=>⟨o,k b o hc e⟩) (fun _ _ e=>e) (fun _ _ _ e=>e) (fun b ps e=>⟨#[],by rw [e];simp⟩) (fun m hm=>?_) (fun b u e=>?_) I.bare
 ·obtain⟨_,hL,_,h1,h2,h3⟩:=f b hb
  exact⟨h1,hL,h2,h3⟩
 ·obtain⟨o,es,ep,ho,r⟩:=hm
  exact⟨o,es,ep,k _ o nl ho,r⟩
 ·refine (I.hok b u e).stay (fun c v hc q=>k c v ?_ q) (fun _ q=>q) fun _ _ q=>q
  rcases hc with z | z
  ·rw [z];exact nit b u e
  ·exact nit c _ z
theorem IterK.get {kd:Bool}{h:Heap}{it l:Addr}{k:Nat}(x:IterK kd h it l k):∃ o,h.get? it=some o/\∀ v,o.data ≠ .cell v:=by
 cases kd with
 | true=>obtain⟨o,e,c,d⟩:=x;exact⟨o,e,fun v z=>by rw [d] at z;cases z⟩
 | false=>obtain⟨o,e,c,d⟩:=x;exact⟨o,e,fun v z=>by rw [d] at z;cases z⟩
theorem IterK.keep {kd:Bool}{h h':Heap}{it l:Addr}{k:Nat}(x:IterK kd h it l k)(kp:∀ o,h.get? it=some o->h'.get? it=some o):IterK kd h' it l k:=by
 cases kd with
 | true=>obtain⟨o,e,r⟩:=x;exact⟨o,kp o e,r⟩
 | false=>obtain⟨o,e,r⟩:=x;exact⟨o,kp o e,r⟩
structure ZAp (z TI TO i1 i2 l1 l2:Addr):Prop where
 ap:TI≠z/\TO≠z/\TI≠TO/\TI≠i1/\TI≠i2/\i1≠z/\i2≠z/\i1≠TO/\i2≠TO/\i1≠i2
 f1:z ∉ [i1,l1]/\TO ∉ [i1,l1]/\i2 ∉ [i1,l1]
 f2:z ∉ [i2,l2]/\TO ∉ [i2,l2]/\i1 ∉ [i2,l2]
 n1:l1≠i1
 n2:l2≠i2
theorem turn_zip {P:Program}{w:World}{K:PySem.W.Frag}{elts:List Expr}{k0:Nat}{pos:Pos}(k1 k2:Bool){z TI TO i1 i2 l1 l2:Addr}(A:ZAp z TI TO i1 i2 l1 l2) :
  Turn P w K (.Tuple elts k0 pos) (Itz K k1 k2 l1 l2) [z,TI,TO,i1,i2] z (fun i h=>IsZip h z TI TO .none/\IsPair h TI (.ref i1) (.ref i2)/\(∃ a b,IsPair h TO a b)/\IterK k1 h i1 l1 i/\IterK k2 h i2 l2 i) where
 mem:=by simp
 obj:=fun i h st b hb=>by
  obtain⟨s1,s2,⟨a,c,s3⟩,s4,s5⟩:=st
  simp only [List.mem_cons,List.not_mem_nil,or_false] at hb
  rcases hb with rfl | rfl | rfl | rfl | rfl
  ·exact⟨_,s1,fun v z=>by cases z⟩
  ·exact⟨_,s2,fun v z=>by cases z⟩
  ·exact⟨_,s3,fun v z=>by cases z⟩
  ·exact s4.get
  ·exact s5.get
 keep:=fun i h h' st k=>by
  obtain⟨s1,s2,⟨a,c,s3⟩,s4,s5⟩:=st
  exact⟨k z (by simp) _ s1,k TI (by simp) _ s2,⟨a,c,k TO (by simp) _ s3⟩,s4.keep fun o e=>k i1 (by simp) o e,s5.keep fun o e=>k i2 (by simp) o e⟩
 item:=by
  intro X hP hw hK hc i pins s σ H E I hf st hg
  subst hP hw hK
  obtain⟨xs,ys,x,y,hq1,hq2,hx,hy⟩:=hg
  obtain⟨its1,rv1,p1⟩:=I.seqK hq1
  obtain⟨its2,rv2,p2⟩:=I.seqK hq2
  obtain⟨u1,hu1,ru1⟩:=rv1.get hx
  obtain⟨u2,hu2,ru2⟩:=rv2.get hy
  obtain⟨s1,s2,⟨a,c,s3⟩,s4,s5⟩:=st
  have hn1:i<its1.toArray.size:=by rw [List.size_toArray];exact (List.getElem?_eq_some_iff.mp hu1).1
  have hn2:i<its2.toArray.size:=by rw [List.size_toArray];exact (List.getElem?_eq_some_iff.mp hu2).1
  have hh:X.A.in1.handled=none:=I.ok.hd hc
  refine next_zip_item (drawsK (A:=X.A.in1) hh k1 i1 l1 A.n1 its1.toArray) (drawsK (A:=X.A.in1) hh k2 i2 l2 A.n2 its2.toArray) s1 s2 s3 ⟨s4,p1⟩ ⟨s5,p2⟩ hn1 hn2 A.ap A.f1 A.f2 fun x' y' h1 tk px py hz1 hTO1 st1 st2 hpr hsz kk=>?_
  have ex:x'=u1:=by
   have e1:its1.toArray[i]?=some x':=px
   have e2:its1.toArray[i]?=some u1:=by simpa using hu1
   rw [e1] at e2
   exact Option.some.inj e2
  have ey:y'=u2:=by
   have e1:its2.toArray[i]?=some y':=py
   have e2:its2.toArray[i]?=some u2:=by simpa using hu2
   rw [e1] at e2
   exact Option.some.inj e2
  subst ex ey
  refine⟨_,rfl,wpAny_letOwnedTupleGo_zip hz1 fun h2 hz2 sb=>?_⟩
  have sb':Heap.SameBut z h1 h2:=sb
  have hzl:z<s.heap.objs.size:=Heap.lt_size s1
  obtain⟨a1,a2,a3,a4,a5,a6,a7,a8,a9,a10⟩:=A.ap
  have k2':∀ b o,b ∉ [z,TO,i1,i2]->s.heap.get? b=some o->h2.get? b=some o:=fun b o n q=>by
   simp only [List.mem_cons,List.not_mem_nil,or_false,not_or] at n
   exact (sb'.2 b n.1).trans (kk b o n.1 n.2.1 n.2.2.1 n.2.2.2 q)
  have I1:Inv X pins σ H { s with heap:=h2,toks:=tk }:=I.turnedL k2' fun b hb=>hf b (by
   simp only [List.mem_cons,List.not_mem_nil,or_false] at hb ⊢
   rcases hb with h | h | h | h<;>simp [h])
  have fz:FpOk X pins H s.heap.objs.size:=I.fpOk (Nat.le_refl _) (I.hok.fresh (Nat.le_refl _))
  have hT2:h2.get? s.heap.objs.size=some { cls:=.type "tuple",data:=.seq #[x',y'] }:=(sb'.2 _ (Nat.ne_of_gt hzl)).trans hpr
  have I2:Inv X pins σ (upd H s.heap.objs.size (.tup [x,y])) { s with heap:=h2,toks:=tk }:=I1.track fz (.inr I.sz) I.sz ⟨by show 2<=sizeLine;decide,[x',y'],.cons ru1 (.cons ru2 .nil),⟨_,hT2,rfl,_,rfl⟩⟩
  refine⟨.ref s.heap.objs.size,_,I2,rfl,⟨_,x,y,fz.1,rfl,rfl,fun ys' hy'=>by rw [I.seqK_inj hy' hq1];exact hx,fun ys' hy'=>by rw [I.seqK_inj hy' hq2];exact hy⟩,⟨hz2,?_,⟨_,_,(sb'.2 TO a2).trans hTO1⟩,st1.1.keep fun o e=>(sb'.2 i1 a6).trans e,st2.1.keep fun o e=>(sb'.2 i2 a7).trans e⟩,fun b hb=>?_⟩
  ·exact (sb'.2 TI a1).trans (kk TI _ a1 a3 a4 a5 s2)
  ·have hbo:∃ o,s.heap.get? b=some o:=by
    simp only [List.mem_cons,List.not_mem_nil,or_false] at hb
    rcases hb with rfl | rfl | rfl | rfl | rfl
    ·exact⟨_,s1⟩
    ·exact⟨_,s2⟩
    ·exact⟨_,s3⟩
    ·obtain⟨o,e,_⟩:=s4.get;exact⟨o,e⟩
    ·obtain⟨o,e,_⟩:=s5.get;exact⟨o,e⟩
   obtain⟨o,q⟩:=hbo
   rw [upd_ne (Nat.ne_of_lt (Heap.lt_size q))]
   exact (hf b hb).1
 done:=by
  intro X hP hw hK hc i pins s σ H E I hf st hg
  subst hP hw hK
  obtain⟨xs,ys,hq1,hq2,hl⟩:=hg
  obtain⟨its1,rv1,p1⟩:=I.seqK hq1
  obtain⟨its2,rv2,p2⟩:=I.seqK hq2
  obtain⟨s1,s2,⟨a,c,s3⟩,s4,s5⟩:=st
  have hh:X.A.in1.handled=none:=I.ok.hd hc
  have fin:∀ h' tk,(∀ c o,c≠z->c≠TO->c≠i1->c≠i2->s.heap.get? c=some o->h'.get? c=some o)->(none:Option Value)=none/\Inv X pins σ H { s with heap:=h',toks:=tk }:=fun h' tk kk=>
   ⟨rfl,I.turnedL (fs:=[z,TO,i1,i2]) (fun b o n q=>by
    simp only [List.mem_cons,List.not_mem_nil,or_false,not_or] at n
    exact kk b o n.1 n.2.1 n.2.2.1 n.2.2.2 q) fun b hb=>hf b (by
    simp only [List.mem_cons,List.not_mem_nil,or_false] at hb ⊢
    rcases hb with h | h | h | h<;>simp [h])⟩
  have l1':=rv1.length
  have l2':=rv2.length
  by_cases h1:xs.length<=i
  ·have e1:its1.toArray[i]?=none:=by simp;omega
   exact next_zip_end (drawsE (A:=X.A.in1) hh k1 i1 l1 its1.toArray i e1) (drawsK (A:=X.A.in1) hh k2 i2 l2 A.n2 its2.toArray) s1 s2 s3 ⟨rfl,s4,p1⟩ ⟨s5,p2⟩ (.inl rfl) A.ap A.f1 A.f2 fin
  ·have h2:ys.length<=i:=by omega
   have e2:its2.toArray[i]?=none:=by simp;omega
   have hn1:i<its1.toArray.size:=by rw [List.size_toArray];omega
   exact next_zip_end (drawsK (A:=X.A.in1) hh k1 i1 l1 A.n1 its1.toArray) (drawsE (A:=X.A.in1) hh k2 i2 l2 its2.toArray i e2) s1 s2 s3 ⟨s4,p1⟩ ⟨rfl,s5,p2⟩ (.inr ⟨hn1,rfl⟩) A.ap A.f1 A.f2 fin
 self:=fun _ _ _ _ _ st h=>wpAny_pyIter_zip st.1 h
noncomputable def iZip (K:PySem.W.Frag) (ta:TA):TI:=fun σ H R=>ta σ H fun vs H1=>∃ k1 k2 a1 a2 xs ys,vs = [.ref a1,.ref a2]/\SqK K H1 k1 a1 xs/\SqK K H1 k2 a2 ys/\R (Itz K k1 k2 a1 a2) H1
theorem pi_zip {X:Cx}{a b:Expr}{ta:TA}{elts:List Expr}{k0:Nat}{p pos pt:Pos}(hg:Gl X "zip")(hm:X.mg "zip" = none)(ha:PA X [a,b] ta)(hn:zqa [a,b]=true):PI X (.Tuple elts k0 pt) (.Call (.Name "zip" p) [a,b] [] pos) (iZip X.K ta):=by
 intro pins s σ H R I h
 have hs1:zfc a=false:=by
  cases q:zfc a with
  | true=>rw [zqa,q] at hn;cases hn
  | false=>rfl
 have hs2:zfc b=false:=by
  cases q:zfc b with
  | true=>rw [zqa,hs1,zqa,q] at hn;cases hn
  | false=>rfl
 refine Call_ (ld_blt I hg hm boot_zip (PyProof.Rows.callWith_type1 (thn (ha pos pins s σ H _ I h) fun us s1 ⟨vs,H1,I1,r1,q1⟩=>?_) (zsa hs1) (by rw [zsa hs2];rfl)))
 obtain⟨k1,k2,l1,l2,xs,ys,e,hq1,hq2,q⟩:=q1
 subst e
 obtain⟨u,u',rfl,ru,ru'⟩:=vals2 r1
 cases ru
 cases ru'
 obtain⟨its1,rv1,p1⟩:=I1.seqK hq1
 obtain⟨its2,rv2,p2⟩:=I1.seqK hq2
 have n1:l1<s1.heap.objs.size:=by obtain⟨o,e⟩:=p1.get;exact Heap.lt_size e
 have n2:l2<s1.heap.objs.size:=by obtain⟨o,e⟩:=p2.get;exact Heap.lt_size e
 refine call_zipK p1 p2 fun h1 hz hTI hTO it1 it2 hsz kk=>?_
 refine wpAny_pyIter_zip hz ?_
 have m1:∀ c:Nat,s1.heap.objs.size+c≠l1:=fun c=>Nat.ne_of_gt (Nat.lt_of_lt_of_le n1 (Nat.le_add_right _ c))
 have m2:∀ c:Nat,s1.heap.objs.size+c≠l2:=fun c=>Nat.ne_of_gt (Nat.lt_of_lt_of_le n2 (Nat.le_add_right _ c))
 have N:∀ {c d:Nat},c≠d->s1.heap.objs.size+c≠s1.heap.objs.size+d:=fun h z=>h (Nat.add_left_cancel z)
 refine⟨s1.heap.objs.size+4,[s1.heap.objs.size+4,s1.heap.objs.size+2,s1.heap.objs.size+3,s1.heap.objs.size,s1.heap.objs.size+1],_,_,H1,rfl,I1.kept (t':=s1.toks) fun b o e=>kk b o e,turn_zip k1 k2 ⟨?_,?_,?_,?_,?_⟩,⟨hz,hTI,⟨_,_,hTO⟩,it1,it2⟩,fun b hb=>?_,q⟩
 ·refine⟨?_,?_,?_,?_,?_,?_,?_,?_,?_,?_⟩<;>first | exact m1 _ | exact m2 _ | exact m1 0 | exact m2 0 | exact Nat.ne_of_lt n1 | exact Nat.ne_of_lt n2 | exact fun z=>absurd (show (_:Nat)=_ from z) (by omega)
 ·simp only [List.mem_cons,List.not_mem_nil,or_false,not_or]
  refine⟨⟨?_,?_⟩,⟨?_,?_⟩,?_,?_⟩<;>first | exact m1 _ | exact m2 _ | exact m1 0 | exact m2 0 | exact Nat.ne_of_lt n1 | exact Nat.ne_of_lt n2 | exact fun z=>absurd (show (_:Nat)=_ from z) (by omega)
 ·simp only [List.mem_cons,List.not_mem_nil,or_false,not_or]
  refine⟨⟨?_,?_⟩,⟨?_,?_⟩,?_,?_⟩<;>first | exact m1 _ | exact m2 _ | exact m1 0 | exact m2 0 | exact Nat.ne_of_lt n1 | exact Nat.ne_of_lt n2 | exact fun z=>absurd (show (_:Nat)=_ from z) (by omega)
 ·first | exact m1 _ | exact m2 _ | exact m1 0 | exact m2 0 | exact Nat.ne_of_lt n1 | exact Nat.ne_of_lt n2 | exact fun z=>absurd (show (_:Nat)=_ from z) (by omega)
 ·first | exact Ne.symm (m2 1) | exact m1 _ | exact m2 _ | exact m1 0 | exact m2 0 | exact Nat.ne_of_lt n1 | exact Nat.ne_of_lt n2 | exact fun z=>absurd (show (_:Nat)=_ from z) (by omega)
 ·have hb':s1.heap.objs.size<=b:=by
   simp only [List.mem_cons,List.not_mem_nil,or_false] at hb
   rcases hb with rfl | rfl | rfl | rfl | rfl<;>first | exact Nat.le_refl _ | exact Nat.le_add_right _ _
  exact I1.fpOk hb' (I1.hok.fresh hb')
end L2
namespace L2
open PySem PySem.Spec PyProof.Rows
inductive I where
 | non | bl (b:Bool) | int (i:Int) | str (x:Str) | tup (is:List I)
mutual
def I.beq:I->I->Bool
 | .non,.non=>true
 | .bl a,.bl b=>a == b
 | .int a,.int b=>decide (a=b)
 | .str a,.str b=>decide (a=b)
 | .tup a,.tup b=>I.beqs a b
 | _,_=>false
def I.beqs:List I->List I->Bool
 | [],[]=>true
 | a::as,b::bs=>I.beq a b && I.beqs as bs
 | _,_=>false
end
mutual
theorem I.beq_iff:∀ {a b:I},I.beq a b=true↔a=b
 | .non,b=>by cases b<;>simp [I.beq]
 | .bl x,b=>by cases b<;>simp [I.beq]
 | .int x,b=>by cases b<;>simp [I.beq]
 | .str x,b=>by cases b<;>simp [I.beq]
 | .tup x,b=>by
  cases b with
  | tup y=>rw [I.beq,I.beqs_iff,I.tup.injEq]
  | _=>simp [I.beq]
theorem I.beqs_iff:∀ {a b:List I},I.beqs a b=true↔a=b
 | [],b=>by cases b<;>simp [I.beqs]
 | x::xs,b=>by
  cases b with
  | nil=>simp [I.beqs]
  | cons y ys=>rw [I.beqs,Bool.and_eq_true,I.beq_iff,I.beqs_iff,List.cons.injEq]
end
instance:DecidableEq I:=fun a b=>decidable_of_iff (I.beq a b=true) I.beq_iff
inductive T where
 | im (i:I) | tup (ts:List T) | li (is:List I) | lst (ts:List T) | di (kvs:List (I×I)) | dc (kvs:List (I×T)) | ins (C:Addr) (fs:List (Str×T))
noncomputable def keyV:Key->I
 | .inl i=>.int i
 | .inr x=>.str x
noncomputable def DAt (K:PySem.W.Frag) (H:Hp) (a:Addr) (ks:List (I×V)):Prop:=∃ ys:List (Key×V),H a=some (.dK ys)/\ks=ys.map fun p=>(keyV p.1,p.2)
mutual
noncomputable def RpI (K:PySem.W.Frag) (H:Hp):I->V->Prop
 | .non,v=>v = .non
 | .bl b,v=>v = .bl b
 | .int i,v=>v = .int i
 | .str x,v=>v = .str x
 | .tup is,v=>∃ a xs,v = .ref a/\SqT K H a xs/\RpIs K H is xs
noncomputable def RpIs (K:PySem.W.Frag) (H:Hp):List I->List V->Prop
 | [],xs=>xs = []
 | t::ts,xs=>∃ x r,xs=x::r/\RpI K H t x/\RpIs K H ts r
end
mutual
noncomputable def Rp (K:PySem.W.Frag) (H:Hp):T->V->List Addr->Prop
 | .im i,v,F=>RpI K H i v/\F = []
 | .tup ts,v,F=>∃ a xs,v = .ref a/\SqT K H a xs/\Rps K H ts xs F
 | .li is,v,F=>∃ a xs,v = .ref a/\Rd H a (.lst xs)/\RpIs K H is xs/\F = [a]
 | .lst ts,v,F=>∃ a xs F',v = .ref a/\Rd H a (.lst xs)/\Rps K H ts xs F'/\F=a::F'
 | .di kvs,v,F=>∃ a ys,v = .ref a/\DAt K H a ys/\RpIs K H (kvs.map (·.2)) (ys.map (·.2))/\ys.map (·.1)=kvs.map (·.1)/\F = [a]
 | .dc kvs,v,F=>∃ a ys F',v = .ref a/\DAt K H a ys/\Rpk K H kvs ys F'/\F=a::F'
 | .ins C fs,v,F=>∃ a dx ys F',v = .ref a/\H a=some (.ins C dx ys)/\Rpf K H fs ys F'/\F=a::F'
noncomputable def Rps (K:PySem.W.Frag) (H:Hp):List T->List V->List Addr->Prop
 | [],xs,F=>xs = []/\F = []
 | t::ts,xs,F=>∃ x r F1 F2,xs=x::r/\Rp K H t x F1/\Rps K H ts r F2/\F=F1++F2
noncomputable def Rpk (K:PySem.W.Frag) (H:Hp):List (I×T)->List (I×V)->List Addr->Prop
 | [],xs,F=>xs = []/\F = []
 | (k,t)::ts,xs,F=>∃ x r F1 F2,xs=(k,x)::r/\Rp K H t x F1/\Rpk K H ts r F2/\F=F1++F2
noncomputable def Rpf (K:PySem.W.Frag) (H:Hp):List (Str×T)->List (Str×V)->List Addr->Prop
 | [],xs,F=>xs = []/\F = []
 | (k,t)::ts,xs,F=>∃ x r F1 F2,xs=(k,x)::r/\Rp K H t x F1/\Rpf K H ts r F2/\F=F1++F2
end
noncomputable def isMu:HO->Bool
 | .lst _=>true | .dK _=>true | .dT _=>true | .ins _ _ _=>true | .ext _=>true | _=>false
noncomputable def Mu (H:Hp) (a:Addr):Prop:=∃ o,H a=some o/\isMu o=true
noncomputable def OffM (M:List Addr) (H H':Hp):Prop:=∀ b o,H b=some o->b ∉ M->H' b=some o
theorem Same.offM {H H':Hp}(s:Same H H')(M:List Addr):OffM M H H':=fun b o h _=>s b o h
theorem OffM.refl (M:List Addr)(H:Hp):OffM M H H:=fun b o h _=>h
theorem OffM.mono {M M':List Addr}{H H1:Hp}(x:OffM M H H1)(y:∀ a∈M,a∈M'):OffM M' H H1:=fun b o h n=>x b o h fun z=>n (y b z)
theorem OffM.upd {H:Hp}{a:Addr}{o:HO}:OffM [a] H (upd H a o):=fun b u h n=>by rw [upd_ne (by simpa using n)];exact h
theorem OffM.rd {M:List Addr}{H H':Hp}{a:Addr}{o:HO}(x:OffM M H H')(n:a ∉ M)(h:Rd H a o):Rd H' a o:=by
 rcases h with h | ⟨u,h⟩
 ·exact .inl (x a _ h n)
 ·exact .inr ⟨u,x a _ h n⟩
theorem OffM.sqT {K:PySem.W.Frag}{M:List Addr}{H H':Hp}{a:Addr}{xs:List V}(x:OffM M H H')(hM:∀ b∈M,Mu H b)(h:SqT K H a xs):SqT K H' a xs:=by
 rcases h with (h | ⟨u,h⟩) | h
 ·exact .inl (.inl (x a _ h fun z=>by obtain⟨o,e,m⟩:=hM a z;rw [h] at e;cases e;cases m))
 ·exact .inl (.inr ⟨u,x a _ h fun z=>by obtain⟨o,e,m⟩:=hM a z;rw [h] at e;cases e;cases m⟩)
 ·exact .inr h
theorem DAt.off {K:PySem.W.Frag}{M:List Addr}{H H':Hp}{a:Addr}{ks:List (I×V)}(x:OffM M H H')(n:a ∉ M)(h:DAt K H a ks):DAt K H' a ks:=by
 obtain⟨ys,h1,h2⟩:=h
 exact⟨ys,x a _ h1 n,h2⟩
theorem DAt.dom {K:PySem.W.Frag}{H:Hp}{a:Addr}{ks:List (I×V)}(h:DAt K H a ks):∃ o,H a=some o:=by
 obtain⟨ys,h1,h2⟩:=h
 exact⟨_,h1⟩
theorem Rd.dom {H:Hp}{a:Addr}{u:HO}(h:Rd H a u):∃ o,H a=some o:=by
 rcases h with h | ⟨o,h⟩
 ·exact⟨_,h⟩
 ·exact⟨_,h⟩
mutual
theorem RpI.off {K:PySem.W.Frag}{M:List Addr}{H H':Hp}(x:OffM M H H')(hM:∀ b∈M,Mu H b):∀ {t:I} {v:V},RpI K H t v->RpI K H' t v
 | .non,_,h=>by rw [RpI] at h ⊢;exact h
 | .bl _,_,h=>by rw [RpI] at h ⊢;exact h
 | .int _,_,h=>by rw [RpI] at h ⊢;exact h
 | .str _,_,h=>by rw [RpI] at h ⊢;exact h
 | .tup ts,_,h=>by rw [RpI] at h ⊢;obtain⟨a,xs,h1,h2,h3⟩:=h;exact⟨a,xs,h1,x.sqT hM h2,RpIs.off x hM h3⟩
theorem RpIs.off {K:PySem.W.Frag}{M:List Addr}{H H':Hp}(x:OffM M H H')(hM:∀ b∈M,Mu H b):∀ {ts:List I} {xs:List V},RpIs K H ts xs->RpIs K H' ts xs
 | [],_,h=>by rw [RpIs] at h ⊢;exact h
 | t::ts,_,h=>by
  rw [RpIs] at h ⊢;obtain⟨y,r,h1,h2,h3⟩:=h
  exact⟨y,r,h1,RpI.off x hM h2,RpIs.off x hM h3⟩
end
mutual
theorem Rp.off {K:PySem.W.Frag}{M:List Addr}{H H':Hp}(x:OffM M H H')(hM:∀ b∈M,Mu H b):∀ {t:T} {v:V} {F:List Addr},(∀ a∈F,a ∉ M)->Rp K H t v F->Rp K H' t v F
 | .im _,_,_,_,h=>by rw [Rp] at h ⊢;exact⟨RpI.off x hM h.1,h.2⟩
 | .tup ts,_,_,n,h=>by rw [Rp] at h ⊢;obtain⟨a,xs,h1,h2,h3⟩:=h;exact⟨a,xs,h1,x.sqT hM h2,Rps.off x hM n h3⟩
 | .li ts,_,_,n,h=>by
  rw [Rp] at h ⊢;obtain⟨a,xs,h1,h2,h3,rfl⟩:=h
  exact⟨a,xs,h1,x.rd (n a List.mem_cons_self) h2,RpIs.off x hM h3,rfl⟩
 | .lst ts,_,_,n,h=>by
  rw [Rp] at h ⊢;obtain⟨a,xs,F',h1,h2,h3,rfl⟩:=h
  exact⟨a,xs,F',h1,x.rd (n a List.mem_cons_self) h2,Rps.off x hM (fun b hb=>n b (List.mem_cons_of_mem _ hb)) h3,rfl⟩
 | .di kvs,_,_,n,h=>by
  rw [Rp] at h ⊢;obtain⟨a,xs,h1,h2,h3,h4,rfl⟩:=h
  exact⟨a,xs,h1,h2.off x (n a List.mem_cons_self),RpIs.off x hM h3,h4,rfl⟩
 | .dc kvs,_,_,n,h=>by
  rw [Rp] at h ⊢;obtain⟨a,xs,F',h1,h2,h3,rfl⟩:=h
  exact⟨a,xs,F',h1,h2.off x (n a List.mem_cons_self),Rpk.off x hM (fun b hb=>n b (List.mem_cons_of_mem _ hb)) h3,rfl⟩
 | .ins C fs,_,_,n,h=>by
  rw [Rp] at h ⊢;obtain⟨a,dx,xs,F',h1,h2,h3,rfl⟩:=h
  exact⟨a,dx,xs,F',h1,x a _ h2 (n a List.mem_cons_self),Rpf.off x hM (fun b hb=>n b (List.mem_cons_of_mem _ hb)) h3,rfl⟩
theorem Rps.off {K:PySem.W.Frag}{M:List Addr}{H H':Hp}(x:OffM M H H')(hM:∀ b∈M,Mu H b):∀ {ts:List T} {xs:List V} {F:List Addr},(∀ a∈F,a ∉ M)->Rps K H ts xs F->Rps K H' ts xs F
 | [],_,_,_,h=>by rw [Rps] at h ⊢;exact h
 | t::ts,_,_,n,h=>by
  rw [Rps] at h ⊢;obtain⟨y,r,F1,F2,h1,h2,h3,rfl⟩:=h
  exact⟨y,r,F1,F2,h1,Rp.off x hM (fun b hb=>n b (List.mem_append_left _ hb)) h2,Rps.off x hM (fun b hb=>n b (List.mem_append_right _ hb)) h3,rfl⟩
theorem Rpk.off {K:PySem.W.Frag}{M:List Addr}{H H':Hp}(x:OffM M H H')(hM:∀ b∈M,Mu H b):∀ {ts:List (I×T)} {xs:List (I×V)} {F:List Addr},(∀ a∈F,a ∉ M)->Rpk K H ts xs F->Rpk K H' ts xs F
 | [],_,_,_,h=>by rw [Rpk] at h ⊢;exact h
 | (k,t)::ts,_,_,n,h=>by
  rw [Rpk] at h ⊢;obtain⟨y,r,F1,F2,h1,h2,h3,rfl⟩:=h
  exact⟨y,r,F1,F2,h1,Rp.off x hM (fun b hb=>n b (List.mem_append_left _ hb)) h2,Rpk.off x hM (fun b hb=>n b (List.mem_append_right _ hb)) h3,rfl⟩
theorem Rpf.off {K:PySem.W.Frag}{M:List Addr}{H H':Hp}(x:OffM M H H')(hM:∀ b∈M,Mu H b):∀ {ts:List (Str×T)} {xs:List (Str×V)} {F:List Addr},(∀ a∈F,a ∉ M)->Rpf K H ts xs F->Rpf K H' ts xs F
 | [],_,_,_,h=>by rw [Rpf] at h ⊢;exact h
 | (k,t)::ts,_,_,n,h=>by
  rw [Rpf] at h ⊢;obtain⟨y,r,F1,F2,h1,h2,h3,rfl⟩:=h
  exact⟨y,r,F1,F2,h1,Rp.off x hM (fun b hb=>n b (List.mem_append_left _ hb)) h2,Rpf.off x hM (fun b hb=>n b (List.mem_append_right _ hb)) h3,rfl⟩
end
theorem Rp.same {K:PySem.W.Frag}{H H':Hp}(x:Same H H'){t:T}{v:V}{F:List Addr}(h:Rp K H t v F):Rp K H' t v F:=Rp.off (x.offM []) (by simp) (by simp) h
theorem Rps.same {K:PySem.W.Frag}{H H':Hp}(x:Same H H'){t:List T}{v:List V}{F:List Addr}(h:Rps K H t v F):Rps K H' t v F:=Rps.off (x.offM []) (by simp) (by simp) h
theorem RpIs.same {K:PySem.W.Frag}{H H':Hp}(x:Same H H'){t:List I}{v:List V}(h:RpIs K H t v):RpIs K H' t v:=RpIs.off (x.offM []) (by simp) h
mutual
theorem Rp.dom {K:PySem.W.Frag}{H:Hp}:∀ {t:T} {v:V} {F:List Addr},Rp K H t v F->∀ a∈F,∃ o,H a=some o
 | .im _,_,_,h=>by rw [Rp] at h;rw [h.2];simp
 | .tup ts,_,_,h=>by rw [Rp] at h;obtain⟨_,_,_,_,h⟩:=h;exact Rps.dom h
 | .li ts,_,_,h=>by
  rw [Rp] at h;obtain⟨a,xs,h1,h2,h3,rfl⟩:=h
  intro b hb
  rw [List.mem_singleton.mp hb];exact h2.dom
 | .lst ts,_,_,h=>by
  rw [Rp] at h;obtain⟨a,xs,F',h1,h2,h3,rfl⟩:=h
  intro b hb
  rcases List.mem_cons.mp hb with rfl | hb
  ·exact h2.dom
  ·exact Rps.dom h3 b hb
 | .di ts,_,_,h=>by
  rw [Rp] at h;obtain⟨a,xs,h1,h2,h3,h4,rfl⟩:=h
  intro b hb
  rw [List.mem_singleton.mp hb];exact h2.dom
 | .dc ts,_,_,h=>by
  rw [Rp] at h;obtain⟨a,xs,F',h1,h2,h3,rfl⟩:=h
  intro b hb
  rcases List.mem_cons.mp hb with rfl | hb
  ·exact h2.dom
  ·exact Rpk.dom h3 b hb
 | .ins C ts,_,_,h=>by
  rw [Rp] at h;obtain⟨a,dx,xs,F',h1,h2,h3,rfl⟩:=h
  intro b hb
  rcases List.mem_cons.mp hb with rfl | hb
  ·exact⟨_,h2⟩
  ·exact Rpf.dom h3 b hb
theorem Rps.dom {K:PySem.W.Frag}{H:Hp}:∀ {ts:List T} {xs:List V} {F:List Addr},Rps K H ts xs F->∀ a∈F,∃ o,H a=some o
 | [],_,_,h=>by rw [Rps] at h;rw [h.2];simp
 | t::ts,_,_,h=>by
  rw [Rps] at h;obtain⟨y,r,F1,F2,h1,h2,h3,rfl⟩:=h
  intro b hb
  rcases List.mem_append.mp hb with hb | hb
  ·exact Rp.dom h2 b hb
  ·exact Rps.dom h3 b hb
theorem Rpk.dom {K:PySem.W.Frag}{H:Hp}:∀ {ts:List (I×T)} {xs:List (I×V)} {F:List Addr},Rpk K H ts xs F->∀ a∈F,∃ o,H a=some o
 | [],_,_,h=>by rw [Rpk] at h;rw [h.2];simp
 | (k,t)::ts,_,_,h=>by
  rw [Rpk] at h;obtain⟨y,r,F1,F2,h1,h2,h3,rfl⟩:=h
  intro b hb
  rcases List.mem_append.mp hb with hb | hb
  ·exact Rp.dom h2 b hb
  ·exact Rpk.dom h3 b hb
theorem Rpf.dom {K:PySem.W.Frag}{H:Hp}:∀ {ts:List (Str×T)} {xs:List (Str×V)} {F:List Addr},Rpf K H ts xs F->∀ a∈F,∃ o,H a=some o
 | [],_,_,h=>by rw [Rpf] at h;rw [h.2];simp
 | (k,t)::ts,_,_,h=>by
  rw [Rpf] at h;obtain⟨y,r,F1,F2,h1,h2,h3,rfl⟩:=h
  intro b hb
  rcases List.mem_append.mp hb with hb | hb
  ·exact Rp.dom h2 b hb
  ·exact Rpf.dom h3 b hb
end
theorem RpIs.nil {K:PySem.W.Frag}{H:Hp}:RpIs K H [] []:=by rw [RpIs]
theorem RpIs.cons {K:PySem.W.Frag}{H:Hp}{t:I}{ts:List I}{x:V}{xs:List V}(h:RpI K H t x)(hs:RpIs K H ts xs):RpIs K H (t::ts) (x::xs):=by rw [RpIs];exact⟨x,xs,rfl,h,hs⟩
theorem RpIs.cons_inv {K:PySem.W.Frag}{H:Hp}{t:I}{ts:List I}{xs:List V}(h:RpIs K H (t::ts) xs):∃ x r,xs=x::r/\RpI K H t x/\RpIs K H ts r:=by rw [RpIs] at h;exact h
theorem RpIs.nil_inv {K:PySem.W.Frag}{H:Hp}{xs:List V}(h:RpIs K H [] xs):xs = []:=by rw [RpIs] at h;exact h
theorem RpIs.length {K:PySem.W.Frag}{H:Hp}:∀ {ts:List I} {xs:List V},RpIs K H ts xs->xs.length=ts.length
 | [],xs,h=>by rw [h.nil_inv];rfl
 | d::ds,xs,h=>by obtain⟨x,r,rfl,_,h3⟩:=h.cons_inv;rw [List.length_cons,List.length_cons,h3.length]
theorem RpIs.get {K:PySem.W.Frag}{H:Hp}:∀ {ts:List I} {xs:List V} {i:Nat} {t:I},RpIs K H ts xs->ts[i]?=some t->∃ x,xs[i]?=some x/\RpI K H t x
 | [],_,_,_,_,e=>by simp at e
 | d::ds,xs,0,d',h,e=>by
  obtain⟨x,r,rfl,h2,h3⟩:=h.cons_inv
  simp at e;subst e
  exact⟨x,rfl,h2⟩
 | d::ds,xs,i+1,d',h,e=>by
  obtain⟨x,r,rfl,h2,h3⟩:=h.cons_inv
  obtain⟨y,h4,h5⟩:=RpIs.get (i:=i) h3 (by simpa using e)
  exact⟨y,by simpa using h4,h5⟩
theorem RpIs.append {K:PySem.W.Frag}{H:Hp}:∀ {ds es:List I} {xs ys:List V},RpIs K H ds xs->RpIs K H es ys->RpIs K H (ds++es) (xs++ys)
 | [],es,xs,ys,h,h'=>by obtain rfl:=h.nil_inv;exact h'
 | d::ds,es,xs,ys,h,h'=>by
  obtain⟨x,r,rfl,h2,h3⟩:=h.cons_inv
  exact RpIs.cons h2 (RpIs.append h3 h')
theorem RpIs.take {K:PySem.W.Frag}{H:Hp}:∀ {ds:List I} {xs:List V} (n:Nat),RpIs K H ds xs->RpIs K H (ds.take n) (xs.take n)
 | ds,xs,0,h=>by simp only [List.take_zero];exact RpIs.nil
 | [],xs,n+1,h=>by obtain rfl:=h.nil_inv;exact RpIs.nil
 | d::ds,xs,n+1,h=>by
  obtain⟨x,r,rfl,h2,h3⟩:=h.cons_inv
  exact RpIs.cons h2 (RpIs.take n h3)
theorem RpIs.drop {K:PySem.W.Frag}{H:Hp}:∀ {ds:List I} {xs:List V} (n:Nat),RpIs K H ds xs->RpIs K H (ds.drop n) (xs.drop n)
 | ds,xs,0,h=>h
 | [],xs,n+1,h=>by obtain rfl:=h.nil_inv;exact RpIs.nil
 | d::ds,xs,n+1,h=>by
  obtain⟨x,r,rfl,h2,h3⟩:=h.cons_inv
  exact RpIs.drop n h3
theorem RpIs.one {K:PySem.W.Frag}{H:Hp}{t:I}{x:V}(h:RpI K H t x):RpIs K H [t] [x]:=.cons h .nil
theorem RpIs.set {K:PySem.W.Frag}{H:Hp}{t:I}{x:V}(hx:RpI K H t x):∀ {ds:List I} {xs:List V} (n:Nat),RpIs K H ds xs->RpIs K H (ds.set n t) (xs.set n x)
 | [],xs,n,h=>by obtain rfl:=h.nil_inv;exact RpIs.nil
 | d::ds,xs,0,h=>by obtain⟨y,r,rfl,h2,h3⟩:=h.cons_inv;exact RpIs.cons hx h3
 | d::ds,xs,n+1,h=>by obtain⟨y,r,rfl,h2,h3⟩:=h.cons_inv;exact RpIs.cons h2 (RpIs.set hx n h3)
theorem RpIs.ints {K:PySem.W.Frag}{H:Hp}:∀ (ns:List Int),RpIs K H (ns.map I.int) (ns.map V.int)
 | []=>RpIs.nil
 | n::ns=>RpIs.cons (by rw [RpI]) (RpIs.ints ns)
theorem Rps.nil {K:PySem.W.Frag}{H:Hp}:Rps K H [] [] []:=by rw [Rps];exact⟨rfl,rfl⟩
theorem Rps.cons {K:PySem.W.Frag}{H:Hp}{t:T}{ts:List T}{x:V}{xs:List V}{F F':List Addr}(h:Rp K H t x F)(hs:Rps K H ts xs F'):Rps K H (t::ts) (x::xs) (F++F'):=by rw [Rps];exact⟨x,xs,F,F',rfl,h,hs,rfl⟩
theorem Rps.cons_inv {K:PySem.W.Frag}{H:Hp}{t:T}{ts:List T}{xs:List V}{F:List Addr}(h:Rps K H (t::ts) xs F):∃ x r F1 F2,xs=x::r/\Rp K H t x F1/\Rps K H ts r F2/\F=F1++F2:=by rw [Rps] at h;exact h
theorem Rps.nil_inv {K:PySem.W.Frag}{H:Hp}{xs:List V}{F:List Addr}(h:Rps K H [] xs F):xs = []/\F = []:=by rw [Rps] at h;exact h
theorem Rps.length {K:PySem.W.Frag}{H:Hp}:∀ {ts:List T} {xs:List V} {F:List Addr},Rps K H ts xs F->xs.length=ts.length
 | [],xs,_,h=>by rw [h.nil_inv.1];rfl
 | d::ds,xs,_,h=>by obtain⟨x,r,_,_,rfl,_,h3,_⟩:=h.cons_inv;rw [List.length_cons,List.length_cons,h3.length]
theorem Rps.append {K:PySem.W.Frag}{H:Hp}:∀ {ds es:List T} {xs ys:List V} {F G:List Addr},Rps K H ds xs F->Rps K H es ys G->Rps K H (ds++es) (xs++ys) (F++G)
 | [],es,xs,ys,F,G,h,h'=>by obtain⟨rfl,rfl⟩:=h.nil_inv;exact h'
 | d::ds,es,xs,ys,F,G,h,h'=>by
  obtain⟨x,r,F1,F2,rfl,h2,h3,rfl⟩:=h.cons_inv
  rw [List.append_assoc]
  exact Rps.cons h2 (Rps.append h3 h')
theorem Rps.at {K:PySem.W.Frag}{H:Hp}:∀ {ts:List T} {xs:List V} {F:List Addr} {i:Nat} {t:T},Rps K H ts xs F->ts[i]?=some t →
  ∃ x A G B,xs[i]?=some x/\Rp K H t x G/\F=A++G++B/\Rps K H (ts.take i) (xs.take i) A/\Rps K H (ts.drop (i+1)) (xs.drop (i+1)) B
 | [],_,_,_,_,_,e=>by simp at e
 | d::ds,xs,_,0,d',h,e=>by
  obtain⟨x,r,F1,F2,rfl,h2,h3,rfl⟩:=h.cons_inv
  simp at e;subst e
  exact⟨x,[],F1,F2,rfl,h2,by simp,Rps.nil,by simpa using h3⟩
 | d::ds,xs,_,i+1,d',h,e=>by
  obtain⟨x,r,F1,F2,rfl,h2,h3,rfl⟩:=h.cons_inv
  obtain⟨y,A,G,B,h4,h5,h6,h7,h8⟩:=Rps.at (i:=i) h3 (by simpa using e)
  refine⟨y,F1++A,G,B,by simpa using h4,h5,by rw [h6];simp,?_,by simpa using h8⟩
  simpa using Rps.cons h2 h7
theorem Rps.take {K:PySem.W.Frag}{H:Hp}:∀ {ds:List T} {xs:List V} {F:List Addr} (n:Nat),Rps K H ds xs F->∃ G G',Rps K H (ds.take n) (xs.take n) G/\Rps K H (ds.drop n) (xs.drop n) G'/\F=G++G'
 | ds,xs,F,0,h=>⟨[],F,by simp only [List.take_zero];exact Rps.nil,by simpa using h,rfl⟩
 | [],xs,F,n+1,h=>by obtain⟨rfl,rfl⟩:=h.nil_inv;exact⟨[],[],Rps.nil,Rps.nil,rfl⟩
 | d::ds,xs,F,n+1,h=>by
  obtain⟨x,r,F1,F2,rfl,h2,h3,rfl⟩:=h.cons_inv
  obtain⟨G,G',g1,g2,rfl⟩:=Rps.take n h3
  exact⟨F1++G,G',Rps.cons h2 g1,g2,by rw [List.append_assoc]⟩
theorem Rps.ims {K:PySem.W.Frag}{H:Hp}:∀ {is:List I} {xs:List V} {F:List Addr},Rps K H (is.map T.im) xs F↔(RpIs K H is xs/\F = [])
 | [],xs,F=>by rw [List.map_nil,Rps,RpIs]
 | i::is,xs,F=>by
  rw [List.map_cons,Rps,RpIs]
  constructor
  ·rintro ⟨x,r,F1,F2,rfl,h1,h2,rfl⟩
   rw [Rp] at h1
   have:=Rps.ims.mp h2
   exact⟨⟨x,r,rfl,h1.1,this.1⟩,by rw [h1.2,this.2];rfl⟩
  ·rintro ⟨⟨x,r,rfl,h1,h2⟩,rfl⟩
   exact⟨x,r,[],[],rfl,by rw [Rp];exact⟨h1,rfl⟩,Rps.ims.mpr ⟨h2,rfl⟩,rfl⟩
theorem rp_im {K:PySem.W.Frag}{H:Hp}{i:I}{v:V}(h:RpI K H i v):Rp K H (.im i) v []:=by rw [Rp];exact⟨h,rfl⟩
theorem zwa {K:PySem.W.Frag}{H:Hp}{i:I}{v:V}{F:List Addr}(h:Rp K H (.im i) v F):RpI K H i v/\F = []:=by rw [Rp] at h;exact h
noncomputable def I.sc:I->Option V
 | .non=>some .non | .bl b=>some (.bl b) | .int i=>some (.int i) | .str x=>some (.str x) | .tup _=>none
theorem sc_rp {t:I}{K:PySem.W.Frag}{H:Hp}{v:V}(h:t.sc=some v):RpI K H t v:=by
 cases t<;>simp only [I.sc] at h<;>cases h<;>rw [RpI]
theorem sc_eq {t:I}{K:PySem.W.Frag}{H:Hp}{v w:V}(h:t.sc=some v)(r:RpI K H t w):w=v:=by
 cases t<;>simp only [I.sc] at h<;>cases h<;>rw [RpI] at r<;>exact r
end L2
namespace L2
open PySem PySem.Spec PyProof.Rows
inductive Ac where
 | ix (n:Nat) | ky (k:I) | fd (f:Str)
 deriving DecidableEq
noncomputable def look {κ α:Type} [DecidableEq κ]:List (κ × α)->κ->Option α
 | [],_=>none
 | (k',t)::r,k=>if k'=k then some t else look r k
noncomputable def putK {κ α:Type} [DecidableEq κ]:List (κ × α)->κ->α->List (κ × α)
 | [],_,_=>[]
 | (k',t)::r,k,s=>if k'=k then (k',s)::r else (k',t)::putK r k s
noncomputable def sub1:T->Ac->Option T
 | .lst ts,.ix n=>ts[n]?
 | .dc kvs,.ky k=>look kvs k
 | .ins _ fs,.fd f=>look fs f
 | _,_=>none
noncomputable def put1:T->Ac->T->T
 | .lst ts,.ix n,s=>.lst (ts.set n s)
 | .dc kvs,.ky k,s=>.dc (putK kvs k s)
 | .ins C fs,.fd f,s=>.ins C (putK fs f s)
 | t,_,_=>t
noncomputable def T.sub:T->List Ac->Option T
 | t,[]=>some t
 | t,a::p=>(sub1 t a).bind fun s=>s.sub p
noncomputable def T.put:T->List Ac->T->T
 | _,[],s=>s
 | t,a::p,s=>match sub1 t a with
  | some u=>put1 t a (u.put p s)
  | none=>t
noncomputable def at1 (K:PySem.W.Frag) (H:Hp):V->Ac->V->Prop
 | v,.ix n,w=>∃ a xs,v = .ref a/\H a=some (.lst xs)/\xs[n]?=some w
 | v,.ky k,w=>∃ a ys,v = .ref a/\DAt K H a ys/\look ys k=some w
 | v,.fd f,w=>∃ a C dx ys,v = .ref a/\H a=some (.ins C dx ys)/\look ys f=some w
noncomputable def atP (K:PySem.W.Frag) (H:Hp):V->List Ac->V->Prop
 | v,[],w=>w=v
 | v,a::p,w=>∃ u,at1 K H v a u/\atP K H u p w
theorem DAt.det {K:PySem.W.Frag}{H:Hp}{a:Addr}{xs ys:List (I×V)}(h:DAt K H a xs)(g:DAt K H a ys):xs=ys:=by
 obtain⟨zs,h1,rfl⟩:=h
 obtain⟨zs',h2,rfl⟩:=g
 rw [h1] at h2;cases h2;rfl
theorem at1_det {K:PySem.W.Frag}{H:Hp}{v w w':V}{a:Ac}(h:at1 K H v a w)(g:at1 K H v a w'):w=w':=by
 cases a with
 | ix n=>
  obtain⟨a,xs,rfl,h1,h2⟩:=h
  obtain⟨a',xs',e,g1,g2⟩:=g
  cases e;rw [h1] at g1;cases g1;rw [h2] at g2;cases g2;rfl
 | ky k=>
  obtain⟨a,xs,rfl,h1,h2⟩:=h
  obtain⟨a',xs',e,g1,g2⟩:=g
  cases e
  have:=h1.det g1
  subst this
  rw [h2] at g2;cases g2;rfl
 | fd f=>
  obtain⟨a,C,dx,xs,rfl,h1,h2⟩:=h
  obtain⟨a',C',dx',xs',e,g1,g2⟩:=g
  cases e;rw [h1] at g1;cases g1;rw [h2] at g2;cases g2;rfl
theorem atP_det {K:PySem.W.Frag}{H:Hp}:∀ {p:List Ac} {v w w':V},atP K H v p w->atP K H v p w'->w=w'
 | [],v,w,w',h,g=>by rw [atP] at h g;rw [h,g]
 | a::p,v,w,w',h,g=>by
  rw [atP] at h g
  obtain⟨u,h1,h2⟩:=h
  obtain⟨u',g1,g2⟩:=g
  have:=at1_det h1 g1
  subst this
  exact atP_det h2 g2
theorem atP_app {K:PySem.W.Frag}{H:Hp}{a:Ac}:∀ {p:List Ac} {v w u:V},atP K H v p w->at1 K H w a u->atP K H v (p++[a]) u
 | [],v,w,u,h,g=>by rw [atP] at h;subst h;exact⟨u,g,rfl⟩
 | b::p,v,w,u,h,g=>by
  rw [atP] at h
  obtain⟨x,h1,h2⟩:=h
  exact⟨x,h1,atP_app h2 g⟩
theorem sub_app {a:Ac}:∀ {p:List Ac} {t s u:T},t.sub p=some s->sub1 s a=some u->t.sub (p++[a])=some u
 | [],t,s,u,h,g=>by rw [T.sub] at h;cases h;rw [List.nil_append,T.sub,g];rfl
 | b::p,t,s,u,h,g=>by
  rw [T.sub] at h
  rw [List.cons_append,T.sub]
  cases e:sub1 t b with
  | none=>rw [e] at h;cases h
  | some x=>rw [e] at h;exact sub_app (p:=p) h g
section
variable  {K:PySem.W.Frag}{H:Hp}
theorem Rpk.at {k:I}:∀ {ts:List (I×T)} {xs:List (I×V)} {F:List Addr} {t:T},Rpk K H ts xs F->look ts k=some t →
  ∃ x A G B,look xs k=some x/\Rp K H t x G/\F=A++G++B/\∀ H' s' G',(∀ {u:T} {w:V} {F':List Addr},(∀ a∈F',a∈A ∨ a∈B)->Rp K H u w F'->Rp K H' u w F')->Rp K H' s' x G'->Rpk K H' (putK ts k s') xs (A++G'++B)
 | [],xs,F,t,h,e=>by simp [look] at e
 | (k',d)::ds,xs,F,t,h,e=>by
  rw [Rpk] at h
  obtain⟨x,r,F1,F2,rfl,h2,h3,rfl⟩:=h
  by_cases hk:k'=k
  ·subst hk
   simp [look] at e
   subst e
   refine⟨x,[],F1,F2,by simp [look],h2,by simp,fun H' s' G' st q=>?_⟩
   simp only [putK,if_pos]
   rw [Rpk]
   refine⟨x,r,G',F2,rfl,q,?_,by simp⟩
   have:∀ {ts:List (I×T)} {xs:List (I×V)} {F:List Addr},(∀ a∈F,a∈F2)->Rpk K H ts xs F->Rpk K H' ts xs F:=by
    intro ts
    induction ts with
    | nil=>intro xs F _ h;rw [Rpk] at h ⊢;exact h
    | cons p ts ih=>
     intro xs F hF h
     obtain⟨k2,t2⟩:=p
     rw [Rpk] at h ⊢
     obtain⟨y,r,G1,G2,h1,h2,h3,rfl⟩:=h
     exact⟨y,r,G1,G2,h1,st (fun a ha=>.inr (hF a (List.mem_append_left _ ha))) h2,ih (fun a ha=>hF a (List.mem_append_right _ ha)) h3,rfl⟩
   exact this (fun a ha=>ha) h3
  ·simp [look,hk] at e
   obtain⟨y,A,G,B,h4,h5,h6,h7⟩:=Rpk.at h3 e
   refine⟨y,F1++A,G,B,by simp [look,hk,h4],h5,by rw [h6];simp,fun H' s' G' st q=>?_⟩
   simp only [putK,if_neg hk]
   rw [Rpk]
   exact⟨x,r,F1,A++G'++B,rfl,st (fun a ha=>.inl (List.mem_append_left _ ha)) h2,h7 H' s' G' (fun ha=>st (fun a h=>(ha a h).imp (List.mem_append_right _) id)) q,by simp⟩
theorem Rpf.at {k:Str}:∀ {ts:List (Str×T)} {xs:List (Str×V)} {F:List Addr} {t:T},Rpf K H ts xs F->look ts k=some t →
  ∃ x A G B,look xs k=some x/\Rp K H t x G/\F=A++G++B/\∀ H' s' G',(∀ {u:T} {w:V} {F':List Addr},(∀ a∈F',a∈A ∨ a∈B)->Rp K H u w F'->Rp K H' u w F')->Rp K H' s' x G'->Rpf K H' (putK ts k s') xs (A++G'++B)
 | [],xs,F,t,h,e=>by simp [look] at e
 | (k',d)::ds,xs,F,t,h,e=>by
  rw [Rpf] at h
  obtain⟨x,r,F1,F2,rfl,h2,h3,rfl⟩:=h
  by_cases hk:k'=k
  ·subst hk
   simp [look] at e
   subst e
   refine⟨x,[],F1,F2,by simp [look],h2,by simp,fun H' s' G' st q=>?_⟩
   simp only [putK,if_pos]
   rw [Rpf]
   refine⟨x,r,G',F2,rfl,q,?_,by simp⟩
   have:∀ {ts:List (Str×T)} {xs:List (Str×V)} {F:List Addr},(∀ a∈F,a∈F2)->Rpf K H ts xs F->Rpf K H' ts xs F:=by
    intro ts
    induction ts with
    | nil=>intro xs F _ h;rw [Rpf] at h ⊢;exact h
    | cons p ts ih=>
     intro xs F hF h
     obtain⟨k2,t2⟩:=p
     rw [Rpf] at h ⊢
     obtain⟨y,r,G1,G2,h1,h2,h3,rfl⟩:=h
     exact⟨y,r,G1,G2,h1,st (fun a ha=>.inr (hF a (List.mem_append_left _ ha))) h2,ih (fun a ha=>hF a (List.mem_append_right _ ha)) h3,rfl⟩
   exact this (fun a ha=>ha) h3
  ·simp [look,hk] at e
   obtain⟨y,A,G,B,h4,h5,h6,h7⟩:=Rpf.at h3 e
   refine⟨y,F1++A,G,B,by simp [look,hk,h4],h5,by rw [h6];simp,fun H' s' G' st q=>?_⟩
   simp only [putK,if_neg hk]
   rw [Rpf]
   exact⟨x,r,F1,A++G'++B,rfl,st (fun a ha=>.inl (List.mem_append_left _ ha)) h2,h7 H' s' G' (fun ha=>st (fun a h=>(ha a h).imp (List.mem_append_right _) id)) q,by simp⟩
theorem Mu.lst {a:Addr}{xs:List V}(m:Mu H a)(h:Rd H a (.lst xs)):H a=some (.lst xs):=by
 rcases h with h | ⟨o,h⟩
 ·exact h
 ·obtain⟨u,e,m⟩:=m;rw [h] at e;cases e;cases m
theorem Rps.stay {H':Hp}:∀ {ts:List T} {xs:List V} {F:List Addr},(∀ {u:T} {w:V} {F':List Addr},(∀ a∈F',a∈F)->Rp K H u w F'->Rp K H' u w F')->Rps K H ts xs F->Rps K H' ts xs F
 | [],_,_,_,h=>by rw [Rps] at h ⊢;exact h
 | t::ts,_,_,n,h=>by
  rw [Rps] at h ⊢;obtain⟨y,r,F1,F2,h1,h2,h3,rfl⟩:=h
  exact⟨y,r,F1,F2,h1,n (fun a ha=>List.mem_append_left _ ha) h2,Rps.stay (fun ha=>n fun a h=>List.mem_append_right _ (ha a h)) h3,rfl⟩
theorem Rp.at1 {t s:T}{v:V}{F:List Addr}{a:Ac}(h:Rp K H t v F)(mu:∀ b∈F,Mu H b)(nd:F.Nodup)(e:sub1 t a=some s) :
  ∃ w A G B,L2.at1 K H v a w/\Rp K H s w G/\F=A++G++B/\∀ H' s' G',OffM G H H'->Rp K H' s' w G'->Rp K H' (put1 t a s') v (A++G'++B):=by
 have dj:∀ {A G B:List Addr},F=A++G++B->∀ b,(b∈A ∨ b∈B)->b ∉ G:=by
  intro A G B e b hb hg
  rw [e] at nd
  rcases hb with hb | hb
  ·exact (List.nodup_append.mp (List.nodup_append.mp nd).1).2.2 b hb b hg rfl
  ·exact (List.nodup_append.mp nd).2.2 b (List.mem_append_right _ hg) b hb rfl
 have muG:∀ {A G B:List Addr},F=A++G++B->∀ b∈G,Mu H b:=fun e b hb=>mu b (by rw [e];simp [hb])
 cases t with
 | lst ts=>
  cases a with
  | ix n=>
   rw [Rp] at h
   obtain⟨a,xs,F',rfl,h2,h3,rfl⟩:=h
   have ha:=(mu a List.mem_cons_self).lst h2
   obtain⟨x,A,G,B,h4,h5,h6,h7,h8⟩:=h3.at e
   have e':a::F'=(a::A)++G++B:=by rw [h6];simp
   refine⟨x,a::A,G,B,⟨a,xs,rfl,ha,h4⟩,h5,e',fun H' s' G' off q=>?_⟩
   have st:∀ {u:T} {w:V} {F':List Addr},(∀ b∈F',b∈A ∨ b∈B)->Rp K H u w F'->Rp K H' u w F':=fun hb r=>r.off off (muG e') (fun b z=>dj e' b ((hb b z).imp (List.mem_cons_of_mem _) id))
   show Rp K H' (.lst (ts.set n s')) (.ref a) _
   rw [Rp]
   refine⟨a,xs,A++G'++B,rfl,.inl (off a _ ha (dj e' a (.inl List.mem_cons_self))),?_,by simp⟩
   have hn:n<ts.length:=(List.getElem?_eq_some_iff.mp e).1
   have hn':n<xs.length:=(List.getElem?_eq_some_iff.mp h4).1
   have e1:ts.set n s'=ts.take n++s'::ts.drop (n+1):=by rw [List.set_eq_take_append_cons_drop,if_pos hn]
   have e2:xs=xs.take n++x::xs.drop (n+1):=by
    have:=List.getElem?_eq_some_iff.mp h4
    obtain⟨hl,hx⟩:=this
    conv=>lhs;rw [← List.take_append_drop n xs,List.drop_eq_getElem_cons hl,hx]
   rw [e1,e2,List.append_assoc]
   exact Rps.append (Rps.stay (fun hb=>st fun b z=>.inl (hb b z)) h7) (Rps.cons q (Rps.stay (fun hb=>st fun b z=>.inr (hb b z)) h8))
  | ky k=>cases e
  | fd k=>cases e
 | dc kvs=>
  cases a with
  | ky k=>
   rw [Rp] at h
   obtain⟨a,xs,F',rfl,h2,h3,rfl⟩:=h
   obtain⟨x,A,G,B,h4,h5,h6,h7⟩:=h3.at e
   have e':a::F'=(a::A)++G++B:=by rw [h6];simp
   refine⟨x,a::A,G,B,⟨a,xs,rfl,h2,h4⟩,h5,e',fun H' s' G' off q=>?_⟩
   have st:∀ {u:T} {w:V} {F':List Addr},(∀ b∈F',b∈A ∨ b∈B)->Rp K H u w F'->Rp K H' u w F':=fun hb r=>r.off off (muG e') (fun b z=>dj e' b ((hb b z).imp (List.mem_cons_of_mem _) id))
   show Rp K H' (.dc (putK kvs k s')) (.ref a) _
   rw [Rp]
   exact⟨a,xs,A++G'++B,rfl,h2.off off (dj e' a (.inl List.mem_cons_self)),h7 H' s' G' st q,by simp⟩
  | ix k=>cases e
  | fd k=>cases e
 | ins C fs=>
  cases a with
  | fd k=>
   rw [Rp] at h
   obtain⟨a,dx,xs,F',rfl,h2,h3,rfl⟩:=h
   obtain⟨x,A,G,B,h4,h5,h6,h7⟩:=h3.at e
   have e':a::F'=(a::A)++G++B:=by rw [h6];simp
   refine⟨x,a::A,G,B,⟨a,C,dx,xs,rfl,h2,h4⟩,h5,e',fun H' s' G' off q=>?_⟩
   have st:∀ {u:T} {w:V} {F':List Addr},(∀ b∈F',b∈A ∨ b∈B)->Rp K H u w F'->Rp K H' u w F':=fun hb r=>r.off off (muG e') (fun b z=>dj e' b ((hb b z).imp (List.mem_cons_of_mem _) id))
   show Rp K H' (.ins C (putK fs k s')) (.ref a) _
   rw [Rp]
   exact⟨a,dx,xs,A++G'++B,rfl,off a _ h2 (dj e' a (.inl List.mem_cons_self)),h7 H' s' G' st q,by simp⟩
  | ix k=>cases e
  | ky k=>cases e
 | im _=>cases a<;>cases e
 | tup _=>cases a<;>cases e
 | li _=>cases a<;>cases e
 | di _=>cases a<;>cases e
theorem Rp.atP:∀ {p:List Ac} {t s:T} {v:V} {F:List Addr},Rp K H t v F->(∀ b∈F,Mu H b)->F.Nodup->t.sub p=some s →
  ∃ w A G B,L2.atP K H v p w/\Rp K H s w G/\F=A++G++B/\∀ H' s' G',OffM G H H'->Rp K H' s' w G'->Rp K H' (t.put p s') v (A++G'++B)
 | [],t,s,v,F,h,mu,nd,e=>by
  rw [T.sub] at e;cases e
  exact⟨v,[],F,[],rfl,h,by simp,fun H' s' G' _ q=>by rw [T.put];simpa using q⟩
 | a::p,t,s,v,F,h,mu,nd,e=>by
  rw [T.sub] at e
  cases e1:sub1 t a with
  | none=>rw [e1] at e;cases e
  | some u=>
   rw [e1] at e
   obtain⟨w,A,G,B,h1,h2,rfl,h4⟩:=h.at1 mu nd e1
   have nd2:=(List.nodup_append.mp (List.nodup_append.mp nd).1).2.1
   obtain⟨x,A',G',B',g1,g2,rfl,g4⟩:=Rp.atP (p:=p) h2 (fun b hb=>mu b (List.mem_append_left _ (List.mem_append_right _ hb))) nd2 e
   refine⟨x,A++A',G',B'++B,⟨w,h1,g1⟩,g2,by simp,fun H' s' G2 off q=>?_⟩
   rw [T.put,e1]
   have:=h4 H' (u.put p s') (A'++G2++B') (off.mono fun b hb=>by simp [hb]) (g4 H' s' G2 off q)
   simpa using this
end
end L2
namespace L2
open PySem PySem.Spec PyProof.Rows
inductive Kd where
 | ow | io (k:Nat) | vw (r:Option Nat) (p:Option (List Ac))
structure R where
 k:Kd
 t:T
structure En where
 key:Option Nat
 v:V
 r:R
structure Hd where
 e:En
 F:List Addr
structure Gm where
 K:PySem.W.Frag
 H0:Hp
 io:List Addr
 iov:List V
noncomputable def Kd.isOw:Kd->Bool
 | .vw _ _=>false | _=>true
noncomputable def Kd.root:Kd->Option Nat
 | .vw r _=>r | _=>none
noncomputable def Hd.own (h:Hd):List Addr:=if h.e.r.k.isOw=true then h.F else []
noncomputable def KdOk (Γ:Gm) (H:Hp) (L:List Hd) (h:Hd):Prop:=match h.e.r.k with
 | .ow=>∀ a∈h.F,Γ.H0 a=none
 | .io k=>Γ.iov[k]?=some h.e.v
 | .vw none _=>∀ a∈h.F,a ∉ L.flatMap Hd.own
 | .vw (some j) p=>∃ g∈L,g.e.key=some j/\g.e.r.k.isOw=true/\(∀ a∈h.F,a∈g.F ∨ a ∉ L.flatMap Hd.own)/\∀ q,p=some q->g.e.r.t.sub q=some h.e.r.t/\atP Γ.K H g.e.v q h.e.v
structure GW (Γ:Gm)(H:Hp)(L:List Hd):Prop where
 nd:(L.flatMap Hd.own).Nodup
 ad:∀ a∈L.flatMap Hd.own,Mu H a/\(Γ.H0 a=none ∨ a ∈ Γ.io)
 rp:∀ h∈L,Rp Γ.K H h.e.r.t h.e.v h.F
 kd:∀ h∈L,KdOk Γ H L h
 ks:(L.filterMap fun h=>h.e.key).Nodup
 fr:∀ b o,Γ.H0 b=some o->b ∉ Γ.io->H b=some o
 iol:∀ a ∈ Γ.io,∃ o,H a=some o
section
variable  {Γ:Gm}{H H':Hp}{L L':List Hd}{h:Hd}
theorem KdOk.sub (k:KdOk Γ H L h)(s:∀ g∈L,g.e.r.k.isOw=true->g∈L')(o:∀ a∈L'.flatMap Hd.own,a∈L.flatMap Hd.own):KdOk Γ H L' h:=by
 unfold KdOk at k ⊢
 split at k
 ·exact k
 ·exact k
 ·exact fun a ha z=>k a ha (o a z)
 ·obtain⟨g,h1,h2,h3,h4,h5⟩:=k
  exact⟨g,s g h1 h3,h2,h3,fun a ha=>(h4 a ha).imp id fun z w=>z (o a w),h5⟩
theorem GW.perm (G:GW Γ H L)(p:L.Perm L'):GW Γ H L':=
 ⟨(p.flatMap_right _).nodup_iff.mp G.nd,fun a ha=>G.ad a ((p.flatMap_right _).mem_iff.mpr ha),fun h hh=>G.rp h (p.mem_iff.mpr hh),fun h hh=>(G.kd h (p.mem_iff.mpr hh)).sub (fun g hg _=>p.mem_iff.mp hg) (fun a ha=>(p.flatMap_right _).mem_iff.mpr ha),(p.filterMap _).nodup_iff.mp G.ks,G.fr,G.iol⟩
theorem own_sub (s:L'.Sublist L):(L'.flatMap Hd.own).Sublist (L.flatMap Hd.own):=by
 induction s with
 | slnil=>exact List.Sublist.refl _
 | cons a s ih=>rw [List.flatMap_cons];exact ih.trans (List.sublist_append_right _ _)
 | cons_cons a s ih=>rw [List.flatMap_cons,List.flatMap_cons];exact (List.Sublist.refl _).append ih
theorem GW.sub (G:GW Γ H L)(s:L'.Sublist L)(ro:∀ h∈L',∀ j,h.e.r.k.root=some j->∀ g∈L,g.e.key=some j->g.e.r.k.isOw=true->g∈L'):GW Γ H L':=by
 refine⟨(own_sub s).nodup G.nd,fun a ha=>G.ad a ((own_sub s).subset ha),fun h hh=>G.rp h (s.subset hh),fun h hh=>?_,(s.filterMap _).nodup G.ks,G.fr,G.iol⟩
 have k:=G.kd h (s.subset hh)
 unfold KdOk at k ⊢
 split at k
 ·exact k
 ·exact k
 ·exact fun a ha z=>k a ha ((own_sub s).subset z)
 ·rename_i j p e
  obtain⟨g,h1,h2,h3,h4,h5⟩:=k
  exact⟨g,ro h hh j (by rw [e];rfl) g h1 h2 h3,h2,h3,fun a ha=>(h4 a ha).imp id fun z w=>z ((own_sub s).subset w),h5⟩
theorem GW.drop (G:GW Γ H (h::L))(hk:h.e.key=none):GW Γ H L:=by
 refine G.sub (List.sublist_cons_self _ _) fun g hg j _ x hx hj _=>?_
 rcases List.mem_cons.mp hx with rfl | hx
 ·rw [hk] at hj;cases hj
 ·exact hx
theorem GW.dropK (G:GW Γ H (h::L))(hr:∀ g∈L,∀ j,h.e.key=some j->g.e.r.k.root≠some j):GW Γ H L:=by
 refine G.sub (List.sublist_cons_self _ _) fun g hg j hj x hx hk _=>?_
 rcases List.mem_cons.mp hx with rfl | hx
 ·exact absurd hj (hr g hg j hk)
 ·exact hx
theorem GW.filter (G:GW Γ H L)(p:Hd->Bool)(hp:∀ h∈L,h.e.r.k.isOw=true->p h=true):GW Γ H (L.filter p):=
 G.sub List.filter_sublist fun h hh j hj g hg hk ho=>List.mem_filter.mpr ⟨hg,hp g hg ho⟩
theorem GW.new0 (G:GW Γ H L){a:Addr}(e:H a=none) : Γ.H0 a=none:=by
 cases q : Γ.H0 a with
 | none=>rfl
 | some o=>
  exfalso
  by_cases hio:a ∈ Γ.io
  ·obtain⟨o,e'⟩:=G.iol a hio;rw [e] at e';cases e'
  ·have:=G.fr a o q hio;rw [e] at this;cases this
theorem GW.push (G:GW Γ H L){v:V}{r:R}{F:List Addr}(hr:Rp Γ.K H r.t v F)(hk:KdOk Γ H L ⟨⟨none,v,r⟩,F⟩)(hF:r.k.isOw=false ∨ F = []):GW Γ H (⟨⟨none,v,r⟩,F⟩::L):=by
 have e:Hd.own ⟨⟨none,v,r⟩,F⟩ = []:=by
  unfold Hd.own
  rcases hF with h | h
  ·simp [h]
  ·simp [h]
 refine⟨by rw [List.flatMap_cons,e];exact G.nd,fun a ha=>G.ad a (by rw [List.flatMap_cons,e] at ha;exact ha),fun x hx=>?_,fun x hx=>?_,?_,G.fr,G.iol⟩
 ·rcases List.mem_cons.mp hx with rfl | hx
  ·exact hr
  ·exact G.rp x hx
 ·rcases List.mem_cons.mp hx with rfl | hx
  ·exact hk.sub (fun g hg _=>List.mem_cons_of_mem _ hg) (fun a ha=>by rw [List.flatMap_cons,e] at ha;exact ha)
  ·exact (G.kd x hx).sub (fun g hg _=>List.mem_cons_of_mem _ hg) (fun a ha=>by rw [List.flatMap_cons,e] at ha;exact ha)
 ·rw [List.filterMap_cons];exact G.ks
theorem GW.rekey (G:GW Γ H (h::L))(hk:h.e.key=none){key:Option Nat}(hn:∀ j,key=some j->j ∉ L.filterMap fun h=>h.e.key):GW Γ H (⟨⟨key,h.e.v,h.e.r⟩,h.F⟩::L):=by
 have eo:((⟨⟨key,h.e.v,h.e.r⟩,h.F⟩:Hd)::L).flatMap Hd.own=(h::L).flatMap Hd.own:=rfl
 have ro:∀ x∈L,KdOk Γ H (h::L) x->KdOk Γ H (⟨⟨key,h.e.v,h.e.r⟩,h.F⟩::L) x:=fun x hx k=>by
  unfold KdOk at k ⊢
  split at k
  ·exact k
  ·exact k
  ·exact k
  ·obtain⟨g,h1,h2,h3⟩:=k
   rcases List.mem_cons.mp h1 with rfl | h1
   ·rw [hk] at h2;cases h2
   ·exact⟨g,List.mem_cons_of_mem _ h1,h2,h3⟩
 refine⟨G.nd,G.ad,fun x hx=>?_,fun x hx=>?_,?_,G.fr,G.iol⟩
 ·rcases List.mem_cons.mp hx with rfl | hx
  ·exact G.rp h List.mem_cons_self
  ·exact G.rp x (List.mem_cons_of_mem _ hx)
 ·rcases List.mem_cons.mp hx with rfl | hx
  ·have k:=G.kd h List.mem_cons_self
   unfold KdOk at k ⊢
   split at k
   ·rename_i e;simp only [e];exact k
   ·rename_i e;simp only [e];exact k
   ·rename_i e;simp only [e];exact k
   ·rename_i e
    simp only [e]
    obtain⟨g,h1,h2,h3⟩:=k
    rcases List.mem_cons.mp h1 with rfl | h1
    ·rw [hk] at h2;cases h2
    ·exact⟨g,List.mem_cons_of_mem _ h1,h2,h3⟩
  ·exact ro x hx (G.kd x (List.mem_cons_of_mem _ hx))
 ·have g:=G.ks
  rw [List.filterMap_cons,hk] at g
  rw [List.filterMap_cons]
  cases key with
  | none=>exact g
  | some j=>exact List.nodup_cons.mpr ⟨hn j rfl,g⟩
theorem mem_own {a:Addr}(ho:h.e.r.k.isOw=true)(ha:a∈h.F):a∈h.own:=by unfold Hd.own;rw [if_pos ho];exact ha
theorem GW.apart {hs:List Hd}(G:GW Γ H (hs++L))(hr:∀ g∈L,∀ h∈hs,∀ j,h.e.key=some j->g.e.r.k.root≠some j)(ho:∀ h∈hs,h.e.r.k.isOw=true):∀ g∈L,∀ a∈g.F,∀ h∈hs,a ∉ h.F:=by
 intro g hg a ha h hh hah
 have nd:=G.nd
 rw [List.flatMap_append] at nd
 have h1:a∈hs.flatMap Hd.own:=List.mem_flatMap.mpr ⟨h,hh,mem_own (ho h hh) hah⟩
 have out:a ∉ (hs++L).flatMap Hd.own->False:=fun n=>n (by rw [List.flatMap_append];exact List.mem_append_left _ h1)
 have k:=G.kd g (List.mem_append_right _ hg)
 have own:∀ x∈L,x.e.r.k.isOw=true->a∈x.F->False:=fun x hx ox hax=>
  (List.nodup_append.mp nd).2.2 a h1 a (List.mem_flatMap.mpr ⟨x,hx,mem_own ox hax⟩) rfl
 unfold KdOk at k
 split at k
 ·rename_i e;exact own g hg (by rw [e];rfl) ha
 ·rename_i e;exact own g hg (by rw [e];rfl) ha
 ·exact out (k a ha)
 ·rename_i j p e
  obtain⟨x,h1',h2,h3,h4,_⟩:=k
  rcases h4 a ha with z | z
  ·rcases List.mem_append.mp h1' with hx | hx
   ·exact hr g hg x hx j h2 (by rw [e];rfl)
   ·exact own x hx h3 z
  ·exact out z
theorem atP_off {M:List Addr}(off:OffM M H H'){F:List Addr}(hF:∀ a∈F,a ∉ M)(mu:∀ a∈F,Mu H a):∀ {q:List Ac} {t s:T} {v w:V} {F':List Addr},(∀ a∈F',a∈F)->F'.Nodup->Rp Γ.K H t v F'->t.sub q=some s->atP Γ.K H v q w->atP Γ.K H' v q w
 | [],_,_,_,_,_,_,_,_,_,h=>h
 | a::q,t,s,v,w,F',hs,nd,r,e,h=>by
  rw [atP] at h ⊢
  obtain⟨u,h1,h2⟩:=h
  rw [T.sub] at e
  cases e1:sub1 t a with
  | none=>rw [e1] at e;cases e
  | some x=>
   rw [e1] at e
   obtain⟨y,A,G,B,g1,g2,rfl,_⟩:=r.at1 (fun b hb=>mu b (hs b hb)) nd e1
   have:=at1_det h1 g1
   subst this
   refine⟨u,?_,atP_off off hF mu (fun b hb=>hs b (List.mem_append_left _ (List.mem_append_right _ hb))) (List.nodup_append.mp (List.nodup_append.mp nd).1).2.1 g2 e h2⟩
   cases a with
   | ix n=>
    obtain⟨b,xs,rfl,z1,z2⟩:=h1
    refine⟨b,xs,rfl,off b _ z1 (hF b ?_),z2⟩
    cases t<;>simp only [sub1] at e1<;>try cases e1
    rw [Rp] at r
    obtain⟨b',xs',F'',eb,_,_,eF⟩:=r
    cases eb
    exact hs b (by rw [eF];exact List.mem_cons_self)
   | ky n=>
    obtain⟨b,xs,rfl,z1,z2⟩:=h1
    refine⟨b,xs,rfl,z1.off off (hF b ?_),z2⟩
    cases t<;>simp only [sub1] at e1<;>try cases e1
    rw [Rp] at r
    obtain⟨b',xs',F'',eb,_,_,eF⟩:=r
    cases eb
    exact hs b (by rw [eF];exact List.mem_cons_self)
   | fd n=>
    obtain⟨b,C,dx,xs,rfl,z1,z2⟩:=h1
    refine⟨b,C,dx,xs,rfl,off b _ z1 (hF b ?_),z2⟩
    cases t<;>simp only [sub1] at e1<;>try cases e1
    rw [Rp] at r
    obtain⟨b',dx',xs',F'',eb,_,_,eF⟩:=r
    cases eb
    exact hs b (by rw [eF];exact List.mem_cons_self)
theorem GW.ndF (G:GW Γ H L)(hh:h∈L)(ho:h.e.r.k.isOw=true):h.F.Nodup:=by
 have nd:=G.nd
 obtain⟨s,t,rfl⟩:=List.append_of_mem hh
 rw [List.flatMap_append,List.flatMap_cons] at nd
 have:=(List.nodup_append.mp (List.nodup_append.mp nd).2.1).1
 unfold Hd.own at this
 rw [if_pos ho] at this
 exact this
theorem GW.muF (G:GW Γ H L)(hh:h∈L)(ho:h.e.r.k.isOw=true):∀ a∈h.F,Mu H a:=fun a ha=>(G.ad a (List.mem_flatMap.mpr ⟨h,hh,mem_own ho ha⟩)).1
theorem own_eq {hs:List Hd}(ho:∀ h∈hs,h.e.r.k.isOw=true):hs.flatMap Hd.own=hs.flatMap (·.F):=by
 induction hs with
 | nil=>rfl
 | cons x xs ih=>
  rw [List.flatMap_cons,List.flatMap_cons,ih fun h hh=>ho h (List.mem_cons_of_mem _ hh)]
  unfold Hd.own
  rw [if_pos (ho x List.mem_cons_self)]
theorem GW.step {hs:List Hd}(G:GW Γ H (hs++L))(ho:∀ h∈hs,h.e.r.k.isOw=true)(hr:∀ g∈L,∀ h∈hs,∀ j,h.e.key=some j->g.e.r.k.root≠some j)
  (off:OffM (hs.flatMap (·.F)) H H') (dom:∀ a∈hs.flatMap (·.F),∃ o,H' a=some o) {key:Option Nat} {v:V} {r:R} {F:List Addr} (nd:F.Nodup) (hF:∀ a∈F,(a∈hs.flatMap (·.F) ∨ H a=none)/\Mu H' a) (hp:Rp Γ.K H' r.t v F)
  (hk:(r.k = .ow/\∀ h∈hs,h.e.r.k = .ow) ∨ ∃ k,r.k = .io k/\Γ.iov[k]?=some v) (hkey:∀ j,key=some j->j ∉ L.filterMap fun h=>h.e.key):GW Γ H' (⟨⟨key,v,r⟩,F⟩::L):=by
 have iow:r.k.isOw=true:=by rcases hk with⟨e,_⟩ | ⟨k,e,_⟩<;>rw [e]<;>rfl
 have eo:=own_eq ho
 have G':=G.nd
 rw [List.flatMap_append,eo] at G'
 have nd1:=(List.nodup_append.mp G').2.1
 have dj:=(List.nodup_append.mp G').2.2
 have adL:∀ a∈L.flatMap Hd.own,Mu H a/\(Γ.H0 a=none ∨ a ∈ Γ.io):=fun a ha=>G.ad a (by rw [List.flatMap_append];exact List.mem_append_right _ ha)
 have adM:∀ a∈hs.flatMap (·.F),Mu H a/\(Γ.H0 a=none ∨ a ∈ Γ.io):=fun a ha=>G.ad a (by rw [List.flatMap_append,eo];exact List.mem_append_left _ ha)
 have ap:=G.apart hr ho
 have apM:∀ g∈L,∀ a∈g.F,a ∉ hs.flatMap (·.F):=fun g hg a ha hm=>by
  obtain⟨h,hh,hah⟩:=List.mem_flatMap.mp hm
  exact ap g hg a ha h hh hah
 have eF:Hd.own ⟨⟨key,v,r⟩,F⟩=F:=by unfold Hd.own;rw [if_pos iow]
 have f0:∀ a∈F,Γ.H0 a=none ∨ a ∈ Γ.io:=fun a ha=>by
  rcases (hF a ha).1 with z | z
  ·exact (adM a z).2
  ·exact .inl (G.new0 z)
 refine⟨?_,fun a ha=>?_,fun x hx=>?_,fun x hx=>?_,?_,fun b o e n=>?_,fun a ha=>?_⟩
 ·rw [List.flatMap_cons,eF]
  refine List.nodup_append.mpr ⟨nd,nd1,fun a ha b hb=>?_⟩
  rintro rfl
  rcases (hF a ha).1 with z | z
  ·exact dj a z a hb rfl
  ·obtain⟨o,e,_⟩:=(adL a hb).1
   rw [z] at e;cases e
 ·rw [List.flatMap_cons,eF] at ha
  rcases List.mem_append.mp ha with ha | ha
  ·exact⟨(hF a ha).2,f0 a ha⟩
  ·obtain⟨⟨o,e,m⟩,z⟩:=adL a ha
   exact⟨⟨o,off a o e fun hm=>dj a hm a ha rfl,m⟩,z⟩
 ·rcases List.mem_cons.mp hx with rfl | hx
  ·exact hp
  ·exact (G.rp x (List.mem_append_right _ hx)).off off (fun a ha=>(adM a ha).1) (apM x hx)
 ·rcases List.mem_cons.mp hx with rfl | hx
  ·unfold KdOk
   rcases hk with⟨e,eh⟩ | ⟨k,e,ek⟩
   ·simp only [e]
    intro a ha
    rcases (hF a ha).1 with z | z
    ·obtain⟨h,hh,hah⟩:=List.mem_flatMap.mp z
     have q:=G.kd h (List.mem_append_left _ hh)
     unfold KdOk at q
     rw [eh h hh] at q
     exact q a hah
    ·exact G.new0 z
   ·simp only [e];exact ek
  ·have k:=G.kd x (List.mem_append_right _ hx)
   have st:∀ a∈x.F,a ∉ (hs++L).flatMap Hd.own->a ∉ ((⟨⟨key,v,r⟩,F⟩:Hd)::L).flatMap Hd.own:=fun a ha n z=>by
    rw [List.flatMap_cons,eF] at z
    rcases List.mem_append.mp z with z | z
    ·rcases (hF a z).1 with w | w
     ·exact n (by rw [List.flatMap_append,eo];exact List.mem_append_left _ w)
     ·obtain⟨o,e⟩:=(G.rp x (List.mem_append_right _ hx)).dom a ha
      rw [w] at e;cases e
    ·exact n (by rw [List.flatMap_append];exact List.mem_append_right _ z)
   unfold KdOk at k ⊢
   split at k
   ·exact k
   ·exact k
   ·exact fun a ha=>st a ha (k a ha)
   ·rename_i j p e
    obtain⟨g,h1,h2,h3,h4,h5⟩:=k
    rcases List.mem_append.mp h1 with hg | hg
    ·exact absurd (by rw [e];rfl) (hr x hx g hg j h2)
    ·refine⟨g,List.mem_cons_of_mem _ hg,h2,h3,fun a ha=>(h4 a ha).imp id (st a ha),fun q hq=>⟨(h5 q hq).1,?_⟩⟩
     exact atP_off off (F:=g.F) (apM g hg) (G.muF (List.mem_append_right _ hg) h3) (fun a ha=>ha) (G.ndF (List.mem_append_right _ hg) h3) (G.rp g (List.mem_append_right _ hg)) (h5 q hq).1 (h5 q hq).2
 ·have g:=G.ks
  rw [List.filterMap_append] at g
  have g2:=(List.nodup_append.mp g).2.1
  rw [List.filterMap_cons]
  cases key with
  | none=>exact g2
  | some j=>exact List.nodup_cons.mpr ⟨hkey j rfl,g2⟩
 ·refine off b o (G.fr b o e n) fun hm=>?_
  rcases (adM b hm).2 with z | z
  ·rw [z] at e;cases e
  ·exact n z
 ·obtain⟨o,e⟩:=G.iol a ha
  by_cases hm:a∈hs.flatMap (·.F)
  ·exact dom a hm
  ·exact⟨o,off a o e hm⟩
end
end L2
namespace L2
open PySem PySem.Spec PyProof.Rows
theorem perm_lift {α β:Type}{f : α->β}{N M:List β}(p:N.Perm M):∀ L:List α,L.map f=N->∃ L',L.Perm L'/\L'.map f=M:=by
 induction p with
 | nil=>intro L h;exact⟨L,List.Perm.refl _,h⟩
 | cons x p ih=>
  intro L h
  cases L with
  | nil=>cases h
  | cons a L=>
   rw [List.map_cons,List.cons.injEq] at h
   obtain⟨L',h1,h2⟩:=ih L h.2
   exact⟨a::L',h1.cons a,by rw [List.map_cons,h.1,h2]⟩
 | swap x y l=>
  intro L h
  cases L with
  | nil=>cases h
  | cons a L=>
   cases L with
   | nil=>cases h
   | cons b L=>
    simp only [List.map_cons,List.cons.injEq] at h
    exact⟨b::a::L,List.Perm.swap _ _ _,by simp [h.1,h.2.1,h.2.2]⟩
 | trans p q ih1 ih2=>
  intro L h
  obtain⟨L1,h1,h2⟩:=ih1 L h
  obtain⟨L2,h3,h4⟩:=ih2 L1 h2
  exact⟨L2,h1.trans h3,h4⟩
noncomputable def SimL (Γ:Gm) (H:Hp) (X:List En):Prop:=∃ L,GW Γ H L/\L.map (·.e)=X
section
variable  {Γ:Gm}{H H':Hp}{X Y:List En}{e:En}
theorem SimL.perm (S:SimL Γ H X)(p:X.Perm Y):SimL Γ H Y:=by
 obtain⟨L,g,e⟩:=S
 obtain⟨L',h1,h2⟩:=perm_lift p L e
 exact⟨L',g.perm h1,h2⟩
theorem zba {α β:Type}{f : α->β}{L:List α}{b : β}{X:List β}(h:L.map f=b::X):∃ a L',L=a::L'/\f a=b/\L'.map f=X:=by
 cases L with
 | nil=>cases h
 | cons a L=>rw [List.map_cons,List.cons.injEq] at h;exact⟨a,L,rfl,h.1,h.2⟩
theorem zrd {α β:Type}{f : α->β}:∀ {A:List β} {L:List α} {B:List β},L.map f=A++B->∃ L1 L2,L=L1++L2/\L1.map f=A/\L2.map f=B
 | [],L,B,h=>⟨[],L,rfl,rfl,h⟩
 | a::A,L,B,h=>by
  obtain⟨x,L',rfl,h1,h2⟩:=zba h
  obtain⟨L1,L2,rfl,h3,h4⟩:=zrd h2
  exact⟨x::L1,L2,rfl,by rw [List.map_cons,h1,h3],h4⟩
theorem SimL.drop (S:SimL Γ H (e::X))(hk:e.key=none):SimL Γ H X:=by
 obtain⟨L,g,h⟩:=S
 obtain⟨x,L',rfl,h1,h2⟩:=zba h
 subst h1
 exact⟨L',g.drop hk,h2⟩
theorem SimL.dropK (S:SimL Γ H (e::X))(hr:∀ g∈X,∀ j,e.key=some j->g.r.k.root≠some j):SimL Γ H X:=by
 obtain⟨L,g,h⟩:=S
 obtain⟨x,L',rfl,h1,h2⟩:=zba h
 subst h1
 refine⟨L',g.dropK fun y hy j hj=>hr y.e (by rw [← h2];exact List.mem_map_of_mem hy) j hj,h2⟩
noncomputable def zia (M:List Nat) (e:En):Bool:=match e.r.k.root with
 | some j=>!M.contains j
 | none=>true
noncomputable def zm (M:List Nat) (E:List En):List En:=E.filter (zia M)
theorem keepE_nil (e:En):zia [] e=true:=by unfold zia;split<;>rfl
theorem zgc (E:List En):zm [] E=E:=by unfold zm;rw [List.filter_eq_self];intro a _;exact keepE_nil a
theorem zaa (M:List Nat)(A B:List En):zm M (A++B)=zm M A++zm M B:=List.filter_append ..
theorem keepE_app (M N:List Nat)(e:En):zia (M++N) e=(zia N e && zia M e):=by
 unfold zia
 split
 ·rename_i j _
  by_cases h1:j∈M<;>by_cases h2:j∈N<;>simp [h1,h2]
 ·rfl
theorem zh (M N:List Nat)(E:List En):zm N (zm M E)=zm (M++N) E:=by
 unfold zm
 rw [List.filter_filter]
 congr 1
 funext e
 rw [keepE_app]
theorem SimL.kill (S:SimL Γ H X)(M:List Nat):SimL Γ H (zm M X):=by
 obtain⟨L,g,h⟩:=S
 refine⟨L.filter fun x=>zia M x.e,g.filter _ fun x _ ho=>?_,?_⟩
 ·unfold zia
  cases k:x.e.r.k with
  | vw r p=>rw [k] at ho;cases ho
  | ow=>rfl
  | io _=>rfl
 ·rw [← h];unfold zm;rw [List.filter_map];rfl
theorem SimL.push (S:SimL Γ H X){v:V}{i:I}(h:RpI Γ.K H i v):SimL Γ H (⟨none,v,⟨.ow,.im i⟩⟩::X):=by
 obtain⟨L,g,hX⟩:=S
 exact⟨_,g.push (v:=v) (r:=⟨.ow,.im i⟩) (rp_im h) (fun a ha=>by cases ha) (.inr rfl),by rw [List.map_cons,hX]⟩
theorem SimL.rekey (S:SimL Γ H (e::X))(hk:e.key=none){key:Option Nat}(hn:∀ j,key=some j->∀ g∈X,g.key≠some j):SimL Γ H (⟨key,e.v,e.r⟩::X):=by
 obtain⟨L,g,h⟩:=S
 obtain⟨x,L',rfl,h1,h2⟩:=zba h
 subst h1
 refine⟨_,g.rekey hk (key:=key) fun j hj hm=>?_,by rw [List.map_cons,h2]⟩
 obtain⟨y,hy,hyk⟩:=List.mem_filterMap.mp hm
 exact hn j hj y.e (by rw [← h2];exact List.mem_map_of_mem hy) hyk
theorem SimL.rd (S:SimL Γ H X)(he:e∈X):∃ F,Rp Γ.K H e.r.t e.v F:=by
 obtain⟨L,g,rfl⟩:=S
 obtain⟨h,hh,rfl⟩:=List.mem_map.mp he
 exact⟨h.F,g.rp h hh⟩
theorem SimL.view (S:SimL Γ H X)(he:e∈X){j:Nat}(hk:e.key=some j)(ho:e.r.k.isOw=true):SimL Γ H (⟨none,e.v,⟨.vw (some j) (some []),e.r.t⟩⟩::X):=by
 obtain⟨L,g,rfl⟩:=S
 obtain⟨h,hh,rfl⟩:=List.mem_map.mp he
 exact⟨_,g.push (v:=h.e.v) (r:=⟨.vw (some j) (some []),h.e.r.t⟩) (g.rp h hh) ⟨h,hh,hk,ho,fun a ha=>.inl ha,fun q hq=>by cases hq;exact⟨rfl,rfl⟩⟩ (.inl rfl),rfl⟩
theorem SimL.copy (S:SimL Γ H X)(he:e∈X)(ho:e.r.k.isOw=false):SimL Γ H (⟨none,e.v,e.r⟩::X):=by
 obtain⟨L,g,rfl⟩:=S
 obtain⟨h,hh,rfl⟩:=List.mem_map.mp he
 exact⟨_,g.push (v:=h.e.v) (r:=h.e.r) (F:=h.F) (g.rp h hh) (g.kd h hh) (.inl ho),rfl⟩
theorem SimL.part (S:SimL Γ H X)(he:e∈X){ro:Option Nat}{p:Option (List Ac)}(ho:e.r.k = .vw ro p){P:V->Prop}{s:T}(hp:∀ F,Rp Γ.K H e.r.t e.v F->∃ w G,P w/\Rp Γ.K H s w G/\∀ a∈G,a∈F):∃ w,P w/\SimL Γ H (⟨none,w,⟨.vw ro none,s⟩⟩::X):=by
 obtain⟨L,g,rfl⟩:=S
 obtain⟨h,hh,rfl⟩:=List.mem_map.mp he
 obtain⟨w,G,h1,h2,h3⟩:=hp h.F (g.rp h hh)
 refine⟨w,h1,_,g.push (v:=w) (r:=⟨.vw ro none,s⟩) (F:=G) h2 ?_ (.inl rfl),rfl⟩
 have k:=g.kd h hh
 unfold KdOk at k ⊢
 rw [ho] at k
 cases ro with
 | none=>exact fun a ha=>k a (h3 a ha)
 | some j=>
  obtain⟨x,x1,x2,x3,x4,x5⟩:=k
  exact⟨x,x1,x2,x3,fun a ha=>x4 a (h3 a ha),fun q hq=>by cases hq⟩
theorem SimL.partP (S:SimL Γ H X)(he:e∈X){j:Nat}{q:List Ac}(ho:e.r.k = .vw (some j) (some q)){a:Ac}{s:T}(hs:sub1 e.r.t a=some s):∃ w,at1 Γ.K H e.v a w/\SimL Γ H (⟨none,w,⟨.vw (some j) (some (q++[a])),s⟩⟩::X):=by
 obtain⟨L,g,rfl⟩:=S
 obtain⟨h,hh,rfl⟩:=List.mem_map.mp he
 have k:=g.kd h hh
 unfold KdOk at k
 rw [ho] at k
 obtain⟨x,x1,x2,x3,x4,x5⟩:=k
 obtain⟨y1,y2⟩:=x5 q rfl
 have ms:x.e.r.t.sub (q++[a])=some s:=sub_app y1 hs
 obtain⟨w,A,G,B,z1,z2,z3,_⟩:=(g.rp x x1).atP (g.muF x1 x3) (g.ndF x1 x3) ms
 obtain⟨w0,A0,G0,B0,u1,u2,u3,_⟩:=(g.rp x x1).atP (g.muF x1 x3) (g.ndF x1 x3) y1
 have ew:=atP_det u1 y2
 subst ew
 have nG:G0.Nodup:=by
  have:=g.ndF x1 x3
  rw [u3] at this
  exact (List.nodup_append.mp (List.nodup_append.mp this).1).2.1
 have mG:∀ b∈G0,Mu H b:=fun b hb=>g.muF x1 x3 b (by rw [u3];exact List.mem_append_left _ (List.mem_append_right _ hb))
 obtain⟨w',A',G',B',v1,v2,v3,_⟩:=u2.at1 mG nG hs
 have e2:=atP_det (atP_app u1 v1) z1
 subst e2
 refine⟨w',v1,_,g.push (v:=w') (r:=⟨.vw (some j) (some (q++[a])),s⟩) (F:=G) z2 ⟨x,x1,x2,x3,fun b hb=>.inl (by rw [z3];exact List.mem_append_left _ (List.mem_append_right _ hb)),fun q' hq=>?_⟩ (.inl rfl),rfl⟩
 cases hq
 exact⟨ms,z1⟩
noncomputable def temps:List V->List T->List En
 | v::vs,t::ts=>⟨none,v,⟨.ow,t⟩⟩::temps vs ts
 | _,_=>[]
theorem temps_hs:∀ {vs:List V} {ts:List T} {L:List Hd},vs.length=ts.length->L.map (·.e)=temps vs ts->(∀ h∈L,Rp Γ.K H h.e.r.t h.e.v h.F)->Rps Γ.K H ts vs (L.flatMap (·.F))/\∀ h∈L,h.e.r.k = .ow/\h.e.key=none
 | [],[],L,_,h,_=>by
  have:L = []:=List.map_eq_nil_iff.mp h
  subst this
  exact⟨Rps.nil,by simp⟩
 | v::vs,t::ts,L,hl,h,hr=>by
  obtain⟨x,L',rfl,h1,h2⟩:=zba h
  obtain⟨r1,r2⟩:=temps_hs (vs:=vs) (ts:=ts) (by simpa using hl) h2 fun y hy=>hr y (List.mem_cons_of_mem _ hy)
  have rx:=hr x List.mem_cons_self
  rw [h1] at rx
  rw [List.flatMap_cons]
  refine⟨Rps.cons rx r1,fun y hy=>?_⟩
  rcases List.mem_cons.mp hy with rfl | hy
  ·rw [h1];exact⟨rfl,rfl⟩
  ·exact r2 y hy
 | [],_::_,_,h,_,_=>by cases h
 | _::_,[],_,h,_,_=>by cases h
theorem SimL.use {vs:List V}{ts:List T}(S:SimL Γ H (temps vs ts++X))(hl:vs.length=ts.length):∃ F,Rps Γ.K H ts vs F/\F.Nodup/\(∀ a∈F,Mu H a) ∧
  ∀ H' v t F',OffM F H H'->(∀ a∈F,∃ o,H' a=some o)->F'.Nodup->(∀ a∈F',(a∈F ∨ H a=none)/\Mu H' a)->Rp Γ.K H' t v F'->SimL Γ H' (⟨none,v,⟨.ow,t⟩⟩::X):=by
 obtain⟨L,g,h⟩:=S
 obtain⟨hs,L2,rfl,h1,h2⟩:=zrd h
 obtain⟨r1,r2⟩:=temps_hs hl h1 fun y hy=>g.rp y (List.mem_append_left _ hy)
 have ho:∀ h∈hs,h.e.r.k.isOw=true:=fun h hh=>by rw [(r2 h hh).1];rfl
 have nd:=g.nd
 rw [List.flatMap_append,own_eq ho] at nd
 refine⟨_,r1,(List.nodup_append.mp nd).1,fun a ha=>(g.ad a (by rw [List.flatMap_append,own_eq ho];exact List.mem_append_left _ ha)).1,fun H' v t F' off dom nd' hF rp=>?_⟩
 refine⟨_,g.step ho (fun x _ y hy j hj=>by rw [(r2 y hy).2] at hj;cases hj) off dom (key:=none) (v:=v) (r:=⟨.ow,t⟩) nd' hF rp (.inl ⟨rfl,fun y hy=>(r2 y hy).1⟩) (fun j hj=>by cases hj),by rw [List.map_cons,h2]⟩
theorem SimL.mutP {vs:List V}{ts:List T}{p:List Ac}{s:T}(S:SimL Γ H (e::temps vs ts++X))(hl:vs.length=ts.length)(ho:e.r.k.isOw=true)(hr:∀ g∈X,∀ j,e.key=some j->g.r.k.root≠some j)(hs:e.r.t.sub p=some s)(hX:∀ j,e.key=some j->∀ g∈X,g.key≠some j) :
  ∃ w G F,atP Γ.K H e.v p w/\Rp Γ.K H s w G/\Rps Γ.K H ts vs F/\(G++F).Nodup/\(∀ a∈G++F,Mu H a) ∧
  ∀ H' s' G',OffM G H H'->(∀ a∈G,∃ o,H' a=some o)->G'.Nodup->(∀ a∈G',(a∈G++F ∨ H a=none)/\Mu H' a)->Rp Γ.K H' s' w G'->SimL Γ H' (⟨e.key,e.v,⟨e.r.k,e.r.t.put p s'⟩⟩::X):=by
 obtain⟨L,g,h⟩:=S
 rw [List.cons_append] at h
 obtain⟨x,L',rfl,h1,h2⟩:=zba h
 obtain⟨hs',L2,rfl,h3,h4⟩:=zrd h2
 subst h1
 obtain⟨r1,r2⟩:=temps_hs hl h3 fun y hy=>g.rp y (List.mem_cons_of_mem _ (List.mem_append_left _ hy))
 have ho':∀ h∈x::hs',h.e.r.k.isOw=true:=fun h hh=>by
  rcases List.mem_cons.mp hh with rfl | hh
  ·exact ho
  ·rw [(r2 h hh).1];rfl
 have nx:=g.ndF List.mem_cons_self ho
 obtain⟨w,A,G,B,z1,z2,z3,z4⟩:=(g.rp x List.mem_cons_self).atP (g.muF List.mem_cons_self ho) nx hs
 have nd:=g.nd
 rw [show x::(hs'++L2)=(x::hs')++L2 from rfl,List.flatMap_append,own_eq ho'] at nd
 have nd1:=(List.nodup_append.mp nd).1
 rw [List.flatMap_cons,z3] at nd1
 have mu:∀ a∈(x::hs').flatMap (·.F),Mu H a:=fun a ha=>(g.ad a (by rw [show x::(hs'++L2)=(x::hs')++L2 from rfl,List.flatMap_append,own_eq ho'];exact List.mem_append_left _ ha)).1
 have inM:∀ a,a∈G++hs'.flatMap (·.F)->a∈(x::hs').flatMap (·.F):=fun a ha=>by
  rw [List.flatMap_cons,z3]
  rcases List.mem_append.mp ha with z | z
  ·exact List.mem_append_left _ (List.mem_append_left _ (List.mem_append_right _ z))
  ·exact List.mem_append_right _ z
 have ndA:=(List.nodup_append.mp nd1)
 have ndG:(G++hs'.flatMap (·.F)).Nodup:=List.nodup_append.mpr ⟨(List.nodup_append.mp (List.nodup_append.mp ndA.1).1).2.1,ndA.2.1,fun a ha b hb=>ndA.2.2 a (List.mem_append_left _ (List.mem_append_right _ ha)) b hb⟩
 refine⟨w,G,hs'.flatMap (·.F),z1,z2,r1,ndG,fun a ha=>mu a (inM a ha),fun H' s' G' off dom nd' hG rp=>?_⟩
 have apAB:∀ a,(a∈A ∨ a∈B)->a ∉ G++hs'.flatMap (·.F):=fun a ha hm=>by
  rcases List.mem_append.mp hm with z | z
  ·rcases ha with q | q
   ·exact (List.nodup_append.mp (List.nodup_append.mp ndA.1).1).2.2 a q a z rfl
   ·exact (List.nodup_append.mp ndA.1).2.2 a (List.mem_append_right _ z) a q rfl
  ·rcases ha with q | q
   ·exact ndA.2.2 a (List.mem_append_left _ (List.mem_append_left _ q)) a z rfl
   ·exact ndA.2.2 a (List.mem_append_right _ q) a z rfl
 have rp':=z4 H' s' G' off rp
 refine⟨_,g.step (hs:=x::hs') (L:=L2) ho' (fun y hy z hz j hj=>?_) (off.mono fun a ha=>inM a (List.mem_append_left _ ha)) (fun a ha=>?_) (key:=x.e.key) (v:=x.e.v) (r:=⟨x.e.r.k,x.e.r.t.put p s'⟩) (F:=A++G'++B) ?_ (fun a ha=>?_) rp' ?_ (fun j hj hm=>?_),by rw [List.map_cons,h4]⟩
 ·rcases List.mem_cons.mp hz with rfl | hz
  ·exact hr y.e (by rw [← h4];exact List.mem_map_of_mem hy) j hj
  ·rw [(r2 z hz).2] at hj;cases hj
 ·by_cases hm:a∈G
  ·exact dom a hm
  ·obtain⟨o,e1,_⟩:=mu a ha
   exact⟨o,off a o e1 hm⟩
 ·have ab:=List.nodup_append.mp ndA.1
  have aG:=List.nodup_append.mp ab.1
  have nG:∀ a,(a∈A ∨ a∈B)->a ∉ G':=fun a ha hg=>by
   rcases (hG a hg).1 with z | z
   ·exact apAB a ha z
   ·have:Mu H a:=mu a (by
     rw [List.flatMap_cons,z3]
     rcases ha with q | q
     ·exact List.mem_append_left _ (List.mem_append_left _ (List.mem_append_left _ q))
     ·exact List.mem_append_left _ (List.mem_append_right _ q))
    obtain⟨o,e1,_⟩:=this
    rw [z] at e1;cases e1
  refine List.nodup_append.mpr ⟨List.nodup_append.mpr ⟨aG.1,nd',fun a ha b hb e=>nG a (.inl ha) (e ▸ hb)⟩,ab.2.1,fun a ha b hb e=>?_⟩
  subst e
  rcases List.mem_append.mp ha with z | z
  ·exact ab.2.2 a (List.mem_append_left _ z) a hb rfl
  ·exact nG a (.inr hb) z
 ·have old:a∈A ∨ a∈B->(a∈(x::hs').flatMap (·.F) ∨ H a=none)/\Mu H' a:=fun q=>by
   have hm:a∈(x::hs').flatMap (·.F):=by
    rw [List.flatMap_cons,z3]
    rcases q with q | q
    ·exact List.mem_append_left _ (List.mem_append_left _ (List.mem_append_left _ q))
    ·exact List.mem_append_left _ (List.mem_append_right _ q)
   obtain⟨o,e1,m1⟩:=mu a hm
   exact⟨.inl hm,o,off a o e1 (fun z=>apAB a q (List.mem_append_left _ z)),m1⟩
  rcases List.mem_append.mp ha with z | z
  ·rcases List.mem_append.mp z with z | z
   ·exact old (.inl z)
   ·exact⟨(hG a z).1.imp (inM a) id,(hG a z).2⟩
  ·exact old (.inr z)
 ·have k:=g.kd x List.mem_cons_self
  unfold KdOk at k
  cases ek:x.e.r.k with
  | ow=>
   refine .inl ⟨rfl,fun y hy=>?_⟩
   rcases List.mem_cons.mp hy with rfl | hy
   ·exact ek
   ·exact (r2 y hy).1
  | io n=>rw [ek] at k;exact .inr ⟨n,rfl,k⟩
  | vw a b=>rw [ek] at ho;cases ho
 ·obtain⟨y,hy,hyk⟩:=List.mem_filterMap.mp hm
  exact hX j hj y.e (by rw [← h4];exact List.mem_map_of_mem hy) hyk
end
end L2
namespace L2
open PySem PySem.Spec PyProof.Rows
noncomputable abbrev Rho:=List (Option R)
noncomputable def ents:Nat->List (Option V)->Rho->List En
 | i,some v::σ,some r::ρ=>⟨some i,v,r⟩::ents (i+1) σ ρ
 | i,none::σ,_::ρ=>ents (i+1) σ ρ
 | i,some _::σ,none::ρ=>ents (i+1) σ ρ
 | _,_,_=>[]
theorem zcb {r:R}:∀ {k:Nat} {σ:List (Option V)} {ρ:Rho} {i:Nat} {v:V},σ[i]?=some (some v)->ρ[i]?=some (some r)->(ents k σ ρ).Perm (⟨some (k+i),v,r⟩::ents k σ (ρ.set i none))
 | _,[],_,_,_,h,_=>by simp at h
 | _,_::_,[],_,_,_,h=>by simp at h
 | k,x::σ,y::ρ,0,v,h1,h2=>by
  simp at h1 h2
  subst h1 h2
  simp [ents]
 | k,x::σ,y::ρ,i+1,v,h1,h2=>by
  have ih:=zcb (k:=k+1) (σ:=σ) (ρ:=ρ) (i:=i) (v:=v) (r:=r) (by simpa using h1) (by simpa using h2)
  rw [show k+1+i=k+(i+1) by omega] at ih
  cases x with
  | none=>simpa [ents] using ih
  | some x=>
   cases y with
   | none=>simpa [ents] using ih
   | some y=>
    simp only [ents,List.set_cons_succ]
    exact (List.Perm.cons _ ih).trans (List.Perm.swap _ _ _)
theorem ents_none:∀ {k:Nat} {σ:List (Option V)} {ρ:Rho} {i:Nat} {x:Option V},ents k (σ.set i x) (ρ.set i none)=ents k σ (ρ.set i none)
 | _,[],ρ,_,_=>rfl
 | _,x::σ,[],i,y=>by cases i<;>cases x<;>simp [ents]<;>cases y<;>simp [ents]
 | _,x::σ,y::ρ,0,z=>by cases x<;>cases z<;>simp [ents]
 | k,x::σ,y::ρ,i+1,z=>by
  have ih:=ents_none (k:=k+1) (σ:=σ) (ρ:=ρ) (i:=i) (x:=z)
  cases x<;>cases y<;>simp [ents,ih]
theorem ents_put {k:Nat}{σ:List (Option V)}{ρ:Rho}{i:Nat}{v:V}{r:R}(h1:i < σ.length)(h2:i < ρ.length):(ents k (σ.set i (some v)) (ρ.set i (some r))).Perm (⟨some (k+i),v,r⟩::ents k σ (ρ.set i none)):=by
 have:=zcb (k:=k) (σ:=σ.set i (some v)) (ρ:=ρ.set i (some r)) (i:=i) (v:=v) (r:=r) (by simp [h1]) (by simp [h2])
 rw [List.set_set,ents_none] at this
 exact this
theorem zvc {e:En}:∀ {k:Nat} {σ:List (Option V)} {ρ:Rho},e∈ents k σ ρ->∃ i,e.key=some (k+i)/\ρ[i]?=some (some e.r)/\σ[i]?=some (some e.v)
 | _,[],_,h=>by simp [ents] at h
 | _,x::_,[],h=>by cases x<;>simp [ents] at h
 | k,x::σ,y::ρ,h=>by
  have go:e∈ents (k+1) σ ρ->∃ i,e.key=some (k+i)/\(y::ρ)[i]?=some (some e.r)/\(x::σ)[i]?=some (some e.v):=fun h=>by
   obtain⟨i,h1,h2,h3⟩:=zvc h
   exact⟨i+1,by rw [h1];congr 1;omega,by simpa using h2,by simpa using h3⟩
  cases x with
  | none=>simp only [ents] at h;exact go h
  | some x=>
   cases y with
   | none=>simp only [ents] at h;exact go h
   | some y=>
    simp only [ents] at h
    rcases List.mem_cons.mp h with rfl | h
    ·exact⟨0,rfl,rfl,rfl⟩
    ·exact go h
noncomputable def zre (M:List Nat) (r:R):Bool:=match r.k.root with
 | some j=>!M.contains j
 | none=>true
noncomputable def zqd (M:List Nat):Option R->Option R
 | some r=>if zre M r=true then some r else none
 | none=>none
noncomputable def zy (M:List Nat) (ρ:Rho):Rho:=ρ.map (zqd M)
theorem zca (M:List Nat)(ρ:Rho):(zy M ρ).length=ρ.length:=by unfold zy;rw [List.length_map]
theorem zzd (M:List Nat):∀ {k:Nat} {σ:List (Option V)} {ρ:Rho},ents k σ (zy M ρ)=zm M (ents k σ ρ)
 | _,[],_=>rfl
 | _,x::_,[]=>by cases x<;>rfl
 | k,x::σ,y::ρ=>by
  have ih:=zzd M (k:=k+1) (σ:=σ) (ρ:=ρ)
  have e:zy M (y::ρ)=zqd M y::zy M ρ:=rfl
  rw [e]
  cases x with
  | none=>simpa [ents] using ih
  | some v=>
   cases y with
   | none=>simpa [ents,zqd] using ih
   | some r=>
    have hk:zia M ⟨some k,v,r⟩=zre M r:=rfl
    cases q:zre M r with
    | true=>simp only [ents,zqd,q,if_true,zm,List.filter_cons,hk,ih]
    | false=>
     simp only [ents,zqd,q,zm,List.filter_cons,hk,ih]
     simp [ents,ih,zm]
theorem killR_get {M:List Nat}{ρ:Rho}{i:Nat}{r:R}(h:(zy M ρ)[i]?=some (some r)) : ρ[i]?=some (some r):=by
 unfold zy at h
 rw [List.getElem?_map] at h
 cases q : ρ[i]? with
 | none=>rw [q] at h;cases h
 | some o=>
  rw [q] at h
  cases o with
  | none=>cases h
  | some x=>
   have h':zqd M (some x)=some r:=by simpa using h
   simp only [zqd] at h'
   split at h'
   ·rw [Option.some.inj h']
   ·exact absurd h' (by simp)
theorem killR_own {M:List Nat}{ρ:Rho}{i:Nat}{r:R}(h : ρ[i]?=some (some r))(ho:r.k.isOw=true):(zy M ρ)[i]?=some (some r):=by
 unfold zy
 rw [List.getElem?_map,h]
 have:zre M r=true:=by
  unfold zre
  cases e:r.k with
  | vw a b=>rw [e] at ho;cases ho
  | ow=>rfl
  | io _=>rfl
 simp [zqd,this]
structure Sim (Γ:Gm)(H:Hp)(ρ:Rho)(σ:St)(E:List En):Prop where
 sl:SimL Γ H (E++ents 0 σ ρ)
 al:∀ (i:Nat) r,ρ[i]?=some (some r)->∃ v,σ[i]?=some (some v)
 len : σ.length=ρ.length
 hi:∀ e∈E,∀ j,e.key=some j->ρ.length<=j
section
variable  {Γ:Gm}{H H':Hp}{ρ:Rho}{σ:St}{E E':List En}{e:En}{r:R}{v w x:V}{i j:Nat}{t s:T}
theorem Sim.perm (S:Sim Γ H ρ σ E)(p:E.Perm E'):Sim Γ H ρ σ E':=⟨S.sl.perm (p.append_right _),S.al,S.len,fun e he=>S.hi e (p.mem_iff.mpr he)⟩
theorem Sim.drop (S:Sim Γ H ρ σ (e::E))(hk:e.key=none):Sim Γ H ρ σ E:=⟨S.sl.drop hk,S.al,S.len,fun x hx=>S.hi x (List.mem_cons_of_mem _ hx)⟩
theorem Sim.swap {f:En}(S:Sim Γ H ρ σ (e::f::E)):Sim Γ H ρ σ (f::e::E):=S.perm (List.Perm.swap _ _ _)
theorem Sim.imm (S:Sim Γ H ρ σ E){i:I}(h:RpI Γ.K H i v):Sim Γ H ρ σ (⟨none,v,⟨.ow,.im i⟩⟩::E):=
 ⟨S.sl.push h,S.al,S.len,fun x hx j hj=>by
  rcases List.mem_cons.mp hx with rfl | hx
  ·cases hj
  ·exact S.hi x hx j hj⟩
theorem Sim.rd (S:Sim Γ H ρ σ E)(he:e∈E):∃ F,Rp Γ.K H e.r.t e.v F:=S.sl.rd (List.mem_append_left _ he)
theorem Sim.slot (S:Sim Γ H ρ σ E)(h : ρ[i]?=some (some r)):∃ v,σ[i]?=some (some v)/\(⟨some i,v,r⟩:En)∈E++ents 0 σ ρ:=by
 obtain⟨v,hv⟩:=S.al i r h
 refine⟨v,hv,List.mem_append_right _ ((zcb hv h).mem_iff.mpr ?_)⟩
 rw [Nat.zero_add];exact List.mem_cons_self
noncomputable def rdR (i:Nat):R->R
 | ⟨.ow,.im x⟩=>⟨.ow,.im x⟩
 | ⟨.vw a b,t⟩=>⟨.vw a b,t⟩
 | ⟨_,t⟩=>⟨.vw (some i) (some []),t⟩
theorem Sim.cons (S:Sim Γ H ρ σ E)(h:SimL Γ H' (⟨none,v,r⟩::(E++ents 0 σ ρ))):Sim Γ H' ρ σ (⟨none,v,r⟩::E):=
 ⟨h,S.al,S.len,fun x hx j hj=>by
  rcases List.mem_cons.mp hx with rfl | hx
  ·cases hj
  ·exact S.hi x hx j hj⟩
theorem Sim.var (S:Sim Γ H ρ σ E)(h : ρ[i]?=some (some r)):∃ v,σ[i]?=some (some v)/\Sim Γ H ρ σ (⟨none,v,rdR i r⟩::E):=by
 obtain⟨v,hv,hm⟩:=S.slot h
 refine⟨v,hv,S.cons ?_⟩
 obtain⟨k,t⟩:=r
 cases k with
 | vw a b=>exact S.sl.copy (e:=⟨some i,v,⟨.vw a b,t⟩⟩) hm rfl
 | io n=>
  have:=S.sl.view (e:=⟨some i,v,⟨.io n,t⟩⟩) hm rfl rfl
  cases t<;>exact this
 | ow=>
  cases t with
  | im x=>
   obtain⟨F,rp⟩:=S.sl.rd hm
   exact S.sl.push (zwa rp).1
  | tup _=>exact S.sl.view (e:=⟨some i,v,⟨.ow,_⟩⟩) hm rfl rfl
  | li _=>exact S.sl.view (e:=⟨some i,v,⟨.ow,_⟩⟩) hm rfl rfl
  | lst _=>exact S.sl.view (e:=⟨some i,v,⟨.ow,_⟩⟩) hm rfl rfl
  | di _=>exact S.sl.view (e:=⟨some i,v,⟨.ow,_⟩⟩) hm rfl rfl
  | dc _=>exact S.sl.view (e:=⟨some i,v,⟨.ow,_⟩⟩) hm rfl rfl
  | ins _ _=>exact S.sl.view (e:=⟨some i,v,⟨.ow,_⟩⟩) hm rfl rfl
theorem Sim.kill (S:Sim Γ H ρ σ E)(M:List Nat):Sim Γ H (zy M ρ) σ (zm M E):=by
 refine⟨?_,fun i r h=>S.al i r (killR_get h),by rw [zca];exact S.len,fun x hx j hj=>by rw [zca];exact S.hi x (List.mem_filter.mp hx).1 j hj⟩
 rw [zzd,← zaa]
 exact S.sl.kill M
theorem noroot {M:List Nat}{X:List En}(hi:i∈M):∀ g∈zm M X,g.r.k.root≠some i:=fun g hg z=>by
 have:=(List.mem_filter.mp hg).2
 unfold zia at this
 rw [z] at this
 simp [hi] at this
theorem Sim.out (S:Sim Γ H ρ σ E)(h : ρ[i]?=some (some r))(ho:r.k.isOw=true):∃ v,σ[i]?=some (some v)/\SimL Γ H (⟨some i,v,r⟩::(zm [i] E++ents 0 σ ((zy [i] ρ).set i none))) ∧
  (∀ g∈zm [i] E++ents 0 σ ((zy [i] ρ).set i none),g.r.k.root≠some i)/\∀ g∈zm [i] E++ents 0 σ ((zy [i] ρ).set i none),g.key≠some i:=by
 obtain⟨v,hv⟩:=S.al i r h
 have S2:=S.kill [i]
 have h2:=killR_own (M:=[i]) h ho
 have hil:i < ρ.length:=(List.getElem?_eq_some_iff.mp h).1
 refine⟨v,hv,S2.sl.perm ?_,fun g hg=>?_,fun g hg hk=>?_⟩
 ·have:=(zcb (k:=0) hv h2).append_left (zm [i] E)
  rw [Nat.zero_add] at this
  exact this.trans List.perm_middle
 ·rcases List.mem_append.mp hg with z | z
  ·exact noroot (by simp) g z
  ·have:g∈ents 0 σ (zy [i] ρ):=by
    obtain⟨m,h1,h3,h4⟩:=zvc z
    have hm:m≠i:=fun e=>by subst e;simp [zca,hil] at h3
    rw [List.getElem?_set_ne (Ne.symm hm)] at h3
    have:=(zcb (k:=0) h4 h3).mem_iff.mpr (List.mem_cons_self)
    have e:g=⟨some (0+m),g.v,g.r⟩:=by cases g;simp only [En.mk.injEq,and_self,and_true];exact h1
    rw [e];exact this
   rw [zzd] at this
   exact noroot (by simp) g this
 ·rcases List.mem_append.mp hg with z | z
  ·have:=S2.hi g z i hk
   rw [zca] at this
   omega
  ·obtain⟨m,h1,h3,h4⟩:=zvc z
   rw [hk,Nat.zero_add] at h1
   cases h1
   simp [zca,hil] at h3
theorem Sim.back (S:Sim Γ H ρ σ E){ρ':Rho}{σ':St}(h:SimL Γ H' (E'++ents 0 σ' ρ'))(hl : ρ'.length=ρ.length)(hσ : σ'.length=σ.length)(al:∀ (i:Nat) r,ρ'[i]?=some (some r)->∃ v,σ'[i]?=some (some v))(hi:∀ e∈E',∀ j,e.key=some j->e∈E):Sim Γ H' ρ' σ' E':=
 ⟨h,al,by rw [hl,hσ];exact S.len,fun e he j hj=>by rw [hl];exact S.hi e (hi e he j hj) j hj⟩
noncomputable def notIo (ρ:Rho) (i:Nat):Bool:=match ρ[i]? with
 | some (some ⟨.io _,_⟩)=>false
 | some _=>true
 | none=>false
theorem al_set {ρ:Rho}{σ:St}(al:∀ (i:Nat) r,ρ[i]?=some (some r)->∃ v,σ[i]?=some (some v))(h1:i < σ.length):∀ (m:Nat) r',(ρ.set i (some r))[m]?=some (some r')->∃ v',(σ.set i (some v))[m]?=some (some v'):=fun m r' hm=>by
 by_cases e:m=i
 ·subst e;exact⟨v,by simp [h1]⟩
 ·rw [List.getElem?_set_ne (Ne.symm e)] at hm ⊢;exact al m r' hm
theorem Sim.put (S:Sim Γ H ρ σ (⟨none,v,r⟩::E))(hi:notIo ρ i=true)(hr:r.k.root≠some i):Sim Γ H ((zy [i] ρ).set i (some r)) (σ.set i (some v)) (zm [i] E):=by
 have hil:i < ρ.length:=by
  unfold notIo at hi
  cases q : ρ[i]? with
  | none=>rw [q] at hi;cases hi
  | some o=>exact (List.getElem?_eq_some_iff.mp q).1
 have hiσ:i < σ.length:=by rw [S.len];exact hil
 have hkeep:zia [i] ⟨none,v,r⟩=true:=by
  unfold zia
  split
  ·rename_i j hj
   have:j≠i:=fun z=>hr (z ▸ hj)
   simp [this]
  ·rfl
 have ek:zm [i] (⟨none,v,r⟩::E)=⟨none,v,r⟩::zm [i] E:=by unfold zm;rw [List.filter_cons,if_pos hkeep]
 have S2:=S.kill [i]
 rw [ek] at S2
 have S3:SimL Γ H (⟨none,v,r⟩::(zm [i] E++ents 0 σ ((zy [i] ρ).set i none)))/\∀ g∈zm [i] E++ents 0 σ ((zy [i] ρ).set i none),g.key≠some i:=by
  cases q:(zy [i] ρ)[i]? with
  | none=>rw [List.getElem?_eq_none_iff,zca] at q;omega
  | some o=>
   cases o with
   | none=>
    have e:(zy [i] ρ).set i none=zy [i] ρ:=by
     apply List.ext_getElem?
     intro m
     by_cases hm:m=i
     ·subst hm;rw [q];simp [zca,hil]
     ·rw [List.getElem?_set_ne (Ne.symm hm)]
    rw [e]
    refine⟨S2.sl,fun g hg hk=>?_⟩
    rcases List.mem_append.mp hg with z | z
    ·have:=S2.hi g (List.mem_cons_of_mem _ z) i hk
     rw [zca] at this;omega
    ·obtain⟨m,h1,h3,h4⟩:=zvc z
     rw [hk,Nat.zero_add] at h1;cases h1
     rw [q] at h3;cases h3
   | some r0=>
    have q0:=killR_get q
    by_cases ho:r0.k.isOw=true
    ·obtain⟨v0,hv0,h1,h2,h3⟩:=S.out q0 ho
     rw [ek] at h1 h2 h3
     refine⟨h1.dropK fun g hg j hj=>by cases hj;exact h2 g hg,fun g hg=>h3 g (List.mem_cons_of_mem _ hg)⟩
    ·obtain⟨v0,hv0⟩:=S.al i r0 q0
     have p:=(zcb (k:=0) hv0 q).append_left (⟨none,v,r⟩::zm [i] E)
     rw [Nat.zero_add] at p
     have h1:=S2.sl.perm (p.trans List.perm_middle)
     refine⟨h1.dropK fun g hg j hj=>?_,fun g hg hk=>?_⟩
     ·cases hj
      have h1':g∈zm [i] (⟨none,v,r⟩::E)++zm [i] (ents 0 σ ρ):=by
       rw [ek,← zzd]
       rcases List.mem_append.mp hg with z | z
       ·exact List.mem_append_left _ z
       ·refine List.mem_append_right _ ?_
        obtain⟨m,h1,h3,h4⟩:=zvc z
        have hm:m≠i:=fun e=>by subst e;simp [zca,hil] at h3
        rw [List.getElem?_set_ne (Ne.symm hm)] at h3
        have:=(zcb (k:=0) h4 h3).mem_iff.mpr (List.mem_cons_self)
        have e:g=⟨some (0+m),g.v,g.r⟩:=by cases g;simp only [En.mk.injEq,and_self,and_true];exact h1
        rw [e];exact this
      rw [← zaa] at h1'
      exact noroot (by simp) g h1'
     ·rcases List.mem_append.mp hg with z | z
      ·have:=S2.hi g (List.mem_cons_of_mem _ z) i hk
       rw [zca] at this;omega
      ·obtain⟨m,h1,h3,h4⟩:=zvc z
       rw [hk,Nat.zero_add] at h1;cases h1
       simp [zca,hil] at h3
 obtain⟨S3,hks⟩:=S3
 have S4:=S3.rekey (e:=⟨none,v,r⟩) rfl (key:=some i) fun j hj g hg=>by cases hj;exact hks g hg
 refine S2.back (S4.perm ?_) (by simp [zca]) (by simp) (al_set S2.al hiσ) (fun e he j hj=>List.mem_cons_of_mem _ he)
 have p:=(ents_put (k:=0) (σ:=σ) (ρ:=zy [i] ρ) (v:=v) (r:=r) hiσ (by rw [zca];exact hil)).append_left (zm [i] E)
 rw [Nat.zero_add] at p
 exact (List.perm_middle.symm).trans p.symm
theorem Sim.mut {vs:List V}{ts:List T}{p:List Ac}{k:Kd}(S:Sim Γ H ρ σ (temps vs ts++⟨none,w,⟨.vw (some i) (some p),s⟩⟩::E))(hl:vs.length=ts.length)(h : ρ[i]?=some (some ⟨k,t⟩))(ho:k.isOw=true) :
  ∃ G F,Rp Γ.K H s w G/\Rps Γ.K H ts vs F/\(G++F).Nodup/\(∀ a∈G++F,Mu H a) ∧
  ∀ H' s' G',OffM G H H'->(∀ a∈G,∃ o,H' a=some o)->G'.Nodup->(∀ a∈G',(a∈G++F ∨ H a=none)/\Mu H' a)->Rp Γ.K H' s' w G'->Sim Γ H' ((zy [i] ρ).set i (some ⟨k,t.put p s'⟩)) σ (zm [i] E):=by
 have hil:i < ρ.length:=(List.getElem?_eq_some_iff.mp h).1
 obtain⟨v0,hv0,hm⟩:=S.slot h
 have pl:t.sub p=some s/\atP Γ.K H v0 p w:=by
  obtain⟨L,g,e⟩:=S.sl
  have:(⟨none,w,⟨.vw (some i) (some p),s⟩⟩:En)∈L.map (·.e):=by rw [e];simp
  obtain⟨y,hy,ey⟩:=List.mem_map.mp this
  have kd:=g.kd y hy
  unfold KdOk at kd
  rw [ey] at kd
  obtain⟨x,x1,x2,x3,x4,x5⟩:=kd
  have hm':(⟨some i,v0,⟨k,t⟩⟩:En)∈L.map (·.e):=by rw [e];exact hm
  obtain⟨z,hz,ez⟩:=List.mem_map.mp hm'
  have:x=z:=by
   have nk:=g.ks
   by_cases q:x=z
   ·exact q
   ·exfalso
    obtain⟨A,B,rfl⟩:=List.append_of_mem x1
    rw [List.filterMap_append,List.filterMap_cons,x2] at nk
    rcases List.mem_append.mp hz with hz | hz
    ·exact (List.nodup_append.mp nk).2.2 i (List.mem_filterMap.mpr ⟨z,hz,by rw [ez]⟩) i List.mem_cons_self rfl
    ·rcases List.mem_cons.mp hz with hz | hz
     ·exact q hz.symm
     ·exact (List.nodup_cons.mp (List.nodup_append.mp nk).2.1).1 (List.mem_filterMap.mpr ⟨z,hz,by rw [ez]⟩)
  subst this
  have:=x5 p rfl
  rw [ez] at this
  exact this
 obtain⟨v1,hv1,h1,h2,h3⟩:=S.out h ho
 rw [hv0] at hv1;cases hv1
 have ktemps:∀ {vs:List V} {ts:List T},zm [i] (temps vs ts)=temps vs ts:=by
  intro vs
  induction vs with
  | nil=>intro ts;rfl
  | cons v vs ih=>
   intro ts
   cases ts with
   | nil=>rfl
   | cons t ts=>show List.filter _ _=_;rw [temps,List.filter_cons,if_pos (show zia [i] ⟨none,v,⟨.ow,t⟩⟩=true from rfl)];exact congrArg _ ih
 have kv:zia [i] ⟨none,w,⟨.vw (some i) (some p),s⟩⟩=false:=by unfold zia;simp [Kd.root]
 have ek:zm [i] (temps vs ts++⟨none,w,⟨.vw (some i) (some p),s⟩⟩::E)=temps vs ts++zm [i] E:=by
  rw [zaa,ktemps]
  unfold zm
  rw [List.filter_cons,if_neg (by rw [kv];simp)]
 rw [ek] at h1 h2 h3
 rw [List.append_assoc] at h1 h2 h3
 obtain⟨w',G,F,m1,m2,m3,m4,m5,m6⟩:=SimL.mutP (e:=⟨some i,v0,⟨k,t⟩⟩) (X:=zm [i] E++ents 0 σ ((zy [i] ρ).set i none)) (by rw [List.cons_append];exact h1) hl ho (fun g hg j hj=>by cases hj;exact h2 g (List.mem_append_right _ hg)) pl.1 (fun j hj g hg=>by cases hj;exact h3 g (List.mem_append_right _ hg))
 have ew:=atP_det m1 pl.2
 subst ew
 refine⟨G,F,m2,m3,m4,m5,fun H' s' G' off dom nd hG rp=>?_⟩
 have S5:=m6 H' s' G' off dom nd hG rp
 have S2:=S.kill [i]
 refine S2.back (S5.perm ?_) (by simp [zca]) rfl (fun m r' hm=>?_) (fun e he j hj=>by rw [ek];exact List.mem_append_right _ he)
 ·have p:=(ents_put (k:=0) (σ:=σ) (ρ:=zy [i] ρ) (v:=v0) (r:=⟨k,t.put p s'⟩) (by rw [S.len];exact hil) (by rw [zca];exact hil)).append_left (zm [i] E)
  rw [Nat.zero_add] at p
  have eσ : σ.set i (some v0)=σ:=by
   apply List.ext_getElem?
   intro m
   by_cases hm:m=i
   ·subst hm;rw [hv0];simp [S.len,hil]
   ·rw [List.getElem?_set_ne (Ne.symm hm)]
  rw [eσ] at p
  exact (List.perm_middle.symm).trans p.symm
 ·by_cases e:m=i
  ·subst e;exact⟨v0,hv0⟩
  ·rw [List.getElem?_set_ne (Ne.symm e)] at hm;exact S2.al m r' hm
theorem Sim.move (S:Sim Γ H ρ σ (⟨none,w,⟨.vw (some i) (some []),s⟩⟩::E))(h : ρ[i]?=some (some ⟨.ow,t⟩)):Sim Γ H ((zy [i] ρ).set i none) σ (⟨none,w,⟨.ow,s⟩⟩::zm [i] E):=by
 have hil:i < ρ.length:=(List.getElem?_eq_some_iff.mp h).1
 obtain⟨v0,hv0,hm⟩:=S.slot h
 have pl:s=t/\w=v0:=by
  obtain⟨L,g,e⟩:=S.sl
  have:(⟨none,w,⟨.vw (some i) (some []),s⟩⟩:En)∈L.map (·.e):=by rw [e];simp
  obtain⟨y,hy,ey⟩:=List.mem_map.mp this
  have kd:=g.kd y hy
  unfold KdOk at kd
  rw [ey] at kd
  obtain⟨x,x1,x2,x3,x4,x5⟩:=kd
  have hm':(⟨some i,v0,⟨.ow,t⟩⟩:En)∈L.map (·.e):=by rw [e];exact hm
  obtain⟨z,hz,ez⟩:=List.mem_map.mp hm'
  have:x=z:=by
   have nk:=g.ks
   by_cases q:x=z
   ·exact q
   ·exfalso
    obtain⟨A,B,rfl⟩:=List.append_of_mem x1
    rw [List.filterMap_append,List.filterMap_cons,x2] at nk
    rcases List.mem_append.mp hz with hz | hz
    ·exact (List.nodup_append.mp nk).2.2 i (List.mem_filterMap.mpr ⟨z,hz,by rw [ez]⟩) i List.mem_cons_self rfl
    ·rcases List.mem_cons.mp hz with hz | hz
     ·exact q hz.symm
     ·exact (List.nodup_cons.mp (List.nodup_append.mp nk).2.1).1 (List.mem_filterMap.mpr ⟨z,hz,by rw [ez]⟩)
  subst this
  have:=x5 [] rfl
  rw [ez] at this
  obtain⟨q1,q2⟩:=this
  rw [T.sub] at q1
  cases q1
  exact⟨rfl,q2⟩
 obtain⟨rfl,rfl⟩:=pl
 obtain⟨v1,hv1,h1,h2,h3⟩:=S.out h rfl
 rw [hv0] at hv1;cases hv1
 have kv:zia [i] ⟨none,w,⟨.vw (some i) (some []),s⟩⟩=false:=by unfold zia;simp [Kd.root]
 have ek:zm [i] (⟨none,w,⟨.vw (some i) (some []),s⟩⟩::E)=zm [i] E:=by
  unfold zm
  rw [List.filter_cons,if_neg (by rw [kv];simp)]
 rw [ek] at h1 h2 h3
 have S2:=S.kill [i]
 refine S2.back (E':=⟨none,w,⟨.ow,s⟩⟩::zm [i] E) ?_ (by simp [zca]) rfl (fun m r' hm=>?_) (fun e he j hj=>?_)
 ·obtain⟨L,g,e⟩:=h1
  obtain⟨x,L',rfl,e1,e2⟩:=zba e
  have:=g.step (hs:=[x]) (L:=L') (H':=H) (fun y hy=>by rw [List.mem_singleton.mp hy,e1];rfl) (fun y hy z hz j hj=>by
   rw [List.mem_singleton.mp hz,e1] at hj
   cases hj
   exact h2 y.e (by rw [← e2];exact List.mem_map_of_mem hy)) (OffM.refl _ _) (fun a ha=>by
    obtain⟨y,hy,ha⟩:=List.mem_flatMap.mp ha
    rw [List.mem_singleton.mp hy] at ha
    exact (g.rp x List.mem_cons_self).dom a ha) (key:=none) (v:=w) (r:=⟨.ow,s⟩) (F:=x.F) (g.ndF List.mem_cons_self (by rw [e1];rfl)) (fun a ha=>⟨.inl (by simpa using ha),g.muF List.mem_cons_self (by rw [e1];rfl) a ha⟩)
    (by have:=g.rp x List.mem_cons_self;rw [e1] at this;exact this) (.inl ⟨rfl,fun y hy=>by rw [List.mem_singleton.mp hy,e1]⟩) (fun j hj=>by cases hj)
  exact⟨_,this,by rw [List.map_cons,e2];rfl⟩
 ·by_cases e:m=i
  ·subst e;simp [zca,hil] at hm
  ·rw [List.getElem?_set_ne (Ne.symm e)] at hm;exact S2.al m r' hm
 ·rcases List.mem_cons.mp he with rfl | he
  ·cases hj
  ·rw [ek];exact he
theorem Sim.use {vs:List V}{ts:List T}(S:Sim Γ H ρ σ (temps vs ts++E))(hl:vs.length=ts.length):∃ F,Rps Γ.K H ts vs F/\F.Nodup/\(∀ a∈F,Mu H a) ∧
  ∀ H' v t F',OffM F H H'->(∀ a∈F,∃ o,H' a=some o)->F'.Nodup->(∀ a∈F',(a∈F ∨ H a=none)/\Mu H' a)->Rp Γ.K H' t v F'->Sim Γ H' ρ σ (⟨none,v,⟨.ow,t⟩⟩::E):=by
 have S1:=S.sl
 rw [List.append_assoc] at S1
 obtain⟨F,h1,h2,h3,h4⟩:=S1.use hl
 refine⟨F,h1,h2,h3,fun H' v t F' a b c d e=>?_⟩
 exact⟨h4 H' v t F' a b c d e,S.al,S.len,fun x hx j hj=>by
  rcases List.mem_cons.mp hx with rfl | hx
  ·cases hj
  ·exact S.hi x (List.mem_append_right _ hx) j hj⟩
theorem Sim.part (S:Sim Γ H ρ σ E)(he:e∈E){ro:Option Nat}{p:Option (List Ac)}(ho:e.r.k = .vw ro p){P:V->Prop}(hp:∀ F,Rp Γ.K H e.r.t e.v F->∃ w G,P w/\Rp Γ.K H s w G/\∀ a∈G,a∈F):∃ w,P w/\Sim Γ H ρ σ (⟨none,w,⟨.vw ro none,s⟩⟩::E):=by
 obtain⟨w,h1,h2⟩:=S.sl.part (List.mem_append_left _ he) ho hp
 exact⟨w,h1,S.cons h2⟩
theorem Sim.partP (S:Sim Γ H ρ σ E)(he:e∈E){q:List Ac}(ho:e.r.k = .vw (some j) (some q)){a:Ac}(hs:sub1 e.r.t a=some s):∃ w,at1 Γ.K H e.v a w/\Sim Γ H ρ σ (⟨none,w,⟨.vw (some j) (some (q++[a])),s⟩⟩::E):=by
 obtain⟨w,h1,h2⟩:=S.sl.partP (List.mem_append_left _ he) ho hs
 exact⟨w,h1,S.cons h2⟩
end
end L2
namespace L2
open PySem PySem.Spec PyProof.Rows
structure ME where
 run:Rho->Option (R×Rho)
 mu:List Nat
structure MT where
 run:Rho->Option (Bool×Rho)
 mu:List Nat
structure MA where
 run:Rho->Option (List R×Rho)
 mu:List Nat
inductive Fl where
 | nx | rt (t:T) | bk | ct
structure MS where
 run:Rho->Option (Fl×Rho)
 mu:List Nat
structure MG where
 run:R->Rho->Option Rho
 mu:List Nat
structure MGs where
 run:List R->Rho->Option Rho
 mu:List Nat
noncomputable def ens:List V->List R->List En
 | v::vs,r::rs=>⟨none,v,r⟩::ens vs rs
 | _,_=>[]
noncomputable def alive (M:List Nat) (r:R):Bool:=zre M r
theorem znb {M:List Nat}{r:R}{v:V}(h:alive M r=true):zia M ⟨none,v,r⟩=true:=h
theorem zx {M:List Nat}{e:En}{E:List En}(h:zia M e=true):zm M (e::E)=e::zm M E:=by unfold zm;rw [List.filter_cons,if_pos h]
theorem killE_ens {M:List Nat}:∀ {vs:List V} {rs:List R},rs.all (alive M)=true->zm M (ens vs rs)=ens vs rs
 | [],_,_=>by cases ‹List R›<;>rfl
 | _::_,[],_=>rfl
 | v::vs,r::rs,h=>by
  rw [List.all_cons,Bool.and_eq_true] at h
  rw [ens,zx (znb h.1),killE_ens h.2]
theorem Sim.weak {Γ:Gm}{H:Hp}{ρ:Rho}{σ:St}{E:List En}(S:Sim Γ H ρ σ E)(M:List Nat):Sim Γ H ρ σ (zm M E):=by
 refine⟨?_,S.al,S.len,fun e he=>S.hi e (List.mem_filter.mp he).1⟩
 obtain⟨L,g,h⟩:=S.sl
 obtain⟨A,B,rfl,h1,h2⟩:=zrd h
 refine⟨A.filter (fun x=>zia M x.e)++B,g.sub (List.filter_sublist.append (List.Sublist.refl _)) fun x hx j hj y hy hk ho=>?_,?_⟩
 ·rcases List.mem_append.mp hy with z | z
  ·refine List.mem_append_left _ (List.mem_filter.mpr ⟨z,?_⟩)
   unfold zia
   cases e:y.e.r.k with
   | vw a b=>rw [e] at ho;cases ho
   | ow=>rfl
   | io _=>rfl
  ·exact List.mem_append_right _ z
 ·rw [List.map_append,h2,← h1]
  unfold zm
  rw [List.filter_map];rfl
noncomputable def RefE (K:PySem.W.Frag) (te:TE) (m:ME):Prop:=∀ (Γ:Gm) (H:Hp) (ρ:Rho) (σ:St) (E:List En) (Q:VK) (r:R) (ρ':Rho),Γ.K=K->m.run ρ=some (r,ρ')->Sim Γ H ρ σ E->(∀ v H',Sim Γ H' ρ' σ (⟨none,v,r⟩::zm m.mu E)->Q v H')->te σ H Q
noncomputable def RefT (K:PySem.W.Frag) (te:TT) (m:MT):Prop:=∀ (Γ:Gm) (H:Hp) (ρ:Rho) (σ:St) (E:List En) (Q:Bool->Hp->Prop) (b:Bool) (ρ':Rho),Γ.K=K->m.run ρ=some (b,ρ')->Sim Γ H ρ σ E->(∀ H',Sim Γ H' ρ' σ (zm m.mu E)->Q b H')->te σ H Q
noncomputable def RefA (K:PySem.W.Frag) (ta:TA) (m:MA):Prop:=∀ (Γ:Gm) (H:Hp) (ρ:Rho) (σ:St) (E:List En) (Q:List V->Hp->Prop) (rs:List R) (ρ':Rho),Γ.K=K->m.run ρ=some (rs,ρ')->Sim Γ H ρ σ E->(∀ vs H',vs.length=rs.length->Sim Γ H' ρ' σ (ens vs rs++zm m.mu E)->Q vs H')->ta σ H Q
noncomputable def FlOk (Γ:Gm) (ρ':Rho) (E:List En) (D:Ends):Fl->Prop
 | .nx=>∀ σ' H',Sim Γ H' ρ' σ' E->D.nx σ' H'
 | .bk=>∀ σ' H',Sim Γ H' ρ' σ' E->D.bk σ' H'
 | .ct=>∀ σ' H',Sim Γ H' ρ' σ' E->D.ct σ' H'
 | .rt t=>∀ v σ' H',Sim Γ H' ρ' σ' [⟨none,v,⟨.ow,t⟩⟩]->D.rt v H'
noncomputable def RefS (K:PySem.W.Frag) (ts:TS) (m:MS):Prop:=∀ (Γ:Gm) (H:Hp) (ρ:Rho) (σ:St) (E:List En) (D:Ends) (f:Fl) (ρ':Rho),Γ.K=K->(∀ e∈E,e.key=none)->m.run ρ=some (f,ρ')->Sim Γ H ρ σ E->FlOk Γ ρ' (zm m.mu E) D f->ts D σ H
noncomputable def RefG (K:PySem.W.Frag) (g:TG) (m:MG):Prop:=∀ (Γ:Gm) (H:Hp) (ρ:Rho) (σ:St) (E:List En) (Q:St->Hp->Prop) (v:V) (r:R) (ρ':Rho),Γ.K=K->m.run r ρ=some ρ'->Sim Γ H ρ σ (⟨none,v,r⟩::E)->(∀ σ' H',Sim Γ H' ρ' σ' (zm m.mu E)->Q σ' H')->g v σ H Q
noncomputable def RefGs (K:PySem.W.Frag) (g:TGs) (m:MGs):Prop:=∀ (Γ:Gm) (H:Hp) (ρ:Rho) (σ:St) (E:List En) (Q:St->Hp->Prop) (vs:List V) (rs:List R) (ρ':Rho),Γ.K=K->m.run rs ρ=some ρ'->vs.length=rs.length->Sim Γ H ρ σ (ens vs rs++E)->(∀ σ' H',Sim Γ H' ρ' σ' (zm m.mu E)->Q σ' H')->g vs σ H Q
noncomputable def PMSs (X:Cx) (st:List Stmt) (m:MS):Prop:=∃ ts,PSs X st ts/\RefS X.K ts m
section
variable  {K:PySem.W.Frag}{X:Cx}
@[irreducible] noncomputable def mC (i:I):ME:=⟨fun ρ=>some (⟨.ow,.im i⟩,ρ),[]⟩
@[irreducible] noncomputable def mVar (i:Nat):ME:=⟨fun ρ=>match ρ[i]? with
 | some (some r)=>some (rdR i r,ρ)
 | _=>none,[]⟩
theorem ref_C {i:I}{v:V}(h:i.sc=some v):RefE K (tC v) (mC i):=by with_unfolding_all
 intro Γ H ρ σ E Q r ρ' hK hr S q
 cases hr
 exact q v H (by rw [show (mC i).mu = [] from rfl,zgc];exact S.imm (sc_rp h))
theorem ref_var {i:Nat}:RefE K (tVar i) (mVar i):=by with_unfolding_all
 intro Γ H ρ σ E Q r ρ' hK hr S q
 simp only [mVar] at hr
 split at hr
 ·rename_i r0 h0
  cases hr
  obtain⟨v,hv,S2⟩:=S.var h0
  exact⟨v,hv,q v H (by rw [show (mVar i).mu = [] from rfl,zgc];exact S2)⟩
 ·cases hr
@[irreducible] noncomputable def mNil:MA:=⟨fun ρ=>some ([],ρ),[]⟩
@[irreducible] noncomputable def zf (m:ME)(ms:MA):MA:=⟨fun ρ=>match m.run ρ with
 | some (r,ρ1)=>match ms.run ρ1 with
  | some (rs,ρ2)=>if alive ms.mu r=true then some (r::rs,ρ2) else none
  | none=>none
 | none=>none,m.mu++ms.mu⟩
theorem ref_nil:RefA K tNil mNil:=by with_unfolding_all
 intro Γ H ρ σ E Q rs ρ' hK hr S q
 cases hr
 exact q [] H rfl (by rw [show mNil.mu = [] from rfl,zgc];exact S)
theorem ens_mid {v:V}{r:R}{E:List En}:∀ {vs:List V} {rs:List R},(ens vs rs++⟨none,v,r⟩::E).Perm (⟨none,v,r⟩::(ens vs rs++E)):=List.perm_middle
theorem ref_cons {te:TE}{ta:TA}{m:ME}{ms:MA}(h1:RefE K te m)(h2:RefA K ta ms):RefA K (tCons te ta) (zf m ms):=by with_unfolding_all
 intro Γ H ρ σ E Q rs ρ' hK hr S q
 simp only [zf] at hr
 split at hr
 ·rename_i r ρ1 e1
  split at hr
  ·rename_i rs1 ρ2 e2
   split at hr
   ·rename_i al
    cases hr
    refine h1 Γ H ρ σ E _ r ρ1 hK e1 S fun v H1 S1=>?_
    refine h2 Γ H1 ρ1 σ _ _ rs1 _ hK e2 S1 fun vs H2 hl S2=>q (v::vs) H2 (by rw [List.length_cons,List.length_cons,hl]) ?_
    rw [zx (znb al),zh] at S2
    exact S2.perm ens_mid
   ·cases hr
  ·cases hr
 ·cases hr
@[irreducible] noncomputable def mNext:MS:=⟨fun ρ=>some (.nx,ρ),[]⟩
@[irreducible] noncomputable def mSeq (a b:MS):MS:=⟨fun ρ=>match a.run ρ with
 | some (.nx,ρ1)=>b.run ρ1
 | some (.rt t,ρ1)=>some (.rt t,ρ1)
 | some (.bk,ρ1)=>some (.bk,ρ1)
 | some (.ct,ρ1)=>some (.ct,ρ1)
 | none=>none,a.mu++b.mu⟩
@[irreducible] noncomputable def mIf (c:MT)(a b:MS):MS:=⟨fun ρ=>match c.run ρ with
 | some (true,ρ1)=>a.run ρ1
 | some (false,ρ1)=>b.run ρ1
 | none=>none,c.mu++(a.mu++b.mu)⟩
@[irreducible] noncomputable def zhc (e:ME):MS:=⟨fun ρ=>match e.run ρ with
 | some (_,ρ1)=>some (.nx,ρ1)
 | none=>none,e.mu⟩
@[irreducible] noncomputable def mAsg (e:ME)(g:MG):MS:=⟨fun ρ=>match e.run ρ with
 | some (r,ρ1)=>match g.run r ρ1 with
  | some ρ2=>some (.nx,ρ2)
  | none=>none
 | none=>none,e.mu++g.mu⟩
@[irreducible] noncomputable def retR:R->Rho->Option (T×Rho)
 | ⟨.ow,t⟩,ρ=>some (t,ρ)
 | ⟨.vw (some i) (some []),t⟩,ρ=>match ρ[i]? with
  | some (some ⟨.ow,_⟩)=>some (t,(zy [i] ρ).set i none)
  | _=>none
 | _,_=>none
@[irreducible] noncomputable def mRet (e:ME):MS:=⟨fun ρ=>match e.run ρ with
 | some (r,ρ1)=>match retR r ρ1 with
  | some (t,ρ2)=>some (.rt t,ρ2)
  | none=>none
 | none=>none,e.mu⟩
theorem FlOk.weak {Γ:Gm}{ρ':Rho}{E:List En}{D:Ends}{f:Fl}{M N:List Nat}(h:FlOk Γ ρ' (zm (M++N) E) D f):FlOk Γ ρ' (zm M E) D f:=by
 cases f with
 | rt t=>exact h
 | nx=>exact fun σ' H' S=>h σ' H' (by rw [← zh];exact S.weak N)
 | bk=>exact fun σ' H' S=>h σ' H' (by rw [← zh];exact S.weak N)
 | ct=>exact fun σ' H' S=>h σ' H' (by rw [← zh];exact S.weak N)
theorem killE_comm (M N:List Nat)(E:List En):zm M (zm N E)=zm N (zm M E):=by
 unfold zm
 rw [List.filter_filter,List.filter_filter]
 congr 1
 funext e
 exact Bool.and_comm _ _
theorem FlOk.weak2 {Γ:Gm}{ρ':Rho}{E:List En}{D:Ends}{f:Fl}{M N:List Nat}(h:FlOk Γ ρ' (zm (M++N) E) D f):FlOk Γ ρ' (zm N E) D f:=by
 refine FlOk.weak (N:=M) ?_
 rwa [← zh,killE_comm,zh]
theorem zqb {M:List Nat}{E:List En}(h:∀ e∈E,e.key=none):∀ e∈zm M E,e.key=none:=fun e he=>h e (List.mem_filter.mp he).1
theorem ref_next:RefS K tNext mNext:=by with_unfolding_all
 intro Γ H ρ σ E D f ρ' hK hE hr S q
 cases hr
 exact q σ H (by rw [show mNext.mu = [] from rfl,zgc];exact S)
theorem ref_seq {t u:TS}{a b:MS}(h1:RefS K t a)(h2:RefS K u b):RefS K (tSeq t u) (mSeq a b):=by
 intro Γ H ρ σ E D f ρ' hK hE hr S q
 show t { D with nx:=u D } σ H
 simp only [mSeq] at hr q
 split at hr
 ·rename_i ρ1 e1
  refine h1 Γ H ρ σ E _ .nx ρ1 hK hE e1 S fun σ1 H1 S1=>?_
  refine h2 Γ H1 ρ1 σ1 _ D f ρ' hK (zqb hE) hr S1 ?_
  rw [zh];exact q
 ·rename_i t1 ρ1 e1
  cases hr
  exact h1 Γ H ρ σ E _ (.rt t1) _ hK hE e1 S q
 ·rename_i ρ1 e1
  cases hr
  exact h1 Γ H ρ σ E _ .bk _ hK hE e1 S (show FlOk Γ _ (zm a.mu E) D .bk from q.weak)
 ·rename_i ρ1 e1
  cases hr
  exact h1 Γ H ρ σ E _ .ct _ hK hE e1 S (show FlOk Γ _ (zm a.mu E) D .ct from q.weak)
 ·cases hr
theorem ref_ifS {c:TT}{t u:TS}{mc:MT}{a b:MS}(hc:RefT K c mc)(h1:RefS K t a)(h2:RefS K u b):RefS K (tIfS c t u) (mIf mc a b):=by
 intro Γ H ρ σ E D f ρ' hK hE hr S q
 simp only [mIf] at hr q
 rw [← zh] at q
 split at hr
 ·rename_i ρ1 e1
  refine hc Γ H ρ σ E _ true ρ1 hK e1 S fun H1 S1=>iteT ?_
  exact h1 Γ H1 ρ1 σ _ D f ρ' hK (zqb hE) hr S1 q.weak
 ·rename_i ρ1 e1
  refine hc Γ H ρ σ E _ false ρ1 hK e1 S fun H1 S1=>iteF ?_
  exact h2 Γ H1 ρ1 σ _ D f ρ' hK (zqb hE) hr S1 q.weak2
 ·cases hr
theorem ref_drop {te:TE}{m:ME}(h:RefE K te m):RefS K (tDrop te) (zhc m):=by with_unfolding_all
 intro Γ H ρ σ E D f ρ' hK hE hr S q
 simp only [zhc] at hr
 split at hr
 ·rename_i r ρ1 e1
  cases hr
  exact h Γ H ρ σ E _ r _ hK e1 S fun v H1 S1=>q σ H1 (S1.drop rfl)
 ·cases hr
theorem ref_asg {te:TE}{g:TG}{m:ME}{mg:MG}(h:RefE K te m)(hg:RefG K g mg):RefS K (tAsg te g) (mAsg m mg):=by
 intro Γ H ρ σ E D f ρ' hK hE hr S q
 simp only [mAsg] at hr q
 split at hr
 ·rename_i r ρ1 e1
  split at hr
  ·rename_i ρ2 e2
   cases hr
   refine h Γ H ρ σ E _ r ρ1 hK e1 S fun v H1 S1=>?_
   exact hg Γ H1 ρ1 σ _ _ v r _ hK e2 S1 fun σ2 H2 S2=>q σ2 H2 (by rw [← zh];exact S2)
  ·cases hr
 ·cases hr
theorem Sim.only {Γ:Gm}{H:Hp}{ρ:Rho}{σ:St}{e:En}{E:List En}(S:Sim Γ H ρ σ (e::E))(hE:∀ x∈E,x.key=none):Sim Γ H ρ σ [e]:=by
 induction E with
 | nil=>exact S
 | cons x E ih=>exact ih (S.swap.drop (hE x List.mem_cons_self)) fun y hy=>hE y (List.mem_cons_of_mem _ hy)
theorem ref_ret {te:TE}{m:ME}(h:RefE K te m):RefS K (tRet te) (mRet m):=by with_unfolding_all
 intro Γ H ρ σ E D f ρ' hK hE hr S q
 simp only [mRet] at hr
 split at hr
 ·rename_i r ρ1 e1
  split at hr
  ·rename_i t ρ2 e2
   cases hr
   refine h Γ H ρ σ E _ r ρ1 hK e1 S fun v H1 S1=>?_
   obtain⟨k,t0⟩:=r
   cases k with
   | ow=>
    cases e2
    exact q v σ H1 (S1.only (zqb hE))
   | io n=>cases e2
   | vw a b=>
    cases a with
    | none=>cases e2
    | some i=>
     cases b with
     | none=>cases e2
     | some p=>
      cases p with
      | cons _ _=>cases e2
      | nil=>
       simp only [retR] at e2
       split at e2
       ·rename_i t1 h1
        cases e2
        exact q v σ H1 ((S1.move h1).only (zqb (zqb hE)))
       ·cases e2
  ·cases hr
 ·cases hr
@[irreducible] noncomputable def zn (i:Nat):MG:=⟨fun r ρ=>if (notIo ρ i && alive [i] r)=true then some ((zy [i] ρ).set i (some r)) else none,[i]⟩
theorem alive_root {i:Nat}{r:R}(h:alive [i] r=true):r.k.root≠some i:=fun z=>by
 unfold alive zre at h
 rw [z] at h
 simp at h
theorem ref_name {i:Nat}:RefG K (gName i) (zn i):=by with_unfolding_all
 intro Γ H ρ σ E Q v r ρ' hK hr S q
 simp only [zn] at hr
 split at hr
 ·rename_i h
  cases hr
  rw [Bool.and_eq_true] at h
  exact q _ H (S.put h.1 (alive_root h.2))
 ·cases hr
end
end L2
namespace L2
open PySem PySem.Spec PyProof.Rows
noncomputable def Rpx (K:PySem.W.Frag) (H:Hp) (t:T) (v:V):Prop:=∃ F,Rp K H t v F
noncomputable def New (K:PySem.W.Frag) (H H':Hp) (t:T) (v:V):Prop:=Same H H'/\∃ F,Rp K H' t v F/\F.Nodup/\∀ a∈F,H a=none/\Mu H' a
section
variable  {K:PySem.W.Frag}{H H':Hp}{Γ:Gm}{ρ:Rho}{σ:St}{E:List En}{t:T}{v x y:V}{Q:VK}
theorem Sim.fresh (S:Sim Γ H ρ σ E)(n:New Γ.K H H' t v):Sim Γ H' ρ σ (⟨none,v,⟨.ow,t⟩⟩::E):=by
 obtain⟨sm,F,h1,h2,h3⟩:=n
 obtain⟨F0,r0,_,_,k⟩:=Sim.use (vs:=[]) (ts:=[]) S rfl
 have:=r0.nil_inv.2
 subst this
 exact k H' v t F (sm.offM _) (by simp) h2 (fun a ha=>⟨.inr (h3 a ha).1,(h3 a ha).2⟩) h1
theorem New.im {i:I}(h:RpI K H i v):New K H H (.im i) v:=⟨Same.refl H,[],rp_im h,List.nodup_nil,by simp⟩
theorem New.sc {i:I}(h:i.sc=some v):New K H H (.im i) v:=.im (sc_rp h)
theorem New.tup {is:List I}{xs:List V}{p:Addr}(hp:H p=none)(h:RpIs K H is xs):New K H (upd H p (.tup xs)) (.im (.tup is)) (.ref p):=by
 refine⟨Same.laid hp,[],rp_im ?_,List.nodup_nil,by simp⟩
 rw [RpI]
 exact⟨p,xs,rfl,SqT.of zfa,h.same (Same.laid hp)⟩
theorem New.li {is:List I}{xs:List V}{p:Addr}(hp:H p=none)(h:RpIs K H is xs):New K H (upd H p (.lst xs)) (.li is) (.ref p):=by
 refine⟨Same.laid hp,[p],?_,by simp,fun a ha=>?_⟩
 ·rw [Rp];exact⟨p,xs,rfl,.inl zfa,h.same (Same.laid hp),rfl⟩
 ·rw [List.mem_singleton.mp ha];exact⟨hp,_,zfa,rfl⟩
theorem rx_im {i:I}(h:Rpx K H (.im i) v):RpI K H i v:=by obtain⟨F,h⟩:=h;exact (zwa h).1
theorem zla {n:Int}(h:Rpx K H (.im (.int n)) v):v = .int n:=by have:=rx_im h;rw [RpI] at this;exact this
theorem zee {n:Str}(h:Rpx K H (.im (.str n)) v):v = .str n:=by have:=rx_im h;rw [RpI] at this;exact this
theorem rx_bl {n:Bool}(h:Rpx K H (.im (.bl n)) v):v = .bl n:=by have:=rx_im h;rw [RpI] at this;exact this
theorem zmd {is:List I}(h:Rpx K H (.im (.tup is)) v):∃ a xs,v = .ref a/\SqT K H a xs/\RpIs K H is xs:=by have:=rx_im h;rw [RpI] at this;exact this
theorem zyd {is:List I}(h:Rpx K H (.li is) v):∃ a xs,v = .ref a/\Rd H a (.lst xs)/\RpIs K H is xs:=by
 obtain⟨F,h⟩:=h;rw [Rp] at h;obtain⟨a,xs,h1,h2,h3,_⟩:=h;exact⟨a,xs,h1,h2,h3⟩
theorem rx_lst {ts:List T}(h:Rpx K H (.lst ts) v):∃ a xs F,v = .ref a/\Rd H a (.lst xs)/\Rps K H ts xs F:=by
 obtain⟨F,h⟩:=h;rw [Rp] at h;obtain⟨a,xs,F',h1,h2,h3,_⟩:=h;exact⟨a,xs,F',h1,h2,h3⟩
theorem zbb {a:Addr}{xs:List V}(h:Rd H a (.lst xs)):SqL K H a xs:=.inl h
noncomputable def Prim1 (K:PySem.W.Frag) (red:V->Hp->VK->Prop) (f:T->Option T):Prop:=∀ (H:Hp) (x:V) (tx t:T) (Q:VK),Rpx K H tx x->f tx=some t->(∀ v H',New K H H' t v->Q v H')->red x H Q
noncomputable def Prim2 (K:PySem.W.Frag) (red:R2) (f:T->T->Option T):Prop:=∀ (H:Hp) (x y:V) (tx ty t:T) (Q:VK),Rpx K H tx x->Rpx K H ty y->f tx ty=some t->(∀ v H',New K H H' t v->Q v H')->red x y H Q
noncomputable def Rpxs (K:PySem.W.Frag) (H:Hp):List T->List V->Prop
 | [],vs=>vs = []
 | t::ts,vs=>∃ v r,vs=v::r/\Rpx K H t v/\Rpxs K H ts r
noncomputable def PrimN (K:PySem.W.Frag) (red:List V->Hp->VK->Prop) (f:List T->Option T):Prop:=∀ (H:Hp) (vs:List V) (ts:List T) (t:T) (Q:VK),Rpxs K H ts vs->f ts=some t->(∀ v H',New K H H' t v->Q v H')->red vs H Q
@[irreducible] noncomputable def mOp (f:T->T->Option T)(a b:ME):ME:=⟨fun ρ=>match a.run ρ with
 | some (ra,ρ1)=>match b.run ρ1 with
  | some (rb,ρ2)=>if alive b.mu ra=true then (match f ra.t rb.t with
   | some t=>some (⟨.ow,t⟩,ρ2)
   | none=>none) else none
  | none=>none
 | none=>none,a.mu++b.mu⟩
theorem ref_op {red:R2}{f:T->T->Option T}{ta tb:TE}{a b:ME}(hp:Prim2 K red f)(ha:RefE K ta a)(hb:RefE K tb b):RefE K (tOp red ta tb) (mOp f a b):=by with_unfolding_all
 intro Γ H ρ σ E Q r ρ' hK hr S q
 simp only [mOp] at hr
 split at hr
 ·rename_i ra ρ1 e1
  split at hr
  ·rename_i rb ρ2 e2
   split at hr
   ·rename_i al
    split at hr
    ·rename_i t e3
     cases hr
     refine ha Γ H ρ σ E _ ra ρ1 hK e1 S fun x H1 S1=>?_
     refine hb Γ H1 ρ1 σ _ _ rb _ hK e2 S1 fun y H2 S2=>?_
     rw [zx (znb al),zh] at S2
     have r1:=S2.rd (List.mem_cons_of_mem _ List.mem_cons_self)
     have r2:=S2.rd List.mem_cons_self
     rw [hK] at r1 r2
     refine hp H2 x y ra.t rb.t t Q r1 r2 e3 fun v H3 n=>q v H3 ?_
     rw [← hK] at n
     exact ((S2.drop rfl).drop rfl).fresh n
    ·cases hr
   ·cases hr
  ·cases hr
 ·cases hr
@[irreducible] noncomputable def mUn (f:T->Option T)(a:ME):ME:=⟨fun ρ=>match a.run ρ with
 | some (ra,ρ1)=>(match f ra.t with
  | some t=>some (⟨.ow,t⟩,ρ1)
  | none=>none)
 | none=>none,a.mu⟩
theorem ref_un {red:V->Hp->VK->Prop}{f:T->Option T}{ta:TE}{a:ME}(hp:Prim1 K red f)(ha:RefE K ta a):RefE K (tUn red ta) (mUn f a):=by with_unfolding_all
 intro Γ H ρ σ E Q r ρ' hK hr S q
 simp only [mUn] at hr
 split at hr
 ·rename_i ra ρ1 e1
  split at hr
  ·rename_i t e3
   cases hr
   refine ha Γ H ρ σ E _ ra _ hK e1 S fun x H1 S1=>?_
   have r1:=S1.rd List.mem_cons_self
   rw [hK] at r1
   refine hp H1 x ra.t t Q r1 e3 fun v H3 n=>q v H3 ?_
   rw [← hK] at n
   exact (S1.drop rfl).fresh n
  ·cases hr
 ·cases hr
theorem Sim.rds:∀ {vs:List V} {rs:List R} {E:List En},Sim Γ H ρ σ (ens vs rs++E)->vs.length=rs.length->Rpxs Γ.K H (rs.map (·.t)) vs
 | [],[],E,S,_=>rfl
 | v::vs,r::rs,E,S,h=>by
  rw [ens,List.cons_append] at S
  exact⟨v,vs,rfl,S.rd List.mem_cons_self,Sim.rds (S.drop rfl) (by simpa using h)⟩
 | [],_::_,_,_,h=>by cases h
 | _::_,[],_,_,h=>by cases h
theorem Sim.drops:∀ {vs:List V} {rs:List R} {E:List En},Sim Γ H ρ σ (ens vs rs++E)->Sim Γ H ρ σ E
 | [],rs,E,S=>by cases rs<;>exact S
 | v::vs,[],E,S=>S
 | v::vs,r::rs,E,S=>by
  rw [ens,List.cons_append] at S
  exact Sim.drops (S.drop rfl)
@[irreducible] noncomputable def mB (f:List T->Option T)(a:MA):ME:=⟨fun ρ=>match a.run ρ with
 | some (rs,ρ1)=>(match f (rs.map (·.t)) with
  | some t=>some (⟨.ow,t⟩,ρ1)
  | none=>none)
 | none=>none,a.mu⟩
theorem ref_B {red:List V->Hp->VK->Prop}{f:List T->Option T}{ta:TA}{a:MA}(hp:PrimN K red f)(ha:RefA K ta a):RefE K (tCB red ta) (mB f a):=by with_unfolding_all
 intro Γ H ρ σ E Q r ρ' hK hr S q
 simp only [mB] at hr
 split at hr
 ·rename_i rs ρ1 e1
  split at hr
  ·rename_i t e3
   cases hr
   refine ha Γ H ρ σ E _ rs _ hK e1 S fun vs H1 hl S1=>?_
   have r1:=S1.rds hl
   rw [hK] at r1
   refine hp H1 vs _ t Q r1 e3 fun v H3 n=>q v H3 ?_
   rw [← hK] at n
   exact S1.drops.fresh n
  ·cases hr
 ·cases hr
@[irreducible] noncomputable def mM (f:T->List T->Option T)(o:ME)(a:MA):ME:=⟨fun ρ=>match o.run ρ with
 | some (r,ρ0)=>match a.run ρ0 with
  | some (rs,ρ1)=>if alive a.mu r=true then (match f r.t (rs.map (·.t)) with
   | some t=>some (⟨.ow,t⟩,ρ1)
   | none=>none) else none
  | none=>none
 | none=>none,o.mu++a.mu⟩
noncomputable def PrimM (K:PySem.W.Frag) (T0:String) (red:V->List V->Hp->VK->Prop) (f:T->List T->Option T):Prop:=∀ (H:Hp) (x:V) (vs:List V) (tx:T) (ts:List T) (t:T) (Q:VK),Rpx K H tx x->Rpxs K H ts vs->f tx ts=some t->(∀ v H',New K H H' t v->Q v H')->red x vs H Q
theorem ref_M {T0:String}{red:V->List V->Hp->VK->Prop}{f:T->List T->Option T}{to:TE}{ta:TA}{o:ME}{a:MA}(hp:PrimM K T0 red f)(hty:∀ (H:Hp) (x:V) (tx:T) ts t,Rpx K H tx x->f tx ts=some t->tyV K T0 x H)(ho:RefE K to o)(ha:RefA K ta a):RefE K (tBM K T0 red to ta) (mM f o a):=by with_unfolding_all
 intro Γ H ρ σ E Q r ρ' hK hr S q
 simp only [mM] at hr
 split at hr
 ·rename_i r0 ρ0 e0
  split at hr
  ·rename_i rs ρ1 e1
   split at hr
   ·rename_i al
    split at hr
    ·rename_i t e3
     cases hr
     refine ho Γ H ρ σ E _ r0 _ hK e0 S fun x H1 S1=>?_
     have r0':=S1.rd List.mem_cons_self
     rw [hK] at r0'
     refine⟨hty H1 x _ _ _ r0' e3,?_⟩
     refine ha Γ H1 ρ0 σ _ _ rs _ hK e1 S1 fun vs H2 hl S2=>?_
     rw [zx (znb al),zh] at S2
     have r1:=S2.rds hl
     have S3:=S2.drops
     have r2:=S3.rd List.mem_cons_self
     rw [hK] at r1 r2
     refine hp H2 x vs _ _ t Q r2 r1 e3 fun v H3 n=>q v H3 ?_
     rw [← hK] at n
     exact (S3.drop rfl).fresh n
    ·cases hr
   ·cases hr
  ·cases hr
 ·cases hr
@[irreducible] noncomputable def zlb (a:ME):MT:=⟨fun ρ=>match a.run ρ with
 | some (⟨_,.im (.bl b)⟩,ρ1)=>some (b,ρ1)
 | _=>none,a.mu⟩
theorem ref_test {ta:TE}{a:ME}(ha:RefE K ta a):RefT K (tTest ta) (zlb a):=by with_unfolding_all
 intro Γ H ρ σ E Q b ρ' hK hr S q
 simp only [zlb] at hr
 split at hr
 ·rename_i k b0 ρ1 e1
  cases hr
  refine ha Γ H ρ σ E _ _ _ hK e1 S fun x H1 S1=>⟨b,?_,q H1 (S1.drop rfl)⟩
  have r1:=S1.rd List.mem_cons_self
  exact rx_bl r1
 ·cases hr
theorem ref_tB {ta:TE}{a:ME}(ha:RefE K ta a):RefT K (tB ta) (zlb a):=ref_test ha
@[irreducible] noncomputable def mAnd (a b:MT):MT:=⟨fun ρ=>match a.run ρ with
 | some (true,ρ1)=>b.run ρ1
 | some (false,ρ1)=>some (false,ρ1)
 | none=>none,a.mu++b.mu⟩
@[irreducible] noncomputable def mOr (a b:MT):MT:=⟨fun ρ=>match a.run ρ with
 | some (true,ρ1)=>some (true,ρ1)
 | some (false,ρ1)=>b.run ρ1
 | none=>none,a.mu++b.mu⟩
@[irreducible] noncomputable def mNot (a:MT):MT:=⟨fun ρ=>match a.run ρ with
 | some (b,ρ1)=>some (!b,ρ1)
 | none=>none,a.mu⟩
theorem ref_and {ta tb:TT}{a b:MT}(ha:RefT K ta a)(hb:RefT K tb b):RefT K (tAnd ta tb) (mAnd a b):=by
 intro Γ H ρ σ E Q c ρ' hK hr S q
 simp only [mAnd] at hr q
 split at hr
 ·rename_i ρ1 e1
  refine ha Γ H ρ σ E _ _ _ hK e1 S fun H1 S1=>iteT ?_
  exact hb Γ H1 ρ1 σ _ _ _ _ hK hr S1 fun H2 S2=>q H2 (by rw [← zh];exact S2)
 ·rename_i ρ1 e1
  cases hr
  exact ha Γ H ρ σ E _ _ _ hK e1 S fun H1 S1=>iteF (q H1 (by rw [← zh];exact S1.weak _))
 ·cases hr
theorem ref_or {ta tb:TT}{a b:MT}(ha:RefT K ta a)(hb:RefT K tb b):RefT K (tOr ta tb) (mOr a b):=by
 intro Γ H ρ σ E Q c ρ' hK hr S q
 simp only [mOr] at hr q
 split at hr
 ·rename_i ρ1 e1
  cases hr
  exact ha Γ H ρ σ E _ _ _ hK e1 S fun H1 S1=>iteT (q H1 (by rw [← zh];exact S1.weak _))
 ·rename_i ρ1 e1
  refine ha Γ H ρ σ E _ _ _ hK e1 S fun H1 S1=>iteF ?_
  exact hb Γ H1 ρ1 σ _ _ _ _ hK hr S1 fun H2 S2=>q H2 (by rw [← zh];exact S2)
 ·cases hr
theorem ref_not {ta:TT}{a:MT}(ha:RefT K ta a):RefT K (tNot ta) (mNot a):=by
 intro Γ H ρ σ E Q c ρ' hK hr S q
 simp only [mNot] at hr q
 split at hr
 ·rename_i b ρ1 e1
  cases hr
  exact ha Γ H ρ σ E _ _ _ hK e1 S fun H1 S1=>q H1 S1
 ·cases hr
@[irreducible] noncomputable def mAndV (a b:ME):ME:=⟨fun ρ=>match a.run ρ with
 | some (⟨_,.im (.bl true)⟩,ρ1)=>b.run ρ1
 | some (⟨_,.im (.bl false)⟩,ρ1)=>some (⟨.ow,.im (.bl false)⟩,ρ1)
 | _=>none,a.mu++b.mu⟩
@[irreducible] noncomputable def mNotV (a:ME):ME:=⟨fun ρ=>match a.run ρ with
 | some (⟨_,.im (.bl b)⟩,ρ1)=>some (⟨.ow,.im (.bl !b)⟩,ρ1)
 | _=>none,a.mu⟩
theorem ref_andV {ta tb:TE}{a b:ME}(ha:RefE K ta a)(hb:RefE K tb b):RefE K (tAndV ta tb) (mAndV a b):=by
 intro Γ H ρ σ E Q c ρ' hK hr S q
 simp only [mAndV] at hr q
 split at hr
 ·rename_i k ρ1 e1
  refine ha Γ H ρ σ E _ _ _ hK e1 S fun x H1 S1=>⟨true,rx_bl (S1.rd List.mem_cons_self),iteT ?_⟩
  exact hb Γ H1 ρ1 σ _ _ _ _ hK hr (S1.drop rfl) fun v H2 S2=>q v H2 (by rw [← zh];exact S2)
 ·rename_i k ρ1 e1
  cases hr
  refine ha Γ H ρ σ E _ _ _ hK e1 S fun x H1 S1=>⟨false,rx_bl (S1.rd List.mem_cons_self),iteF (q _ H1 ?_)⟩
  rw [← zh]
  exact ((S1.drop rfl).weak _).imm (sc_rp rfl)
 ·cases hr
theorem ref_notV {ta:TE}{a:ME}(ha:RefE K ta a):RefE K (tNotV ta) (mNotV a):=by
 intro Γ H ρ σ E Q c ρ' hK hr S q
 simp only [mNotV] at hr q
 split at hr
 ·rename_i k b ρ1 e1
  cases hr
  exact ha Γ H ρ σ E _ _ _ hK e1 S fun x H1 S1=>⟨b,rx_bl (S1.rd List.mem_cons_self),q _ H1 ((S1.drop rfl).imm (sc_rp rfl))⟩
 ·cases hr
end
end L2
namespace L2
open PySem PySem.Spec PyProof.Rows
mutual
noncomputable def I.dok:I->Bool
 | .int _=>true | .str _=>true | .tup is=>I.doks is | _=>false
noncomputable def I.doks:List I->Bool
 | []=>true
 | i::is=>i.dok && I.doks is
end
mutual
noncomputable def I.toD:I->D
 | .int i=>.int i | .str x=>.str x | .tup is=>.tup (I.toDs is) | _=>.int 0
noncomputable def I.toDs:List I->List D
 | []=>[]
 | i::is=>i.toD::I.toDs is
end
mutual
noncomputable def I.dep:I->Nat
 | .tup is=>I.deps is+1 | _=>0
noncomputable def I.deps:List I->Nat
 | []=>0
 | i::is=>max i.dep (I.deps is)
end
mutual
theorem dep_eq:∀ (i:I),i.toD.depth=i.dep
 | .non=>rfl | .bl _=>rfl | .int _=>rfl | .str _=>rfl
 | .tup is=>by rw [I.toD,D.depth,I.dep,deps_eq is]
theorem deps_eq:∀ (is:List I),depths (I.toDs is)=I.deps is
 | []=>rfl
 | i::is=>by rw [I.toDs,depths,I.deps,dep_eq i,deps_eq is]
end
mutual
theorem toD_inj:∀ {a b:I},a.dok=true->b.dok=true->(a.toD=b.toD↔a=b)
 | .non,_,h,_=>by simp [I.dok] at h
 | .bl _,_,h,_=>by simp [I.dok] at h
 | .int x,b,_,h=>by cases b<;>simp [I.dok] at h<;>simp [I.toD]
 | .str x,b,_,h=>by cases b<;>simp [I.dok] at h<;>simp [I.toD]
 | .tup x,b,h1,h=>by
  cases b with
  | tup y=>
   rw [I.dok] at h h1
   rw [I.toD,I.toD,D.tup.injEq,I.tup.injEq]
   exact toDs_inj h1 h
  | non=>simp [I.dok] at h
  | bl _=>simp [I.dok] at h
  | int _=>simp [I.toD]
  | str _=>simp [I.toD]
theorem toDs_inj:∀ {a b:List I},I.doks a=true->I.doks b=true->(I.toDs a=I.toDs b↔a=b)
 | [],b,_,_=>by cases b<;>simp [I.toDs]
 | x::xs,b,h1,h=>by
  cases b with
  | nil=>simp [I.toDs]
  | cons y ys=>
   rw [I.doks,Bool.and_eq_true] at h h1
   rw [I.toDs,I.toDs,List.cons.injEq,List.cons.injEq,toD_inj h1.1 h.1,toDs_inj h1.2 h.2]
end
section
variable  {K:PySem.W.Frag}{H:Hp}
mutual
theorem rep_of:∀ {i:I} {v:V},i.dok=true->RpI K H i v->Rep K H i.toD v
 | .non,_,h,_=>by simp [I.dok] at h
 | .bl _,_,h,_=>by simp [I.dok] at h
 | .int _,_,_,r=>by rw [RpI] at r;rw [I.toD,Rep];exact r
 | .str _,_,_,r=>by rw [RpI] at r;rw [I.toD,Rep];exact r
 | .tup is,_,h,r=>by
  rw [RpI] at r;rw [I.dok] at h
  obtain⟨a,xs,h1,h2,h3⟩:=r
  rw [I.toD,Rep]
  exact⟨a,xs,h1,h2,reps_of h h3⟩
theorem reps_of:∀ {is:List I} {vs:List V},I.doks is=true->RpIs K H is vs->Reps K H (I.toDs is) vs
 | [],_,_,r=>by rw [RpIs] at r;rw [I.toDs,Reps];exact r
 | i::is,_,h,r=>by
  rw [RpIs] at r;rw [I.doks,Bool.and_eq_true] at h
  obtain⟨x,xs,h1,h2,h3⟩:=r
  rw [I.toDs,Reps]
  exact⟨x,xs,h1,rep_of h.1 h2,reps_of h.2 h3⟩
end
theorem mem_toDs {i:I}:∀ {is:List I},i.dok=true->I.doks is=true->(i.toD∈I.toDs is↔i∈is)
 | [],_,_=>by simp [I.toDs]
 | x::xs,h,hs=>by
  rw [I.doks,Bool.and_eq_true] at hs
  rw [I.toDs,List.mem_cons,List.mem_cons,toD_inj h hs.1,mem_toDs h hs.2]
noncomputable def isI:T->Option Int
 | .im i=>(match i with | .int a=>some a | _=>none)
 | _=>none
noncomputable def isS:T->Option Str
 | .im i=>(match i with | .str a=>some a | _=>none)
 | _=>none
noncomputable def isTp:T->Option (List I)
 | .im i=>(match i with | .tup a=>some a | _=>none)
 | _=>none
noncomputable def isLi:T->Option (List I)
 | .li a=>some a
 | _=>none
theorem zpd {t:T}{a:Int}(h:isI t=some a):t = .im (.int a):=by
 cases t with
 | im i=>cases i<;>cases h;rfl
 | _=>cases h
theorem isS_inv {t:T}{a:Str}(h:isS t=some a):t = .im (.str a):=by
 cases t with
 | im i=>cases i<;>cases h;rfl
 | _=>cases h
theorem isTp_inv {t:T}{a:List I}(h:isTp t=some a):t = .im (.tup a):=by
 cases t with
 | im i=>cases i<;>cases h;rfl
 | _=>cases h
theorem zoe {t:T}{a:List I}(h:isLi t=some a):t = .li a:=by
 cases t with
 | li i=>cases h;rfl
 | _=>cases h
noncomputable def i2 (g:Int->Int->Option T) (x y:T):Option T:=match isI x with
 | some a=>(match isI y with
  | some b=>g a b
  | none=>none)
 | none=>none
theorem i2_inv {g:Int->Int->Option T}{x y t:T}(h:i2 g x y=some t):∃ a b,x = .im (.int a)/\y = .im (.int b)/\g a b=some t:=by
 unfold i2 at h
 split at h
 ·rename_i a ea
  split at h
  ·rename_i b eb
   exact⟨a,b,zpd ea,zpd eb,h⟩
  ·cases h
 ·cases h
theorem zga {α:Type}{c:Prop}[Decidable c]{t u : α}(h:(if c then some t else none)=some u):c/\t=u:=by
 by_cases hc:c
 ·rw [if_pos hc] at h;exact⟨hc,Option.some.inj h⟩
 ·rw [if_neg hc] at h;cases h
noncomputable def addI (i:I) (y:T):Option T:=match i with
 | .int a=>(match isI y with | some b=>some (.im (.int (a+b))) | none=>none)
 | .str a=>(match isS y with | some b=>if a.length+b.length<=sizeLine then some (.im (.str (a++b))) else none | none=>none)
 | .tup a=>(match isTp y with | some b=>if a.length+b.length<=sizeLine then some (.im (.tup (a++b))) else none | none=>none)
 | _=>none
@[irreducible] noncomputable def addT (x y:T):Option T:=match x with
 | .im i=>addI i y
 | .li a=>(match isLi y with | some b=>if a.length+b.length<=sizeLine then some (.li (a++b)) else none | none=>none)
 | _=>none
theorem RpIs.nil_iff {is:List I}{xs:List V}(h:RpIs K H is xs):xs = []↔is = []:=by
 have:=h.length
 cases is<;>cases xs<;>first | (simp;done) | (cases this;done)
theorem prim_add:Prim2 K (rAddY K) addT:=by
 intro H x y tx ty t Q rx ry e q
 unfold addT at e
 split at e
 ·rename_i i
  unfold addI at e
  split at e
  ·split at e
   ·rename_i b eb
    cases zpd eb
    cases e
    rw [zla rx,zla ry]
    exact .inl (.inl ⟨_,_,rfl,rfl,q _ H (.sc rfl)⟩)
   ·cases e
  ·split at e
   ·rename_i b eb
    cases isS_inv eb
    obtain⟨hl,rfl⟩:=zga e
    rw [zee rx,zee ry]
    exact .inl (.inr (.inl ⟨_,_,rfl,rfl,hl,q _ H (.sc rfl)⟩))
   ·cases e
  ·rename_i a
   split at e
   ·rename_i b eb
    cases isTp_inv eb
    obtain⟨hl,rfl⟩:=zga e
    obtain⟨p,xs,rfl,h1,h2⟩:=zmd rx
    obtain⟨p',ys,rfl,g1,g2⟩:=zmd ry
    by_cases ha:a = []
    ·subst ha
     have:=h2.nil_inv
     subst this
     refine .inr (.inr ⟨p,p',ys,rfl,rfl,h1,g1,q _ H (.im ?_)⟩)
     rw [RpI];exact⟨p',ys,rfl,g1,g2⟩
    ·refine .inl (.inr (.inr (.inr ⟨p,p',xs,ys,rfl,rfl,h1,g1,fun z=>ha (h2.nil_iff.mp z),by rw [h2.length,g2.length];exact hl,fun z=>q _ H (.im ?_),fun z p hp=>q _ _ (.tup hp (h2.append g2))⟩)))
     have:=g2.nil_iff.mp z
     subst this
     rw [List.append_nil,RpI]
     exact⟨p,xs,rfl,h1,h2⟩
   ·cases e
  ·cases e
 ·split at e
  ·rename_i b eb
   cases zoe eb
   obtain⟨hl,rfl⟩:=zga e
   obtain⟨p,xs,rfl,h1,h2⟩:=zyd rx
   obtain⟨p',ys,rfl,g1,g2⟩:=zyd ry
   exact .inr (.inl ⟨p,p',xs,ys,rfl,rfl,h1,g1,by rw [h2.length,g2.length];exact hl,fun p hp=>q _ _ (.li hp (h2.append g2))⟩)
  ·cases e
 ·cases e
@[irreducible] noncomputable def subT:T->T->Option T:=i2 fun a b=>some (.im (.int (a - b)))
theorem prim_sub:Prim2 K (rI0 fun i j=>.int (i - j)) subT:=by
 intro H x y tx ty t Q rx ry e q
 unfold subT at e
 obtain⟨a,b,rfl,rfl,e⟩:=i2_inv e
 cases e
 rw [zla rx,zla ry]
 exact⟨_,_,rfl,rfl,q _ H (.sc rfl)⟩
noncomputable def mulOk (i j:Int):Bool:=(decide (-(2 ^ 64)<i) && decide (i<2 ^ 64)) || (decide (-(2 ^ 64)<j) && decide (j<2 ^ 64))
theorem mulOk_C {i j:Int}(h:mulOk i j=true):CMul i j:=by
 unfold mulOk at h
 simp only [Bool.or_eq_true,Bool.and_eq_true,decide_eq_true_eq] at h
 exact h
noncomputable def mulI (i:I) (b:Int):Option T:=match i with
 | .int a=>if mulOk a b=true then some (.im (.int (a * b))) else none
 | .str a=>if 1<=b/\b<=1000/\a.length<=1000 then some (.im (.str (oL (List.replicate b.toNat (sL a)).flatten))) else none
 | .tup a=>if a≠[]/\a.length<=1000/\1<=b/\b<=1000 then some (.im (.tup (List.replicate b.toNat a).flatten)) else none
 | _=>none
@[irreducible] noncomputable def mulT (x y:T):Option T:=match isI y with
 | some b=>(match x with
  | .im i=>mulI i b
  | .li a=>if -(2 ^ 63)<=b/\b<2 ^ 63/\a.length * b.toNat<=sizeLine then some (.li (List.replicate b.toNat a).flatten) else none
  | _=>none)
 | none=>none
theorem RpIs.reps {is:List I}{xs:List V}(h:RpIs K H is xs):∀ n:Nat,RpIs K H (List.replicate n is).flatten (List.replicate n xs).flatten
 | 0=>.nil
 | n+1=>by
  rw [List.replicate_succ,List.replicate_succ,List.flatten_cons,List.flatten_cons]
  exact h.append (h.reps n)
theorem prim_mul:Prim2 K (rMulY K) mulT:=by
 intro H x y tx ty t Q rx ry e q
 unfold mulT at e
 split at e
 ·rename_i b eb
  cases zpd eb
  split at e
  ·unfold mulI at e
   split at e
   ·obtain⟨h,rfl⟩:=zga e
    rw [zla rx,zla ry]
    exact .inl (.inl ⟨_,_,rfl,rfl,mulOk_C h,q _ H (.sc rfl)⟩)
   ·obtain⟨h,rfl⟩:=zga e
    rw [zee rx,zla ry]
    exact .inl (.inr (.inl ⟨_,_,rfl,rfl,h.1,h.2.1,h.2.2,q _ H (.sc rfl)⟩))
   ·rename_i a
    obtain⟨h,rfl⟩:=zga e
    obtain⟨p,xs,rfl,h1,h2⟩:=zmd rx
    rw [zla ry]
    refine .inl (.inr (.inr (.inr ⟨p,b,xs,rfl,rfl,h1,fun z=>h.1 (h2.nil_iff.mp z),by rw [h2.length];exact h.2.1,h.2.2.1,h.2.2.2,fun z=>q _ H (.im ?_),fun z p hp=>q _ _ (.tup hp (h2.reps _))⟩)))
    subst z
    have e1:(List.replicate (1:Int).toNat a).flatten=a:=by simp
    rw [e1,RpI]
    exact⟨p,xs,rfl,h1,h2⟩
   ·cases e
  ·obtain⟨h,rfl⟩:=zga e
   obtain⟨p,xs,rfl,h1,h2⟩:=zyd rx
   rw [zla ry]
   exact .inr ⟨p,b,xs,rfl,rfl,h1,h.1,h.2.1,by rw [h2.length];exact h.2.2,fun p hp=>q _ _ (.li hp (h2.reps _))⟩
  ·cases e
 ·cases e
@[irreducible] noncomputable def fdivT:T->T->Option T:=i2 fun a b=>if 0<b/\b<2 ^ 64 then some (.im (.int (a / b))) else none
theorem prim_fdiv:Prim2 K (rI CDiv64 fun i j=>.int (i / j)) fdivT:=by
 intro H x y tx ty t Q rx ry e q
 unfold fdivT at e
 obtain⟨a,b,rfl,rfl,e⟩:=i2_inv e
 obtain⟨h,rfl⟩:=zga e
 rw [zla rx,zla ry]
 exact⟨_,_,rfl,rfl,h,q _ H (.sc rfl)⟩
@[irreducible] noncomputable def modT:T->T->Option T:=i2 fun a b=>if 0<b then some (.im (.int (a % b))) else none
theorem prim_mod:Prim2 K (rI (fun _ j=>0<j) fun i j=>.int (i % j)) modT:=by
 intro H x y tx ty t Q rx ry e q
 unfold modT at e
 obtain⟨a,b,rfl,rfl,e⟩:=i2_inv e
 obtain⟨h,rfl⟩:=zga e
 rw [zla rx,zla ry]
 exact⟨_,_,rfl,rfl,h,q _ H (.sc rfl)⟩
@[irreducible] noncomputable def powT:T->T->Option T:=i2 fun a b=>if 0<=b/\b<=1000000/\a.natAbs<2 ^ 64 then some (.im (.int (a ^ b.toNat))) else none
theorem prim_pow:Prim2 K (rI CPow fun i j=>.int (i ^ j.toNat)) powT:=by
 intro H x y tx ty t Q rx ry e q
 unfold powT at e
 obtain⟨a,b,rfl,rfl,e⟩:=i2_inv e
 obtain⟨h,rfl⟩:=zga e
 rw [zla rx,zla ry]
 exact⟨_,_,rfl,rfl,h,q _ H (.sc rfl)⟩
@[irreducible] noncomputable def cmpT (p:Int->Int->Bool):T->T->Option T:=i2 fun a b=>some (.im (.bl (p a b)))
theorem prim_cmp {p:Int->Int->Bool}:Prim2 K (rI0 fun i j=>.bl (p i j)) (cmpT p):=by
 intro H x y tx ty t Q rx ry e q
 unfold cmpT at e
 obtain⟨a,b,rfl,rfl,e⟩:=i2_inv e
 cases e
 rw [zla rx,zla ry]
 exact⟨_,_,rfl,rfl,q _ H (.sc rfl)⟩
noncomputable def scalI (a b:I):Bool:=match a.sc with
 | some v=>(match b.sc with
  | some w=>scal v w
  | none=>false)
 | none=>false
noncomputable def ofV:V->I
 | .bl b=>.bl b
 | .int i=>.int i
 | .str x=>.str x
 | _=>.non
theorem of_sc {a:I}{v:V}(h:a.sc=some v):ofV v=a:=by cases a<;>cases h<;>rfl
noncomputable def eqI:I->I->Option Bool
 | .tup a,.tup b=>if I.doks a=true/\I.doks b=true/\I.deps a<=50 then some (decide (a=b)) else none
 | a,b=>if scalI a b=true then some (decide (a=b)) else none
noncomputable def eqB:T->T->Option Bool
 | .im a,.im b=>eqI a b
 | .li a,.li b=>if I.doks a=true/\I.doks b=true/\I.deps a<=50 then some (decide (a=b)) else none
 | _,_=>none
@[irreducible] noncomputable def eqT (x y:T):Option T:=(eqB x y).map fun b=>.im (.bl b)
@[irreducible] noncomputable def neT (x y:T):Option T:=(eqB x y).map fun b=>.im (.bl !b)
theorem eqI_sc {a b:I}{c:Bool}(h:eqI a b=some c):(∃ x y,a = .tup x/\b = .tup y/\I.doks x=true/\I.doks y=true/\I.deps x<=50/\c=decide (x=y)) ∨ ∃ v w,a.sc=some v/\b.sc=some w/\scal v w=true/\c=decide (v=w):=by
 unfold eqI at h
 split at h
 ·rename_i x y
  split at h
  ·rename_i hh;cases h;exact .inl ⟨x,y,rfl,rfl,hh.1,hh.2.1,hh.2.2,rfl⟩
  ·cases h
 ·split at h
  ·rename_i hh
   cases h
   right
   unfold scalI at hh
   split at hh
   ·rename_i v ev
    split at hh
    ·rename_i w ew
     refine⟨v,w,ev,ew,hh,?_⟩
     have:(a=b)↔(v=w):=⟨fun z=>Option.some.inj (ev.symm.trans ((congrArg I.sc z).trans ew)),fun z=>by rw [← of_sc ev,← of_sc ew,z]⟩
     exact decide_eq_decide.mpr this
    ·cases hh
   ·cases hh
  ·cases h
theorem eqB_ok {x y:V}{tx ty:T}{b:Bool}{P:V->Prop}(rx:Rpx K H tx x)(ry:Rpx K H ty y)(e:eqB tx ty=some b) :
  (scal x y=true/\b=decide (x=y)) ∨ (∃ ds es,Rep K H (.tup ds) x/\Rep K H (.tup es) y/\depths ds<=50/\(b=true↔ds=es)) ∨ (∃ p q xs ys ds es,x = .ref p/\y = .ref q/\SqL K H p xs/\SqL K H q ys/\Reps K H ds xs/\Reps K H es ys/\depths ds<=50/\(b=true↔ds=es)):=by
 unfold eqB at e
 split at e
 ·rename_i a c
  rcases eqI_sc e with⟨x1,y1,rfl,rfl,h1,h2,h3,rfl⟩ | ⟨v,w,h1,h2,h3,rfl⟩
  ·refine .inr (.inl ⟨I.toDs x1,I.toDs y1,?_,?_,by rw [deps_eq];exact h3,?_⟩)
   ·have:=rep_of (i:=.tup x1) (by rw [I.dok];exact h1) (rx_im rx)
    rwa [I.toD] at this
   ·have:=rep_of (i:=.tup y1) (by rw [I.dok];exact h2) (rx_im ry)
    rwa [I.toD] at this
   ·rw [decide_eq_true_eq,toDs_inj h1 h2]
  ·rw [sc_eq h1 (rx_im rx),sc_eq h2 (rx_im ry)]
   exact .inl ⟨h3,rfl⟩
 ·split at e
  ·rename_i a c h
   cases e
   obtain⟨p,xs,rfl,h1,h2⟩:=zyd rx
   obtain⟨p',ys,rfl,g1,g2⟩:=zyd ry
   exact .inr (.inr ⟨p,p',xs,ys,_,_,rfl,rfl,zbb h1,zbb g1,reps_of h.1 h2,reps_of h.2.1 g2,by rw [deps_eq];exact h.2.2,by rw [decide_eq_true_eq,toDs_inj h.1 h.2.1]⟩)
  ·cases e
 ·cases e
theorem prim_eq:Prim2 K (rEqX K) eqT:=by
 intro H x y tx ty t Q rx ry e q
 unfold eqT at e
 cases h:eqB tx ty with
 | none=>rw [h] at e;cases e
 | some b=>
  rw [h] at e;cases e
  rcases eqB_ok (P:=fun _=>True) rx ry h with⟨h1,rfl⟩ | ⟨ds,es,h1,h2,h3,h4⟩ | ⟨p,p',xs,ys,ds,es,h1,h2,h3,h4,h5,h6,h7,h8⟩
  ·exact .inl ⟨h1,q _ H (.sc rfl)⟩
  ·refine .inr (.inl ⟨ds,es,h1,h2,h3,fun c hc=>?_⟩)
   have:c=b:=by rw [Bool.eq_iff_iff,hc,h4]
   subst this
   exact q _ H (.sc rfl)
  ·refine .inr (.inr ⟨p,p',xs,ys,ds,es,h1,h2,h3,h4,h5,h6,h7,fun c hc=>?_⟩)
   have:c=b:=by rw [Bool.eq_iff_iff,hc,h8]
   subst this
   exact q _ H (.sc rfl)
theorem prim_ne:Prim2 K (rNeX K) neT:=by
 intro H x y tx ty t Q rx ry e q
 unfold neT at e
 cases h:eqB tx ty with
 | none=>rw [h] at e;cases e
 | some b=>
  rw [h] at e;cases e
  rcases eqB_ok (P:=fun _=>True) rx ry h with⟨h1,rfl⟩ | ⟨ds,es,h1,h2,h3,h4⟩ | ⟨p,p',xs,ys,ds,es,h1,h2,h3,h4,h5,h6,h7,h8⟩
  ·exact .inl ⟨h1,q _ H (.sc rfl)⟩
  ·refine .inr (.inl ⟨ds,es,h1,h2,h3,fun c hc=>?_⟩)
   have:c = !b:=by cases b<;>cases c<;>simp_all
   subst this
   exact q _ H (.sc rfl)
  ·refine .inr (.inr ⟨p,p',xs,ys,ds,es,h1,h2,h3,h4,h5,h6,h7,fun c hc=>?_⟩)
   have:c = !b:=by cases b<;>cases c<;>simp_all
   subst this
   exact q _ H (.sc rfl)
noncomputable def occ (i j:Str):Bool:=!(Builtin.Str.occurrences j i 0 j.length 1).isEmpty
noncomputable def inI (i:I) (y:T):Option Bool:=match y with
 | .im j=>(match j with
  | .str b=>(match i with
   | .str a=>some (occ a b)
   | _=>none)
  | .tup is=>if i.dok=true/\I.doks is=true/\I.deps is<=50 then some (decide (i∈is)) else none
  | _=>none)
 | .li is=>if i.dok=true/\I.doks is=true/\I.deps is<=50 then some (decide (i∈is)) else none
 | _=>none
noncomputable def inB (x y:T):Option Bool:=match x with
 | .im i=>inI i y
 | _=>none
@[irreducible] noncomputable def inT (x y:T):Option T:=(inB x y).map fun b=>.im (.bl b)
theorem inB_ok {x y:V}{tx ty:T}{b:Bool}(rx:Rpx K H tx x)(ry:Rpx K H ty y)(e:inB tx ty=some b) :
  (∃ i j,x = .str i/\y = .str j/\b=occ i j) ∨ (∃ p xs d ds,y = .ref p/\(SqL K H p xs ∨ SqT K H p xs)/\Rep K H d x/\Reps K H ds xs/\depths ds<=50/\(b=true↔d∈ds)):=by
 unfold inB at e
 split at e
 ·unfold inI at e
  split at e
  ·split at e
   ·split at e
    ·cases e;exact .inl ⟨_,_,zee rx,zee ry,rfl⟩
    ·cases e
   ·obtain⟨h,rfl⟩:=zga e
    obtain⟨p,xs,rfl,h1,h2⟩:=zmd ry
    exact .inr ⟨p,xs,_,_,rfl,.inr h1,rep_of h.1 (rx_im rx),reps_of h.2.1 h2,by rw [deps_eq];exact h.2.2,by rw [decide_eq_true_eq,mem_toDs h.1 h.2.1]⟩
   ·cases e
  ·obtain⟨h,rfl⟩:=zga e
   obtain⟨p,xs,rfl,h1,h2⟩:=zyd ry
   exact .inr ⟨p,xs,_,_,rfl,.inl (zbb h1),rep_of h.1 (rx_im rx),reps_of h.2.1 h2,by rw [deps_eq];exact h.2.2,by rw [decide_eq_true_eq,mem_toDs h.1 h.2.1]⟩
  ·cases e
 ·cases e
theorem prim_in:Prim2 K (rInX K) inT:=by
 intro H x y tx ty t Q rx ry e q
 unfold inT at e
 cases h:inB tx ty with
 | none=>rw [h] at e;cases e
 | some b=>
  rw [h] at e;cases e
  rcases inB_ok rx ry h with⟨i,j,rfl,rfl,rfl⟩ | ⟨p,xs,d,ds,h1,h2,h3,h4,h5,h6⟩
  ·exact .inl ⟨i,j,rfl,rfl,q _ H (.sc rfl)⟩
  ·refine .inr (.inr ⟨p,xs,d,ds,h1,h2,h3,h4,h5,fun c hc=>?_⟩)
   have:c=b:=by rw [Bool.eq_iff_iff,hc,h6];simp
   subst this
   exact q _ H (.sc rfl)
noncomputable def l1 {α:Type} (g:T->Option α) (ts:List T):Option α:=match ts with
 | []=>none
 | t::r=>(match r with
  | []=>g t
  | _::_=>none)
theorem zte {α:Type}{g:T->Option α}{ts:List T}{u : α}(h:l1 g ts=some u):∃ t,ts = [t]/\g t=some u:=by
 cases ts with
 | nil=>cases h
 | cons t r=>cases r with
  | nil=>exact⟨t,rfl,h⟩
  | cons _ _=>cases h
noncomputable def l2 {α:Type} (g:T->T->Option α) (ts:List T):Option α:=match ts with
 | []=>none
 | t::r=>l1 (g t) r
theorem l2_inv {α:Type}{g:T->T->Option α}{ts:List T}{u : α}(h:l2 g ts=some u):∃ t s,ts = [t,s]/\g t s=some u:=by
 cases ts with
 | nil=>cases h
 | cons t r=>
  obtain⟨s,rfl,e⟩:=zte (show l1 (g t) r=some u from h)
  exact⟨t,s,rfl,e⟩
noncomputable def lenI (i:I):Option T:=match i with
 | .str x=>if x.length<=sizeLine then some (.im (.int x.length)) else none
 | .tup is=>some (.im (.int is.length))
 | _=>none
noncomputable def len1 (t:T):Option T:=match t with
 | .im i=>lenI i
 | .li is=>some (.im (.int is.length))
 | .lst ts=>some (.im (.int ts.length))
 | .tup ts=>some (.im (.int ts.length))
 | _=>none
@[irreducible] noncomputable def lenT:List T->Option T:=l1 len1
theorem rxs1 {t:T}{vs:List V}(h:Rpxs K H [t] vs):∃ v,vs = [v]/\Rpx K H t v:=by
 obtain⟨v,r,rfl,h1,h2⟩:=h
 rw [Rpxs] at h2
 subst h2
 exact⟨v,rfl,h1⟩
theorem rxs2 {t u:T}{vs:List V}(h:Rpxs K H [t,u] vs):∃ v w,vs = [v,w]/\Rpx K H t v/\Rpx K H u w:=by
 obtain⟨v,r,rfl,h1,h2⟩:=h
 obtain⟨w,rfl,h3⟩:=rxs1 h2
 exact⟨v,w,rfl,h1,h3⟩
theorem rx_tupT {ts:List T}{v:V}(h:Rpx K H (.tup ts) v):∃ a xs F,v = .ref a/\SqT K H a xs/\Rps K H ts xs F:=by
 obtain⟨F,h⟩:=h;rw [Rp] at h;obtain⟨a,xs,h1,h2,h3⟩:=h;exact⟨a,xs,F,h1,h2,h3⟩
theorem prim_len:PrimN K (rLenX K) lenT:=by
 intro H vs ts t Q r e q
 unfold lenT at e
 have e0:=zte e
 clear e
 obtain⟨x,rfl,e⟩:=e0
 obtain⟨v,rfl,r1⟩:=rxs1 r
 unfold len1 at e
 split at e
 ·unfold lenI at e
  split at e
  ·obtain⟨h,rfl⟩:=zga e
   rw [zee r1]
   exact .inr ⟨_,rfl,h,q _ H (.sc rfl)⟩
  ·cases e
   obtain⟨p,xs,rfl,h1,h2⟩:=zmd r1
   exact .inl ⟨p,xs,rfl,.inr h1,q _ H (.sc (by rw [h2.length];rfl))⟩
  ·cases e
 ·cases e
  obtain⟨p,xs,rfl,h1,h2⟩:=zyd r1
  exact .inl ⟨p,xs,rfl,.inl (zbb h1),q _ H (.sc (by rw [h2.length];rfl))⟩
 ·cases e
  obtain⟨p,xs,F,rfl,h1,h2⟩:=rx_lst r1
  exact .inl ⟨p,xs,rfl,.inl (zbb h1),q _ H (.sc (by rw [h2.length];rfl))⟩
 ·cases e
  obtain⟨p,xs,F,rfl,h1,h2⟩:=rx_tupT r1
  exact .inl ⟨p,xs,rfl,.inr h1,q _ H (.sc (by rw [h2.length];rfl))⟩
 ·cases e
@[irreducible] noncomputable def minT:List T->Option T:=l2 (i2 fun a b=>some (.im (.int (if b<a then b else a))))
theorem prim_min:PrimN K (fun xs H Q=>∃ i j,xs = [.int i,.int j]/\Q (.int (if j<i then j else i)) H) minT:=by
 intro H vs ts t Q r e q
 unfold minT at e
 have e0:=l2_inv e
 clear e
 obtain⟨x,y,rfl,e⟩:=e0
 obtain⟨a,b,rfl,rfl,e⟩:=i2_inv e
 cases e
 obtain⟨v,w,rfl,r1,r2⟩:=rxs2 r
 rw [zla r1,zla r2]
 exact⟨_,_,rfl,q _ H (.sc rfl)⟩
@[irreducible] noncomputable def maxT:List T->Option T:=l2 (i2 fun a b=>some (.im (.int (if b > a then b else a))))
theorem prim_max:PrimN K (fun xs H Q=>∃ i j,xs = [.int i,.int j]/\Q (.int (if j > i then j else i)) H) maxT:=by
 intro H vs ts t Q r e q
 unfold maxT at e
 have e0:=l2_inv e
 clear e
 obtain⟨x,y,rfl,e⟩:=e0
 obtain⟨a,b,rfl,rfl,e⟩:=i2_inv e
 cases e
 obtain⟨v,w,rfl,r1,r2⟩:=rxs2 r
 rw [zla r1,zla r2]
 exact⟨_,_,rfl,q _ H (.sc rfl)⟩
noncomputable def int1 (t:T):Option T:=match t with
 | .im i=>(match i with
  | .int a=>some (.im (.int a))
  | .bl b=>some (.im (.int (if b then 1 else 0)))
  | _=>none)
 | _=>none
@[irreducible] noncomputable def intT:List T->Option T:=l1 int1
theorem prim_int:PrimN K (fun xs H Q=>(∃ i,xs = [.int i]/\Q (.int i) H) ∨ ∃ k,xs = [.bl k]/\Q (.int (if k then 1 else 0)) H) intT:=by
 intro H vs ts t Q r e q
 unfold intT at e
 have e0:=zte e
 clear e
 obtain⟨x,rfl,e⟩:=e0
 obtain⟨v,rfl,r1⟩:=rxs1 r
 unfold int1 at e
 split at e
 ·split at e
  ·cases e
   rw [zla r1]
   exact .inl ⟨_,rfl,q _ H (.sc rfl)⟩
  ·cases e
   rw [rx_bl r1]
   exact .inr ⟨_,rfl,q _ H (.sc rfl)⟩
  ·cases e
 ·cases e
noncomputable def seq1 (g:List I->T) (t:T):Option T:=match t with
 | .im i=>(match i with
  | .tup is=>some (g is)
  | _=>none)
 | .li is=>some (g is)
 | _=>none
@[irreducible] noncomputable def tupT:List T->Option T:=l1 (seq1 fun is=>.im (.tup is))
theorem prim_tup:PrimN K (rTupOf K) tupT:=by
 intro H vs ts t Q r e q
 unfold tupT at e
 have e0:=zte e
 clear e
 obtain⟨x,rfl,e⟩:=e0
 obtain⟨v,rfl,r1⟩:=rxs1 r
 unfold seq1 at e
 split at e
 ·split at e
  ·cases e
   obtain⟨p,xs,rfl,h1,h2⟩:=zmd r1
   exact⟨p,xs,rfl,.inr ⟨h1,q _ H (.im (rx_im r1))⟩⟩
  ·cases e
 ·cases e
  obtain⟨p,xs,rfl,h1,h2⟩:=zyd r1
  exact⟨p,xs,rfl,.inl ⟨zbb h1,fun l hl=>q _ _ (.tup hl h2)⟩⟩
 ·cases e
@[irreducible] noncomputable def lstT:List T->Option T:=l1 (seq1 fun is=>.li is)
theorem prim_lst:PrimN K (rLstOf K) lstT:=by
 intro H vs ts t Q r e q
 unfold lstT at e
 have e0:=zte e
 clear e
 obtain⟨x,rfl,e⟩:=e0
 obtain⟨v,rfl,r1⟩:=rxs1 r
 unfold seq1 at e
 split at e
 ·split at e
  ·cases e
   obtain⟨p,xs,rfl,h1,h2⟩:=zmd r1
   exact⟨p,xs,rfl,.inr h1,fun l hl=>q _ _ (.li hl h2)⟩
  ·cases e
 ·cases e
  obtain⟨p,xs,rfl,h1,h2⟩:=zyd r1
  exact⟨p,xs,rfl,.inl (zbb h1),fun l hl=>q _ _ (.li hl h2)⟩
 ·cases e
noncomputable def bls:List I->Option (List Bool)
 | []=>some []
 | .bl b::is=>(bls is).map (b :: ·)
 | _=>none
theorem bls_rp {is:List I}{xs:List V}:∀ {bs:List Bool},bls is=some bs->RpIs K H is xs->xs=bs.map V.bl:=by
 induction is generalizing xs with
 | nil=>intro bs h r;cases h;exact r.nil_inv
 | cons i is ih=>
  intro bs h r
  cases i with
  | bl b=>
   simp only [bls] at h
   cases e:bls is with
   | none=>rw [e] at h;cases h
   | some cs=>
    rw [e] at h;cases h
    obtain⟨x,r',rfl,h1,h2⟩:=r.cons_inv
    rw [RpI] at h1
    rw [h1,ih e h2];rfl
  | _=>simp [bls] at h
noncomputable def allT:List T->Option T
 | [.li is]=>(bls is).map fun bs=>.im (.bl (bs.all id))
 | _=>none
theorem prim_all:PrimN K (rAll K) allT:=by
 intro H vs ts t Q r e q
 unfold allT at e
 split at e
 ·rename_i is
  cases h:bls is with
  | none=>rw [h] at e;cases e
  | some bs=>
   rw [h] at e;cases e
   obtain⟨v,rfl,r1⟩:=rxs1 r
   obtain⟨p,xs,rfl,h1,h2⟩:=zyd r1
   have:=bls_rp h h2
   subst this
   exact⟨p,bs,rfl,zbb h1,q _ H (.sc rfl)⟩
 ·cases e
noncomputable def stxs:List I->Option (List Str)
 | []=>some []
 | .str b::is=>(stxs is).map (b :: ·)
 | _=>none
theorem stxs_rp {is:List I}{xs:List V}:∀ {bs:List Str},stxs is=some bs->RpIs K H is xs->xs=bs.map V.str:=by
 induction is generalizing xs with
 | nil=>intro bs h r;cases h;exact r.nil_inv
 | cons i is ih=>
  intro bs h r
  cases i with
  | str b=>
   simp only [stxs] at h
   cases e:stxs is with
   | none=>rw [e] at h;cases h
   | some cs=>
    rw [e] at h;cases h
    obtain⟨x,r',rfl,h1,h2⟩:=r.cons_inv
    rw [RpI] at h1
    rw [h1,ih e h2];rfl
  | _=>simp [stxs] at h
noncomputable def joinT:T->List T->Option T
 | .im (.str z),[.li is]=>match stxs is with
  | some zs=>if (zs.map (·.length)).sum+zs.length * z.length<=16777216 then some (.im (.str (Txt.join z zs))) else none
  | none=>none
 | _,_=>none
theorem prim_join:PrimM K "str" (rJoin K) joinT:=by
 intro H x vs tx ts t Q rx r e q
 unfold joinT at e
 split at e
 ·rename_i z is
  split at e
  ·rename_i zs hz
   split at e
   ·cases e
    obtain⟨v,rfl,r1⟩:=rxs1 r
    obtain⟨p,xs,rfl,h1,h2⟩:=zyd r1
    have:=stxs_rp hz h2
    subst this
    rw [zee rx]
    exact⟨z,p,zs,rfl,rfl,zbb h1,by assumption,q _ H (.sc rfl)⟩
   ·cases e
  ·cases e
 ·cases e
end
end L2
namespace L2
open PySem PySem.Spec PyProof.Rows
section
variable  {Γ:Gm}{H H':Hp}{X:List En}{e:En}{ρ:Rho}{σ:St}{E:List En}{v:V}{t:T}{K:PySem.W.Frag}
theorem Sim.partN (S:Sim Γ H ρ σ E)(sm:Same H H'){s:T}(he:e∈E){ro:Option Nat}{p:Option (List Ac)}(ho:e.r.k = .vw ro p){P:V->Prop}(hp:∀ F,Rp Γ.K H e.r.t e.v F->∃ w G,P w/\Rp Γ.K H' s w G/\∀ a∈G,a∈F ∨ H a=none):∃ w,P w/\Sim Γ H' ρ σ (⟨none,w,⟨.vw ro none,s⟩⟩::E):=by
 obtain⟨L,g,hL⟩:=S.sl
 have he':e∈L.map (·.e):=by rw [hL];exact List.mem_append_left _ he
 obtain⟨h,hh,rfl⟩:=List.mem_map.mp he'
 obtain⟨w,G,h1,h2,h3⟩:=hp h.F (g.rp h hh)
 have own:∀ a,H a=none->a ∉ L.flatMap Hd.own:=fun a ha z=>by
  obtain⟨o,e,_⟩:=(g.ad a z).1
  rw [ha] at e;cases e
 have g':GW Γ H' L:=by
  have:=g.step (hs:=[]) (L:=L) (H':=H') (by simp) (by simp) (sm.offM _) (by simp) (key:=none) (v:=.non) (r:=⟨.ow,.im .non⟩) (F:=[]) List.nodup_nil (by simp) (rp_im (by rw [RpI])) (.inl ⟨rfl,by simp⟩) (fun j hj=>by cases hj)
  exact this.drop rfl
 refine⟨w,h1,⟨⟨_,g'.push (v:=w) (r:=⟨.vw ro none,s⟩) (F:=G) h2 ?_ (.inl rfl),by rw [List.map_cons,hL];rfl⟩,S.al,S.len,fun x hx j hj=>?_⟩⟩
 ·have k:=g'.kd h hh
  unfold KdOk at k ⊢
  rw [ho] at k
  cases ro with
  | none=>exact fun a ha=>(h3 a ha).elim (k a) (own a)
  | some j=>
   obtain⟨x,x1,x2,x3,x4,x5⟩:=k
   exact⟨x,x1,x2,x3,fun a ha=>(h3 a ha).elim (x4 a) (fun z=>.inr (own a z)),fun q hq=>by cases hq⟩
 ·rcases List.mem_cons.mp hx with rfl | hx
  ·cases hj
  ·exact S.hi x hx j hj
theorem rps_hs:∀ {ts:List T} {xs:List V} {F:List Addr},Rps K H ts xs F->∃ hs:List Hd,hs.map (·.e)=temps xs ts/\hs.flatMap (·.F)=F/\∀ h∈hs,Rp K H h.e.r.t h.e.v h.F/\h.e.r.k = .ow/\h.e.key=none/\∀ a∈h.F,a∈F
 | [],xs,F,r=>by
  obtain⟨rfl,rfl⟩:=r.nil_inv
  exact⟨[],rfl,rfl,by simp⟩
 | t::ts,xs,F,r=>by
  obtain⟨y,r',F1,F2,rfl,r1,r2,rfl⟩:=r.cons_inv
  obtain⟨hs,h1,h2,h3⟩:=rps_hs r2
  refine⟨⟨⟨none,y,⟨.ow,t⟩⟩,F1⟩::hs,by rw [List.map_cons,h1];rfl,by rw [List.flatMap_cons,h2],fun h hh=>?_⟩
  rcases List.mem_cons.mp hh with rfl | hh
  ·exact⟨r1,rfl,rfl,fun a ha=>List.mem_append_left _ ha⟩
  ·obtain⟨a,b,c,d⟩:=h3 h hh
   exact⟨a,b,c,fun x hx=>List.mem_append_right _ (d x hx)⟩
theorem Sim.split {ts:List T}(S:Sim Γ H ρ σ (⟨none,v,⟨.ow,.tup ts⟩⟩::E)):∃ a xs,v = .ref a/\SqT Γ.K H a xs/\xs.length=ts.length/\Sim Γ H ρ σ (temps xs ts++E):=by
 obtain⟨L,g,h⟩:=S.sl
 rw [List.cons_append] at h
 obtain⟨x,L',rfl,h1,h2⟩:=zba h
 have rp:=g.rp x List.mem_cons_self
 rw [h1,Rp] at rp
 obtain⟨a,xs,ev,hq,rps⟩:=rp
 have k0:=g.kd x List.mem_cons_self
 unfold KdOk at k0
 rw [h1] at k0
 have eo:x.own=x.F:=by unfold Hd.own;rw [h1];rfl
 obtain⟨hs,e1,e2,e3⟩:=rps_hs rps
 have ho:∀ h∈hs,h.e.r.k.isOw=true:=fun h hh=>by rw [(e3 h hh).2.1];rfl
 have eown:(hs++L').flatMap Hd.own=(x::L').flatMap Hd.own:=by rw [List.flatMap_append,List.flatMap_cons,own_eq ho,e2,eo]
 refine⟨a,xs,ev,hq,rps.length,⟨⟨hs++L',⟨?_,?_,fun y hy=>?_,fun y hy=>?_,?_,g.fr,g.iol⟩,?_⟩,S.al,S.len,fun y hy j hj=>?_⟩⟩
 ·rw [eown];exact g.nd
 ·rw [eown];exact g.ad
 ·rcases List.mem_append.mp hy with hy | hy
  ·exact (e3 y hy).1
  ·exact g.rp y (List.mem_cons_of_mem _ hy)
 ·rcases List.mem_append.mp hy with hy | hy
  ·unfold KdOk
   rw [(e3 y hy).2.1]
   exact fun b hb=>k0 b ((e3 y hy).2.2.2 b hb)
  ·have k:=g.kd y (List.mem_cons_of_mem _ hy)
   unfold KdOk at k ⊢
   split at k
   ·exact k
   ·exact k
   ·rw [eown];exact k
   ·obtain⟨z,z1,z2,z3,z4,z5⟩:=k
    rcases List.mem_cons.mp z1 with rfl | z1
    ·rw [h1] at z2;cases z2
    ·exact⟨z,List.mem_append_right _ z1,z2,z3,by rw [eown];exact z4,z5⟩
 ·have ks:=g.ks
  rw [List.filterMap_cons,h1] at ks
  rw [List.filterMap_append,List.filterMap_eq_nil_iff.mpr fun y hy=>(e3 y hy).2.2.1]
  exact ks
 ·rw [List.map_append,e1,h2,List.append_assoc]
 ·rcases List.mem_append.mp hy with hy | hy
  ·have:∀ {xs:List V} {ts:List T},y∈temps xs ts->y.key=none:=by
    intro xs
    induction xs with
    | nil=>intro ts h;cases ts<;>cases h
    | cons x xs ih=>
     intro ts h
     cases ts with
     | nil=>cases h
     | cons t ts=>
      rcases List.mem_cons.mp h with rfl | h
      ·rfl
      ·exact ih h
   rw [this hy] at hj;cases hj
  ·exact S.hi y (List.mem_cons_of_mem _ hy) j hj
noncomputable def partV (ro:Option Nat):T->R
 | .im i=>⟨.ow,.im i⟩
 | t=>⟨.vw ro none,t⟩
noncomputable def parts:R->Option (List R)
 | ⟨_,.im (.tup is)⟩=>some (is.map fun i=>⟨.ow,.im i⟩)
 | ⟨.ow,.tup ts⟩=>some (ts.map fun t=>⟨.ow,t⟩)
 | ⟨.vw ro _,.tup ts⟩=>some (ts.map (partV ro))
 | _=>none
theorem temps_ens:∀ {xs:List V} {ts:List T},temps xs ts=ens xs (ts.map fun t=>⟨.ow,t⟩)
 | [],ts=>by cases ts<;>rfl
 | x::xs,[]=>rfl
 | x::xs,t::ts=>by rw [temps,List.map_cons,ens,temps_ens]
theorem Sim.imms:∀ {is:List I} {xs:List V} {E:List En},Sim Γ H ρ σ E->RpIs Γ.K H is xs->Sim Γ H ρ σ (ens xs (is.map fun i=>⟨.ow,.im i⟩)++E)
 | [],xs,E,S,r=>by obtain rfl:=r.nil_inv;exact S
 | i::is,xs,E,S,r=>by
  obtain⟨x,r',rfl,h1,h2⟩:=r.cons_inv
  rw [List.map_cons,ens,List.cons_append]
  exact (Sim.imms S h2).imm h1
theorem Sim.parts {r:R}{rs:List R}(S:Sim Γ H ρ σ (⟨none,v,r⟩::E))(h:L2.parts r=some rs):∃ a xs,v = .ref a/\SqT Γ.K H a xs/\xs.length=rs.length/\Sim Γ H ρ σ (ens xs rs++E):=by
 unfold L2.parts at h
 split at h
 ·rename_i k is
  cases h
  obtain⟨F,r⟩:=S.rd List.mem_cons_self
  obtain⟨a,xs,e,hq,hr⟩:=zmd ⟨F,r⟩
  exact⟨a,xs,e,hq,by rw [hr.length,List.length_map],(S.drop rfl).imms hr⟩
 ·rename_i ts
  cases h
  obtain⟨a,xs,e,hq,hl,S2⟩:=S.split
  rw [temps_ens] at S2
  exact⟨a,xs,e,hq,by rw [hl,List.length_map],S2⟩
 ·rename_i ro p ts
  cases h
  obtain⟨F,r⟩:=S.rd List.mem_cons_self
  obtain⟨a,xs,G,e,hq,hr⟩:=rx_tupT ⟨F,r⟩
  obtain⟨L,g,hL⟩:=S.sl
  rw [List.cons_append] at hL
  obtain⟨x,L',rfl,h1,h2⟩:=zba hL
  have rp:=g.rp x List.mem_cons_self
  rw [h1,Rp] at rp
  obtain⟨a',xs',ev,hq',rps⟩:=rp
  have S3:Sim Γ H ρ σ (ens xs' (ts.map (partV ro))++E):=by
   have go:∀ (ts:List T) (xs:List V) (G:List Addr),Rps Γ.K H ts xs G->(∀ a∈G,a∈x.F)->∃ L1,GW Γ H (L1++x::L')/\L1.map (·.e)=ens xs (ts.map (partV ro))/\∀ h∈L1,h.e.key=none:=by
    intro ts
    induction ts with
    | nil=>intro xs G r _;obtain⟨rfl,rfl⟩:=r.nil_inv;exact⟨[],g,rfl,by simp⟩
    | cons t ts ih=>
     intro xs G r hG
     obtain⟨y,r',F1,F2,rfl,r1,r2,rfl⟩:=r.cons_inv
     obtain⟨L1,g1,e1,e2⟩:=ih r' F2 r2 fun a ha=>hG a (List.mem_append_right _ ha)
     have kx:=g1.kd x (List.mem_append_right _ List.mem_cons_self)
     unfold KdOk at kx
     rw [h1] at kx
     have key:∃ h:Hd,GW Γ H (h::(L1++x::L'))/\h.e=⟨none,y,partV ro t⟩:=by
      have vw:GW Γ H (⟨⟨none,y,⟨.vw ro none,t⟩⟩,F1⟩::(L1++x::L')):=by
       refine g1.push (v:=y) (r:=⟨.vw ro none,t⟩) (F:=F1) r1 ?_ (.inl rfl)
       unfold KdOk
       cases ro with
       | none=>exact fun a ha=>kx a (hG a (List.mem_append_left _ ha))
       | some j=>
        obtain⟨z,z1,z2,z3,z4,z5⟩:=kx
        exact⟨z,z1,z2,z3,fun a ha=>z4 a (hG a (List.mem_append_left _ ha)),fun q hq=>by cases hq⟩
      cases t with
      | im i=>exact⟨_,g1.push (v:=y) (r:=⟨.ow,.im i⟩) (F:=[]) (rp_im (zwa r1).1) (fun a ha=>by cases ha) (.inr rfl),rfl⟩
      | _=>exact⟨_,vw,rfl⟩
     obtain⟨h,gh,eh⟩:=key
     refine⟨h::L1,gh,by rw [List.map_cons,eh,e1];rfl,fun z hz=>?_⟩
     rcases List.mem_cons.mp hz with rfl | hz
     ·rw [eh]
     ·exact e2 z hz
   obtain⟨L1,g1,e1,e2⟩:=go ts xs' x.F rps fun a ha=>ha
   have g2:GW Γ H (L1++L'):=by
    have p:(L1++x::L').Perm (x::(L1++L')):=List.perm_middle
    exact (g1.perm p).drop (by rw [h1])
   refine⟨⟨_,g2,by rw [List.map_append,e1,h2,List.append_assoc]⟩,S.al,S.len,fun y hy j hj=>?_⟩
   rcases List.mem_append.mp hy with hy | hy
   ·rw [← e1] at hy
    obtain⟨z,hz,rfl⟩:=List.mem_map.mp hy
    rw [e2 z hz] at hj;cases hj
   ·exact S.hi y (List.mem_cons_of_mem _ hy) j hj
  exact⟨a',xs',ev,hq',by rw [rps.length,List.length_map],S3⟩
 ·cases h
@[irreducible] noncomputable def mGNil:MGs:=⟨fun rs ρ=>match rs with
 | []=>some ρ
 | _=>none,[]⟩
@[irreducible] noncomputable def zib (g:MG)(gs:MGs):MGs:=⟨fun rs ρ=>match rs with
 | r::rs=>if rs.all (alive g.mu)=true then (match g.run r ρ with
  | some ρ1=>gs.run rs ρ1
  | none=>none) else none
 | []=>none,g.mu++gs.mu⟩
@[irreducible] noncomputable def mGTup (gs:MGs):MG:=⟨fun r ρ=>match parts r with
 | some rs=>gs.run rs ρ
 | none=>none,gs.mu⟩
theorem ref_gnil:RefGs K gNil mGNil:=by with_unfolding_all
 intro Γ H ρ σ E Q vs rs ρ' hK hr hl S q
 cases rs with
 | nil=>
  cases hr
  have:vs = []:=List.length_eq_zero_iff.mp hl
  subst this
  exact⟨rfl,q σ H (by rw [show mGNil.mu = [] from rfl,zgc];exact S)⟩
 | cons _ _=>cases hr
theorem ref_gcons {g:TG}{gs:TGs}{m:MG}{ms:MGs}(h1:RefG K g m)(h2:RefGs K gs ms):RefGs K (gCons g gs) (zib m ms):=by with_unfolding_all
 intro Γ H ρ σ E Q vs rs ρ' hK hr hl S q
 cases rs with
 | nil=>cases hr
 | cons r rs=>
  cases vs with
  | nil=>cases hl
  | cons v vs=>
   simp only [zib] at hr q
   split at hr
   ·rename_i al
    split at hr
    ·rename_i ρ1 e1
     refine⟨v,vs,rfl,?_⟩
     rw [ens,List.cons_append] at S
     refine h1 Γ H ρ σ _ _ v r ρ1 hK e1 S fun σ1 H1 S1=>?_
     rw [zaa,killE_ens al] at S1
     exact h2 Γ H1 ρ1 σ1 _ _ vs rs ρ' hK hr (by simpa using hl) S1 fun σ2 H2 S2=>q σ2 H2 (by rw [← zh];exact S2)
    ·cases hr
   ·cases hr
theorem ref_gtup {gs:TGs}{ms:MGs}{n:Nat}(h:RefGs K gs ms)(hn:∀ rs ρ ρ',ms.run rs ρ=some ρ'->rs.length=n):RefG K (gTup K n gs) (mGTup ms):=by
 intro Γ H ρ σ E Q v r ρ' hK hr S q
 simp only [mGTup] at hr q
 split at hr
 ·rename_i rs e1
  obtain⟨a,xs,e,hq,hl,S2⟩:=S.parts e1
  rw [hK] at hq
  exact⟨a,xs,e,hq,by rw [hl];exact hn _ _ _ hr,h Γ H ρ σ _ _ xs rs ρ' hK hr hl S2 q⟩
 ·cases hr
noncomputable def consL (mv:List Nat):List R->Rho->Option (List T×Rho)
 | [],ρ=>some ([],ρ)
 | ⟨.ow,t⟩::rs,ρ=>match consL mv rs ρ with
  | some (ts,ρ')=>some (t::ts,ρ')
  | none=>none
 | ⟨.vw (some i) (some []),t⟩::rs,ρ=>if (mv.contains i && rs.all (alive [i]))=true then (match ρ[i]? with
  | some (some ⟨.ow,_⟩)=>(match consL mv rs ((zy [i] ρ).set i none) with
   | some (ts,ρ')=>some (t::ts,ρ')
   | none=>none)
  | _=>none) else none
 | _,_=>none
theorem Sim.consL {mv:List Nat}:∀ {rs:List R} {vs:List V} {ts:List T} {ρ ρ':Rho} {A E:List En},Sim Γ H ρ σ (A++(ens vs rs++E))->vs.length=rs.length->L2.consL mv rs ρ=some (ts,ρ')->(∀ e∈A,e.r.k = .ow/\e.key=none)->vs.length=ts.length/\Sim Γ H ρ' σ (A++(temps vs ts++zm mv E))
 | [],[],ts,ρ,ρ',A,E,S,_,h,hA=>by
  cases h
  refine⟨rfl,?_⟩
  have:=S.weak mv
  rw [zaa] at this
  have ea:zm mv A=A:=List.filter_eq_self.mpr fun e he=>by unfold zia;rw [(hA e he).1];rfl
  rw [ea] at this
  exact this
 | r::rs,v::vs,ts,ρ,ρ',A,E,S,hl,h,hA=>by
  rw [ens,List.cons_append] at S
  obtain⟨k,t⟩:=r
  cases k with
  | ow=>
   simp only [L2.consL] at h
   split at h
   ·rename_i ts1 ρ1 e1
    cases h
    obtain⟨h1,S1⟩:=Sim.consL (rs:=rs) (vs:=vs) (A:=A++[⟨none,v,⟨.ow,t⟩⟩]) (E:=E) (by simpa using S) (by simpa using hl) e1 (fun e he=>by
     rcases List.mem_append.mp he with he | he
     ·exact hA e he
     ·rw [List.mem_singleton.mp he];exact⟨rfl,rfl⟩)
    exact⟨by simp [h1],by rw [temps];simpa using S1⟩
   ·cases h
  | io n=>cases h
  | vw a b=>
   cases a with
   | none=>cases h
   | some i=>
    cases b with
    | none=>cases h
    | some p=>
     cases p with
     | cons _ _=>cases h
     | nil=>
      simp only [L2.consL] at h
      split at h
      ·rename_i al
       rw [Bool.and_eq_true] at al
       split at h
       ·rename_i t1 h1
        split at h
        ·rename_i ts1 ρ1 e1
         cases h
         have S0:Sim Γ H ρ σ (⟨none,v,⟨.vw (some i) (some []),t⟩⟩::(A++(ens vs rs++E))):=S.perm List.perm_middle
         have S1:=S0.move h1
         have ea:zm [i] A=A:=List.filter_eq_self.mpr fun e he=>by unfold zia;rw [(hA e he).1];rfl
         rw [zaa,ea,zaa,killE_ens al.2] at S1
         obtain⟨h2,S2⟩:=Sim.consL (rs:=rs) (vs:=vs) (A:=A++[⟨none,v,⟨.ow,t⟩⟩]) (E:=zm [i] E) (S1.perm (by
          rw [List.append_assoc]
          exact (List.perm_middle).symm)) (by simpa using hl) e1 (fun e he=>by
          rcases List.mem_append.mp he with he | he
          ·exact hA e he
          ·rw [List.mem_singleton.mp he];exact⟨rfl,rfl⟩)
         refine⟨by simp [h2],?_⟩
         rw [temps]
         have ek:zm mv (zm [i] E)=zm mv E:=by
          rw [zh]
          unfold zm
          congr 1
          funext e
          rw [keepE_app]
          by_cases hk:zia mv e=true
          ·rw [hk,Bool.true_and]
           unfold zia at hk ⊢
           split
           ·rename_i j hj
            rw [hj] at hk
            have:j≠i:=fun z=>by subst z;simp at hk;exact hk (by simpa using al.1)
            simp [this]
           ·rfl
          ·rw [Bool.not_eq_true] at hk;rw [hk,Bool.false_and]
         rw [ek] at S2
         simpa using S2
        ·cases h
       ·cases h
      ·cases h
 | [],_::_,_,_,_,_,_,_,h,_,_=>by cases h
 | _::_,[],_,_,_,_,_,_,h,_,_=>by cases h
noncomputable def ims:List T->Option (List I)
 | []=>some []
 | .im i::ts=>(ims ts).map (i :: ·)
 | _=>none
theorem ims_eq:∀ {ts:List T} {is:List I},ims ts=some is->ts=is.map T.im
 | [],is,h=>by cases h;rfl
 | .im i::ts,is,h=>by
  simp only [ims] at h
  cases e:ims ts with
  | none=>rw [e] at h;cases h
  | some js=>rw [e] at h;cases h;rw [List.map_cons,← ims_eq e]
 | .tup _::_,_,h=>by cases h
 | .li _::_,_,h=>by cases h
 | .lst _::_,_,h=>by cases h
 | .di _::_,_,h=>by cases h
 | .dc _::_,_,h=>by cases h
 | .ins _ _::_,_,h=>by cases h
noncomputable def mkTup (ts:List T):T:=match ims ts with
 | some is=>.im (.tup is)
 | none=>.tup ts
noncomputable def zmc (ts:List T):T:=match ims ts with
 | some is=>.li is
 | none=>.lst ts
@[irreducible] noncomputable def zda (mv:List Nat)(a:MA):ME:=⟨fun ρ=>match a.run ρ with
 | some (rs,ρ1)=>if rs.length<=1000 then (match consL mv rs ρ1 with
  | some (ts,ρ2)=>some (⟨.ow,mkTup ts⟩,ρ2)
  | none=>none) else none
 | none=>none,a.mu++mv⟩
@[irreducible] noncomputable def zxa (mv:List Nat)(a:MA):ME:=⟨fun ρ=>match a.run ρ with
 | some (rs,ρ1)=>if rs.length<=1000 then (match consL mv rs ρ1 with
  | some (ts,ρ2)=>some (⟨.ow,zmc ts⟩,ρ2)
  | none=>none) else none
 | none=>none,a.mu++mv⟩
theorem sz1000 {n:Nat}(h:n<=1000):n<=sizeLine:=by rw [sizeLine_eq];omega
theorem ref_tupD {ta:TA}{a:MA}{mv:List Nat}(ha:RefA K ta a):RefE K (tTup ta) (zda mv a):=by
 intro Γ H ρ σ E Q r ρ' hK hr S q
 simp only [zda] at hr q
 split at hr
 ·rename_i rs ρ1 e1
  split at hr
  ·rename_i hz
   split at hr
   ·rename_i ts ρ2 e2
    cases hr
    refine ha Γ H ρ σ E _ rs ρ1 hK e1 S fun vs H1 hl S1=>⟨by rw [hl];exact sz1000 hz,fun p hp=>?_⟩
    obtain⟨hl2,S2⟩:=Sim.consL (A:=[]) (by simpa using S1) hl e2 (by simp)
    rw [List.nil_append,zh] at S2
    obtain⟨F,h1,h2,h3,h4⟩:=S2.use hl2
    have sm:=Same.laid (o:=.tup vs) hp
    refine q _ _ (h4 _ (.ref p) (mkTup ts) F (sm.offM _) (fun a ha=>let ⟨o,e,_⟩:=h3 a ha;⟨o,sm a o e⟩) h2 (fun a ha=>⟨.inl ha,let ⟨o,e,m⟩:=h3 a ha;⟨o,sm a o e,m⟩⟩) ?_)
    unfold mkTup
    split
    ·rename_i is hi
     rw [ims_eq hi] at h1
     obtain⟨h5,h6⟩:=Rps.ims.mp h1
     subst h6
     refine rp_im ?_
     rw [RpI]
     exact⟨p,vs,rfl,SqT.of zfa,h5.same sm⟩
    ·rw [Rp]
     exact⟨p,vs,rfl,SqT.of zfa,h1.same sm⟩
   ·cases hr
  ·cases hr
 ·cases hr
theorem ref_lstD {ta:TA}{a:MA}{mv:List Nat}(ha:RefA K ta a):RefE K (tLst ta) (zxa mv a):=by
 intro Γ H ρ σ E Q r ρ' hK hr S q
 simp only [zxa] at hr q
 split at hr
 ·rename_i rs ρ1 e1
  split at hr
  ·rename_i hz
   split at hr
   ·rename_i ts ρ2 e2
    cases hr
    refine ha Γ H ρ σ E _ rs ρ1 hK e1 S fun vs H1 hl S1=>⟨by rw [hl];exact sz1000 hz,fun p hp=>?_⟩
    obtain⟨hl2,S2⟩:=Sim.consL (A:=[]) (by simpa using S1) hl e2 (by simp)
    rw [List.nil_append,zh] at S2
    obtain⟨F,h1,h2,h3,h4⟩:=S2.use hl2
    have sm:=Same.laid (o:=.lst vs) hp
    have np:p ∉ F:=fun z=>by obtain⟨o,e,_⟩:=h3 p z;rw [hp] at e;cases e
    refine q _ _ (h4 _ (.ref p) (zmc ts) (p::F) (sm.offM _) (fun a ha=>let ⟨o,e,_⟩:=h3 a ha;⟨o,sm a o e⟩) (List.nodup_cons.mpr ⟨np,h2⟩) (fun a ha=>?_) ?_)
    ·rcases List.mem_cons.mp ha with rfl | ha
     ·exact⟨.inr hp,_,zfa,rfl⟩
     ·exact⟨.inl ha,let ⟨o,e,m⟩:=h3 a ha;⟨o,sm a o e,m⟩⟩
    ·unfold zmc
     split
     ·rename_i is hi
      rw [ims_eq hi] at h1
      obtain⟨h5,h6⟩:=Rps.ims.mp h1
      subst h6
      rw [Rp]
      exact⟨p,vs,rfl,.inl zfa,h5.same sm,rfl⟩
     ·rw [Rp]
      exact⟨p,vs,F,rfl,.inl zfa,h1.same sm,rfl⟩
   ·cases hr
  ·cases hr
 ·cases hr
end
end L2
namespace L2
open PySem PySem.Spec PyProof.Rows
section
variable  {Γ:Gm}{H H':Hp}{ρ:Rho}{σ:St}{E:List En}{v x y:V}{t:T}{K:PySem.W.Frag}{Q:VK}
noncomputable def ixK:Kd->Option Ac->Option Kd
 | .ow,_=>some .ow
 | .io _,_=>none
 | .vw (some r) (some p),some a=>some (.vw (some r) (some (p++[a])))
 | .vw ro _,_=>some (.vw ro none)
noncomputable def ixP (k:Kd) (a:Option Ac):T->Option R
 | .im i=>some ⟨.ow,.im i⟩
 | t=>match ixK k a with
  | some k'=>some ⟨k',t⟩
  | none=>none
noncomputable def ixI (i:I) (n:Int):Option R:=match i with
 | .tup is=>(atI is n).map fun i=>⟨.ow,.im i⟩
 | .str z=>if z.length<=sizeLine then (atI (sL z) n).map fun c=>⟨.ow,.im (.str ⟨#[c]⟩)⟩ else none
 | _=>none
noncomputable def ixX (k:Kd) (t:T) (n:Int):Option R:=match t with
 | .im i=>ixI i n
 | .li is=>(atI is n).map fun i=>⟨.ow,.im i⟩
 | .lst ts=>(match ixN ts.length n with
  | some j=>(ts[j]?).bind (ixP k (some (.ix j)))
  | none=>none)
 | .tup ts=>(match ixN ts.length n with
  | some j=>(ts[j]?).bind (ixP k none)
  | none=>none)
 | _=>none
@[irreducible] noncomputable def ixR (r:R)(t:T):Option R:=match isI t with
 | some n=>ixX r.k r.t n
 | none=>none
@[irreducible] noncomputable def mIx (a b:ME):ME:=⟨fun ρ=>match a.run ρ with
 | some (ra,ρ1)=>match b.run ρ1 with
  | some (rb,ρ2)=>if alive b.mu ra=true then (match ixR ra rb.t with
   | some r=>some (r,ρ2)
   | none=>none) else none
  | none=>none
 | none=>none,a.mu++b.mu⟩
theorem atI_rpIs {is:List I}{xs:List V}{n:Int}{i:I}(r:RpIs K H is xs)(e:atI is n=some i):∃ w,atI xs n=some w/\RpI K H i w:=by
 unfold atI at e ⊢
 rw [r.length]
 cases h:ixN is.length n with
 | none=>rw [h] at e;cases e
 | some j=>rw [h] at e;exact r.get e
theorem Sim.takeO {s:T}(S:Sim Γ H ρ σ (⟨none,x,⟨.ow,t⟩⟩::E)){P:V->Prop}(hp:∀ F,Rp Γ.K H t x F->∃ w A G B,P w/\Rp Γ.K H s w G/\F=A++G++B):∃ w,P w/\Sim Γ H ρ σ (⟨none,w,⟨.ow,s⟩⟩::E):=by
 obtain⟨F,h1,h2,h3,h4⟩:=Sim.use (vs:=[x]) (ts:=[t]) S rfl
 obtain⟨y,r',F1,F2,e,r1,r2,rfl⟩:=h1.cons_inv
 cases e
 have:=r2.nil_inv.2
 subst this
 rw [List.append_nil] at h2 h3 h4
 obtain⟨w,A,G,B,p,rg,rfl⟩:=hp F1 r1
 have inF:∀ a∈G,a∈A++G++B:=fun a ha=>List.mem_append_left _ (List.mem_append_right _ ha)
 exact⟨w,p,h4 H w s G (OffM.refl _ _) (fun a ha=>let ⟨o,e,_⟩:=h3 a ha;⟨o,e⟩) (List.nodup_append.mp (List.nodup_append.mp h2).1).2.1 (fun a ha=>⟨.inl (inF a ha),h3 a (inF a ha)⟩) rg⟩
theorem atI_of {α:Type}{xs:List α}{n:Int}{j m:Nat}{w : α}(h:ixN m n=some j)(hl:xs.length=m)(hw:xs[j]?=some w):atI xs n=some w:=by
 unfold atI;rw [hl,h];exact hw
theorem Sim.ixL {k:Kd}{ts:List T}{s:T}{j:Nat}{n:Int}{r:R}(S:Sim Γ H ρ σ (⟨none,x,⟨k,.lst ts⟩⟩::E))(hn:ixN ts.length n=some j)(hj:ts[j]?=some s)(hr:L2.ixP k (some (.ix j)) s=some r) :
  ∃ w,(∀ Q:VK,Q w H->rIx Γ.K x (.int n) H Q)/\Sim Γ H ρ σ (⟨none,w,r⟩::E):=by
 have gen:∀ F,Rp Γ.K H (.lst ts) x F->∃ w A G B,(∀ Q:VK,Q w H->rIx Γ.K x (.int n) H Q)/\Rp Γ.K H s w G/\F=A++G++B:=fun F rp=>by
  rw [Rp] at rp
  obtain⟨a,xs,F',rfl,h2,h3,rfl⟩:=rp
  obtain⟨w,A,G,B,h4,h5,h6,_,_⟩:=h3.at hj
  exact⟨w,a::A,G,B,fun Q q=>.inl ⟨a,xs,n,w,rfl,rfl,zbb h2,atI_of hn h3.length h4,q⟩,h5,by rw [h6];simp⟩
 have hview:∀ ro p,k = .vw ro p->∃ w,(∀ Q:VK,Q w H->rIx Γ.K x (.int n) H Q)/\Sim Γ H ρ σ (⟨none,w,⟨.vw ro none,s⟩⟩::E):=fun ro p hk=>by
  obtain⟨w,h1,S2⟩:=S.part (e:=⟨none,x,⟨k,.lst ts⟩⟩) List.mem_cons_self hk (P:=fun w=>∀ Q:VK,Q w H->rIx Γ.K x (.int n) H Q) (s:=s) (fun F rp=>by
   obtain⟨w,A,G,B,h1,h2,h3⟩:=gen F rp
   exact⟨w,G,h1,h2,fun a ha=>by rw [h3];exact List.mem_append_left _ (List.mem_append_right _ ha)⟩)
  exact⟨w,h1,S2.swap.drop rfl⟩
 have main:∀ k',ixK k (some (.ix j))=some k'->∃ w,(∀ Q:VK,Q w H->rIx Γ.K x (.int n) H Q)/\Sim Γ H ρ σ (⟨none,w,⟨k',s⟩⟩::E):=fun k' hk'=>by
  cases k with
  | ow=>
   cases hk'
   exact S.takeO gen
  | io m=>cases hk'
  | vw ro p=>
   cases ro with
   | none=>
    cases hk'
    exact hview none p rfl
   | some i=>
    cases p with
    | none=>cases hk';exact hview (some i) none rfl
    | some p=>
     cases hk'
     obtain⟨w,h1,S2⟩:=S.partP (e:=⟨none,x,⟨.vw (some i) (some p),.lst ts⟩⟩) List.mem_cons_self rfl (a:=.ix j) (s:=s) hj
     refine⟨w,fun Q q=>?_,S2.swap.drop rfl⟩
     obtain⟨F,rp⟩:=S.rd List.mem_cons_self
     obtain⟨a,xs,G,e1,h2,h3⟩:=rx_lst ⟨F,rp⟩
     obtain⟨a',xs',e2,g1,g2⟩:=h1
     have e1':x = .ref a:=e1
     have e2':x = .ref a':=e2
     rw [e1'] at e2'
     cases e2'
     have e3:xs'=xs:=by
      rcases h2 with h2 | ⟨o,h2⟩
      ·rw [h2] at g1;cases g1;rfl
      ·rw [h2] at g1;cases g1
     subst e3
     rw [e1']
     exact .inl ⟨a,xs',n,w,rfl,rfl,SqL.of g1,atI_of hn h3.length g2,q⟩
 cases s with
 | im i=>
  cases hr
  obtain⟨F,rp⟩:=S.rd List.mem_cons_self
  obtain⟨w,A,G,B,h1,h2,_⟩:=gen F rp
  exact⟨w,h1,(S.drop rfl).imm (zwa h2).1⟩
 | _=>
  simp only [L2.ixP] at hr
  split at hr
  ·rename_i k' e;cases hr;exact main k' e
  ·cases hr
theorem Sim.ixT {k:Kd}{ts:List T}{s:T}{j:Nat}{n:Int}{r:R}(S:Sim Γ H ρ σ (⟨none,x,⟨k,.tup ts⟩⟩::E))(hn:ixN ts.length n=some j)(hj:ts[j]?=some s)(hr:L2.ixP k none s=some r) :
  ∃ w,(∀ Q:VK,Q w H->rIx Γ.K x (.int n) H Q)/\Sim Γ H ρ σ (⟨none,w,r⟩::E):=by
 have gen:∀ F,Rp Γ.K H (.tup ts) x F->∃ w A G B,(∀ Q:VK,Q w H->rIx Γ.K x (.int n) H Q)/\Rp Γ.K H s w G/\F=A++G++B:=fun F rp=>by
  rw [Rp] at rp
  obtain⟨a,xs,rfl,h2,h3⟩:=rp
  obtain⟨w,A,G,B,h4,h5,h6,_,_⟩:=h3.at hj
  exact⟨w,A,G,B,fun Q q=>.inr (.inl ⟨a,xs,n,w,rfl,rfl,h2,atI_of hn h3.length h4,q⟩),h5,h6⟩
 have main:∀ k',ixK k none=some k'->∃ w,(∀ Q:VK,Q w H->rIx Γ.K x (.int n) H Q)/\Sim Γ H ρ σ (⟨none,w,⟨k',s⟩⟩::E):=fun k' hk'=>by
  cases k with
  | ow=>
   cases hk'
   exact S.takeO gen
  | io m=>cases hk'
  | vw ro p=>
   have hv:k' = .vw ro none:=by cases ro<;>cases p<;>cases hk'<;>rfl
   subst hv
   obtain⟨w,h1,S2⟩:=S.part (e:=⟨none,x,⟨.vw ro p,.tup ts⟩⟩) List.mem_cons_self rfl (P:=fun w=>∀ Q:VK,Q w H->rIx Γ.K x (.int n) H Q) (s:=s) (fun F rp=>by
    obtain⟨w,A,G,B,h1,h2,h3⟩:=gen F rp
    exact⟨w,G,h1,h2,fun a ha=>by rw [h3];exact List.mem_append_left _ (List.mem_append_right _ ha)⟩)
   exact⟨w,h1,S2.swap.drop rfl⟩
 cases s with
 | im i=>
  cases hr
  obtain⟨F,rp⟩:=S.rd List.mem_cons_self
  obtain⟨w,A,G,B,h1,h2,_⟩:=gen F rp
  exact⟨w,h1,(S.drop rfl).imm (zwa h2).1⟩
 | _=>
  simp only [L2.ixP] at hr
  split at hr
  ·rename_i k' e;cases hr;exact main k' e
  ·cases hr
theorem Sim.ixR {ra r:R}{tb:T}(h:L2.ixR ra tb=some r)(S:Sim Γ H ρ σ (⟨none,x,ra⟩::E))(ry:Rpx Γ.K H tb y):∃ w,(∀ Q:VK,Q w H->rIx Γ.K x y H Q)/\Sim Γ H ρ σ (⟨none,w,r⟩::E):=by
 have r1:Rpx Γ.K H ra.t x:=S.rd (e:=⟨none,x,ra⟩) List.mem_cons_self
 unfold L2.ixR at h
 split at h
 ·rename_i n en
  cases zpd en
  obtain⟨k0,t0⟩:=ra
  replace r1:Rpx Γ.K H t0 x:=r1
  rw [zla ry]
  unfold ixX at h
  dsimp only at h
  split at h
  ·unfold ixI at h
   split at h
   ·rename_i is
    cases h0:atI is n with
    | none=>rw [h0] at h;cases h
    | some i=>
     rw [h0] at h;cases h
     obtain⟨p,xs,ex,g1,g2⟩:=zmd r1
     obtain⟨w,h3,h4⟩:=atI_rpIs g2 h0
     exact⟨w,fun Q q=>.inr (.inl ⟨p,xs,n,w,ex,rfl,g1,h3,q⟩),(S.drop rfl).imm h4⟩
   ·rename_i z
    split at h
    ·rename_i hz
     cases h0:atI (sL z) n with
     | none=>rw [h0] at h;cases h
     | some c=>
      rw [h0] at h;cases h
      exact⟨_,fun Q q=>.inr (.inr ⟨z,n,c,zee r1,rfl,hz,h0,q⟩),(S.drop rfl).imm (sc_rp rfl)⟩
    ·cases h
   ·cases h
  ·rename_i is
   cases h0:atI is n with
   | none=>rw [h0] at h;cases h
   | some i=>
    rw [h0] at h;cases h
    obtain⟨p,xs,ex,g1,g2⟩:=zyd r1
    obtain⟨w,h3,h4⟩:=atI_rpIs g2 h0
    exact⟨w,fun Q q=>.inl ⟨p,xs,n,w,ex,rfl,zbb g1,h3,q⟩,(S.drop rfl).imm h4⟩
  ·rename_i ts
   split at h
   ·rename_i j hj
    cases h0:ts[j]? with
    | none=>rw [h0] at h;cases h
    | some s=>
     rw [h0] at h
     exact S.ixL hj h0 h
   ·cases h
  ·rename_i ts
   split at h
   ·rename_i j hj
    cases h0:ts[j]? with
    | none=>rw [h0] at h;cases h
    | some s=>
     rw [h0] at h
     exact S.ixT hj h0 h
   ·cases h
  ·cases h
 ·cases h
theorem ref_ix {ta tb:TE}{a b:ME}(ha:RefE K ta a)(hb:RefE K tb b):RefE K (tOp (rIx K) ta tb) (mIx a b):=by with_unfolding_all
 intro Γ H ρ σ E Q r ρ' hK hr S q
 simp only [mIx] at hr
 split at hr
 ·rename_i ra ρ1 e1
  split at hr
  ·rename_i rb ρ2 e2
   split at hr
   ·rename_i al
    split at hr
    ·rename_i r0 e3
     cases hr
     refine ha Γ H ρ σ E _ ra ρ1 hK e1 S fun x H1 S1=>?_
     refine hb Γ H1 ρ1 σ _ _ rb _ hK e2 S1 fun y H2 S2=>?_
     rw [zx (znb al),zh] at S2
     have r2:=S2.rd List.mem_cons_self
     obtain⟨w,h1,S4⟩:=Sim.ixR e3 (S2.drop rfl) r2
     rw [← hK]
     exact h1 Q (q w _ S4)
    ·cases hr
   ·cases hr
  ·cases hr
 ·cases hr
structure MO where
 run:Rho->Option (Option Int×Rho)
 mu:List Nat
noncomputable def RefO (K:PySem.W.Frag) (to:TO) (m:MO):Prop:=∀ (Γ:Gm) (H:Hp) (ρ:Rho) (σ:St) (E:List En) (Q:Option Int->Hp->Prop) (o:Option Int) (ρ':Rho),Γ.K=K->m.run ρ=some (o,ρ')->Sim Γ H ρ σ E->(∀ H',Sim Γ H' ρ' σ (zm m.mu E)->Q o H')->to σ H Q
@[irreducible] noncomputable def mNoPart:MO:=⟨fun ρ=>some (none,ρ),[]⟩
@[irreducible] noncomputable def mPart (a:ME):MO:=⟨fun ρ=>match a.run ρ with
 | some (⟨_,.im (.int n)⟩,ρ1)=>some (some n,ρ1)
 | _=>none,a.mu⟩
theorem ref_noPart:RefO K tNoPart mNoPart:=by with_unfolding_all
 intro Γ H ρ σ E Q o ρ' hK hr S q
 cases hr
 exact q H (by rw [show mNoPart.mu = [] from rfl,zgc];exact S)
theorem ref_part {ta:TE}{a:ME}(ha:RefE K ta a):RefO K (tPart ta) (mPart a):=by with_unfolding_all
 intro Γ H ρ σ E Q o ρ' hK hr S q
 simp only [mPart] at hr
 split at hr
 ·rename_i k n ρ1 e1
  cases hr
  exact ha Γ H ρ σ E _ _ _ hK e1 S fun x H1 S1=>⟨n,zla (S1.rd List.mem_cons_self),q H1 (S1.drop rfl)⟩
 ·cases hr
theorem RpIs.cut {is:List I}{xs:List V}(r:RpIs K H is xs)(lo hi:Option Int):RpIs K H (cutL is lo hi) (cutV xs lo hi):=by
 unfold cutL cutV
 rw [r.length]
 exact (r.drop _).take _
theorem Rps.cut {ts:List T}{xs:List V}{F:List Addr}(r:Rps K H ts xs F)(lo hi:Option Int):∃ A G B,Rps K H (cutL ts lo hi) (cutV xs lo hi) G/\F=A++G++B:=by
 unfold cutL cutV
 rw [r.length]
 obtain⟨A,G1,h1,h2,rfl⟩:=r.take (HT.sIx ts.length 0 lo)
 obtain⟨G,B,h3,h4,rfl⟩:=h2.take (HT.sIx ts.length ts.length hi - HT.sIx ts.length 0 lo)
 exact⟨A,G,B,h3,by simp⟩
noncomputable def slI (i:I) (lo hi:Option Int):Option R:=match i with
 | .tup is=>if HT.sIx is.length 0 lo=0/\HT.sIx is.length is.length hi=is.length then none else some ⟨.ow,.im (.tup (cutL is lo hi))⟩
 | .str z=>if z.length<=sizeLine then some ⟨.ow,.im (.str (oL (cutL (sL z) lo hi)))⟩ else none
 | _=>none
noncomputable def slX (k:Kd) (t:T) (lo hi:Option Int):Option R:=match t with
 | .li is=>some ⟨.ow,.li (cutL is lo hi)⟩
 | .im i=>slI i lo hi
 | .lst ts=>(match k with
  | .vw ro _=>some ⟨.vw ro none,.lst (cutL ts lo hi)⟩
  | _=>none)
 | _=>none
@[irreducible] noncomputable def slR (r:R)(lo hi:Option Int):Option R:=slX r.k r.t lo hi
@[irreducible] noncomputable def mSl (a:ME)(lo hi:MO):ME:=⟨fun ρ=>match a.run ρ with
 | some (ra,ρ1)=>match lo.run ρ1 with
  | some (l,ρ2)=>match hi.run ρ2 with
   | some (h,ρ3)=>if alive (lo.mu++hi.mu) ra=true then (match slR ra l h with
    | some r=>some (r,ρ3)
    | none=>none) else none
   | none=>none
  | none=>none
 | none=>none,a.mu++(lo.mu++hi.mu)⟩
theorem ref_sl {ta:TE}{tl th:TO}{a:ME}{lo hi:MO}(ha:RefE K ta a)(hl:RefO K tl lo)(hh:RefO K th hi):RefE K (tSl (rSl K) ta tl th) (mSl a lo hi):=by with_unfolding_all
 intro Γ H ρ σ E Q r ρ' hK hr S q
 simp only [mSl] at hr
 split at hr
 ·rename_i ra ρ1 e1
  split at hr
  ·rename_i l ρ2 e2
   split at hr
   ·rename_i h ρ3 e3
    split at hr
    ·rename_i al
     split at hr
     ·rename_i r0 e4
      cases hr
      refine ha Γ H ρ σ E _ ra ρ1 hK e1 S fun x H1 S1=>?_
      refine hl Γ H1 ρ1 σ _ _ l _ hK e2 S1 fun H2 S2=>?_
      refine hh Γ H2 ρ2 σ _ _ h _ hK e3 S2 fun H3 S3=>?_
      rw [zh,zx (znb al),zh] at S3
      have r1:=S3.rd List.mem_cons_self
      unfold slR slX at e4
      obtain⟨k0,t0⟩:=ra
      replace r1:Rpx Γ.K H3 t0 x:=r1
      dsimp only at e4
      split at e4
      ·cases e4
       obtain⟨p,xs,ex,g1,g2⟩:=zyd r1
       exact .inr (.inl ⟨p,xs,ex,zbb g1,fun p hp=>q _ _ ((S3.drop rfl).fresh (.li hp (g2.cut l h)))⟩)
      ·unfold slI at e4
       split at e4
       ·rename_i is
        split at e4
        ·cases e4
        ·rename_i hw
         cases e4
         obtain⟨p,xs,ex,g1,g2⟩:=zmd r1
         rw [hK] at g1
         exact .inl ⟨p,xs,ex,g1,by rw [g2.length];exact hw,fun p hp=>q _ _ ((S3.drop rfl).fresh (.tup hp (g2.cut l h)))⟩
       ·split at e4
        ·rename_i hz
         cases e4
         exact .inr (.inr ⟨_,zee r1,hz,q _ _ ((S3.drop rfl).imm (sc_rp rfl))⟩)
        ·cases e4
       ·cases e4
      ·rename_i ts
       split at e4
       ·rename_i ro p0
        cases e4
        obtain⟨p,xs,F,ex0,g1,g2⟩:=rx_lst r1
        have ex:x = .ref p:=ex0
        refine .inr (.inl ⟨p,xs,ex,zbb g1,fun p' hp=>?_⟩)
        obtain⟨w,hw,S4⟩:=S3.partN (H':=upd H3 p' (.lst (cutV xs l h))) (Same.laid hp) (s:=.lst (cutL ts l h)) List.mem_cons_self rfl (P:=fun w=>w = .ref p') (fun F rp=>by
         have rp':Rp Γ.K H3 (.lst ts) x F:=rp
         rw [Rp] at rp'
         obtain⟨a',xs',F',ex',g1',g2',rfl⟩:=rp'
         rw [ex] at ex'
         cases ex'
         have e3:xs'=xs:=by
          rcases g1 with g1 | ⟨o,g1⟩<;>rcases g1' with g1' | ⟨o',g1'⟩<;>rw [g1] at g1'<;>cases g1'<;>rfl
         subst e3
         obtain⟨A,G,B,g3,rfl⟩:=g2'.cut l h
         refine⟨.ref p',p'::G,rfl,?_,fun b hb=>?_⟩
         ·rw [Rp]
          exact⟨p',_,G,rfl,.inl zfa,g3.same (Same.laid hp),rfl⟩
         ·rcases List.mem_cons.mp hb with rfl | hb
          ·exact .inr hp
          ·exact .inl (List.mem_cons_of_mem _ (List.mem_append_left _ (List.mem_append_right _ hb))))
        subst hw
        exact q _ _ (S4.swap.drop rfl)
       ·cases e4
      ·cases e4
     ·cases hr
    ·cases hr
   ·cases hr
  ·cases hr
 ·cases hr
noncomputable def PrimMut (K:PySem.W.Frag) (red:V->List V->Hp->VK->Prop) (f:T->List T->Option (T×I)):Prop:=∀ (H:Hp) (w:V) (vs:List V) (s:T) (ts:List T) (s':T) (i:I) (G F:List Addr) (Q:VK),Rp K H s w G->Rps K H ts vs F->(G++F).Nodup->(∀ a∈G++F,Mu H a)->f s ts=some (s',i) →
 (∀ v H' G',OffM G H H'->(∀ a∈G,∃ o,H' a=some o)->G'.Nodup->(∀ a∈G',(a∈G++F ∨ H a=none)/\Mu H' a)->Rp K H' s' w G'->RpI K H' i v->Q v H')->red w vs H Q
@[irreducible] noncomputable def mutR (i:Nat)(mv:List Nat)(f:T->List T->Option (T×I))(r0:R)(rs:List R)(ρ1:Rho):Option (R×Rho):=match r0 with
 | ⟨.vw (some j) (some p),s⟩=>if (decide (j=i) && !mv.contains i)=true then (match consL mv rs ρ1 with
  | some (ts,ρ2)=>(match f s ts with
   | some (s',res)=>(match ρ2[i]? with
    | some (some ⟨k,t⟩)=>if k.isOw=true then some (⟨.ow,.im res⟩,(zy [i] ρ2).set i (some ⟨k,t.put p s'⟩)) else none
    | _=>none)
   | none=>none)
  | none=>none) else none
 | _=>none
theorem Sim.mutR {i:Nat}{mv:List Nat}{red:V->List V->Hp->VK->Prop}{f:T->List T->Option (T×I)}{r0:R}{rs:List R}{r:R}{ρ1 ρ':Rho}{vs:List V}(hK : Γ.K=K)(hp:PrimMut K red f)(h:L2.mutR i mv f r0 rs ρ1=some (r,ρ'))(hl:vs.length=rs.length)(S:Sim Γ H ρ1 σ (ens vs rs++⟨none,x,r0⟩::E))(q:∀ v H',Sim Γ H' ρ' σ (⟨none,v,r⟩::zm (mv++[i]) E)->Q v H'):red x vs H Q:=by
 unfold L2.mutR at h
 split at h
 ·rename_i j p s
  split at h
  ·rename_i hc
   rw [Bool.and_eq_true,decide_eq_true_eq,Bool.not_eq_true'] at hc
   obtain⟨rfl,hmv⟩:=hc
   split at h
   ·rename_i ts ρ2 e1
    split at h
    ·rename_i s' res e2
     split at h
     ·rename_i k t e3
      split at h
      ·rename_i ho
       cases h
       obtain⟨hl2,S2⟩:=Sim.consL (A:=[]) (by simpa using S) hl e1 (by simp)
       rw [List.nil_append,zx (show zia mv ⟨none,x,⟨.vw (some j) (some p),s⟩⟩=true by unfold zia;simp only [Kd.root];rw [hmv];rfl)] at S2
       obtain⟨G,F,h1,h2,h3,h4,h5⟩:=S2.mut hl2 e3 ho
       rw [hK] at h1 h2
       refine hp H x vs s ts s' res G F Q h1 h2 h3 h4 e2 fun v H' G' a b c d e g=>q v H' ?_
       rw [← zh]
       rw [← hK] at e g
       exact (h5 H' s' G' a b c d e).imm g
      ·cases h
     ·cases h
    ·cases h
   ·cases h
  ·cases h
 ·cases h
@[irreducible] noncomputable def mMut (i:Nat)(mv:List Nat)(f:T->List T->Option (T×I))(o:ME)(a:MA):ME:=⟨fun ρ=>match o.run ρ with
 | some (r0,ρ0)=>match a.run ρ0 with
  | some (rs,ρ1)=>if alive a.mu r0=true then L2.mutR i mv f r0 rs ρ1 else none
  | none=>none
 | none=>none,(o.mu++a.mu)++(mv++[i])⟩
theorem ref_mut {T0:String}{red:V->List V->Hp->VK->Prop}{f:T->List T->Option (T×I)}{i:Nat}{mv:List Nat}{to:TE}{ta:TA}{o:ME}{a:MA}(hp:PrimMut K red f)(hty:∀ (H:Hp) (x:V) (tx:T) ts r,Rpx K H tx x->f tx ts=some r->tyV K T0 x H)(ho:RefE K to o)(ha:RefA K ta a):RefE K (tBM K T0 red to ta) (mMut i mv f o a):=by
 intro Γ H ρ σ E Q r ρ' hK hr S q
 simp only [mMut] at hr q
 split at hr
 ·rename_i r0 ρ0 e0
  split at hr
  ·rename_i rs ρ1 e1
   split at hr
   ·rename_i al
    refine ho Γ H ρ σ E _ r0 _ hK e0 S fun x H1 S1=>?_
    have r0':=S1.rd List.mem_cons_self
    rw [hK] at r0'
    refine⟨?_,?_⟩
    ·unfold L2.mutR at hr
     split at hr
     ·split at hr
      ·split at hr
       ·split at hr
        ·rename_i e2;exact hty H1 x _ _ _ r0' e2
        ·cases hr
       ·cases hr
      ·cases hr
     ·cases hr
    ·refine ha Γ H1 ρ0 σ _ _ rs _ hK e1 S1 fun vs H2 hl S2=>?_
     rw [zx (znb al),zh] at S2
     exact Sim.mutR hK hp hr hl S2 fun v H' S3=>q v H' (by rw [← zh];exact S3)
   ·cases hr
  ·cases hr
 ·cases hr
theorem mu_li {is:List I}{w:V}{G:List Addr}(h:Rp K H (.li is) w G)(mu:∀ a∈G,Mu H a):∃ a xs,w = .ref a/\H a=some (.lst xs)/\RpIs K H is xs/\G = [a]:=by
 rw [Rp] at h
 obtain⟨a,xs,h1,h2,h3,rfl⟩:=h
 exact⟨a,xs,h1,(mu a List.mem_cons_self).lst h2,h3,rfl⟩
theorem mu_lst {ts:List T}{w:V}{G:List Addr}(h:Rp K H (.lst ts) w G)(mu:∀ a∈G,Mu H a):∃ a xs F,w = .ref a/\H a=some (.lst xs)/\Rps K H ts xs F/\G=a::F:=by
 rw [Rp] at h
 obtain⟨a,xs,F,h1,h2,h3,rfl⟩:=h
 exact⟨a,xs,F,h1,(mu a List.mem_cons_self).lst h2,h3,rfl⟩
theorem upd_li {is':List I}{xs xs':List V}{a:Addr}{F:List Addr}{i:I}{v:V}(hH:H a=some (.lst xs))(hr:RpIs K H is' xs')(hi:RpI K H i v)
  (q:∀ v H' G',OffM [a] H H'->(∀ b∈[a],∃ o,H' b=some o)->G'.Nodup->(∀ b∈G',(b∈[a]++F ∨ H b=none)/\Mu H' b)->Rp K H' (.li is') (.ref a) G'->RpI K H' i v->Q v H'):Q v (upd H a (.lst xs')):=by
 have hM:∀ b∈[a],Mu H b:=fun b hb=>by rw [List.mem_singleton.mp hb];exact⟨_,hH,rfl⟩
 refine q v _ [a] OffM.upd (fun b hb=>by rw [List.mem_singleton.mp hb];exact⟨_,zfa⟩) (by simp) (fun b hb=>?_) ?_ (hi.off OffM.upd hM)
 ·rw [List.mem_singleton.mp hb];exact⟨.inl (by simp),_,zfa,rfl⟩
 ·rw [Rp];exact⟨a,xs',rfl,.inl zfa,hr.off OffM.upd hM,rfl⟩
theorem upd_lst {ts':List T}{xs xs':List V}{a:Addr}{G F F':List Addr}{i:I}{v:V}(hH:H a=some (.lst xs))(nd:(a::F').Nodup)(mu:∀ b∈F',Mu H b)(hF:∀ b∈F',b∈(a::G)++F)(hr:Rps K H ts' xs' F')(hi:RpI K H i v)
  (q:∀ v H' G',OffM (a::G) H H'->(∀ b∈a::G,∃ o,H' b=some o)->G'.Nodup->(∀ b∈G',(b∈(a::G)++F ∨ H b=none)/\Mu H' b)->Rp K H' (.lst ts') (.ref a) G'->RpI K H' i v->Q v H') (dG:∀ b∈G,∃ o,H b=some o):Q v (upd H a (.lst xs')):=by
 have hM:∀ b∈[a],Mu H b:=fun b hb=>by rw [List.mem_singleton.mp hb];exact⟨_,hH,rfl⟩
 have na:∀ b∈F',b≠a:=fun b hb z=>(List.nodup_cons.mp nd).1 (z ▸ hb)
 refine q v _ (a::F') (OffM.upd.mono fun b hb=>by rw [List.mem_singleton.mp hb];exact List.mem_cons_self) (fun b hb=>?_) nd (fun b hb=>?_) ?_ (hi.off OffM.upd hM)
 ·by_cases e:b=a
  ·subst e;exact⟨_,zfa⟩
  ·rcases List.mem_cons.mp hb with z | z
   ·exact absurd z e
   ·obtain⟨o,h⟩:=dG b z;exact⟨o,by rw [upd_ne e];exact h⟩
 ·rcases List.mem_cons.mp hb with rfl | hb
  ·exact⟨.inl (by simp),_,zfa,rfl⟩
  ·refine⟨.inl (hF b hb),?_⟩
   obtain⟨o,h,m⟩:=mu b hb
   exact⟨o,by rw [upd_ne (na b hb)];exact h,m⟩
 ·rw [Rp]
  refine⟨a,xs',F',rfl,.inl zfa,hr.off OffM.upd hM (fun b hb z=>na b hb (List.mem_singleton.mp z)),rfl⟩
noncomputable def ap1 (s t:T):Option (T×I):=match s with
 | .li is=>(match t with
  | .im i=>if is.length<sizeLine then some (.li (is++[i]),.non) else none
  | _=>if is.length<sizeLine then some (.lst (is.map .im++[t]),.non) else none)
 | .lst ts=>if ts.length<sizeLine then some (.lst (ts++[t]),.non) else none
 | _=>none
@[irreducible] noncomputable def apT (s:T)(ts:List T):Option (T×I):=l1 (ap1 s) ts
theorem rps1 {t:T}{vs:List V}{F:List Addr}(h:Rps K H [t] vs F):∃ v,vs = [v]/\Rp K H t v F:=by
 obtain⟨v,r,F1,F2,rfl,h1,h2,rfl⟩:=h.cons_inv
 obtain⟨rfl,rfl⟩:=h2.nil_inv
 exact⟨v,rfl,by rw [List.append_nil];exact h1⟩
theorem rps2 {t u:T}{vs:List V}{F:List Addr}(h:Rps K H [t,u] vs F):∃ v w F1 F2,vs = [v,w]/\Rp K H t v F1/\Rp K H u w F2/\F=F1++F2:=by
 obtain⟨v,r,F1,F2,rfl,h1,h2,rfl⟩:=h.cons_inv
 obtain⟨w,rfl,h3⟩:=rps1 h2
 exact⟨v,w,F1,F2,rfl,h1,h3,rfl⟩
theorem zxb:RpI K H .non .non:=by rw [RpI]
theorem prim_append:PrimMut K rAppend apT:=by
 intro H w vs s ts s' i G F Q rw0 rs nd mu e q
 unfold apT at e
 have e0:=zte e
 clear e
 obtain⟨tt,rfl,e⟩:=e0
 obtain⟨y,rfl,h3⟩:=rps1 rs
 unfold ap1 at e
 split at e
 ·rename_i is
  obtain⟨a,xs,rfl,h1,h2,rfl⟩:=mu_li rw0 fun a ha=>mu a (List.mem_append_left _ ha)
  split at e
  ·obtain⟨hz,e⟩:=zga e
   cases e
   exact⟨a,xs,y,rfl,rfl,h1,by rw [h2.length];exact hz,upd_li h1 (h2.append (.one (zwa h3).1)) zxb q⟩
  ·obtain⟨hz,e⟩:=zga e
   cases e
   refine⟨a,xs,y,rfl,rfl,h1,by rw [h2.length];exact hz,upd_lst (G:=[]) (F:=F) (F':=F) h1 nd (fun b hb=>mu b (List.mem_append_right _ hb)) (fun b hb=>List.mem_append_right _ hb) ?_ zxb q (by simp)⟩
   have:=Rps.append (Rps.ims.mpr ⟨h2,rfl⟩) (Rps.cons h3 Rps.nil)
   simpa using this
 ·obtain⟨hz,e⟩:=zga e
  cases e
  obtain⟨a,xs,F0,rfl,h1,h2,rfl⟩:=mu_lst rw0 fun a ha=>mu a (List.mem_append_left _ ha)
  have mm:∀ b∈F0++F,b∈(a::F0)++F:=fun b hb=>(List.mem_append.mp hb).elim (fun z=>List.mem_append_left _ (List.mem_cons_of_mem _ z)) fun z=>List.mem_append_right _ z
  refine⟨a,xs,y,rfl,rfl,h1,by rw [h2.length];exact hz,upd_lst (G:=F0) (F:=F) (F':=F0++F) h1 (by simpa using nd) (fun b hb=>mu b (mm b hb)) mm ?_ zxb q (fun b hb=>h2.dom b hb)⟩
  have:=Rps.append h2 (Rps.cons h3 Rps.nil)
  simpa using this
 ·cases e
theorem ty_li {is:List I}{x:V}(h:Rpx K H (.li is) x):tyV K "list" x H:=by
 obtain⟨a,xs,rfl,h1,h2⟩:=zyd h
 exact .inl ⟨rfl,xs,zbb h1⟩
theorem ty_lst {is:List T}{x:V}(h:Rpx K H (.lst is) x):tyV K "list" x H:=by
 obtain⟨a,xs,F,rfl,h1,h2⟩:=rx_lst h
 exact .inl ⟨rfl,xs,zbb h1⟩
theorem ty_append (H:Hp)(x:V)(tx:T)(ts:List T)(r:T×I)(h:Rpx K H tx x)(e:apT tx ts=some r):tyV K "list" x H:=by
 unfold apT at e
 obtain⟨t,_,e⟩:=zte e
 unfold ap1 at e
 split at e
 ·exact ty_li h
 ·exact ty_lst h
 ·cases e
noncomputable def ext1 (s t:T):Option (T×I):=match isLi s with
 | some is=>(match isLi t with
  | some js=>if is.length+js.length<=sizeLine then some (.li (is++js),.non) else none
  | none=>(match isTp t with
   | some js=>if is.length+js.length<=sizeLine then some (.li (is++js),.non) else none
   | none=>none))
 | none=>none
@[irreducible] noncomputable def extT (s:T)(ts:List T):Option (T×I):=l1 (ext1 s) ts
theorem prim_extend:PrimMut K (rExtY K) extT:=by
 intro H w vs s ts s' i G F Q rw0 rs nd mu e q
 unfold extT at e
 have e0:=zte e
 clear e
 obtain⟨tt,rfl,e⟩:=e0
 obtain⟨y,rfl,h3⟩:=rps1 rs
 unfold ext1 at e
 split at e
 ·rename_i is es
  cases zoe es
  obtain⟨a,xs,rfl,h1,h2,rfl⟩:=mu_li rw0 fun a ha=>mu a (List.mem_append_left _ ha)
  split at e
  ·rename_i js ej
   cases zoe ej
   obtain⟨hz,e⟩:=zga e
   cases e
   rw [Rp] at h3
   obtain⟨b,ys,rfl,g1,g2,rfl⟩:=h3
   exact .inl ⟨a,b,xs,ys,rfl,rfl,h1,g1,by rw [h2.length,g2.length];exact hz,upd_li h1 (h2.append g2) zxb q⟩
  ·split at e
   ·rename_i js ej
    cases isTp_inv ej
    obtain⟨hz,e⟩:=zga e
    cases e
    have h4:=(zwa h3).1
    rw [RpI] at h4
    obtain⟨b,ys,rfl,g1,g2⟩:=h4
    exact .inr ⟨a,b,xs,ys,rfl,rfl,h1,g1,by rw [h2.length,g2.length];exact hz,upd_li h1 (h2.append g2) zxb q⟩
   ·cases e
 ·cases e
theorem ty_extend (H:Hp)(x:V)(tx:T)(ts:List T)(r:T×I)(h:Rpx K H tx x)(e:extT tx ts=some r):tyV K "list" x H:=by
 unfold extT at e
 obtain⟨t,_,e⟩:=zte e
 unfold ext1 at e
 split at e
 ·rename_i is es
  cases zoe es
  exact ty_li h
 ·cases e
@[irreducible] noncomputable def popT:T->List T->Option (T×I)
 | .li is,[]=>match is[is.length - 1]? with
  | some i=>some (.li is.dropLast,i)
  | none=>none
 | _,_=>none
noncomputable def ins1 (s n t:T):Option (T×I):=match isLi s with
 | some is=>(match isI n with
  | some n=>(match t with
   | .im i=>if 0<=n/\n<=is.length/\is.length<sizeLine then some (.li (is.take n.toNat++i::is.drop n.toNat),.non) else none
   | _=>none)
  | none=>none)
 | none=>none
@[irreducible] noncomputable def insT (s:T)(ts:List T):Option (T×I):=l2 (ins1 s) ts
theorem prim_insert:PrimMut K rInsert insT:=by
 intro H w vs s ts s' i G F Q rw0 rs nd mu e q
 unfold insT at e
 have e0:=l2_inv e
 clear e
 obtain⟨tn,tt,rfl,e⟩:=e0
 obtain⟨y,z,F1,F2,rfl,g1,g2,rfl⟩:=rps2 rs
 unfold ins1 at e
 split at e
 ·rename_i is es
  cases zoe es
  obtain⟨a,xs,rfl,h1,h2,rfl⟩:=mu_li rw0 fun a ha=>mu a (List.mem_append_left _ ha)
  split at e
  ·rename_i n en
   cases zpd en
   split at e
   ·obtain⟨hz,e⟩:=zga e
    cases e
    have e1:=zla ⟨F1,g1⟩
    subst e1
    exact⟨a,xs,n,z,rfl,rfl,h1,hz.1,by rw [h2.length];exact hz.2.1,by rw [h2.length];exact hz.2.2,upd_li h1 ((h2.take _).append (.cons (zwa g2).1 (h2.drop _))) zxb q⟩
   ·cases e
  ·cases e
 ·cases e
theorem ty_insert (H:Hp)(x:V)(tx:T)(ts:List T)(r:T×I)(h:Rpx K H tx x)(e:insT tx ts=some r):tyV K "list" x H:=by
 unfold insT at e
 obtain⟨t,u,_,e⟩:=l2_inv e
 unfold ins1 at e
 split at e
 ·rename_i is es
  cases zoe es
  exact ty_li h
 ·cases e
@[irreducible] noncomputable def setT (s:T)(n:T)(v:T):Option T:=match s,n,v with
 | .li is,.im (.int n),.im i=>match ixN is.length n with
  | some j=>some (.li (is.set j i))
  | none=>none
 | _,_,_=>none
@[irreducible] noncomputable def mSub (j:Nat)(o i:ME):MG:=⟨fun r ρ=>match r with
 | ⟨.ow,tv⟩=>match o.run ρ with
  | some (⟨.vw (some j') (some p),s⟩,ρ1)=>match i.run ρ1 with
   | some (ri,ρ2)=>if (decide (j'=j) && !i.mu.contains j)=true then (match setT s ri.t tv with
    | some s'=>(match ρ2[j]? with
     | some (some ⟨k,t⟩)=>if k.isOw=true then some ((zy [j] ρ2).set j (some ⟨k,t.put p s'⟩)) else none
     | _=>none)
    | none=>none) else none
   | none=>none
  | _=>none
 | _=>none,(o.mu++i.mu)++[j]⟩
theorem RpIs.set' {is:List I}{xs:List V}{i:I}{w:V}(hx:RpI K H i w)(n:Nat)(h:RpIs K H is xs):RpIs K H (is.set n i) (xs.set n w):=RpIs.set hx n h
theorem ref_sub {to ti:TE}{o i:ME}{j:Nat}(ho:RefE K to o)(hi:RefE K ti i):RefG K (gSub to ti rSetL) (mSub j o i):=by
 intro Γ H ρ σ E Q v r ρ' hK hr S q
 simp only [mSub] at hr q
 split at hr
 ·rename_i tv
  split at hr
  ·rename_i j' p s ρ1 e1
   split at hr
   ·rename_i ri ρ2 e2
    split at hr
    ·rename_i hc
     rw [Bool.and_eq_true,decide_eq_true_eq,Bool.not_eq_true'] at hc
     obtain⟨rfl,hmv⟩:=hc
     split at hr
     ·rename_i s' e3
      split at hr
      ·rename_i k t e4
       split at hr
       ·rename_i hw
        cases hr
        refine ho Γ H ρ σ _ _ _ _ hK e1 S fun x H1 S1=>?_
        refine hi Γ H1 ρ1 σ _ _ _ _ hK e2 S1 fun y H2 S2=>?_
        have k1:zia i.mu ⟨none,x,⟨.vw (some j') (some p),s⟩⟩=true:=by unfold zia;simp only [Kd.root];rw [hmv];rfl
        have k2:∀ M:List Nat,zia M ⟨none,v,⟨.ow,tv⟩⟩=true:=fun M=>rfl
        rw [zx k1,zh,zx (k2 _)] at S2
        have ry:=S2.rd List.mem_cons_self
        have S3:=S2.drop rfl
        obtain⟨G,F,h1,h2,h3,h4,h5⟩:=Sim.mut (vs:=[v]) (ts:=[tv]) (S3.perm (List.Perm.swap _ _ _)) rfl e4 hw
        generalize hri:ri.t=tri at e3
        unfold setT at e3
        split at e3
        ·rename_i is n i0
         split at e3
         ·rename_i m hm
          cases e3
          obtain⟨a,xs,rfl,g1,g2,rfl⟩:=mu_li h1 fun a ha=>h4 a (List.mem_append_left _ ha)
          obtain⟨z,ez,g3⟩:=rps1 h2
          cases ez
          obtain⟨g4,rfl⟩:=zwa g3
          have ry':∃ F,Rp Γ.K H2 ri.t y F:=ry
          have ey:y = .int n:=by rw [hri] at ry';exact zla ry'
          subst ey
          refine⟨a,xs,n,m,rfl,rfl,g1,by rw [g2.length];exact hm,?_⟩
          refine upd_li (Q:=fun _ H'=>Q σ H') (F:=[]) (v:=.non) (i:=.non) g1 (g2.set' g4 m) zxb fun v' H' G' a1 a2 a3 a4 a5 _=>q σ H' ?_
          have:=h5 H' _ G' a1 a2 a3 a4 a5
          rw [zh] at this
          exact this
         ·cases e3
        ·cases e3
       ·cases hr
      ·cases hr
     ·cases hr
    ·cases hr
   ·cases hr
  ·cases hr
 ·cases hr
end
end L2
namespace L2
open PySem PySem.Spec PyProof.Rows
section
variable  {Γ:Gm}{H H':Hp}{ρ:Rho}{σ:St}{E:List En}{v x y:V}{t:T}{K:PySem.W.Frag}{Q:VK}
theorem keepE_sub {M N:List Nat}(h:∀ j∈N,j∈M){e:En}(k:zia M e=true):zia N e=true:=by
 unfold zia at k ⊢
 split at k
 ·rename_i j hj
  simp only [Bool.not_eq_true',List.contains_eq_mem,decide_eq_false_iff_not] at k ⊢
  exact fun z=>k (h j z)
 ·rfl
theorem zoc {M N:List Nat}(h:∀ j∈N,j∈M)(E:List En):zm N (zm M E)=zm M E:=by
 unfold zm
 rw [List.filter_eq_self]
 intro e he
 exact keepE_sub h (List.mem_filter.mp he).2
noncomputable def itW (c:MT) (b:MS):Nat->Rho->Option (Fl×Rho)
 | 0,_=>none
 | n+1,ρ=>match c.run ρ with
  | some (true,ρ1)=>(match b.run ρ1 with
   | some (.nx,ρ2)=>itW c b n ρ2
   | some (.ct,ρ2)=>itW c b n ρ2
   | some (.bk,ρ2)=>some (.nx,ρ2)
   | some (.rt t,ρ2)=>some (.rt t,ρ2)
   | none=>none)
  | some (false,ρ1)=>some (.nx,ρ1)
  | none=>none
theorem zpe {c:MT}{b:MS}:∀ {n:Nat} {ρ:Rho} {r:Fl×Rho},itW c b n ρ=some r->∀ m,n<=m->itW c b m ρ=some r
 | 0,_,_,h,_,_=>by cases h
 | n+1,ρ,r,h,m,hm=>by
  obtain⟨m',rfl⟩:∃ m',m=m'+1:=⟨m - 1,by omega⟩
  rw [itW] at h ⊢
  split at h
  ·rename_i ρ1 e1
   split at h
   ·rename_i ρ2 e2;exact zpe h m' (by omega)
   ·rename_i ρ2 e2;exact zpe h m' (by omega)
   ·exact h
   ·exact h
   ·exact h
  ·exact h
  ·exact h
noncomputable def wRun (c:MT) (b:MS) (ρ:Rho):Option (Fl×Rho):=@dite _ (∃ n,(itW c b n ρ).isSome=true) (Classical.propDecidable _) (fun h=>itW c b (Classical.choose h) ρ) (fun _=>none)
@[irreducible] noncomputable def mWhile (c:MT)(b:MS):MS:=⟨wRun c b,c.mu++b.mu⟩
theorem while_run {c:MT}{b:MS}{r:Fl×Rho}{n:Nat}(h:itW c b n ρ=some r):(mWhile c b).run ρ=some r:=by with_unfolding_all
 have hx:∃ n,(itW c b n ρ).isSome=true:=⟨n,by rw [h];rfl⟩
 show wRun c b ρ=_
 unfold wRun
 rw [dif_pos hx]
 have h2:=Classical.choose_spec hx
 cases e:itW c b (Classical.choose hx) ρ with
 | none=>rw [e] at h2;cases h2
 | some r'=>
  have a:=zpe h (max n (Classical.choose hx)) (Nat.le_max_left _ _)
  have b':=zpe e (max n (Classical.choose hx)) (Nat.le_max_right _ _)
  rw [a] at b'
  exact b'.symm
theorem while_it {c:MT}{b:MS}{r:Fl×Rho}(h:(mWhile c b).run ρ=some r):∃ n,itW c b n ρ=some r:=by with_unfolding_all
 have h':wRun c b ρ=some r:=h
 unfold wRun at h'
 split at h'
 ·exact⟨_,h'⟩
 ·cases h'
theorem ref_while {tc:TT}{tb:TS}{c:MT}{b:MS}(hc:RefT K tc c)(hb:RefS K tb b):RefS K (tWhile tc tb) (mWhile c b):=by with_unfolding_all
 intro Γ H ρ σ E D f ρ' hK hE hr S q
 obtain⟨n,hn⟩:=while_it hr
 have qe:(mWhile c b).mu=c.mu++b.mu:=rfl
 rw [qe] at q
 have kc:zm c.mu (zm (c.mu++b.mu) E)=zm (c.mu++b.mu) E:=zoc (fun j hj=>List.mem_append_left _ hj) E
 have kb:zm b.mu (zm (c.mu++b.mu) E)=zm (c.mu++b.mu) E:=zoc (fun j hj=>List.mem_append_right _ hj) E
 have hE0:=zqb (M:=c.mu++b.mu) hE
 have S0:=S.weak (c.mu++b.mu)
 generalize zm (c.mu++b.mu) E=E0 at q kc kb hE0 S0
 refine⟨fun m σ H=>∃ ρ,itW c b m ρ=some (f,ρ')/\Sim Γ H ρ σ E0,⟨n,ρ,hn,S0⟩,?_⟩
 ·rintro m σ1 H1 ⟨ρ1,h1,S1⟩
  cases m with
  | zero=>cases h1
  | succ m=>
   rw [itW] at h1
   split at h1
   ·rename_i ρ2 e1
    refine hc Γ H1 ρ1 σ1 E0 _ true ρ2 hK e1 S1 fun H2 S2=>iteT ?_
    rw [kc] at S2
    refine⟨fun σ' H'=>∃ ρ,itW c b m ρ=some (f,ρ')/\Sim Γ H' ρ σ' E0,fun σ' H' ⟨ρ3,h3,S3⟩=>⟨m,Nat.lt_succ_self m,ρ3,h3,S3⟩,?_⟩
    split at h1
    ·rename_i ρ3 e2
     exact hb Γ H2 ρ2 σ1 E0 _ .nx ρ3 hK hE0 e2 S2 fun σ' H' S3=>⟨ρ3,h1,by rw [kb] at S3;exact S3⟩
    ·rename_i ρ3 e2
     exact hb Γ H2 ρ2 σ1 E0 _ .ct ρ3 hK hE0 e2 S2 fun σ' H' S3=>⟨ρ3,h1,by rw [kb] at S3;exact S3⟩
    ·rename_i ρ3 e2
     cases h1
     exact hb Γ H2 ρ2 σ1 E0 _ .bk _ hK hE0 e2 S2 fun σ' H' S3=>q σ' H' (by rw [kb] at S3;exact S3)
    ·rename_i t ρ3 e2
     cases h1
     exact hb Γ H2 ρ2 σ1 E0 _ (.rt t) _ hK hE0 e2 S2 q
    ·cases h1
   ·rename_i ρ2 e1
    cases h1
    exact hc Γ H1 ρ1 σ1 E0 _ false _ hK e1 S1 fun H2 S2=>iteF (q σ1 H2 (by rw [kc] at S2;exact S2))
   ·cases h1
structure MI where
 run:Rho->Option ((List R×List R)×Rho)
 mu:List Nat
noncomputable def WalkOk (Γ:Gm) (J:It) (vs:List V) (srcs:List R) (items:List R):Prop:=∀ (H:Hp) (ρ:Rho) (σ:St) (E:List En),Sim Γ H ρ σ (ens vs srcs++E)->(∀ i,items.length<=i->J.stop i H)/\∀ i r,items[i]?=some r->J.go i H/\∀ x H',J.yld i H x H'->Sim Γ H' ρ σ (⟨none,x,r⟩::(ens vs srcs++E))
noncomputable def RefI (K:PySem.W.Frag) (wi:TI) (m:MI):Prop:=∀ (Γ:Gm) (H:Hp) (ρ:Rho) (σ:St) (E:List En) (Rr:It->Hp->Prop) (srcs:List R) (items:List R) (ρ':Rho),Γ.K=K->m.run ρ=some ((srcs,items),ρ')->Sim Γ H ρ σ E->(∀ J vs H',vs.length=srcs.length->Sim Γ H' ρ' σ (ens vs srcs++zm m.mu E)->WalkOk Γ J vs srcs items->Rr J H')->wi σ H Rr
theorem zgd {M:List Nat}:∀ {A:List En},(∀ e∈A,zia M e=true)->zm M A=A
 | [],_=>rfl
 | e::A,h=>by rw [zx (h e List.mem_cons_self),zgd fun x hx=>h x (List.mem_cons_of_mem _ hx)]
theorem ens_keep {M:List Nat}:∀ {vs:List V} {rs:List R},rs.all (alive M)=true->∀ e∈ens vs rs,zia M e=true
 | [],rs,_,e,h=>by cases rs<;>cases h
 | _::_,[],_,e,h=>by cases h
 | v::vs,r::rs,ha,e,h=>by
  rw [List.all_cons,Bool.and_eq_true] at ha
  rcases List.mem_cons.mp h with rfl | h
  ·exact ha.1
  ·exact ens_keep ha.2 e h
theorem ens_keyN:∀ {vs:List V} {rs:List R},∀ e∈ens vs rs,e.key=none
 | [],rs,e,h=>by cases rs<;>cases h
 | _::_,[],e,h=>by cases h
 | v::vs,r::rs,e,h=>by
  rcases List.mem_cons.mp h with rfl | h
  ·rfl
  ·exact ens_keyN e h
noncomputable def rInt (n:Int):R:=⟨.ow,.im (.int n)⟩
noncomputable def rNon:R:=⟨.ow,.im .non⟩
noncomputable def rngI (lo:Int) (n:Nat):List R:=(List.range n).map fun i:Nat=>rInt (lo+(i:Int))
theorem walk_rng {lo:Int}{n:Nat}:WalkOk Γ (Itr lo n) [.non] [rNon] (rngI lo n):=fun H ρ σ E S=>by
 refine⟨fun i hi=>(show n<=i by simpa [rngI] using hi),fun i r hr=>?_⟩
 unfold rngI at hr
 rw [List.getElem?_map] at hr
 cases e:(List.range n)[i]? with
 | none=>rw [e] at hr;cases hr
 | some m=>
  rw [e] at hr;cases hr
  obtain⟨h1,h2⟩:=List.getElem?_eq_some_iff.mp e
  simp at h1 h2
  subst h2
  refine⟨h1,fun x H' y=>?_⟩
  obtain⟨rfl,rfl⟩:=y
  exact S.imm (sc_rp rfl)
noncomputable def ii2 (x y:T):Option (Int×Int):=match isI x with
 | some i=>(match isI y with
  | some j=>some (i,j)
  | none=>none)
 | none=>none
theorem ii2_inv {x y:T}{i j:Int}(h:ii2 x y=some (i,j)):x = .im (.int i)/\y = .im (.int j):=by
 unfold ii2 at h
 split at h
 ·rename_i a ea
  split at h
  ·rename_i b eb
   cases h
   exact⟨zpd ea,zpd eb⟩
  ·cases h
 ·cases h
@[irreducible] noncomputable def zdb (a:MA):MI:=⟨fun ρ=>match a.run ρ with
 | some (rs,ρ1)=>(match l1 isI (rs.map (·.t)) with
  | some j=>if -(2 ^ 62)<=j/\j<2 ^ 62 then some (([rNon],rngI 0 j.toNat),ρ1) else none
  | none=>none)
 | none=>none,a.mu⟩
@[irreducible] noncomputable def mRng2 (a:MA):MI:=⟨fun ρ=>match a.run ρ with
 | some (rs,ρ1)=>(match l2 ii2 (rs.map (·.t)) with
  | some (i,j)=>if -(2 ^ 62)<=i/\i<2 ^ 62/\-(2 ^ 62)<=j/\j<2 ^ 62 then some (([rNon],rngI i (j - i).toNat),ρ1) else none
  | none=>none)
 | none=>none,a.mu⟩
theorem ref_rng1 {ta:TA}{a:MA}(ha:RefA K ta a):RefI K (iRng1 ta) (zdb a):=by with_unfolding_all
 intro Γ H ρ σ E Rr src items ρ' hK hr S q
 simp only [zdb] at hr
 split at hr
 ·rename_i rs ρ1 e1
  split at hr
  ·rename_i j ej
   obtain⟨hj,e⟩:=zga hr
   cases e
   obtain⟨t,et,ei⟩:=zte ej
   cases zpd ei
   refine ha Γ H ρ σ E _ _ _ hK e1 S fun vs H1 hl S1=>?_
   have r1:=S1.rds hl
   rw [et] at r1
   obtain⟨w,rfl,r2⟩:=rxs1 r1
   refine⟨j,by rw [zla r2],hj.1,hj.2,q _ [.non] H1 rfl ?_ walk_rng⟩
   exact S1.drops.imm zxb
  ·cases hr
 ·cases hr
theorem ref_rng2 {ta:TA}{a:MA}(ha:RefA K ta a):RefI K (iRng2 ta) (mRng2 a):=by with_unfolding_all
 intro Γ H ρ σ E Rr src items ρ' hK hr S q
 simp only [mRng2] at hr
 split at hr
 ·rename_i rs ρ1 e1
  split at hr
  ·rename_i i j ej
   obtain⟨hj,e⟩:=zga hr
   cases e
   obtain⟨t,u,et,ei⟩:=l2_inv ej
   obtain⟨rfl,rfl⟩:=ii2_inv ei
   refine ha Γ H ρ σ E _ _ _ hK e1 S fun vs H1 hl S1=>?_
   have r1:=S1.rds hl
   rw [et] at r1
   obtain⟨w,w',rfl,r2,r3⟩:=rxs2 r1
   refine⟨i,j,by rw [zla r2,zla r3],hj,q _ [.non] H1 rfl ?_ walk_rng⟩
   exact S1.drops.imm zxb
  ·cases hr
 ·cases hr
noncomputable def itemsL:R->Option (List R)
 | ⟨_,.li is⟩=>some (is.map fun i=>⟨.ow,.im i⟩)
 | ⟨.vw ro _,.lst ts⟩=>some (ts.map (partV ro))
 | _=>none
noncomputable def itemsT:R->Option (List R)
 | ⟨_,.im (.tup is)⟩=>some (is.map fun i=>⟨.ow,.im i⟩)
 | _=>none
noncomputable def mItL (a:ME):MI:=⟨fun ρ=>match a.run ρ with
 | some (r,ρ1)=>(match itemsL r with
  | some rs=>some (([r],rs),ρ1)
  | none=>none)
 | none=>none,a.mu⟩
noncomputable def mItT (a:ME):MI:=⟨fun ρ=>match a.run ρ with
 | some (r,ρ1)=>(match itemsT r with
  | some rs=>some (([r],rs),ρ1)
  | none=>none)
 | none=>none,a.mu⟩
theorem Rd.det {a:Addr}{xs ys:List V}(h:Rd H a (.lst xs))(g:Rd H a (.lst ys)):xs=ys:=by
 rcases h with h | ⟨o,h⟩<;>rcases g with g | ⟨o',g⟩<;>rw [h] at g<;>cases g<;>rfl
theorem zza {α β:Type}{f : α->β}{l:List α}{i:Nat}{b : β}(h:(l.map f)[i]?=some b):∃ a,l[i]?=some a/\f a=b:=by
 rw [List.getElem?_map] at h
 cases e:l[i]? with
 | none=>rw [e] at h;cases h
 | some a=>rw [e] at h;exact⟨a,rfl,Option.some.inj h⟩
theorem Sim.partV {ro:Option Nat}{p:Option (List Ac)}{s:T}{e:En}{w:V}(S:Sim Γ H ρ σ E)(he:e∈E)(ho:e.r.k = .vw ro p)(hp:∀ F,Rp Γ.K H e.r.t e.v F->∃ G,Rp Γ.K H s w G/\∀ a∈G,a∈F):Sim Γ H ρ σ (⟨none,w,L2.partV ro s⟩::E):=by
 cases s with
 | im i=>
  obtain⟨F,r⟩:=S.rd he
  obtain⟨G,g,_⟩:=hp F r
  exact S.imm (zwa g).1
 | _=>
  obtain⟨w',h1,S2⟩:=S.part he ho (P:=fun w'=>w'=w) (s:=_) (fun F r=>let ⟨G,g,hG⟩:=hp F r;⟨w,G,rfl,g,hG⟩)
  subst h1
  exact S2
theorem walk_L {a:Addr}{src:R}{items:List R}(hi:itemsL src=some items):WalkOk Γ (Itl Γ.K a) [.ref a] [src] items:=fun H ρ σ E S=>by
 replace S:Sim Γ H ρ σ (⟨none,.ref a,src⟩::E):=S
 have r1:Rpx Γ.K H src.t (.ref a):=S.rd (e:=⟨none,.ref a,src⟩) List.mem_cons_self
 unfold itemsL at hi
 split at hi
 ·cases hi
  obtain⟨a',xs,ea,g1,g2⟩:=zyd r1
  cases ea
  refine⟨fun i hi=>⟨xs,zbb g1,by rw [g2.length];simpa using hi⟩,fun i r hr=>?_⟩
  obtain⟨j,hj,rfl⟩:=zza hr
  obtain⟨w,hw,rw0⟩:=g2.get hj
  refine⟨⟨xs,w,zbb g1,hw⟩,fun x H' y=>?_⟩
  obtain⟨rfl,y⟩:=y
  have:=y xs (zbb g1)
  rw [hw] at this;cases this
  exact S.imm rw0
 ·rename_i ro p ts
  cases hi
  obtain⟨a',xs,F,ea,g1,g2⟩:=rx_lst r1
  cases ea
  refine⟨fun i hi=>⟨xs,zbb g1,by rw [g2.length];simpa using hi⟩,fun i r hr=>?_⟩
  obtain⟨j,hj,rfl⟩:=zza hr
  obtain⟨w,A,G,B,hw,rw0,_⟩:=g2.at hj
  refine⟨⟨xs,w,zbb g1,hw⟩,fun x H' y=>?_⟩
  obtain⟨rfl,y⟩:=y
  have:=y xs (zbb g1)
  rw [hw] at this;cases this
  refine S.partV (e:=⟨none,.ref a,⟨.vw ro p,.lst ts⟩⟩) List.mem_cons_self rfl fun F rp=>?_
  have rp':Rp Γ.K _ (.lst ts) (.ref a) F:=rp
  rw [Rp] at rp'
  obtain⟨a'',xs',F',ea,k1,k2,rfl⟩:=rp'
  cases ea
  have:=k1.det g1
  subst this
  obtain⟨w',A',G',B',hw',rw',e',_⟩:=k2.at hj
  rw [hw] at hw';cases hw'
  exact⟨G',rw',fun b hb=>by rw [e'];exact List.mem_cons_of_mem _ (List.mem_append_left _ (List.mem_append_right _ hb))⟩
 ·cases hi
theorem ref_itL {ta:TE}{a:ME}(ha:RefE K ta a):RefI K (iList K ta) (mItL a):=by
 intro Γ H ρ σ E Rr srcs items ρ' hK hr S q
 simp only [mItL] at hr
 split at hr
 ·rename_i src ρ1 e1
  split at hr
  ·rename_i rs e2
   cases hr
   refine ha Γ H ρ σ E _ _ _ hK e1 S fun x H1 S1=>?_
   have r1:Rpx Γ.K H1 src.t x:=S1.rd (e:=⟨none,x,src⟩) List.mem_cons_self
   have hx:∃ a xs,x = .ref a/\SqL K H1 a xs:=by
    unfold itemsL at e2
    split at e2
    ·obtain⟨a,xs,e,g1,g2⟩:=zyd r1;exact⟨a,xs,e,zbb g1⟩
    ·obtain⟨a,xs,F,e,g1,g2⟩:=rx_lst r1;exact⟨a,xs,e,zbb g1⟩
    ·cases e2
   obtain⟨b,xs,rfl,h2⟩:=hx
   exact⟨b,rfl,⟨xs,h2⟩,q _ [.ref b] H1 rfl S1 (by rw [← hK];exact walk_L e2)⟩
  ·cases hr
 ·cases hr
theorem walk_T {a:Addr}{src:R}{items:List R}(hi:itemsT src=some items):WalkOk Γ (Itt Γ.K a) [.ref a] [src] items:=fun H ρ σ E S=>by
 replace S:Sim Γ H ρ σ (⟨none,.ref a,src⟩::E):=S
 have r1:Rpx Γ.K H src.t (.ref a):=S.rd (e:=⟨none,.ref a,src⟩) List.mem_cons_self
 unfold itemsT at hi
 split at hi
 ·cases hi
  obtain⟨a',xs,ea,g1,g2⟩:=zmd r1
  cases ea
  refine⟨fun i hi=>⟨xs,g1,by rw [g2.length];simpa using hi⟩,fun i r hr=>?_⟩
  obtain⟨j,hj,rfl⟩:=zza hr
  obtain⟨w,hw,rw0⟩:=g2.get hj
  refine⟨⟨xs,w,g1,hw⟩,fun x H' y=>?_⟩
  obtain⟨rfl,y⟩:=y
  have:=y xs g1
  rw [hw] at this;cases this
  exact S.imm rw0
 ·cases hi
theorem ref_itT {ta:TE}{a:ME}(ha:RefE K ta a):RefI K (iTup K ta) (mItT a):=by
 intro Γ H ρ σ E Rr srcs items ρ' hK hr S q
 simp only [mItT] at hr
 split at hr
 ·rename_i src ρ1 e1
  split at hr
  ·rename_i rs e2
   cases hr
   refine ha Γ H ρ σ E _ _ _ hK e1 S fun x H1 S1=>?_
   have r1:Rpx Γ.K H1 src.t x:=S1.rd (e:=⟨none,x,src⟩) List.mem_cons_self
   have hx:∃ a xs,x = .ref a/\SqT K H1 a xs:=by
    unfold itemsT at e2
    split at e2
    ·obtain⟨a,xs,e,g1,g2⟩:=zmd r1;rw [hK] at g1;exact⟨a,xs,e,g1⟩
    ·cases e2
   obtain⟨b,xs,rfl,h2⟩:=hx
   exact⟨b,rfl,⟨xs,h2⟩,q _ [.ref b] H1 rfl S1 (by rw [← hK];exact walk_T e2)⟩
  ·cases hr
 ·cases hr
noncomputable def forRun (g:R->Rho->Option Rho) (b:Rho->Option (Fl×Rho)):List R->Rho->Option (Fl×Rho)
 | [],ρ=>some (.nx,ρ)
 | r::rs,ρ=>match g r ρ with
  | some ρ1=>(match b ρ1 with
   | some (.nx,ρ2)=>forRun g b rs ρ2
   | some (.ct,ρ2)=>forRun g b rs ρ2
   | some (.bk,ρ2)=>some (.nx,ρ2)
   | some (.rt t,ρ2)=>some (.rt t,ρ2)
   | none=>none)
  | none=>none
@[irreducible] noncomputable def mFor (it:MI)(g:MG)(b:MS):MS:=⟨fun ρ=>match it.run ρ with
 | some ((srcs,items),ρ1)=>if (srcs.all (alive (g.mu++b.mu)) && items.all (alive (g.mu++b.mu)))=true then forRun g.run b.run items ρ1 else none
 | none=>none,it.mu++(g.mu++b.mu)⟩
theorem ref_for {wi:TI}{g:TG}{tb:TS}{it:MI}{mg:MG}{b:MS}(hi:RefI K wi it)(hg:RefG K g mg)(hb:RefS K tb b):RefS K (tFor wi g tb) (mFor it mg b):=by
 intro Γ H ρ σ E D f ρ' hK hE hr S q
 simp only [mFor] at hr q
 split at hr
 ·rename_i srcs items ρ1 e1
  split at hr
  ·rename_i al
   rw [Bool.and_eq_true] at al
   refine hi Γ H ρ σ E _ srcs items ρ1 hK e1 S fun J vs H1 hlv S1 wk=>?_
   rw [← zh] at q
   have hE1:=zqb (M:=it.mu) hE
   generalize zm it.mu E=E1 at q S1 hE1
   have ks:∀ e∈ens vs srcs,zia (mg.mu++b.mu) e=true:=ens_keep al.1
   have kg:zm mg.mu (ens vs srcs++zm (mg.mu++b.mu) E1)=ens vs srcs++zm (mg.mu++b.mu) E1:=by
    rw [zaa,zgd (fun e he=>keepE_sub (fun j hj=>List.mem_append_left _ hj) (ks e he)),zoc (fun j hj=>List.mem_append_left _ hj)]
   have kb:zm b.mu (ens vs srcs++zm (mg.mu++b.mu) E1)=ens vs srcs++zm (mg.mu++b.mu) E1:=by
    rw [zaa,zgd (fun e he=>keepE_sub (fun j hj=>List.mem_append_right _ hj) (ks e he)),zoc (fun j hj=>List.mem_append_right _ hj)]
   have S2:=S1.weak (mg.mu++b.mu)
   rw [zaa,zgd ks] at S2
   have hE2:=zqb (M:=mg.mu++b.mu) hE1
   generalize zm (mg.mu++b.mu) E1=E2 at q kg kb S2 hE2
   have hE3:∀ e∈ens vs srcs++E2,e.key=none:=fun e he=>by
    rcases List.mem_append.mp he with he | he
    ·exact ens_keyN e he
    ·exact hE2 e he
   refine⟨fun i m σ H=>m=items.length - i/\i<=items.length/\∃ ρ,forRun mg.run b.run (items.drop i) ρ=some (f,ρ')/\Sim Γ H ρ σ (ens vs srcs++E2),⟨items.length,by simp,Nat.zero_le _,ρ1,by simpa using hr,S2⟩,?_⟩
   rintro i m σ1 H2 ⟨rfl,hil,ρ2,h2,S3⟩
   obtain⟨w1,w2⟩:=wk H2 ρ2 σ1 E2 S3
   by_cases hlt:i<items.length
   ·have hx:items[i]?=some items[i]:=by simp [hlt]
    obtain⟨w3,w4⟩:=w2 i _ hx
    rw [List.drop_eq_getElem_cons hlt,forRun] at h2
    refine .inr ⟨w3,fun σ' H'=>∃ ρ,forRun mg.run b.run (items.drop (i+1)) ρ=some (f,ρ')/\Sim Γ H' ρ σ' (ens vs srcs++E2),fun σ' H' ⟨ρ3,h3,S4⟩=>⟨items.length - (i+1),by omega,rfl,hlt,ρ3,h3,S4⟩,fun x H3 y=>?_⟩
    have S4:=w4 x H3 y
    split at h2
    ·rename_i ρ3 e3
     refine hg Γ H3 ρ2 σ1 _ _ x _ ρ3 hK e3 S4 fun σ2 H4 S5=>?_
     rw [kg] at S5
     split at h2
     ·rename_i ρ4 e4
      exact hb Γ H4 ρ3 σ2 _ _ .nx ρ4 hK hE3 e4 S5 fun σ' H' S6=>⟨ρ4,h2,by rw [kb] at S6;exact S6⟩
     ·rename_i ρ4 e4
      exact hb Γ H4 ρ3 σ2 _ _ .ct ρ4 hK hE3 e4 S5 fun σ' H' S6=>⟨ρ4,h2,by rw [kb] at S6;exact S6⟩
     ·rename_i ρ4 e4
      cases h2
      exact hb Γ H4 ρ3 σ2 _ _ .bk _ hK hE3 e4 S5 fun σ' H' S6=>q σ' H' (by rw [kb] at S6;exact S6.drops)
     ·rename_i t ρ4 e4
      cases h2
      exact hb Γ H4 ρ3 σ2 _ _ (.rt t) _ hK hE3 e4 S5 q
     ·cases h2
    ·cases h2
   ·have e:i=items.length:=by omega
    subst e
    rw [List.drop_length,forRun] at h2
    cases h2
    exact .inl ⟨w1 _ (Nat.le_refl _),q σ1 H2 S3.drops⟩
  ·cases hr
 ·cases hr
end
end L2
namespace L2
open PySem PySem.Spec PyProof.Rows
noncomputable def renK (π:Nat->Nat):Kd->Kd
 | .vw (some j) p=>.vw (some (π j)) p
 | k=>k
noncomputable def renR (π:Nat->Nat) (r:R):R:=⟨renK π r.k,r.t⟩
noncomputable def renE (π:Nat->Nat) (e:En):En:=⟨e.key.map π,e.v,renR π e.r⟩
section
variable  {Γ:Gm}{H H':Hp}{ρ:Rho}{σ:St}{E X:List En}{v x y:V}{t:T}{K:PySem.W.Frag}{Q:VK}{π:Nat->Nat}
theorem renK_ow (k:Kd):(renK π k).isOw=k.isOw:=by
 cases k with
 | vw a b=>cases a<;>rfl
 | _=>rfl
theorem renK_root (k:Kd):(renK π k).root=k.root.map π:=by
 cases k with
 | vw a b=>cases a<;>rfl
 | _=>rfl
theorem SimL.ren (S:SimL Γ H X)(inj:∀ e∈X,∀ f∈X,∀ a b,e.key=some a->f.key=some b->π a=π b->a=b):SimL Γ H (X.map (renE π)):=by
 obtain⟨L,g,rfl⟩:=S
 have own:∀ L:List Hd,(L.map fun h:Hd=>(⟨renE π h.e,h.F⟩:Hd)).flatMap Hd.own=L.flatMap Hd.own:=by
  intro L
  induction L with
  | nil=>rfl
  | cons h L ih=>
   rw [List.map_cons,List.flatMap_cons,List.flatMap_cons,ih]
   congr 1
   unfold Hd.own
   show (if (renK π h.e.r.k).isOw=true then h.F else [])=_
   rw [renK_ow]
 refine⟨L.map fun h=>⟨renE π h.e,h.F⟩,⟨by rw [own];exact g.nd,by rw [own];exact g.ad,fun h hh=>?_,fun h hh=>?_,?_,g.fr,g.iol⟩,by rw [List.map_map,List.map_map];rfl⟩
 ·obtain⟨h0,h1,rfl⟩:=List.mem_map.mp hh
  exact g.rp h0 h1
 ·obtain⟨h0,h1,rfl⟩:=List.mem_map.mp hh
  have k:=g.kd h0 h1
  unfold KdOk at k ⊢
  show match renK π h0.e.r.k with
   | .ow=>_ | .io k=>_ | .vw none _=>_ | .vw (some j) p=>_
  cases ek:h0.e.r.k with
  | ow=>rw [ek] at k;exact k
  | io n=>rw [ek] at k;exact k
  | vw a p=>
   rw [ek] at k
   cases a with
   | none=>rw [own];exact k
   | some j=>
    obtain⟨x,x1,x2,x3,x4,x5⟩:=k
    refine⟨⟨renE π x.e,x.F⟩,List.mem_map_of_mem x1,by show x.e.key.map π=_;rw [x2];rfl,by show (renK π x.e.r.k).isOw=true;rw [renK_ow];exact x3,fun a ha=>by rw [own];exact x4 a ha,x5⟩
 ·rw [List.filterMap_map]
  have e:(fun h:Hd=>h.e.key) ∘ (fun h:Hd=>(⟨renE π h.e,h.F⟩:Hd))=fun h=>h.e.key.map π:=rfl
  rw [e]
  have:∀ L':List Hd,(∀ h∈L',h∈L)->(L'.filterMap fun h=>h.e.key).Nodup->(L'.filterMap fun h=>h.e.key.map π).Nodup:=by
   intro L'
   induction L' with
   | nil=>intro _ _;exact List.nodup_nil
   | cons h L' ih=>
    intro hs nd
    rw [List.filterMap_cons] at nd ⊢
    cases ek:h.e.key with
    | none=>rw [ek] at nd;exact ih (fun x hx=>hs x (List.mem_cons_of_mem _ hx)) nd
    | some a=>
     rw [ek] at nd
     obtain⟨n1,n2⟩:=List.nodup_cons.mp nd
     refine List.nodup_cons.mpr ⟨fun hm=>?_,ih (fun x hx=>hs x (List.mem_cons_of_mem _ hx)) n2⟩
     obtain⟨y,hy,ey⟩:=List.mem_filterMap.mp hm
     cases eb:y.e.key with
     | none=>rw [eb] at ey;cases ey
     | some b=>
      rw [eb] at ey
      have e2 : π b=π a:=Option.some.inj ey
      have:=inj y.e (List.mem_map_of_mem (hs y (List.mem_cons_of_mem _ hy))) h.e (List.mem_map_of_mem (hs h List.mem_cons_self)) b a eb ek e2
      subst this
      exact n1 (List.mem_filterMap.mpr ⟨y,hy,eb⟩)
  exact this L (fun _ h=>h) g.ks
theorem SimL.filt (S:SimL Γ H X)(p:En->Bool)(hp:∀ e∈X,p e=true->∀ j,e.r.k.root=some j->∀ f∈X,f.key=some j->p f=true):SimL Γ H (X.filter p):=by
 obtain⟨L,g,rfl⟩:=S
 refine⟨L.filter fun h=>p h.e,g.sub List.filter_sublist fun h hh j hj x hx hk ho=>?_,by rw [List.filter_map];rfl⟩
 obtain⟨h1,h2⟩:=List.mem_filter.mp hh
 exact List.mem_filter.mpr ⟨hx,hp h.e (List.mem_map_of_mem h1) h2 j hj x.e (List.mem_map_of_mem hx) hk⟩
theorem ents_iff {e:En}:e∈ents 0 σ ρ ↔ ∃ i,e.key=some i/\ρ[i]?=some (some e.r)/\σ[i]?=some (some e.v):=by
 constructor
 ·intro h
  obtain⟨i,h1,h2,h3⟩:=zvc h
  exact⟨i,by rw [h1,Nat.zero_add],h2,h3⟩
 ·rintro ⟨i,h1,h2,h3⟩
  have:=(zcb (k:=0) h3 h2).mem_iff.mpr List.mem_cons_self
  have e':e=⟨some (0+i),e.v,e.r⟩:=by cases e;simp only [En.mk.injEq,and_self,and_true,Nat.zero_add];exact h1
  rw [e'];exact this
theorem ents_pw:∀ {k:Nat} {σ:List (Option V)} {ρ:Rho},(ents k σ ρ).Pairwise fun a b=>∃ i j,a.key=some i/\b.key=some j/\i<j
 | _,[],_=>List.Pairwise.nil
 | _,x::_,[]=>by cases x<;>exact List.Pairwise.nil
 | k,x::σ,y::ρ=>by
  have ih:=ents_pw (k:=k+1) (σ:=σ) (ρ:=ρ)
  cases x with
  | none=>simpa [ents] using ih
  | some v=>
   cases y with
   | none=>simpa [ents] using ih
   | some r=>
    simp only [ents]
    refine List.Pairwise.cons (fun b hb=>?_) ih
    obtain⟨i,h1,_,_⟩:=zvc hb
    exact⟨k,k+1+i,rfl,h1,by omega⟩
theorem ents_nodup {k:Nat}:(ents k σ ρ).Nodup:=by
 refine List.Pairwise.imp ?_ ents_pw
 rintro a b ⟨i,j,h1,h2,h3⟩ rfl
 rw [h1] at h2;cases h2;omega
noncomputable def capB (fr:List (Option Nat)) (j:Nat):Bool:=match fr[j]? with
 | some (some i)=>i == j
 | _=>false
noncomputable def piF (fr:List (Option Nat)) (j:Nat):Nat:=if capB fr j=true then j else fr.length+j
noncomputable def psF (fr:List (Option Nat)) (k:Nat):Nat:=if k<fr.length then k else k - fr.length
noncomputable def inRk (π:Nat->Nat):Nat->List (Option Nat)->Rho->Rho
 | _,[],_=>[]
 | k,o::fr,r::ρ=>(if o=some k then r.map (renR π) else none)::inRk π (k+1) fr ρ
 | k,o::fr,[]=>none::inRk π (k+1) fr []
noncomputable def inR (fr:List (Option Nat)) (ρ:Rho):Rho:=inRk (piF fr) 0 fr ρ
noncomputable def outRk (ψ : Nat->Nat) (tg mu:List Nat):Nat->List (Option Nat)->Rho->Rho->Rho
 | k,o::fr,ri::ρi,r::ρ=>(if o=some k then (zqd tg ri).map (renR ψ) else zqd mu r)::outRk ψ tg mu (k+1) fr ρi ρ
 | _,[],_,ρ=>ρ.map (zqd mu)
 | _,_::_,[],ρ=>ρ.map (zqd mu)
 | _,_::_,_::_,[]=>[]
noncomputable def tgF (fr:List (Option Nat)):List Nat:=(List.range fr.length).filter fun i=>!capB fr i
noncomputable def muF (fr:List (Option Nat)) (mu:List Nat):List Nat:=mu.filter (capB fr)
noncomputable def outR (fr:List (Option Nat)) (mu:List Nat) (ρi ρ:Rho):Rho:=outRk (psF fr) (tgF fr) (muF fr mu) 0 fr ρi ρ
theorem capB_iff {fr:List (Option Nat)}{j:Nat}:capB fr j=true↔fr[j]?=some (some j):=by
 unfold capB
 split
 ·rename_i i h;rw [h];simp
 ·rename_i h
  constructor
  ·intro z;cases z
  ·intro z;exact absurd z (h j)
theorem inRk_get:∀ {k:Nat} {fr:List (Option Nat)} {ρ:Rho} {i:Nat} {r':R},(inRk π k fr ρ)[i]?=some (some r')↔fr[i]?=some (some (k+i))/\∃ r,ρ[i]?=some (some r)/\r'=renR π r
 | k,[],ρ,i,r'=>by simp [inRk]
 | k,o::fr,[],0,r'=>by simp [inRk]
 | k,o::fr,[],i+1,r'=>by
  rw [inRk,List.getElem?_cons_succ,inRk_get (k:=k+1) (fr:=fr) (ρ:=[]) (i:=i)]
  simp
 | k,o::fr,r::ρ,0,r'=>by
  rw [inRk,List.getElem?_cons_zero,List.getElem?_cons_zero,List.getElem?_cons_zero]
  by_cases h:o=some k
  ·subst h
   rw [if_pos rfl]
   cases r with
   | none=>simp
   | some r=>simp [eq_comm]
  ·rw [if_neg h]
   constructor
   ·intro z;cases z
   ·rintro ⟨h1,_⟩;exact absurd (by simpa using h1) h
 | k,o::fr,r::ρ,i+1,r'=>by
  rw [inRk,List.getElem?_cons_succ,List.getElem?_cons_succ,List.getElem?_cons_succ,inRk_get (k:=k+1) (fr:=fr) (ρ:=ρ) (i:=i),show k+1+i=k+(i+1) by omega]
theorem inRk_len:∀ {k:Nat} {fr:List (Option Nat)} {ρ:Rho},(inRk π k fr ρ).length=fr.length
 | k,[],ρ=>rfl
 | k,o::fr,[]=>by rw [inRk,List.length_cons,inRk_len,List.length_cons]
 | k,o::fr,r::ρ=>by rw [inRk,List.length_cons,inRk_len,List.length_cons]
theorem inR_get {fr:List (Option Nat)}{i:Nat}{r':R}:(inR fr ρ)[i]?=some (some r')↔capB fr i=true/\∃ r,ρ[i]?=some (some r)/\r'=renR (piF fr) r:=by
 unfold inR;rw [inRk_get,Nat.zero_add,capB_iff]
theorem inSt_get {fr:List (Option Nat)}{i:Nat}(h:capB fr i=true):(inSt fr σ)[i]?=some (σ.getD i none):=by
 unfold inSt
 rw [List.getElem?_map,capB_iff.mp h];rfl
theorem getD_some {i:Nat}{v:V} : σ.getD i none=some v↔σ[i]?=some (some v):=by
 rw [List.getD_eq_getElem?_getD]
 cases h : σ[i]? with
 | none=>simp
 | some o=>simp
theorem ztd {fr:List (Option Nat)}{j:Nat}(h:capB fr j=true):piF fr j=j:=by unfold piF;rw [if_pos h]
theorem zrc {fr:List (Option Nat)}{j:Nat}(h:capB fr j=false):piF fr j=fr.length+j:=by unfold piF;rw [if_neg (by rw [h];simp)]
theorem zpb {fr:List (Option Nat)}{j:Nat}(h:capB fr j=true):j<fr.length:=(List.getElem?_eq_some_iff.mp (capB_iff.mp h)).1
theorem piF_inj {fr:List (Option Nat)}{a b:Nat}(h:piF fr a=piF fr b):a=b:=by
 cases ha:capB fr a<;>cases hb:capB fr b
 ·rw [zrc ha,zrc hb] at h;omega
 ·rw [zrc ha,ztd hb] at h;have:=zpb hb;omega
 ·rw [ztd ha,zrc hb] at h;have:=zpb ha;omega
 ·rw [ztd ha,ztd hb] at h;exact h
theorem psF_pi {fr:List (Option Nat)}(a:Nat):psF fr (piF fr a)=a:=by
 cases ha:capB fr a
 ·rw [zrc ha];unfold psF;rw [if_neg (by omega)];omega
 ·rw [ztd ha];unfold psF;rw [if_pos (zpb ha)]
theorem renE_ps {fr:List (Option Nat)}(e:En):renE (psF fr) (renE (piF fr) e)=e:=by
 obtain⟨key,v,⟨k,t⟩⟩:=e
 have h1:(key.map (piF fr)).map (psF fr)=key:=by cases key<;>simp [psF_pi]
 have h2:renK (psF fr) (renK (piF fr) k)=k:=by
  cases k with
  | vw a p=>cases a<;>simp [renK,psF_pi]
  | _=>rfl
 show (⟨(key.map (piF fr)).map (psF fr),v,⟨renK (psF fr) (renK (piF fr) k),t⟩⟩:En)=_
 rw [h1,h2]
noncomputable def capE (fr:List (Option Nat)) (e:En):Bool:=match e.key with
 | some j=>capB fr j
 | none=>false
theorem map_nodup {α β:Type}{f : α->β}{l:List α}(h:l.Nodup)(inj:∀ a∈l,∀ b∈l,f a=f b->a=b):(l.map f).Nodup:=by
 induction l with
 | nil=>exact List.nodup_nil
 | cons a l ih=>
  obtain⟨h1,h2⟩:=List.nodup_cons.mp h
  rw [List.map_cons]
  refine List.nodup_cons.mpr ⟨fun hm=>?_,ih h2 fun x hx y hy=>inj x (List.mem_cons_of_mem _ hx) y (List.mem_cons_of_mem _ hy)⟩
  obtain⟨b,hb,e⟩:=List.mem_map.mp hm
  have:=inj b (List.mem_cons_of_mem _ hb) a List.mem_cons_self e
  subst this
  exact h1 hb
theorem inn_perm {fr:List (Option Nat)}:((ents 0 σ ρ).map (renE (piF fr))).Perm (ents 0 (inSt fr σ) (inR fr ρ)++((ents 0 σ ρ).filter fun e=>!capE fr e).map (renE (piF fr))):=by
 have inj:∀ a∈ents 0 σ ρ,∀ b∈ents 0 σ ρ,renE (piF fr) a=renE (piF fr) b->a=b:=fun a _ b _ h=>by
  have:=congrArg (renE (psF fr)) h
  rwa [renE_ps,renE_ps] at this
 have nd1:=map_nodup (ents_nodup (k:=0) (σ:=σ) (ρ:=ρ)) inj
 have nd2:(((ents 0 σ ρ).filter fun e=>!capE fr e).map (renE (piF fr))).Nodup:=nd1.sublist (List.filter_sublist.map _)
 refine (List.perm_ext_iff_of_nodup nd1 (List.nodup_append.mpr ⟨ents_nodup,nd2,?_⟩)).mpr fun e=>?_
 ·rintro a ha b hb rfl
  obtain⟨i,h1,h2,h3⟩:=ents_iff.mp ha
  obtain⟨hc,_⟩:=inR_get.mp h2
  obtain⟨f,hf,rfl⟩:=List.mem_map.mp hb
  obtain⟨hf1,hf2⟩:=List.mem_filter.mp hf
  obtain⟨j,g1,g2,g3⟩:=ents_iff.mp hf1
  have g0:capB fr j=false:=by unfold capE at hf2;rw [g1] at hf2;simpa using hf2
  have h1':(f.key.map (piF fr))=some i:=h1
  rw [g1] at h1'
  have h1'':piF fr j=i:=by simpa using h1'
  rw [zrc g0] at h1''
  have:=zpb hc
  omega
 ·rw [List.mem_append]
  constructor
  ·intro he
   obtain⟨f,hf,rfl⟩:=List.mem_map.mp he
   obtain⟨j,g1,g2,g3⟩:=ents_iff.mp hf
   cases hc:capB fr j
   ·exact .inr (List.mem_map.mpr ⟨f,List.mem_filter.mpr ⟨hf,by unfold capE;rw [g1];simp [hc]⟩,rfl⟩)
   ·left
    refine ents_iff.mpr ⟨j,?_,inR_get.mpr ⟨hc,_,g2,rfl⟩,?_⟩
    ·show f.key.map (piF fr)=_
     rw [g1]
     simp [ztd hc]
    ·rw [inSt_get hc,getD_some.mpr g3];rfl
  ·rintro (he | he)
   ·obtain⟨i,h1,h2,h3⟩:=ents_iff.mp he
    obtain⟨hc,r,h4,h5⟩:=inR_get.mp h2
    rw [inSt_get hc] at h3
    have h3':=getD_some.mp (Option.some.inj h3)
    refine List.mem_map.mpr ⟨⟨some i,e.v,r⟩,ents_iff.mpr ⟨i,rfl,h4,h3'⟩,?_⟩
    cases e
    simp only at h1 h5
    simp [renE,ztd hc,h1,h5]
   ·obtain⟨f,hf,rfl⟩:=List.mem_map.mp he
    exact List.mem_map_of_mem (List.mem_filter.mp hf).1
noncomputable def outE (fr:List (Option Nat)) (σ:St) (ρ:Rho) (E:List En):List En:=(E++(ents 0 σ ρ).filter fun e=>!capE fr e).map (renE (piF fr))
noncomputable def frOk (fr:List (Option Nat)) (n:Nat):Bool:=decide (n<=fr.length) && (List.range fr.length).all fun i=>!capB fr i || decide (i<n)
theorem frOk_lt {fr:List (Option Nat)}{n j:Nat}(h:frOk fr n=true)(hc:capB fr j=true):j<n:=by
 unfold frOk at h
 rw [Bool.and_eq_true] at h
 have:=List.all_eq_true.mp h.2 j (List.mem_range.mpr (zpb hc))
 rw [hc] at this
 simpa using this
theorem Sim.inn {fr:List (Option Nat)}(S:Sim Γ H ρ σ E)(hf:frOk fr ρ.length=true):Sim Γ H (inR fr ρ) (inSt fr σ) (outE fr σ ρ E):=by
 refine⟨?_,fun i r h=>?_,by rw [zcc];unfold inR;rw [inRk_len],fun e he j hj=>?_⟩
 ·have:=S.sl.ren (π:=piF fr) fun e _ f _ a b _ _ h=>piF_inj h
  rw [List.map_append] at this
  refine this.perm ?_
  unfold outE
  rw [List.map_append,List.append_assoc]
  exact (inn_perm.append_left _).trans (List.perm_append_comm.append_left _)
 ·obtain⟨hc,r0,h1,_⟩:=inR_get.mp h
  obtain⟨v,hv⟩:=S.al i r0 h1
  exact⟨v,by rw [inSt_get hc,getD_some.mpr hv]⟩
 ·unfold inR
  rw [inRk_len]
  unfold outE at he
  obtain⟨f,hf',rfl⟩:=List.mem_map.mp he
  have hj':f.key.map (piF fr)=some j:=hj
  cases hk:f.key with
  | none=>rw [hk] at hj';cases hj'
  | some i=>
   rw [hk] at hj'
   have e1:piF fr i=j:=by simpa using hj'
   have hc:capB fr i=false:=by
    rcases List.mem_append.mp hf' with z | z
    ·cases hc:capB fr i with
     | false=>rfl
     | true=>
      have:=frOk_lt hf hc
      have:=S.hi f z i hk
      omega
    ·have:=(List.mem_filter.mp z).2
     unfold capE at this
     rw [hk] at this
     simpa using this
   rw [zrc hc] at e1
   omega
theorem outRk_get {ψ : Nat->Nat}{tg mu:List Nat}:∀ {k:Nat} {fr:List (Option Nat)} {ρi ρ:Rho} {i:Nat},i < ρ.length->ρ.length<=fr.length->fr.length=ρi.length->(outRk ψ tg mu k fr ρi ρ)[i]?=some (if fr[i]?=some (some (k+i)) then (zqd tg (ρi.getD i none)).map (renR ψ) else zqd mu (ρ.getD i none))
 | k,fr,ρi,[],i,h,_,_=>by cases h
 | k,[],ρi,r::ρ,i,_,h,_=>by simp at h
 | k,o::fr,[],r::ρ,i,_,_,h=>by cases h
 | k,o::fr,ri::ρi,r::ρ,0,h,h2,h3=>by
  rw [outRk,List.getElem?_cons_zero,List.getElem?_cons_zero]
  simp
 | k,o::fr,ri::ρi,r::ρ,i+1,h,h2,h3=>by
  rw [outRk,List.getElem?_cons_succ,outRk_get (k:=k+1) (by simpa using h) (by simpa using h2) (by simpa using h3),List.getElem?_cons_succ,show k+1+i=k+(i+1) by omega]
  simp
theorem outRk_len {ψ : Nat->Nat}{tg mu:List Nat}:∀ {k:Nat} {fr:List (Option Nat)} {ρi ρ:Rho},(outRk ψ tg mu k fr ρi ρ).length=ρ.length
 | k,[],ρi,ρ=>by cases ρi<;>simp [outRk]
 | k,o::fr,[],ρ=>by simp [outRk]
 | k,o::fr,ri::ρi,[]=>by simp [outRk]
 | k,o::fr,ri::ρi,r::ρ=>by rw [outRk,List.length_cons,outRk_len,List.length_cons]
theorem tgF_iff {fr:List (Option Nat)}{i:Nat}:i∈tgF fr↔i<fr.length/\capB fr i=false:=by
 unfold tgF
 rw [List.mem_filter,List.mem_range]
 simp
theorem killO_iff {M:List Nat}{o:Option R}{r:R}:zqd M o=some r↔o=some r/\zre M r=true:=by
 cases o with
 | none=>simp [zqd]
 | some x=>
  simp only [zqd]
  split
  ·rename_i h
   constructor
   ·intro z;cases z;exact⟨rfl,h⟩
   ·rintro ⟨z,_⟩;rw [z]
  ·rename_i h
   constructor
   ·intro z;cases z
   ·rintro ⟨z,h2⟩;cases z;exact absurd h2 h
theorem keep_ren {fr:List (Option Nat)}{mu:List Nat}(hmu:∀ j∈mu,j<fr.length)(e:En):zia mu (renE (piF fr) e)=zia (muF fr mu) e:=by
 unfold zia
 show (match (renK (piF fr) e.r.k).root with | some j=>!mu.contains j | none=>true)=_
 rw [renK_root]
 cases e.r.k.root with
 | none=>rfl
 | some j=>
  show (!mu.contains (piF fr j)) = !(muF fr mu).contains j
  congr 1
  rw [Bool.eq_iff_iff]
  simp only [List.contains_eq_mem,decide_eq_true_eq,muF,List.mem_filter]
  cases hc:capB fr j
  ·rw [zrc hc]
   constructor
   ·intro z;have:=hmu _ z;omega
   ·rintro ⟨_,z⟩;cases z
  ·rw [ztd hc]
   simp
theorem keep_tg {fr:List (Option Nat)}(e:En):zia (tgF fr) (renE (piF fr) e)=true:=by
 unfold zia
 show (match (renK (piF fr) e.r.k).root with | some j=>!(tgF fr).contains j | none=>true)=_
 rw [renK_root]
 cases e.r.k.root with
 | none=>rfl
 | some j=>
  show (!(tgF fr).contains (piF fr j))=true
  simp only [List.contains_eq_mem,Bool.not_eq_true',decide_eq_false_iff_not,tgF_iff]
  rintro ⟨h1,h2⟩
  cases hc:capB fr j
  ·rw [zrc hc] at h1;omega
  ·rw [ztd hc,hc] at h2;cases h2
theorem Sim.outt {fr:List (Option Nat)}{mu:List Nat}{ρi:Rho}{σ2:St}(S:Sim Γ H' ρi σ2 (zm mu (outE fr σ ρ E)))(hf:frOk fr ρ.length=true)(hmu:∀ j∈mu,j<fr.length)(hl : ρi.length=fr.length)(kp:Kp fr (inSt fr σ) σ2)
  (al:∀ (i:Nat) r,ρ[i]?=some (some r)->∃ v,σ[i]?=some (some v)) (len : σ.length=ρ.length) (hi:∀ e∈E,∀ j,e.key=some j->ρ.length<=j):Sim Γ H' (outR fr mu ρi ρ) σ (zm (muF fr mu) E):=by
 have hn : ρ.length<=fr.length:=by unfold frOk at hf;rw [Bool.and_eq_true,decide_eq_true_eq] at hf;exact hf.1
 have val:∀ {i:Nat} {w:V},capB fr i=true->σ2[i]?=some (some w)->σ[i]?=some (some w):=fun {i w} hc h=>by
  rw [kp.2 i i (capB_iff.mp hc),inSt_get hc] at h
  exact getD_some.mp (Option.some.inj h)
 have eE:zm mu (outE fr σ ρ E)=(zm (muF fr mu) (E++(ents 0 σ ρ).filter fun e=>!capE fr e)).map (renE (piF fr)):=by
  unfold outE zm
  rw [List.filter_map]
  congr 1
  apply List.filter_congr
  intro e _
  exact keep_ren hmu e
 have s1:=(S.sl.kill (tgF fr))
 rw [zaa,eE] at s1
 have e1:zm (tgF fr) ((zm (muF fr mu) (E++(ents 0 σ ρ).filter fun e=>!capE fr e)).map (renE (piF fr)))=(zm (muF fr mu) (E++(ents 0 σ ρ).filter fun e=>!capE fr e)).map (renE (piF fr)):=by
  unfold zm
  rw [List.filter_eq_self]
  intro e he
  obtain⟨f,_,rfl⟩:=List.mem_map.mp he
  exact keep_tg f
 rw [e1] at s1
 let p:En->Bool:=fun e=>match e.key with
  | some k=>!(tgF fr).contains k
  | none=>true
 have kout:∀ f∈E++(ents 0 σ ρ).filter fun e=>!capE fr e,∀ j,f.key=some j->capB fr j=false:=fun f hf' j hj=>by
  rcases List.mem_append.mp hf' with z | z
  ·cases hc:capB fr j with
   | false=>rfl
   | true=>have:=frOk_lt hf hc;have:=hi f z j hj;omega
  ·have:=(List.mem_filter.mp z).2
   unfold capE at this
   rw [hj] at this
   simpa using this
 have pO:∀ e∈(zm (muF fr mu) (E++(ents 0 σ ρ).filter fun e=>!capE fr e)).map (renE (piF fr)),p e=true:=fun e he=>by
  obtain⟨f,hf',rfl⟩:=List.mem_map.mp he
  have hf'':=(List.mem_filter.mp hf').1
  show (match f.key.map (piF fr) with | some k=>!(tgF fr).contains k | none=>true)=true
  cases hk:f.key with
  | none=>rfl
  | some j=>
   have:=kout f hf'' j hk
   simp only [Option.map_some,List.contains_eq_mem,Bool.not_eq_true',decide_eq_false_iff_not,tgF_iff]
   rw [zrc this]
   omega
 have s2:=s1.filt p fun e he _ j hj f hf' hk=>by
  show (match f.key with | some k=>!(tgF fr).contains k | none=>true)=true
  rw [hk]
  have hm:e∈zm (tgF fr) (zm mu (outE fr σ ρ E)++ents 0 σ2 ρi):=by rw [zaa,eE,e1];exact he
  by_cases hj':j∈tgF fr
  ·exact absurd hj (noroot (M:=tgF fr) (i:=j) hj' e hm)
  ·simp [hj']
 rw [List.filter_append,List.filter_eq_self.mpr pO] at s2
 have s3:=s2.ren (π:=psF fr) (fun e he f hf' a b ha hb hab=>by
  have key:∀ e∈(zm (muF fr mu) (E++(ents 0 σ ρ).filter fun e=>!capE fr e)).map (renE (piF fr))++(zm (tgF fr) (ents 0 σ2 ρi)).filter p,∀ a,e.key=some a->(∃ j,a=fr.length+j/\capB fr j=false) ∨ capB fr a=true:=fun e he a ha=>by
   rcases List.mem_append.mp he with z | z
   ·left
    obtain⟨g,hg,rfl⟩:=List.mem_map.mp z
    have hg':=(List.mem_filter.mp hg).1
    have ha':g.key.map (piF fr)=some a:=ha
    cases hk:g.key with
    | none=>rw [hk] at ha';cases ha'
    | some j=>
     have hc:=kout g hg' j hk
     rw [hk] at ha'
     have:piF fr j=a:=by simpa using ha'
     exact⟨j,by rw [← this,zrc hc],hc⟩
   ·right
    obtain⟨z1,z2⟩:=List.mem_filter.mp z
    obtain⟨i,h1,h2,h3⟩:=ents_iff.mp (List.mem_filter.mp z1).1
    rw [ha] at h1
    cases h1
    have z2':(match e.key with | some k=>!(tgF fr).contains k | none=>true)=true:=z2
    rw [ha] at z2'
    have hlt:a<fr.length:=by
     have:=(List.getElem?_eq_some_iff.mp h2).1
     omega
    simp only [List.contains_eq_mem,Bool.not_eq_true',decide_eq_false_iff_not,tgF_iff] at z2'
    cases hc:capB fr a with
    | true=>rfl
    | false=>exact absurd ⟨hlt,hc⟩ z2'
  rcases key e he a ha with⟨j,rfl,hj⟩ | hj<;>rcases key f hf' b hb with⟨j',rfl,hj'⟩ | hj'
  ·unfold psF at hab;rw [if_neg (by omega),if_neg (by omega)] at hab;omega
  ·unfold psF at hab
   rw [if_neg (by omega),if_pos (zpb hj')] at hab
   have:j=b:=by omega
   subst this
   rw [hj] at hj';cases hj'
  ·unfold psF at hab
   rw [if_pos (zpb hj),if_neg (by omega)] at hab
   have:j'=a:=by omega
   subst this
   rw [hj'] at hj;cases hj
  ·unfold psF at hab;rw [if_pos (zpb hj),if_pos (zpb hj')] at hab;exact hab)
 rw [List.map_append,List.map_map] at s3
 have e2:(zm (muF fr mu) (E++(ents 0 σ ρ).filter fun e=>!capE fr e)).map (renE (psF fr) ∘ renE (piF fr))=zm (muF fr mu) (E++(ents 0 σ ρ).filter fun e=>!capE fr e):=by
  conv=>rhs;rw [← List.map_id (zm (muF fr mu) (E++(ents 0 σ ρ).filter fun e=>!capE fr e))]
  apply List.map_congr_left
  intro e _
  exact renE_ps e
 rw [e2,zaa,List.append_assoc] at s3
 have olen:(outR fr mu ρi ρ).length=ρ.length:=by unfold outR;exact outRk_len
 have oget:∀ {i:Nat} {r:R},(outR fr mu ρi ρ)[i]?=some (some r)↔i < ρ.length/\((capB fr i=true/\∃ r0,ρi[i]?=some (some r0)/\zre (tgF fr) r0=true/\r=renR (psF fr) r0) ∨ (capB fr i=false/\ρ[i]?=some (some r)/\zre (muF fr mu) r=true)):=fun {i r}=>by
  by_cases hlt:i < ρ.length
  ·unfold outR
   rw [outRk_get hlt hn hl.symm,Nat.zero_add]
   cases hc:capB fr i
   ·rw [if_neg (fun z=>by rw [capB_iff.mpr z] at hc;cases hc)]
    rw [Option.some.injEq,killO_iff]
    have : ρ.getD i none=some r↔ρ[i]?=some (some r):=by
     rw [List.getD_eq_getElem?_getD]
     cases ρ[i]?<;>simp
    rw [this]
    simp [hlt]
   ·rw [if_pos (capB_iff.mp hc)]
    rw [Option.some.injEq,Option.map_eq_some_iff]
    constructor
    ·rintro ⟨r0,h1,h2⟩
     obtain⟨h3,h4⟩:=killO_iff.mp h1
     refine⟨hlt,.inl ⟨rfl,r0,?_,h4,h2.symm⟩⟩
     rw [List.getD_eq_getElem?_getD] at h3
     cases h5 : ρi[i]? with
     | none=>rw [h5] at h3;cases h3
     | some o=>rw [h5] at h3;have:o=some r0:=h3;rw [this]
    ·rintro ⟨_,⟨_,r0,h1,h2,h3⟩ | ⟨z,_⟩⟩
     ·exact⟨r0,killO_iff.mpr ⟨by rw [List.getD_eq_getElem?_getD,h1];rfl,h2⟩,h3.symm⟩
     ·cases z
  ·constructor
   ·intro z
    have:=(List.getElem?_eq_some_iff.mp z).1
    rw [olen] at this
    exact absurd this hlt
   ·rintro ⟨z,_⟩;exact absurd z hlt
 refine⟨s3.perm (List.Perm.append_left _ ?_),fun i r h=>?_,by rw [olen];exact len,fun e he j hj=>by rw [olen];exact hi e (List.mem_filter.mp he).1 j hj⟩
 ·have ndA:(zm (muF fr mu) ((ents 0 σ ρ).filter fun e=>!capE fr e)).Nodup:=ents_nodup.sublist (List.filter_sublist.trans List.filter_sublist)
  have inB:∀ e∈(zm (tgF fr) (ents 0 σ2 ρi)).filter p,∃ i,e.key=some i/\capB fr i=true/\ρi[i]?=some (some e.r)/\σ2[i]?=some (some e.v)/\zre (tgF fr) e.r=true:=fun e he=>by
   obtain⟨z1,z2⟩:=List.mem_filter.mp he
   obtain⟨z3,z4⟩:=List.mem_filter.mp z1
   obtain⟨i,h1,h2,h3⟩:=ents_iff.mp z3
   have z2':(match e.key with | some k=>!(tgF fr).contains k | none=>true)=true:=z2
   rw [h1] at z2'
   have hlt:i<fr.length:=by
    have:=(List.getElem?_eq_some_iff.mp h2).1
    omega
   simp only [List.contains_eq_mem,Bool.not_eq_true',decide_eq_false_iff_not,tgF_iff] at z2'
   refine⟨i,h1,?_,h2,h3,z4⟩
   cases hc:capB fr i with
   | true=>rfl
   | false=>exact absurd ⟨hlt,hc⟩ z2'
  have ndB:(((zm (tgF fr) (ents 0 σ2 ρi)).filter p).map (renE (psF fr))).Nodup:=by
   refine map_nodup (ents_nodup.sublist (List.filter_sublist.trans List.filter_sublist)) fun a ha b hb h=>?_
   obtain⟨i,h1,h2,h3,h4,_⟩:=inB a ha
   obtain⟨j,g1,g2,g3,g4,_⟩:=inB b hb
   have hk:a.key.map (psF fr)=b.key.map (psF fr):=congrArg En.key h
   rw [h1,g1] at hk
   have hk':psF fr i=psF fr j:=by simpa using hk
   unfold psF at hk'
   rw [if_pos (zpb h2),if_pos (zpb g2)] at hk'
   subst hk'
   rw [h3] at g3;rw [h4] at g4
   cases a;cases b
   simp only at h1 g1 g3 g4
   have e1:=Option.some.inj (Option.some.inj g3)
   have e2:=Option.some.inj (Option.some.inj g4)
   simp [h1,g1,e1,e2]
  refine (List.perm_ext_iff_of_nodup (List.nodup_append.mpr ⟨ndA,ndB,?_⟩) ents_nodup).mpr fun e=>?_
  ·rintro a ha b hb rfl
   obtain⟨f,hf',hfe⟩:=List.mem_map.mp hb
   obtain⟨i,h1,h2,_⟩:=inB f hf'
   have hk:f.key.map (psF fr)=a.key:=congrArg En.key hfe
   rw [h1] at hk
   have hk':a.key=some i:=by rw [← hk];simp [psF,zpb h2]
   obtain⟨y1,y2⟩:=List.mem_filter.mp (List.mem_filter.mp ha).1
   unfold capE at y2
   rw [hk'] at y2
   simp [h2] at y2
  ·rw [List.mem_append,ents_iff]
   constructor
   ·rintro (he | he)
    ·obtain⟨z1,z2⟩:=List.mem_filter.mp he
     obtain⟨z3,z4⟩:=List.mem_filter.mp z1
     obtain⟨i,h1,h2,h3⟩:=ents_iff.mp z3
     unfold capE at z4
     rw [h1] at z4
     refine⟨i,h1,oget.mpr ⟨(List.getElem?_eq_some_iff.mp h2).1,.inr ⟨by simpa using z4,h2,z2⟩⟩,h3⟩
    ·obtain⟨f,hf',rfl⟩:=List.mem_map.mp he
     obtain⟨i,h1,h2,h3,h4,h5⟩:=inB f hf'
     refine⟨i,?_,oget.mpr ⟨frOk_lt hf h2,.inl ⟨h2,f.r,h3,h5,rfl⟩⟩,val h2 h4⟩
     show f.key.map (psF fr)=some i
     rw [h1]
     simp [psF,zpb h2]
   ·rintro ⟨i,h1,h2,h3⟩
    obtain⟨hlt,⟨hc,r0,g1,g2,g3⟩ | ⟨hc,g1,g2⟩⟩:=oget.mp h2
    ·right
     obtain⟨w,hw⟩:=S.al i r0 g1
     have hw':=val hc hw
     rw [h3] at hw'
     have ew:e.v=w:=Option.some.inj (Option.some.inj hw')
     refine List.mem_map.mpr ⟨⟨some i,w,r0⟩,List.mem_filter.mpr ⟨List.mem_filter.mpr ⟨ents_iff.mpr ⟨i,rfl,g1,hw⟩,g2⟩,?_⟩,?_⟩
     ·show (!(tgF fr).contains i)=true
      simp only [List.contains_eq_mem,Bool.not_eq_true',decide_eq_false_iff_not,tgF_iff]
      rintro ⟨_,z⟩;rw [hc] at z;cases z
     ·cases e
      simp only at h1 g3 ew
      simp [renE,h1,g3,ew,psF,zpb hc]
    ·left
     refine List.mem_filter.mpr ⟨List.mem_filter.mpr ⟨ents_iff.mpr ⟨i,h1,g1,h3⟩,?_⟩,g2⟩
     unfold capE;rw [h1];simp [hc]
 ·obtain⟨hlt,⟨hc,r0,g1,g2,g3⟩ | ⟨hc,g1,g2⟩⟩:=oget.mp h
  ·obtain⟨w,hw⟩:=S.al i r0 g1
   exact⟨w,val hc hw⟩
  ·exact al i r g1
end
end L2
namespace L2
open PySem PySem.Spec PyProof.Rows
section
variable  {Γ:Gm}{H H':Hp}{ρ:Rho}{σ:St}{E X:List En}{v x y:V}{t:T}{K:PySem.W.Frag}{Q:VK}
theorem Sim.mkL {vs:List V}{ts:List T}{p:Addr}(S:Sim Γ H ρ σ (temps vs ts++E))(hl:vs.length=ts.length)(hp:H p=none):Sim Γ (upd H p (.lst vs)) ρ σ (⟨none,.ref p,⟨.ow,zmc ts⟩⟩::E):=by
 obtain⟨F,h1,h2,h3,h4⟩:=S.use hl
 have sm:=Same.laid (o:=.lst vs) hp
 have np:p ∉ F:=fun z=>by obtain⟨o,e,_⟩:=h3 p z;rw [hp] at e;cases e
 refine h4 _ (.ref p) (zmc ts) (p::F) (sm.offM _) (fun a ha=>let ⟨o,e,_⟩:=h3 a ha;⟨o,sm a o e⟩) (List.nodup_cons.mpr ⟨np,h2⟩) (fun a ha=>?_) ?_
 ·rcases List.mem_cons.mp ha with rfl | ha
  ·exact⟨.inr hp,_,zfa,rfl⟩
  ·exact⟨.inl ha,let ⟨o,e,m⟩:=h3 a ha;⟨o,sm a o e,m⟩⟩
 ·unfold zmc
  split
  ·rename_i is hi
   rw [ims_eq hi] at h1
   obtain⟨h5,h6⟩:=Rps.ims.mp h1
   subst h6
   rw [Rp]
   exact⟨p,vs,rfl,.inl zfa,h5.same sm,rfl⟩
  ·rw [Rp]
   exact⟨p,vs,F,rfl,.inl zfa,h1.same sm,rfl⟩
theorem temps_app {t:T}:∀ {vs:List V} {ts:List T},vs.length=ts.length->temps (vs++[v]) (ts++[t])=temps vs ts++[⟨none,v,⟨.ow,t⟩⟩]
 | [],[],_=>rfl
 | a::vs,b::ts,h=>by
  rw [List.cons_append,List.cons_append,temps,temps,temps_app (by simpa using h),List.cons_append]
 | [],_::_,h=>by cases h
 | _::_,[],h=>by cases h
theorem zhd {M:List Nat}:∀ {vs:List V} {ts:List T},zm M (temps vs ts)=temps vs ts
 | [],ts=>by cases ts<;>rfl
 | a::vs,[]=>rfl
 | a::vs,b::ts=>by rw [temps,zx rfl,zhd]
noncomputable def zya (fr:List (Option Nat)) (M:List Nat) (g:MG) (c:MT) (e:ME):List R->Rho->List T->Option (List T×Rho)
 | [],ρ,acc=>some (acc,ρ)
 | r::rs,ρ,acc=>match g.run (renR (piF fr) r) (inR fr ρ) with
  | some ρ1=>(match c.run ρ1 with
   | some (true,ρ2)=>(match e.run ρ2 with
    | some (⟨.ow,t⟩,ρ3)=>zya fr M g c e rs (outR fr M ρ3 ρ) (acc++[t])
    | _=>none)
   | some (false,ρ2)=>zya fr M g c e rs (outR fr M ρ2 ρ) acc
   | none=>none)
  | none=>none
theorem zde {fr:List (Option Nat)}{e:En}:outE fr σ ρ (e::E)=renE (piF fr) e::outE fr σ ρ E:=rfl
theorem outR_len {fr:List (Option Nat)}{M:List Nat}{ρi:Rho}:(outR fr M ρi ρ).length=ρ.length:=outRk_len
theorem comp_loop {J:It}{fr:List (Option Nat)}{g:TG}{tc:TT}{te:TE}{mg:MG}{c:MT}{e:ME}{M:List Nat}{vs:List V}{srcs:List R}{items:List R}{N:List V->Hp->Prop}(hK : Γ.K=K)(wk:WalkOk Γ J vs srcs items)(hgk:GKeep fr g)(hg:RefG K g mg)(hc:RefT K tc c)(he:RefE K te e)(hM:M=mg.mu++(c.mu++e.mu))
  (hmu:∀ j∈M,j<fr.length) (ks:∀ e∈ens vs srcs,zia (muF fr M) e=true) {E2:List En} (kE:zm (muF fr M) E2=E2) {tsF:List T} {ρF:Rho} {acc0:List V} {ts0:List T} (hl0:acc0.length=ts0.length) (hz:acc0.length+items.length<sizeLine)
  (hf:frOk fr ρ.length=true) (S:Sim Γ H ρ σ (ens vs srcs++(temps acc0 ts0++E2))) (hr:zya fr M mg c e items ρ ts0=some (tsF,ρF))
  (q:∀ acc H',acc.length=tsF.length->acc.length<=acc0.length+items.length->ρF.length=ρ.length->Sim Γ H' ρF σ (ens vs srcs++(temps acc tsF++E2))->N acc H'):CompI J (inSt fr σ) g tc te acc0 H N:=by
 have kE2:∀ acc ts,zm (muF fr M) (ens vs srcs++(temps acc ts++E2))=ens vs srcs++(temps acc ts++E2):=fun acc ts=>by rw [zaa,zgd ks,zaa,zhd,kE]
 refine⟨fun i m acc H=>m=items.length - i/\i<=items.length/\acc.length<=acc0.length+i/\∃ ρ1 ts,zya fr M mg c e (items.drop i) ρ1 ts=some (tsF,ρF)/\acc.length=ts.length/\ρ1.length=ρ.length/\Sim Γ H ρ1 σ (ens vs srcs++(temps acc ts++E2)),⟨items.length,by simp,Nat.zero_le _,by omega,ρ,ts0,by simpa using hr,hl0,rfl,S⟩,?_⟩
 rintro i m acc H1 ⟨rfl,hil,hal,ρ1,ts,h1,hl,hρ,S1⟩
 refine⟨by omega,?_⟩
 obtain⟨w1,w2⟩:=wk H1 ρ1 σ _ S1
 by_cases hlt:i<items.length
 ·have hx:items[i]?=some items[i]:=by simp [hlt]
  obtain⟨w3,w4⟩:=w2 i _ hx
  rw [List.drop_eq_getElem_cons hlt,zya] at h1
  refine .inr ⟨w3,fun acc' H'=>acc'.length<=acc0.length+(i+1)/\∃ ρ1 ts,zya fr M mg c e (items.drop (i+1)) ρ1 ts=some (tsF,ρF)/\acc'.length=ts.length/\ρ1.length=ρ.length/\Sim Γ H' ρ1 σ (ens vs srcs++(temps acc' ts++E2)),fun acc' H' ⟨ha,ρ3,ts3,h3,hl3,hρ3,S3⟩=>⟨items.length - (i+1),by omega,rfl,hlt,ha,ρ3,ts3,h3,hl3,hρ3,S3⟩,fun x H2 y=>?_⟩
  have S2:=w4 x H2 y
  have hf1:frOk fr ρ1.length=true:=by rw [hρ];exact hf
  have S3:=S2.inn hf1
  rw [zde] at S3
  split at h1
  ·rename_i ρ2 e2
   refine hgk x (inSt fr σ) H2 (fun σ2 H3=>Kp fr (inSt fr σ) σ2->_) _ (fun σ2 H3 z kp=>z kp) ?_
   refine hg Γ H2 (inR fr ρ1) (inSt fr σ) _ _ x _ ρ2 hK e2 S3 fun σ2 H3 S4 kp=>?_
   split at h1
   ·rename_i ρ3 e3
    refine hc Γ H3 ρ2 σ2 _ _ true ρ3 hK e3 S4 fun H4 S5=>iteT ?_
    split at h1
    ·rename_i t ρ4 e4
     refine he Γ H4 ρ3 σ2 _ _ _ ρ4 hK e4 S5 fun w H5 S6=>?_
     rw [zh,zh] at S6
     rw [← hM] at S6
     have S7:Sim Γ H5 ρ4 σ2 (zm M (outE fr σ ρ1 (⟨none,w,⟨.ow,t⟩⟩::(ens vs srcs++(temps acc ts++E2))))):=by
      rw [zde,zx (show zia M (renE (piF fr) ⟨none,w,⟨.ow,t⟩⟩)=true from rfl)]
      exact S6
     have hl4 : ρ4.length=fr.length:=by rw [← S6.len,kp.1,zcc]
     have S8:=S7.outt hf1 hmu hl4 kp S1.al S1.len (fun e' he' j hj=>by
      rcases List.mem_cons.mp he' with rfl | he'
      ·cases hj
      ·exact S1.hi e' he' j hj)
     rw [zx (show zia (muF fr M) ⟨none,w,⟨.ow,t⟩⟩=true from rfl),kE2] at S8
     refine⟨by simp;omega,_,_,h1,by simp [hl],by rw [outR_len,hρ],?_⟩
     rw [temps_app hl,List.append_assoc]
     refine S8.perm ?_
     have pp:∀ (A B C:List En) (x:En),(x::(A++(B++C))).Perm (A++(B++(x::C))):=fun A B C x=>by
      rw [← List.append_assoc,← List.append_assoc]
      exact List.perm_middle.symm
     exact pp _ _ _ _
    ·cases h1
   ·rename_i ρ3 e3
    refine hc Γ H3 ρ2 σ2 _ _ false ρ3 hK e3 S4 fun H4 S5=>iteF ?_
    have S6:=S5.weak e.mu
    rw [zh,zh] at S6
    rw [← hM] at S6
    have hl4 : ρ3.length=fr.length:=by rw [← S6.len,kp.1,zcc]
    have S8:=S6.outt hf1 hmu hl4 kp S1.al S1.len S1.hi
    rw [kE2] at S8
    exact⟨by omega,_,_,h1,hl,by rw [outR_len,hρ],S8⟩
   ·cases h1
  ·cases h1
 ·have ei:i=items.length:=by omega
  subst ei
  rw [List.drop_length,zya] at h1
  cases h1
  exact .inl ⟨w1 _ (Nat.le_refl _),q acc H1 hl hal hρ S1⟩
noncomputable def ltAll (M:List Nat) (n:Nat):Bool:=M.all fun j=>decide (j<n)
theorem ltAll_lt {M:List Nat}{n:Nat}(h:ltAll M n=true):∀ j∈M,j<n:=fun j hj=>by
 have:=List.all_eq_true.mp h j hj
 simpa using this
@[irreducible] noncomputable def zrb (fr:List (Option Nat))(it:MI)(g:MG)(c:MT)(e:ME):ME:=⟨fun ρ=>match it.run ρ with
 | some ((srcs,items),ρ1)=>if (frOk fr ρ1.length && ltAll (g.mu++(c.mu++e.mu)) fr.length && srcs.all (alive (muF fr (g.mu++(c.mu++e.mu)))) && decide (items.length<sizeLine))=true then (match zya fr (g.mu++(c.mu++e.mu)) g c e items ρ1 [] with
  | some (ts,ρ2)=>some (⟨.ow,zmc ts⟩,ρ2)
  | none=>none) else none
 | none=>none,it.mu++muF fr (g.mu++(c.mu++e.mu))⟩
theorem ref_comp {wi:TI}{fr:List (Option Nat)}{g:TG}{tc:TT}{te:TE}{it:MI}{mg:MG}{c:MT}{e:ME}(hi:RefI K wi it)(hgk:GKeep fr g)(hg:RefG K g mg)(hc:RefT K tc c)(he:RefE K te e):RefE K (tComp wi fr g tc te) (zrb fr it mg c e):=by
 intro Γ H ρ σ E Q r ρ' hK hr S q
 simp only [zrb] at hr q
 split at hr
 ·rename_i srcs items ρ1 e1
  split at hr
  ·rename_i hb
   simp only [Bool.and_eq_true,decide_eq_true_eq] at hb
   obtain⟨⟨⟨b1,b2⟩,b3⟩,b5⟩:=hb
   split at hr
   ·rename_i ts ρ2 e2
    cases hr
    refine hi Γ H ρ σ E _ srcs items ρ1 hK e1 S fun J vs H1 hlv S1 wk=>?_
    rw [← zh] at q
    generalize zm it.mu E=E1 at q S1
    have ks:∀ e'∈ens vs srcs,zia (muF fr (mg.mu++(c.mu++e.mu))) e'=true:=ens_keep b3
    have S2:=S1.weak (muF fr (mg.mu++(c.mu++e.mu)))
    rw [zaa,zgd ks] at S2
    have kE:=zoc (M:=muF fr (mg.mu++(c.mu++e.mu))) (N:=muF fr (mg.mu++(c.mu++e.mu))) (fun j hj=>hj) E1
    generalize zm (muF fr (mg.mu++(c.mu++e.mu))) E1=E2 at q S2 kE
    refine comp_loop (acc0:=[]) (ts0:=[]) hK wk hgk hg hc he rfl (ltAll_lt b2) ks kE rfl (by simpa using b5) b1 S2 e2 fun acc H' hl _ _ S3 d hd=>?_
    exact q _ _ (S3.drops.mkL hl hd)
   ·cases hr
  ·cases hr
 ·cases hr
noncomputable def comp2Run (fr fr2:List (Option Nat)) (g:MG) (it2:MI) (g2:MG) (c:MT) (e:ME):List R->Rho->List T->Option (List T×Rho)
 | [],ρ,acc=>some (acc,ρ)
 | r::rs,ρ,acc=>match g.run (renR (piF fr) r) (inR fr ρ) with
  | some ρ1=>(match it2.run ρ1 with
   | some ((srcs2,items2),ρ2)=>if (frOk fr2 ρ2.length && (decide (srcs2.length=1) && srcs2.all (alive (muF fr2 (g2.mu++(c.mu++e.mu))))) && decide (acc.length+items2.length<sizeLine))=true then (match zya fr2 (g2.mu++(c.mu++e.mu)) g2 c e items2 ρ2 acc with
    | some (ts,ρ3)=>comp2Run fr fr2 g it2 g2 c e rs (outR fr (g.mu++(it2.mu++muF fr2 (g2.mu++(c.mu++e.mu)))) ρ3 ρ) ts
    | none=>none) else none
   | none=>none)
  | none=>none
@[irreducible] noncomputable def mComp2 (fr fr2:List (Option Nat))(it:MI)(g:MG)(it2:MI)(g2:MG)(c:MT)(e:ME):ME:=⟨fun ρ=>match it.run ρ with
 | some ((srcs,items),ρ1)=>if (frOk fr ρ1.length && ltAll (g.mu++(it2.mu++muF fr2 (g2.mu++(c.mu++e.mu)))) fr.length && ltAll (g2.mu++(c.mu++e.mu)) fr2.length && (decide (srcs.length=1) && srcs.all (alive (muF fr (g.mu++(it2.mu++muF fr2 (g2.mu++(c.mu++e.mu))))))))=true then (match comp2Run fr fr2 g it2 g2 c e items ρ1 [] with
  | some (ts,ρ2)=>if ts.length<sizeLine then some (⟨.ow,zmc ts⟩,ρ2) else none
  | none=>none) else none
 | none=>none,it.mu++muF fr (g.mu++(it2.mu++muF fr2 (g2.mu++(c.mu++e.mu))))⟩
theorem zwe {fr:List (Option Nat)}{M:List Nat}{g:MG}{c:MT}{e:ME}:∀ {items:List R} {ρ:Rho} {acc ts:List T} {ρ':Rho},zya fr M g c e items ρ acc=some (ts,ρ')->acc.length<=ts.length
 | [],ρ,acc,ts,ρ',h=>by cases h;exact Nat.le_refl _
 | r::rs,ρ,acc,ts,ρ',h=>by
  rw [zya] at h
  split at h
  ·split at h
   ·split at h
    ·have:=zwe h;simp at this;omega
    ·cases h
   ·exact zwe h
   ·cases h
  ·cases h
theorem comp2Run_len {fr fr2:List (Option Nat)}{g:MG}{it2:MI}{g2:MG}{c:MT}{e:ME}:∀ {items:List R} {ρ:Rho} {acc ts:List T} {ρ':Rho},comp2Run fr fr2 g it2 g2 c e items ρ acc=some (ts,ρ')->acc.length<=ts.length
 | [],ρ,acc,ts,ρ',h=>by cases h;exact Nat.le_refl _
 | r::rs,ρ,acc,ts,ρ',h=>by
  rw [comp2Run] at h
  split at h
  ·split at h
   ·split at h
    ·split at h
     ·rename_i e1;exact Nat.le_trans (zwe e1) (comp2Run_len h)
     ·cases h
    ·cases h
   ·cases h
  ·cases h
theorem ref_comp2 {wi wi2:TI}{fr fr2:List (Option Nat)}{g g2:TG}{tc:TT}{te:TE}{it it2:MI}{mg mg2:MG}{c:MT}{e:ME}(hi:RefI K wi it)(hgk:GKeep fr g)(hg:RefG K g mg)(hi2:RefI K wi2 it2)(hgk2:GKeep fr2 g2)(hg2:RefG K g2 mg2)(hc:RefT K tc c)(he:RefE K te e):RefE K (tComp2 wi fr g wi2 fr2 g2 tc te) (mComp2 fr fr2 it mg it2 mg2 c e):=by
 intro Γ H ρ σ E Q r ρ' hK hr S q
 simp only [mComp2] at hr q
 split at hr
 ·rename_i srcs items ρ1 e1
  split at hr
  ·rename_i hb
   simp only [Bool.and_eq_true,decide_eq_true_eq] at hb
   obtain⟨⟨⟨b1,b2⟩,b3⟩,b5,b4⟩:=hb
   obtain⟨src,rfl⟩:=List.length_eq_one_iff.mp b5
   rw [List.all_cons,List.all_nil,Bool.and_true] at b4
   split at hr
   ·rename_i tsF ρF e2
    split at hr
    ·rename_i hz
     cases hr
     refine hi Γ H ρ σ E _ [src] items ρ1 hK e1 S fun J vs H1 hlv S1 wk=>?_
     obtain⟨v,rfl⟩:=List.length_eq_one_iff.mp hlv
     replace S1:Sim Γ H1 ρ1 σ (⟨none,v,src⟩::zm it.mu E):=S1
     rw [← zh] at q
     generalize hM2:mg2.mu++(c.mu++e.mu)=M2 at *
     generalize hM:mg.mu++(it2.mu++muF fr2 M2)=M at *
     generalize zm it.mu E=E1 at q S1
     have ks:zia (muF fr M) ⟨none,v,src⟩=true:=b4
     have S2:=S1.weak (muF fr M)
     rw [zx ks] at S2
     have kE:=zoc (M:=muF fr M) (N:=muF fr M) (fun j hj=>hj) E1
     generalize zm (muF fr M) E1=E2 at q S2 kE
     have kE2:∀ acc ts,zm (muF fr M) (⟨none,v,src⟩::(temps acc ts++E2))=⟨none,v,src⟩::(temps acc ts++E2):=fun acc ts=>by rw [zx ks,zaa,zhd,kE]
     refine⟨fun i m acc H=>m=items.length - i/\i<=items.length/\∃ ρ2 ts,comp2Run fr fr2 mg it2 mg2 c e (items.drop i) ρ2 ts=some (tsF,ρ')/\acc.length=ts.length/\ρ2.length=ρ1.length/\Sim Γ H ρ2 σ (⟨none,v,src⟩::(temps acc ts++E2)),⟨items.length,by simp,Nat.zero_le _,ρ1,[],by simpa using e2,rfl,rfl,S2⟩,?_⟩
     rintro i m acc H2 ⟨rfl,hil,ρ2,ts,h1,hl,hρ,S3⟩
     have:=comp2Run_len h1
     refine⟨by omega,?_⟩
     obtain⟨w1,w2⟩:=wk H2 ρ2 σ _ S3
     by_cases hlt:i<items.length
     ·have hx:items[i]?=some items[i]:=by simp [hlt]
      obtain⟨w3,w4⟩:=w2 i _ hx
      rw [List.drop_eq_getElem_cons hlt,comp2Run] at h1
      refine .inr ⟨w3,fun acc' H'=>∃ ρ2 ts,comp2Run fr fr2 mg it2 mg2 c e (items.drop (i+1)) ρ2 ts=some (tsF,ρ')/\acc'.length=ts.length/\ρ2.length=ρ1.length/\Sim Γ H' ρ2 σ (⟨none,v,src⟩::(temps acc' ts++E2)),fun acc' H' ⟨ρ3,ts3,h3,hl3,hρ3,S3⟩=>⟨items.length - (i+1),by omega,rfl,hlt,ρ3,ts3,h3,hl3,hρ3,S3⟩,fun x H3 y=>?_⟩
      have S4:Sim Γ H3 ρ2 σ (⟨none,x,items[i]⟩::⟨none,v,src⟩::(temps acc ts++E2)):=w4 x H3 y
      have hf1:frOk fr ρ2.length=true:=by rw [hρ];exact b1
      have S5:=S4.inn hf1
      rw [zde] at S5
      split at h1
      ·rename_i ρ3 e3
       refine hgk x (inSt fr σ) H3 (fun σ2 H4=>Kp fr (inSt fr σ) σ2->_) _ (fun σ2 H4 z kp=>z kp) ?_
       refine hg Γ H3 (inR fr ρ2) (inSt fr σ) _ _ x _ ρ3 hK e3 S5 fun σ2 H4 S6 kp=>?_
       split at h1
       ·rename_i srcs2 items2 ρ4 e4
        split at h1
        ·rename_i hb2
         rw [hM2] at hb2
         simp only [Bool.and_eq_true,decide_eq_true_eq] at hb2
         obtain⟨⟨c1,c4,c2⟩,c3⟩:=hb2
         obtain⟨src2,rfl⟩:=List.length_eq_one_iff.mp c4
         rw [List.all_cons,List.all_nil,Bool.and_true] at c2
         split at h1
         ·rename_i ts3 ρ5 e5
          rw [hM2] at e5 h1
          refine hi2 Γ H4 ρ3 σ2 _ _ [src2] items2 ρ4 hK e4 S6 fun J2 vs2 H5 hlv2 S7 wk2=>?_
          obtain⟨v2,rfl⟩:=List.length_eq_one_iff.mp hlv2
          rw [show ens [v2] [src2] = [⟨none,v2,src2⟩] from rfl,List.singleton_append] at S7
          rw [zh] at S7
          have ks2:zia (muF fr2 M2) ⟨none,v2,src2⟩=true:=c2
          have eo:zm (mg.mu++it2.mu) (outE fr σ ρ2 (⟨none,v,src⟩::(temps acc ts++E2)))=zm (mg.mu++it2.mu) (renE (piF fr) ⟨none,v,src⟩::(temps acc ts++outE fr σ ρ2 E2)):=by
           congr 1
           rw [zde]
           congr 1
           unfold outE
           rw [List.append_assoc,List.map_append]
           congr 1
           have:∀ {vs:List V} {ts:List T},(temps vs ts).map (renE (piF fr))=temps vs ts:=by
            intro vs
            induction vs with
            | nil=>intro ts;cases ts<;>rfl
            | cons a vs ih=>
             intro ts
             cases ts with
             | nil=>rfl
             | cons b ts=>rw [temps,List.map_cons,ih];rfl
           exact this
          have S8:=S7.weak (muF fr2 M2)
          rw [zx ks2,eo,zh] at S8
          have pm:(⟨none,v2,src2⟩::zm (mg.mu++it2.mu++muF fr2 M2) (renE (piF fr) ⟨none,v,src⟩::(temps acc ts++outE fr σ ρ2 E2))).Perm (⟨none,v2,src2⟩::(temps acc ts++zm (mg.mu++it2.mu++muF fr2 M2) (renE (piF fr) ⟨none,v,src⟩::outE fr σ ρ2 E2))):=by
           refine List.Perm.cons _ ?_
           have e9:zm (mg.mu++it2.mu++muF fr2 M2) (temps acc ts++(renE (piF fr) ⟨none,v,src⟩::outE fr σ ρ2 E2))=temps acc ts++zm (mg.mu++it2.mu++muF fr2 M2) (renE (piF fr) ⟨none,v,src⟩::outE fr σ ρ2 E2):=by rw [zaa,zhd]
           rw [← e9]
           exact List.Perm.filter _ List.perm_middle.symm
          have S9:=S8.perm pm
          have kE9:=zoc (M:=mg.mu++it2.mu++muF fr2 M2) (N:=muF fr2 M2) (fun j hj=>List.mem_append_right _ hj) (renE (piF fr) ⟨none,v,src⟩::outE fr σ ρ2 E2)
          refine comp_loop (H:=H5) (ρ:=ρ4) (σ:=σ2) (E2:=zm (mg.mu++it2.mu++muF fr2 M2) (renE (piF fr) ⟨none,v,src⟩::outE fr σ ρ2 E2)) (acc0:=acc) (ts0:=ts) hK wk2 hgk2 hg2 hc he hM2.symm (ltAll_lt b3) (fun e' he'=>by rcases List.mem_singleton.mp he' with rfl;exact ks2) kE9 hl (by rw [hl];exact c3) c1 S9 e5 fun acc' H6 hl' _ hρ5 S10=>?_
          refine⟨_,ts3,h1,hl',by rw [outR_len,hρ],?_⟩
          have S11:=S10.drop rfl
          have em:mg.mu++it2.mu++muF fr2 M2=M:=by rw [← hM,List.append_assoc]
          have pm2:(temps acc' ts3++zm (mg.mu++it2.mu++muF fr2 M2) (renE (piF fr) ⟨none,v,src⟩::outE fr σ ρ2 E2)).Perm (zm M (outE fr σ ρ2 (⟨none,v,src⟩::(temps acc' ts3++E2)))):=by
           have e10:outE fr σ ρ2 (⟨none,v,src⟩::(temps acc' ts3++E2))=renE (piF fr) ⟨none,v,src⟩::(temps acc' ts3++outE fr σ ρ2 E2):=by
            rw [zde]
            congr 1
            unfold outE
            rw [List.append_assoc,List.map_append]
            congr 1
            have:∀ {vs:List V} {ts:List T},(temps vs ts).map (renE (piF fr))=temps vs ts:=by
             intro vs
             induction vs with
             | nil=>intro ts;cases ts<;>rfl
             | cons a vs ih=>
              intro ts
              cases ts with
              | nil=>rfl
              | cons b ts=>rw [temps,List.map_cons,ih];rfl
            exact this
           rw [em,e10]
           have e11:zm M (temps acc' ts3++(renE (piF fr) ⟨none,v,src⟩::outE fr σ ρ2 E2))=temps acc' ts3++zm M (renE (piF fr) ⟨none,v,src⟩::outE fr σ ρ2 E2):=by rw [zaa,zhd]
           rw [← e11]
           exact List.Perm.filter _ List.perm_middle
          have S12:=S11.perm pm2
          have hl5 : ρ5.length=fr.length:=by rw [← S12.len,kp.1,zcc]
          have tk:∀ {vs:List V} {ts:List T} {e':En},e'∈temps vs ts->e'.key=none:=by
           intro vs
           induction vs with
           | nil=>intro ts e' h;cases ts<;>cases h
           | cons a vs ih=>
            intro ts e' h
            cases ts with
            | nil=>cases h
            | cons b ts=>
             rcases List.mem_cons.mp h with rfl | h
             ·rfl
             ·exact ih h
          have S13:=S12.outt hf1 (ltAll_lt b2) hl5 kp S3.al S3.len (fun e' he' j hj=>by
           rcases List.mem_cons.mp he' with rfl | he'
           ·cases hj
           ·rcases List.mem_append.mp he' with he' | he'
            ·rw [tk he'] at hj;cases hj
            ·exact S3.hi e' (List.mem_cons_of_mem _ (List.mem_append_right _ he')) j hj)
          rw [kE2] at S13
          rw [hM]
          exact S13
         ·cases h1
        ·cases h1
       ·cases h1
      ·cases h1
     ·have ei:i=items.length:=by omega
      subst ei
      rw [List.drop_length,comp2Run] at h1
      cases h1
      exact .inl ⟨w1 _ (Nat.le_refl _),fun d hd=>q _ _ ((S3.drop rfl).mkL hl hd)⟩
    ·cases hr
   ·cases hr
  ·cases hr
 ·cases hr
end
end L2
namespace L2
open PySem PySem.Spec PyProof.Rows
section
variable  {Γ:Gm}{H H':Hp}{L:List Hd}{ρ:Rho}{σ:St}{E X:List En}{v w x y:V}{t s:T}{K:PySem.W.Frag}{Q:VK}
theorem GW.stepN {hs ns:List Hd}(G:GW Γ H (hs++L))(ho:∀ h∈hs,h.e.r.k.isOw=true)(hr:∀ g∈L,∀ h∈hs,∀ j,h.e.key=some j->g.e.r.k.root≠some j)
  (off:OffM (hs.flatMap (·.F)) H H') (dom:∀ a∈hs.flatMap (·.F),∃ o,H' a=some o) (nd:(ns.flatMap (·.F)).Nodup) (hF:∀ a∈ns.flatMap (·.F),(a∈hs.flatMap (·.F) ∨ H a=none)/\Mu H' a) (hp:∀ n∈ns,Rp Γ.K H' n.e.r.t n.e.v n.F)
  (hk:∀ n∈ns,(n.e.r.k = .ow/\∀ a∈n.F,H a=none ∨ ∃ h∈hs,h.e.r.k = .ow/\a∈h.F) ∨ ∃ k,n.e.r.k = .io k/\Γ.iov[k]?=some n.e.v) (hkey:((ns++L).filterMap fun h=>h.e.key).Nodup):GW Γ H' (ns++L):=by
 have iow:∀ n∈ns,n.e.r.k.isOw=true:=fun n hn=>by rcases hk n hn with⟨e,_⟩ | ⟨k,e,_⟩<;>rw [e]<;>rfl
 have eo:=own_eq ho
 have en:=own_eq iow
 have G':=G.nd
 rw [List.flatMap_append,eo] at G'
 have nd1:=(List.nodup_append.mp G').2.1
 have dj:=(List.nodup_append.mp G').2.2
 have adL:∀ a∈L.flatMap Hd.own,Mu H a/\(Γ.H0 a=none ∨ a ∈ Γ.io):=fun a ha=>G.ad a (by rw [List.flatMap_append];exact List.mem_append_right _ ha)
 have adM:∀ a∈hs.flatMap (·.F),Mu H a/\(Γ.H0 a=none ∨ a ∈ Γ.io):=fun a ha=>G.ad a (by rw [List.flatMap_append,eo];exact List.mem_append_left _ ha)
 have ap:=G.apart hr ho
 have apM:∀ g∈L,∀ a∈g.F,a ∉ hs.flatMap (·.F):=fun g hg a ha hm=>by
  obtain⟨h,hh,hah⟩:=List.mem_flatMap.mp hm
  exact ap g hg a ha h hh hah
 refine⟨?_,fun a ha=>?_,fun x hx=>?_,fun x hx=>?_,hkey,fun b o e n=>?_,fun a ha=>?_⟩
 ·rw [List.flatMap_append,en]
  refine List.nodup_append.mpr ⟨nd,nd1,fun a ha b hb=>?_⟩
  rintro rfl
  rcases (hF a ha).1 with z | z
  ·exact dj a z a hb rfl
  ·obtain⟨o,e,_⟩:=(adL a hb).1
   rw [z] at e;cases e
 ·rw [List.flatMap_append,en] at ha
  rcases List.mem_append.mp ha with ha | ha
  ·refine⟨(hF a ha).2,?_⟩
   rcases (hF a ha).1 with z | z
   ·exact (adM a z).2
   ·exact .inl (G.new0 z)
  ·obtain⟨⟨o,e,m⟩,z⟩:=adL a ha
   exact⟨⟨o,off a o e fun hm=>dj a hm a ha rfl,m⟩,z⟩
 ·rcases List.mem_append.mp hx with hx | hx
  ·exact hp x hx
  ·exact (G.rp x (List.mem_append_right _ hx)).off off (fun a ha=>(adM a ha).1) (apM x hx)
 ·rcases List.mem_append.mp hx with hx | hx
  ·unfold KdOk
   rcases hk x hx with⟨e,eh⟩ | ⟨k,e,ek⟩
   ·simp only [e]
    intro a ha
    rcases eh a ha with z | ⟨h,hh,he,hah⟩
    ·exact G.new0 z
    ·have q:=G.kd h (List.mem_append_left _ hh)
     unfold KdOk at q
     rw [he] at q
     exact q a hah
   ·simp only [e];exact ek
  ·have k:=G.kd x (List.mem_append_right _ hx)
   have st:∀ a∈x.F,a ∉ (hs++L).flatMap Hd.own->a ∉ (ns++L).flatMap Hd.own:=fun a ha n z=>by
    rw [List.flatMap_append,en] at z
    rcases List.mem_append.mp z with z | z
    ·rcases (hF a z).1 with w | w
     ·exact n (by rw [List.flatMap_append,eo];exact List.mem_append_left _ w)
     ·obtain⟨o,e⟩:=(G.rp x (List.mem_append_right _ hx)).dom a ha
      rw [w] at e;cases e
    ·exact n (by rw [List.flatMap_append];exact List.mem_append_right _ z)
   unfold KdOk at k ⊢
   split at k
   ·exact k
   ·exact k
   ·exact fun a ha=>st a ha (k a ha)
   ·rename_i j p e
    obtain⟨g,h1,h2,h3,h4,h5⟩:=k
    rcases List.mem_append.mp h1 with hg | hg
    ·exact absurd (by rw [e];rfl) (hr x hx g hg j h2)
    ·refine⟨g,List.mem_append_right _ hg,h2,h3,fun a ha=>(h4 a ha).imp id (st a ha),fun q hq=>⟨(h5 q hq).1,?_⟩⟩
     exact atP_off off (F:=g.F) (apM g hg) (G.muF (List.mem_append_right _ hg) h3) (fun a ha=>ha) (G.ndF (List.mem_append_right _ hg) h3) (G.rp g (List.mem_append_right _ hg)) (h5 q hq).1 (h5 q hq).2
 ·refine off b o (G.fr b o e n) fun hm=>?_
  rcases (adM b hm).2 with z | z
  ·rw [z] at e;cases e
  ·exact n z
 ·obtain⟨o,e⟩:=G.iol a ha
  by_cases hm:a∈hs.flatMap (·.F)
  ·exact dom a hm
  ·exact⟨o,off a o e hm⟩
theorem GW.uniq (g:GW Γ H L){x z:Hd}{i:Nat}(x1:x∈L)(hz:z∈L)(x2:x.e.key=some i)(z2:z.e.key=some i):x=z:=by
 have nk:=g.ks
 by_cases q:x=z
 ·exact q
 ·exfalso
  obtain⟨A,B,rfl⟩:=List.append_of_mem x1
  rw [List.filterMap_append,List.filterMap_cons,x2] at nk
  rcases List.mem_append.mp hz with hz | hz
  ·exact (List.nodup_append.mp nk).2.2 i (List.mem_filterMap.mpr ⟨z,hz,z2⟩) i List.mem_cons_self rfl
  ·rcases List.mem_cons.mp hz with hz | hz
   ·exact q hz.symm
   ·exact (List.nodup_cons.mp (List.nodup_append.mp nk).2.1).1 (List.mem_filterMap.mpr ⟨z,hz,z2⟩)
theorem Sim.place {i:Nat}{p:List Ac}{r:R}{v0:V}(S:Sim Γ H ρ σ E)(he:(⟨none,w,⟨.vw (some i) (some p),s⟩⟩:En)∈E)(h : ρ[i]?=some (some r))(hv : σ[i]?=some (some v0)):r.t.sub p=some s/\atP Γ.K H v0 p w:=by
 obtain⟨v1,hv1,hm⟩:=S.slot h
 rw [hv] at hv1;cases hv1
 obtain⟨L,g,e⟩:=S.sl
 have h1:(⟨none,w,⟨.vw (some i) (some p),s⟩⟩:En)∈L.map (·.e):=by rw [e];exact List.mem_append_left _ he
 obtain⟨y,hy,ey⟩:=List.mem_map.mp h1
 have kd:=g.kd y hy
 unfold KdOk at kd
 rw [ey] at kd
 obtain⟨x,x1,x2,x3,x4,x5⟩:=kd
 have hm':(⟨some i,v0,r⟩:En)∈L.map (·.e):=by rw [e];exact hm
 obtain⟨z,hz,ez⟩:=List.mem_map.mp hm'
 have:=g.uniq x1 hz x2 (by rw [ez])
 subst this
 have:=x5 p rfl
 rw [ez] at this
 exact this
theorem SimL.dropsN:∀ {A X:List En},SimL Γ H (A++X)->(∀ e∈A,e.key=none)->SimL Γ H X
 | [],_,S,_=>S
 | a::A,X,S,h=>SimL.dropsN (SimL.drop S (h a List.mem_cons_self)) fun e he=>h e (List.mem_cons_of_mem _ he)
theorem ens_get:∀ {vs:List V} {rs:List R} {m:Nat} {r:R} {x:V},rs[m]?=some r->vs[m]?=some x->(⟨none,x,r⟩:En)∈ens vs rs
 | [],_,m,_,_,_,h=>by simp at h
 | _::_,[],m,_,_,h,_=>by simp at h
 | v::vs,r0::rs,0,r,x,h1,h2=>by simp at h1 h2;subst h1 h2;exact List.mem_cons_self
 | v::vs,r0::rs,m+1,r,x,h1,h2=>List.mem_cons_of_mem _ (ens_get (by simpa using h1) (by simpa using h2))
theorem ens_key:∀ {vs:List V} {rs:List R} {e:En},e∈ens vs rs->e.key=none
 | [],rs,e,h=>by cases rs<;>cases h
 | _::_,[],e,h=>by cases h
 | v::vs,r::rs,e,h=>by
  rcases List.mem_cons.mp h with rfl | h
  ·rfl
  ·exact ens_key h
theorem Sim.io {vs:List V}{rs:List R}{k i:Nat}{p:List Ac}{kd:Kd}{t0:T}(S:Sim Γ H ρ σ (ens vs rs++E))(hk:rs[k]?=some ⟨.vw (some i) (some p),s⟩)(hw:vs[k]?=some w)(hal:∀ m r,m≠k->rs[m]?=some r->alive [i] r=true)(h : ρ[i]?=some (some ⟨kd,t0⟩))(ho:kd.isOw=true) :
  ∃ G,Rp Γ.K H s w G/\G.Nodup/\(∀ a∈G,Mu H a)/\(∀ m r x,m≠k->rs[m]?=some r->vs[m]?=some x->∃ F,Rp Γ.K H r.t x F/\∀ a∈F,a ∉ G) ∧
  ∀ H' s' v t F G',OffM G H H'->(∀ a∈G,∃ o,H' a=some o)->(F++G').Nodup->(∀ a∈F,H a=none/\Mu H' a)->(∀ a∈G',(a∈G ∨ H a=none)/\Mu H' a)->Rp Γ.K H' s' w G'->Rp Γ.K H' t v F->Sim Γ H' ((zy [i] ρ).set i (some ⟨kd,t0.put p s'⟩)) σ (⟨none,v,⟨.ow,t⟩⟩::zm [i] E):=by
 have hil:i < ρ.length:=(List.getElem?_eq_some_iff.mp h).1
 obtain⟨v0,hv0,h1,h2,h3⟩:=S.out h ho
 have pl:=S.place (List.mem_append_left _ (ens_get hk hw)) h hv0
 obtain⟨L,g,eL⟩:=h1
 obtain⟨x,L',rfl,ex,eL'⟩:=zba eL
 have hox:x.e.r.k.isOw=true:=by rw [ex];exact ho
 have nx:=g.ndF List.mem_cons_self hox
 have mx:=g.muF List.mem_cons_self hox
 have hsub:x.e.r.t.sub p=some s:=by rw [ex];exact pl.1
 obtain⟨w',A,G,B,z1,z2,z3,z4⟩:=(g.rp x List.mem_cons_self).atP mx nx hsub
 have ew:w'=w:=by rw [ex] at z1;exact atP_det z1 pl.2
 subst ew
 have inG:∀ a∈G,a∈x.F:=fun a ha=>by rw [z3];exact List.mem_append_left _ (List.mem_append_right _ ha)
 have ndx:=nx
 rw [z3] at ndx
 have ndA:=List.nodup_append.mp ndx
 have ndG:=List.nodup_append.mp ndA.1
 have keyL:∀ g∈L',g.e.key≠some i:=fun y hy=>h3 y.e (by rw [← eL'];exact List.mem_map_of_mem hy)
 have rootL:∀ g∈L',g.e.r.k.root≠some i:=fun y hy=>h2 y.e (by rw [← eL'];exact List.mem_map_of_mem hy)
 have ap:=GW.apart (hs:=[x]) (L:=L') g (fun y hy z hz j hj=>by rw [List.mem_singleton.mp hz,ex] at hj;cases hj;exact rootL y hy) (fun z hz=>by rw [List.mem_singleton.mp hz];exact hox)
 refine⟨G,z2,ndG.2.1,fun a ha=>mx a (inG a ha),fun m r y hm hr hy=>?_,fun H' s' v t F G' off dom nd hF hG rp' rpt=>?_⟩
 ·have hmem:(⟨none,y,r⟩:En)∈zm [i] (ens vs rs++E):=List.mem_filter.mpr ⟨List.mem_append_left _ (ens_get hr hy),hal m r hm hr⟩
  have hmem2:(⟨none,y,r⟩:En)∈L'.map (·.e):=by rw [eL'];exact List.mem_append_left _ hmem
  obtain⟨z,hz,ez⟩:=List.mem_map.mp hmem2
  have rz:=g.rp z (List.mem_cons_of_mem _ hz)
  rw [ez] at rz
  exact⟨z.F,rz,fun a ha hg=>ap z hz a ha x List.mem_cons_self (inG a hg)⟩
 ·have apAB:∀ a,(a∈A ∨ a∈B)->a ∉ G:=fun a ha hm=>by
   rcases ha with q | q
   ·exact ndG.2.2 a q a hm rfl
   ·exact ndA.2.2 a (List.mem_append_right _ hm) a q rfl
  have inAB:∀ a,(a∈A ∨ a∈B)->a∈x.F:=fun a ha=>by
   rw [z3]
   rcases ha with q | q
   ·exact List.mem_append_left _ (List.mem_append_left _ q)
   ·exact List.mem_append_right _ q
  have rp2:=z4 H' s' G' off rp'
  have nFG:=List.nodup_append.mp nd
  have oldAB:∀ a,(a∈A ∨ a∈B)->H a≠none:=fun a ha z=>by obtain⟨o,e1,_⟩:=mx a (inAB a ha);rw [z] at e1;cases e1
  have nG':∀ a,(a∈A ∨ a∈B)->a ∉ G':=fun a ha hg=>by
   rcases (hG a hg).1 with z | z
   ·exact apAB a ha z
   ·exact oldAB a ha z
  have ndR:(A++G'++B).Nodup:=by
   refine List.nodup_append.mpr ⟨List.nodup_append.mpr ⟨ndG.1,nFG.2.1,fun a ha b hb e=>nG' a (.inl ha) (e ▸ hb)⟩,ndA.2.1,fun a ha b hb e=>?_⟩
   subst e
   rcases List.mem_append.mp ha with z | z
   ·exact ndA.2.2 a (List.mem_append_left _ z) a hb rfl
   ·exact nG' a (.inr hb) z
  have memR:∀ a∈A++G'++B,(a∈x.F ∨ H a=none)/\Mu H' a:=fun a ha=>by
   have old:a∈A ∨ a∈B->(a∈x.F ∨ H a=none)/\Mu H' a:=fun q=>by
    obtain⟨o,e1,m1⟩:=mx a (inAB a q)
    exact⟨.inl (inAB a q),o,off a o e1 (apAB a q),m1⟩
   rcases List.mem_append.mp ha with z | z
   ·rcases List.mem_append.mp z with z | z
    ·exact old (.inl z)
    ·exact⟨(hG a z).1.imp (inG a) id,(hG a z).2⟩
   ·exact old (.inr z)
  have st:=GW.stepN (hs:=[x]) (L:=L') (H':=H') (ns:=[⟨⟨none,v,⟨.ow,t⟩⟩,F⟩,⟨⟨some i,v0,⟨kd,t0.put p s'⟩⟩,A++G'++B⟩]) g (fun z hz=>by rw [List.mem_singleton.mp hz];exact hox) (fun y hy z hz j hj=>by rw [List.mem_singleton.mp hz,ex] at hj;cases hj;exact rootL y hy)
   (by simpa using off.mono inG) (fun a ha=>by
    have ha':a∈x.F:=by simpa using ha
    by_cases hg:a∈G
    ·exact dom a hg
    ·obtain⟨o,e1,_⟩:=mx a ha';exact⟨o,off a o e1 hg⟩)
   (by
    simp only [List.flatMap_cons,List.flatMap_nil,List.append_nil]
    refine List.nodup_append.mpr ⟨nFG.1,ndR,fun a ha b hb e=>?_⟩
    subst e
    rcases List.mem_append.mp hb with z | z
    ·rcases List.mem_append.mp z with z | z
     ·exact oldAB a (.inl z) (hF a ha).1
     ·exact nFG.2.2 a ha a z rfl
    ·exact oldAB a (.inr z) (hF a ha).1)
   (fun a ha=>by
    simp only [List.flatMap_cons,List.flatMap_nil,List.append_nil] at ha ⊢
    rcases List.mem_append.mp ha with z | z
    ·exact⟨.inr (hF a z).1,(hF a z).2⟩
    ·exact memR a z)
   (fun n hn=>by
    rcases List.mem_cons.mp hn with rfl | hn
    ·exact rpt
    ·rw [List.mem_singleton.mp hn];rw [ex] at rp2;exact rp2)
   (fun n hn=>by
    rcases List.mem_cons.mp hn with rfl | hn
    ·exact .inl ⟨rfl,fun a ha=>.inl (hF a ha).1⟩
    ·rw [List.mem_singleton.mp hn]
     have kx:=g.kd x List.mem_cons_self
     unfold KdOk at kx
     rw [ex] at kx
     cases kd with
     | ow=>exact .inl ⟨rfl,fun a ha=>(memR a ha).1.elim (fun z=>.inr ⟨x,List.mem_cons_self,by rw [ex],z⟩) .inl⟩
     | io n=>exact .inr ⟨n,rfl,kx⟩
     | vw a b=>cases ho)
   (by
    have ks:=g.ks
    rw [List.filterMap_cons,ex] at ks
    exact ks)
  have S2:=S.kill [i]
  have SL:SimL Γ H' (⟨none,v,⟨.ow,t⟩⟩::⟨some i,v0,⟨kd,t0.put p s'⟩⟩::(zm [i] (ens vs rs++E)++ents 0 σ ((zy [i] ρ).set i none))):=⟨_,st,by rw [List.map_append,eL'];rfl⟩
  have SL2:SimL Γ H' (⟨none,v,⟨.ow,t⟩⟩::⟨some i,v0,⟨kd,t0.put p s'⟩⟩::(zm [i] E++ents 0 σ ((zy [i] ρ).set i none))):=by
   rw [zaa,List.append_assoc] at SL
   have pp:(⟨none,v,⟨.ow,t⟩⟩::⟨some i,v0,⟨kd,t0.put p s'⟩⟩::(zm [i] (ens vs rs)++(zm [i] E++ents 0 σ ((zy [i] ρ).set i none)))).Perm (zm [i] (ens vs rs)++(⟨none,v,⟨.ow,t⟩⟩::⟨some i,v0,⟨kd,t0.put p s'⟩⟩::(zm [i] E++ents 0 σ ((zy [i] ρ).set i none)))):=by
    refine List.Perm.trans ?_ (List.perm_middle.symm)
    refine List.Perm.cons _ ?_
    exact List.perm_middle.symm
   exact (SL.perm pp).dropsN fun e he=>ens_key (List.mem_filter.mp he).1
  refine S2.back (E':=⟨none,v,⟨.ow,t⟩⟩::zm [i] E) (SL2.perm ?_) (by simp [zca]) rfl (fun m r' hm=>?_) (fun e he j hj=>?_)
  ·have pq:=(ents_put (k:=0) (σ:=σ) (ρ:=zy [i] ρ) (v:=v0) (r:=⟨kd,t0.put p s'⟩) (by rw [S.len];exact hil) (by rw [zca];exact hil)).append_left (zm [i] E)
   rw [Nat.zero_add] at pq
   have eσ : σ.set i (some v0)=σ:=by
    apply List.ext_getElem?
    intro m
    by_cases hm:m=i
    ·subst hm;rw [hv0];simp [S.len,hil]
    ·rw [List.getElem?_set_ne (Ne.symm hm)]
   rw [eσ] at pq
   rw [List.cons_append]
   exact List.Perm.cons _ ((List.perm_middle.symm).trans pq.symm)
  ·by_cases e:m=i
   ·subst e;exact⟨v0,hv0⟩
   ·rw [List.getElem?_set_ne (Ne.symm e)] at hm;exact S2.al m r' hm
  ·rcases List.mem_cons.mp he with rfl | he
   ·cases hj
   ·rw [zaa];exact List.mem_append_right _ he
noncomputable def spP (K:PySem.W.Frag) (run:List T->Option T):Sp:=fun vs H Q _=>∃ ts t,Rpxs K H ts vs/\run ts=some t/\∀ v H',New K H H' t v->Q v H'
noncomputable def spI (K:PySem.W.Frag) (k:Nat) (run:List T->Option (T×T)):Sp:=fun vs H Q _=>∃ ts s w G t s',vs.length=ts.length/\vs[k]?=some w/\ts[k]?=some s/\Rp K H s w G/\G.Nodup/\(∀ a∈G,Mu H a)/\(∀ (m:Nat) x u,m≠k->vs[m]?=some x->ts[m]?=some u->∃ F,Rp K H u x F/\∀ a∈F,a ∉ G)/\run ts=some (t,s') ∧
 ∀ v H' F G',OffM G H H'->(∀ a∈G,∃ o,H' a=some o)->(F++G').Nodup->(∀ a∈F,H a=none/\Mu H' a)->(∀ a∈G',(a∈G ∨ H a=none)/\Mu H' a)->Rp K H' s' w G'->Rp K H' t v F->Q v H'
theorem ref_callP {run:List T->Option T}{ta:TA}{a:MA}(ha:RefA K ta a):RefE K (tCall (spP K run) [] E0 ta) (mB run a):=by
 have e:tCall (spP K run) [] E0 ta=tCB (fun vs H Q=>spP K run vs H Q E0) ta:=by
  funext σ H Q
  show (ta σ H fun vs H1=>spP K run (vs++[]) H1 Q E0)=_
  simp only [List.append_nil]
  rfl
 rw [e]
 exact ref_B (fun H vs ts t Q r e q=>⟨ts,t,r,e,q⟩) ha
@[irreducible] noncomputable def zr (k j:Nat)(run:List T->Option (T×T))(a:MA):ME:=⟨fun ρ=>match a.run ρ with
 | some (rs,ρ1)=>(match rs[k]? with
  | some ⟨.vw (some i) (some p),_⟩=>if (decide (i=j) && (List.range rs.length).all fun m=>decide (m=k) || alive [j] (rs.getD m ⟨.ow,.im .non⟩))=true then (match run (rs.map (·.t)) with
   | some (t,s')=>(match ρ1[j]? with
    | some (some ⟨kd,t0⟩)=>if kd.isOw=true then some (⟨.ow,t⟩,(zy [j] ρ1).set j (some ⟨kd,t0.put p s'⟩)) else none
    | _=>none)
   | none=>none) else none
  | _=>none)
 | none=>none,a.mu++[j]⟩
theorem ref_callI {k j:Nat}{run:List T->Option (T×T)}{ta:TA}{a:MA}(ha:RefA K ta a):RefE K (tCall (spI K k run) [] E0 ta) (zr k j run a):=by
 intro Γ H ρ σ E Q r ρ' hK hr S q
 show ta σ H fun vs H1=>spI K k run (vs++[]) H1 Q E0
 simp only [List.append_nil]
 simp only [zr] at hr q
 split at hr
 ·rename_i rs ρ1 e1
  split at hr
  ·rename_i i p s e2
   split at hr
   ·rename_i hb
    rw [Bool.and_eq_true,decide_eq_true_eq] at hb
    obtain⟨rfl,hal⟩:=hb
    split at hr
    ·rename_i t s' e3
     split at hr
     ·rename_i kd t0 e4
      split at hr
      ·rename_i ho
       cases hr
       refine ha Γ H ρ σ E _ rs ρ1 hK e1 S fun vs H1 hl S1=>?_
       have hkl:k<rs.length:=(List.getElem?_eq_some_iff.mp e2).1
       obtain⟨w,hw⟩:∃ w,vs[k]?=some w:=⟨vs[k],by simp [hl,hkl]⟩
       have hal':∀ m r,m≠k->rs[m]?=some r->alive [i] r=true:=fun m r hm hr=>by
        have hml:=(List.getElem?_eq_some_iff.mp hr).1
        have:=List.all_eq_true.mp hal m (List.mem_range.mpr hml)
        rw [List.getD_eq_getElem?_getD,hr] at this
        simpa [hm] using this
       obtain⟨G,g1,g2,g3,g4,g5⟩:=S1.io e2 hw hal' e4 ho
       rw [hK] at g1
       refine⟨rs.map (·.t),s,w,G,t,s',by rw [List.length_map,hl],hw,by rw [List.getElem?_map,e2];rfl,g1,g2,g3,fun m x u hm hx hu=>?_,e3,fun v H' F G' a1 a2 a3 a4 a5 a6 a7=>q v H' ?_⟩
       ·rw [List.getElem?_map] at hu
        cases hr:rs[m]? with
        | none=>rw [hr] at hu;cases hu
        | some r=>
         rw [hr] at hu;cases hu
         have:=g4 m r x hm hr hx
         rw [hK] at this
         exact this
       ·rw [← hK] at a6 a7
        have:=g5 H' s' v t F G' a1 a2 a3 a4 a5 a6 a7
        rw [zh] at this
        exact this
      ·cases hr
     ·cases hr
    ·cases hr
   ·cases hr
  ·cases hr
 ·cases hr
noncomputable def roR:T->R
 | .im i=>⟨.ow,.im i⟩
 | t=>⟨.vw none none,t⟩
noncomputable def zkd (ts:List T) (n:Nat):Rho:=(ts.map fun t=>some (roR t))++List.replicate (n - ts.length) none
theorem ents_nones:∀ (k n m:Nat),ents k (List.replicate n none) (List.replicate m none) = []
 | _,0,_=>rfl
 | _,n+1,0=>rfl
 | k,n+1,m+1=>by simp only [List.replicate_succ,ents];exact ents_nones (k+1) n m
theorem start_L {H0:Hp}{io:List Addr}{iov:List V}(n m:Nat):∀ {ts:List T} {vs:List V} {k:Nat},Rpxs K H ts vs->∃ L:List Hd,L.map (·.e)=ents k (vs.map some++List.replicate n none) ((ts.map fun t=>some (roR t))++List.replicate m none)/\L.flatMap Hd.own = []/\(∀ h∈L,Rp K H h.e.r.t h.e.v h.F)/\(∀ h∈L,(h.e.r.k = .ow/\h.F = []) ∨ h.e.r.k = .vw none none)
 | [],vs,k,r=>by
  rw [Rpxs] at r;subst r
  exact⟨[],by simp [ents_nones],rfl,by simp,by simp⟩
 | t::ts,vs,k,r=>by
  obtain⟨v,vr,rfl,⟨F,r1⟩,r2⟩:=r
  obtain⟨L,h1,h2,h3,h4⟩:=start_L (H0:=H0) (io:=io) (iov:=iov) n m (k:=k+1) r2
  have hroR:∃ F',Rp K H (roR t).t v F'/\(((roR t).k = .ow/\F' = []) ∨ (roR t).k = .vw none none):=by
   cases t with
   | im i=>exact⟨[],rp_im (zwa r1).1,.inl ⟨rfl,rfl⟩⟩
   | _=>exact⟨F,r1,.inr rfl⟩
  obtain⟨F',g1,g2⟩:=hroR
  refine⟨⟨⟨some k,v,roR t⟩,F'⟩::L,by simp [ents,h1],?_,fun h hh=>?_,fun h hh=>?_⟩
  ·rw [List.flatMap_cons,h2,List.append_nil]
   unfold Hd.own
   rcases g2 with⟨e,rfl⟩ | e
   ·simp
   ·rw [show (⟨⟨some k,v,roR t⟩,F'⟩:Hd).e.r.k=(roR t).k from rfl,e];rfl
  ·rcases List.mem_cons.mp hh with rfl | hh
   ·exact g1
   ·exact h3 h hh
  ·rcases List.mem_cons.mp hh with rfl | hh
   ·rcases g2 with⟨e,rfl⟩ | e
    ·exact .inl ⟨e,rfl⟩
    ·exact .inr e
   ·exact h4 h hh
theorem Rpxs.length:∀ {ts:List T} {vs:List V},Rpxs K H ts vs->vs.length=ts.length
 | [],vs,r=>by rw [Rpxs] at r;subst r;rfl
 | t::ts,vs,r=>by obtain⟨v,vr,rfl,_,r2⟩:=r;rw [List.length_cons,List.length_cons,Rpxs.length r2]
theorem start_al {ts:List T}{vs:List V}{n m:Nat}(hl:vs.length=ts.length)(i:Nat)(r:R)(h:((ts.map fun t=>some (roR t))++List.replicate m none)[i]?=some (some r)):∃ v,(vs.map some++List.replicate n none)[i]?=some (some v):=by
 have hi:i<ts.length:=by
  by_cases e:i<ts.length
  ·exact e
  ·rw [List.getElem?_append_right (by simp;omega),List.getElem?_replicate] at h
   split at h<;>cases h
 refine⟨vs[i],?_⟩
 rw [List.getElem?_append_left (by simp;omega),List.getElem?_map]
 simp [hl,hi]
theorem ents_ks {k:Nat}:((ents k σ ρ).filterMap fun e=>e.key).Nodup:=by
 have:=ents_pw (k:=k) (σ:=σ) (ρ:=ρ)
 refine List.Pairwise.filterMap (R:=fun a b=>∃ i j,a.key=some i/\b.key=some j/\i<j) (fun e:En=>e.key) (fun a a' ⟨i,j,h1,h2,h3⟩ b hb b' hb'=>?_) this
 rw [h1] at hb;rw [h2] at hb'
 cases hb;cases hb'
 omega
theorem start_P {ts:List T}{vs:List V}{N:List Str}(r:Rpxs K H ts vs):Sim ⟨K,H,[],[]⟩ H (zkd ts N.length) (start N vs) []:=by
 obtain⟨L,h1,h2,h3,h4⟩:=start_L (H0:=H) (io:=[]) (iov:=[]) (N.length - vs.length) (N.length - ts.length) (k:=0) r
 refine⟨⟨L,⟨by rw [h2];exact List.nodup_nil,by rw [h2];simp,h3,fun h hh=>?_,?_,fun b o e _=>e,by simp⟩,by rw [h1];rfl⟩,fun i r' h=>start_al r.length i r' h,?_,by simp⟩
 ·unfold KdOk
  rcases h4 h hh with⟨e,eF⟩ | e
  ·rw [e,eF];simp
  ·rw [e,h2];simp
 ·have:(L.filterMap fun h=>h.e.key)=(L.map (·.e)).filterMap fun e=>e.key:=by rw [List.filterMap_map];rfl
  rw [this,h1]
  exact ents_ks
 ·simp [start,zkd,r.length]
noncomputable def runP (m:MS) (n:Nat) (ts:List T):Option T:=match m.run (zkd ts n) with
 | some (.rt t,_)=>some t
 | some (.nx,_)=>some (.im .non)
 | _=>none
theorem end_P {H0:Hp}(S:Sim ⟨K,H0,[],[]⟩ H' ρ σ [⟨none,v,⟨.ow,t⟩⟩]):New K H0 H' t v:=by
 obtain⟨L,g,e⟩:=S.sl
 obtain⟨x,L',rfl,ex,_⟩:=zba e
 have rp:=g.rp x List.mem_cons_self
 rw [ex] at rp
 have kd:=g.kd x List.mem_cons_self
 unfold KdOk at kd
 rw [ex] at kd
 have ho:x.e.r.k.isOw=true:=by rw [ex];rfl
 exact⟨fun b o h=>g.fr b o h (by simp),x.F,rp,g.ndF List.mem_cons_self ho,fun a ha=>⟨kd a ha,g.muF List.mem_cons_self ho a ha⟩⟩
theorem Def.mp {P:Program}{W:World}{mg:Str->Option Value}{base:Heap}{k:Nat}{name:Str}{st:Stmt}{N ps:List Str}(d:Def K mg name st ps)(S:FnScope N ps (zq st)){m:MS}
  (hbody:∀ (f:Addr) (cdv:Value) (A:Around) (outer:List Env) (s:Shared) (H:Hp) (E:XK),Room k (A.deeper (envOfC name (zq st) s.heap.objs.size f cdv))->PMSs (cxOf CX0 P W K mg base N name (zq st) f cdv A outer s H E).nox (zkb st) m)
  {run:List T->Option T} (hrun:∀ ts,run ts=if ts.length=ps.length then runP m N.length ts else none):Has P W K mg base (k+1) name ps (spP K run):=by
 refine d.has S (fun vs H Q E h=>?_) (fun f cdv A outer s H vs Q E hr h=>?_)
 ·obtain⟨ts,t,r,e,_⟩:=h
  rw [hrun] at e
  split at e
  ·rename_i hl;rw [r.length,hl]
  ·cases e
 ·obtain⟨ts,t,r,e,q⟩:=h
  rw [hrun] at e
  split at e
  ·obtain⟨tS,p1,p2⟩:=hbody f cdv A outer s H E hr
   refine⟨tS,p1,?_⟩
   have S0:=start_P (N:=N) r
   unfold runP at e
   split at e
   ·rename_i t0 ρ' e1
    cases e
    exact p2 ⟨K,H,[],[]⟩ H _ _ [] _ _ ρ' rfl (by simp) e1 S0 fun v σ' H' S1=>q v H' (end_P S1)
   ·rename_i ρ' e1
    cases e
    exact p2 ⟨K,H,[],[]⟩ H _ _ [] _ .nx ρ' rfl (by simp) e1 S0 fun σ' H' S1=>q .non H' (end_P (S1.imm zxb))
   ·cases e
  ·cases e
noncomputable def rStartI (k:Nat) (ts:List T) (n:Nat):Rho:=(zkd ts n).set k (some ⟨.io 0,ts.getD k (.im .non)⟩)
noncomputable def runI (m:MS) (k n:Nat) (ts:List T):Option (T×T):=match m.run (rStartI k ts n) with
 | some (.rt t,ρ')=>(match ρ'[k]? with
  | some (some ⟨.io 0,s'⟩)=>some (t,s')
  | _=>none)
 | some (.nx,ρ')=>(match ρ'[k]? with
  | some (some ⟨.io 0,s'⟩)=>some (.im .non,s')
  | _=>none)
 | _=>none
theorem start_LI {G:List Addr}(n m:Nat):∀ {ts:List T} {vs:List V} {k:Nat},vs.length=ts.length->(∀ (i:Nat) x u,vs[i]?=some x->ts[i]?=some u->∃ F,Rp K H u x F/\∀ a∈F,a ∉ G)->∃ L:List Hd,L.map (·.e)=ents k (vs.map some++List.replicate n none) ((ts.map fun t=>some (roR t))++List.replicate m none)/\L.flatMap Hd.own = []/\(∀ h∈L,Rp K H h.e.r.t h.e.v h.F/\∀ a∈h.F,a ∉ G)/\(∀ h∈L,(h.e.r.k = .ow/\h.F = []) ∨ h.e.r.k = .vw none none)
 | [],[],k,_,_=>⟨[],by simp [ents_nones],rfl,by simp,by simp⟩
 | t::ts,v::vs,k,hl,r=>by
  obtain⟨F,r1,r1'⟩:=r 0 v t rfl rfl
  obtain⟨L,h1,h2,h3,h4⟩:=start_LI (G:=G) n m (ts:=ts) (vs:=vs) (k:=k+1) (by simpa using hl) (fun i x u hx hu=>r (i+1) x u (by simpa using hx) (by simpa using hu))
  have hroR:∃ F',Rp K H (roR t).t v F'/\(∀ a∈F',a ∉ G)/\(((roR t).k = .ow/\F' = []) ∨ (roR t).k = .vw none none):=by
   cases t with
   | im i=>exact⟨[],rp_im (zwa r1).1,by simp,.inl ⟨rfl,rfl⟩⟩
   | _=>exact⟨F,r1,r1',.inr rfl⟩
  obtain⟨F',g1,g1',g2⟩:=hroR
  refine⟨⟨⟨some k,v,roR t⟩,F'⟩::L,by simp [ents,h1],?_,fun h hh=>?_,fun h hh=>?_⟩
  ·rw [List.flatMap_cons,h2,List.append_nil]
   unfold Hd.own
   rcases g2 with⟨e,rfl⟩ | e
   ·simp
   ·rw [show (⟨⟨some k,v,roR t⟩,F'⟩:Hd).e.r.k=(roR t).k from rfl,e];rfl
  ·rcases List.mem_cons.mp hh with rfl | hh
   ·exact⟨g1,g1'⟩
   ·exact h3 h hh
  ·rcases List.mem_cons.mp hh with rfl | hh
   ·rcases g2 with⟨e,rfl⟩ | e
    ·exact .inl ⟨e,rfl⟩
    ·exact .inr e
   ·exact h4 h hh
 | [],_::_,_,h,_=>by cases h
 | _::_,[],_,h,_=>by cases h
theorem start_I {ts:List T}{vs:List V}{N:List Str}{k:Nat}{G:List Addr}(hl:vs.length=ts.length)(hw:vs[k]?=some w)(hs:ts[k]?=some s)(rp:Rp K H s w G)(nd:G.Nodup)(mu:∀ a∈G,Mu H a)(ro:∀ (m:Nat) x u,m≠k->vs[m]?=some x->ts[m]?=some u->∃ F,Rp K H u x F/\∀ a∈F,a ∉ G):Sim ⟨K,H,G,[w]⟩ H (rStartI k ts N.length) (start N vs) []:=by
 have hkl:k<ts.length:=(List.getElem?_eq_some_iff.mp hs).1
 have hl':(vs.set k .non).length=(ts.set k (.im .non)).length:=by simp [hl]
 obtain⟨L,h1,h2,h3,h4⟩:=start_LI (K:=K) (H:=H) (G:=G) (N.length - vs.length) (N.length - ts.length) (ts:=ts.set k (.im .non)) (vs:=vs.set k .non) (k:=0) hl' (fun m x u hx hu=>by
  by_cases e:m=k
  ·subst e
   simp [hl,hkl] at hx hu
   subst hx hu
   exact⟨[],rp_im zxb,by simp⟩
  ·rw [List.getElem?_set_ne (Ne.symm e)] at hx hu
   exact ro m x u e hx hu)
 have eσ:(vs.set k .non).map some++List.replicate (N.length - vs.length) none=(start N vs).set k (some .non):=by
  unfold start
  rw [List.set_append_left _ _ (by simp [hl,hkl]),List.map_set]
 have eρ:((ts.set k (.im .non)).map fun t=>some (roR t))++List.replicate (N.length - ts.length) none=(zkd ts N.length).set k (some ⟨.ow,.im .non⟩):=by
  unfold zkd
  rw [List.set_append_left _ _ (by simp [hkl]),List.map_set]
  rfl
 rw [eσ,eρ] at h1
 have hkρ:k<(zkd ts N.length).length:=by simp [zkd];omega
 have hkσ:k<(start N vs).length:=by simp [start,hl];omega
 have p1:=ents_put (k:=0) (σ:=start N vs) (ρ:=zkd ts N.length) (v:=.non) (r:=⟨.ow,.im .non⟩) hkσ hkρ
 rw [Nat.zero_add,← h1] at p1
 obtain⟨L2,pL,eL⟩:=perm_lift p1 L rfl
 obtain⟨x,L3,rfl,ex,e3⟩:=zba eL
 have inL:∀ h∈L3,h∈L:=fun h hh=>pL.mem_iff.mpr (List.mem_cons_of_mem _ hh)
 have own3:L3.flatMap Hd.own = []:=by
  rw [List.flatMap_eq_nil_iff]
  intro h hh
  rw [List.flatMap_eq_nil_iff] at h2
  exact h2 h (inL h hh)
 have own1:((⟨⟨some k,w,⟨.io 0,s⟩⟩,G⟩:Hd)::L3).flatMap Hd.own=G:=by rw [List.flatMap_cons,own3,List.append_nil];rfl
 have ht:ts.getD k (.im .non)=s:=by rw [List.getD_eq_getElem?_getD,hs];rfl
 have eσ2:(start N vs).set k (some w)=start N vs:=by
  apply List.ext_getElem?
  intro m
  by_cases hm:m=k
  ·subst hm
   rw [List.getElem?_set_self hkσ]
   unfold start
   rw [List.getElem?_append_left (by simp [hl,hkl]),List.getElem?_map,hw];rfl
  ·rw [List.getElem?_set_ne (Ne.symm hm)]
 have p2:=ents_put (k:=0) (σ:=start N vs) (ρ:=zkd ts N.length) (v:=w) (r:=⟨.io 0,s⟩) hkσ hkρ
 rw [Nat.zero_add,eσ2] at p2
 have gw:GW ⟨K,H,G,[w]⟩ H (⟨⟨some k,w,⟨.io 0,s⟩⟩,G⟩::L3):=by
  refine⟨by rw [own1];exact nd,fun a ha=>by rw [own1] at ha;exact⟨mu a ha,.inr ha⟩,fun h hh=>?_,fun h hh=>?_,?_,fun b o e _=>e,fun a ha=>let ⟨o,e,_⟩:=mu a ha;⟨o,e⟩⟩
  ·rcases List.mem_cons.mp hh with rfl | hh
   ·exact rp
   ·exact (h3 h (inL h hh)).1
  ·rcases List.mem_cons.mp hh with rfl | hh
   ·rfl
   ·unfold KdOk
    rcases h4 h (inL h hh) with⟨e,eF⟩ | e
    ·rw [e,eF];simp
    ·rw [e,own1];exact (h3 h (inL h hh)).2
  ·have e5:((⟨⟨some k,w,⟨.io 0,s⟩⟩,G⟩:Hd)::L3).filterMap (fun h=>h.e.key)=(x::L3).filterMap fun h=>h.e.key:=by rw [List.filterMap_cons,List.filterMap_cons,ex]
   rw [e5]
   have e6:((x::L3).filterMap fun h=>h.e.key)=((x::L3).map (·.e)).filterMap fun e=>e.key:=by rw [List.filterMap_map];rfl
   rw [e6,eL]
   have:=(p1.filterMap (fun e:En=>e.key)).nodup_iff.mp (by rw [h1];exact ents_ks)
   exact this
 refine⟨SimL.perm ⟨_,gw,rfl⟩ ?_,fun i r' h=>?_,?_,by simp⟩
 ·rw [List.map_cons,e3,List.nil_append]
  unfold rStartI
  rw [ht]
  exact p2.symm
 ·unfold rStartI at h
  rw [ht] at h
  by_cases e:i=k
  ·subst e
   refine⟨w,?_⟩
   unfold start
   rw [List.getElem?_append_left (by simp [hl,hkl]),List.getElem?_map,hw];rfl
  ·rw [List.getElem?_set_ne (Ne.symm e)] at h
   exact start_al hl i r' h
 ·simp [start,rStartI,zkd,hl]
theorem end_I {H0:Hp}{G:List Addr}{w0:V}{k:Nat}{s':T}(S:Sim ⟨K,H0,G,[w0]⟩ H' ρ σ [⟨none,v,⟨.ow,t⟩⟩])(h : ρ[k]?=some (some ⟨.io 0,s'⟩)):∃ F G',OffM G H0 H'/\(∀ a∈G,∃ o,H' a=some o)/\(F++G').Nodup/\(∀ a∈F,H0 a=none/\Mu H' a)/\(∀ a∈G',(a∈G ∨ H0 a=none)/\Mu H' a)/\Rp K H' s' w0 G'/\Rp K H' t v F:=by
 obtain⟨w,hw,hm⟩:=S.slot h
 obtain⟨L,g,e⟩:=S.sl
 rw [List.cons_append] at e hm
 obtain⟨x,L',rfl,ex,e2⟩:=zba e
 have hm':(⟨some k,w,⟨.io 0,s'⟩⟩:En)∈L'.map (·.e):=by
  rw [e2]
  rcases List.mem_cons.mp hm with z | z
  ·cases z
  ·exact z
 obtain⟨y,hy,ey⟩:=List.mem_map.mp hm'
 have rpx:=g.rp x List.mem_cons_self
 rw [ex] at rpx
 have rpy:=g.rp y (List.mem_cons_of_mem _ hy)
 rw [ey] at rpy
 have kx:=g.kd x List.mem_cons_self
 unfold KdOk at kx
 rw [ex] at kx
 have ky:=g.kd y (List.mem_cons_of_mem _ hy)
 unfold KdOk at ky
 rw [ey] at ky
 have ew:w0=w:=by simpa using ky
 subst ew
 have hox:x.e.r.k.isOw=true:=by rw [ex];rfl
 have hoy:y.e.r.k.isOw=true:=by rw [ey];rfl
 refine⟨x.F,y.F,fun b o hb n=>g.fr b o hb n,g.iol,?_,fun a ha=>⟨kx a ha,g.muF List.mem_cons_self hox a ha⟩,fun a ha=>?_,rpy,rpx⟩
 ·have nd:=g.nd
  rw [List.flatMap_cons] at nd
  have nx:x.own=x.F:=by unfold Hd.own;rw [if_pos hox]
  rw [nx] at nd
  have nn:=List.nodup_append.mp nd
  exact List.nodup_append.mpr ⟨nn.1,g.ndF (List.mem_cons_of_mem _ hy) hoy,fun a ha b hb=>nn.2.2 a ha b (List.mem_flatMap.mpr ⟨y,hy,mem_own hoy hb⟩)⟩
 ·have:=g.ad a (List.mem_flatMap.mpr ⟨y,List.mem_cons_of_mem _ hy,mem_own hoy ha⟩)
  exact⟨this.2.symm,this.1⟩
theorem Def.mi {P:Program}{W:World}{mg:Str->Option Value}{base:Heap}{k:Nat}{name:Str}{st:Stmt}{N ps:List Str}{j:Nat}(d:Def K mg name st ps)(S:FnScope N ps (zq st)){m:MS}
  (hbody:∀ (f:Addr) (cdv:Value) (A:Around) (outer:List Env) (s:Shared) (H:Hp) (E:XK),Room k (A.deeper (envOfC name (zq st) s.heap.objs.size f cdv))->PMSs (cxOf CX0 P W K mg base N name (zq st) f cdv A outer s H E).nox (zkb st) m)
  {run:List T->Option (T×T)} (hrun:∀ ts,run ts=if ts.length=ps.length then runI m j N.length ts else none):Has P W K mg base (k+1) name ps (spI K j run):=by
 refine d.has S (fun vs H Q E h=>?_) (fun f cdv A outer s H vs Q E hr h=>?_)
 ·obtain⟨ts,s0,w,G,t,s',hl,_,_,_,_,_,_,e,_⟩:=h
  rw [hrun] at e
  split at e
  ·rename_i h2;rw [hl,h2]
  ·cases e
 ·obtain⟨ts,s0,w,G,t,s',hl,hw,hs,rp,nd,mu,ro,e,q⟩:=h
  rw [hrun] at e
  split at e
  ·obtain⟨tS,p1,p2⟩:=hbody f cdv A outer s H E hr
   refine⟨tS,p1,?_⟩
   have S0:=start_I (N:=N) hl hw hs rp nd mu ro
   unfold runI at e
   split at e
   ·rename_i t0 ρ' e1
    split at e
    ·rename_i s1 e2
     cases e
     refine p2 ⟨K,H,G,[w]⟩ H _ _ [] _ _ ρ' rfl (by simp) e1 S0 fun v σ' H' S1=>?_
     obtain⟨F,G',a1,a2,a3,a4,a5,a6,a7⟩:=end_I S1 e2
     exact q v H' F G' a1 a2 a3 a4 a5 a6 a7
    ·cases e
   ·rename_i ρ' e1
    split at e
    ·rename_i s1 e2
     cases e
     refine p2 ⟨K,H,G,[w]⟩ H _ _ [] _ .nx ρ' rfl (by simp) e1 S0 fun σ' H' S1=>?_
     obtain⟨F,G',a1,a2,a3,a4,a5,a6,a7⟩:=end_I (S1.imm zxb) e2
     exact q .non H' F G' a1 a2 a3 a4 a5 a6 a7
    ·cases e
   ·cases e
  ·cases e
end
end L2
namespace L2
open PySem PySem.Spec PyProof.Rows
structure CK {ι : Type}(C:ι->Cx)(P:Program)(W:World)(K:PySem.W.Frag)(mg:Str->Option Value)(base:Heap)(k:Nat):Prop where
 prog:∀ i,(C i).prog=P
 w:∀ i,(C i).w=W
 kk:∀ i,(C i).K=K
 mg:∀ i,(C i).mg=mg
 base:∀ i,(C i).base=base
 calm:∀ i,(C i).calm=true
 room:∀ i,Room k (C i).A
variable  {ι : Type}{C:ι->Cx}{P:Program}{W:World}{K:PySem.W.Frag}{mg:Str->Option Value}{base:Heap}{k:Nat}
noncomputable abbrev blkC (C:ι->Cx) (scope:Scope) (N':List Str):ι×Bk->Cx:=fun p=>cxB (C p.1) scope N' p.2
theorem CK.blk (ck:CK C P W K mg base k){scope:Scope}{N':List Str}:CK (blkC C scope N') P W K mg base k:=
 ⟨fun p=>ck.prog p.1,fun p=>ck.w p.1,fun p=>ck.kk p.1,fun p=>ck.mg p.1,fun p=>ck.base p.1,fun p=>ck.calm p.1,fun p=>ck.room p.1⟩
structure QE (C:ι->Cx)(K:PySem.W.Frag)(e:Expr)(m:ME):Prop where
 ex:∃ te,(∀ i,PE (C i) e te)/\RefE K te m
structure QT (C:ι->Cx)(K:PySem.W.Frag)(e:Expr)(m:MT):Prop where
 ex:∃ te,(∀ i,PT (C i) e te)/\RefT K te m
structure QW (C:ι->Cx)(K:PySem.W.Frag)(e:Expr)(m:MT):Prop where
 ex:∃ te,(∀ i,PW (C i) e te)/\RefT K te m
structure QTs (C:ι->Cx)(K:PySem.W.Frag)(e:List Expr)(m:MT):Prop where
 ex:∃ te,(∀ i,PTs (C i) e te)/\RefT K te m
structure QA (C:ι->Cx)(K:PySem.W.Frag)(es:List Expr)(m:MA):Prop where
 ex:∃ ta,(∀ i,PA (C i) es ta)/\zqa es=true/\RefA K ta m
structure QS (C:ι->Cx)(K:PySem.W.Frag)(st:Stmt)(m:MS):Prop where
 ex:∃ ts,(∀ i,PS (C i) st ts)/\RefS K ts m
structure QSs (C:ι->Cx)(K:PySem.W.Frag)(st:List Stmt)(m:MS):Prop where
 ex:∃ ts,(∀ i,PSs (C i) st ts)/\RefS K ts m
structure QG (C:ι->Cx)(K:PySem.W.Frag)(fr:Option (List (Option Nat)))(e:Expr)(m:MG):Prop where
 ex:∃ g,(∀ i,PG (C i) e g)/\RefG K g m/\∀ f,fr=some f->GKeep f g
structure QGs (C:ι->Cx)(K:PySem.W.Frag)(fr:Option (List (Option Nat)))(n:Nat)(es:List Expr)(m:MGs):Prop where
 ex:∃ g,(∀ i,PGs (C i) es g)/\RefGs K g m/\(∀ f,fr=some f->GKeeps f g)/\(∀ rs ρ ρ',m.run rs ρ=some ρ'->rs.length=n)
structure QI (C:ι->Cx)(K:PySem.W.Frag)(tg e:Expr)(m:MI):Prop where
 ex:∃ wi,(∀ i,PI (C i) tg e wi)/\RefI K wi m
structure QO (C:ι->Cx)(K:PySem.W.Frag)(e:Option Expr)(m:MO):Prop where
 ex:∃ t,(∀ i,PO (C i) e t)/\RefO K t m
section
variable  {a b c e o:Expr}{es:List Expr}{ma mb mc m:ME}{ms:MA}{pos:Pos}{mt mt':MT}
theorem zg {i:Int}{j:Nat}:QE C K (.Constant (.int i) j pos) (mC (.int i)):=⟨_,fun _=>pe_int,ref_C rfl⟩
theorem q_bl {x:Bool}{j:Nat}:QE C K (.Constant (.bool x) j pos) (mC (.bl x)):=⟨_,fun _=>pe_bl,ref_C rfl⟩
theorem zdd {x:Str}{j:Nat}:QE C K (.Constant (.str x) j pos) (mC (.str x)):=⟨_,fun _=>pe_str,ref_C rfl⟩
theorem zk (n:Nat){x:Str}(hN:∀ i,(C i).N[n]?=some x:=by intro _;rfl)(hv:∀ i,Vis (C i).env.scope x:=by first | exact fun _=>Or.inl rfl | exact fun _=>Or.inr (Or.inl rfl) | exact fun _=>Or.inr (Or.inr rfl))(hd:(x == ("__debug__" : Str))=false:=by decide)(hcd:(x == ("__classdict__" : Str))=false:=by decide):QE C K (.Name x pos) (mVar n):=⟨_,fun i=>pe_var (hN i) (hv i) hd hcd,ref_var⟩
theorem zd:QA C K [] mNil:=⟨_,fun _=>pa_nil,rfl,ref_nil⟩
theorem zb (h1:QE C K e m)(h2:QA C K es ms)(hs:zfc e=false:=by rfl):QA C K (e::es) (zf m ms):=by
 obtain⟨te,a,b⟩:=h1
 obtain⟨ta,c,n,d⟩:=h2
 exact⟨_,fun i=>zxc (a i) (c i) hs,by rw [zqa,hs,n];rfl,ref_cons b d⟩
theorem q_op {op:Operator}{red:PySem.W.Frag->R2}{f:T->T->Option T}(ck:CK C P W K mg base k)(ho:∀ X:Cx,OpR X (binaryOp op) (red X.K))(hp:Prim2 K (red K) f)(ha:QE C K a ma)(hb:QE C K b mb):QE C K (.BinOp a op b pos) (mOp f ma mb):=by
 obtain⟨ta,p,r⟩:=ha
 obtain⟨tb,p',r'⟩:=hb
 exact⟨_,fun i=>pe_op (r:=red K) (by have:=ho (C i);rw [ck.kk i] at this;exact this) (p i) (p' i),ref_op hp r r'⟩
theorem zna (ck:CK C P W K mg base k)(ha:QE C K a ma)(hb:QE C K b mb):QE C K (.BinOp a .Add b pos) (mOp addT ma mb):=q_op ck (red:=rAddY) (fun _=>op_addY) prim_add ha hb
theorem zuc (ck:CK C P W K mg base k)(ha:QE C K a ma)(hb:QE C K b mb):QE C K (.BinOp a .Sub b pos) (mOp subT ma mb):=q_op ck (red:=fun _=>rI0 fun i j=>.int (i - j)) (fun _=>op_sub) prim_sub ha hb
theorem q_mul (ck:CK C P W K mg base k)(ha:QE C K a ma)(hb:QE C K b mb):QE C K (.BinOp a .Mult b pos) (mOp mulT ma mb):=q_op ck (red:=rMulY) (fun _=>op_mulY) prim_mul ha hb
theorem q_fdiv (ck:CK C P W K mg base k)(ha:QE C K a ma)(hb:QE C K b mb):QE C K (.BinOp a .FloorDiv b pos) (mOp fdivT ma mb):=q_op ck (red:=fun _=>rI CDiv64 fun i j=>.int (i / j)) (fun _=>op_fdiv64) prim_fdiv ha hb
theorem q_mod (ck:CK C P W K mg base k)(ha:QE C K a ma)(hb:QE C K b mb):QE C K (.BinOp a .Mod b pos) (mOp modT ma mb):=q_op ck (red:=fun _=>rI (fun _ j=>0<j) fun i j=>.int (i % j)) (fun _=>op_mod) prim_mod ha hb
theorem q_pow (ck:CK C P W K mg base k)(ha:QE C K a ma)(hb:QE C K b mb):QE C K (.BinOp a .Pow b pos) (mOp powT ma mb):=q_op ck (red:=fun _=>rI CPow fun i j=>.int (i ^ j.toNat)) (fun _=>op_pow) prim_pow ha hb
theorem q_not (ha:QE C K a ma):QE C K (.UnaryOp .Not a pos) (mNotV ma):=by
 obtain⟨ta,p,r⟩:=ha
 exact⟨_,fun i=>pe_not (p i),ref_notV r⟩
noncomputable def CmpOk (op:CmpOp) (f:T->T->Option T):Prop:=∃ red:PySem.W.Frag->R2,(∀ X:Cx,X.A.units+64<cLine->OpR X (compareOp op) (red X.K))/\∀ K,Prim2 K (red K) f
theorem c_lt:CmpOk .Lt (cmpT fun i j=>decide (i<j)):=⟨fun _=>_,fun _ _=>op_lt,fun _=>prim_cmp⟩
theorem c_gt:CmpOk .Gt (cmpT fun i j=>decide (j<i)):=⟨fun _=>_,fun _ _=>op_gt,fun _=>prim_cmp⟩
theorem c_ge:CmpOk .GtE (cmpT fun i j=>decide (j<=i)):=⟨fun _=>_,fun _ _=>op_ge,fun _=>prim_cmp⟩
theorem c_eq:CmpOk .Eq eqT:=⟨rEqX,fun _ hu=>op_eqX hu,fun _=>prim_eq⟩
theorem c_ne:CmpOk .NotEq neT:=⟨rNeX,fun _ hu=>op_neX hu,fun _=>prim_ne⟩
theorem c_in:CmpOk .In inT:=⟨rInX,fun _ hu=>op_inX hu,fun _=>prim_in⟩
theorem q_cmp {op:CmpOp}{f:T->T->Option T}(ck:CK C P W K mg base k)(hc:CmpOk op f)(ha:QE C K a ma)(hb:QE C K b mb)(hm:behindInMarks op b=false):QE C K (.Compare a [op] [b] pos) (mOp f ma mb):=by
 obtain⟨red,ho,hp⟩:=hc
 obtain⟨ta,p,r⟩:=ha
 obtain⟨tb,p',r'⟩:=hb
 exact⟨_,fun i=>pe_cmpR (r:=red K) (by have:=ho (C i) (ck.room i).units;rw [ck.kk i] at this;exact this) (p i) (p' i) hm,ref_op (hp K) r r'⟩
theorem zeb {op:CmpOp}{f:T->T->Option T}(ck:CK C P W K mg base k)(hc:CmpOk op f)(ha:QE C K a ma)(hb:QE C K b mb)(hm:behindInMarks op b=false):QT C K (.Compare a [op] [b] pos) (zlb (mOp f ma mb)):=by
 obtain⟨red,ho,hp⟩:=hc
 obtain⟨ta,p,r⟩:=ha
 obtain⟨tb,p',r'⟩:=hb
 exact⟨_,fun i=>pt_cmpR (r:=red K) (by have:=ho (C i) (ck.room i).units;rw [ck.kk i] at this;exact this) (p i) (p' i) hm,ref_test (ref_op (hp K) r r')⟩
theorem qt_val (ha:QE C K e m)(he:∀ i whole,isTrue e (C i).env whole=(do let v ← whole;standAt e.pos;holding [v] (truthy v)):=by intro _ _;rfl):QT C K e (zlb m):=by
 obtain⟨ta,p,r⟩:=ha
 exact⟨_,fun i=>pt_val (p i) (he i),ref_tB r⟩
theorem qt_not (ha:QT C K a mt):QT C K (.UnaryOp .Not a pos) (mNot mt):=by
 obtain⟨ta,p,r⟩:=ha
 exact⟨_,fun i=>pt_not (p i),ref_not r⟩
theorem qw_and1 (ha:QT C K a mt):QW C K (.BoolOp .And [a] pos) mt:=by
 obtain⟨ta,p,r⟩:=ha
 exact⟨_,fun i=>pw_and1 (p i),r⟩
theorem qw_or1 (ha:QT C K a mt):QW C K (.BoolOp .Or [a] pos) mt:=by
 obtain⟨ta,p,r⟩:=ha
 exact⟨_,fun i=>pw_or1 (p i),r⟩
theorem qw_and {rest:List Expr}(ha:QT C K a mt)(hb:QW C K (.BoolOp .And (b::rest) pos) mt'):QW C K (.BoolOp .And (a::b::rest) pos) (mAnd mt mt'):=by
 obtain⟨ta,p,r⟩:=ha
 obtain⟨tb,p',r'⟩:=hb
 exact⟨_,fun i=>pw_and (p i) (p' i),ref_and r r'⟩
theorem qw_or {rest:List Expr}(ha:QT C K a mt)(hb:QW C K (.BoolOp .Or (b::rest) pos) mt'):QW C K (.BoolOp .Or (a::b::rest) pos) (mOr mt mt'):=by
 obtain⟨ta,p,r⟩:=ha
 obtain⟨tb,p',r'⟩:=hb
 exact⟨_,fun i=>pw_or (p i) (p' i),ref_or r r'⟩
theorem QW.t (h:QW C K e mt):QT C K e mt:=by
 obtain⟨ta,p,r⟩:=h
 exact⟨_,fun i=>(p i).pt,r⟩
theorem q_one {op:BoolOp}(h:QE C K a m):QE C K (.BoolOp op [a] pos) m:=by
 obtain⟨ta,p,r⟩:=h
 exact⟨_,fun i=>pe_one (p i),r⟩
theorem q_and {rest:List Expr}(ha:QE C K a ma)(hb:QE C K (.BoolOp .And (b::rest) pos) mb):QE C K (.BoolOp .And (a::b::rest) pos) (mAndV ma mb):=by
 obtain⟨ta,p,r⟩:=ha
 obtain⟨tb,p',r'⟩:=hb
 exact⟨_,fun i=>pe_and (p i) (p' i),ref_andV r r'⟩
theorem zmb (mv:List Nat)(h:QA C K es ms):QE C K (.List es pos) (zxa mv ms):=by
 obtain⟨ta,p,_,r⟩:=h
 exact⟨_,fun i=>pe_lst (p i),ref_lstD r⟩
theorem zja (mv:List Nat){x1:Nat}(h:QA C K es ms):QE C K (.Tuple es x1 pos) (zda mv ms):=by
 obtain⟨ta,p,_,r⟩:=h
 exact⟨_,fun i=>pe_tup (p i),ref_tupD r⟩
theorem q_ix (ck:CK C P W K mg base k)(ha:QE C K a ma)(hb:QE C K b mb)(hs:PlainIx b:=by exact fun _ _=>rfl):QE C K (.Subscript a b pos) (mIx ma mb):=by
 obtain⟨ta,p,r⟩:=ha
 obtain⟨tb,p',r'⟩:=hb
 exact⟨_,fun i=>pe_ix (ix_K (ck.kk i)) (p i) (p' i) hs,ref_ix r r'⟩
theorem qo_none:QO C K none mNoPart:=⟨_,fun _=>po_none,ref_noPart⟩
theorem qo_some (h:QE C K e m):QO C K (some e) (mPart m):=by
 obtain⟨ta,p,r⟩:=h
 exact⟨_,fun i=>po_some (p i),ref_part r⟩
theorem q_sl {lo hi:Option Expr}{ml mh:MO}{p2:Pos}(ck:CK C P W K mg base k)(ha:QE C K a ma)(hl:QO C K lo ml)(hh:QO C K hi mh):QE C K (.Subscript a (.Slice lo hi none p2) pos) (mSl ma ml mh):=by
 obtain⟨ta,p,r⟩:=ha
 obtain⟨tl,p',r'⟩:=hl
 obtain⟨th,p'',r''⟩:=hh
 exact⟨_,fun i=>pe_slice (r:=rSl K) (by have:=sl_X (X:=C i);rw [ck.kk i] at this;exact this) (p i) (p' i) (p'' i),ref_sl r r' r''⟩
theorem q_fnP {x:Str}{p:Pos}{j:Nat}{ps:List Str}{run:List T->Option T}(ck:CK C P W K mg base k)(h:Has P W K mg base j x ps (spP K run))(ha:QA C K (e::es) ms)(hj:j<=k:=by first | decide | omega)(hg:∀ i,Gl (C i) x:=by intro _;rfl)(hdb:(x == ("__debug__" : Str))=false:=by decide):QE C K (.Call (.Name x p) (e::es) [] pos) (mB run ms):=by
 obtain⟨ta,q,n,r⟩:=ha
 refine⟨_,fun i=>pe_fnF (by rw [ck.prog i,ck.w i,ck.kk i,ck.mg i,ck.base i];exact h) ((ck.room i).mono hj) (hg i) (q i) n hdb,ref_callP r⟩
theorem zea (l:Nat){x:Str}{p:Pos}{j n0:Nat}{ps:List Str}{run:List T->Option (T×T)}(ck:CK C P W K mg base k)(h:Has P W K mg base j x ps (spI K n0 run))(ha:QA C K (e::es) ms)(hj:j<=k:=by first | decide | omega)(hg:∀ i,Gl (C i) x:=by intro _;rfl)(hdb:(x == ("__debug__" : Str))=false:=by decide):QE C K (.Call (.Name x p) (e::es) [] pos) (zr n0 l run ms):=by
 obtain⟨ta,q,n,r⟩:=ha
 refine⟨_,fun i=>pe_fnF (by rw [ck.prog i,ck.w i,ck.kk i,ck.mg i,ck.base i];exact h) ((ck.room i).mono hj) (hg i) (q i) n hdb,ref_callI r⟩
noncomputable def BltOk (x:Str) (f:List T->Option T):Prop:=∃ (id:String) (red:PySem.W.Frag->List V->Hp->VK->Prop),bootBuiltins x=some (.builtin id)/\(∀ X:Cx,X.calm=true->CallR X (.builtin id) (red X.K))/\∀ K,PrimN K (red K) f
noncomputable def TyOk (x:Str) (f:List T->Option T):Prop:=∃ (id:String) (red:PySem.W.Frag->List V->Hp->VK->Prop),bootBuiltins x=some (.type id)/\(∀ X:Cx,X.calm=true->CallR X (.type id) (red X.K))/\∀ K,PrimN K (red K) f
theorem ztb {x:Str}{p:Pos}{f:List T->Option T}(ck:CK C P W K mg base k)(hb:BltOk x f)(hm:mg x=none)(ha:QA C K (e::es) ms)(hg:∀ i,Gl (C i) x:=by intro _;rfl)(hx:x≠("__name__" : Str):=by decide)(hdb:(x == ("__debug__" : Str))=false:=by decide):QE C K (.Call (.Name x p) (e::es) [] pos) (mB f ms):=by
 obtain⟨id,red,b1,b2,b3⟩:=hb
 obtain⟨ta,q,n,r⟩:=ha
 exact⟨_,fun i=>pe_callBF (r:=red K) (by have:=b2 (C i) (ck.calm i);rw [ck.kk i] at this;exact this) (hg i) (by rw [ck.mg i];exact hm) b1 (q i) n hx hdb,ref_B (b3 K) r⟩
theorem q_ty {x:Str}{p:Pos}{f:List T->Option T}(ck:CK C P W K mg base k)(hb:TyOk x f)(hm:mg x=none)(ha:QA C K (e::es) ms)(hg:∀ i,Gl (C i) x:=by intro _;rfl)(hx:x≠("__name__" : Str):=by decide)(hdb:(x == ("__debug__" : Str))=false:=by decide):QE C K (.Call (.Name x p) (e::es) [] pos) (mB f ms):=by
 obtain⟨id,red,b1,b2,b3⟩:=hb
 obtain⟨ta,q,n,r⟩:=ha
 exact⟨_,fun i=>pe_callTyF (r:=red K) (by have:=b2 (C i) (ck.calm i);rw [ck.kk i] at this;exact this) (hg i) (by rw [ck.mg i];exact hm) b1 (q i) n hx hdb,ref_B (b3 K) r⟩
theorem b_len:BltOk "len" lenT:=⟨_,rLenX,PySem.boot_len,fun _ _=>call_lenX,fun _=>prim_len⟩
theorem b_min:BltOk "min" minT:=⟨_,fun _=>_,PyProof.Rows.boot_min,fun _ h=>call_min2 h,fun _=>prim_min⟩
theorem b_max:BltOk "max" maxT:=⟨_,fun _=>_,PyProof.Rows.boot_max,fun _ h=>call_max2 h,fun _=>prim_max⟩
theorem b_all:BltOk "all" allT:=⟨_,rAll,PyProof.Rows.boot_all,fun _ h=>call_all h,fun _=>prim_all⟩
theorem b_int:TyOk "int" intT:=⟨_,fun _=>_,PyProof.Rows.boot_int,fun _ _=>call_int1,fun _=>prim_int⟩
theorem b_tuple:TyOk "tuple" tupT:=⟨_,rTupOf,PyProof.Rows.boot_tuple,fun _ _=>call_tuple_of,fun _=>prim_tup⟩
theorem b_list:TyOk "list" lstT:=⟨_,rLstOf,PyProof.Rows.boot_list,fun _ _=>call_list_of,fun _=>prim_lst⟩
noncomputable def MethOk (T0:String) (name:Str) (f:T->List T->Option T):Prop:=∃ (id:String) (red:PySem.W.Frag->V->List V->Hp->VK->Prop),PlainAttrs T0/\Slot T0 name id/\typeOf (.builtin id)=pure (.type "method_descriptor")/\(∀ X:Cx,MtR X id (red X.K))/\(∀ K,PrimM K T0 (red K) f)/\∀ K (H:Hp) (x:V) (tx:T) ts t,Rpx K H tx x->f tx ts=some t->tyV K T0 x H
noncomputable def MutOk (T0:String) (name:Str) (f:T->List T->Option (T×I)):Prop:=∃ (id:String) (red:PySem.W.Frag->V->List V->Hp->VK->Prop),PlainAttrs T0/\Slot T0 name id/\typeOf (.builtin id)=pure (.type "method_descriptor")/\(∀ X:Cx,MtR X id (red X.K))/\(∀ K,PrimMut K (red K) f)/\∀ K (H:Hp) (x:V) (tx:T) ts r,Rpx K H tx x->f tx ts=some r->tyV K T0 x H
theorem q_meth {T0:String}{name:Str}{f:T->List T->Option T}{apos:Pos}{mo:ME}(ck:CK C P W K mg base k)(hm:MethOk T0 name f)(ho:QE C K o mo)(ha:QA C K (e::es) ms)(hlen:decide ((e::es).length<30)=true:=by rfl)
  (hbase:∀ i,attributeBase o name (C i).env (eval o (C i).env)=eval o (C i).env:=by intro _;rfl) (hline:(apos.endLine == pos.line)=true:=by rfl):QE C K (.Call (.Attribute o name apos) (e::es) [] pos) (mM f mo ms):=by
 obtain⟨id,red,h1,h2,h3,h4,h5,h6⟩:=hm
 obtain⟨to,q,r⟩:=ho
 obtain⟨ta,q',n,r'⟩:=ha
 exact⟨_,fun i=>bmKF (r:=red K) (ck.kk i) h1 h2 h3 (by have:=h4 (C i);rw [ck.kk i] at this;exact this) (q i) (q' i) n hlen (hbase i) hline,ref_M (h5 K) (h6 K) r r'⟩
theorem zse (l:Nat)(mv:List Nat){T0:String}{name:Str}{f:T->List T->Option (T×I)}{apos:Pos}{mo:ME}(ck:CK C P W K mg base k)(hm:MutOk T0 name f)(ho:QE C K o mo)(ha:QA C K (e::es) ms)(hlen:decide ((e::es).length<30)=true:=by rfl)
  (hbase:∀ i,attributeBase o name (C i).env (eval o (C i).env)=eval o (C i).env:=by intro _;rfl) (hline:(apos.endLine == pos.line)=true:=by rfl):QE C K (.Call (.Attribute o name apos) (e::es) [] pos) (mMut l mv f mo ms):=by
 obtain⟨id,red,h1,h2,h3,h4,h5,h6⟩:=hm
 obtain⟨to,q,r⟩:=ho
 obtain⟨ta,q',n,r'⟩:=ha
 exact⟨_,fun i=>bmKF (r:=red K) (ck.kk i) h1 h2 h3 (by have:=h4 (C i);rw [ck.kk i] at this;exact this) (q i) (q' i) n hlen (hbase i) hline,ref_mut (h5 K) (h6 K) r r'⟩
theorem m_join:MethOk "str" "join" joinT:=⟨_,rJoin,PySem.F.plainAttrs_str,PySem.F.slot_str_join,PySem.F.type_str_join,fun _=>mt_join,fun _=>prim_join,fun K H x tx ts t r e=>by
 unfold joinT at e
 split at e
 ·rw [zee r];rfl
 ·cases e⟩
theorem zjb:MutOk "list" "append" apT:=⟨_,fun _=>rAppend,PySem.F.plainAttrs_list,PySem.F.slot_list_append,PySem.F.type_list_append,fun _=>mt_append,fun _=>prim_append,fun K=>ty_append⟩
theorem m_extend:MutOk "list" "extend" extT:=⟨_,rExtY,PySem.F.plainAttrs_list,PySem.F.slot_list_extend,PySem.F.type_list_extend,fun _=>mt_extY,fun _=>prim_extend,fun K=>ty_extend⟩
theorem m_insert:MutOk "list" "insert" insT:=⟨_,fun _=>rInsert,PySem.F.plainAttrs_list,PySem.F.slot_list_insert,PySem.F.type_list_insert,fun _=>mt_insert,fun _=>prim_insert,fun K=>ty_insert⟩
end
end L2
namespace L2
open PySem PySem.Spec PyProof.Rows
variable  {ι : Type}{C:ι->Cx}{P:Program}{W:World}{K:PySem.W.Frag}{mg:Str->Option Value}{base:Heap}{k:Nat}
section
variable  {a b c e o tg iter:Expr}{es:List Expr}{ma mb mc m mo mi:ME}{ms:MA}{pos:Pos}{mt mt':MT}{s1 s2:MS}{g g':MG}{gs:MGs}{it it2:MI}{fr:Option (List (Option Nat))}
theorem zt (n:Nat){x:Str}(hN:∀ i,(C i).N.Nodup)(hi:∀ i,(C i).N[n]?=some x:=by intro _;rfl)(hx:∀ i,Loc (C i).env.scope x:=by first | exact fun _=>Or.inl rfl | exact fun _=>Or.inr rfl)(hf:∀ i,(C i).fn x=true ∨ (C i).env.scope.names.lookup x=some .local:=by first | exact fun _=>.inl rfl | exact fun _=>.inr rfl)
  (hfr:∀ f,fr=some f->f[n]?=some none:=by first | (intro f h;cases h;done) | (intro f h;cases h;rfl)):QG C K fr (.Name x pos) (zn n):=
 ⟨_,fun i=>pg_name (hN i) (hi i) (hx i) (hf i),ref_name,fun f hf'=>gk_name (hfr f hf')⟩
theorem qgs_nil:QGs C K fr 0 [] mGNil:=by with_unfolding_all exact⟨_,fun _=>pgs_nil,ref_gnil,fun _ _=>gk_nil,fun rs ρ ρ' h=>by cases rs<;>first | rfl | cases h⟩
theorem zva {n:Nat}(h1:QG C K fr e g)(h2:QGs C K fr n es gs)(hs:∀ i,(assignEach (e::es) (C i).env).map (·.2)=assign e (C i).env::(assignEach es (C i).env).map (·.2):=by intro _;rfl):QGs C K fr (n+1) (e::es) (zib g gs):=by with_unfolding_all
 obtain⟨g1,p1,r1,k1⟩:=h1
 obtain⟨g2,p2,r2,k2,l2⟩:=h2
 refine⟨_,fun i=>pgs_cons (p1 i) (p2 i) (hs i),ref_gcons r1 r2,fun f hf=>gk_cons (k1 f hf) (k2 f hf),fun rs ρ ρ' h=>?_⟩
 cases rs with
 | nil=>cases h
 | cons r rs=>
  simp only [zib] at h
  split at h
  ·split at h
   ·rw [List.length_cons,l2 _ _ _ h]
   ·cases h
  ·cases h
theorem qg_tup {n k0:Nat}(ck:CK C P W K mg base k)(h:QGs C K fr n es gs)(hn:∀ i,(assignEach es (C i).env).length=n:=by intro _;rfl)(hst:∀ i,(assignEach es (C i).env).findIdx? (·.1)=none:=by intro _;rfl):QG C K fr (.Tuple es k0 pos) (mGTup gs):=by
 obtain⟨g,p,r,kk,l⟩:=h
 exact⟨_,fun i=>tgK (ck.kk i) (ck.calm i) (p i) (hn i) (hst i),ref_gtup r l,fun f hf=>gk_tup (kk f hf)⟩
theorem qg_sub (j:Nat)(ho:QE C K o mo)(hi:QE C K e mi)
  (ha:∀ i v,assign (.Subscript o e pos) (C i).env v=(do
   let ov ← holding [v] (eval o (C i).env)
   let iv ← holding [v,ov] (eval e (C i).env)
   standAt pos
   holding [v,ov,iv] (setItem ov iv v)
   release [v,ov,iv] []):=by intro _ _;rfl):QG C K none (.Subscript o e pos) (mSub j mo mi):=by
 obtain⟨to,p,r⟩:=ho
 obtain⟨ti,p',r'⟩:=hi
 exact⟨_,fun i=>pg_sub (p i) (p' i) set_list (ha i),ref_sub r r',fun f h=>by cases h⟩
theorem zjc:QSs C K [] mNext:=⟨_,fun _=>pss_nil,ref_next⟩
theorem zv {st:Stmt}(h1:QS C K st s1):QSs C K [st] s1:=by
 obtain⟨t,p,r⟩:=h1
 exact⟨_,fun i=>pss_one (p i),r⟩
theorem zi {st:Stmt}{rest:List Stmt}(h1:QS C K st s1)(h2:QSs C K rest s2):QSs C K (st::rest) (mSeq s1 s2):=by
 obtain⟨t,p,r⟩:=h1
 obtain⟨u,p',r'⟩:=h2
 exact⟨_,fun i=>pss_cons (p i) (p' i),ref_seq r r'⟩
theorem zvd {b1 b2:List Stmt}(hc:QT C K c mt)(h1:QSs C K b1 s1)(h2:QSs C K b2 s2):QS C K (.If c b1 b2 pos) (mIf mt s1 s2):=by
 obtain⟨tc,p0,r0⟩:=hc
 obtain⟨t,p,r⟩:=h1
 obtain⟨u,p',r'⟩:=h2
 exact⟨_,fun i=>ps_if (p0 i) (p i) (p' i),ref_ifS r0 r r'⟩
theorem zoa (h:QE C K e m):QS C K (.Return (some e) pos) (mRet m):=by
 obtain⟨t,p,r⟩:=h
 exact⟨_,fun i=>ps_ret (p i),ref_ret r⟩
theorem zgb (h:QE C K e m)(hs:∀ i,swapsWith e none pos.line (C i).env=pure false:=by intro _;rfl):QS C K (.Expr e pos) (zhc m):=by
 obtain⟨t,p,r⟩:=h
 exact⟨_,fun i=>ps_expr (p i) (hs i),ref_drop r⟩
theorem qs_asg (h:QE C K e m)(hg:QG C K none tg g)(hs:∀ i,swapsWithSole [tg] e pos.line (C i).env=pure false:=by intro _;rfl)(hw:∀ i,swappedStores [tg] e (C i).env=pure none:=by intro _;rfl)
  (h1:∀ i,(assignEach [tg] (C i).env).map (·.2) = [assign tg (C i).env]:=by intro _;rfl):QS C K (.Assign [tg] e pos) (mAsg m g):=by
 obtain⟨t,p,r⟩:=h
 obtain⟨u,p',r',_⟩:=hg
 exact⟨_,fun i=>ps_asg (p i) (p' i) (hs i) (hw i) (h1 i),ref_asg r r'⟩
theorem zw (n:Nat){x:Str}{pos':Pos}(hN:∀ i,(C i).N.Nodup)(he:QE C K e m)(hi:∀ i,(C i).N[n]?=some x:=by intro _;rfl)(hx:∀ i,Loc (C i).env.scope x:=by first | exact fun _=>Or.inl rfl | exact fun _=>Or.inr rfl)(hs:∀ i,swapsWith e (some (.Name x pos')) pos.line (C i).env=pure false:=by intro _;rfl)(hf:∀ i,(C i).fn x=true ∨ (C i).env.scope.names.lookup x=some .local:=by first | exact fun _=>.inl rfl | exact fun _=>.inr rfl) :
  QS C K (.Assign [.Name x pos'] e pos) (mAsg m (zn n)):=by
 obtain⟨t,p,r⟩:=he
 exact⟨_,fun i=>ps_set (hN i) (hi i) (hx i) (p i) (hs i) (hf i),ref_asg r ref_name⟩
noncomputable def mPar (i j:Nat) (a:MA):MS:=⟨fun ρ=>match a.run ρ with
 | some ([r1,r2],ρ1)=>if (notIo ρ1 i && alive [i] r1 && alive [i] r2 && notIo ρ1 j && alive [j] r2)=true then some (.nx,(zy [j] ((zy [i] ρ1).set i (some r1))).set j (some r2)) else none
 | _=>none,a.mu++[i,j]⟩
theorem notIo_put {ρ:Rho}{i j:Nat}{r:R}(h:notIo ρ j=true)(hr:∀ n,r.k ≠ .io n):notIo ((zy [i] ρ).set i (some r)) j=true:=by
 unfold notIo at h ⊢
 by_cases e:j=i
 ·subst e
  have hl:j < ρ.length:=by
   cases q : ρ[j]? with
   | none=>rw [q] at h;cases h
   | some o=>exact (List.getElem?_eq_some_iff.mp q).1
  rw [List.getElem?_set_self (by rw [zca];exact hl)]
  obtain⟨k,t⟩:=r
  cases k with
  | io n=>exact absurd rfl (hr n)
  | _=>rfl
 ·rw [List.getElem?_set_ne (Ne.symm e)]
  unfold zy
  rw [List.getElem?_map]
  cases q : ρ[j]? with
  | none=>rw [q] at h;cases h
  | some o=>
   rw [q] at h
   cases o with
   | none=>rfl
   | some x=>
    show (match some (zqd [i] (some x)) with | some (some ⟨.io _,_⟩)=>false | some _=>true | none=>false)=true
    cases hk:zqd [i] (some x) with
    | none=>rfl
    | some y=>
     obtain⟨e1,_⟩:=killO_iff.mp hk
     cases e1
     exact h
noncomputable def notIoR (r:R):Bool:=match r.k with
 | .io _=>false
 | _=>true
theorem ref_par {i j:Nat}{ta:TA}{a:MA}(ha:RefA K ta a)(hio:∀ ρ rs ρ',a.run ρ=some (rs,ρ')->True):RefS K (tPar i j ta) (mPar i j ⟨fun ρ=>match a.run ρ with
  | some (rs,ρ1)=>if rs.all notIoR=true then some (rs,ρ1) else none
  | none=>none,a.mu⟩):=by
 intro Γ H ρ σ E D f ρ' hK hE hr S q
 simp only [mPar] at hr q
 split at hr
 ·rename_i r1 r2 ρ1 e1
  split at e1
  ·rename_i rs ρ2 e2
   split at e1
   ·rename_i hall
    cases e1
    split at hr
    ·rename_i hb
     cases hr
     simp only [Bool.and_eq_true] at hb
     obtain⟨⟨⟨⟨b1,b2⟩,b3⟩,b4⟩,b5⟩:=hb
     refine ha Γ H ρ σ E _ _ _ hK e2 S fun vs H1 hl S1=>?_
     obtain⟨v,w,rfl⟩:∃ v w,vs = [v,w]:=by
      cases vs with
      | nil=>cases hl
      | cons v r=>cases r with
       | nil=>cases hl
       | cons w r=>cases r with
        | nil=>exact⟨v,w,rfl⟩
        | cons _ _=>cases hl
     have S1:Sim Γ H1 ρ1 σ (⟨none,v,r1⟩::⟨none,w,r2⟩::zm a.mu E):=S1
     refine⟨v,w,rfl,q _ H1 ?_⟩
     have S2:=S1.put b1 (alive_root b2)
     rw [zx (znb b3)] at S2
     have hr1:∀ n,r1.k ≠ .io n:=fun n z=>by
      have:=List.all_eq_true.mp hall r1 List.mem_cons_self
      unfold notIoR at this
      rw [z] at this
      cases this
     have S3:=S2.put (notIo_put b4 hr1) (alive_root b5)
     rw [zh,zh] at S3
     have:a.mu++([i]++[j])=a.mu++[i,j]:=rfl
     rw [← List.append_assoc] at this
     exact S3
    ·cases hr
   ·cases e1
  ·cases e1
 ·cases hr
@[irreducible] noncomputable def mPar2 (i j:Nat)(a:MA):MS:=mPar i j ⟨fun ρ=>match a.run ρ with
  | some (rs,ρ1)=>if rs.all notIoR=true then some (rs,ρ1) else none
  | none=>none,a.mu⟩
theorem qs_par (i j:Nat){x y:Str}{px py pt:Pos}{kt k2 pt2}(ck:CK C P W K mg base k)(hN:∀ i,(C i).N.Nodup)(ha:QA C K [a,b] ms)(hi:∀ n,(C n).N[i]?=some x:=by intro _;rfl)(hj:∀ n,(C n).N[j]?=some y:=by intro _;rfl)(hij:i≠j:=by decide)
  (hx:∀ n,(C n).env.scope.names.lookup x=some .local:=by intro _;rfl) (hy:∀ n,(C n).env.scope.names.lookup y=some .local:=by intro _;rfl)
  (hw:∀ n,swappedStores [.Tuple [.Name x px,.Name y py] kt pt] (.Tuple [a,b] k2 pt2) (C n).env=pure (some [x,y]):=by intro _;rfl)
  (hs:∀ n,swapsWithSole [.Tuple [.Name x px,.Name y py] kt pt] (.Tuple [a,b] k2 pt2) pos.line (C n).env=pure false:=by intro _;rfl) :
  QS C K (.Assign [.Tuple [.Name x px,.Name y py] kt pt] (.Tuple [a,b] k2 pt2) pos) (mPar2 i j ms):=by with_unfolding_all
 obtain⟨ta,p,_,r⟩:=ha
 exact⟨_,fun n=>ps_par (ck.calm n) (hN n) (hi n) (hj n) hij (hx n) (hy n) (p n) (hw n) (hs n),ref_par r (fun _ _ _ _=>trivial)⟩
theorem qs_while {body:List Stmt}(hp:∀ i,PassesOwn (model (C i).prog (C i).w) (C i).A (C i).env (C i).xe)(hc:QT C K c mt)(hb:QSs C K body s1):QS C K (.While c body [] pos) (mWhile mt s1):=by
 obtain⟨tc,p,r⟩:=hc
 obtain⟨tb,p',r'⟩:=hb
 exact⟨_,fun i=>ps_while (hp i) (p i) (p' i),ref_while r r'⟩
theorem zub {body:List Stmt}(ck:CK C P W K mg base k)(hp:∀ i,PassesOwn (model (C i).prog (C i).w) (C i).A (C i).env (C i).xe)(hi:QI C K tg iter it)(hg:QG C K none tg g)(hb:QSs C K body s1)(hs:∀ i x,foldedSetIterable iter (C i).env x=pure x:=by intro _ _;rfl):QS C K (.For tg iter body [] pos) (mFor it g s1):=by
 obtain⟨wi,p,r⟩:=hi
 obtain⟨tg',p1,r1,_⟩:=hg
 obtain⟨tb,p',r'⟩:=hb
 exact⟨_,fun i=>ps_for (hp i) (ck.calm i) (p i) (p1 i) (p' i) (hs i),ref_for r r1 r'⟩
theorem zz {p:Pos}(ck:CK C P W K mg base k)(T:Bi mg)(ha:QA C K [a] ms)(hg:∀ i,Gl (C i) "range" :=by intro _;rfl)(hs:zfc a=false:=by rfl):QI C K tg (.Call (.Name "range" p) [a] [] pos) (zdb ms):=by
 obtain⟨ta,q,_,r⟩:=ha
 exact⟨_,fun i=>pi_range1 (hg i) (by rw [ck.mg i];exact T.b_range) (q i) (by rw [zsa hs];rfl),ref_rng1 r⟩
theorem qi_range2 {p:Pos}(ck:CK C P W K mg base k)(T:Bi mg)(ha:QA C K [a,b] ms)(hg:∀ i,Gl (C i) "range" :=by intro _;rfl)(hs:zfc a=false:=by rfl)(hs2:zfc b=false:=by rfl):QI C K tg (.Call (.Name "range" p) [a,b] [] pos) (mRng2 ms):=by
 obtain⟨ta,q,_,r⟩:=ha
 exact⟨_,fun i=>pi_range2 (hg i) (by rw [ck.mg i];exact T.b_range) (q i) (by rw [zsa hs,zsa hs2];rfl) (by rw [zsa hs2];rfl),ref_rng2 r⟩
theorem PI.or {X:Cx}{w1 w2:TI}(h1:PI X tg iter w1)(h2:PI X tg iter w2):PI X tg iter (fun σ H R=>w1 σ H R ∨ w2 σ H R):=by
 intro pins s σ H R I h
 rcases h with h | h
 ·exact h1 pins s σ H R I h
 ·exact h2 pins s σ H R I h
noncomputable def itemsA:R->Option (List R)
 | ⟨_,.li is⟩=>some (is.map fun i=>⟨.ow,.im i⟩)
 | ⟨.vw ro _,.lst ts⟩=>some (ts.map (partV ro))
 | ⟨_,.im (.tup is)⟩=>some (is.map fun i=>⟨.ow,.im i⟩)
 | ⟨_,.im (.str z)⟩=>some ((sL z).map fun c=>⟨.ow,.im (.str ⟨#[c]⟩)⟩)
 | _=>none
@[irreducible] noncomputable def mIt (a:ME):MI:=⟨fun ρ=>match a.run ρ with
 | some (r,ρ1)=>(match itemsA r with
  | some rs=>some (([r],rs),ρ1)
  | none=>none)
 | none=>none,a.mu⟩
theorem walk_S2 {Γ:Gm}{z:Str}{v:V}{src:R}:WalkOk Γ (Its z) [v] [src] ((sL z).map fun c=>⟨.ow,.im (.str ⟨#[c]⟩)⟩):=fun H ρ σ E S=>by
 refine⟨fun i hi=>?_,fun i r hr=>?_⟩
 ·show z.cps.size<=i
  simpa [sL] using hi
 ·obtain⟨c,hc,rfl⟩:=zza hr
  have hc':z.cps[i]?=some c:=by simpa [sL] using hc
  refine⟨?_,fun x H' y=>?_⟩
  ·show i<z.cps.size
   exact (Array.getElem?_eq_some_iff.mp hc').1
  ·obtain⟨rfl,c',h1,rfl⟩:=y
   rw [hc'] at h1;cases h1
   exact S.imm (sc_rp rfl)
theorem ref_it {ta:TE}(ha:RefE K ta m):RefI K (fun σ H R=>iList K ta σ H R ∨ (iTup K ta σ H R ∨ iStr ta σ H R)) (mIt m):=by with_unfolding_all
 intro Γ H ρ σ E Rr src items ρ' hK hr S q
 simp only [mIt] at hr
 split at hr
 ·rename_i r ρ1 e1
  split at hr
  ·rename_i rs e2
   cases hr
   unfold itemsA at e2
   split at e2
   ·rename_i k0 is
    exact .inl (ref_itL ha Γ H ρ σ E Rr _ items ρ' hK (by simp only [mItL,e1,itemsL];cases e2;rfl) S q)
   ·exact .inl (ref_itL ha Γ H ρ σ E Rr _ items ρ' hK (by simp only [mItL,e1,itemsL];cases e2;rfl) S q)
   ·exact .inr (.inl (ref_itT ha Γ H ρ σ E Rr _ items ρ' hK (by simp only [mItT,e1,itemsT];cases e2;rfl) S q))
   ·rename_i k0 z
    cases e2
    right;right
    refine ha Γ H ρ σ E _ _ _ hK e1 S fun x H1 S1=>?_
    exact⟨z,zee (S1.rd List.mem_cons_self),q _ [x] H1 rfl S1 walk_S2⟩
   ·cases e2
  ·cases hr
 ·cases hr
theorem zxd (ck:CK C P W K mg base k)(ha:QE C K iter m):QI C K tg iter (mIt m):=by
 obtain⟨ta,q,r⟩:=ha
 exact⟨_,fun i=>PI.or (ilK (ck.kk i) (q i)) (PI.or (itK (ck.kk i) (q i)) (pi_text (q i))),ref_it r⟩
@[irreducible] noncomputable def mYes:MT:=⟨fun ρ=>some (true,ρ),[]⟩
theorem ref_yes:RefT K tYes mYes:=by with_unfolding_all
 intro Γ H ρ σ E Q b ρ' hK hr S q
 cases hr
 exact q H (by rw [show mYes.mu = [] from rfl,zgc];exact S)
theorem zab:QTs C K [] mYes:=⟨_,fun _=>pts_nil,ref_yes⟩
section
variable  {elt tg2 iter2:Expr}{ifs:List Expr}{scope:Scope}
theorem zue {N':List Str}{f:List (Option Nat)}(ck:CK C P W K mg base k)(hB:∀ i,Blk (C i).env.scope scope (C i).N N' f)(hi:QI C K tg iter it)(hg:QG (blkC C scope N') K (some f) tg g)(ht:QTs (blkC C scope N') K ifs mt)(he:QE (blkC C scope N') K elt m)(hs:∀ i x,foldedSetIterable iter (C i).env x=pure x:=by intro _ _;rfl) :
  QE C K (.ListComp elt [⟨tg,iter,ifs,0⟩] scope pos) (zrb f it g mt m):=by
 obtain⟨wi,p0,r0⟩:=hi
 obtain⟨gg,p1,r1,kk⟩:=hg
 obtain⟨tt,p2,r2⟩:=ht
 obtain⟨te,p3,r3⟩:=he
 exact⟨_,fun i=>pe_comp (ck.calm i) (hB i) (p0 i) (fun b=>p1 (i,b)) (kk f rfl) (fun b=>p2 (i,b)) (fun b=>p3 (i,b)) (hs i),ref_comp r0 (kk f rfl) r1 r2 r3⟩
theorem zjd (n:Nat){x:Str}{pos' spos:Pos}{N':List Str}{f:List (Option Nat)}(ck:CK C P W K mg base k)(hN:∀ i,(C i).N.Nodup)(hB:∀ i,Blk (C i).env.scope scope (C i).N N' f)(hi:QI C K tg iter it)(hg:QG (blkC C scope N') K (some f) tg g)(ht:QTs (blkC C scope N') K ifs mt)(he:QE (blkC C scope N') K elt m)(hn:∀ i,(C i).N[n]?=some x:=by intro _;rfl)(hx:∀ i,(C i).env.scope.names.lookup x=some .local:=by intro _;rfl)
  (hsw:∀ i,swapsWith (.ListComp elt [⟨tg,iter,ifs,0⟩] scope pos) (some (.Name x pos')) spos.line (C i).env=pure true:=by intro _;rfl) (hs:∀ i x,foldedSetIterable iter (C i).env x=pure x:=by intro _ _;rfl) :
  QS C K (.Assign [.Name x pos'] (.ListComp elt [⟨tg,iter,ifs,0⟩] scope pos) spos) (mAsg (zrb f it g mt m) (zn n)):=by
 obtain⟨wi,p0,r0⟩:=hi
 obtain⟨gg,p1,r1,kk⟩:=hg
 obtain⟨tt,p2,r2⟩:=ht
 obtain⟨te,p3,r3⟩:=he
 exact⟨_,fun i=>ps_setcomp (ck.calm i) (hN i) (hn i) (hx i) (hB i) (p0 i) (fun b=>p1 (i,b)) (kk f rfl) (fun b=>p2 (i,b)) (fun b=>p3 (i,b)) (hsw i) (hs i),ref_asg (ref_comp r0 (kk f rfl) r1 r2 r3) ref_name⟩
theorem q_comp2 {N':List Str}{f f2:List (Option Nat)}(ck:CK C P W K mg base k)(hB:∀ i,Blk (C i).env.scope scope (C i).N N' f)(hsub:sub2 f f2=true)(hi:QI C K tg iter it)(hg:QG (blkC C scope N') K (some f) tg g)(hi2:QI (blkC C scope N') K tg2 iter2 it2)(hg2:QG (blkC C scope N') K (some f2) tg2 g')(ht:QTs (blkC C scope N') K ifs mt)(he:QE (blkC C scope N') K elt m)(hs:∀ i x,foldedSetIterable iter (C i).env x=pure x:=by intro _ _;rfl)(hs2:∀ i b x,foldedSetIterable iter2 (cxB (C i) scope N' b).env x=pure x:=by intro _ _ _;rfl) :
  QE C K (.ListComp elt [⟨tg,iter,[],0⟩,⟨tg2,iter2,ifs,0⟩] scope pos) (mComp2 f f2 it g it2 g' mt m):=by
 obtain⟨wi,p0,r0⟩:=hi
 obtain⟨gg,p1,r1,kk⟩:=hg
 obtain⟨wi2,p4,r4⟩:=hi2
 obtain⟨gg2,p5,r5,kk2⟩:=hg2
 obtain⟨tt,p2,r2⟩:=ht
 obtain⟨te,p3,r3⟩:=he
 exact⟨_,fun i=>pe_comp2 (ck.calm i) (hB i) hsub (p0 i) (fun b=>p1 (i,b)) (kk f rfl) (fun b=>p4 (i,b)) (fun b=>p5 (i,b)) (kk2 f2 rfl) (fun b=>p2 (i,b)) (fun b=>p3 (i,b)) (hs i) (hs2 i),ref_comp2 r0 (kk f rfl) r1 r4 (kk2 f2 rfl) r5 r2 r3⟩
theorem qs_setcomp2 (n:Nat){x:Str}{pos' spos:Pos}{N':List Str}{f f2:List (Option Nat)}(ck:CK C P W K mg base k)(hN:∀ i,(C i).N.Nodup)(hB:∀ i,Blk (C i).env.scope scope (C i).N N' f)(hsub:sub2 f f2=true)(hi:QI C K tg iter it)(hg:QG (blkC C scope N') K (some f) tg g)(hi2:QI (blkC C scope N') K tg2 iter2 it2)(hg2:QG (blkC C scope N') K (some f2) tg2 g')(ht:QTs (blkC C scope N') K ifs mt)(he:QE (blkC C scope N') K elt m)(hn:∀ i,(C i).N[n]?=some x:=by intro _;rfl)(hx:∀ i,(C i).env.scope.names.lookup x=some .local:=by intro _;rfl)
  (hsw:∀ i,swapsWith (.ListComp elt [⟨tg,iter,[],0⟩,⟨tg2,iter2,ifs,0⟩] scope pos) (some (.Name x pos')) spos.line (C i).env=pure true:=by intro _;rfl) (hs:∀ i x,foldedSetIterable iter (C i).env x=pure x:=by intro _ _;rfl) (hs2:∀ i b x,foldedSetIterable iter2 (cxB (C i) scope N' b).env x=pure x:=by intro _ _ _;rfl) :
  QS C K (.Assign [.Name x pos'] (.ListComp elt [⟨tg,iter,[],0⟩,⟨tg2,iter2,ifs,0⟩] scope pos) spos) (mAsg (mComp2 f f2 it g it2 g' mt m) (zn n)):=by
 obtain⟨wi,p0,r0⟩:=hi
 obtain⟨gg,p1,r1,kk⟩:=hg
 obtain⟨wi2,p4,r4⟩:=hi2
 obtain⟨gg2,p5,r5,kk2⟩:=hg2
 obtain⟨tt,p2,r2⟩:=ht
 obtain⟨te,p3,r3⟩:=he
 exact⟨_,fun i=>ps_setcomp2 (ck.calm i) (hN i) (hn i) (hx i) (hB i) hsub (p0 i) (fun b=>p1 (i,b)) (kk f rfl) (fun b=>p4 (i,b)) (fun b=>p5 (i,b)) (kk2 f2 rfl) (fun b=>p2 (i,b)) (fun b=>p3 (i,b)) (hsw i) (hs i) (hs2 i),ref_asg (ref_comp2 r0 (kk f rfl) r1 r4 (kk2 f2 rfl) r5 r2 r3) ref_name⟩
end
end
structure DI (k:Nat)(name:Str)(st:Stmt) where
 f:Addr
 cdv:Value
 A:Around
 outer:List Env
 s:Shared
 H:Hp
 E:XK
 hr:Room k (A.deeper (envOfC name (zq st) s.heap.objs.size f cdv))
noncomputable abbrev dC (P:Program) (W:World) (K:PySem.W.Frag) (mg:Str->Option Value) (base:Heap) (k:Nat) (N:List Str) (name:Str) (st:Stmt):DI k name st->Cx:=fun d=>(cxOf CX0 P W K mg base N name (zq st) d.f d.cdv d.A d.outer d.s d.H d.E).nox
theorem za {N:List Str}{name:Str}{st:Stmt}:CK (dC P W K mg base k N name st) P W K mg base k:=
 ⟨fun _=>rfl,fun _=>rfl,fun _=>rfl,fun _=>rfl,fun _=>rfl,fun _=>rfl,fun d=>d.hr⟩
theorem Def.qp {name:Str}{st:Stmt}{N ps:List Str}(d:Def K mg name st ps)(S:FnScope N ps (zq st)){m:MS}(h:QSs (dC P W K mg base k N name st) K (zkb st) m)
  {run:List T->Option T} (hrun:∀ ts,run ts=if ts.length=ps.length then runP m N.length ts else none):Has P W K mg base (k+1) name ps (spP K run):=by
 obtain⟨t,p,r⟩:=h
 exact d.mp S (fun f cdv A outer s H E hr=>⟨t,p ⟨f,cdv,A,outer,s,H,E,hr⟩,r⟩) hrun
theorem Def.qi {name:Str}{st:Stmt}{N ps:List Str}{j:Nat}(d:Def K mg name st ps)(S:FnScope N ps (zq st)){m:MS}(h:QSs (dC P W K mg base k N name st) K (zkb st) m)
  {run:List T->Option (T×T)} (hrun:∀ ts,run ts=if ts.length=ps.length then runI m j N.length ts else none):Has P W K mg base (k+1) name ps (spI K j run):=by
 obtain⟨t,p,r⟩:=h
 exact d.mi S (fun f cdv A outer s H E hr=>⟨t,p ⟨f,cdv,A,outer,s,H,E,hr⟩,r⟩) hrun
end L2
namespace L2
open PySem PySem.Spec PyProof.Rows
section
variable  {Γ:Gm}{H H':Hp}{L:List Hd}{ρ:Rho}{σ:St}{E X:List En}{v w x y:V}{t s:T}{K:PySem.W.Frag}{Q:VK}
@[irreducible] noncomputable def mCallT (k:Nat)(run:List T->Option (T×T))(a:MA):ME:=⟨fun ρ=>match a.run ρ with
 | some (rs,ρ1)=>(match rs[k]? with
  | some ⟨.ow,_⟩=>(match run (rs.map (·.t)) with
   | some (t,_)=>some (⟨.ow,t⟩,ρ1)
   | none=>none)
  | _=>none)
 | none=>none,a.mu⟩
@[irreducible] noncomputable def mSubSl (j:Nat)(o:ME)(lo hi:ME):MG:=⟨fun r ρ=>match r with
 | ⟨.ow,.li ys⟩=>match o.run ρ with
  | some (⟨.vw (some j') (some p),.li xs⟩,ρ1)=>match lo.run ρ1 with
   | some (⟨_,.im (.int a)⟩,ρ2)=>match hi.run ρ2 with
    | some (⟨_,.im (.int c)⟩,ρ3)=>if (decide (j'=j) && !(lo.mu++hi.mu).contains j && decide (0<=a/\a<=c/\c<=xs.length/\xs.length+ys.length<=sizeLine))=true then (match ρ3[j]? with
     | some (some ⟨k,t⟩)=>if k.isOw=true then some ((zy [j] ρ3).set j (some ⟨k,t.put p (.li (xs.take a.toNat++ys++xs.drop c.toNat))⟩)) else none
     | _=>none) else none
    | _=>none
   | _=>none
  | _=>none
 | _=>none,(o.mu++(lo.mu++hi.mu))++[j]⟩
theorem ref_subsl {to tl th:TE}{o lo hi:ME}{j:Nat}(ho:RefE K to o)(hl:RefE K tl lo)(hh:RefE K th hi):RefG K (gSubSl to (tPart tl) (tPart th)) (mSubSl j o lo hi):=by
 intro Γ H ρ σ E Q v r ρ' hK hr S q
 simp only [mSubSl] at hr q
 split at hr
 ·rename_i ys
  split at hr
  ·rename_i j' p xs ρ1 e1
   split at hr
   ·rename_i k1 a ρ2 e2
    split at hr
    ·rename_i k2 c ρ3 e3
     split at hr
     ·rename_i hc
      rw [Bool.and_eq_true,Bool.and_eq_true,decide_eq_true_eq,Bool.not_eq_true',decide_eq_true_eq] at hc
      obtain⟨⟨rfl,hmv⟩,hz⟩:=hc
      split at hr
      ·rename_i k t e4
       split at hr
       ·rename_i hw
        cases hr
        refine ho Γ H ρ σ _ _ _ _ hK e1 S fun x H1 S1=>?_
        refine hl Γ H1 ρ1 σ _ _ _ _ hK e2 S1 fun ya H2 S2=>?_
        refine⟨a,zla (S2.rd List.mem_cons_self),?_⟩
        refine hh Γ H2 ρ2 σ _ _ _ _ hK e3 (S2.drop rfl) fun yc H3 S3=>?_
        refine⟨c,zla (S3.rd List.mem_cons_self),?_⟩
        have S4:=S3.drop rfl
        have k1':zia (lo.mu++hi.mu) ⟨none,x,⟨.vw (some j') (some p),.li xs⟩⟩=true:=by unfold zia;simp only [Kd.root];rw [hmv];rfl
        have k2':∀ M:List Nat,zia M ⟨none,v,⟨.ow,.li ys⟩⟩=true:=fun M=>rfl
        rw [zh,zx k1',zh,zx (k2' _)] at S4
        obtain⟨G,F,h1,h2,h3,h4,h5⟩:=Sim.mut (vs:=[v]) (ts:=[.li ys]) (S4.perm (List.Perm.swap _ _ _)) rfl e4 hw
        obtain⟨p0,xs',rfl,g1,g2,rfl⟩:=mu_li h1 fun a ha=>h4 a (List.mem_append_left _ ha)
        obtain⟨z,ez,g3⟩:=rps1 h2
        cases ez
        obtain⟨b0,ys',rfl,g4,g5,rfl⟩:=mu_li g3 fun a ha=>h4 a (List.mem_append_right _ ha)
        have hne:p0≠b0:=fun z=>by
         have:=h3
         rw [z] at this
         simp at this
        refine⟨p0,b0,xs',ys',a,c,rfl,rfl,rfl,rfl,g1,g4,hne,hz.1,hz.2.1,by rw [g2.length];exact hz.2.2.1,by rw [g2.length,g5.length];exact hz.2.2.2,?_⟩
        refine upd_li (Q:=fun _ H'=>Q σ H') (F:=[b0]) (v:=.non) (i:=.non) g1 (((g2.take _).append g5).append (g2.drop _)) zxb fun v' H' G' a1 a2 a3 a4 a5 _=>q σ H' ?_
        have:=h5 H' _ G' a1 a2 a3 a4 a5
        rw [zh] at this
        exact this
       ·cases hr
      ·cases hr
     ·cases hr
    ·cases hr
   ·cases hr
  ·cases hr
 ·cases hr
noncomputable def mNever:MS:=⟨fun _=>none,[]⟩
theorem ref_never {t:TS}:RefS K t mNever:=by
 intro Γ H ρ σ E D f ρ' hK hE hr S q
 cases hr
end
variable  {ι : Type}{C:ι->Cx}{P:Program}{W:World}{K:PySem.W.Frag}{mg:Str->Option Value}{base:Heap}{k:Nat}
section
variable  {a b c e o tg iter:Expr}{es:List Expr}{ma mb mc m mo mi ml mh:ME}{ms:MA}{pos:Pos}{mt mt':MT}{s1 s2:MS}{g g':MG}{gs:MGs}{it it2:MI}{fr:Option (List (Option Nat))}
end
end L2
namespace L2
open PySem PySem.Spec PyProof.Rows
section
variable  {Γ:Gm}{H H':Hp}{ρ:Rho}{σ:St}{E:List En}{v w x y:V}{t s:T}{K:PySem.W.Frag}{Q:VK}
@[irreducible] noncomputable def ze (n:Nat)(ms:MA):MA:=⟨fun ρ=>match ms.run ρ with
 | some (rs,ρ2)=>(match ρ2[n]? with
  | some (some r)=>(match ρ[n]? with
   | some (some _)=>some (rdR n r::rs,ρ2)
   | _=>none)
  | _=>none)
 | none=>none,ms.mu⟩
theorem ref_consV {n:Nat}{ta:TA}{ms:MA}(h2:RefA K ta ms):RefA K (tCons (tVar n) ta) (ze n ms):=by with_unfolding_all
 intro Γ H ρ σ E Q rs ρ' hK hr S q
 simp only [ze] at hr
 split at hr
 ·rename_i rs1 ρ2 e2
  split at hr
  ·rename_i r e3
   split at hr
   ·rename_i r0 e4
    cases hr
    obtain⟨v,hv,_⟩:=S.var e4
    refine⟨v,hv,?_⟩
    refine h2 Γ H ρ σ E _ rs1 _ hK e2 S fun vs H2 hl S2=>q (v::vs) H2 (by rw [List.length_cons,List.length_cons,hl]) ?_
    obtain⟨v',hv',S3⟩:=S2.var e3
    rw [hv] at hv'
    cases hv'
    exact S3
   ·cases hr
  ·cases hr
 ·cases hr
end
variable  {ι : Type}{C:ι->Cx}{P:Program}{W:World}{K:PySem.W.Frag}{mg:Str->Option Value}{base:Heap}{k:Nat}
section
variable  {a b c e o tg iter:Expr}{es:List Expr}{ma mb mc m mo mi ml mh:ME}{ms:MA}{pos:Pos}{mt mt':MT}{s1 s2:MS}{g g':MG}{gs:MGs}{it it2:MI}{fr:Option (List (Option Nat))}
theorem zc (n:Nat){x:Str}{p:Pos}(h2:QA C K es ms)(hN:∀ i,(C i).N[n]?=some x:=by intro _;rfl)(hv:∀ i,Vis (C i).env.scope x:=by first | exact fun _=>Or.inl rfl | exact fun _=>Or.inr (Or.inl rfl) | exact fun _=>Or.inr (Or.inr rfl))(hd:(x == ("__debug__" : Str))=false:=by decide)(hcd:(x == ("__classdict__" : Str))=false:=by decide):QA C K (.Name x p::es) (ze n ms):=by
 obtain⟨ta,c,n',d⟩:=h2
 exact⟨_,fun i=>zxc (pe_var (hN i) (hv i) hd hcd) (c i) rfl,by rw [zqa,n'];rfl,ref_consV d⟩
theorem qg_subsl (j:Nat){lo hi:Expr}{p2:Pos}(ho:QE C K o mo)(hl:QE C K lo ml)(hh:QE C K hi mh)
  (ha:∀ i v,assign (.Subscript o (.Slice (some lo) (some hi) none p2) pos) (C i).env v=(do
   let ov ← holding [v] (eval o (C i).env)
   let iv ← holding [v,ov] (eval (.Slice (some lo) (some hi) none p2) (C i).env)
   standAt pos
   holding [v,ov,iv] (setItem ov iv v)
   release [iv,v,ov] []):=by intro _ _;rfl):QG C K none (.Subscript o (.Slice (some lo) (some hi) none p2) pos) (mSubSl j mo ml mh):=by
 obtain⟨to,p,r⟩:=ho
 obtain⟨tl,p',r'⟩:=hl
 obtain⟨th,p'',r''⟩:=hh
 exact⟨_,fun i=>pg_subsl (p i) (po_some (p' i)) (po_some (p'' i)) (ha i),ref_subsl r r' r'',fun f h=>by cases h⟩
theorem qss_never {st:List Stmt}:QSs C K st mNever:=⟨fun _ _ _=>False,fun _ _ _ _ _ _ _ h=>h.elim,ref_never⟩
end
end L2
namespace L2
open PySem PySem.Spec PyProof.Rows
variable  {ι : Type}{C:ι->Cx}{P:Program}{W:World}{K:PySem.W.Frag}{mg:Str->Option Value}{base:Heap}{k:Nat}
section
variable  {Γ:Gm}{H:Hp}{ρ:Rho}{σ:St}{E:List En}
noncomputable def fgt (i:Nat) (ρ:Rho):Rho:=(zy [i] ρ).set i none
theorem Sim.fgt (S:Sim Γ H ρ σ E)(i:Nat):Sim Γ H (L2.fgt i ρ) σ (zm [i] E):=by
 have S1:=S.kill [i]
 unfold L2.fgt
 cases h:(zy [i] ρ)[i]? with
 | none=>rw [List.set_eq_of_length_le (by simpa using h)];exact S1
 | some o=>
  cases o with
  | none=>
   have:(zy [i] ρ).set i none=zy [i] ρ:=by
    apply List.ext_getElem?
    intro j
    by_cases e:i=j
    ·subst e
     have hl:=(List.getElem?_eq_some_iff.mp h).1
     rw [List.getElem?_set_self hl,h]
    ·rw [List.getElem?_set_ne e]
   rw [this];exact S1
  | some r=>
   obtain⟨v,hv⟩:=S1.al i r h
   have p:=zcb (k:=0) hv h
   have SL:SimL Γ H (⟨some (0+i),v,r⟩::(zm [i] E++ents 0 σ ((zy [i] ρ).set i none))):=S1.sl.perm ((List.Perm.append_left _ p).trans List.perm_middle)
   obtain⟨L,g,e⟩:=SL
   obtain⟨x,L',rfl,ex,eL⟩:=zba e
   have hno:∀ y∈zm [i] E++ents 0 σ (zy [i] ρ),y.r.k.root≠some i:=by
    rw [zzd,← zaa]
    exact noroot (by simp)
   refine⟨⟨L',g.dropK fun y hy j hj hr=>?_,eL⟩,fun m r' hm=>?_,by rw [List.length_set];exact S1.len,fun y hy j hj=>by rw [List.length_set];exact S1.hi y hy j hj⟩
   ·rw [ex] at hj
    have:j=i:=by simpa using hj.symm
    subst this
    have:y.e∈L'.map (·.e):=List.mem_map.mpr ⟨y,hy,rfl⟩
    rw [eL] at this
    have hp:=(List.Perm.append_left (zm [j] E) p).trans List.perm_middle
    exact hno y.e (hp.mem_iff.mpr (List.mem_cons_of_mem _ this)) hr
   ·by_cases e:i=m
    ·subst e
     rw [List.getElem?_set_self (List.getElem?_eq_some_iff.mp h).1] at hm
     cases hm
    ·rw [List.getElem?_set_ne e] at hm
     exact S1.al m r' hm
noncomputable def fgts:List Nat->Rho->Rho
 | [],ρ=>ρ
 | i::ks,ρ=>fgts ks (fgt i ρ)
theorem Sim.fgts:∀ {ks:List Nat} {ρ:Rho} {E:List En},Sim Γ H ρ σ E->Sim Γ H (L2.fgts ks ρ) σ (zm ks E)
 | [],ρ,E,S=>by rw [zgc];exact S
 | i::ks,ρ,E,S=>by
  have:=Sim.fgts (ks:=ks) (S.fgt i)
  rw [zh] at this
  exact this
@[irreducible] noncomputable def mFgt (ks:List Nat)(s:MS):MS:=⟨fun ρ=>match s.run ρ with
 | some (.nx,ρ1)=>some (.nx,fgts ks ρ1)
 | some (.ct,ρ1)=>some (.ct,fgts ks ρ1)
 | some (.rt t,ρ1)=>some (.rt t,ρ1)
 | some (.bk,ρ1)=>some (.bk,ρ1)
 | none=>none,s.mu++ks⟩
theorem ref_fgt {ks:List Nat}{ts:TS}{s:MS}(h:RefS K ts s):RefS K ts (mFgt ks s):=by
 intro Γ H ρ σ E D f ρ' hK hE hr S q
 simp only [mFgt] at hr q
 split at hr
 ·rename_i ρ1 e1
  cases hr
  exact h Γ H ρ σ E D _ _ hK hE e1 S fun σ' H' S'=>q σ' H' (by rw [← zh];exact S'.fgts)
 ·rename_i ρ1 e1
  cases hr
  exact h Γ H ρ σ E D _ _ hK hE e1 S fun σ' H' S'=>q σ' H' (by rw [← zh];exact S'.fgts)
 ·rename_i t ρ1 e1
  cases hr
  exact h Γ H ρ σ E D _ _ hK hE e1 S q.weak
 ·rename_i ρ1 e1
  cases hr
  exact h Γ H ρ σ E D _ _ hK hE e1 S q.weak
 ·cases hr
theorem qs_fgt (ks:List Nat){st:Stmt}{s:MS}(h:QS C K st s):QS C K st (mFgt ks s):=by
 obtain⟨t,p,r⟩:=h
 exact⟨t,p,ref_fgt r⟩
theorem zra (ks:List Nat){st:List Stmt}{s:MS}(h:QSs C K st s):QSs C K st (mFgt ks s):=by
 obtain⟨t,p,r⟩:=h
 exact⟨t,p,ref_fgt r⟩
end
end L2
namespace L2
open PySem PySem.Spec PyProof.Rows
structure W1 {α:Type}(o:Option α)(Q : α->Prop):Prop where
 ex:∃ x,o=some x/\Q x
structure W2 {α β:Type}(o:Option (α × β))(Q : α->β->Prop):Prop where
 ex:∃ x y,o=some (x,y)/\Q x y
structure WE (m:ME)(ρ:Rho)(Q:R->Rho->Prop):Prop where
 ex:∃ x y,m.run ρ=some (x,y)/\Q x y
structure WT (m:MT)(ρ:Rho)(Q:Bool->Rho->Prop):Prop where
 ex:∃ x y,m.run ρ=some (x,y)/\Q x y
structure WA (m:MA)(ρ:Rho)(Q:List R->Rho->Prop):Prop where
 ex:∃ x y,m.run ρ=some (x,y)/\Q x y
structure WS (m:MS)(ρ:Rho)(Q:Fl->Rho->Prop):Prop where
 ex:∃ x y,m.run ρ=some (x,y)/\Q x y
structure WG (m:MG)(r:R)(ρ:Rho)(Q:Rho->Prop):Prop where
 ex:∃ x,m.run r ρ=some x/\Q x
structure WGs (m:MGs)(rs:List R)(ρ:Rho)(Q:Rho->Prop):Prop where
 ex:∃ x,m.run rs ρ=some x/\Q x
structure WI (m:MI)(ρ:Rho)(Q:List R->List R->Rho->Prop):Prop where
 ex:∃ r rs ρ',m.run ρ=some ((r,rs),ρ')/\Q r rs ρ'
structure WO (m:MO)(ρ:Rho)(Q:Option Int->Rho->Prop):Prop where
 ex:∃ x y,m.run ρ=some (x,y)/\Q x y
structure Gu (b:Bool)(P:Prop):Prop where
 ex:b=true/\P
structure IsB (t:T)(Q:Bool->Prop):Prop where
 ex:∃ b,t = .im (.bl b)/\Q b
structure IsN (t:T)(Q:Int->Prop):Prop where
 ex:∃ n,t = .im (.int n)/\Q n
structure AtV (n:Nat)(ρ:Rho)(Q:R->Prop):Prop where
 ex:∃ r,ρ[n]?=some (some r)/\Q r
structure AtC (k j:Nat)(rs:List R)(ρ:Rho)(Q:List Ac->Kd->T->Prop):Prop where
 ex:∃ p t1 kd t0,rs[k]?=some ⟨.vw (some j) (some p),t1⟩/\((List.range rs.length).all fun m=>decide (m=k) || alive [j] (rs.getD m ⟨.ow,.im .non⟩))=true/\ρ[j]?=some (some ⟨kd,t0⟩)/\kd.isOw=true/\Q p kd t0
structure AtT (k:Nat)(rs:List R)(P:Prop):Prop where
 ex:∃ t1,rs[k]?=some ⟨.ow,t1⟩/\P
structure AtM (l:Nat)(ρ:Rho)(Q:Kd->T->Prop):Prop where
 ex:∃ k t,ρ[l]?=some (some ⟨k,t⟩)/\k.isOw=true/\Q k t
structure AtS (j:Nat)(r:R)(Q:List Ac->T->Prop):Prop where
 ex:∃ p s,r=⟨.vw (some j) (some p),s⟩/\Q p s
structure Two (rs:List R)(Q:R->R->Prop):Prop where
 ex:∃ r1 r2,rs = [r1,r2]/\Q r1 r2
structure Three (rs:List R)(Q:R->R->R->Prop):Prop where
 ex:∃ r1 r2 r3,rs = [r1,r2,r3]/\Q r1 r2 r3
structure Int1 (rs:List R)(Q:Int->Prop):Prop where
 ex:∃ n,rs.map (·.t) = [.im (.int n)]/\Q n
structure Int2 (rs:List R)(Q:Int->Int->Prop):Prop where
 ex:∃ m n,rs.map (·.t) = [.im (.int m),.im (.int n)]/\Q m n
theorem is_B {b:Bool}{Q:Bool->Prop}(q:Q b):IsB (.im (.bl b)) Q:=⟨b,rfl,q⟩
theorem is_N {n:Int}{Q:Int->Prop}(q:Q n):IsN (.im (.int n)) Q:=⟨n,rfl,q⟩
theorem at_V {n:Nat}{ρ:Rho}{r:R}{Q:R->Prop}(h : ρ[n]?=some (some r))(q:Q r):AtV n ρ Q:=⟨r,h,q⟩
theorem at_C {k j:Nat}{rs:List R}{ρ:Rho}{p:List Ac}{t1 t0:T}{kd:Kd}{Q:List Ac->Kd->T->Prop}(h1:rs[k]?=some ⟨.vw (some j) (some p),t1⟩)(h2:((List.range rs.length).all fun m=>decide (m=k) || alive [j] (rs.getD m ⟨.ow,.im .non⟩))=true)(h3 : ρ[j]?=some (some ⟨kd,t0⟩))(h4:kd.isOw=true)(q:Q p kd t0):AtC k j rs ρ Q:=⟨p,t1,kd,t0,h1,h2,h3,h4,q⟩
theorem at_M {l:Nat}{ρ:Rho}{k:Kd}{t:T}{Q:Kd->T->Prop}(h : ρ[l]?=some (some ⟨k,t⟩))(ho:k.isOw=true)(q:Q k t):AtM l ρ Q:=⟨k,t,h,ho,q⟩
theorem at_S {j:Nat}{p:List Ac}{s:T}{Q:List Ac->T->Prop}(q:Q p s):AtS j ⟨.vw (some j) (some p),s⟩ Q:=⟨p,s,rfl,q⟩
theorem two_of {r1 r2:R}{Q:R->R->Prop}(q:Q r1 r2):Two [r1,r2] Q:=⟨r1,r2,rfl,q⟩
theorem int1_of {rs:List R}{n:Int}{Q:Int->Prop}(h:rs.map (·.t) = [.im (.int n)])(q:Q n):Int1 rs Q:=⟨n,h,q⟩
theorem int2_of {rs:List R}{m n:Int}{Q:Int->Int->Prop}(h:rs.map (·.t) = [.im (.int m),.im (.int n)])(q:Q m n):Int2 rs Q:=⟨m,n,h,q⟩
section
variable  {α β:Type}{ρ:Rho}{a b c m:ME}{ms:MA}{ct ct':MT}{s1 s2:MS}{g:MG}{gs:MGs}{it:MI}{QE':R->Rho->Prop}{QT':Bool->Rho->Prop}{QA':List R->Rho->Prop}{Q:Fl->Rho->Prop}{QG':Rho->Prop}{P:Prop}{o:Option α}{x : α}{Q1 : α->Prop}
theorem w1 (h:o=some x)(q:Q1 x):W1 o Q1:=⟨x,h,q⟩
theorem W1.mono {Q2 : α->Prop}(h:W1 o Q1)(k:∀ x,Q1 x->Q2 x):W1 o Q2:=by obtain⟨x,e,q⟩:=h;exact⟨x,e,k x q⟩
theorem gu {b:Bool}(h:b=true)(p:P):Gu b P:=⟨h,p⟩
theorem WS.mono {Q2:Fl->Rho->Prop}(h:WS s1 ρ Q)(k:∀ f ρ,Q f ρ->Q2 f ρ):WS s1 ρ Q2:=by obtain⟨x,y,e,q⟩:=h;exact⟨x,y,e,k x y q⟩
theorem WG.mono {r:R}{Q1 Q2:Rho->Prop}(h:WG g r ρ Q1)(k:∀ ρ,Q1 ρ->Q2 ρ):WG g r ρ Q2:=by obtain⟨x,e,q⟩:=h;exact⟨x,e,k x q⟩
theorem WA.mono {Q1 Q2:List R->Rho->Prop}(h:WA ms ρ Q1)(k:∀ rs ρ,Q1 rs ρ->Q2 rs ρ):WA ms ρ Q2:=by obtain⟨x,y,e,q⟩:=h;exact⟨x,y,e,k x y q⟩
theorem WT.mono {Q1 Q2:Bool->Rho->Prop}(h:WT ct ρ Q1)(k:∀ b ρ,Q1 b ρ->Q2 b ρ):WT ct ρ Q2:=by obtain⟨x,y,e,q⟩:=h;exact⟨x,y,e,k x y q⟩
theorem WE.mono {Q2:R->Rho->Prop}(h:WE m ρ QE')(k:∀ f ρ,QE' f ρ->Q2 f ρ):WE m ρ Q2:=by obtain⟨x,y,e,q⟩:=h;exact⟨x,y,e,k x y q⟩
theorem w_C {i:I}(q:QE' ⟨.ow,.im i⟩ ρ):WE (mC i) ρ QE':=by with_unfolding_all exact⟨_,_,rfl,q⟩
theorem w_var {n:Nat}{r:R}(h : ρ[n]?=some (some r))(q:QE' (rdR n r) ρ):WE (mVar n) ρ QE':=⟨rdR n r,ρ,by simp only [mVar,h],q⟩
theorem w_op {f:T->T->Option T}(h:WE a ρ fun ra ρ1=>WE b ρ1 fun rb ρ2=>Gu (alive b.mu ra) (W1 (f ra.t rb.t) fun t=>QE' ⟨.ow,t⟩ ρ2)):WE (mOp f a b) ρ QE':=by
 obtain⟨ra,ρ1,e1,rb,ρ2,e2,al,t,e3,q⟩:=h
 exact⟨⟨.ow,t⟩,ρ2,by simp only [mOp,e1,e2,al,if_true,e3],q⟩
theorem w_un {f:T->Option T}(h:WE a ρ fun ra ρ1=>W1 (f ra.t) fun t=>QE' ⟨.ow,t⟩ ρ1):WE (mUn f a) ρ QE':=by
 obtain⟨ra,ρ1,e1,t,e3,q⟩:=h
 exact⟨⟨.ow,t⟩,ρ1,by simp only [mUn,e1,e3],q⟩
theorem w_B {f:List T->Option T}(h:WA ms ρ fun rs ρ1=>W1 (f (rs.map (·.t))) fun t=>QE' ⟨.ow,t⟩ ρ1):WE (mB f ms) ρ QE':=by
 obtain⟨ra,ρ1,e1,t,e3,q⟩:=h
 exact⟨⟨.ow,t⟩,ρ1,by simp only [mB,e1,e3],q⟩
theorem w_M {f:T->List T->Option T}(h:WE a ρ fun ra ρ1=>WA ms ρ1 fun rs ρ2=>Gu (alive ms.mu ra) (W1 (f ra.t (rs.map (·.t))) fun t=>QE' ⟨.ow,t⟩ ρ2)):WE (mM f a ms) ρ QE':=by
 obtain⟨ra,ρ1,e1,rb,ρ2,e2,al,t,e3,q⟩:=h
 exact⟨⟨.ow,t⟩,ρ2,by simp only [mM,e1,e2,al,if_true,e3],q⟩
theorem w_ix (h:WE a ρ fun ra ρ1=>WE b ρ1 fun rb ρ2=>Gu (alive b.mu ra) (W1 (ixR ra rb.t) fun r=>QE' r ρ2)):WE (mIx a b) ρ QE':=by
 obtain⟨ra,ρ1,e1,rb,ρ2,e2,al,r,e3,q⟩:=h
 exact⟨r,ρ2,by simp only [mIx,e1,e2,al,if_true,e3],q⟩
theorem wo_none {QO':Option Int->Rho->Prop}(q:QO' none ρ):WO mNoPart ρ QO':=by with_unfolding_all exact⟨_,_,rfl,q⟩
theorem wo_some {QO':Option Int->Rho->Prop}(h:WE a ρ fun r ρ1=>IsN r.t fun n=>QO' (some n) ρ1):WO (mPart a) ρ QO':=by
 obtain⟨⟨k,t⟩,ρ1,e1,n,e2,q⟩:=h
 cases e2
 exact⟨some n,ρ1,by simp only [mPart,e1],q⟩
theorem w_sl {lo hi:MO}(h:WE a ρ fun ra ρ1=>WO lo ρ1 fun l ρ2=>WO hi ρ2 fun u ρ3=>Gu (alive (lo.mu++hi.mu) ra) (W1 (slR ra l u) fun r=>QE' r ρ3)):WE (mSl a lo hi) ρ QE':=by
 obtain⟨ra,ρ1,e1,l,ρ2,e2,u,ρ3,e3,al,r,e4,q⟩:=h
 exact⟨r,ρ3,by simp only [mSl,e1,e2,e3,al,if_true,e4],q⟩
theorem w_andV (h:WE a ρ fun r ρ1=>IsB r.t fun bb=>(bb=true->WE b ρ1 QE')/\(bb=false->QE' ⟨.ow,.im (.bl false)⟩ ρ1)):WE (mAndV a b) ρ QE':=by
 obtain⟨⟨k,t⟩,ρ1,e1,bb,e2,q1,q2⟩:=h
 cases e2
 cases bb with
 | true=>obtain⟨p,ρ2,e,q⟩:=q1 rfl;exact⟨p,ρ2,by simp only [mAndV,e1,e],q⟩
 | false=>exact⟨_,_,by simp only [mAndV,e1],q2 rfl⟩
theorem w_notV (h:WE a ρ fun r ρ1=>IsB r.t fun bb=>QE' ⟨.ow,.im (.bl !bb)⟩ ρ1):WE (mNotV a) ρ QE':=by
 obtain⟨⟨k,t⟩,ρ1,e1,bb,e2,q⟩:=h
 cases e2
 exact⟨_,_,by simp only [mNotV,e1],q⟩
theorem w_lstD {mv:List Nat}(h:WA ms ρ fun rs ρ1=>Gu (decide (rs.length<=1000)) (W2 (consL mv rs ρ1) fun ts ρ2=>QE' ⟨.ow,zmc ts⟩ ρ2)):WE (zxa mv ms) ρ QE':=by
 obtain⟨rs,ρ1,e1,hl,ts,ρ2,e2,q⟩:=h
 exact⟨⟨.ow,zmc ts⟩,ρ2,by simp only [zxa,e1,if_pos (of_decide_eq_true hl),e2],q⟩
theorem w_tupD {mv:List Nat}(h:WA ms ρ fun rs ρ1=>Gu (decide (rs.length<=1000)) (W2 (consL mv rs ρ1) fun ts ρ2=>QE' ⟨.ow,mkTup ts⟩ ρ2)):WE (zda mv ms) ρ QE':=by
 obtain⟨rs,ρ1,e1,hl,ts,ρ2,e2,q⟩:=h
 exact⟨⟨.ow,mkTup ts⟩,ρ2,by simp only [zda,e1,if_pos (of_decide_eq_true hl),e2],q⟩
theorem w_callI {k j:Nat}{run:List T->Option (T×T)}(h:WA ms ρ fun rs ρ1=>AtC k j rs ρ1 fun p kd t0=>W2 (run (rs.map (·.t))) fun t s'=>QE' ⟨.ow,t⟩ ((zy [j] ρ1).set j (some ⟨kd,t0.put p s'⟩))):WE (zr k j run ms) ρ QE':=by
 obtain⟨rs,ρ1,e1,p,t1,kd,t0,e2,al,e3,ow,t,s',e4,q⟩:=h
 refine⟨⟨.ow,t⟩,(zy [j] ρ1).set j (some ⟨kd,t0.put p s'⟩),?_,q⟩
 simp only [zr,e1]
 simp only [e2]
 rw [if_pos (by rw [Bool.and_eq_true];exact⟨rfl,al⟩)]
 simp only [e4,e3,ow,if_true]
theorem w_mut {l:Nat}{mv:List Nat}{f:T->List T->Option (T×I)}(h:WE a ρ fun ra ρ1=>WA ms ρ1 fun rs ρ2=>Gu (alive ms.mu ra) (W2 (mutR l mv f ra rs ρ2) QE')):WE (mMut l mv f a ms) ρ QE':=by
 obtain⟨ra,ρ1,e1,rs,ρ2,e2,al,p,ρ3,e3,q⟩:=h
 exact⟨p,ρ3,by simp only [mMut,e1,e2,al,if_true,e3],q⟩
theorem w_mutR {l:Nat}{mv:List Nat}{f:T->List T->Option (T×I)}{p:List Ac}{s:T}{rs:List R}{QQ:R->Rho->Prop}(hm:mv.contains l=false)(h:W2 (consL mv rs ρ) fun ts ρ2=>AtM l ρ2 fun k t=>W2 (f s ts) fun s' res=>QQ ⟨.ow,.im res⟩ ((zy [l] ρ2).set l (some ⟨k,t.put p s'⟩))):W2 (mutR l mv f ⟨.vw (some l) (some p),s⟩ rs ρ) QQ:=by
 obtain⟨ts,ρ2,hc,k,t,ho,hk,s',res,e,q⟩:=h
 refine⟨_,_,?_,q⟩
 unfold mutR
 simp only [decide_true,hm,hc,e,ho,hk,Bool.not_false,Bool.and_self,if_true]
theorem wa_nil (q:QA' [] ρ):WA mNil ρ QA':=by with_unfolding_all exact⟨_,_,rfl,q⟩
theorem wa_cons (h:WE m ρ fun r ρ1=>WA ms ρ1 fun rs ρ2=>Gu (alive ms.mu r) (QA' (r::rs) ρ2)):WA (zf m ms) ρ QA':=by
 obtain⟨ra,ρ1,e1,rb,ρ2,e2,al,q⟩:=h
 exact⟨ra::rb,ρ2,by simp only [zf,e1,e2,al,if_true],q⟩
theorem wa_consV {n:Nat}{r0:R}(h0 : ρ[n]?=some (some r0))(h:WA ms ρ fun rs ρ2=>AtV n ρ2 fun r=>QA' (rdR n r::rs) ρ2):WA (ze n ms) ρ QA':=by
 obtain⟨rs,ρ2,e1,r,e2,q⟩:=h
 exact⟨rdR n r::rs,ρ2,by simp only [ze,e1,e2,h0],q⟩
theorem wt_test (h:WE a ρ fun r ρ1=>IsB r.t fun bb=>QT' bb ρ1):WT (zlb a) ρ QT':=by
 obtain⟨⟨k,t⟩,ρ1,e1,bb,e2,q⟩:=h
 cases e2
 exact⟨bb,ρ1,by simp only [zlb,e1],q⟩
theorem wt_not (h:WT ct ρ fun bb ρ1=>QT' (!bb) ρ1):WT (mNot ct) ρ QT':=by
 obtain⟨r,ρ1,e1,q⟩:=h
 exact⟨_,_,by simp only [mNot,e1],q⟩
theorem wt_and (h:WT ct ρ fun bb ρ1=>(bb=true->WT ct' ρ1 QT')/\(bb=false->QT' false ρ1)):WT (mAnd ct ct') ρ QT':=by
 obtain⟨bb,ρ1,e1,q1,q2⟩:=h
 cases bb with
 | true=>obtain⟨p,ρ2,e,q⟩:=q1 rfl;exact⟨p,ρ2,by simp only [mAnd,e1,e],q⟩
 | false=>exact⟨_,_,by simp only [mAnd,e1],q2 rfl⟩
theorem wt_or (h:WT ct ρ fun bb ρ1=>(bb=true->QT' true ρ1)/\(bb=false->WT ct' ρ1 QT')):WT (mOr ct ct') ρ QT':=by
 obtain⟨bb,ρ1,e1,q1,q2⟩:=h
 cases bb with
 | false=>obtain⟨p,ρ2,e,q⟩:=q2 rfl;exact⟨p,ρ2,by simp only [mOr,e1,e],q⟩
 | true=>exact⟨_,_,by simp only [mOr,e1],q1 rfl⟩
theorem wt_yes (q:QT' true ρ):WT mYes ρ QT':=by with_unfolding_all exact⟨_,_,rfl,q⟩
theorem wg_name {i:Nat}{r:R}(h:(notIo ρ i && alive [i] r)=true)(q:QG' ((zy [i] ρ).set i (some r))):WG (zn i) r ρ QG':=⟨(zy [i] ρ).set i (some r),by simp only [zn,h,if_true],q⟩
theorem wgs_nil (q:QG' ρ):WGs mGNil [] ρ QG':=by with_unfolding_all exact⟨_,rfl,q⟩
theorem wgs_cons {r:R}{rs:List R}(al:rs.all (alive g.mu)=true)(h:WG g r ρ fun ρ1=>WGs gs rs ρ1 QG'):WGs (zib g gs) (r::rs) ρ QG':=by
 obtain⟨ρ1,e1,ρ2,e2,q⟩:=h
 exact⟨ρ2,by simp only [zib,al,if_true,e1,e2],q⟩
theorem wg_tup {r:R}{rs:List R}(hp:parts r=some rs)(h:WGs gs rs ρ QG'):WG (mGTup gs) r ρ QG':=by
 obtain⟨ρ2,e2,q⟩:=h
 exact⟨ρ2,by simp only [mGTup,hp,e2],q⟩
theorem wg_sub {j:Nat}{tv:T}(h:WE a ρ fun ra ρ1=>WE b ρ1 fun rb ρ2=>AtS j ra fun p s=>Gu (!b.mu.contains j) (AtM j ρ2 fun k t=>W1 (setT s rb.t tv) fun s'=>QG' ((zy [j] ρ2).set j (some ⟨k,t.put p s'⟩)))):WG (mSub j a b) ⟨.ow,tv⟩ ρ QG':=by
 obtain⟨ra,ρ1,e1,rb,ρ2,e2,p,s,rfl,hm,k,t,e3,ow,s',e4,q⟩:=h
 refine⟨_,?_,q⟩
 simp only [mSub,e1,e2,hm,decide_true,Bool.and_self,if_true,e4,e3,ow]
theorem wg_subsl {j:Nat}{ys:List I}(h:WE a ρ fun ra ρ1=>WE b ρ1 fun rb ρ2=>WE c ρ2 fun rc ρ3=>∃ p xs k t i n,ra=⟨.vw (some j) (some p),.li xs⟩/\rb.t = .im (.int i)/\rc.t = .im (.int n)/\(b.mu++c.mu).contains j=false/\(0<=i/\i<=n/\n<=xs.length/\xs.length+ys.length<=sizeLine)/\ρ3[j]?=some (some ⟨k,t⟩)/\k.isOw=true/\QG' ((zy [j] ρ3).set j (some ⟨k,t.put p (.li (xs.take i.toNat++ys++xs.drop n.toNat))⟩))):WG (mSubSl j a b c) ⟨.ow,.li ys⟩ ρ QG':=by
 obtain⟨ra,ρ1,e1,⟨_,_⟩,ρ2,e2,⟨_,_⟩,ρ3,e3,p,xs,k,t,i,n,rfl,rfl,rfl,hm,hz,e4,ow,q⟩:=h
 refine⟨_,?_,q⟩
 simp only [mSubSl,e1,e2,e3,hm,decide_true,Bool.not_false,Bool.true_and]
 rw [if_pos (decide_eq_true hz)]
 simp only [e4,ow,if_true]
theorem w_next (q:Q .nx ρ):WS mNext ρ Q:=by with_unfolding_all exact⟨_,_,rfl,q⟩
@[irreducible] noncomputable def fSeq (b:MS)(Q:Fl->Rho->Prop):Fl->Rho->Prop
 | .nx,ρ=>WS b ρ Q
 | .rt t,ρ=>Q (.rt t) ρ
 | .bk,ρ=>Q .bk ρ
 | .ct,ρ=>Q .ct ρ
theorem w_seq (h:WS s1 ρ (fSeq s2 Q)):WS (mSeq s1 s2) ρ Q:=by with_unfolding_all
 obtain⟨f,ρ1,e1,q⟩:=h
 cases f with
 | nx=>have q:WS s2 ρ1 Q:=q;obtain⟨p,ρ2,e,q⟩:=q;exact⟨p,ρ2,by simp only [mSeq,e1,e],q⟩
 | rt t=>exact⟨.rt t,ρ1,by simp only [mSeq,e1],q⟩
 | bk=>exact⟨.bk,ρ1,by simp only [mSeq,e1],q⟩
 | ct=>exact⟨.ct,ρ1,by simp only [mSeq,e1],q⟩
theorem w_if (h:WT ct ρ fun bb ρ1=>(bb=true->WS s1 ρ1 Q)/\(bb=false->WS s2 ρ1 Q)):WS (mIf ct s1 s2) ρ Q:=by
 obtain⟨bb,ρ1,e1,q1,q2⟩:=h
 cases bb with
 | true=>obtain⟨p,ρ2,e,q⟩:=q1 rfl;exact⟨p,ρ2,by simp only [mIf,e1,e],q⟩
 | false=>obtain⟨p,ρ2,e,q⟩:=q2 rfl;exact⟨p,ρ2,by simp only [mIf,e1,e],q⟩
theorem w_drop (h:WE m ρ fun _ ρ1=>Q .nx ρ1):WS (zhc m) ρ Q:=by
 obtain⟨r,ρ1,e1,q⟩:=h
 exact⟨.nx,ρ1,by simp only [zhc,e1],q⟩
theorem w_asg (h:WE m ρ fun r ρ1=>WG g r ρ1 fun ρ2=>Q .nx ρ2):WS (mAsg m g) ρ Q:=by
 obtain⟨r,ρ1,e1,ρ2,e2,q⟩:=h
 exact⟨.nx,ρ2,by simp only [mAsg,e1,e2],q⟩
theorem w_ret (h:WE m ρ fun r ρ1=>W2 (retR r ρ1) fun t ρ2=>Q (.rt t) ρ2):WS (mRet m) ρ Q:=by
 obtain⟨r,ρ1,e1,t,ρ2,e2,q⟩:=h
 exact⟨.rt t,ρ2,by simp only [mRet,e1,e2],q⟩
theorem w_par {i j:Nat}(h:WA ms ρ fun rs ρ1=>Two rs fun r1 r2=>Gu (notIoR r1 && notIoR r2) (Gu (notIo ρ1 i && alive [i] r1 && alive [i] r2 && notIo ρ1 j && alive [j] r2) (Q .nx ((zy [j] ((zy [i] ρ1).set i (some r1))).set j (some r2))))):WS (mPar2 i j ms) ρ Q:=by
 obtain⟨rs,ρ1,e1,r1,r2,rfl,hb,hc,q⟩:=h
 refine⟨.nx,(zy [j] ((zy [i] ρ1).set i (some r1))).set j (some r2),?_,q⟩
 rw [Bool.and_eq_true] at hb
 simp only [mPar2,mPar,e1,List.all_cons,List.all_nil,hb.1,hb.2,Bool.and_true,Bool.and_self,if_true,hc]
@[irreducible] noncomputable def fFgt (ks:List Nat)(Q:Fl->Rho->Prop):Fl->Rho->Prop
 | .nx,ρ=>Q .nx (fgts ks ρ)
 | .ct,ρ=>Q .ct (fgts ks ρ)
 | .rt t,ρ=>Q (.rt t) ρ
 | .bk,ρ=>Q .bk ρ
theorem w_fgt {ks:List Nat}(h:WS s1 ρ (fFgt ks Q)):WS (mFgt ks s1) ρ Q:=by with_unfolding_all
 obtain⟨f,ρ1,e1,q⟩:=h
 cases f with
 | nx=>exact⟨_,_,by simp only [mFgt,e1],q⟩
 | ct=>exact⟨_,_,by simp only [mFgt,e1],q⟩
 | rt t=>exact⟨_,_,by simp only [mFgt,e1],q⟩
 | bk=>exact⟨_,_,by simp only [mFgt,e1],q⟩
noncomputable def fFor (Inv:Nat->Rho->Prop) (i:Nat) (Q:Fl->Rho->Prop):Fl->Rho->Prop
 | .nx,ρ=>Inv (i+1) ρ
 | .ct,ρ=>Inv (i+1) ρ
 | .bk,ρ=>Q .nx ρ
 | .rt t,ρ=>Q (.rt t) ρ
theorem for_run {items:List R}(Inv:Nat->Rho->Prop)(hs:∀ i r ρ,items[i]?=some r->Inv i ρ->WG g r ρ fun ρ1=>WS s1 ρ1 (fFor Inv i Q))(he:∀ ρ,Inv items.length ρ->Q .nx ρ):∀ (l:List R) (i:Nat) (ρ:Rho),items.drop i=l->i<=items.length->Inv i ρ->W2 (forRun g.run s1.run l ρ) Q
 | [],i,ρ,hl,hi,hI=>by
  have:i=items.length:=by have:=congrArg List.length hl;simp at this;omega
  subst this
  exact⟨_,_,rfl,he ρ hI⟩
 | r::l,i,ρ,hl,hi,hI=>by
  have hr:items[i]?=some r:=by rw [← List.head?_drop,hl];rfl
  have hlt:=(List.getElem?_eq_some_iff.mp hr).1
  have hl':items.drop (i+1)=l:=by rw [← List.drop_drop,hl];rfl
  obtain⟨ρ1,e1,f,ρ2,e2,q⟩:=hs i r ρ hr hI
  have k:=for_run Inv hs he l (i+1) ρ2 hl' hlt
  simp only [forRun,e1,e2]
  cases f with
  | nx=>exact k q
  | ct=>exact k q
  | bk=>exact⟨_,_,rfl,q⟩
  | rt t=>exact⟨_,_,rfl,q⟩
theorem w_for (h:WI it ρ fun src items ρ1=>Gu (src.all (alive (g.mu++s1.mu)) && items.all (alive (g.mu++s1.mu))) (∃ Inv:Nat->Rho->Prop,Inv 0 ρ1/\(∀ i r ρ,items[i]?=some r->Inv i ρ->WG g r ρ fun ρ1=>WS s1 ρ1 (fFor Inv i Q))/\∀ ρ,Inv items.length ρ->Q .nx ρ)):WS (mFor it g s1) ρ Q:=by
 obtain⟨src,items,ρ1,e1,al,Inv,h0,hs,he⟩:=h
 obtain⟨p,ρ2,e,q⟩:=for_run (Q:=Q) Inv hs he items 0 ρ1 rfl (Nat.zero_le _) h0
 exact⟨p,ρ2,by simp only [mFor,e1];rw [if_pos al];exact e,q⟩
theorem all_own {M:List Nat}{items:List R}(h:∀ r∈items,r.k = .ow):items.all (alive M)=true:=List.all_eq_true.mpr fun r hr=>by unfold alive zre;rw [h r hr];rfl
theorem w_forR {i:Nat}(h:WA ms ρ fun rs ρ1=>∃ n:Int,rs.map (·.t) = [.im (.int n)]/\-(2 ^ 62)<=n/\n<2 ^ 62/\(∃ Inv:Nat->Rho->Prop,Inv 0 ρ1/\(∀ (j:Nat) ρ,(j:Int)<n->Inv j ρ->WG (zn i) (rInt j) ρ fun ρ1=>WS s1 ρ1 (fFor Inv j Q))/\∀ ρ,Inv n.toNat ρ->Q .nx ρ)):WS (mFor (zdb ms) (zn i) s1) ρ Q:=by
 obtain⟨rs,ρ1,e1,n,e2,h1,h2,Inv,h0,hs,he⟩:=h
 refine w_for ⟨[rNon],rngI 0 n.toNat,ρ1,by simp only [zdb,e1,e2,l1,isI];rw [if_pos ⟨h1,h2⟩],?_,Inv,h0,fun j r ρ hr hI=>?_,fun ρ hI=>he ρ (by simpa [rngI] using hI)⟩
 ·rw [Bool.and_eq_true]
  exact⟨rfl,all_own fun r hr=>by obtain⟨x,_,rfl⟩:=List.mem_map.mp hr;rfl⟩
 ·obtain⟨x,hx,rfl⟩:=zza hr
  obtain⟨a1,a2⟩:=List.getElem?_eq_some_iff.mp hx
  simp at a1 a2
  subst a2
  have:=hs j ρ (by omega) hI
  rw [Int.zero_add]
  exact this
theorem w_forR2 {i:Nat}(h:WA ms ρ fun rs ρ1=>∃ m n:Int,rs.map (·.t) = [.im (.int m),.im (.int n)]/\(-(2 ^ 62)<=m/\m<2 ^ 62/\-(2 ^ 62)<=n/\n<2 ^ 62)/\(∃ Inv:Nat->Rho->Prop,Inv 0 ρ1/\(∀ (j:Nat) ρ,m+(j:Int)<n->Inv j ρ->WG (zn i) (rInt (m+j)) ρ fun ρ1=>WS s1 ρ1 (fFor Inv j Q))/\∀ ρ,Inv (n - m).toNat ρ->Q .nx ρ)):WS (mFor (mRng2 ms) (zn i) s1) ρ Q:=by
 obtain⟨rs,ρ1,e1,m,n,e2,h1,Inv,h0,hs,he⟩:=h
 refine w_for ⟨[rNon],rngI m (n - m).toNat,ρ1,by simp only [mRng2,e1,e2,l2,l1,ii2,isI];rw [if_pos h1],?_,Inv,h0,fun j r ρ hr hI=>?_,fun ρ hI=>he ρ (by simpa [rngI] using hI)⟩
 ·rw [Bool.and_eq_true]
  exact⟨rfl,all_own fun r hr=>by obtain⟨x,_,rfl⟩:=List.mem_map.mp hr;rfl⟩
 ·obtain⟨x,hx,rfl⟩:=zza hr
  obtain⟨a1,a2⟩:=List.getElem?_eq_some_iff.mp hx
  simp at a1 a2
  subst a2
  exact hs j ρ (by omega) hI
theorem w_forI (h:WE m ρ fun r ρ1=>∃ is:List I,itemsA r=some (is.map fun i=>⟨.ow,.im i⟩)/\alive (g.mu++s1.mu) r=true/\(∃ Inv:Nat->Rho->Prop,Inv 0 ρ1/\(∀ j x ρ,is[j]?=some x->Inv j ρ->WG g ⟨.ow,.im x⟩ ρ fun ρ1=>WS s1 ρ1 (fFor Inv j Q))/\∀ ρ,Inv is.length ρ->Q .nx ρ)):WS (mFor (mIt m) g s1) ρ Q:=by
 obtain⟨r,ρ1,e1,is,e2,al,Inv,h0,hs,he⟩:=h
 refine w_for ⟨[r],is.map (fun i=>⟨.ow,.im i⟩),ρ1,by simp only [mIt,e1,e2],?_,Inv,h0,fun j r ρ hr hI=>?_,fun ρ hI=>he ρ (by simpa using hI)⟩
 ·rw [Bool.and_eq_true]
  exact⟨by rw [List.all_cons,List.all_nil,al];rfl,all_own fun r hr=>by obtain⟨x,_,rfl⟩:=List.mem_map.mp hr;rfl⟩
 ·obtain⟨x,hx,rfl⟩:=zza hr
  exact hs j x ρ hx hI
theorem w_while (Inv:Nat->Rho->Prop)(n:Nat)(h0:Inv n ρ) (hs:∀ n ρ,Inv n ρ->WT ct ρ fun bb ρ1=>(bb=false->Q .nx ρ1)/\(bb=true->WS s1 ρ1 fun f ρ2=>match f with
  | .nx=>∃ m,m<n/\Inv m ρ2
  | .ct=>∃ m,m<n/\Inv m ρ2
  | .bk=>Q .nx ρ2
  | .rt t=>Q (.rt t) ρ2)):WS (mWhile ct s1) ρ Q:=by
 have key:∀ n ρ,Inv n ρ->W2 (itW ct s1 (n+1) ρ) Q:=by
  intro n
  induction n using Nat.strongRecOn with
  | _ n ih=>
   intro ρ hI
   obtain⟨bb,ρ1,e1,q1,q2⟩:=hs n ρ hI
   cases bb with
   | false=>exact⟨.nx,ρ1,by simp only [itW,e1],q1 rfl⟩
   | true=>
    obtain⟨f,ρ2,e2,q⟩:=q2 rfl
    cases f with
    | nx=>
     obtain⟨m,hm,hI'⟩:=q
     obtain⟨p,ρ3,e,q⟩:=ih m hm ρ2 hI'
     exact⟨p,ρ3,by simp only [itW,e1,e2];exact zpe e _ (by omega),q⟩
    | ct=>
     obtain⟨m,hm,hI'⟩:=q
     obtain⟨p,ρ3,e,q⟩:=ih m hm ρ2 hI'
     exact⟨p,ρ3,by simp only [itW,e1,e2];exact zpe e _ (by omega),q⟩
    | bk=>exact⟨.nx,ρ2,by simp only [itW,e1,e2],q⟩
    | rt t=>exact⟨.rt t,ρ2,by simp only [itW,e1,e2],q⟩
 obtain⟨p,ρ3,e,q⟩:=key n ρ h0
 exact⟨p,ρ3,while_run e,q⟩
theorem comp_run {fr:List (Option Nat)}{M:List Nat}{items:List R}{QC:List T->Rho->Prop}(Inv:Nat->List T->Rho->Prop)
  (hs:∀ i r acc ρ,items[i]?=some r->Inv i acc ρ->WG g (renR (piF fr) r) (inR fr ρ) fun ρ1=>WT ct ρ1 fun bb ρ2=>(bb=true->WE m ρ2 fun r ρ3=>∃ t,r=⟨.ow,t⟩/\Inv (i+1) (acc++[t]) (outR fr M ρ3 ρ))/\(bb=false->Inv (i+1) acc (outR fr M ρ2 ρ)))
  (he:∀ acc ρ,Inv items.length acc ρ->QC acc ρ):∀ (l:List R) (i:Nat) (acc:List T) (ρ:Rho),items.drop i=l->i<=items.length->Inv i acc ρ->W2 (zya fr M g ct m l ρ acc) QC
 | [],i,acc,ρ,hl,hi,hI=>by
  have:i=items.length:=by have:=congrArg List.length hl;simp at this;omega
  subst this
  exact⟨_,_,rfl,he acc ρ hI⟩
 | r::l,i,acc,ρ,hl,hi,hI=>by
  have hr:items[i]?=some r:=by rw [← List.head?_drop,hl];rfl
  have hlt:=(List.getElem?_eq_some_iff.mp hr).1
  have hl':items.drop (i+1)=l:=by rw [← List.drop_drop,hl];rfl
  obtain⟨ρ1,e1,bb,ρ2,e2,q1,q2⟩:=hs i r acc ρ hr hI
  cases bb with
  | true=>
   obtain⟨r',ρ3,e3,t,rfl,q⟩:=q1 rfl
   simp only [zya,e1,e2,e3]
   exact comp_run Inv hs he l (i+1) _ _ hl' hlt q
  | false=>
   simp only [zya,e1,e2]
   exact comp_run Inv hs he l (i+1) _ _ hl' hlt (q2 rfl)
theorem w_comp {fr:List (Option Nat)} (h:WI it ρ fun src items ρ1=>Gu (frOk fr ρ1.length && ltAll (g.mu++(ct.mu++m.mu)) fr.length && src.all (alive (muF fr (g.mu++(ct.mu++m.mu))))) (items.length<sizeLine/\∃ Inv:Nat->List T->Rho->Prop,Inv 0 [] ρ1 ∧
  (∀ i r acc ρ,items[i]?=some r->Inv i acc ρ->WG g (renR (piF fr) r) (inR fr ρ) fun ρ1=>WT ct ρ1 fun bb ρ2=>(bb=true->WE m ρ2 fun r ρ3=>∃ t,r=⟨.ow,t⟩/\Inv (i+1) (acc++[t]) (outR fr (g.mu++(ct.mu++m.mu)) ρ3 ρ))/\(bb=false->Inv (i+1) acc (outR fr (g.mu++(ct.mu++m.mu)) ρ2 ρ))) ∧
  ∀ acc ρ,Inv items.length acc ρ->QE' ⟨.ow,zmc acc⟩ ρ)):WE (zrb fr it g ct m) ρ QE':=by
 obtain⟨src,items,ρ1,e1,al,hl,Inv,h0,hs,he⟩:=h
 obtain⟨ts,ρ2,e,q⟩:=comp_run (QC:=fun acc ρ=>QE' ⟨.ow,zmc acc⟩ ρ) Inv hs he items 0 [] ρ1 rfl (Nat.zero_le _) h0
 refine⟨⟨.ow,zmc ts⟩,ρ2,?_,q⟩
 simp only [zrb,e1]
 rw [if_pos (by rw [Bool.and_eq_true];exact⟨al,decide_eq_true hl⟩)]
 simp only [e]
theorem wi_rng1 {QI':List R->List R->Rho->Prop}(h:WA ms ρ fun rs ρ1=>∃ n:Int,rs.map (·.t) = [.im (.int n)]/\(-(2 ^ 62)<=n/\n<2 ^ 62)/\QI' [rNon] (rngI 0 n.toNat) ρ1):WI (zdb ms) ρ QI':=by
 obtain⟨rs,ρ1,e1,n,e2,h1,q⟩:=h
 exact⟨_,_,_,by simp only [zdb,e1,e2,l1,isI];rw [if_pos h1],q⟩
theorem wi_rng2 {QI':List R->List R->Rho->Prop}(h:WA ms ρ fun rs ρ1=>∃ m n:Int,rs.map (·.t) = [.im (.int m),.im (.int n)]/\(-(2 ^ 62)<=m/\m<2 ^ 62/\-(2 ^ 62)<=n/\n<2 ^ 62)/\QI' [rNon] (rngI m (n - m).toNat) ρ1):WI (mRng2 ms) ρ QI':=by
 obtain⟨rs,ρ1,e1,m,n,e2,h1,q⟩:=h
 exact⟨_,_,_,by simp only [mRng2,e1,e2,l2,l1,ii2,isI];rw [if_pos h1],q⟩
theorem wi_seq {QI':List R->List R->Rho->Prop}(h:WE m ρ fun r ρ1=>W1 (itemsA r) fun rs=>QI' [r] rs ρ1):WI (mIt m) ρ QI':=by
 obtain⟨r,ρ1,e1,rs,e2,q⟩:=h
 exact⟨[r],rs,ρ1,by simp only [mIt,e1,e2],q⟩
end
end L2
namespace L2
open PySem PySem.Spec PyProof.Rows
section
variable  {α β:Type}{ρ:Rho}{QT1:T->Prop}{QR:R->Prop}{QI1:T->I->Prop}{m:MS}{n k:Nat}{ts:List T}
@[irreducible] noncomputable def fP (R:T->Prop):Fl->Rho->Prop
 | .rt t,_=>R t
 | .nx,_=>R (.im .non)
 | _,_=>False
@[irreducible] noncomputable def fI (k:Nat)(R:T->T->Prop):Fl->Rho->Prop
 | .rt t,ρ=>∃ s',ρ[k]?=some (some ⟨.io 0,s'⟩)/\R t s'
 | .nx,ρ=>∃ s',ρ[k]?=some (some ⟨.io 0,s'⟩)/\R (.im .non) s'
 | _,_=>False
theorem runP_ok {run:List T->Option T}{l:Nat}(hrun:run ts=if ts.length=l then runP m n ts else none)(hl:ts.length=l)(h:WS m (zkd ts n) (fP QT1)):W1 (run ts) QT1:=by with_unfolding_all
 rw [hrun,if_pos hl]
 obtain⟨f,ρ,e,q⟩:=h
 cases f with
 | nx=>exact⟨_,by simp only [runP,e],q⟩
 | rt t=>exact⟨_,by simp only [runP,e],q⟩
 | bk=>cases q
 | ct=>cases q
theorem runI_ok {run:List T->Option (T×T)}{l:Nat}{Q2:T->T->Prop}(hrun:run ts=if ts.length=l then runI m k n ts else none)(hl:ts.length=l)(h:WS m (rStartI k ts n) (fI k Q2)):W2 (run ts) Q2:=by with_unfolding_all
 rw [hrun,if_pos hl]
 obtain⟨f,ρ,e,q⟩:=h
 cases f with
 | nx=>have q:∃ s',ρ[k]?=some (some ⟨.io 0,s'⟩)/\Q2 (.im .non) s':=q;obtain⟨s',e2,q⟩:=q;exact⟨_,_,by simp only [runI,e,e2],q⟩
 | rt t=>have q:∃ s',ρ[k]?=some (some ⟨.io 0,s'⟩)/\Q2 t s':=q;obtain⟨s',e2,q⟩:=q;exact⟨_,_,by simp only [runI,e,e2],q⟩
 | bk=>cases q
 | ct=>cases q
variable  {a b:Int}{s z:Str}{is js:List I}{i j:I}
theorem p_addI (q:QT1 (.im (.int (a+b)))):W1 (addT (.im (.int a)) (.im (.int b))) QT1:=by with_unfolding_all exact⟨_,rfl,q⟩
theorem p_addS (h:s.length+z.length<=sizeLine)(q:QT1 (.im (.str (s++z)))):W1 (addT (.im (.str s)) (.im (.str z))) QT1:=by with_unfolding_all exact⟨_,if_pos h,q⟩
theorem p_addT (h:is.length+js.length<=sizeLine)(q:QT1 (.im (.tup (is++js)))):W1 (addT (.im (.tup is)) (.im (.tup js))) QT1:=by with_unfolding_all exact⟨_,if_pos h,q⟩
theorem p_addL (h:is.length+js.length<=sizeLine)(q:QT1 (.li (is++js))):W1 (addT (.li is) (.li js)) QT1:=by with_unfolding_all exact⟨_,if_pos h,q⟩
theorem p_sub (q:QT1 (.im (.int (a - b)))):W1 (subT (.im (.int a)) (.im (.int b))) QT1:=by with_unfolding_all exact⟨_,rfl,q⟩
theorem mulL (h1 : -(2 ^ 64)<a)(h2:a<2 ^ 64):mulOk a b=true:=by unfold mulOk;simp only [h1,h2,decide_true,Bool.and_self,Bool.true_or]
theorem mulR (h1 : -(2 ^ 64)<b)(h2:b<2 ^ 64):mulOk a b=true:=by unfold mulOk;simp only [h1,h2,decide_true,Bool.and_self,Bool.or_true]
theorem p_mul (h:mulOk a b=true)(q:QT1 (.im (.int (a * b)))):W1 (mulT (.im (.int a)) (.im (.int b))) QT1:=by with_unfolding_all exact⟨_,if_pos h,q⟩
theorem p_mulT (h:is≠[]/\is.length<=1000/\1<=b/\b<=1000)(q:QT1 (.im (.tup (List.replicate b.toNat is).flatten))):W1 (mulT (.im (.tup is)) (.im (.int b))) QT1:=by with_unfolding_all exact⟨_,if_pos h,q⟩
theorem p_mulL (h : -(2 ^ 63)<=b/\b<2 ^ 63/\is.length * b.toNat<=sizeLine)(q:QT1 (.li (List.replicate b.toNat is).flatten)):W1 (mulT (.li is) (.im (.int b))) QT1:=by with_unfolding_all exact⟨_,if_pos h,q⟩
theorem p_fdiv (h:0<b/\b<2 ^ 64)(q:QT1 (.im (.int (a / b)))):W1 (fdivT (.im (.int a)) (.im (.int b))) QT1:=by with_unfolding_all exact⟨_,if_pos h,q⟩
theorem p_mod (h:0<b)(q:QT1 (.im (.int (a % b)))):W1 (modT (.im (.int a)) (.im (.int b))) QT1:=by with_unfolding_all exact⟨_,if_pos h,q⟩
theorem p_pow (h:0<=b/\b<=1000000/\a.natAbs<2 ^ 64)(q:QT1 (.im (.int (a ^ b.toNat)))):W1 (powT (.im (.int a)) (.im (.int b))) QT1:=by with_unfolding_all exact⟨_,if_pos h,q⟩
theorem p_cmp {p:Int->Int->Bool}(q:QT1 (.im (.bl (p a b)))):W1 (cmpT p (.im (.int a)) (.im (.int b))) QT1:=by with_unfolding_all exact⟨_,rfl,q⟩
theorem p_eqI (q:QT1 (.im (.bl (decide (a=b))))):W1 (eqT (.im (.int a)) (.im (.int b))) QT1:=by with_unfolding_all exact⟨_,rfl,by simpa using q⟩
theorem p_eqS (q:QT1 (.im (.bl (decide (s=z))))):W1 (eqT (.im (.str s)) (.im (.str z))) QT1:=by with_unfolding_all exact⟨_,rfl,by simpa using q⟩
theorem p_eqL (h:I.doks is=true/\I.doks js=true/\I.deps is<=50)(q:QT1 (.im (.bl (decide (is=js))))):W1 (eqT (.li is) (.li js)) QT1:=⟨_,by simp only [eqT,eqB];rw [if_pos h];rfl,q⟩
theorem inB_t (h:i.dok=true/\I.doks is=true/\I.deps is<=50):inB (.im i) (.im (.tup is))=some (decide (i∈is)):=by cases i<;>exact if_pos h
theorem p_inT (h:i.dok=true/\I.doks is=true/\I.deps is<=50)(q:QT1 (.im (.bl (decide (i∈is))))):W1 (inT (.im i) (.im (.tup is))) QT1:=⟨_,by unfold inT;rw [inB_t h];rfl,q⟩
theorem p_lenS (h:s.length<=sizeLine)(q:QT1 (.im (.int s.length))):W1 (lenT [.im (.str s)]) QT1:=by with_unfolding_all exact⟨_,if_pos h,q⟩
theorem p_lenT (q:QT1 (.im (.int is.length))):W1 (lenT [.im (.tup is)]) QT1:=by with_unfolding_all exact⟨_,rfl,q⟩
theorem p_lenL (q:QT1 (.im (.int is.length))):W1 (lenT [.li is]) QT1:=by with_unfolding_all exact⟨_,rfl,q⟩
theorem p_lenLL {us:List T}(q:QT1 (.im (.int us.length))):W1 (lenT [.lst us]) QT1:=by with_unfolding_all exact⟨_,rfl,q⟩
theorem p_min (q:QT1 (.im (.int (if b<a then b else a)))):W1 (minT [.im (.int a),.im (.int b)]) QT1:=by with_unfolding_all exact⟨_,rfl,q⟩
theorem p_max (q:QT1 (.im (.int (if b > a then b else a)))):W1 (maxT [.im (.int a),.im (.int b)]) QT1:=by with_unfolding_all exact⟨_,rfl,q⟩
theorem p_intB {c:Bool}(q:QT1 (.im (.int (if c then 1 else 0)))):W1 (intT [.im (.bl c)]) QT1:=by with_unfolding_all exact⟨_,rfl,q⟩
theorem p_tupL (q:QT1 (.im (.tup is))):W1 (tupT [.li is]) QT1:=by with_unfolding_all exact⟨_,rfl,q⟩
theorem p_lstL (q:QT1 (.li is)):W1 (lstT [.li is]) QT1:=by with_unfolding_all exact⟨_,rfl,q⟩
theorem atI_at {xs:List α}{x : α}{n:Nat}{i:Int}(hi:i=n)(h:xs[n]?=some x):atI xs i=some x:=by
 subst hi
 have:=(List.getElem?_eq_some_iff.mp h).1
 unfold atI ixN
 rw [if_pos (by omega),if_pos (by omega)]
 simpa using h
theorem atI_in {xs:List α}{i:Int}(h0:0<=i)(h1:i<xs.length):∃ x,atI xs i=some x/\xs[i.toNat]?=some x:=by
 have:i.toNat<xs.length:=by omega
 exact⟨xs[i.toNat],atI_at (n:=i.toNat) (by omega) (List.getElem?_eq_getElem this),List.getElem?_eq_getElem this⟩
theorem p_ixT {kd:Kd}{x:I}(h:atI is a=some x)(q:QR ⟨.ow,.im x⟩):W1 (ixR ⟨kd,.im (.tup is)⟩ (.im (.int a))) QR:=⟨_,by simp only [ixR,isI,ixX,ixI,h,Option.map_some],q⟩
theorem p_ixL {kd:Kd}{x:I}(h:atI is a=some x)(q:QR ⟨.ow,.im x⟩):W1 (ixR ⟨kd,.li is⟩ (.im (.int a))) QR:=⟨_,by simp only [ixR,isI,ixX,ixI,h,Option.map_some],q⟩
theorem p_ixTk {kd:Kd}(h0:0<=a)(h1:a<is.length)(q:∀ x,is[a.toNat]?=some x->QR ⟨.ow,.im x⟩):W1 (ixR ⟨kd,.im (.tup is)⟩ (.im (.int a))) QR:=by
 obtain⟨x,h,h'⟩:=atI_in h0 h1
 exact p_ixT h (q x h')
theorem p_ixLk {kd:Kd}(h0:0<=a)(h1:a<is.length)(q:∀ x,is[a.toNat]?=some x->QR ⟨.ow,.im x⟩):W1 (ixR ⟨kd,.li is⟩ (.im (.int a))) QR:=by
 obtain⟨x,h,h'⟩:=atI_in h0 h1
 exact p_ixL h (q x h')
theorem p_ixSk {kd:Kd}(hz:s.length<=sizeLine)(h0:0<=a)(h1:a<(sL s).length)(q:∀ c,(sL s)[a.toNat]?=some c->QR ⟨.ow,.im (.str ⟨#[c]⟩)⟩):W1 (ixR ⟨kd,.im (.str s)⟩ (.im (.int a))) QR:=by
 obtain⟨x,h,h'⟩:=atI_in h0 h1
 exact⟨_,by simp only [ixR,isI,ixX,ixI,if_pos hz,h,Option.map_some],q x h'⟩
theorem p_ixLL {ro:Option Nat}{p:Option (List Ac)}{us:List T}{u:T}(h0:0<=a)(h1:us[a.toNat]?=some u)(hu:∀ i,u ≠ .im i){kd:Kd}(hk:ixK (.vw ro p) (some (.ix a.toNat))=some kd)(q:QR ⟨kd,u⟩):W1 (ixR ⟨.vw ro p,.lst us⟩ (.im (.int a))) QR:=by
 have hl:=(List.getElem?_eq_some_iff.mp h1).1
 refine⟨⟨kd,u⟩,?_,q⟩
 unfold ixR
 have:ixN us.length a=some a.toNat:=by unfold ixN;rw [if_pos h0,if_pos (by omega)]
 simp only [isI,ixX,this,h1,Option.bind_some]
 cases u with
 | im i=>exact absurd rfl (hu i)
 | _=>simp only [ixP,hk]
theorem p_setL {n:Nat}(ha:a=n)(h:n<is.length)(q:QT1 (.li (is.set n i))):W1 (setT (.li is) (.im (.int a)) (.im i)) QT1:=by
 subst ha
 refine⟨_,?_,q⟩
 unfold setT
 have:ixN is.length (n:Int)=some n:=by unfold ixN;rw [if_pos (by omega),if_pos (by omega)];simp
 simp only [this]
theorem zwc (h:is.length<sizeLine)(q:QI1 (.li (is++[i])) .non):W2 (apT (.li is) [.im i]) QI1:=by with_unfolding_all exact⟨_,_,if_pos h,q⟩
theorem p_extL (h:is.length+js.length<=sizeLine)(q:QI1 (.li (is++js)) .non):W2 (extT (.li is) [.li js]) QI1:=by with_unfolding_all exact⟨_,_,if_pos h,q⟩
theorem p_ins (h:0<=a/\a<=is.length/\is.length<sizeLine)(q:QI1 (.li (is.take a.toNat++i::is.drop a.toNat)) .non):W2 (insT (.li is) [.im (.int a),.im i]) QI1:=by with_unfolding_all exact⟨_,_,if_pos h,q⟩
theorem p_slL {kd:Kd}{lo hi:Option Int}(q:QR ⟨.ow,.li (cutL is lo hi)⟩):W1 (slR ⟨kd,.li is⟩ lo hi) QR:=⟨_,by simp only [slR,slX,slI,slX],q⟩
theorem p_slS {kd:Kd}{lo hi:Option Int}(h:s.length<=sizeLine)(q:QR ⟨.ow,.im (.str (oL (cutL (sL s) lo hi)))⟩):W1 (slR ⟨kd,.im (.str s)⟩ lo hi) QR:=⟨_,by simp only [slR,slX,slI,slX];rw [if_pos h],q⟩
theorem p_retO {t:T}{Q2:T->Rho->Prop}(q:Q2 t ρ):W2 (retR ⟨.ow,t⟩ ρ) Q2:=by with_unfolding_all exact⟨_,_,rfl,q⟩
theorem p_retV {t t':T}{n:Nat}{Q2:T->Rho->Prop}(h : ρ[n]?=some (some ⟨.ow,t'⟩))(q:Q2 t ((zy [n] ρ).set n none)):W2 (retR ⟨.vw (some n) (some []),t⟩ ρ) Q2:=⟨_,_,by simp only [retR,h],q⟩
theorem cl_nil {mv:List Nat}{Q2:List T->Rho->Prop}(q:Q2 [] ρ):W2 (consL mv [] ρ) Q2:=⟨_,_,rfl,q⟩
theorem cl_ow {mv:List Nat}{t:T}{rs:List R}{Q2:List T->Rho->Prop}(h:W2 (consL mv rs ρ) fun ts ρ'=>Q2 (t::ts) ρ'):W2 (consL mv (⟨.ow,t⟩::rs) ρ) Q2:=by
 obtain⟨ts,ρ',e,q⟩:=h
 exact⟨t::ts,ρ',by simp only [consL,e],q⟩
theorem mkLst_im {is:List I}:zmc (is.map T.im) = .li is:=by
 have:ims (is.map T.im)=some is:=by induction is with
  | nil=>rfl
  | cons i is ih=>simp only [List.map_cons,ims,ih,Option.map_some]
 unfold zmc;rw [this]
end
theorem dsp {p:Prop}[Decidable p]{A B:Prop}(h1:p->A)(h2:¬p->B):(decide p=true->A)/\(decide p=false->B):=⟨fun h=>h1 (of_decide_eq_true h),fun h=>h2 (of_decide_eq_false h)⟩
theorem spT {A B:Prop}(h:A):(true=true->A)/\(true=false->B):=⟨fun _=>h,fun z=>absurd z (by decide)⟩
theorem spF {A B:Prop}(h:B):(false=true->A)/\(false=false->B):=⟨fun z=>absurd z (by decide),fun _=>h⟩
end L2
namespace L2
open PySem PySem.Spec PyProof.Rows
section
variable  {ρ:Rho}{m:ME}{ms:MA}{g:MG}{ct:MT}{QE':R->Rho->Prop}
theorem w_compR {i:Nat}{fr:List (Option Nat)} (h:WA ms ρ fun rs ρ1=>∃ n:Int,rs.map (·.t) = [.im (.int n)]/\(-(2 ^ 62)<=n/\n<16000000)/\Gu (frOk fr ρ1.length && ltAll ([i]++([]++m.mu)) fr.length) (∃ Inv:Nat->List T->Rho->Prop,Inv 0 [] ρ1 ∧
  (∀ (j:Nat) acc ρ,(j:Int)<n->Inv j acc ρ->WG (zn i) (rInt j) (inR fr ρ) fun ρ1=>WE m ρ1 fun r ρ3=>∃ t,r=⟨.ow,t⟩/\Inv (j+1) (acc++[t]) (outR fr ([i]++([]++m.mu)) ρ3 ρ)) ∧
  ∀ acc ρ,Inv n.toNat acc ρ->QE' ⟨.ow,zmc acc⟩ ρ)):WE (zrb fr (zdb ms) (zn i) mYes m) ρ QE':=by with_unfolding_all
 obtain⟨rs,ρ1,e1,n,e2,h1,al,Inv,h0,hs,he⟩:=h
 refine w_comp (wi_rng1 ⟨rs,ρ1,e1,n,e2,⟨h1.1,by omega⟩,?_,?_,Inv,h0,fun j r acc ρ hr hI=>?_,fun acc ρ hI=>he acc ρ (by simpa [rngI] using hI)⟩)
 ·rw [Bool.and_eq_true] at al ⊢
  rw [Bool.and_eq_true]
  exact⟨⟨al.1,al.2⟩,rfl⟩
 ·rw [sizeLine_eq];simp [rngI];omega
 ·obtain⟨x,hx,rfl⟩:=zza hr
  obtain⟨a1,a2⟩:=List.getElem?_eq_some_iff.mp hx
  simp at a1 a2
  subst a2
  have:=hs j acc ρ (by omega) hI
  rw [Int.zero_add]
  refine WG.mono this fun ρ1 q=>wt_yes ⟨fun _=>q,fun z=>by cases z⟩
theorem w_compR2 {i:Nat}{fr:List (Option Nat)} (h:WA ms ρ fun rs ρ1=>∃ a n:Int,rs.map (·.t) = [.im (.int a),.im (.int n)]/\(-(2 ^ 62)<=a/\a<2 ^ 62/\-(2 ^ 62)<=n/\n<2 ^ 62/\n - a<16000000)/\Gu (frOk fr ρ1.length && ltAll ([i]++([]++m.mu)) fr.length) (∃ Inv:Nat->List T->Rho->Prop,Inv 0 [] ρ1 ∧
  (∀ (j:Nat) acc ρ,a+(j:Int)<n->Inv j acc ρ->WG (zn i) (rInt (a+j)) (inR fr ρ) fun ρ1=>WE m ρ1 fun r ρ3=>∃ t,r=⟨.ow,t⟩/\Inv (j+1) (acc++[t]) (outR fr ([i]++([]++m.mu)) ρ3 ρ)) ∧
  ∀ acc ρ,Inv (n - a).toNat acc ρ->QE' ⟨.ow,zmc acc⟩ ρ)):WE (zrb fr (mRng2 ms) (zn i) mYes m) ρ QE':=by with_unfolding_all
 obtain⟨rs,ρ1,e1,a,n,e2,h1,al,Inv,h0,hs,he⟩:=h
 refine w_comp (wi_rng2 ⟨rs,ρ1,e1,a,n,e2,⟨h1.1,h1.2.1,h1.2.2.1,h1.2.2.2.1⟩,?_,?_,Inv,h0,fun j r acc ρ hr hI=>?_,fun acc ρ hI=>he acc ρ (by simpa [rngI] using hI)⟩)
 ·rw [Bool.and_eq_true] at al ⊢
  rw [Bool.and_eq_true]
  exact⟨⟨al.1,al.2⟩,rfl⟩
 ·rw [sizeLine_eq];simp [rngI];omega
 ·obtain⟨x,hx,rfl⟩:=zza hr
  obtain⟨a1,a2⟩:=List.getElem?_eq_some_iff.mp hx
  simp at a1 a2
  subst a2
  have:=hs j acc ρ (by omega) hI
  refine WG.mono this fun ρ1 q=>wt_yes ⟨fun _=>q,fun z=>by cases z⟩
theorem w_compI {fr:List (Option Nat)}{ma:ME} (h:WE ma ρ fun r ρ1=>∃ is:List I,itemsA r=some (is.map fun i=>⟨.ow,.im i⟩)/\is.length<sizeLine/\Gu (frOk fr ρ1.length && ltAll (g.mu++(ct.mu++m.mu)) fr.length && alive (muF fr (g.mu++(ct.mu++m.mu))) r) (∃ Inv:Nat->List T->Rho->Prop,Inv 0 [] ρ1 ∧
  (∀ (j:Nat) x acc ρ,is[j]?=some x->Inv j acc ρ->WG g ⟨.ow,.im x⟩ (inR fr ρ) fun ρ1=>WT ct ρ1 fun bb ρ2=>(bb=true->WE m ρ2 fun r ρ3=>∃ t,r=⟨.ow,t⟩/\Inv (j+1) (acc++[t]) (outR fr (g.mu++(ct.mu++m.mu)) ρ3 ρ))/\(bb=false->Inv (j+1) acc (outR fr (g.mu++(ct.mu++m.mu)) ρ2 ρ))) ∧
  ∀ acc ρ,Inv is.length acc ρ->QE' ⟨.ow,zmc acc⟩ ρ)):WE (zrb fr (mIt ma) g ct m) ρ QE':=by
 obtain⟨r,ρ1,e1,is,e2,hl,al,Inv,h0,hs,he⟩:=h
 refine w_comp (wi_seq ⟨r,ρ1,e1,_,e2,(by rw [List.all_cons,List.all_nil,Bool.and_true];exact al),by simpa using hl,Inv,h0,fun j r acc ρ hr hI=>?_,fun acc ρ hI=>he acc ρ (by simpa using hI)⟩)
 obtain⟨x,hx,rfl⟩:=zza hr
 exact hs j x acc ρ hx hI
end
theorem mkLst_ims {α:Type}{f : α->I}{l:List α}:zmc (l.map fun x=>T.im (f x)) = .li (l.map f):=by
 have:=mkLst_im (is:=l.map f)
 rwa [List.map_map] at this
end L2
namespace L2
open PySem PySem.Spec PyProof.Rows
section
variable  {S α:Type}{ρ:Rho}{m:ME}{ms:MA}{g:MG}{ct:MT}{s1:MS}{QE':R->Rho->Prop}{Q:Fl->Rho->Prop}{fr:List (Option Nat)}{i:Nat}
theorem zwd (st:S->Rho)(emb : α->I)(P:Nat->S->List α->Prop) (h:WA ms ρ fun rs ρ1=>Int1 rs fun n=>(-(2 ^ 62)<=n/\n<16000000)/\(frOk fr ρ1.length && ltAll ([i]++([]++m.mu)) fr.length)=true/\∃ s0,ρ1=st s0/\P 0 s0 [] ∧
  (∀ (j:Nat) s l,(j:Int)<n->P j s l->WG (zn i) (rInt j) (inR fr (st s)) fun ρ1=>WE m ρ1 fun r ρ3=>∃ x s',r=⟨.ow,.im (emb x)⟩/\outR fr ([i]++([]++m.mu)) ρ3 (st s)=st s'/\P (j+1) s' (l++[x])) ∧
  ∀ s l,P n.toNat s l->QE' ⟨.ow,.li (l.map emb)⟩ (st s)):WE (zrb fr (zdb ms) (zn i) mYes m) ρ QE':=by
 obtain⟨rs,ρ1,e1,n,e2,h1,al,s0,rfl,h0,hs,he⟩:=h
 refine w_compR ⟨rs,_,e1,n,e2,h1,al,fun j acc ρ=>∃ s l,acc=l.map (fun x=>T.im (emb x))/\ρ=st s/\P j s l,⟨s0,[],rfl,rfl,h0⟩,?_,?_⟩
 ·rintro j acc ρ hj ⟨s,l,rfl,rfl,hP⟩
  refine (hs j s l hj hP).mono fun ρ1 q=>q.mono fun r ρ3 ⟨x,s',e,e',hP'⟩=>⟨_,e,s',l++[x],by simp,e',hP'⟩
 ·rintro acc ρ ⟨s,l,rfl,rfl,hP⟩
  rw [mkLst_ims]
  exact he s l hP
theorem w_compR2s (st:S->Rho)(emb : α->I)(P:Nat->S->List α->Prop) (h:WA ms ρ fun rs ρ1=>Int2 rs fun a n=>(-(2 ^ 62)<=a/\a<2 ^ 62/\-(2 ^ 62)<=n/\n<2 ^ 62/\n - a<16000000)/\(frOk fr ρ1.length && ltAll ([i]++([]++m.mu)) fr.length)=true/\∃ s0,ρ1=st s0/\P 0 s0 [] ∧
  (∀ (j:Nat) s l,a+(j:Int)<n->P j s l->WG (zn i) (rInt (a+j)) (inR fr (st s)) fun ρ1=>WE m ρ1 fun r ρ3=>∃ x s',r=⟨.ow,.im (emb x)⟩/\outR fr ([i]++([]++m.mu)) ρ3 (st s)=st s'/\P (j+1) s' (l++[x])) ∧
  ∀ s l,P (n - a).toNat s l->QE' ⟨.ow,.li (l.map emb)⟩ (st s)):WE (zrb fr (mRng2 ms) (zn i) mYes m) ρ QE':=by
 obtain⟨rs,ρ1,e1,a,n,e2,h1,al,s0,rfl,h0,hs,he⟩:=h
 refine w_compR2 ⟨rs,_,e1,a,n,e2,h1,al,fun j acc ρ=>∃ s l,acc=l.map (fun x=>T.im (emb x))/\ρ=st s/\P j s l,⟨s0,[],rfl,rfl,h0⟩,?_,?_⟩
 ·rintro j acc ρ hj ⟨s,l,rfl,rfl,hP⟩
  refine (hs j s l hj hP).mono fun ρ1 q=>q.mono fun r ρ3 ⟨x,s',e,e',hP'⟩=>⟨_,e,s',l++[x],by simp,e',hP'⟩
 ·rintro acc ρ ⟨s,l,rfl,rfl,hP⟩
  rw [mkLst_ims]
  exact he s l hP
theorem w_compIs (st:S->Rho)(emb : α->I)(P:Nat->S->List α->Prop){ma:ME} (h:WE ma ρ fun r ρ1=>∃ is:List I,itemsA r=some (is.map fun i=>⟨.ow,.im i⟩)/\is.length<sizeLine/\(frOk fr ρ1.length && ltAll (g.mu++([]++m.mu)) fr.length && alive (muF fr (g.mu++([]++m.mu))) r)=true/\∃ s0,ρ1=st s0/\P 0 s0 [] ∧
  (∀ (j:Nat) x s l,is[j]?=some x->P j s l->WG g ⟨.ow,.im x⟩ (inR fr (st s)) fun ρ1=>WE m ρ1 fun r ρ3=>∃ x s',r=⟨.ow,.im (emb x)⟩/\outR fr (g.mu++([]++m.mu)) ρ3 (st s)=st s'/\P (j+1) s' (l++[x])) ∧
  ∀ s l,P is.length s l->QE' ⟨.ow,.li (l.map emb)⟩ (st s)):WE (zrb fr (mIt ma) g mYes m) ρ QE':=by with_unfolding_all
 obtain⟨r,ρ1,e1,is,e2,hl,al,s0,rfl,h0,hs,he⟩:=h
 refine w_compI ⟨r,_,e1,is,e2,hl,al,fun j acc ρ=>∃ s l,acc=l.map (fun x=>T.im (emb x))/\ρ=st s/\P j s l,⟨s0,[],rfl,rfl,h0⟩,?_,?_⟩
 ·rintro j x acc ρ hj ⟨s,l,rfl,rfl,hP⟩
  refine (hs j x s l hj hP).mono fun ρ1 q=>wt_yes ⟨fun _=>q.mono fun r ρ3 ⟨x,s',e,e',hP'⟩=>⟨_,e,s',l++[x],by simp,e',hP'⟩,fun z=>by cases z⟩
 ·rintro acc ρ ⟨s,l,rfl,rfl,hP⟩
  rw [mkLst_ims]
  exact he s l hP
@[irreducible] noncomputable def fFs (st:S->Rho)(P:S->Prop)(Q:Fl->Rho->Prop):Fl->Rho->Prop
 | .nx,ρ=>∃ s,ρ=st s/\P s
 | .ct,ρ=>∃ s,ρ=st s/\P s
 | .bk,ρ=>Q .nx ρ
 | .rt t,ρ=>Q (.rt t) ρ
theorem fFs_for {st:S->Rho}{P:Nat->S->Prop}{j:Nat}{f:Fl}{ρ:Rho}(h:fFs st (P (j+1)) Q f ρ):fFor (fun j ρ=>∃ s,ρ=st s/\P j s) j Q f ρ:=by with_unfolding_all cases f<;>exact h
theorem zic (st:S->Rho)(P:Nat->S->Prop) (h:WA ms ρ fun rs ρ1=>Int1 rs fun n=>(-(2 ^ 62)<=n/\n<2 ^ 62)/\∃ s0,ρ1=st s0/\P 0 s0 ∧
  (∀ (j:Nat) s,(j:Int)<n->P j s->WG (zn i) (rInt j) (st s) fun ρ1=>WS s1 ρ1 (fFs st (P (j+1)) Q))/\∀ s,P n.toNat s->Q .nx (st s)):WS (mFor (zdb ms) (zn i) s1) ρ Q:=by
 obtain⟨rs,ρ1,e1,n,e2,h1,s0,rfl,h0,hs,he⟩:=h
 refine w_forR ⟨rs,_,e1,n,e2,h1.1,h1.2,fun j ρ=>∃ s,ρ=st s/\P j s,⟨s0,rfl,h0⟩,?_,?_⟩
 ·rintro j ρ hj ⟨s,rfl,hP⟩
  exact (hs j s hj hP).mono fun ρ1 q=>q.mono fun f ρ2 q=>fFs_for q
 ·rintro ρ ⟨s,rfl,hP⟩
  exact he s hP
theorem w_forR2s (st:S->Rho)(P:Nat->S->Prop) (h:WA ms ρ fun rs ρ1=>Int2 rs fun a n=>(-(2 ^ 62)<=a/\a<2 ^ 62/\-(2 ^ 62)<=n/\n<2 ^ 62)/\∃ s0,ρ1=st s0/\P 0 s0 ∧
  (∀ (j:Nat) s,a+(j:Int)<n->P j s->WG (zn i) (rInt (a+j)) (st s) fun ρ1=>WS s1 ρ1 (fFs st (P (j+1)) Q))/\∀ s,P (n - a).toNat s->Q .nx (st s)):WS (mFor (mRng2 ms) (zn i) s1) ρ Q:=by
 obtain⟨rs,ρ1,e1,a,n,e2,h1,s0,rfl,h0,hs,he⟩:=h
 refine w_forR2 ⟨rs,_,e1,a,n,e2,h1,fun j ρ=>∃ s,ρ=st s/\P j s,⟨s0,rfl,h0⟩,?_,?_⟩
 ·rintro j ρ hj ⟨s,rfl,hP⟩
  exact (hs j s hj hP).mono fun ρ1 q=>q.mono fun f ρ2 q=>fFs_for q
 ·rintro ρ ⟨s,rfl,hP⟩
  exact he s hP
theorem w_forIs (st:S->Rho)(P:Nat->S->Prop) (h:WE m ρ fun r ρ1=>∃ is:List I,itemsA r=some (is.map fun i=>⟨.ow,.im i⟩)/\alive (g.mu++s1.mu) r=true/\∃ s0,ρ1=st s0/\P 0 s0 ∧
  (∀ (j:Nat) x s,is[j]?=some x->P j s->WG g ⟨.ow,.im x⟩ (st s) fun ρ1=>WS s1 ρ1 (fFs st (P (j+1)) Q))/\∀ s,P is.length s->Q .nx (st s)):WS (mFor (mIt m) g s1) ρ Q:=by
 obtain⟨r,ρ1,e1,is,e2,al,s0,rfl,h0,hs,he⟩:=h
 refine w_forI ⟨r,_,e1,is,e2,al,fun j ρ=>∃ s,ρ=st s/\P j s,⟨s0,rfl,h0⟩,?_,?_⟩
 ·rintro j x ρ hj ⟨s,rfl,hP⟩
  exact (hs j x s hj hP).mono fun ρ1 q=>q.mono fun f ρ2 q=>fFs_for q
 ·rintro ρ ⟨s,rfl,hP⟩
  exact he s hP
theorem w_whiles (st:S->Rho)(P:S->Prop)(μ : S->Nat)(s0:S)(e0 : ρ=st s0)(h0:P s0)(hs:∀ s,P s->WT ct (st s) fun bb ρ1=>(bb=true->WS s1 ρ1 (fFs st (fun s'=>μ s' < μ s/\P s') Q))/\(bb=false->Q .nx ρ1)):WS (mWhile ct s1) ρ Q:=by with_unfolding_all
 subst e0
 refine w_while (fun n ρ=>∃ s,ρ=st s/\P s/\μ s=n) (μ s0) ⟨s0,rfl,h0,rfl⟩ ?_
 rintro n ρ ⟨s,rfl,hP,rfl⟩
 refine (hs s hP).mono fun bb ρ1 ⟨q1,q2⟩=>⟨q2,fun hb=>(q1 hb).mono fun f ρ2 q=>?_⟩
 cases f with
 | nx=>have q:∃ s',ρ2=st s'/\μ s' < μ s/\P s':=q;obtain⟨s',e,hl,hP'⟩:=q;exact⟨μ s',hl,s',e,hP',rfl⟩
 | ct=>have q:∃ s',ρ2=st s'/\μ s' < μ s/\P s':=q;obtain⟨s',e,hl,hP'⟩:=q;exact⟨μ s',hl,s',e,hP',rfl⟩
 | bk=>exact q
 | rt t=>exact q
end
end L2
namespace L2
open PySem PySem.Spec PyProof.Rows
section
variable  {S α:Type}{ρ:Rho}{m:ME}{ms:MA}{QE':R->Rho->Prop}{fr:List (Option Nat)}{i:Nat}
theorem mkLst_ts {emb : α->T}(hne:∀ x i,emb x ≠ .im i):∀ {l:List α},l≠[]->zmc (l.map emb) = .lst (l.map emb)
 | [],h=>absurd rfl h
 | x::l,_=>by
  unfold zmc
  have:ims ((x::l).map emb)=none:=by
   rw [List.map_cons]
   cases h:emb x with
   | im i=>exact absurd h (hne x i)
   | _=>rfl
  rw [this]
theorem w_compRt (st:S->Rho)(emb : α->T)(hne:∀ x i,emb x ≠ .im i)(P:Nat->S->List α->Prop) (h:WA ms ρ fun rs ρ1=>Int1 rs fun n=>(1<=n/\n<16000000)/\(frOk fr ρ1.length && ltAll ([i]++([]++m.mu)) fr.length)=true/\∃ s0,ρ1=st s0/\P 0 s0 [] ∧
  (∀ (j:Nat) s l,(j:Int)<n->P j s l->WG (zn i) (rInt j) (inR fr (st s)) fun ρ1=>WE m ρ1 fun r ρ3=>∃ x s',r=⟨.ow,emb x⟩/\outR fr ([i]++([]++m.mu)) ρ3 (st s)=st s'/\P (j+1) s' (l++[x])) ∧
  ∀ s l,P n.toNat s l->l.length=n.toNat->QE' ⟨.ow,.lst (l.map emb)⟩ (st s)):WE (zrb fr (zdb ms) (zn i) mYes m) ρ QE':=by
 obtain⟨rs,ρ1,e1,n,e2,h1,al,s0,rfl,h0,hs,he⟩:=h
 refine w_compR ⟨rs,_,e1,n,e2,⟨by omega,h1.2⟩,al,fun j acc ρ=>∃ s l,acc=l.map emb/\l.length=j/\ρ=st s/\P j s l,⟨s0,[],rfl,rfl,rfl,h0⟩,?_,?_⟩
 ·rintro j acc ρ hj ⟨s,l,rfl,hl,rfl,hP⟩
  refine (hs j s l hj hP).mono fun ρ1 q=>q.mono fun r ρ3 ⟨x,s',e,e',hP'⟩=>⟨_,e,s',l++[x],by simp,by simp [hl],e',hP'⟩
 ·rintro acc ρ ⟨s,l,rfl,hl,rfl,hP⟩
  rw [mkLst_ts hne (by intro z;rw [z] at hl;simp at hl;omega)]
  exact he s l hP hl
theorem put_ix {ts:List T}{n:Nat}{u s:T}(h:ts[n]?=some u):T.put (.lst ts) [.ix n] s = .lst (ts.set n s):=by simp only [T.put,sub1,h,put1]
end
end L2
namespace L2
end L2
namespace L2
section
variable  {ρ:Rho}{b:MS}{Q:Fl->Rho->Prop}{t s':T}{k:Nat}{ks:List Nat}
theorem fi_rt {R:T->T->Prop}(h : ρ[k]?=some (some ⟨.io 0,s'⟩))(q:R t s'):fI k R (.rt t) ρ:=by with_unfolding_all exact⟨s',h,q⟩
theorem fp_rt {R:T->Prop}(q:R t):fP R (.rt t) ρ:=by with_unfolding_all exact q
theorem fseq_nx (h:WS b ρ Q):fSeq b Q .nx ρ:=by with_unfolding_all exact h
theorem fseq_rt (h:Q (.rt t) ρ):fSeq b Q (.rt t) ρ:=by with_unfolding_all exact h
theorem ffgt_nx (h:Q .nx (fgts ks ρ)):fFgt ks Q .nx ρ:=by with_unfolding_all exact h
variable  {S:Type}{st:S->Rho}{P:S->Prop}
theorem ffs_nx (h:∃ s,ρ=st s/\P s):fFs st P Q .nx ρ:=by with_unfolding_all exact h
end
end L2
namespace L2
section
variable  {M:List Nat}{ρ:Rho}{t s:T}{n i:Nat}{p:Option (List Ac)}{k:Nat}{x:I}
theorem kR_nil:zy M [] = []:=rfl
theorem kR_ow:zy M (some ⟨.ow,t⟩::ρ)=some ⟨.ow,t⟩::zy M ρ:=rfl
theorem kR_io:zy M (some ⟨.io n,t⟩::ρ)=some ⟨.io n,t⟩::zy M ρ:=rfl
theorem kR_none:zy M (none::ρ)=none::zy M ρ:=rfl
theorem kR_vn:zy M (some ⟨.vw none p,t⟩::ρ)=some ⟨.vw none p,t⟩::zy M ρ:=rfl
theorem put_nil:T.put t [] s=s:=by cases t<;>rfl
theorem rInt_eq {j:Int}:rInt j=⟨.ow,.im (.int j)⟩:=rfl
theorem rdR_im:rdR i ⟨.ow,.im x⟩=⟨.ow,.im x⟩:=rfl
theorem rdR_vw {a:Option Nat}:rdR i ⟨.vw a p,t⟩=⟨.vw a p,t⟩:=rfl
theorem rdR_li {l:List I}:rdR i ⟨.ow,.li l⟩=⟨.vw (some i) (some []),.li l⟩:=rfl
theorem rdR_lst {l:List T}:rdR i ⟨.ow,.lst l⟩=⟨.vw (some i) (some []),.lst l⟩:=rfl
theorem fgts_nil:fgts [] ρ=ρ:=rfl
theorem fgts_cons {ks:List Nat}:fgts (i::ks) ρ=fgts ks ((zy [i] ρ).set i none):=rfl
theorem runP_ok' {run:List T->Option T}{l:Nat}{m:MS}{ts:List T}{QT1:T->Prop}(ρ:Rho)(hrun:run ts=if ts.length=l then runP m n ts else none)(hl:ts.length=l)(he:zkd ts n=ρ)(h:WS m ρ (fP QT1)):W1 (run ts) QT1:=runP_ok hrun hl (he ▸ h)
theorem runI_ok' {run:List T->Option (T×T)}{l:Nat}{m:MS}{ts:List T}{Q2:T->T->Prop}(ρ:Rho)(hrun:run ts=if ts.length=l then runI m k n ts else none)(hl:ts.length=l)(he:rStartI k ts n=ρ)(h:WS m ρ (fI k Q2)):W2 (run ts) Q2:=runI_ok hrun hl (he ▸ h)
end
end L2
namespace L2
open PySem PySem.Spec PyProof.Rows
section
variable  {ρ:Rho}{g g2:MG}{ct:MT}{m:ME}{it it2:MI}{QE':R->Rho->Prop}{fr fr2:List (Option Nat)}
theorem comp2_run {items:List R}{QC:List T->Rho->Prop}(Inv:Nat->List T->Rho->Prop)
  (hs:∀ i r acc ρ,items[i]?=some r->Inv i acc ρ->WG g (renR (piF fr) r) (inR fr ρ) fun ρ1=>WI it2 ρ1 fun src2 items2 ρ2=>Gu (frOk fr2 ρ2.length && (decide (src2.length=1) && src2.all (alive (muF fr2 (g2.mu++(ct.mu++m.mu)))))) (acc.length+items2.length<sizeLine/\W2 (zya fr2 (g2.mu++(ct.mu++m.mu)) g2 ct m items2 ρ2 acc) fun ts ρ3=>Inv (i+1) ts (outR fr (g.mu++(it2.mu++muF fr2 (g2.mu++(ct.mu++m.mu)))) ρ3 ρ)))
  (he:∀ acc ρ,Inv items.length acc ρ->QC acc ρ):∀ (l:List R) (i:Nat) (acc:List T) (ρ:Rho),items.drop i=l->i<=items.length->Inv i acc ρ->W2 (comp2Run fr fr2 g it2 g2 ct m l ρ acc) QC
 | [],i,acc,ρ,hl,hi,hI=>by
  have:i=items.length:=by have:=congrArg List.length hl;simp at this;omega
  subst this
  exact⟨_,_,rfl,he acc ρ hI⟩
 | r::l,i,acc,ρ,hl,hi,hI=>by
  have hr:items[i]?=some r:=by rw [← List.head?_drop,hl];rfl
  have hlt:=(List.getElem?_eq_some_iff.mp hr).1
  have hl':items.drop (i+1)=l:=by rw [← List.drop_drop,hl];rfl
  obtain⟨ρ1,e1,src2,items2,ρ2,e2,al,hz,ts,ρ3,e3,q⟩:=hs i r acc ρ hr hI
  simp only [comp2Run,e1,e2]
  rw [if_pos (by rw [Bool.and_eq_true];exact⟨al,decide_eq_true hz⟩)]
  simp only [e3]
  exact comp2_run Inv hs he l (i+1) _ _ hl' hlt q
theorem w_comp2 (h:WI it ρ fun src items ρ1=>Gu (frOk fr ρ1.length && ltAll (g.mu++(it2.mu++muF fr2 (g2.mu++(ct.mu++m.mu)))) fr.length && ltAll (g2.mu++(ct.mu++m.mu)) fr2.length && (decide (src.length=1) && src.all (alive (muF fr (g.mu++(it2.mu++muF fr2 (g2.mu++(ct.mu++m.mu)))))))) (∃ Inv:Nat->List T->Rho->Prop,Inv 0 [] ρ1 ∧
  (∀ i r acc ρ,items[i]?=some r->Inv i acc ρ->WG g (renR (piF fr) r) (inR fr ρ) fun ρ1=>WI it2 ρ1 fun src2 items2 ρ2=>Gu (frOk fr2 ρ2.length && (decide (src2.length=1) && src2.all (alive (muF fr2 (g2.mu++(ct.mu++m.mu)))))) (acc.length+items2.length<sizeLine/\W2 (zya fr2 (g2.mu++(ct.mu++m.mu)) g2 ct m items2 ρ2 acc) fun ts ρ3=>Inv (i+1) ts (outR fr (g.mu++(it2.mu++muF fr2 (g2.mu++(ct.mu++m.mu)))) ρ3 ρ))) ∧
  ∀ acc ρ,Inv items.length acc ρ->acc.length<sizeLine/\QE' ⟨.ow,zmc acc⟩ ρ)):WE (mComp2 fr fr2 it g it2 g2 ct m) ρ QE':=by
 obtain⟨src,items,ρ1,e1,al,Inv,h0,hs,he⟩:=h
 obtain⟨ts,ρ2,e,hz,q⟩:=comp2_run (QC:=fun acc ρ=>acc.length<sizeLine/\QE' ⟨.ow,zmc acc⟩ ρ) Inv hs he items 0 [] ρ1 rfl (Nat.zero_le _) h0
 refine⟨⟨.ow,zmc ts⟩,ρ2,?_,q⟩
 simp only [mComp2,e1]
 rw [if_pos al]
 simp only [e]
 rw [if_pos hz]
end
end L2
namespace L2
open PySem PySem.Spec PyProof.Rows
noncomputable def less (K:PySem.W.Frag) (a:Addr):PySem.W.Frag:=K.filter fun p=>!(p.1 == a)
theorem less_get:∀ {K:PySem.W.Frag} {a b:Addr},b≠a->(less K a).lookup b=K.lookup b
 | [],_,_,_=>rfl
 | (c,o)::K,a,b,h=>by
  have ih:=less_get (K:=K) h
  by_cases e:c=a
  ·subst e
   have:less ((c,o)::K) c=less K c:=by simp [less]
   rw [this,ih]
   show _=match b == c with | true=>some o | false=>List.lookup b K
   rw [beq_eq_false_iff_ne.mpr h]
  ·have:less ((c,o)::K) a=(c,o)::less K a:=by simp [less,e]
   rw [this]
   show (match b == c with | true=>some o | false=>List.lookup b (less K a))=match b == c with | true=>some o | false=>List.lookup b K
   rw [ih]
theorem less_self:∀ {K:PySem.W.Frag} {a:Addr},(less K a).lookup a=none
 | [],_=>rfl
 | (c,o)::K,a=>by
  have ih:=less_self (K:=K) (a:=a)
  by_cases e:c=a
  ·subst e
   have:less ((c,o)::K) c=less K c:=by simp [less]
   rw [this,ih]
  ·have:less ((c,o)::K) a=(c,o)::less K a:=by simp [less,e]
   rw [this]
   show (match a == c with | true=>some o | false=>List.lookup a (less K a))=none
   rw [beq_eq_false_iff_ne.mpr (Ne.symm e)]
   exact ih
theorem less_in {K:PySem.W.Frag}{a:Addr}{h:Heap}(X:K.In h):(less K a).In h:=fun b o e=>by
 by_cases q:b=a
 ·subst q;rw [less_self] at e;cases e
 ·rw [less_get q] at e;exact X b o e
noncomputable def Lst (o:Obj):Prop:=∃ vs:Array Value,o = { cls:=.type "list",data:=.seq vs }
noncomputable def LsAt (K:PySem.W.Frag) (a:Addr):Prop:=∀ o,K.lookup a=some o->Lst o
theorem LsAt.get {K:PySem.W.Frag}{a b:Addr}{o:Obj}(h:LsAt K a)(e:K.lookup b=some o)(n:¬ Lst o):(less K a).lookup b=some o:=by
 rw [less_get (a:=a) fun q:b=a=>n (h o (by rw [← q];exact e))];exact e
noncomputable def Def0 (K:PySem.W.Frag) (mg:Str->Option Value) (name:Str) (st:Stmt) (ps:List Str):Prop:=
 ∃ (f:Addr) (fd:FuncData),mg name=some (.ref f)/\Fun K name name st f fd/\(∀ us:List Value,us.length=ps.length->bindArgs fd ⟨us,[]⟩=pure (ps.zip us))
theorem Def0.to {K:PySem.W.Frag}{mg:Str->Option Value}{name:Str}{st:Stmt}{ps:List Str}(d:Def0 K mg name st ps):Def K mg name st ps:=by
 obtain⟨f,fd,h1,h2,h3⟩:=d
 exact⟨f,fd,h1,h2,.all h3⟩
theorem Def0.less {K:PySem.W.Frag}{mg:Str->Option Value}{name:Str}{st:Stmt}{ps:List Str}{a:Addr}(d:Def0 K mg name st ps)(h:LsAt K a):Def0 (less K a) mg name st ps:=by
 obtain⟨f,fd,h1,F,h3⟩:=d
 obtain⟨oc,od,kV,doc,pm,an,cdv,ct,osl,e,lk,hcd⟩:=F.ex
 have lk':=h.get lk (by rintro ⟨vs,z⟩;cases z)
 refine⟨f,fd,h1,⟨⟨oc,od,kV,doc,pm,an,cdv,ct,osl,e,lk',?_⟩,?_⟩,h3⟩
 ·unfold PySem.W.codeIn at hcd ⊢
  cases cdv with
  | ref c=>
   dsimp only at hcd ⊢
   cases q:List.lookup c K with
   | none=>rw [q] at hcd;cases hcd
   | some o=>
    by_cases w:c=a
    ·subst w
     obtain⟨vs,rfl⟩:=h o q
     rw [q] at hcd;cases hcd
    ·rw [less_get w];exact hcd
  | _=>cases hcd
 ·unfold PySem.W.keepIn
  dsimp only
  rw [lk']
theorem Def0.mk' {K:PySem.W.Frag}{h:Heap}{mg:Str->Option Value}{name:Str}{st:Stmt}{ps:List Str}(X:K.In h)(G:h.Ns mainGlobals mg){f:Addr}{oc:Value}{od an:Option Addr}{osl:Array (Option Value)}{kV doc pm cdv ct:Value}
  (a:PySem.W.nsIn K mainGlobals name=some (some (.ref f))) (l:K.lookup f=some ⟨oc,od,.func (PySem.W.fnOf name name (zod st) (zkb st) (zq st) .none kV doc pm an cdv ct),osl⟩) (c:PySem.W.codeIn K cdv name=true) (k:PySem.W.keepIn K (.ref f)=true)
  (hb:∀ (kV doc pm:Value) (an:Option Addr) (cdv ct:Value) (us:List Value),us.length=ps.length->bindArgs (PySem.W.fnOf name name (zod st) (zkb st) (zq st) .none kV doc pm an cdv ct) ⟨us,[]⟩=pure (ps.zip us)):Def0 K mg name st ps:=
 ⟨f,_,PySem.W.mg_of X G a,fun_mk l c k,hb kV doc pm an cdv ct⟩
theorem walkP {l:PySem.W.OpenLaw}{k:Nat}{q:Program}{loose:List Str}{XP:(Str->Option Value)->Heap->Prop}{YP:World->Heap->Prop}{d:DefRec}{K:Params->PySem.W.Frag}{x:Str}{st:Stmt}{run:List T->Option T}{A:(Str->Option Value)->PySem.W.Frag->Prop}
  (hn:l.most=some 63) (hdf:d.params.defaults = []) (hr:Room k callerA)
  (hY:∀ (w:World) (h:Heap),YP w h->(K w.params).In h)
  (hA:∀ (w:World) (mg:Str->Option Value) (h:Heap),(K w.params).In h->h.Ns mainGlobals mg->A mg (K w.params))
  (hL:∀ (mg:Str->Option Value) (K:PySem.W.Frag) (a:Addr),A mg K->LsAt K a->A mg (less K a))
  (hd:∀ (mg:Str->Option Value) (K:PySem.W.Frag),A mg K->Def K mg d.name st [x])
  (hb:∀ (kV doc pm:Value) (an:Option Addr) (cdv ct:Value) (s:Shared) (v:Value),BindsTo s (PySem.W.fnOf d.name d.name (zod st) (zkb st) (zq st) .none kV doc pm an cdv ct) ⟨[v],[]⟩ [(x,v)])
  (F:∀ (w:World) (mg:Str->Option Value) (K:PySem.W.Frag) (base:Heap),A mg K->Has l.prog w K mg base k d.name [x] (spP K run))
  (law:∀ ns:List Int,ns.length<=63->run [.li (ns.map .int)]=some (.im (.bl true))) :
  PySem.W.WalkO q loose XP YP l.row.toRowW d [] (fun f vs=>PySem.call f vs):=by
 refine Att.attach_call hn hdf fun w s₀ s₁ mg mb fa o pm cd doc a vs ns G Y ho hd' hcd hmg hobj hints hlen hg=>?_
 have KX:=hY w _ Y
 have a0:=hA w mg _ KX G.T.g
 have la:LsAt (K w.params) a:=fun o e=>by
  have e2:=KX a o e
  rw [hobj] at e2;cases e2
  exact⟨_,rfl⟩
 have a1:=hL mg _ a a0 la
 obtain⟨fd,hb',hF⟩:=law_head hmg (hd mg _ a1) hb fun base _ _=>F w mg (less (K w.params) a) base a1
 refine law_call (less_in KX) G.T.g G.T.b G.T.builtins G.T.nolimit hg hobj hints (Nat.le_trans hlen (by decide)) hr hF hb' (fun H hO hS=>?_) (fun _ _ _ z=>z)
 rcases hS with hS | ⟨o,its,n,e,_⟩
 ·refine⟨[.li (ns.map .int)],_,?_,law ns hlen,?_⟩
  ·refine⟨_,_,rfl,⟨[a],?_⟩,rfl⟩
   exact⟨a,_,rfl,hS,RpIs.ints ns,rfl⟩
  ·intro v H' z
   obtain⟨_,F,z,_⟩:=z
   rw [Rp] at z
   exact z.1
 ·rw [less_self] at e;cases e
end L2
namespace L2
open PySem PySem.Spec PyProof.Rows
inductive TyB (K:PySem.W.Frag) (H:Hp):V->String->Prop where
 | non:TyB K H .non "NoneType"
 | bl (x:Bool):TyB K H (.bl x) "bool"
 | int (i:Int):TyB K H (.int i) "int"
 | str (x:Str):TyB K H (.str x) "str"
 | tup {a:Addr} {xs:List V}:SqT K H a xs->TyB K H (.ref a) "tuple"
 | lst {a:Addr} {xs:List V}:SqL K H a xs->TyB K H (.ref a) "list"
 | dK {a:Addr} {kvs:List (Key×V)}:H a=some (.dK kvs)->TyB K H (.ref a) "dict"
theorem TyB.kit {X:Cx}{pins:List (Addr×Obj)}{σ:St}{H:Hp}{s:Shared}{x:V}{u:Value}{n:String}(I:Inv X pins σ H s)(r:RelV x u)(t:TyB X.K H x n):∃ Hq,PySem.W.KitX X.K u (.type n) Hq/\Hq s.heap/\u≠Value.builtin "__main__.__loader__#opaque" :=by
 cases t with
 | non=>cases (show u=Value.none from r);exact⟨_,PySem.W.kitx_none,True.intro,fun z=>nomatch z⟩
 | bl y=>cases (show u=Value.bool y from r);exact⟨_,PySem.W.kitx_bool,True.intro,fun z=>nomatch z⟩
 | int i=>obtain⟨t,q⟩:=(show ∃ t,u=Value.int i t from r);cases q;exact⟨_,PySem.W.kitx_int,True.intro,fun z=>nomatch z⟩
 | str y=>obtain⟨t,q⟩:=(show ∃ t,u=Value.str y t from r);cases q;exact⟨_,PySem.W.kitx_str,True.intro,fun z=>nomatch z⟩
 | @tup a xs hq=>
  cases r
  obtain⟨its,r,p,_⟩:=I.tuple hq
  obtain⟨o,h1,h2,_⟩:=p
  exact⟨_,PySem.W.kitx_tuple,⟨o,h1,h2⟩,fun z=>nomatch z⟩
 | @lst a xs hq=>
  cases r
  obtain⟨its,r,p,_⟩:=I.list hq
  obtain⟨o,n,h1,h2,_⟩:=p
  exact⟨_,PySem.W.kitx_list,⟨o,h1,h2⟩,fun z=>nomatch z⟩
 | @dK a kvs e=>
  cases r
  obtain⟨_,_,vs,_,p⟩:=(show ObjOk X.prog X.w H s.heap a (.dK kvs) from I.hok a _ e)
  obtain⟨o,es,ep,h1,h2,_⟩:=p
  exact⟨_,PySem.W.kitx_dict,⟨o,h1,h2.1⟩,fun z=>nomatch z⟩
noncomputable def rIs1 (K:PySem.W.Frag) (n:String):List V->Hp->VK->Prop:=fun xs H Q=>∃ x t b,xs = [x,.ty n]/\TyB K H x t/\PySem.W.kitOne K (.type t) (.type n)=some b/\Q (.bl b) H
theorem call_is1 {X:Cx}(n:String):CallR X (.builtin "isinstance") (rIs1 X.K n):=by
 intro pins s σ H xs us Q I rv h
 obtain⟨x,t,b,rfl,ty,e,q⟩:=h
 obtain⟨u,w',rfl,r1,r2⟩:=vals2 rv
 cases r2
 obtain⟨Hq,h1,h2,h3⟩:=ty.kit I r1
 exact PySem.W.kia_one h1 I.kIn h2 e h3 fun tk=>⟨.bl b,H,I.tok tk,rfl,q⟩
noncomputable def rIs2 (K:PySem.W.Frag) (ns:List String):List V->Hp->VK->Prop:=fun xs H Q=>∃ x t b p,xs = [x,.ref p]/\SqT K H p (ns.map V.ty)/\TyB K H x t/\PySem.W.kitAny K (.type t) (ns.map Value.type)=some b/\Q (.bl b) H
theorem vals_ty:∀ {ns:List String} {us:List Value},Vals (ns.map V.ty) us->us=ns.map Value.type
 | [],_,.nil=>rfl
 | n::ns,_,.cons h r=>by
  cases (show _=Value.type n from h)
  rw [List.map_cons,vals_ty r]
theorem call_is2 {X:Cx}(ns:List String):CallR X (.builtin "isinstance") (rIs2 X.K ns):=by
 intro pins s σ H xs us Q I rv h
 obtain⟨x,t,b,p,rfl,hp,ty,e,q⟩:=h
 obtain⟨u,w',rfl,r1,r2⟩:=vals2 rv
 cases r2
 obtain⟨Hq,h1,h2,h3⟩:=ty.kit I r1
 obtain⟨its,rv2,⟨o,g1,g2,m,g3⟩,_⟩:=I.tuple hp
 rw [vals_ty rv2] at g3
 obtain⟨c,d,dt,sl⟩:=o
 cases g2
 cases g3
 exact PySem.W.kia_tup h1 I.kIn h2 g1 e h3 fun tk=>⟨.bl b,H,I.tok tk,rfl,q⟩
noncomputable def tyN:T->Option String
 | .im .non=>some "NoneType"
 | .im (.bl _)=>some "bool"
 | .im (.int _)=>some "int"
 | .im (.str _)=>some "str"
 | .im (.tup _)=>some "tuple"
 | .tup _=>some "tuple"
 | .li _=>some "list"
 | .lst _=>some "list"
 | .di _=>some "dict"
 | .dc _=>some "dict"
 | .ins _ _=>none
noncomputable def isOne (n m:String):Bool:=n == m || (n == "bool" && m == "int")
@[irreducible] noncomputable def isiT (ns:List String)(t:T):Option T:=(tyN t).map fun n=>.im (.bl (ns.any (isOne n)))
theorem tyN_ok {K:PySem.W.Frag}{H:Hp}{x:V}{n:String}:∀ {t:T},Rpx K H t x->tyN t=some n->TyB K H x n
 | .im i,r,e=>by
  have h:=rx_im r
  cases i<;>rw [RpI] at h<;>cases e
  ·rw [h];exact .non
  ·rw [h];exact .bl _
  ·rw [h];exact .int _
  ·rw [h];exact .str _
  ·obtain⟨a,xs,rfl,h,_⟩:=h;exact .tup h
 | .tup ts,r,e=>by cases e;obtain⟨a,xs,F,rfl,h,_⟩:=rx_tupT r;exact .tup h
 | .li ts,r,e=>by cases e;obtain⟨a,xs,rfl,h,_⟩:=zyd r;exact .lst (.inl h)
 | .lst ts,r,e=>by cases e;obtain⟨a,xs,F,rfl,h,_⟩:=rx_lst r;exact .lst (.inl h)
 | .di ts,r,e=>by cases e;obtain⟨F,r⟩:=r;rw [Rp] at r;obtain⟨a,xs,rfl,⟨ys,h,_⟩,_⟩:=r;exact .dK h
 | .dc ts,r,e=>by cases e;obtain⟨F,r⟩:=r;rw [Rp] at r;obtain⟨a,xs,F',rfl,⟨ys,h,_⟩,_⟩:=r;exact .dK h
 | .ins C ts,r,e=>by cases e
noncomputable def tyNs:List String:=["int","bool","str","tuple","list","dict"]
theorem kitOne_ok {K:PySem.W.Frag}{n m:String}{t:T}(e:tyN t=some n)(hm:m∈tyNs):PySem.W.kitOne K (.type n) (.type m)=some (isOne n m):=by
 have hn:n = "NoneType" ∨ n∈tyNs:=by
  unfold tyN at e
  split at e<;>cases e<;>first | exact .inl rfl | exact .inr (by decide)
 rcases hn with rfl | hn
 ·rcases List.mem_cons.mp hm with rfl | hm
  ·rfl
  rcases List.mem_cons.mp hm with rfl | hm
  ·rfl
  rcases List.mem_cons.mp hm with rfl | hm
  ·rfl
  rcases List.mem_cons.mp hm with rfl | hm
  ·rfl
  rcases List.mem_cons.mp hm with rfl | hm
  ·rfl
  rcases List.mem_cons.mp hm with rfl | hm
  ·rfl
  cases hm
 ·have key:∀ a∈tyNs,∀ b∈tyNs,PySem.W.kitOne K (.type a) (.type b)=some (isOne a b):=by
   intro a ha b hb
   simp only [tyNs,List.mem_cons,List.not_mem_nil,or_false] at ha hb
   rcases ha with rfl | rfl | rfl | rfl | rfl | rfl<;>rcases hb with rfl | rfl | rfl | rfl | rfl | rfl<;>rfl
  exact key n hn m hm
theorem kitAny_ok {K:PySem.W.Frag}{n:String}{t:T}(e:tyN t=some n):∀ {ms:List String},(∀ m∈ms,m∈tyNs)->PySem.W.kitAny K (.type n) (ms.map Value.type)=some (ms.any (isOne n))
 | [],_=>rfl
 | m::ms,h=>by
  rw [List.map_cons,PySem.W.kitAny.eq_2,kitOne_ok e (h m List.mem_cons_self),List.any_cons,kitAny_ok e fun x hx=>h x (List.mem_cons_of_mem _ hx)]
  cases isOne n m<;>rfl
section
variable  {ι : Type}{C:ι->Cx}{P:Program}{W:World}{K:PySem.W.Frag}{mg:Str->Option Value}{base:Heap}{k:Nat}{e:Expr}{m:ME}{pos:Pos}
theorem prim_is1 {n:String}(hn:n∈tyNs):Prim1 K (fun x H Q=>rIs1 K n [x,.ty n] H Q) (isiT [n]):=by
 intro H x tx t Q r e q
 unfold isiT at e
 cases e1:tyN tx with
 | none=>rw [e1] at e;cases e
 | some n'=>
  rw [e1] at e;cases e
  refine⟨x,n',_,rfl,tyN_ok r e1,kitOne_ok e1 hn,?_⟩
  refine q _ H ⟨Same.refl H,[],?_,List.nodup_nil,fun a h=>by cases h⟩
  rw [Rp,RpI]
  exact⟨by simp,rfl⟩
theorem prim_is2 {n1 n2:String}(h1:n1∈tyNs)(h2:n2∈tyNs):Prim1 K (fun x H Q=>[V.ty n1,V.ty n2].length<=sizeLine/\∀ p,H p=none->rIs2 K [n1,n2] [x,.ref p] (upd H p (.tup [.ty n1,.ty n2])) Q) (isiT [n1,n2]):=by
 intro H x tx t Q r e q
 unfold isiT at e
 cases e1:tyN tx with
 | none=>rw [e1] at e;cases e
 | some n'=>
  rw [e1] at e;cases e
  refine⟨by show 2<=sizeLine;decide,fun p hp=>?_⟩
  have sm:Same H (upd H p (.tup [.ty n1,.ty n2])):=(Same.refl H).put hp
  have r':Rpx K (upd H p (.tup [.ty n1,.ty n2])) tx x:=by
   obtain⟨F,r⟩:=r
   exact⟨F,r.same sm⟩
  refine⟨x,n',_,p,rfl,.inl (.inl zfa),tyN_ok r' e1,kitAny_ok e1 (by simp [h1,h2]),?_⟩
  refine q _ _ ⟨sm,[],?_,List.nodup_nil,fun a h=>by cases h⟩
  rw [Rp,RpI]
  exact⟨rfl,rfl⟩
theorem q_is1 {n:String}{x:Str}{p p1:Pos}(ck:CK C P W K mg base k)(hb:mg "isinstance" = none)(hx:mg x=none)(bx:bootBuiltins x=some (.type n))(hn:n∈tyNs)(ha:QE C K e m)(hg:∀ i,Gl (C i) "isinstance" :=by intro _;rfl)(hg1:∀ i,Gl (C i) x:=by intro _;rfl)
  (hs:zfc e=false:=by rfl) (hxn:x≠("__name__" : Str):=by decide) (hdb:(x == ("__debug__" : Str))=false:=by decide):QE C K (.Call (.Name "isinstance" p) [e,.Name x p1] [] pos) (mUn (isiT [n]) m):=by
 obtain⟨ta,q,r⟩:=ha
 refine⟨_,fun i=>pe_callBF (r:=rIs1 K n) (by have:=call_is1 (X:=C i) n;rw [ck.kk i] at this;exact this) (hg i) (by rw [ck.mg i];exact hb) boot_isinstance (zxc (hs:=hs) (q i) (zxc (pe_bltn (hg1 i) (by rw [ck.mg i];exact hx) bx (rg_ty n) hxn hdb) pa_nil)) (by show (!zfc e && true)=true;rw [hs];rfl),?_⟩
 exact ref_un (prim_is1 hn) r
theorem q_is2 {n1 n2:String}{x1 x2:Str}{p p1 p2 p3:Pos}{j:Nat}(ck:CK C P W K mg base k)(hb:mg "isinstance" = none)(hx1:mg x1=none)(bx1:bootBuiltins x1=some (.type n1))(hn1:n1∈tyNs)(hx2:mg x2=none)(bx2:bootBuiltins x2=some (.type n2))(hn2:n2∈tyNs)(ha:QE C K e m)(hg:∀ i,Gl (C i) "isinstance" :=by intro _;rfl)(hg1:∀ i,Gl (C i) x1:=by intro _;rfl)(hg2:∀ i,Gl (C i) x2:=by intro _;rfl)
  (hs:zfc e=false:=by rfl) (hxn1:x1≠("__name__" : Str):=by decide) (hdb1:(x1 == ("__debug__" : Str))=false:=by decide) (hxn2:x2≠("__name__" : Str):=by decide) (hdb2:(x2 == ("__debug__" : Str))=false:=by decide):QE C K (.Call (.Name "isinstance" p) [e,.Tuple [.Name x1 p1,.Name x2 p2] j p3] [] pos) (mUn (isiT [n1,n2]) m):=by
 obtain⟨ta,q,r⟩:=ha
 refine⟨_,fun i=>pe_callBF (r:=rIs2 K [n1,n2]) (by have:=call_is2 (X:=C i) [n1,n2];rw [ck.kk i] at this;exact this) (hg i) (by rw [ck.mg i];exact hb) boot_isinstance (zxc (hs:=hs) (q i) (zxc (pe_tup (zxc (pe_bltn (hg1 i) (by rw [ck.mg i];exact hx1) bx1 (rg_ty n1) hxn1 hdb1) (zxc (pe_bltn (hg2 i) (by rw [ck.mg i];exact hx2) bx2 (rg_ty n2) hxn2 hdb2) pa_nil))) pa_nil)) (by show (!zfc e && true)=true;rw [hs];rfl),?_⟩
 exact ref_un (prim_is2 hn1 hn2) r
end
theorem p_isi {QT1:T->Prop}{ns:List String}{t:T}{n:String}(h:tyN t=some n)(q:QT1 (.im (.bl (ns.any (isOne n))))):W1 (isiT ns t) QT1:=⟨_,by unfold isiT;rw [h];rfl,q⟩
end L2
namespace L2
open PySem PySem.Spec PyProof.Rows
noncomputable def seqI:T->Option (Bool×List I)
 | .im (.tup is)=>some (false,is)
 | .li is=>some (true,is)
 | _=>none
noncomputable def zipI (is js:List I):List R:=(is.zip js).map fun p=>⟨.ow,.im (.tup [p.1,p.2])⟩
@[irreducible] noncomputable def mZip (a:MA):MI:=⟨fun ρ=>match a.run ρ with
 | some ([r1,r2],ρ1)=>(match seqI r1.t,seqI r2.t with
  | some (_,is),some (_,js)=>some (([r1,r2],zipI is js),ρ1)
  | _,_=>none)
 | _=>none,a.mu⟩
theorem seqI_ok {K:PySem.W.Frag}{H:Hp}{kd:Bool}{is:List I}{v:V}:∀ {t:T},Rpx K H t v->seqI t=some (kd,is)->∃ a xs,v = .ref a/\SqK K H kd a xs/\RpIs K H is xs
 | .im (.tup _),r,e=>by cases e;exact zmd r
 | .li _,r,e=>by cases e;obtain⟨a,xs,h1,h2,h3⟩:=zyd r;exact⟨a,xs,h1,.inl h2,h3⟩
 | .im .non,_,e=>by cases e
 | .im (.bl _),_,e=>by cases e
 | .im (.int _),_,e=>by cases e
 | .im (.str _),_,e=>by cases e
 | .tup _,_,e=>by cases e
 | .lst _,_,e=>by cases e
 | .di _,_,e=>by cases e
 | .dc _,_,e=>by cases e
 | .ins _ _,_,e=>by cases e
theorem walk_Z {Γ:Gm}{k1 k2:Bool}{a1 a2:Addr}{r1 r2:R}{is js:List I}(e1:seqI r1.t=some (k1,is))(e2:seqI r2.t=some (k2,js)):WalkOk Γ (Itz Γ.K k1 k2 a1 a2) [.ref a1,.ref a2] [r1,r2] (zipI is js):=fun H ρ σ E S=>by
 replace S:Sim Γ H ρ σ (⟨none,.ref a1,r1⟩::⟨none,.ref a2,r2⟩::E):=S
 have R1:Rpx Γ.K H r1.t (.ref a1):=S.rd (e:=⟨none,.ref a1,r1⟩) List.mem_cons_self
 have R2:Rpx Γ.K H r2.t (.ref a2):=S.rd (e:=⟨none,.ref a2,r2⟩) (List.mem_cons_of_mem _ List.mem_cons_self)
 obtain⟨b1,xs,ea,g1,g2⟩:=seqI_ok R1 e1
 cases ea
 obtain⟨b2,ys,ea,h1,h2⟩:=seqI_ok R2 e2
 cases ea
 refine⟨fun i hi=>⟨xs,ys,g1,h1,?_⟩,fun i r hr=>?_⟩
 ·rw [g2.length,h2.length]
  unfold zipI at hi
  rw [List.length_map,List.length_zip] at hi
  omega
 ·obtain⟨p,hp,rfl⟩:=zza hr
  obtain⟨hp1,hp2⟩:=List.getElem?_zip_eq_some.mp hp
  obtain⟨w1,hw1,rw1⟩:=g2.get hp1
  obtain⟨w2,hw2,rw2⟩:=h2.get hp2
  refine⟨⟨xs,ys,w1,w2,g1,h1,hw1,hw2⟩,fun x H' y=>?_⟩
  obtain⟨pp,x',y',hpp,rfl,rfl,hx,hy⟩:=y
  have q1:=hx xs g1
  rw [hw1] at q1
  cases q1
  have q2:=hy ys h1
  rw [hw2] at q2
  cases q2
  exact S.fresh (New.tup hpp (.cons rw1 (.cons rw2 (by rw [RpIs]))))
theorem ref_zip {K:PySem.W.Frag}{ta:TA}{a:MA}(ha:RefA K ta a):RefI K (iZip K ta) (mZip a):=by
 intro Γ H ρ σ E Rr srcs items ρ' hK hr S q
 simp only [mZip] at hr q
 split at hr
 ·rename_i r1 r2 ρ1 e1
  split at hr
  ·rename_i k1 is k2 js e2 e3
   cases hr
   refine ha Γ H ρ σ E _ _ _ hK e1 S fun vs H1 hl S1=>?_
   obtain⟨v1,v2,rfl⟩:∃ v1 v2,vs = [v1,v2]:=by
    cases vs with
    | nil=>cases hl
    | cons v r=>cases r with
     | nil=>cases hl
     | cons w r=>cases r with
      | nil=>exact⟨v,w,rfl⟩
      | cons _ _=>cases hl
   have S2:Sim Γ H1 ρ' σ (⟨none,v1,r1⟩::⟨none,v2,r2⟩::zm a.mu E):=S1
   have R1:Rpx Γ.K H1 r1.t v1:=S2.rd (e:=⟨none,v1,r1⟩) List.mem_cons_self
   have R2:Rpx Γ.K H1 r2.t v2:=S2.rd (e:=⟨none,v2,r2⟩) (List.mem_cons_of_mem _ List.mem_cons_self)
   obtain⟨a1,xs,rfl,g1,g2⟩:=seqI_ok R1 e2
   obtain⟨a2,ys,rfl,h1,h2⟩:=seqI_ok R2 e3
   subst hK
   exact⟨k1,k2,a1,a2,xs,ys,rfl,g1,h1,q _ [.ref a1,.ref a2] H1 rfl S1 (walk_Z e2 e3)⟩
  ·cases hr
 ·cases hr
section
variable  {ι : Type}{C:ι->Cx}{P:Program}{W:World}{K:PySem.W.Frag}{mg:Str->Option Value}{base:Heap}{k:Nat}{a b:Expr}{ms:MA}{pos:Pos}
theorem qi_zip {elts:List Expr}{k0:Nat}{p pt:Pos}(ck:CK C P W K mg base k)(T:Bi mg)(ha:QA C K [a,b] ms)(hg:∀ i,Gl (C i) "zip" :=by intro _;rfl):QI C K (.Tuple elts k0 pt) (.Call (.Name "zip" p) [a,b] [] pos) (mZip ms):=by
 obtain⟨ta,q,n,r⟩:=ha
 refine⟨_,fun i=>by have:=pi_zip (X:=C i) (elts:=elts) (k0:=k0) (p:=p) (pos:=pos) (pt:=pt) (hg i) (by rw [ck.mg i];exact T.b_zip) (q i) n;rw [ck.kk i] at this;exact this,ref_zip r⟩
end
theorem wi_zip {ms:MA}{ρ:Rho}{QI':List R->List R->Rho->Prop}(h:WA ms ρ fun rs ρ1=>∃ r1 r2 k1 k2 is js,rs = [r1,r2]/\seqI r1.t=some (k1,is)/\seqI r2.t=some (k2,js)/\QI' [r1,r2] (zipI is js) ρ1):WI (mZip ms) ρ QI':=by
 obtain⟨rs,ρ1,e1,r1,r2,k1,k2,is,js,rfl,e2,e3,q⟩:=h
 exact⟨_,_,_,by simp only [mZip,e1,e2,e3],q⟩
end L2
namespace L2
open PySem PySem.Spec PyProof.Rows
@[irreducible] noncomputable def mMov (n:Nat):ME:=⟨fun ρ=>match ρ[n]? with
 | some (some ⟨.ow,t⟩)=>some (⟨.ow,t⟩,(zy [n] ρ).set n none)
 | _=>none,[n]⟩
theorem ref_mov {K:PySem.W.Frag}{n:Nat}:RefE K (tVar n) (mMov n):=by
 intro Γ H ρ σ E Q r ρ' hK hr S q
 simp only [mMov] at hr q
 split at hr
 ·rename_i t e1
  cases hr
  obtain⟨v,hv,S1⟩:=S.var e1
  refine⟨v,hv,q v H ?_⟩
  cases t with
  | im i=>
   have S2:=S1.fgt n
   rw [zx (show zia [n] ⟨none,v,rdR n ⟨.ow,.im i⟩⟩=true from rfl)] at S2
   exact S2
  | _=>exact S1.move e1
 ·cases hr
theorem q_mov (n:Nat){ι : Type}{C:ι->Cx}{K:PySem.W.Frag}{x:Str}{pos:Pos}(hN:∀ i,(C i).N[n]?=some x:=by intro _;rfl)(hv:∀ i,Vis (C i).env.scope x:=by first | exact fun _=>Or.inl rfl | exact fun _=>Or.inr (Or.inl rfl) | exact fun _=>Or.inr (Or.inr rfl))(hd:(x == ("__debug__" : Str))=false:=by decide)(hcd:(x == ("__classdict__" : Str))=false:=by decide):QE C K (.Name x pos) (mMov n):=⟨_,fun i=>pe_var (hN i) (hv i) hd hcd,ref_mov⟩
theorem w_mov {ρ:Rho}{n:Nat}{t:T}{QE':R->Rho->Prop}(h : ρ[n]?=some (some ⟨.ow,t⟩))(q:QE' ⟨.ow,t⟩ ((zy [n] ρ).set n none)):WE (mMov n) ρ QE':=⟨⟨.ow,t⟩,_,by simp only [mMov,h],q⟩
section
variable  {S α:Type}{ρ:Rho}{m:ME}{ms:MA}{g:MG}{s1:MS}{QE':R->Rho->Prop}{Q:Fl->Rho->Prop}{fr:List (Option Nat)}
theorem w_compZs (st:S->Rho)(emb : α->I)(P:Nat->S->List α->Prop) (h:WA ms ρ fun rs ρ1=>∃ r1 r2 k1 k2 is js,rs = [r1,r2]/\seqI r1.t=some (k1,is)/\seqI r2.t=some (k2,js)/\min is.length js.length<sizeLine/\(frOk fr ρ1.length && ltAll (g.mu++([]++m.mu)) fr.length && [r1,r2].all (alive (muF fr (g.mu++([]++m.mu)))))=true/\∃ s0,ρ1=st s0/\P 0 s0 [] ∧
  (∀ (j:Nat) x y s l,is[j]?=some x->js[j]?=some y->P j s l->WG g ⟨.ow,.im (.tup [x,y])⟩ (inR fr (st s)) fun ρ1=>WE m ρ1 fun r ρ3=>∃ x s',r=⟨.ow,.im (emb x)⟩/\outR fr (g.mu++([]++m.mu)) ρ3 (st s)=st s'/\P (j+1) s' (l++[x])) ∧
  ∀ s l,P (min is.length js.length) s l->QE' ⟨.ow,.li (l.map emb)⟩ (st s)):WE (zrb fr (mZip ms) g mYes m) ρ QE':=by with_unfolding_all
 obtain⟨rs,ρ1,e1,r1,r2,k1,k2,is,js,rfl,e2,e3,hl,al,s0,rfl,h0,hs,he⟩:=h
 refine w_comp (wi_zip ⟨_,_,e1,r1,r2,k1,k2,is,js,rfl,e2,e3,al,by unfold zipI;rw [List.length_map,List.length_zip];exact hl,fun j acc ρ=>∃ s l,acc=l.map (fun x=>T.im (emb x))/\ρ=st s/\P j s l,⟨s0,[],rfl,rfl,h0⟩,?_,?_⟩)
 ·rintro j r acc ρ hj ⟨s,l,rfl,rfl,hP⟩
  obtain⟨p,hp,rfl⟩:=zza hj
  obtain⟨hp1,hp2⟩:=List.getElem?_zip_eq_some.mp hp
  refine WG.mono (hs j p.1 p.2 s l hp1 hp2 hP) fun ρ1 q=>wt_yes ⟨fun _=>q.mono fun r ρ3 ⟨x,s',e,e',hP'⟩=>⟨_,e,s',l++[x],by simp,e',hP'⟩,fun z=>by cases z⟩
 ·rintro acc ρ ⟨s,l,rfl,rfl,hP⟩
  rw [mkLst_ims]
  refine he s l ?_
  have:(zipI is js).length=min is.length js.length:=by unfold zipI;rw [List.length_map,List.length_zip]
  rw [← this]
  exact hP
end
theorem comp_map {g2:MG}{m2:ME}{fr2:List (Option Nat)}{items:List I}{M:List Nat}{QC:List T->Rho->Prop}(f:I->I)(st:Rho)(hst:∀ x∈items,WG g2 (renR (piF fr2) ⟨.ow,.im x⟩) (inR fr2 st) fun ρ1=>WE m2 ρ1 fun r ρ3=>r=⟨.ow,.im (f x)⟩/\outR fr2 M ρ3 st=st)(acc:List T)(q:QC (acc++(items.map f).map T.im) st):W2 (zya fr2 M g2 mYes m2 (items.map fun i=>⟨.ow,.im i⟩) st acc) QC:=by
 refine comp_run (items:=items.map fun i=>⟨.ow,.im i⟩) (fun i a ρ=>ρ=st/\a=acc++((items.take i).map f).map T.im) (fun i r a ρ hr hI=>?_) (fun a ρ hI=>?_) _ 0 acc st rfl (Nat.zero_le _) ⟨rfl,by simp⟩
 ·obtain⟨rfl,rfl⟩:=hI
  obtain⟨x,hx,rfl⟩:=zza hr
  refine (hst x (List.mem_of_getElem? hx)).mono fun ρ1 w=>wt_yes ⟨fun _=>w.mono fun r ρ3 ⟨e,e'⟩=>⟨_,e,e',?_⟩,fun z=>by cases z⟩
  rw [List.take_succ,hx]
  simp
 ·obtain⟨rfl,rfl⟩:=hI
  rw [List.length_map,List.take_length]
  exact q
theorem rngI_eq {lo:Int}{n:Nat}:rngI lo n=((List.range n).map fun i:Nat=>I.int (lo+(i:Int))).map fun i=>⟨.ow,.im i⟩:=by
 unfold rngI rInt
 rw [List.map_map]
 rfl
theorem p_isiB {QT1:T->Prop}{ns:List String}{t:T}{n:String}{b:Bool}(h:tyN t=some n)(hb:ns.any (isOne n)=b)(q:QT1 (.im (.bl b))):W1 (isiT ns t) QT1:=p_isi h (by rw [hb];exact q)
theorem p_neBB {a:Bool}{QT1:T->Prop}(q:QT1 (.im (.bl false))):W1 (neT (.im (.bl a)) (.im (.bl a))) QT1:=w1 (x:=.im (.bl false)) (by with_unfolding_all (cases a<;>rfl)) q
end L2
namespace L2
open PySem PySem.Spec PyProof.Rows
noncomputable def vs (x:String) (t:Tok):Value:=.str (Str.ofString x) t
noncomputable def vi (n:Int):Value:=.int n 0
noncomputable def vr (a:Addr):Value:=.ref a
noncomputable def eO (p:Params) (x:String) (t:Tok) (v:Value):DictEntry:=⟨PyData.keyHash p (Str.ofString x),.str (Str.ofString x) t,v⟩
noncomputable def oC (vs:List Value):Obj:={ cls:=.type "code",data:=.fields vs.toArray }
noncomputable def oD (es:List DictEntry) (n:Nat):Obj:={ cls:=.type "dict",data:=.dict es.toArray n }
noncomputable def oF (x:String) (st:Stmt) (pm:Value) (c:Addr):Obj:={ cls:=.type "function",data:=.func (PySem.W.fnOf (Str.ofString x) (Str.ofString x) (zod st) (zkb st) (zq st) .none .none .none pm none (.ref c) .none) }
theorem Def0.mkO {K:PySem.W.Frag}{h:Heap}{mg:Str->Option Value}{x:String}{st:Stmt}{ps:List Str}(X:K.In h)(G:h.Ns mainGlobals mg)(f:Addr)(pm:Value)(c:Addr)
  (a:PySem.W.nsIn K mainGlobals (Str.ofString x)=some (some (.ref f))) (l:K.lookup f=some (oF x st pm c)) (cd:PySem.W.codeIn K (.ref c) (Str.ofString x)=true)
  (hb:∀ (kV doc pm:Value) (an:Option Addr) (cdv ct:Value) (us:List Value),us.length=ps.length->bindArgs (PySem.W.fnOf (Str.ofString x) (Str.ofString x) (zod st) (zkb st) (zq st) .none kV doc pm an cdv ct) ⟨us,[]⟩=pure (ps.zip us)):Def0 K mg (Str.ofString x) st ps:=
 Def0.mk' X G a l cd (by unfold PySem.W.keepIn;dsimp only;rw [l];rfl) hb
section
variable  {α:Type}{f g:List Value->α}
theorem by1 (h:∀ a0,f [a0]=g [a0]):∀ us:List Value,us.length=1->f us=g us
 | [a0],_=>h a0
theorem by2 (h:∀ a0 a1,f [a0,a1]=g [a0,a1]):∀ us:List Value,us.length=2->f us=g us
 | [a0,a1],_=>h a0 a1
theorem by3 (h:∀ a0 a1 a2,f [a0,a1,a2]=g [a0,a1,a2]):∀ us:List Value,us.length=3->f us=g us
 | [a0,a1,a2],_=>h a0 a1 a2
end
end L2
namespace L2
open PySem
noncomputable section
noncomputable def m_l_feed:MS:=(mSeq (mAsg (mOp addT (mOp mulT (mC (.int 7901)) (mVar 1)) (mC (.int 24697))) (zn 2))
  (mSeq (mIf (zlb (mOp (cmpT fun i j=>decide (i<j)) (mVar 1) (mB lenT (ze 0 mNil)))) (mAsg (mIx (mVar 0) (mVar 1)) (zn 2)) (mIf (zlb (mOp (cmpT fun i j=>decide (j<i)) (mB lenT (ze 0 mNil)) (mC (.int 0)))) (mAsg (mOp addT (mOp mulT (mOp modT (mIx (mVar 0) (mOp modT (mVar 1) (mB lenT (ze 0 mNil)))) (mC (.int 2147483629))) (mC (.int 31))) (mOp mulT (mC (.int 7901)) (mVar 1))) (zn 2)) mNext))
  (mSeq (mAsg (mC (.int 0)) (zn 3))
  (mSeq (mIf (zlb (mOp (cmpT fun i j=>decide (j<=i)) (mVar 2) (mOp powT (mC (.int 10)) (mC (.int 18))))) (mAsg (mVar 2) (zn 3)) mNext)
  (mRet (zxa [3] (ze 3 (zf (mOp addT (mOp modT (mOp powT (mOp addT (mOp mulT (mOp modT (mVar 2) (mC (.int 2147483629))) (mC (.int 48271))) (mOp mulT (mC (.int 40692)) (mVar 1))) (mC (.int 5))) (mC (.int 2147483629))) (mC (.int 1))) mNil))))))))
noncomputable def r_l_feed (ts:List T):Option T:=if ts.length=2 then runP m_l_feed 4 ts else none
noncomputable def m_l_take:MS:=(mSeq (mIf (zlb (mOp (cmpT fun i j=>decide (j<i)) (mIx (mVar 0) (mC (.int 0))) (mC (.int 0)))) (mSeq (mAsg (mOp modT (mIx (mVar 0) (mC (.int 0))) (mVar 1)) (zn 2))
  (mSeq (mAsg (mOp fdivT (mIx (mVar 0) (mC (.int 0))) (mVar 1)) (mSub 0 (mVar 0) (mC (.int 0))))
  (mRet (mVar 2)))) mNext)
  (mSeq (mAsg (mOp modT (mOp mulT (mIx (mVar 0) (mC (.int 1))) (mC (.int 48271))) (mC (.int 2147483647))) (zn 3))
  (mSeq (mAsg (mOp addT (mOp modT (mOp addT (mOp mulT (mVar 3) (mC (.int 40692))) (mC (.int 30103))) (mC (.int 2147483399))) (mC (.int 1))) (mSub 0 (mVar 0) (mC (.int 1))))
  (mRet (mOp modT (mOp fdivT (mOp addT (mOp mulT (mVar 3) (mC (.int 2147483647))) (mIx (mVar 0) (mC (.int 1)))) (mC (.int 8191))) (mVar 1))))))
noncomputable def zp (ts:List T):Option (T×T):=if ts.length=2 then runI m_l_take 0 4 ts else none
noncomputable def m_l_names:MS:=(mSeq (mAsg (mC (.str "abcdefghijklmnopqrstuvwxyz")) (zn 2))
  (mSeq (mAsg (mM joinT (mC (.str "")) (zf (zrb [some 0,none,some 2,none,none,none,none,none,none] (zdb (zf (zr 0 0 zp (ze 0 (zf (mC (.int 6)) mNil))) mNil)) (zn 7) mYes (mIx (mVar 2) (zr 0 0 zp (ze 0 (zf (mC (.int 26)) mNil))))) mNil)) (zn 3))
  (mSeq (mPar2 4 5 (zf (zr 0 0 zp (ze 0 (zf (mC (.int 26)) mNil))) (zf (zr 0 0 zp (ze 0 (zf (mOp addT (mB lenT (ze 3 mNil)) (mC (.int 1))) mNil))) mNil)))
  (mSeq (mAsg (zxa [] mNil) (zn 6))
  (mSeq (mFor (zdb (ze 1 mNil)) (zn 7)
  (mFgt [7,8] (mSeq (mAsg (mOp addT (mOp addT (mSl (mVar 3) mNoPart (mPart (mVar 5))) (mIx (mVar 2) (mOp modT (mOp addT (mVar 4) (mOp mulT (mC (.int 5)) (mVar 7))) (mC (.int 26))))) (mSl (mVar 3) (mPart (mVar 5)) mNoPart)) (zn 8))
  (mSeq (mIf (zlb (mOp eqT (mOp modT (mVar 7) (mC (.int 2))) (mC (.int 1)))) (mAsg (mOp addT (mVar 8) (mC (.str "q"))) (zn 8)) mNext)
  (mSeq (mIf (zlb (mOp inT (mVar 8) (zda [] (zf (mC (.str "min")) (zf (mC (.str "max")) (zf (mC (.str "rest")) (zf (mC (.str "less")) (zf (mC (.str "if")) mNil)))))))) (mAsg (mOp addT (mVar 8) (mC (.str "w"))) (zn 8)) mNext)
  (zhc (mMut 6 [8] apT (mVar 6) (ze 8 mNil))))))))
  (mRet (mVar 6)))))))
noncomputable def r_l_names (ts:List T):Option (T×T):=if ts.length=2 then runI m_l_names 0 9 ts else none
noncomputable def m_l_row:MS:=(mSeq (mIf (zlb (mOp eqT (zr 0 0 zp (ze 0 (zf (mC (.int 4)) mNil))) (mC (.int 0)))) (mRet (mOp mulT (zda [] (zf (mC (.int 0)) mNil)) (mVar 1))) mNext)
  (mRet (mB tupT (zf (zrb [some 0,none,none] (zdb (ze 1 mNil)) (zn 2) mYes (mIx (zxa [] (zf (mC (.int 0)) (zf (mC (.int 1)) (zf (mOp subT (mC (.int 0)) (mC (.int 1))) (zf (mC (.int 2)) (zf (mOp subT (mC (.int 0)) (mC (.int 2))) mNil)))))) (zr 0 0 zp (ze 0 (zf (mC (.int 5)) mNil))))) mNil))))
noncomputable def r_l_row (ts:List T):Option (T×T):=if ts.length=2 then runI m_l_row 0 2 ts else none
noncomputable def zbe:MS:=(mSeq (mAsg (zr 0 0 zp (ze 0 (ze 1 mNil))) (zn 2))
  (mSeq (mAsg (zrb [some 0,none,none,none,none] (mRng2 (zf (mOp addT (mVar 2) (mC (.int 1))) (ze 1 mNil))) (zn 4) mYes (mIx (zxa [] (zf (mC (.int 0)) (zf (mC (.int 1)) (zf (mOp subT (mC (.int 0)) (mC (.int 1))) (zf (mC (.int 2)) (zf (mOp subT (mC (.int 0)) (mC (.int 2))) mNil)))))) (zr 0 0 zp (ze 0 (zf (mC (.int 5)) mNil))))) (zn 3))
  (mRet (mB tupT (zf (mOp addT (mOp addT (mOp mulT (zxa [] (zf (mC (.int 0)) mNil)) (mVar 2)) (zxa [] (zf (mOp subT (mOp subT (mC (.int 0)) (mC (.int 1))) (zr 0 0 zp (ze 0 (zf (mC (.int 2)) mNil)))) mNil))) (mVar 3)) mNil)))))
noncomputable def zyc (ts:List T):Option (T×T):=if ts.length=2 then runI zbe 0 4 ts else none
noncomputable def zzc:MS:=(mSeq (mAsg (zrb [none,none,none,none,none,none] (zdb (ze 2 mNil)) (zn 4) mYes (zxa [] mNil)) (zn 3))
  (mSeq (mFor (zdb (ze 2 mNil)) (zn 4)
  (mFgt [4,5] (mFor (zdb (zf (zr 0 0 zp (ze 0 (zf (mC (.int 4)) mNil))) mNil)) (zn 5)
  (mFgt [5] (zhc (mMut 3 [] apT (mIx (mVar 3) (mVar 4)) (zf (zda [] (zf (zr 0 0 zp (ze 0 (ze 2 mNil))) (zf (zr 0 0 r_l_row (ze 0 (ze 1 mNil))) mNil))) mNil)))))))
  (mRet (mVar 3))))
noncomputable def zed (ts:List T):Option (T×T):=if ts.length=3 then runI zzc 0 6 ts else none
noncomputable def zad:MS:=(mSeq (mAsg (zrb [none,none,none,none,none,none] (zdb (ze 2 mNil)) (zn 4) mYes (zxa [] mNil)) (zn 3))
  (mSeq (mFor (zdb (ze 2 mNil)) (zn 4)
  (mFgt [4,5] (mFor (zdb (zf (mOp addT (mC (.int 1)) (zr 0 0 zp (ze 0 (zf (mC (.int 3)) mNil)))) mNil)) (zn 5)
  (mFgt [5] (mIf (mAnd (zlb (mOp (cmpT fun i j=>decide (j<i)) (mVar 4) (mC (.int 0)))) (zlb (mOp eqT (zr 0 0 zp (ze 0 (zf (mC (.int 4)) mNil))) (mC (.int 0))))) (zhc (mMut 3 [] apT (mIx (mVar 3) (mVar 4)) (zf (zda [] (zf (zr 0 0 zp (ze 0 (ze 4 mNil))) (zf (mOp mulT (zda [] (zf (mC (.int 0)) mNil)) (mVar 1)) mNil))) mNil))) (zhc (mMut 3 [] apT (mIx (mVar 3) (mVar 4)) (zf (zda [] (zf (zr 0 0 zp (ze 0 (ze 2 mNil))) (zf (zr 0 0 zyc (ze 0 (ze 1 mNil))) mNil))) mNil))))))))
  (mRet (mVar 3))))
noncomputable def zdc (ts:List T):Option (T×T):=if ts.length=3 then runI zad 0 6 ts else none
noncomputable def zcd:MS:=(mSeq (mAsg (zxa [] mNil) (zn 3))
  (mSeq (mFor (zdb (zf (mB lenT (ze 0 mNil)) mNil)) (zn 4)
  (mFgt [4] (zhc (mMut 3 [] apT (mVar 3) (zf (mOp mulT (mIx (mVar 0) (mOp modT (mOp addT (mVar 4) (mVar 1)) (mB lenT (ze 0 mNil)))) (mIx (mVar 2) (mVar 4))) mNil)))))
  (mRet (mB tupT (ze 3 mNil)))))
noncomputable def zec (ts:List T):Option T:=if ts.length=3 then runP zcd 5 ts else none
noncomputable def zvb:MS:=(mSeq (mAsg (mOp addT (mC (.int 1)) (zr 0 0 zp (ze 0 (zf (mC (.int 2)) mNil)))) (zn 3))
  (mSeq (mAsg (zxa [] (zf (zda [] (zf (mC (.int 0)) (zf (mC (.int 0)) (zf (zda [3] (zf (mC (.int 0)) (ze 3 mNil))) mNil)))) (zf (zda [] (zf (mC (.int 1)) (zf (mC (.int 1)) (zf (zda [] (zf (mC (.int 0)) (zf (mOp subT (mOp subT (mC (.int 0)) (mC (.int 1))) (zr 0 0 zp (ze 0 (zf (mC (.int 2)) mNil)))) mNil))) mNil)))) (zf (zda [] (zf (mC (.int 0)) (zf (mC (.int 1)) (zf (zda [] (zf (mOp subT (mC (.int 0)) (mC (.int 1))) (zf (mOp subT (zr 0 0 zp (ze 0 (zf (mC (.int 3)) mNil))) (mC (.int 1))) mNil))) mNil)))) mNil)))) (zn 4))
  (mSeq (zhc (mMut 4 [] apT (mVar 4) (zf (zda [] (zf (mC (.int 1)) (zf (mC (.int 0)) (zf (zda [] (zf (mOp subT (mC (.int 0)) (zr 0 0 zp (ze 0 (zf (mC (.int 2)) mNil)))) (zf (mC (.int 0)) mNil))) mNil)))) mNil)))
  (mSeq (mIf (zlb (mOp eqT (mVar 1) (mC (.int 3)))) (mSeq (mAsg (zxa [] (zf (zda [] (zf (mC (.int 0)) (zf (mC (.int 0)) (zf (zda [3] (zf (mC (.int 0)) (zf (mC (.int 0)) (ze 3 mNil)))) mNil)))) (zf (zda [] (zf (mC (.int 1)) (zf (mC (.int 1)) (zf (zda [] (zf (mC (.int 0)) (zf (mC (.int 0)) (zf (mOp subT (mC (.int 0)) (mC (.int 1))) mNil)))) mNil)))) (zf (zda [] (zf (mC (.int 0)) (zf (mC (.int 1)) (zf (zda [] (zf (mC (.int 0)) (zf (mOp subT (mC (.int 0)) (mC (.int 1))) (zf (mC (.int 0)) mNil)))) mNil)))) (zf (zda [] (zf (mC (.int 1)) (zf (mC (.int 0)) (zf (zda [] (zf (mC (.int 0)) (zf (mC (.int 0)) (zf (zr 0 0 zp (ze 0 (zf (mC (.int 2)) mNil))) mNil)))) mNil)))) mNil))))) (zn 4))
  (mAsg (mOp addT (mVar 4) (zxa [] (zf (zda [] (zf (mC (.int 2)) (zf (mC (.int 2)) (zf (zda [] (zf (mC (.int 0)) (zf (mOp addT (mC (.int 1)) (zr 0 0 zp (ze 0 (zf (mC (.int 2)) mNil)))) (zf (mC (.int 0)) mNil)))) mNil)))) (zf (zda [] (zf (mC (.int 0)) (zf (mC (.int 2)) (zf (zda [] (zf (mOp subT (mC (.int 0)) (mC (.int 1))) (zf (mC (.int 0)) (zf (mC (.int 1)) mNil)))) mNil)))) (zf (zda [] (zf (mC (.int 2)) (zf (mC (.int 0)) (zf (zda [] (zf (mC (.int 0)) (zf (mC (.int 0)) (zf (mC (.int 0)) mNil)))) mNil)))) mNil))))) (zn 4))) mNext)
  (mSeq (mPar2 5 6 (zf (zr 0 0 zp (ze 0 (ze 1 mNil))) (zf (zrb [some 0,none,none,none,none,none,none,none,none,none,none,none] (zdb (ze 1 mNil)) (zn 11) mYes (mOp subT (mC (.int 1)) (mOp mulT (mC (.int 2)) (zr 0 0 zp (ze 0 (zf (mC (.int 2)) mNil)))))) mNil)))
  (mSeq (mAsg (zrb [none,none,none,none,none,none,none,none,none,none,none] (zdb (ze 2 mNil)) (zn 8) mYes (zxa [] mNil)) (zn 7))
  (mSeq (mFor (mIt (mVar 4)) (mGTup (zib (zn 8) (zib (zn 9) (zib (zn 10) mGNil))))
  (mFgt [8,9,10] (zhc (mMut 7 [] apT (mIx (mVar 7) (mVar 8)) (zf (zda [9] (ze 9 (zf (mB zec (ze 10 (ze 5 (ze 6 mNil)))) mNil))) mNil)))))
  (mSeq (mFor (mRng2 (zf (mC (.int 3)) (ze 2 mNil))) (zn 8)
  (mFgt [8] (zhc (mMut 7 [] apT (mIx (mVar 7) (mVar 8)) (zf (zda [] (zf (zr 0 0 zp (ze 0 (ze 8 mNil))) (zf (zr 0 0 r_l_row (ze 0 (ze 1 mNil))) mNil))) mNil)))))
  (mRet (mVar 7))))))))))
noncomputable def zwb (ts:List T):Option (T×T):=if ts.length=3 then runI zvb 0 11 ts else none
noncomputable def zbd:MS:=(mSeq (mAsg (zr 0 0 zdc (ze 0 (ze 1 (ze 2 mNil)))) (zn 3))
  (mSeq (mAsg (mOp addT (mC (.int 1)) (zr 0 0 zp (ze 0 (ze 2 mNil)))) (zn 4))
  (mSeq (mAsg (mOp mulT (zxa [] (zf (mC (.int 0)) mNil)) (mVar 1)) (zn 5))
  (mSeq (mFor (zdb (ze 4 mNil)) (zn 6)
  (mFgt [6,7] (mSeq (mAsg (zrb [some 0,none,none,none,none,none,none,none,none] (zdb (ze 1 mNil)) (zn 8) mYes (mOp subT (zr 0 0 zp (ze 0 (zf (mC (.int 3)) mNil))) (mC (.int 1)))) (zn 7))
  (mSeq (mAsg (zrb [none,none,none,none,none,some 5,none,some 7,none] (zdb (ze 1 mNil)) (zn 8) mYes (mOp subT (mB maxT (zf (mOp subT (mC (.int 0)) (mC (.int 2))) (zf (mB minT (zf (mC (.int 2)) (zf (mOp addT (mIx (mVar 5) (mVar 8)) (mIx (mVar 7) (mVar 8))) mNil))) mNil))) (mIx (mVar 5) (mVar 8)))) (zn 7))
  (mSeq (mIf (zlb (mOp eqT (mOp addT (mVar 6) (mC (.int 1))) (mVar 4))) (mAsg (zrb [none,none,none,none,none,none,none,none,none] (mIt (mVar 5)) (zn 8) mYes (mOp subT (mC (.int 0)) (mVar 8))) (zn 7)) mNext)
  (mSeq (mAsg (zrb [none,none,none,none,none,some 5,none,some 7,none] (zdb (ze 1 mNil)) (zn 8) mYes (mOp addT (mIx (mVar 5) (mVar 8)) (mIx (mVar 7) (mVar 8)))) (zn 5))
  (zhc (mMut 3 [] insT (mIx (mVar 3) (mVar 6)) (zf (mC (.int 0)) (zf (zda [] (zf (mOp modT (mOp addT (mVar 6) (mC (.int 1))) (mVar 4)) (zf (mB tupT (ze 7 mNil)) mNil))) mNil))))))))))
  (mRet (mVar 3))))))
noncomputable def zfd (ts:List T):Option (T×T):=if ts.length=3 then runI zbd 0 8 ts else none
noncomputable def m_l_reads:MS:=(mSeq (mPar2 1 2 (zf (zr 0 0 zp (ze 0 (zf (mC (.int 8)) mNil))) (zf (zr 0 0 zp (ze 0 (zf (mC (.int 16)) mNil))) mNil)))
  (mSeq (mAsg (mIx (zxa [] (zf (mC (.int 1)) (zf (mC (.int 2)) (zf (mC (.int 2)) (zf (mC (.int 2)) (zf (mC (.int 2)) (zf (mC (.int 1)) (zf (mC (.int 2)) (zf (mC (.int 3)) mNil))))))))) (mOp modT (mVar 2) (mC (.int 8)))) (zn 3))
  (mSeq (mAsg (mOp addT (mC (.int 1)) (zr 0 0 zp (ze 0 (zf (mIx (zxa [] (zf (mC (.int 3)) (zf (mC (.int 6)) mNil))) (mOp fdivT (mVar 2) (mC (.int 8)))) mNil)))) (zn 4))
  (mSeq (mIf (zlb (mOp (cmpT fun i j=>decide (i<j)) (mVar 1) (mC (.int 3)))) (mRet (zda [3] (ze 3 (zf (zr 0 0 zed (ze 0 (ze 3 (ze 4 mNil)))) mNil)))) mNext)
  (mSeq (mIf (zlb (mOp (cmpT fun i j=>decide (i<j)) (mVar 1) (mC (.int 5)))) (mRet (zda [3] (ze 3 (zf (zr 0 0 zdc (ze 0 (ze 3 (ze 4 mNil)))) mNil)))) mNext)
  (mSeq (mIf (zlb (mOp eqT (mVar 1) (mC (.int 5)))) (mRet (zda [3] (ze 3 (zf (zr 0 0 zfd (ze 0 (ze 3 (ze 4 mNil)))) mNil)))) mNext)
  (mSeq (mAsg (mB maxT (zf (mC (.int 2)) (ze 3 mNil))) (zn 3))
  (mRet (zda [3] (ze 3 (zf (zr 0 0 zwb (ze 0 (ze 3 (zf (mB maxT (ze 3 (zf (mB minT (ze 4 (zf (mC (.int 5)) mNil))) mNil))) mNil)))) mNil)))))))))))
noncomputable def r_l_reads (ts:List T):Option (T×T):=if ts.length=1 then runI m_l_reads 0 5 ts else none
noncomputable def m_l_grown:MS:=(mSeq (mAsg (mB lstT (ze 1 mNil)) (zn 2))
  (mSeq (mWhile (zlb (mOp (cmpT fun i j=>decide (j<i)) (mB lenT (ze 2 mNil)) (mC (.int 1))))
  (mFgt [3,4] (mSeq (mAsg (zr 0 0 zp (ze 0 (zf (mOp subT (mB lenT (ze 2 mNil)) (mC (.int 1))) mNil))) (zn 3))
  (mFgt [3,4] (mIf (mAnd (zlb (mOp (cmpT fun i j=>decide (j<i)) (mB lenT (ze 2 mNil)) (mC (.int 2)))) (zlb (mOp eqT (zr 0 0 zp (ze 0 (zf (mC (.int 5)) mNil))) (mC (.int 0))))) (mSeq (mAsg (mB minT (ze 3 (zf (mOp subT (mB lenT (ze 2 mNil)) (mC (.int 3))) mNil))) (zn 3))
  (mAsg (zxa [] (zf (zda [] (zf (mC (.str "if")) (zf (mIx (mVar 2) (mVar 3)) (zf (mIx (mVar 2) (mOp addT (mVar 3) (mC (.int 1)))) (zf (mIx (mVar 2) (mOp addT (mVar 3) (mC (.int 2)))) mNil))))) mNil)) (mSubSl 2 (mVar 2) (mVar 3) (mOp addT (mVar 3) (mC (.int 3)))))) (mSeq (mAsg (mIx (zxa [] (zf (mC (.str "+")) (zf (mC (.str "-")) (zf (mC (.str "*")) (zf (mC (.str "min")) (zf (mC (.str "max")) (zf (mC (.str "rest")) (zf (mC (.str "less")) mNil)))))))) (zr 0 0 zp (ze 0 (zf (mC (.int 7)) mNil)))) (zn 4))
  (mAsg (zxa [] (zf (zda [4] (zf (mC (.str "op")) (ze 4 (zf (mIx (mVar 2) (mVar 3)) (zf (mIx (mVar 2) (mOp addT (mVar 3) (mC (.int 1)))) mNil))))) mNil)) (mSubSl 2 (mVar 2) (mVar 3) (mOp addT (mVar 3) (mC (.int 2)))))))))))
  (mRet (mIx (mVar 2) (mC (.int 0))))))
noncomputable def r_l_grown (ts:List T):Option (T×T):=if ts.length=2 then runI m_l_grown 0 5 ts else none
noncomputable def m_l_house:MS:=(mSeq (mAsg (zr 0 0 r_l_reads (ze 0 mNil)) (mGTup (zib (zn 1) (zib (zn 2) mGNil))))
  (mSeq (mAsg (mIx (zxa [] (zf (mOp addT (mC (.int 2)) (zr 0 0 zp (ze 0 (zf (mC (.int 9)) mNil)))) (zf (mOp addT (mC (.int 2)) (zr 0 0 zp (ze 0 (zf (mC (.int 998)) mNil)))) (zf (mOp subT (mC (.int 1000000000)) (zr 0 0 zp (ze 0 (zf (mC (.int 9)) mNil)))) mNil)))) (zr 0 0 zp (ze 0 (zf (mC (.int 3)) mNil)))) (zn 3))
  (mSeq (mAsg (zr 0 0 r_l_names (ze 0 (zf (mB lenT (ze 2 mNil)) mNil))) (zn 4))
  (mSeq (mAsg (zxa [] mNil) (zn 5))
  (mSeq (mFor (zdb (zf (mB lenT (ze 2 mNil)) mNil)) (zn 6)
  (mFgt [6,7,8,9] (mSeq (mAsg (zrb [none,none,none,none,some 4,none,none,none,none,none,none,none] (mIt (mSl (mIx (mVar 2) (mVar 6)) mNoPart (mPart (mOp fdivT (mC (.int 16)) (mB lenT (ze 2 mNil)))))) (mGTup (zib (zn 10) (zib (zn 11) mGNil))) mYes (zda [11] (zf (mC (.str "at")) (zf (mIx (mVar 4) (mVar 10)) (ze 11 mNil))))) (zn 7))
  (mSeq (mFor (zdb (zf (mOp addT (zr 0 0 zp (ze 0 (zf (mC (.int 2)) mNil))) (mB intT (zf (mOp eqT (mVar 7) (zxa [] mNil)) mNil))) mNil)) (zn 8)
  (mFgt [8,9] (mSeq (mAsg (zr 0 0 zp (ze 0 (zf (mIx (zxa [] (zf (mC (.int 9)) (zf (mC (.int 1000000001)) mNil))) (zr 0 0 zp (ze 0 (zf (mC (.int 2)) mNil)))) mNil))) (zn 9))
  (zhc (mMut 7 [] insT (mVar 7) (zf (zr 0 0 zp (ze 0 (zf (mOp addT (mB lenT (ze 7 mNil)) (mC (.int 1))) mNil))) (zf (zda [9] (zf (mC (.str "num")) (ze 9 mNil))) mNil)))))))
  (zhc (mMut 5 [] apT (mVar 5) (zf (zda [] (zf (mIx (mVar 4) (mVar 6)) (zf (zr 0 0 r_l_grown (ze 0 (ze 7 mNil))) mNil))) mNil)))))))
  (mRet (zda [1,3] (ze 1 (ze 3 (zf (mB tupT (ze 5 mNil)) mNil))))))))))
noncomputable def r_l_house (ts:List T):Option (T×T):=if ts.length=1 then runI m_l_house 0 10 ts else none
end
end L2
namespace L2
open PySem
noncomputable section
noncomputable def m_p_box:MS:=(mSeq (mIf (zlb (mOp inT (mC (.int 0)) (mVar 1))) (mRet (zxa [] mNil)) mNext)
  (mSeq (mAsg (zxa [] (zf (zda [] mNil) mNil)) (zn 2))
  (mSeq (mFor (mIt (mVar 1)) (zn 3)
  (mFgt [3] (mAsg (mComp2 [none,none,none,some 3,none,none] [some 0,some 1,some 2,some 3,some 4,none] (mIt (mVar 2)) (zn 4) (zdb (ze 3 mNil)) (zn 5) mYes (mOp addT (mVar 4) (zda [5] (ze 5 mNil)))) (zn 2))))
  (mRet (mComp2 [some 0,none,none,none,none,none,none] [some 0,some 1,some 2,some 3,some 4,none,none] (mIt (mVar 2)) (zn 4) (mIt (mIx (mVar 0) (mC (.int 2)))) (mGTup (zib (zn 5) (zib (zn 6) mGNil))) mYes (zda [5,4] (ze 5 (ze 4 mNil))))))))
noncomputable def r_p_box (ts:List T):Option T:=if ts.length=2 then runP m_p_box 4 ts else none
noncomputable def m_l_alike (rec:List T->Option T):MS:=(mSeq (mIf (zlb (mUn (isiT ["tuple","list"]) (mVar 1))) (mSeq (mIf (mOr (zlb (mOp neT (mUn (isiT ["tuple"]) (mVar 0)) (mUn (isiT ["tuple"]) (mVar 1)))) (zlb (mOp neT (mUn (isiT ["list"]) (mVar 0)) (mUn (isiT ["list"]) (mVar 1))))) (mRet (mC (.bl false))) mNext)
  (mRet (mAndV (mOp eqT (mB lenT (ze 0 mNil)) (mB lenT (ze 1 mNil))) (mB allT (zf (zrb [none,none,none,none] (mZip (ze 0 (ze 1 mNil))) (mGTup (zib (zn 2) (zib (zn 3) mGNil))) mYes (mB rec (ze 2 (ze 3 mNil)))) mNil))))) mNext)
  (mSeq (mIf (mOr (zlb (mOp neT (mUn (isiT ["bool"]) (mVar 0)) (mUn (isiT ["bool"]) (mVar 1)))) (zlb (mOp neT (mUn (isiT ["str"]) (mVar 0)) (mUn (isiT ["str"]) (mVar 1))))) (mRet (mC (.bl false))) mNext)
  (mRet (mAndV (mNotV (mUn (isiT ["tuple","list"]) (mVar 0))) (mOp eqT (mVar 0) (mVar 1))))))
noncomputable def zld:Nat->List T->Option T
 | 0=>fun ts=>if ts.length=2 then runP mNever 2 ts else none
 | n+1=>fun ts=>if ts.length=2 then runP (m_l_alike (zld n)) 2 ts else none
noncomputable def m_l_sizes:MS:=(mSeq (mAsg (mOp fdivT (mC (.int 300)) (mB lenT (zf (mIx (mVar 1) (mC (.int 2))) mNil))) (zn 2))
  (mSeq (mAsg (zxa [] mNil) (zn 3))
  (mSeq (mFor (zdb (zf (mIx (mVar 1) (mC (.int 0))) mNil)) (zn 4)
  (mFgt [4,5,6] (mSeq (mAsg (zr 0 0 zp (ze 0 (zf (mC (.int 6)) mNil))) (zn 5))
  (mSeq (mAsg (mIx (zxa [2] (zf (mC (.int 0)) (zf (mC (.int 1)) (ze 2 (zf (mOp addT (mC (.int 1)) (zr 0 0 zp (ze 0 (zf (mC (.int 4)) mNil)))) (zf (mOp addT (mC (.int 1)) (zr 0 0 zp (ze 0 (zf (mC (.int 4)) mNil)))) (zf (mOp addT (mC (.int 1)) (zr 0 0 zp (ze 0 (ze 2 mNil)))) mNil))))))) (mVar 5)) (zn 6))
  (mSeq (mAsg (mB minT (ze 6 (ze 2 mNil))) (zn 6))
  (mSeq (mAsg (mOp fdivT (mVar 2) (mB maxT (zf (mC (.int 1)) (ze 6 mNil)))) (zn 2))
  (zhc (mMut 3 [6] apT (mVar 3) (ze 6 mNil)))))))))
  (mSeq (mAsg (zr 0 0 zp (ze 0 (zf (mIx (mVar 1) (mC (.int 0))) mNil))) (zn 7))
  (mRet (mB tupT (zf (mOp addT (mSl (mVar 3) (mPart (mVar 7)) mNoPart) (mSl (mVar 3) mNoPart (mPart (mVar 7)))) mNil)))))))
noncomputable def r_l_sizes (ts:List T):Option (T×T):=if ts.length=2 then runI m_l_sizes 0 8 ts else none
noncomputable def m_l_due:MS:=(mSeq (mAsg (zxa [] (zf (zda [] mNil) mNil)) (zn 2))
  (mSeq (mFor (mIt (mVar 1)) (zn 3)
  (mFgt [3,4,5] (mSeq (mAsg (zxa [] mNil) (zn 4))
  (mSeq (mFor (mIt (mVar 2)) (zn 5)
  (mFgt [5] (zhc (mMut 4 [] extT (mVar 4) (zf (zrb [none,none,none,none,none,some 5,none,none] (zdb (ze 3 mNil)) (zn 7) mYes (mOp addT (mVar 5) (zda [7] (ze 7 mNil)))) mNil)))))
  (mAsg (mMov 4) (zn 2))))))
  (mSeq (mAsg (zxa [] mNil) (zn 6))
  (mSeq (mFor (mIt (mVar 2)) (zn 5)
  (mFgt [5] (zhc (mMut 6 [] extT (mVar 6) (zf (zrb [none,none,none,none,none,some 5,none,none,none] (mIt (mIx (mVar 0) (mC (.int 2)))) (mGTup (zib (zn 7) (zib (zn 8) mGNil))) mYes (zda [7,5] (ze 7 (ze 5 mNil)))) mNil)))))
  (mRet (mVar 6))))))
noncomputable def r_l_due (ts:List T):Option T:=if ts.length=2 then runP m_l_due 7 ts else none
noncomputable def m_l_law_v2:MS:=(mSeq (mAsg (zxa [] mNil) (zn 1))
  (mSeq (mFor (zdb (zf (mB maxT (zf (mC (.int 2)) (zf (mB minT (zf (mB lenT (ze 0 mNil)) (zf (mC (.int 7)) mNil))) mNil))) mNil)) (zn 2)
  (mFgt [2,3,4] (mSeq (mAsg (mB r_l_feed (ze 0 (ze 2 mNil))) (zn 3))
  (mSeq (mAsg (zr 0 3 r_l_house (ze 3 mNil)) (zn 4))
  (zhc (mMut 1 [] apT (mVar 1) (zf (zda [4] (ze 4 (zf (zr 0 3 r_l_sizes (ze 3 (ze 4 mNil))) mNil))) mNil)))))))
  (mSeq (mFor (mIt (mOp addT (mVar 1) (mSl (mVar 1) mNoPart (mPart (mC (.int 1)))))) (mGTup (zib (zn 4) (zib (zn 5) mGNil)))
  (mFgt [4,5,6,7,8] (mSeq (mAsg (mB r_l_due (ze 4 (ze 5 mNil))) (zn 6))
  (mFor (zdb (zf (mC (.int 2)) mNil)) (zn 7)
  (mFgt [7,8] (mSeq (mAsg (mB r_p_box (ze 4 (ze 5 mNil))) (zn 8))
  (mSeq (mIf (mNot (zlb (mB (zld 24) (ze 8 (ze 6 mNil))))) (mRet (mC (.bl false))) mNext)
  (zhc (mMut 8 [] apT (mVar 8) (zf (zda [] (zf (mC (.str "q")) (zf (zda [] mNil) mNil))) mNil))))))))))
  (mRet (mC (.bl true))))))
noncomputable def r_l_law_v2 (ts:List T):Option T:=if ts.length=1 then runP m_l_law_v2 9 ts else none
end
end L2
namespace L2
open PySem PySem.Spec PyProof.Rows
local macro_rules | `(tactic| ac_nf)=>`(tactic| try simp only [kR_nil,kR_ow,kR_io,kR_none,kR_vn,List.set_cons_zero,List.set_cons_succ,put_nil,rInt_eq,rdR_im,rdR_vw,rdR_li,rdR_lst,fgts_nil,fgts_cons])
local macro_rules | `(tactic| infer_instance)=>`(tactic| first
 | refine fseq_nx ?_ | refine fseq_rt ?_ | refine fseq_bk ?_ | refine fseq_ct ?_ | (refine ffgt_nx ?_;try ac_nf) | refine ffgt_rt ?_ | refine ffgt_ct ?_ | refine ffgt_bk ?_ | refine ffs_rt ?_ | refine ffs_nx ?_ | refine fi_rt rfl ?_ | refine fi_nx rfl ?_ | refine fp_rt ?_ | refine fp_nx ?_
 | refine w_seq ?_ | refine w_asg ?_ | refine w_ret ?_ | refine w_retN ?_ | refine w_drop ?_ | refine w_next ?_ | refine w_fgt ?_ | refine w_par ?_ | refine w_par3 ?_
 | refine w_C ?_ | refine w_var rfl ?_ | refine w_op ?_ | refine w_un ?_ | refine w_B ?_ | refine w_M ?_ | refine w_ix ?_ | refine w_sl ?_ | refine w_lstD ?_ | refine w_tupD ?_ | refine w_ifE ?_ | refine w_andV ?_ | refine w_orV ?_ | refine w_notV ?_ | refine w_callI ?_ | refine w_callT ?_ | refine w_mut ?_ | refine w_mut0 ?_ | refine w_chain ?_
 | refine wo_none ?_ | refine wo_some ?_
 | refine wa_nil ?_ | refine wa_cons ?_ | refine wa_consV rfl ?_
 | refine wt_test ?_ | refine wt_tru ?_ | refine wt_not ?_ | refine wt_and ?_ | refine wt_or ?_ | refine wt_yes ?_
 | (refine wg_name (by with_unfolding_all rfl) ?_;try ac_nf) | refine wg_tup rfl ?_ | refine wgs_cons (by with_unfolding_all rfl) ?_ | refine wgs_nil ?_ | refine wg_sub ?_ | refine wg_subsl ?_
 | refine gu (by with_unfolding_all rfl) ?_
 | refine p_addI ?_ | refine p_sub ?_ | refine p_neg ?_ | refine p_cmp ?_ | refine p_eqI ?_ | refine p_neI ?_ | refine p_eqS ?_ | refine p_neS ?_ | refine p_inS ?_ | refine p_lenT ?_ | refine p_lenL ?_ | refine p_lenLL ?_ | refine p_min ?_ | refine p_max ?_ | refine p_intI ?_ | refine p_intB ?_ | refine p_tupL ?_ | refine p_tupT ?_ | refine p_lstL ?_ | refine p_lstT ?_ | refine p_rev ?_ | refine p_isBB ?_ | refine p_nisBB ?_ | refine p_slL ?_ | refine p_retO ?_ | refine p_retV rfl ?_ | refine p_reverse ?_
 | refine p_ixL rfl ?_ | refine p_ixT rfl ?_ | refine p_setL (n:=0) rfl (Nat.le_of_ble_eq_true rfl) ?_ | refine p_setL (n:=1) rfl (Nat.le_of_ble_eq_true rfl) ?_
 | refine p_mul (mulR (by decide) (by decide)) ?_ | refine p_mul (mulL (by decide) (by decide)) ?_ | refine p_mod (by omega) ?_ | refine p_fdiv (by omega) ?_
 | refine w_mutR (by rfl) ?_ | refine cl_nil ?_ | refine cl_ow ?_ | refine cl_vw (by with_unfolding_all rfl) rfl ?_
 | refine p_isiB (b:=true) rfl (by decide) ?_ | refine p_isiB (b:=false) rfl (by decide) ?_ | refine p_neBB ?_ | refine w_mov (by with_unfolding_all rfl) ?_
 | refine is_B ?_ | refine is_N ?_ | refine at_V rfl ?_ | refine at_C rfl (by with_unfolding_all rfl) rfl rfl ?_ | refine at_T rfl ?_ | refine at_M rfl rfl ?_ | refine at_S ?_ | refine two_of ?_ | refine three_of ?_ | refine int1_of rfl ?_ | refine int2_of rfl ?_)
local macro_rules | `(tactic| and_intros)=>`(tactic| repeat infer_instance)
local macro_rules | `(tactic| bv_omega)=>`(tactic| with_unfolding_all rfl)
local macro_rules | `(tactic| clear_value $h:ident)=>`(tactic| first | refine dsp (fun $h=>?_) (fun $h=>?_) | refine dspN (fun $h=>?_) (fun $h=>?_) | refine bsp (fun $h=>?_) (fun $h=>?_))
theorem zua {ns:List Int}{kd:Kd}{a:Int}{QR:R->Prop}(h0:0<=a)(h1:a<ns.length)(q:∀ y,y∈ns->ns[a.toNat]?=some y->QR ⟨.ow,.im (.int y)⟩):W1 (ixR ⟨kd,.li (ns.map .int)⟩ (.im (.int a))) QR:=by
 refine p_ixLk h0 (by simpa using h1) fun x hx=>?_
 rw [List.getElem?_map] at hx
 cases e:ns[a.toNat]? with
 | none=>rw [e] at hx;cases hx
 | some y=>rw [e] at hx;cases hx;exact q y (List.mem_of_getElem? e) e
theorem p_ixIntsT {ns:List Int}{kd:Kd}{a:Int}{QR:R->Prop}(h0:0<=a)(h1:a<ns.length)(q:∀ y,y∈ns->ns[a.toNat]?=some y->QR ⟨.ow,.im (.int y)⟩):W1 (ixR ⟨kd,.im (.tup (ns.map .int))⟩ (.im (.int a))) QR:=by
 refine p_ixTk h0 (by simpa using h1) fun x hx=>?_
 rw [List.getElem?_map] at hx
 cases e:ns[a.toNat]? with
 | none=>rw [e] at hx;cases hx
 | some y=>rw [e] at hx;cases hx;exact q y (List.mem_of_getElem? e) e
theorem zpa {α:Type}{P : α->Prop}{l:List α}{y : α}(h:∀ x∈l,P x)(hy:P y):∀ x∈l++[y],P x:=fun x hx=>(List.mem_append.mp hx).elim (h x) fun z=>by rw [List.mem_singleton.mp z];exact hy
noncomputable def fT (f:Int×Int):T:=.li [.int f.1,.int f.2]
theorem zu {f:Int×Int}{n:Int}(h1:0<n)(h2:n<2 ^ 64){Q:T->T->Prop}(q:∀ d f',0<=d->d<n->Q (.im (.int d)) (fT f')):W2 (zp [fT f,.im (.int n)]) Q:=by
 refine runI_ok rfl rfl ?_
 unfold m_l_take
 and_intros
 (refine w_if ?_;and_intros;clear_value h)
 ·and_intros
  exact q _ (f.1 / n,f.2) (Int.emod_nonneg _ (by omega)) (Int.emod_lt_of_pos _ h1)
 ·and_intros
  exact q _ (f.1,(f.2 * 48271 % 2147483647 * 40692+30103) % 2147483399+1) (Int.emod_nonneg _ (by omega)) (Int.emod_lt_of_pos _ h1)
noncomputable def tRow (is:List Int):T:=.im (.tup (is.map .int))
theorem row_ok {f:Int×Int}{n:Int}(h1:1<=n)(h2:n<=3){Q:T->T->Prop}(q:∀ is f',is.length=n.toNat->(∀ x∈is,-2<=x/\x<=2)->Q (tRow is) (fT f')):W2 (r_l_row [fT f,.im (.int n)]) Q:=by
 refine runI_ok rfl rfl ?_
 unfold m_l_row
 and_intros
 refine w_if ?_
 and_intros
 refine zu (by omega) (by omega) fun d f hd0 hd1=>?_
 ac_nf
 and_intros
 clear_value h
 ·and_intros
  refine p_mulT (is:=[.int 0]) ⟨by simp,by decide,by omega,by omega⟩ ?_
  and_intros
  have:(List.replicate n.toNat [I.int 0]).flatten=(List.replicate n.toNat (0:Int)).map .int:=by simp
  rw [this]
  exact q _ f (by simp) (by intro x hx;rw [(List.mem_replicate.mp hx).2];decide)
 ·and_intros
  refine zwd (fun f:Int×Int=>[some ⟨.io 0,fT f⟩,some ⟨.ow,.im (.int n)⟩]) I.int (fun j _ is=>is.length=j/\∀ x∈is,-2<=x/\x<=2) ?_
  and_intros
  refine⟨⟨by omega,by omega⟩,by bv_omega,f,by bv_omega,⟨rfl,by simp⟩,fun j f is hj ⟨hl,hx⟩=>?_,fun f is ⟨hl,hx⟩=>?_⟩
  ·and_intros
   refine zu (by omega) (by omega) fun d f hd0 hd1=>?_
   ac_nf
   and_intros
   refine zua (ns:=[0,1,0 - 1,2,0 - 2]) hd0 hd1 fun y hy _=>⟨y,f,rfl,by bv_omega,by simp [hl],zpa hx (by simp at hy;omega)⟩
  ·and_intros
   exact q is f hl hx
theorem back_ok {f:Int×Int}{n:Int}(h1:1<=n)(h2:n<=3){Q:T->T->Prop}(q:∀ is f',is.length=n.toNat->(∀ x∈is,-2<=x/\x<=2)->(∃ (k:Nat) (y:Int) (m:List Int),is=List.replicate k 0++y::m/\y<0)->Q (tRow is) (fT f')):W2 (zyc [fT f,.im (.int n)]) Q:=by
 refine runI_ok rfl rfl ?_
 unfold zbe
 and_intros
 refine zu (by omega) (by omega) fun d f hd0 hd1=>?_
 ac_nf
 and_intros
 refine w_compR2s (fun f:Int×Int=>[some ⟨.io 0,fT f⟩,some ⟨.ow,.im (.int n)⟩,some ⟨.ow,.im (.int d)⟩,none]) I.int (fun j _ is=>is.length=j/\∀ x∈is,-2<=x/\x<=2) ?_
 and_intros
 refine⟨⟨by omega,by omega,by omega,by omega,by omega⟩,by bv_omega,f,by bv_omega,⟨rfl,by simp⟩,fun j f is hj ⟨hl,hx⟩=>?_,fun f is ⟨hl,hx⟩=>?_⟩
 ·and_intros
  refine zu (by omega) (by omega) fun d f hd0 hd1=>?_
  ac_nf
  and_intros
  refine zua (ns:=[0,1,0 - 1,2,0 - 2]) hd0 hd1 fun y hy _=>⟨y,f,rfl,by bv_omega,by simp [hl],zpa hx (by simp at hy;omega)⟩
 ·and_intros
  refine p_mulL (is:=[.int 0]) ⟨by omega,by omega,by simp;rw [sizeLine_eq];omega⟩ ?_
  and_intros
  refine zu (by omega) (by omega) fun d2 f hd20 hd21=>?_
  ac_nf
  and_intros
  refine p_addL (is:=(List.replicate d.toNat [I.int 0]).flatten) (js:=[.int (0 - 1 - d2)]) (by simp;rw [sizeLine_eq];omega) ?_
  and_intros
  refine p_addL (is:=(List.replicate d.toNat [I.int 0]).flatten++[.int (0 - 1 - d2)]) (js:=is.map I.int) (by simp;rw [sizeLine_eq];omega) ?_
  and_intros
  have:(List.replicate d.toNat [I.int 0]).flatten++[.int (0 - 1 - d2)]++is.map I.int=(List.replicate d.toNat 0++(0 - 1 - d2)::is).map I.int:=by simp
  rw [this]
  exact q _ f (by simp;omega) (fun x hx'=>by
   rcases List.mem_append.mp hx' with hx' | hx'
   ·rw [(List.mem_replicate.mp hx').2];decide
   ·rcases List.mem_cons.mp hx' with rfl | hx'
    ·omega
    ·exact hx x hx') ⟨d.toNat,_,is,rfl,by omega⟩
theorem turned_ok {row signs:List Int}{way:Int}(h1:1<=row.length)(h2:row.length<=1000)(hw:0<=way)(hs:signs.length=row.length)(hm:∀ x∈row,-(2 ^ 64)<x/\x<2 ^ 64){Q:T->Prop}(q:∀ is:List Int,is.length=row.length->(∀ (k:Nat) x s,row[(k+way.toNat) % row.length]?=some x->signs[k]?=some s->is[k]?=some (x * s))->Q (tRow is)):W1 (zec [tRow row,.im (.int way),.li (signs.map .int)]) Q:=by
 refine runP_ok rfl rfl ?_
 unfold zcd
 and_intros
 refine zic (fun p:List Int=>[some ⟨.ow,tRow row⟩,some ⟨.ow,.im (.int way)⟩,some ⟨.vw none none,.li (signs.map .int)⟩,some ⟨.ow,.li (p.map .int)⟩,none]) (fun j p=>p.length=j/\∀ (k:Nat),k<j->∀ x s,row[(k+way.toNat) % row.length]?=some x->signs[k]?=some s->p[k]?=some (x * s)) ?_
 and_intros
 rw [List.length_map]
 refine⟨⟨by omega,by omega⟩,[],by bv_omega,⟨rfl,fun k hk=>absurd hk (Nat.not_lt_zero _)⟩,fun j is hj ⟨hl,hx⟩=>?_,fun is ⟨hl,hx⟩=>?_⟩
 ·and_intros
  refine p_mod (by simp;omega) ?_
  and_intros
  rw [List.length_map]
  have e1:((j:Int)+way) % (row.length:Int)=(((j+way.toNat) % row.length:Nat):Int):=by
   rw [Int.natCast_emod,Int.natCast_add];congr 1;omega
  rw [e1]
  have hlt:(j+way.toNat) % row.length<row.length:=Nat.mod_lt _ (by omega)
  refine p_ixIntsT (ns:=row) (by omega) (by omega) fun y hy ey=>?_
  and_intros
  refine zua (ns:=signs) (by omega) (by omega) fun z hz ez=>?_
  and_intros
  refine p_mul (mulL (hm y hy).1 (hm y hy).2) ?_
  and_intros
  refine zwc (by simp [hl];rw [sizeLine_eq];omega) ?_
  and_intros
  refine⟨is++[y * z],?_,by simp [hl],fun k hk x s h1 h2=>?_⟩
  ·show _ = [_,_,_,_,_]
   rw [List.map_append]
   bv_omega
  ·rcases Nat.lt_succ_iff_lt_or_eq.mp hk with hk | rfl
   ·rw [List.getElem?_append_left (by omega)];exact hx k hk x s h1 h2
   ·rw [Int.toNat_natCast] at ey ez
    rw [ey] at h1;rw [ez] at h2
    cases h1;cases h2
    rw [List.getElem?_append_right (by omega),hl];simp
 ·and_intros
  exact q is (by omega) fun k x s h1 h2=>hx k (by have:=(List.getElem?_eq_some_iff.mp h2).1;omega) x s h1 h2
noncomputable def tRd (p:Int×List Int):I:=.tup [.int p.1,.tup (p.2.map .int)]
noncomputable def zha (l:List (Int×List Int)):T:=.li (l.map tRd)
theorem zqe (l:List (Int×List Int))(i:I):zha l ≠ .im i:=by unfold zha;intro z;cases z
theorem put_look {ls:List (List (Int×List Int))}{n:Nat}{l:List (Int×List Int)}{p:Int×List Int}(h:ls[n]?=some l):T.put (.lst (ls.map zha)) [.ix n] (.li (l.map tRd++[tRd p])) = .lst ((ls.set n (l++[p])).map zha):=by
 rw [put_ix (u:=zha l) (by rw [List.getElem?_map,h];rfl),List.map_set]
 simp [zha]
theorem w_lk {ρ:Rho}{Q:Fl->Rho->Prop}{L X:Nat}{args:MA}{ls:List (List (Int×List Int))}{i:Int}(n:Nat){l:List (Int×List Int)}(hL : ρ[L]?=some (some ⟨.ow,.lst (ls.map zha)⟩))(hX : ρ[X]?=some (some ⟨.ow,.im (.int i)⟩))(hi:i=(n:Int))(hl:ls[n]?=some l)(hz:l.length<1000)(hm:args.mu.contains L=false)
  (ha:WA args ρ fun rs ρ1=>∃ p,rs = [⟨.ow,.im (tRd p)⟩]/\ρ1[L]?=some (some ⟨.ow,.lst (ls.map zha)⟩)/\Q .nx ((zy [L] ρ1).set L (some ⟨.ow,.lst ((ls.set n (l++[p])).map zha)⟩))):WS (zhc (mMut L [] apT (mIx (mVar L) (mVar X)) args)) ρ Q:=by
 subst hi
 refine w_drop (w_mut (w_ix (w_var hL (w_var hX (gu (by bv_omega) ?_)))))
 have hl':(ls.map zha)[(n:Int).toNat]?=some (zha l):=by rw [Int.toNat_natCast,List.getElem?_map,hl];rfl
 refine p_ixLL (u:=zha l) (kd:=.vw (some L) (some [.ix (n:Int).toNat])) (by omega) hl' (zqe l) rfl ?_
 rw [Int.toNat_natCast]
 refine WA.mono ha fun rs ρ1 ⟨p,e,hL',q⟩=>?_
 subst e
 refine gu ?_ (w_mutR rfl (cl_ow (cl_nil (at_M hL' rfl ?_))))
 ·show zre args.mu ⟨.vw (some L) (some [.ix n]),zha l⟩=true
  unfold zre
  simp only [Kd.root]
  rw [hm];rfl
 ·refine zwc (is:=l.map tRd) (by simp;rw [sizeLine_eq];omega) ?_
  rw [put_look hl]
  exact q
noncomputable def Looks (P:Nat->Int×List Int->Prop) (c:Nat) (m:Nat) (ls:List (List (Int×List Int))):Prop:=ls.length=m/\∀ x l,ls[x]?=some l->l.length<=c/\∀ p∈l,P x p
theorem Looks.get {P:Nat->Int×List Int->Prop}{c m:Nat}{ls:List (List (Int×List Int))}(h:Looks P c m ls){n:Nat}(hn:n<m):∃ l,ls[n]?=some l/\l.length<=c/\∀ p∈l,P n p:=by
 have:n<ls.length:=by rw [h.1];exact hn
 exact⟨ls[n],List.getElem?_eq_getElem this,h.2 n _ (List.getElem?_eq_getElem this)⟩
theorem zle {α:Type}{l:List α}{n x:Nat}{a b : α}(h:(l.set n a)[x]?=some b):(n=x/\b=a) ∨ (n≠x/\l[x]?=some b):=by
 by_cases e:n=x
 ·subst e
  have:=(List.getElem?_eq_some_iff.mp h).1
  rw [List.getElem?_set_self (by simpa using this)] at h
  cases h;exact .inl ⟨rfl,rfl⟩
 ·rw [List.getElem?_set_ne e] at h;exact .inr ⟨e,h⟩
theorem Looks.set {P:Nat->Int×List Int->Prop}{c m:Nat}{ls:List (List (Int×List Int))}{n:Nat}{l l':List (Int×List Int)}(h:Looks P c m ls)(hl:ls[n]?=some l)(hn:l'.length<=c)(hp:∀ p∈l',P n p):Looks P c m (ls.set n l'):=by
 refine⟨by rw [List.length_set];exact h.1,fun x l' hx=>?_⟩
 rcases zle hx with⟨rfl,rfl⟩ | ⟨_,hx⟩
 ·exact⟨hn,hp⟩
 ·exact h.2 x l' hx
noncomputable def RdOk (w m:Int) (p:Int×List Int):Prop:=0<=p.1/\p.1<m/\p.2.length=w.toNat/\∀ x∈p.2,-2<=x/\x<=2
theorem free_ok {f:Int×Int}{w m:Int}(h1:1<=w)(h2:w<=3)(h3:1<=m)(h4:m<=6){Q:T->T->Prop}(q:∀ ls f',Looks (fun _ p=>RdOk w m p) 3 m.toNat ls->Q (.lst (ls.map zha)) (fT f')):W2 (zed [fT f,.im (.int w),.im (.int m)]) Q:=by
 refine runI_ok rfl rfl ?_
 unfold zzc
 and_intros
 refine w_compRt (fun _:Unit=>[some ⟨.io 0,fT f⟩,some ⟨.ow,.im (.int w)⟩,some ⟨.ow,.im (.int m)⟩,none,none,none]) zha zqe (fun _ _ l=>∀ x∈l,x = []) ?_
 and_intros
 refine⟨⟨by omega,by omega⟩,by bv_omega,(),by bv_omega,by simp,fun j _ l hj hl=>?_,fun _ l hl hn=>?_⟩
 ·and_intros
  exact⟨[],(),rfl,by bv_omega,zpa hl rfl⟩
 and_intros
 refine zic (fun s:(Int×Int)×List (List (Int×List Int))=>[some ⟨.io 0,fT s.1⟩,some ⟨.ow,.im (.int w)⟩,some ⟨.ow,.im (.int m)⟩,some ⟨.ow,.lst (s.2.map zha)⟩,none,none]) (fun j s=>Looks (fun _ p=>RdOk w m p) 3 m.toNat s.2/\∀ y l,j<=y->s.2[y]?=some l->l = []) ?_
 and_intros
 refine⟨⟨by omega,by omega⟩,(f,l),by bv_omega,⟨⟨hn,fun x l' hx=>by rw [hl l' (List.mem_of_getElem? hx)];simp⟩,fun y l' _ hx=>hl l' (List.mem_of_getElem? hx)⟩,fun x s hx ⟨hL,hE⟩=>?_,fun s ⟨hL,_⟩=>?_⟩
 ·and_intros
  refine zic (fun t:(Int×Int)×List (List (Int×List Int))=>[some ⟨.io 0,fT t.1⟩,some ⟨.ow,.im (.int w)⟩,some ⟨.ow,.im (.int m)⟩,some ⟨.ow,.lst (t.2.map zha)⟩,some ⟨.ow,.im (.int x)⟩,none]) (fun j t=>Looks (fun _ p=>RdOk w m p) 3 m.toNat t.2/\(∀ l,t.2[x]?=some l->l.length<=j)/\∀ y l,x+1<=y->t.2[y]?=some l->l = []) ?_
  and_intros
  refine zu (by omega) (by omega) fun d f hd0 hd1=>?_
  ac_nf
  and_intros
  refine⟨⟨by omega,by omega⟩,(f,s.2),by bv_omega,⟨hL,fun l hl=>by rw [hE x l (Nat.le_refl _) hl];simp,fun y l hy hl=>hE y l (by omega) hl⟩,fun j t hj ⟨hL,hc,hE⟩=>?_,fun t ⟨hL,_,hE⟩=>by and_intros;exact⟨t,by bv_omega,hL,hE⟩⟩
  obtain⟨l,hl,hl3,hlP⟩:=hL.get (n:=x) (by omega)
  iterate 2 infer_instance
  refine w_lk (ls:=t.2) x rfl rfl rfl hl (by omega) (by bv_omega) ?_
  and_intros
  refine zu (by omega) (by omega) fun e f he0 he1=>?_
  ac_nf
  and_intros
  refine row_ok h1 h2 fun is f hil hib=>?_
  ac_nf
  and_intros
  have:=hc l hl
  refine⟨(e,is),rfl,rfl,?_⟩
  and_intros
  refine⟨(f,t.2.set x (l++[(e,is)])),by bv_omega,hL.set hl (by simp;omega) (zpa hlP ⟨he0,he1,hil,hib⟩),fun l' hl'=>?_,fun y l' hy hl'=>?_⟩
  ·rcases zle hl' with⟨_,rfl⟩ | ⟨z,_⟩
   ·simp;omega
   ·exact absurd rfl z
  ·rcases zle hl' with⟨z,_⟩ | ⟨_,hl'⟩
   ·omega
   ·exact hE y l' hy hl'
 ·and_intros
  exact q s.2 s.1 hL
noncomputable def Late (w m:Int) (x:Nat) (p:Int×List Int):Prop:=RdOk w m p/\((p.1<x/\∀ e∈p.2,e=0) ∨ ∃ (k:Nat) (y:Int) (r:List Int),p.2=List.replicate k 0++y::r/\y<0)
theorem late_ok {f:Int×Int}{w m:Int}(h1:1<=w)(h2:w<=3)(h3:1<=m)(h4:m<=6){Q:T->T->Prop}(q:∀ ls f',Looks (Late w m) 3 m.toNat ls->Q (.lst (ls.map zha)) (fT f')):W2 (zdc [fT f,.im (.int w),.im (.int m)]) Q:=by
 refine runI_ok rfl rfl ?_
 unfold zad
 and_intros
 refine w_compRt (fun _:Unit=>[some ⟨.io 0,fT f⟩,some ⟨.ow,.im (.int w)⟩,some ⟨.ow,.im (.int m)⟩,none,none,none]) zha zqe (fun _ _ l=>∀ x∈l,x = []) ?_
 and_intros
 refine⟨⟨by omega,by omega⟩,by bv_omega,(),by bv_omega,by simp,fun j _ l hj hl=>?_,fun _ l hl hn=>?_⟩
 ·and_intros
  exact⟨[],(),rfl,by bv_omega,zpa hl rfl⟩
 and_intros
 refine zic (fun s:(Int×Int)×List (List (Int×List Int))=>[some ⟨.io 0,fT s.1⟩,some ⟨.ow,.im (.int w)⟩,some ⟨.ow,.im (.int m)⟩,some ⟨.ow,.lst (s.2.map zha)⟩,none,none]) (fun j s=>Looks (Late w m) 3 m.toNat s.2/\∀ y l,j<=y->s.2[y]?=some l->l = []) ?_
 and_intros
 refine⟨⟨by omega,by omega⟩,(f,l),by bv_omega,⟨⟨hn,fun x l' hx=>by rw [hl l' (List.mem_of_getElem? hx)];simp⟩,fun y l' _ hx=>hl l' (List.mem_of_getElem? hx)⟩,fun x s hx ⟨hL,hE⟩=>?_,fun s ⟨hL,_⟩=>?_⟩
 ·and_intros
  refine zic (fun t:(Int×Int)×List (List (Int×List Int))=>[some ⟨.io 0,fT t.1⟩,some ⟨.ow,.im (.int w)⟩,some ⟨.ow,.im (.int m)⟩,some ⟨.ow,.lst (t.2.map zha)⟩,some ⟨.ow,.im (.int x)⟩,none]) (fun j t=>Looks (Late w m) 3 m.toNat t.2/\(∀ l,t.2[x]?=some l->l.length<=j)/\∀ y l,x+1<=y->t.2[y]?=some l->l = []) ?_
  and_intros
  refine zu (by omega) (by omega) fun d f hd0 hd1=>?_
  ac_nf
  and_intros
  refine⟨⟨by omega,by omega⟩,(f,s.2),by bv_omega,⟨hL,fun l hl=>by rw [hE x l (Nat.le_refl _) hl];simp,fun y l hy hl=>hE y l (by omega) hl⟩,fun j t hj ⟨hL,hc,hE⟩=>?_,fun t ⟨hL,_,hE⟩=>by and_intros;exact⟨t,by bv_omega,hL,hE⟩⟩
  obtain⟨l,hl,hl3,hlP⟩:=hL.get (n:=x) (by omega)
  have hcl:=hc l hl
  have fin:∀ (e:Int) (is:List Int) (f:Int×Int),Late w m x (e,is)->Looks (Late w m) 3 m.toNat (t.2.set x (l++[(e,is)]))/\(∀ l',(t.2.set x (l++[(e,is)]))[x]?=some l'->l'.length<=j+1)/\∀ y l',x+1<=y->(t.2.set x (l++[(e,is)]))[y]?=some l'->l' = []:=fun e is f hP=>by
   refine⟨hL.set hl (by simp;omega) (zpa hlP hP),fun l' hl'=>?_,fun y l' hy hl'=>?_⟩
   ·rcases zle hl' with⟨_,rfl⟩ | ⟨z,_⟩
    ·simp;omega
    ·exact absurd rfl z
   ·rcases zle hl' with⟨z,_⟩ | ⟨_,hl'⟩
    ·omega
    ·exact hE y l' hy hl'
  have hback:∀ f,WS (zhc (mMut 3 [] apT (mIx (mVar 3) (mVar 4)) (zf (zda [] (zf (zr 0 0 zp (ze 0 (ze 2 mNil))) (zf (zr 0 0 zyc (ze 0 (ze 1 mNil))) mNil))) mNil))) [some ⟨.io 0,fT f⟩,some ⟨.ow,.im (.int w)⟩,some ⟨.ow,.im (.int m)⟩,some ⟨.ow,.lst (t.2.map zha)⟩,some ⟨.ow,.im (.int x)⟩,some ⟨.ow,.im (.int j)⟩] fun fl ρ=>fl = .nx/\∃ e is f,ρ = [some ⟨.io 0,fT f⟩,some ⟨.ow,.im (.int w)⟩,some ⟨.ow,.im (.int m)⟩,some ⟨.ow,.lst ((t.2.set x (l++[(e,is)])).map zha)⟩,some ⟨.ow,.im (.int x)⟩,some ⟨.ow,.im (.int j)⟩]/\Late w m x (e,is):=fun f=>by
   refine w_lk (ls:=t.2) x rfl rfl rfl hl (by omega) (by bv_omega) ?_
   and_intros
   refine zu (by omega) (by omega) fun e f he0 he1=>?_
   ac_nf
   and_intros
   refine back_ok h1 h2 fun is f hil hib hb=>?_
   ac_nf
   and_intros
   exact⟨(e,is),rfl,rfl,by trivial,e,is,f,by bv_omega,⟨he0,he1,hil,hib⟩,.inr hb⟩
  have hzero:∀ f,(0:Int)<x->WS (zhc (mMut 3 [] apT (mIx (mVar 3) (mVar 4)) (zf (zda [] (zf (zr 0 0 zp (ze 0 (ze 4 mNil))) (zf (mOp mulT (zda [] (zf (mC (.int 0)) mNil)) (mVar 1)) mNil))) mNil))) [some ⟨.io 0,fT f⟩,some ⟨.ow,.im (.int w)⟩,some ⟨.ow,.im (.int m)⟩,some ⟨.ow,.lst (t.2.map zha)⟩,some ⟨.ow,.im (.int x)⟩,some ⟨.ow,.im (.int j)⟩] fun fl ρ=>fl = .nx/\∃ e is f,ρ = [some ⟨.io 0,fT f⟩,some ⟨.ow,.im (.int w)⟩,some ⟨.ow,.im (.int m)⟩,some ⟨.ow,.lst ((t.2.set x (l++[(e,is)])).map zha)⟩,some ⟨.ow,.im (.int x)⟩,some ⟨.ow,.im (.int j)⟩]/\Late w m x (e,is):=fun f hx0=>by
   refine w_lk (ls:=t.2) x rfl rfl rfl hl (by omega) (by bv_omega) ?_
   and_intros
   refine zu (by omega) (by omega) fun e f he0 he1=>?_
   ac_nf
   and_intros
   refine p_mulT (is:=[.int 0]) ⟨by simp,by decide,by omega,by omega⟩ ?_
   have er:(List.replicate w.toNat [I.int 0]).flatten=(List.replicate w.toNat (0:Int)).map .int:=by simp
   rw [er]
   and_intros
   refine⟨(e,List.replicate w.toNat 0),rfl,rfl,by trivial,e,_,f,by bv_omega,⟨he0,by omega,by simp,fun y hy=>?_⟩,.inl ⟨he1,fun y hy=>(List.mem_replicate.mp hy).2⟩⟩
   rw [(List.mem_replicate.mp hy).2];decide
  and_intros
  (refine w_if ?_;and_intros;clear_value hx0)
  ·and_intros
   refine zu (by omega) (by omega) fun z f hz0 hz1=>?_
   ac_nf
   and_intros
   clear_value hz
   ·refine WS.mono (hzero f hx0) ?_
    rintro fl ρ ⟨rfl,e,is,f,rfl,hP⟩
    and_intros
    exact⟨(f,_),by bv_omega,fin e is f hP⟩
   ·refine WS.mono (hback f) ?_
    rintro fl ρ ⟨rfl,e,is,f,rfl,hP⟩
    and_intros
    exact⟨(f,_),by bv_omega,fin e is f hP⟩
  ·refine⟨fun z=>absurd z (by decide),fun _=>?_⟩
   refine WS.mono (hback _) ?_
   rintro fl ρ ⟨rfl,e,is,f,rfl,hP⟩
   and_intros
   exact⟨(f,_),by bv_omega,fin e is f hP⟩
 ·and_intros
  exact q s.2 s.1 hL
theorem Looks.mono {P:Nat->Int×List Int->Prop}{c c' m:Nat}{ls:List (List (Int×List Int))}(h:Looks P c m ls)(hc:c<=c'):Looks P c' m ls:=⟨h.1,fun x l hx=>⟨Nat.le_trans (h.2 x l hx).1 hc,(h.2 x l hx).2⟩⟩
noncomputable def tTr (p:Int×Int×List Int):I:=.tup [.int p.1,.int p.2.1,.tup (p.2.2.map .int)]
noncomputable def TrOk (w:Int) (p:Int×Int×List Int):Prop:=0<=p.1/\p.1<w/\0<=p.2.1/\p.2.1<w/\p.2.2.length=w.toNat/\∀ x∈p.2.2,-2<=x/\x<=2
theorem turned_ok2 {row signs:List Int}{way:Int}(h1:1<=row.length)(h2:row.length<=1000)(hw:0<=way)(hs:signs.length=row.length)(hr:∀ x∈row,-2<=x/\x<=2)(hg:∀ x∈signs,x=1 ∨ x = -1){Q:T->Prop}(q:∀ is:List Int,is.length=row.length->(∀ x∈is,-2<=x/\x<=2)->(∀ (k:Nat) x s,row[(k+way.toNat) % row.length]?=some x->signs[k]?=some s->is[k]?=some (x * s))->Q (tRow is)):W1 (zec [tRow row,.im (.int way),.li (signs.map .int)]) Q:=by
 refine turned_ok h1 h2 hw hs (fun x hx=>by have:=hr x hx;omega) fun is hl hi=>q is hl (fun y hy=>?_) hi
 obtain⟨k,hk⟩:=List.mem_iff_getElem?.mp hy
 have hkl:=(List.getElem?_eq_some_iff.mp hk).1
 have hm:(k+way.toNat) % row.length<row.length:=Nat.mod_lt _ (by omega)
 have e1:row[(k+way.toNat) % row.length]?=some row[(k+way.toNat) % row.length]:=List.getElem?_eq_getElem hm
 have e2:signs[k]?=some signs[k]:=List.getElem?_eq_getElem (by omega)
 have e3:=hi k _ _ e1 e2
 rw [hk] at e3
 have b1:=hr _ (List.mem_of_getElem? e1)
 have b2:=hg _ (List.mem_of_getElem? e2)
 have:y=row[(k+way.toNat) % row.length] * signs[k]:=by simpa using e3
 rw [this]
 rcases b2 with z | z<;>rw [z]<;>omega
theorem opp_ok {f:Int×Int}{w m:Int}(h1:2<=w)(h2:w<=3)(h3:w<=m)(h4:m<=6){Q:T->T->Prop}(q:∀ ls f',Looks (fun _ p=>RdOk w m p) 7 m.toNat ls->Q (.lst (ls.map zha)) (fT f')):W2 (zwb [fT f,.im (.int w),.im (.int m)]) Q:=by
 refine runI_ok' [some ⟨.io 0,fT f⟩,some ⟨.ow,.im (.int w)⟩,some ⟨.ow,.im (.int m)⟩,none,none,none,none,none,none,none,none] rfl rfl rfl ?_
 unfold zvb
 and_intros
 refine zu (by omega) (by omega) fun d1 f a1 b1=>?_
 ac_nf
 and_intros
 refine zu (by omega) (by omega) fun d2 f a2 b2=>?_
 ac_nf
 and_intros
 refine zu (by omega) (by omega) fun d3 f a3 b3=>?_
 ac_nf
 and_intros
 refine zu (by omega) (by omega) fun d4 f a4 b4=>?_
 ac_nf
 and_intros
 refine zwc (by simp;rw [sizeLine_eq];omega) ?_
 refine fseq_nx (w_seq ?_)
 refine WS.mono (Q:=fun fl ρ=>fl = .nx/\∃ (f:Int×Int) (es:List (Int×Int×List Int)),ρ = [some ⟨.io 0,fT f⟩,some ⟨.ow,.im (.int w)⟩,some ⟨.ow,.im (.int m)⟩,some ⟨.ow,.im (.int (1+d1))⟩,some ⟨.ow,.li (es.map tTr)⟩,none,none,none,none,none,none]/\(∀ p∈es,TrOk w p)/\es.length<=7) ?_ ?_
 ·and_intros
  (refine w_if ?_;and_intros;clear_value hw)
  ·subst hw
   and_intros
   refine zu (by omega) (by omega) fun d5 f a5 b5=>?_
   ac_nf
   and_intros
   refine zu (by omega) (by omega) fun d6 f a6 b6=>?_
   ac_nf
   and_intros
   refine p_addL (by simp;rw [sizeLine_eq];omega) ?_
   and_intros
   refine⟨by trivial,f,[(0,0,[0,0,1+d1]),(1,1,[0,0,0 - 1]),(0,1,[0,0 - 1,0]),(1,0,[0,0,d5]),(2,2,[0,1+d6,0]),(0,2,[0 - 1,0,1]),(2,0,[0,0,0])],by bv_omega,?_,by simp⟩
   simp only [List.mem_cons,List.not_mem_nil,or_false]
   rintro p (rfl | rfl | rfl | rfl | rfl | rfl | rfl)<;>(refine⟨by simp,by simp,by simp,by simp,rfl,?_⟩;simp only [List.mem_cons,List.not_mem_nil,or_false];omega)
  ·have hw2:w=2:=by omega
   subst hw2
   and_intros
   refine⟨by trivial,f,[(0,0,[0,1+d1]),(1,1,[0,0 - 1 - d2]),(0,1,[0 - 1,d3 - 1]),(1,0,[0 - d4,0])],by bv_omega,?_,by simp⟩
   simp only [List.mem_cons,List.not_mem_nil,or_false]
   rintro p (rfl | rfl | rfl | rfl)<;>(refine⟨by simp,by simp,by simp,by simp,rfl,?_⟩;simp only [List.mem_cons,List.not_mem_nil,or_false];omega)
 rintro fl ρ ⟨rfl,f,es,rfl,hes,hel⟩
 and_intros
 refine zu (by omega) (by omega) fun way f aw bw=>?_
 ac_nf
 and_intros
 refine zwd (fun f:Int×Int=>[some ⟨.io 0,fT f⟩,some ⟨.ow,.im (.int w)⟩,some ⟨.ow,.im (.int m)⟩,some ⟨.ow,.im (.int (1+d1))⟩,some ⟨.ow,.li (es.map tTr)⟩,none,none,none,none,none,none]) I.int (fun j _ l=>l.length=j/\∀ x∈l,x=1 ∨ x = -1) ?_
 and_intros
 refine⟨⟨by omega,by omega⟩,by bv_omega,f,by bv_omega,⟨rfl,by simp⟩,fun j f l hj ⟨hl,hx⟩=>?_,fun f signs ⟨hsl,hsx⟩=>?_⟩
 ·and_intros
  refine zu (by omega) (by omega) fun d f hd0 hd1=>?_
  ac_nf
  and_intros
  exact⟨1 - 2 * d,f,rfl,by bv_omega,by simp [hl],zpa hx (by omega)⟩
 and_intros
 refine w_compRt (fun _:Unit=>[some ⟨.io 0,fT f⟩,some ⟨.ow,.im (.int w)⟩,some ⟨.ow,.im (.int m)⟩,some ⟨.ow,.im (.int (1+d1))⟩,some ⟨.ow,.li (es.map tTr)⟩,some ⟨.ow,.im (.int way)⟩,some ⟨.ow,.li (signs.map .int)⟩,none,none,none,none]) zha zqe (fun _ _ l=>∀ x∈l,x = []) ?_
 and_intros
 refine⟨⟨by omega,by omega⟩,by bv_omega,(),by bv_omega,by simp,fun j _ l hj hl=>?_,fun _ l hl hn=>?_⟩
 ·and_intros
  exact⟨[],(),rfl,by bv_omega,zpa hl rfl⟩
 and_intros
 refine w_forIs (fun t:List (List (Int×List Int))=>[some ⟨.io 0,fT f⟩,some ⟨.ow,.im (.int w)⟩,some ⟨.ow,.im (.int m)⟩,some ⟨.ow,.im (.int (1+d1))⟩,some ⟨.ow,.li (es.map tTr)⟩,some ⟨.ow,.im (.int way)⟩,some ⟨.ow,.li (signs.map .int)⟩,some ⟨.ow,.lst (t.map zha)⟩,none,none,none]) (fun j t=>Looks (fun _ p=>RdOk w m p) j m.toNat t/\∀ y l,3<=y->t[y]?=some l->l = []) ?_
 and_intros
 refine⟨_,(show itemsA _=some ((es.map tTr).map _) from rfl),by bv_omega,l,by bv_omega,⟨⟨hn,fun x l' hx=>by rw [hl l' (List.mem_of_getElem? hx)];simp⟩,fun y l' _ hx=>hl l' (List.mem_of_getElem? hx)⟩,fun j x t hx ⟨hL,hE⟩=>?_,fun t ⟨hL,hE⟩=>?_⟩
 ·rw [List.getElem?_map] at hx
  cases e:es[j]? with
  | none=>rw [e] at hx;cases hx
  | some p=>
   rw [e] at hx;cases hx
   obtain⟨x,o,row⟩:=p
   have hp:=hes _ (List.mem_of_getElem? e)
   obtain⟨p1,p2,p3,p4,p5,p6⟩:=hp
   simp only at p1 p2 p3 p4 p5 p6
   have hj:=(List.getElem?_eq_some_iff.mp e).1
   obtain⟨l,hl,hl3,hlP⟩:=hL.get (n:=x.toNat) (by omega)
   iterate 9 infer_instance
   refine w_lk (ls:=t) x.toNat rfl rfl (by omega) hl (by omega) (by bv_omega) ?_
   and_intros
   refine turned_ok2 (row:=row) (signs:=signs) (by omega) (by omega) aw (by omega) p6 hsx fun is hil hib _=>?_
   and_intros
   refine⟨(o,is),rfl,rfl,?_⟩
   and_intros
   refine⟨t.set x.toNat (l++[(o,is)]),by bv_omega,(hL.mono (Nat.le_succ j)).set hl (by simp;omega) (zpa hlP ⟨p3,(by omega:o<m),hil.trans p5,hib⟩),fun y l' hy hl'=>?_⟩
   rcases zle hl' with⟨z,_⟩ | ⟨_,hl'⟩
   ·omega
   ·exact hE y l' hy hl'
 ·and_intros
  refine w_forR2s (fun s:(Int×Int)×List (List (Int×List Int))=>[some ⟨.io 0,fT s.1⟩,some ⟨.ow,.im (.int w)⟩,some ⟨.ow,.im (.int m)⟩,some ⟨.ow,.im (.int (1+d1))⟩,some ⟨.ow,.li (es.map tTr)⟩,some ⟨.ow,.im (.int way)⟩,some ⟨.ow,.li (signs.map .int)⟩,some ⟨.ow,.lst (s.2.map zha)⟩,none,none,none]) (fun j s=>Looks (fun _ p=>RdOk w m p) 7 m.toNat s.2/\∀ y l,3+j<=y->s.2[y]?=some l->l = []) ?_
  and_intros
  rw [List.length_map] at hL
  refine⟨⟨by omega,by omega,by omega,by omega⟩,(f,t),by bv_omega,⟨hL.mono hel,fun y l' hy hl'=>hE y l' (by omega) hl'⟩,fun j s hj ⟨hL,hE⟩=>?_,fun s ⟨hL,_⟩=>?_⟩
  ·obtain⟨l,hl,hl3,hlP⟩:=hL.get (n:=3+j) (by omega)
   have hl0:=hE _ l (Nat.le_refl _) hl
   iterate 2 infer_instance
   refine w_lk (ls:=s.2) (3+j) rfl rfl (by omega) hl (by omega) (by bv_omega) ?_
   and_intros
   refine zu (by omega) (by omega) fun e f he0 he1=>?_
   ac_nf
   and_intros
   refine row_ok (by omega) h2 fun is f hil hib=>?_
   ac_nf
   and_intros
   refine⟨(e,is),rfl,rfl,?_⟩
   and_intros
   refine⟨(f,s.2.set (3+j) (l++[(e,is)])),by bv_omega,hL.set hl (by simp [hl0]) (zpa hlP ⟨he0,(by omega:e<m),hil,hib⟩),fun y l' hy hl'=>?_⟩
   rcases zle hl' with⟨z,_⟩ | ⟨_,hl'⟩
   ·omega
   ·exact hE y l' (by omega) hl'
  ·and_intros
   exact q s.2 s.1 hL
theorem put_lookI {ls:List (List (Int×List Int))}{n:Nat}{l:List (Int×List Int)}{p:Int×List Int}(h:ls[n]?=some l):T.put (.lst (ls.map zha)) [.ix n] (.li (tRd p::l.map tRd)) = .lst ((ls.set n (p::l)).map zha):=by
 rw [put_ix (u:=zha l) (by rw [List.getElem?_map,h];rfl),List.map_set]
 simp [zha]
theorem w_lkI {ρ:Rho}{Q:Fl->Rho->Prop}{L X:Nat}{args:MA}{ls:List (List (Int×List Int))}{i:Int}(n:Nat){l:List (Int×List Int)}(hL : ρ[L]?=some (some ⟨.ow,.lst (ls.map zha)⟩))(hX : ρ[X]?=some (some ⟨.ow,.im (.int i)⟩))(hi:i=(n:Int))(hl:ls[n]?=some l)(hz:l.length<1000)(hm:args.mu.contains L=false)
  (ha:WA args ρ fun rs ρ1=>∃ p,rs = [⟨.ow,.im (.int 0)⟩,⟨.ow,.im (tRd p)⟩]/\ρ1[L]?=some (some ⟨.ow,.lst (ls.map zha)⟩)/\Q .nx ((zy [L] ρ1).set L (some ⟨.ow,.lst ((ls.set n (p::l)).map zha)⟩))):WS (zhc (mMut L [] insT (mIx (mVar L) (mVar X)) args)) ρ Q:=by
 subst hi
 refine w_drop (w_mut (w_ix (w_var hL (w_var hX (gu (by bv_omega) ?_)))))
 have hl':(ls.map zha)[(n:Int).toNat]?=some (zha l):=by rw [Int.toNat_natCast,List.getElem?_map,hl];rfl
 refine p_ixLL (u:=zha l) (kd:=.vw (some L) (some [.ix (n:Int).toNat])) (by omega) hl' (zqe l) rfl ?_
 rw [Int.toNat_natCast]
 refine WA.mono ha fun rs ρ1 ⟨p,e,hL',q⟩=>?_
 subst e
 refine gu ?_ (w_mutR rfl (cl_ow (cl_ow (cl_nil (at_M hL' rfl ?_)))))
 ·show zre args.mu ⟨.vw (some L) (some [.ix n]),zha l⟩=true
  unfold zre
  simp only [Kd.root]
  rw [hm];rfl
 ·refine p_ins (is:=l.map tRd) ⟨by omega,by simp,by simp;rw [sizeLine_eq];omega⟩ ?_
  show Q _ (List.set _ _ (some ⟨_,T.put _ _ (.li (tRd p::l.map tRd))⟩))
  rw [put_lookI hl]
  exact q
noncomputable def RR (rest row:List Int):Prop:=row.length=rest.length/\∀ (i:Nat) y r,row[i]?=some y->rest[i]?=some r->-2<=y/\y<=2/\-2<=r+y/\r+y<=2
theorem ring_ok {f:Int×Int}{w m:Int}(h1:1<=w)(h2:w<=3)(h3:1<=m)(h4:m<=6){Q:T->T->Prop}(q:∀ ls f',Looks (fun _ p=>RdOk w m p) 4 m.toNat ls->Q (.lst (ls.map zha)) (fT f')):W2 (zfd [fT f,.im (.int w),.im (.int m)]) Q:=by
 refine runI_ok' [some ⟨.io 0,fT f⟩,some ⟨.ow,.im (.int w)⟩,some ⟨.ow,.im (.int m)⟩,none,none,none,none,none] rfl rfl rfl ?_
 unfold zbd
 and_intros
 refine late_ok h1 h2 h3 h4 fun ls f hLs=>?_
 ac_nf
 and_intros
 refine zu (by omega) (by omega) fun d f hd0 hd1=>?_
 ac_nf
 and_intros
 refine p_mulL (is:=[.int 0]) ⟨by omega,by omega,by simp;rw [sizeLine_eq];omega⟩ ?_
 have er:(List.replicate w.toNat [I.int 0]).flatten=(List.replicate w.toNat (0:Int)).map .int:=by simp
 rw [er]
 and_intros
 refine zic (fun s:(Int×Int)×List (List (Int×List Int))×List Int=>[some ⟨.io 0,fT s.1⟩,some ⟨.ow,.im (.int w)⟩,some ⟨.ow,.im (.int m)⟩,some ⟨.ow,.lst (s.2.1.map zha)⟩,some ⟨.ow,.im (.int (1+d))⟩,some ⟨.ow,.li (s.2.2.map .int)⟩,none,none]) (fun j s=>Looks (fun _ p=>RdOk w m p) 4 m.toNat s.2.1/\(∀ y l,j<=y->s.2.1[y]?=some l->l.length<=3)/\s.2.2.length=w.toNat/\∀ x∈s.2.2,-2<=x/\x<=2) ?_
 and_intros
 refine⟨⟨by omega,by omega⟩,(f,ls,List.replicate w.toNat 0),by bv_omega,⟨⟨hLs.1,fun x l hx=>⟨by have:=(hLs.2 x l hx).1;omega,fun p hp=>((hLs.2 x l hx).2 p hp).1⟩⟩,fun y l _ hx=>(hLs.2 y l hx).1,by simp,fun x hx=>by rw [(List.mem_replicate.mp hx).2];decide⟩,fun k s hk ⟨hL,hE,hrl,hrb⟩=>?_,fun s ⟨hL,_⟩=>?_⟩
 ·obtain⟨f,ls,rest⟩:=s
  simp only at hL hE hrl hrb
  obtain⟨l,hl,hl4,hlP⟩:=hL.get (n:=k) (by omega)
  have hl3:=hE k l (Nat.le_refl _) hl
  and_intros
  refine zwd (fun f:Int×Int=>[some ⟨.io 0,fT f⟩,some ⟨.ow,.im (.int w)⟩,some ⟨.ow,.im (.int m)⟩,some ⟨.ow,.lst (ls.map zha)⟩,some ⟨.ow,.im (.int (1+d))⟩,some ⟨.ow,.li (rest.map .int)⟩,some ⟨.ow,.im (.int k)⟩,none]) I.int (fun j _ l=>l.length=j/\∀ x∈l,-1<=x/\x<=1) ?_
  and_intros
  refine⟨⟨by omega,by omega⟩,by bv_omega,f,by bv_omega,⟨rfl,by simp⟩,fun j f l hj ⟨hl,hx⟩=>?_,fun f r1 ⟨hl1,hx1⟩=>?_⟩
  ·and_intros
   refine zu (by omega) (by omega) fun d f hd0 hd1=>?_
   ac_nf
   and_intros
   exact⟨d - 1,f,rfl,by bv_omega,by simp [hl],zpa hx (by omega)⟩
  and_intros
  refine zwd (fun _:Unit=>[some ⟨.io 0,fT f⟩,some ⟨.ow,.im (.int w)⟩,some ⟨.ow,.im (.int m)⟩,some ⟨.ow,.lst (ls.map zha)⟩,some ⟨.ow,.im (.int (1+d))⟩,some ⟨.ow,.li (rest.map .int)⟩,some ⟨.ow,.im (.int k)⟩,some ⟨.ow,.li (r1.map .int)⟩]) I.int (fun j _ l=>l.length=j/\∀ (i:Nat) y r,l[i]?=some y->rest[i]?=some r->-2<=y/\y<=2/\-2<=r+y/\r+y<=2) ?_
  and_intros
  refine⟨⟨by omega,by omega⟩,by bv_omega,(),by bv_omega,⟨rfl,by simp⟩,fun j _ l hj ⟨hl,hx⟩=>?_,fun _ r2 ⟨hl2,hx2⟩=>?_⟩
  ·and_intros
   refine zua (ns:=rest) (by omega) (by omega) fun r hr er=>?_
   and_intros
   refine zua (ns:=r1) (by omega) (by omega) fun y hy ey=>?_
   and_intros
   refine zua (ns:=rest) (by omega) (by omega) fun r' hr' er'=>?_
   rw [er] at er'
   cases er'
   and_intros
   have b1:=hrb r hr
   have b2:=hx1 y hy
   refine⟨_,(),rfl,by bv_omega,by simp [hl],fun i y' r' hy' hr'=>?_⟩
   by_cases hij:i<l.length
   ·rw [List.getElem?_append_left hij] at hy'
    exact hx i y' r' hy' hr'
   ·have:=(List.getElem?_eq_some_iff.mp hy').1
    simp at this
    have hie:i=j:=by omega
    subst hie
    rw [List.getElem?_append_right (by omega)] at hy'
    simp [hl] at hy'
    rw [Int.toNat_natCast] at er
    rw [er] at hr'
    cases hr'
    subst hy'
    split<;>split<;>omega
  and_intros
  refine WS.mono (Q:=fun fl ρ=>fl = .nx/\∃ r3:List Int,ρ = [some ⟨.io 0,fT f⟩,some ⟨.ow,.im (.int w)⟩,some ⟨.ow,.im (.int m)⟩,some ⟨.ow,.lst (ls.map zha)⟩,some ⟨.ow,.im (.int (1+d))⟩,some ⟨.ow,.li (rest.map .int)⟩,some ⟨.ow,.im (.int k)⟩,some ⟨.ow,.li (List.map .int r3)⟩]/\RR rest r3) ?_ ?_
  ·(refine w_if ?_;and_intros;clear_value hlast)
   ·and_intros
    refine w_compIs (fun _:Unit=>[some ⟨.io 0,fT f⟩,some ⟨.ow,.im (.int w)⟩,some ⟨.ow,.im (.int m)⟩,some ⟨.ow,.lst (ls.map zha)⟩,some ⟨.ow,.im (.int (1+d))⟩,some ⟨.ow,.li (rest.map .int)⟩,some ⟨.ow,.im (.int k)⟩,some ⟨.ow,.li (r2.map .int)⟩]) I.int (fun j _ l=>l.length=j/\∀ (i:Nat) y r,l[i]?=some y->rest[i]?=some r->y = -r) ?_
    and_intros
    refine⟨rest.map .int,rfl,by simp;rw [sizeLine_eq];omega,by bv_omega,(),by bv_omega,⟨rfl,by simp⟩,fun j x _ l hx ⟨hl,hq⟩=>?_,fun _ r3 ⟨hl3',hq3⟩=>?_⟩
    ·rw [List.getElem?_map] at hx
     cases e:rest[j]? with
     | none=>rw [e] at hx;cases hx
     | some r=>
      rw [e] at hx;cases hx
      and_intros
      refine⟨0 - r,(),rfl,by bv_omega,by simp [hl],fun i y' r' hy' hr'=>?_⟩
      by_cases hij:i<l.length
      ·rw [List.getElem?_append_left hij] at hy'
       exact hq i y' r' hy' hr'
      ·have:=(List.getElem?_eq_some_iff.mp hy').1
       simp at this
       have hie:i=j:=by omega
       subst hie
       rw [List.getElem?_append_right (by omega)] at hy'
       simp [hl] at hy'
       rw [e] at hr'
       cases hr'
       omega
    ·and_intros
     refine⟨by trivial,r3,by bv_omega,by simpa using hl3',fun i y r hy hr=>?_⟩
     have:=hq3 i y r hy hr
     have:=hrb r (List.mem_of_getElem? hr)
     omega
   ·and_intros
    exact⟨by trivial,r2,by bv_omega,by omega,hx2⟩
  ·rintro fl ρ ⟨rfl,r3,rfl,hr3l,hr3⟩
   and_intros
   refine zwd (fun _:Unit=>[some ⟨.io 0,fT f⟩,some ⟨.ow,.im (.int w)⟩,some ⟨.ow,.im (.int m)⟩,some ⟨.ow,.lst (ls.map zha)⟩,some ⟨.ow,.im (.int (1+d))⟩,some ⟨.ow,.li (rest.map .int)⟩,some ⟨.ow,.im (.int k)⟩,some ⟨.ow,.li (r3.map .int)⟩]) I.int (fun j _ l=>l.length=j/\∀ x∈l,-2<=x/\x<=2) ?_
   and_intros
   refine⟨⟨by omega,by omega⟩,by bv_omega,(),by bv_omega,⟨rfl,by simp⟩,fun j _ l hj ⟨hl,hx⟩=>?_,fun _ r4 ⟨hl4,hx4⟩=>?_⟩
   ·and_intros
    refine zua (ns:=rest) (by omega) (by omega) fun r hr er=>?_
    and_intros
    refine zua (ns:=r3) (by omega) (by omega) fun y hy ey=>?_
    and_intros
    have:=hr3 _ y r ey er
    exact⟨r+y,(),rfl,by bv_omega,by simp [hl],zpa hx (by omega)⟩
   iterate 2 infer_instance
   refine w_lkI (ls:=ls) k rfl rfl rfl hl (by omega) (by bv_omega) ?_
   and_intros
   have hkm:((k:Int)+1) % (1+d)<m:=by have:=Int.emod_lt_of_pos ((k:Int)+1) (show 0<1+d by omega);omega
   have hk0:0<=((k:Int)+1) % (1+d):=Int.emod_nonneg _ (by omega)
   refine⟨(((k:Int)+1) % (1+d),r3),rfl,rfl,?_⟩
   and_intros
   refine⟨(f,ls.set k ((((k:Int)+1) % (1+d),r3)::l),r4),by bv_omega,hL.set hl (by simp;omega) (fun p hp=>?_),fun y l' hy hl'=>?_,by omega,hx4⟩
   ·rcases List.mem_cons.mp hp with rfl | hp
    ·refine⟨hk0,hkm,by simpa [hrl] using hr3l,fun x hx=>?_⟩
     obtain⟨i,hi⟩:=List.mem_iff_getElem?.mp hx
     have hil:=(List.getElem?_eq_some_iff.mp hi).1
     have:i<rest.length:=by simp only at hil;omega
     have:=hr3 i x _ hi (List.getElem?_eq_getElem this)
     omega
    ·exact hlP p hp
   ·rcases zle hl' with⟨z,_⟩ | ⟨_,hl'⟩
    ·omega
    ·exact hE y l' (by omega) hl'
 ·and_intros
  exact q s.2.1 s.1 hL
theorem Looks.imp {P P':Nat->Int×List Int->Prop}{c c' m:Nat}{ls:List (List (Int×List Int))}(h:Looks P c m ls)(hc:c<=c')(hp:∀ x p,P x p->P' x p):Looks P' c' m ls:=⟨h.1,fun x l hx=>⟨Nat.le_trans (h.2 x l hx).1 hc,fun p hm=>hp x p ((h.2 x l hx).2 p hm)⟩⟩
theorem reads_ok {f:Int×Int}{Q:T->T->Prop}(q:∀ (w m:Int) ls f',1<=w->w<=3->1<=m->m<=6->Looks (fun _ p=>RdOk w m p) 7 m.toNat ls->Q (.tup [.im (.int w),.lst (ls.map zha)]) (fT f')):W2 (r_l_reads [fT f]) Q:=by
 refine runI_ok' [some ⟨.io 0,fT f⟩,none,none,none,none] rfl rfl rfl ?_
 unfold m_l_reads
 and_intros
 refine zu (by omega) (by omega) fun form f hf0 hf1=>?_
 ac_nf
 and_intros
 refine zu (by omega) (by omega) fun wide f hw0 hw1=>?_
 ac_nf
 and_intros
 try ac_nf
 refine zua (ns:=[1,2,2,2,2,1,2,3]) (Int.emod_nonneg _ (by omega)) (by have:=Int.emod_lt_of_pos wide (show (0:Int)<8 by omega);simpa using this) fun w hw _=>?_
 have hw13:1<=w/\w<=3:=by simp at hw;omega
 and_intros
 refine zua (ns:=[3,6]) (by omega) (by simp;omega) fun mm hmm _=>?_
 have hmm':3<=mm/\mm<=6:=by simp at hmm;omega
 and_intros
 refine zu (by omega) (by omega) fun d f hd0 hd1=>?_
 ac_nf
 and_intros
 (refine w_if ?_;and_intros;clear_value h1)
 ·and_intros
  refine free_ok hw13.1 hw13.2 (by omega) (by omega) fun ls f hL=>?_
  ac_nf
  and_intros
  exact q w (1+d) ls f hw13.1 hw13.2 (by omega) (by omega) (hL.mono (by omega))
 and_intros
 (refine w_if ?_;and_intros;clear_value h2)
 ·and_intros
  refine late_ok hw13.1 hw13.2 (by omega) (by omega) fun ls f hL=>?_
  ac_nf
  and_intros
  exact q w (1+d) ls f hw13.1 hw13.2 (by omega) (by omega) (hL.imp (by omega) fun x p hp=>hp.1)
 and_intros
 (refine w_if ?_;and_intros;clear_value h3)
 ·and_intros
  refine ring_ok hw13.1 hw13.2 (by omega) (by omega) fun ls f hL=>?_
  ac_nf
  and_intros
  exact q w (1+d) ls f hw13.1 hw13.2 (by omega) (by omega) (hL.mono (by omega))
 and_intros
 try ac_nf
 refine opp_ok (by split<;>omega) (by split<;>omega) (by split<;>split<;>split<;>omega) (by split<;>split<;>split<;>omega) fun ls f hL=>?_
 ac_nf
 and_intros
 exact q _ _ ls f (by split<;>omega) (by split<;>omega) (by split<;>split<;>split<;>omega) (by split<;>split<;>split<;>omega) hL
inductive Ru where
 | num (n:Int) | rd (x:Str) (row:List Int) | op (s:Str) (a b:Ru) | cond (a b c:Ru)
noncomputable def tRu:Ru->I
 | .num n=>.tup [.str "num",.int n]
 | .rd x row=>.tup [.str "at",.str x,.tup (row.map .int)]
 | .op s a b=>.tup [.str "op",.str s,tRu a,tRu b]
 | .cond a b c=>.tup [.str "if",tRu a,tRu b,tRu c]
noncomputable def Ru.leaves:Ru->List Ru
 | .op _ a b=>a.leaves++b.leaves
 | .cond a b c=>a.leaves++(b.leaves++c.leaves)
 | r=>[r]
noncomputable def Ru.depth:Ru->Nat
 | .op _ a b=>max a.depth b.depth+1
 | .cond a b c=>max a.depth (max b.depth c.depth)+1
 | _=>0
noncomputable def signs7:List Str:=["+","-","*","min","max","rest","less"]
noncomputable def Ru.ok:Ru->Prop
 | .op s a b=>s∈signs7/\a.ok/\b.ok
 | .cond a b c=>a.ok/\b.ok/\c.ok
 | _=>True
theorem p_ixE {α:Type}{emb : α->I}{ns:List α}{kd:Kd}{a:Int}{QR:R->Prop}(h0:0<=a)(h1:a<ns.length)(q:∀ y,ns[a.toNat]?=some y->QR ⟨.ow,.im (emb y)⟩):W1 (ixR ⟨kd,.li (ns.map emb)⟩ (.im (.int a))) QR:=by
 refine p_ixLk h0 (by simpa using h1) fun x hx=>?_
 rw [List.getElem?_map] at hx
 cases e:ns[a.toNat]? with
 | none=>rw [e] at hx;cases hx
 | some y=>rw [e] at hx;cases hx;exact q y e
theorem w_ifM {ct:MT}{s1 s2:MS}{ρ:Rho}{Q:Fl->Rho->Prop}(M:Bool->Rho->Prop)(h:WT ct ρ M)(h1:∀ ρ,M true ρ->WS s1 ρ Q)(h2:∀ ρ,M false ρ->WS s2 ρ Q):WS (mIf ct s1 s2) ρ Q:=w_if (WT.mono h fun b ρ m=>⟨fun e=>h1 ρ (e ▸ m),fun e=>h2 ρ (e ▸ m)⟩)
theorem cut2 {α:Type}{l:List α}{n:Nat}{a b : α}(ha:l[n]?=some a)(hb:l[n+1]?=some b):l=l.take n++a::b::l.drop (n+2):=by
 obtain⟨h1,e1⟩:=List.getElem?_eq_some_iff.mp ha
 obtain⟨h2,e2⟩:=List.getElem?_eq_some_iff.mp hb
 rw [← e1,← e2,List.getElem_cons_drop,List.getElem_cons_drop,List.take_append_drop]
theorem cut3 {α:Type}{l:List α}{n:Nat}{a b c : α}(ha:l[n]?=some a)(hb:l[n+1]?=some b)(hc:l[n+2]?=some c):l=l.take n++a::b::c::l.drop (n+3):=by
 obtain⟨h1,e1⟩:=List.getElem?_eq_some_iff.mp ha
 obtain⟨h2,e2⟩:=List.getElem?_eq_some_iff.mp hb
 obtain⟨h3,e3⟩:=List.getElem?_eq_some_iff.mp hc
 rw [← e1,← e2,← e3,List.getElem_cons_drop,List.getElem_cons_drop,List.getElem_cons_drop,List.take_append_drop]
theorem grown_ok {f:Int×Int}{rs:List Ru}(hne:rs≠[])(hl:rs.length<=1000)(hok:∀ r∈rs,r.ok){Q:T->T->Prop}(q:∀ r f',r.leaves=rs.flatMap Ru.leaves->r.ok->Q (.im (tRu r)) (fT f')):W2 (r_l_grown [fT f,.li (rs.map tRu)]) Q:=by
 refine runI_ok' [some ⟨.io 0,fT f⟩,some ⟨.vw none none,.li (rs.map tRu)⟩,none,none,none] rfl rfl rfl ?_
 unfold m_l_grown
 and_intros
 refine w_whiles (fun s:(Int×Int)×List Ru=>[some ⟨.io 0,fT s.1⟩,some ⟨.vw none none,.li (rs.map tRu)⟩,some ⟨.ow,.li (s.2.map tRu)⟩,none,none]) (fun s=>s.2≠[]/\s.2.length<=1000/\(∀ r∈s.2,r.ok)/\s.2.flatMap Ru.leaves=rs.flatMap Ru.leaves) (fun s=>s.2.length) (f,rs) (by bv_omega) ⟨hne,hl,hok,rfl⟩ fun s ⟨hne,hl,hok,hfl⟩=>?_
 obtain⟨f,cs⟩:=s
 dsimp only at hne hl hok hfl ⊢
 and_intros
 rw [List.length_map]
 clear_value hlen
 ·and_intros
  rw [List.length_map]
  refine zu (by omega) (by omega) fun at0 f ha0 ha1=>?_
  ac_nf
  and_intros
  refine w_ifM (fun b ρ=>∃ f:Int×Int,ρ = [some ⟨.io 0,fT f⟩,some ⟨.vw none none,.li (rs.map tRu)⟩,some ⟨.ow,.li (cs.map tRu)⟩,some ⟨.ow,.im (.int at0)⟩,none]/\(b=true->2<cs.length)) ?_ ?_ ?_
  ·and_intros
   rw [List.length_map]
   clear_value h2
   ·and_intros
    refine zu (by omega) (by omega) fun d f hd0 hd1=>?_
    ac_nf
    and_intros
    exact⟨f,rfl,fun _=>by omega⟩
   ·exact⟨f,rfl,fun z=>absurd z (by decide)⟩
  ·rintro ρ ⟨f,rfl,h2⟩
   have h2:=h2 rfl
   and_intros
   rw [List.length_map]
   generalize hat:(if (cs.length:Int) - 3<at0 then (cs.length:Int) - 3 else at0)=at1
   have ha:0<=at1/\at1+3<=cs.length:=by subst hat;split<;>omega
   refine p_ixE (ns:=cs) ha.1 (by omega) fun a ea=>?_
   and_intros
   refine p_ixE (ns:=cs) (by omega) (by omega) fun b eb=>?_
   and_intros
   refine p_ixE (ns:=cs) (by omega) (by omega) fun c ec=>?_
   and_intros
   rw [show (at1+1).toNat=at1.toNat+1 by omega] at eb
   rw [show (at1+2).toNat=at1.toNat+2 by omega] at ec
   have ecut:=cut3 ea eb ec
   refine⟨[],cs.map tRu,_,_,at1,at1+3,rfl,rfl,rfl,by bv_omega,⟨ha.1,by omega,by simp;omega,by simp;rw [sizeLine_eq];omega⟩,rfl,rfl,?_⟩
   ac_nf
   and_intros
   refine⟨(f,cs.take at1.toNat++Ru.cond a b c::cs.drop (at1.toNat+3)),?_,?_,by simp,?_,?_,?_⟩
   ·rw [List.map_append,List.map_cons,List.map_take,List.map_drop,show (at1+3).toNat=at1.toNat+3 by omega,List.append_assoc]
    bv_omega
   ·simp;omega
   ·simp;omega
   ·intro r hr
    rcases List.mem_append.mp hr with hr | hr
    ·exact hok r (List.mem_of_mem_take hr)
    ·rcases List.mem_cons.mp hr with rfl | hr
     ·exact⟨hok a (List.mem_of_getElem? ea),hok b (List.mem_of_getElem? eb),hok c (List.mem_of_getElem? ec)⟩
     ·exact hok r (List.mem_of_mem_drop hr)
   ·rw [← hfl]
    conv=>rhs;rw [ecut]
    simp [Ru.leaves]
  ·rintro ρ ⟨f,rfl,_⟩
   and_intros
   refine zu (by omega) (by omega) fun d f hd0 hd1=>?_
   ac_nf
   and_intros
   refine p_ixE (emb:=I.str) (ns:=signs7) hd0 (by simpa [signs7] using hd1) fun sg esg=>?_
   and_intros
   refine p_ixE (ns:=cs) ha0 (by omega) fun a ea=>?_
   and_intros
   refine p_ixE (ns:=cs) (by omega) (by omega) fun b eb=>?_
   and_intros
   rw [show (at0+1).toNat=at0.toNat+1 by omega] at eb
   have ecut:=cut2 ea eb
   refine⟨[],cs.map tRu,_,_,at0,at0+2,rfl,rfl,rfl,by bv_omega,⟨ha0,by omega,by simp;omega,by simp;rw [sizeLine_eq];omega⟩,rfl,rfl,?_⟩
   ac_nf
   and_intros
   refine⟨(f,cs.take at0.toNat++Ru.op sg a b::cs.drop (at0.toNat+2)),?_,?_,by simp,?_,?_,?_⟩
   ·rw [List.map_append,List.map_cons,List.map_take,List.map_drop,show (at0+2).toNat=at0.toNat+2 by omega,List.append_assoc]
    bv_omega
   ·simp;omega
   ·simp;omega
   ·intro r hr
    rcases List.mem_append.mp hr with hr | hr
    ·exact hok r (List.mem_of_mem_take hr)
    ·rcases List.mem_cons.mp hr with rfl | hr
     ·exact⟨List.mem_of_getElem? esg,hok a (List.mem_of_getElem? ea),hok b (List.mem_of_getElem? eb)⟩
     ·exact hok r (List.mem_of_mem_drop hr)
   ·rw [← hfl]
    conv=>rhs;rw [ecut]
    simp [Ru.leaves]
 ·and_intros
  obtain⟨r,rfl⟩:∃ r,cs = [r]:=by
   match cs,hne,hlen with
   | [r],_,_=>exact⟨r,rfl⟩
   | _::_::_,_,h=>simp at h;omega
  and_intros
  exact q r f (by simpa using hfl) (hok r (by simp))
noncomputable def fiveS:List Str:=["min","max","rest","less","if"]
noncomputable def nmB (S:List Nat) (a:Nat) (ch k:Nat):List Nat:=S.take a++ch::S.drop a++(if k % 2=1 then [113] else [])
noncomputable def nmS (S:List Nat) (a:Nat) (ch k:Nat):Str:=if oL (nmB S a ch k)∈fiveS then oL (nmB S a ch k++[119]) else oL (nmB S a ch k)
theorem q_in:113∈sL LET:=by decide +kernel
theorem w_in:119∈sL LET:=by decide +kernel
theorem LET_inj:∀ i<26,∀ j<26,(sL LET).getD i 0=(sL LET).getD j 0->i=j:=by decide +kernel
theorem five_w:∀ z∈fiveS,oL (sL z++[119]) ∉ fiveS:=by decide +kernel
theorem zce {S:List Nat}{a ch k:Nat}:(nmB S a ch k).length=S.length+1+k % 2:=by
 unfold nmB
 have h:k % 2=0 ∨ k % 2=1:=by omega
 rw [List.length_append,List.length_append,List.length_cons,List.length_take,List.length_drop]
 rcases h with h | h<;>simp [h]<;>omega
theorem nmB_in {S:List Nat}{a ch k:Nat}(hS:∀ c∈S,c∈sL LET)(hc:ch∈sL LET):∀ c∈nmB S a ch k,c∈sL LET:=fun c h=>by
 unfold nmB at h
 rcases List.mem_append.mp h with h | h
 ·rcases List.mem_append.mp h with h | h
  ·exact hS c (List.mem_of_mem_take h)
  ·rcases List.mem_cons.mp h with rfl | h
   ·exact hc
   ·exact hS c (List.mem_of_mem_drop h)
 ·split at h
  ·rw [List.mem_singleton.mp h];exact q_in
  ·cases h
theorem nmB_inj {S:List Nat}{a ch ch' k k':Nat}(h:nmB S a ch k=nmB S a ch' k'):ch=ch'/\k % 2=k' % 2:=by
 have hl:=congrArg List.length h
 rw [zce,zce] at hl
 have hk:k % 2=k' % 2:=by omega
 refine⟨?_,hk⟩
 unfold nmB at h
 rw [hk] at h
 have h2:=List.append_cancel_right h
 have h3:=List.append_cancel_left h2
 exact (List.cons.inj h3).1
theorem nmB_last {S:List Nat}{a ch k:Nat}(hk:k % 2=1):(nmB S a ch k).getLast?=some 113:=by
 unfold nmB
 rw [if_pos hk,List.getLast?_append]
 rfl
theorem oL_inj {x y:List Nat}(h:oL x=oL y):x=y:=congrArg sL h
theorem nmS_inj {S:List Nat}{a ch ch' k k':Nat}(h:nmS S a ch k=nmS S a ch' k'):ch=ch'/\k % 2=k' % 2:=by
 unfold nmS at h
 split at h<;>split at h
 ·exact nmB_inj (List.append_cancel_right (oL_inj h))
 ·have h':=oL_inj h
  have hl:=congrArg List.length h'
  rw [List.length_append,zce,zce] at hl
  have hk:k' % 2=1:=by simp at hl;omega
  have:=nmB_last (S:=S) (a:=a) (ch:=ch') hk
  rw [← h',List.getLast?_append] at this
  cases this
 ·have h':=oL_inj h
  have hl:=congrArg List.length h'
  rw [List.length_append,zce,zce] at hl
  have hk:k % 2=1:=by simp at hl;omega
  have:=nmB_last (S:=S) (a:=a) (ch:=ch) hk
  rw [h',List.getLast?_append] at this
  cases this
 ·exact nmB_inj (oL_inj h)
noncomputable def NameOk (z:Str):Prop:=1<=z.length/\z.length<=8/\z ∉ fiveS/\∀ c∈sL z,c∈sL LET
theorem nmS_ok {S:List Nat}{a ch k:Nat}(hS:∀ c∈S,c∈sL LET)(hc:ch∈sL LET)(hl:S.length<=5):NameOk (nmS S a ch k):=by
 have hb:=nmB_in (a:=a) (k:=k) hS hc
 have hlen:=zce (S:=S) (a:=a) (ch:=ch) (k:=k)
 unfold NameOk nmS
 split
 ·rename_i c
  have h1:(oL (nmB S a ch k++[119])).length=S.length+1+k % 2+1:=by rw [zve,sL_oL,List.length_append,hlen];rfl
  refine⟨by omega,by omega,five_w _ c,fun x hx=>?_⟩
  rw [sL_oL] at hx
  rcases List.mem_append.mp hx with h | h
  ·exact hb x h
  ·rw [List.mem_singleton.mp h];exact w_in
 ·rename_i c
  have h1:(oL (nmB S a ch k)).length=S.length+1+k % 2:=by rw [zve,sL_oL,hlen]
  exact⟨by omega,by omega,c,fun x hx=>hb x (by rwa [sL_oL] at hx)⟩
theorem cut_take {α:Type}{xs:List α}{n:Nat}(h:n<=xs.length):cutL xs none (some (n:Int))=xs.take n:=by
 unfold cutL
 rw [HT.sIx_none,HT.sIx_nat,Nat.min_eq_left h]
 simp
theorem cut_drop {α:Type}{xs:List α}{n:Nat}(h:n<=xs.length):cutL xs (some (n:Int)) none=xs.drop n:=by
 unfold cutL
 rw [HT.sIx_none,HT.sIx_nat,Nat.min_eq_left h]
 exact List.take_of_length_le (by rw [List.length_drop];exact Nat.le_refl _)
theorem stxs_strs:∀ {zs:List Str},stxs (zs.map I.str)=some zs
 | []=>rfl
 | z::zs=>by rw [List.map_cons,stxs,stxs_strs];rfl
theorem p_join {z:Str}{zs:List Str}{QT1:T->Prop}(h:(zs.map (·.length)).sum+zs.length * z.length<=16777216)(q:QT1 (.im (.str (Txt.join z zs)))):W1 (joinT (.im (.str z)) [.li (zs.map .str)]) QT1:=w1 (by simp only [joinT,stxs_strs];rw [if_pos h]) q
theorem nodup_mapR {β:Type}{g:Nat->β}{n:Nat}(hf:∀ x<n,∀ y<n,g x=g y->x=y):((List.range n).map g).Nodup:=map_nodup List.nodup_range fun x hx y hy e=>hf x (List.mem_range.mp hx) y (List.mem_range.mp hy) e
noncomputable def nmAll (S:List Nat) (a fn m:Nat):List Str:=(List.range m).map fun k=>nmS S a ((sL LET).getD ((fn+5 * k) % 26) 0) k
theorem LET_get {i:Nat}(h:i<26):(sL LET)[i]?=some ((sL LET).getD i 0):=by
 rw [List.getD_eq_getElem?_getD,List.getElem?_eq_getElem (by rw [LET_len];exact h)];rfl
theorem nmAll_ok {S:List Nat}{a fn m:Nat}(hS:∀ c∈S,c∈sL LET)(hl:S.length<=5)(hm:m<=6):(nmAll S a fn m).length=m/\(nmAll S a fn m).Nodup/\∀ z∈nmAll S a fn m,NameOk z:=by
 refine⟨by simp [nmAll],nodup_mapR fun x hx y hy e=>?_,fun z hz=>?_⟩
 ·have:=LET_inj _ (Nat.mod_lt _ (by decide)) _ (Nat.mod_lt _ (by decide)) (nmS_inj e).1
  omega
 ·obtain⟨k,hk,rfl⟩:=List.mem_map.mp hz
  exact nmS_ok hS (List.mem_of_getElem? (LET_get (Nat.mod_lt _ (by decide)))) hl
theorem names_ok {f:Int×Int}{m:Int}(h1:0<=m)(h2:m<=6){Q:T->T->Prop}(q:∀ (zs:List Str) f',zs.length=m.toNat->zs.Nodup->(∀ z∈zs,NameOk z)->Q (.li (zs.map .str)) (fT f')):W2 (r_l_names [fT f,.im (.int m)]) Q:=by
 refine runI_ok' [some ⟨.io 0,fT f⟩,some ⟨.ow,.im (.int m)⟩,none,none,none,none,none,none,none] rfl rfl rfl ?_
 unfold m_l_names
 and_intros
 refine zwd (fun f:Int×Int=>[some ⟨.io 0,fT f⟩,some ⟨.ow,.im (.int m)⟩,some ⟨.ow,.im (.str LET)⟩,none,none,none,none,none,none]) I.str (fun j _ l=>l.length=j/\∀ z∈l,∃ ch,ch∈sL LET/\z=⟨#[ch]⟩) ?_
 and_intros
 refine zu (by omega) (by omega) fun d f hd0 hd1=>?_
 ac_nf
 and_intros
 refine⟨⟨by omega,by omega⟩,by bv_omega,f,by bv_omega,⟨rfl,by simp⟩,fun j f l hj ⟨hl,hx⟩=>?_,fun f zs ⟨hl,hx⟩=>?_⟩
 ·and_intros
  refine zu (by omega) (by omega) fun d f hd0 hd1=>?_
  ac_nf
  and_intros
  refine p_ixSk (s:=LET) (by rw [LET_len',sizeLine_eq];omega) hd0 (by rw [LET_len];exact hd1) fun c hc=>?_
  exact⟨⟨#[c]⟩,f,rfl,by bv_omega,by simp [hl],zpa hx ⟨c,List.mem_of_getElem? hc,rfl⟩⟩
 and_intros
 have sum1:∀ zs:List Str,(∀ z∈zs,∃ ch,ch∈sL LET/\z=⟨#[ch]⟩)->(zs.map (·.length)).sum=zs.length:=fun zs h=>by
  induction zs with
  | nil=>rfl
  | cons z zs ih=>
   obtain⟨ch,_,e⟩:=h z List.mem_cons_self
   rw [List.map_cons,List.sum_cons,ih fun y hy=>h y (List.mem_cons_of_mem _ hy),List.length_cons,e]
   show 1+zs.length=_
   omega
 have e0:("" : Str)=oL []:=by decide +kernel
 have e1:(("" : Str)).length=0:=by decide +kernel
 refine p_join (zs:=zs) (by rw [sum1 zs hx,e1];omega) ?_
 have hst:sL (Txt.join "" zs)=(zs.map sL).flatten:=by rw [e0];exact glued_nil zs
 have hSl:(sL (Txt.join "" zs)).length<=5:=by
  rw [hst,List.length_flatten,List.map_map]
  have:(zs.map (List.length ∘ sL)).sum=zs.length:=by rw [← sum1 zs hx];congr 1
  omega
 have hS:∀ c∈sL (Txt.join "" zs),c∈sL LET:=fun c hc=>by
  rw [hst] at hc
  obtain⟨l,hl',hc⟩:=List.mem_flatten.mp hc
  obtain⟨z,hz,rfl⟩:=List.mem_map.mp hl'
  obtain⟨ch,hch,rfl⟩:=hx z hz
  have:c=ch:=by simpa using hc
  rw [this];exact hch
 generalize Txt.join "" zs=stem at *
 have hst5:stem.length<=5:=by rw [zve];exact hSl
 have hlc:∀ l:List Nat,(oL l).length=l.length:=fun l=>by rw [zve,sL_oL]
 and_intros
 refine zu (by omega) (by omega) fun fi f hf0 hf1=>?_
 ac_nf
 and_intros
 refine p_lenS (by rw [sizeLine_eq];omega) ?_
 and_intros
 refine zu (by omega) (by omega) fun at0 f ha0 ha1=>?_
 ac_nf
 and_intros
 obtain⟨a,rfl⟩:∃ a:Nat,at0=(a:Int):=⟨at0.toNat,by omega⟩
 obtain⟨fn,rfl⟩:∃ a:Nat,fi=(a:Int):=⟨fi.toNat,by omega⟩
 have ha5:a<=(sL stem).length:=by rw [← zve];omega
 try ac_nf
 and_intros
 refine zic (fun k:Nat=>[some ⟨.io 0,fT f⟩,some ⟨.ow,.im (.int m)⟩,some ⟨.ow,.im (.str LET)⟩,some ⟨.ow,.im (.str stem)⟩,some ⟨.ow,.im (.int fn)⟩,some ⟨.ow,.im (.int a)⟩,some ⟨.ow,.li ((nmAll (sL stem) a fn k).map .str)⟩,none,none]) (fun j k=>k=j) ?_
 and_intros
 refine⟨⟨by omega,by omega⟩,0,by bv_omega,rfl,fun i k hi hk=>?_,fun k hk=>?_⟩
 ·subst hk
  have hidx:((fn:Int)+5 * (k:Int)) % 26=(((fn+5 * k) % 26:Nat):Int):=by omega
  have hilt:(fn+5 * k) % 26<26:=Nat.mod_lt _ (by decide)
  have hche:=LET_get hilt
  have hne:nmAll (sL stem) a fn (k+1)=nmAll (sL stem) a fn k++[nmS (sL stem) a ((sL LET).getD ((fn+5 * k) % 26) 0) k]:=by simp [nmAll,List.range_succ]
  generalize (sL LET).getD ((fn+5 * k) % 26) 0=ch at hche hne
  and_intros
  refine p_slS (by rw [sizeLine_eq];omega) ?_
  rw [cut_take ha5]
  and_intros
  rw [hidx]
  refine p_ixSk (s:=LET) (by rw [LET_len',sizeLine_eq];omega) (by omega) (by rw [LET_len];omega) fun c hc=>?_
  rw [Int.toNat_natCast,hche] at hc
  cases hc
  and_intros
  refine p_addS (by rw [hlc,List.length_take,sizeLine_eq];show _+1<=_;omega) ?_
  and_intros
  refine p_slS (by rw [sizeLine_eq];omega) ?_
  rw [cut_drop ha5]
  and_intros
  refine p_addS (by rw [zve,sL_app,sL_oL,hlc,sizeLine_eq,List.length_append,List.length_take,List.length_drop];show _+1+_<=_;omega) ?_
  have en:(oL ((sL stem).take a)++(⟨#[ch]⟩:Str))++oL ((sL stem).drop a)=oL ((sL stem).take a++ch::(sL stem).drop a):=by
   apply sL_inj
   rw [sL_app,sL_app,sL_oL,sL_oL,sL_oL]
   simp
  rw [en]
  and_intros
  refine WS.mono (Q:=fun fl ρ=>fl = .nx/\ρ = [some ⟨.io 0,fT f⟩,some ⟨.ow,.im (.int m)⟩,some ⟨.ow,.im (.str LET)⟩,some ⟨.ow,.im (.str stem)⟩,some ⟨.ow,.im (.int fn)⟩,some ⟨.ow,.im (.int a)⟩,some ⟨.ow,.li ((nmAll (sL stem) a fn k).map .str)⟩,some ⟨.ow,.im (.int k)⟩,some ⟨.ow,.im (.str (oL (nmB (sL stem) a ch k)))⟩]) ?_ ?_
  ·(refine w_if ?_;and_intros;clear_value hk2)
   ·and_intros
    refine p_addS (by rw [hlc,List.length_append,List.length_cons,List.length_take,List.length_drop,sizeLine_eq];show _+1<=_;omega) ?_
    have eq:oL ((sL stem).take a++ch::(sL stem).drop a)++("q" : Str)=oL (nmB (sL stem) a ch k):=by
     apply sL_inj
     rw [sL_app,sL_oL,sL_oL]
     unfold nmB
     rw [if_pos (by omega)]
     rfl
    rw [eq]
    and_intros
    exact⟨by trivial,by first | trivial | bv_omega⟩
   ·and_intros
    have eq:(sL stem).take a++ch::(sL stem).drop a=nmB (sL stem) a ch k:=by
     unfold nmB
     rw [if_neg (by omega)]
     simp
    rw [eq]
    exact⟨by trivial,by first | trivial | bv_omega⟩
  rintro fl ρ ⟨rfl,rfl⟩
  have hnl:(oL (nmB (sL stem) a ch k)).length<=7:=by rw [hlc,zce];omega
  and_intros
  refine WS.mono (Q:=fun fl ρ=>fl = .nx/\ρ = [some ⟨.io 0,fT f⟩,some ⟨.ow,.im (.int m)⟩,some ⟨.ow,.im (.str LET)⟩,some ⟨.ow,.im (.str stem)⟩,some ⟨.ow,.im (.int fn)⟩,some ⟨.ow,.im (.int a)⟩,some ⟨.ow,.li ((nmAll (sL stem) a fn k).map .str)⟩,some ⟨.ow,.im (.int k)⟩,some ⟨.ow,.im (.str (nmS (sL stem) a ch k))⟩]) ?_ ?_
  ·refine w_if ?_
   and_intros
   refine p_inT (is:=fiveS.map .str) ⟨rfl,by decide +kernel,by decide +kernel⟩ ?_
   and_intros
   clear_value hw
   ·have hw':oL (nmB (sL stem) a ch k)∈fiveS:=by simpa using hw
    and_intros
    have hw1:(("w" : Str)).length=1:=by decide +kernel
    refine p_addS (by rw [sizeLine_eq];omega) ?_
    have eq:oL (nmB (sL stem) a ch k)++("w" : Str)=nmS (sL stem) a ch k:=by
     unfold nmS
     rw [if_pos hw']
     apply sL_inj
     rw [sL_app,sL_oL,sL_oL]
     rfl
    rw [eq]
    and_intros
    exact⟨by trivial,by first | trivial | bv_omega⟩
   ·have hw':oL (nmB (sL stem) a ch k) ∉ fiveS:=by simpa using hw
    have eq:oL (nmB (sL stem) a ch k)=nmS (sL stem) a ch k:=by unfold nmS;rw [if_neg hw']
    rw [eq]
    and_intros
    exact⟨by trivial,by first | trivial | bv_omega⟩
  rintro fl ρ ⟨rfl,rfl⟩
  and_intros
  refine zwc (by simp [nmAll];rw [sizeLine_eq];omega) ?_
  ac_nf
  and_intros
  refine⟨k+1,?_,rfl⟩
  rw [hne,List.map_append]
  bv_omega
 ·subst hk
  and_intros
  obtain⟨n1,n2,n3⟩:=nmAll_ok (S:=sL stem) (a:=a) (fn:=fn) (m:=m.toNat) hS hSl (by omega)
  exact q _ f n1 n2 n3
noncomputable def tDesk (p:Str×Ru):I:=.tup [.str p.1,tRu p.2]
noncomputable def zfb (w wh:Int) (ds:List (Str×Ru)):I:=.tup [.int w,.int wh,.tup (ds.map tDesk)]
noncomputable def isLeaf:Ru->Prop
 | .num _=>True
 | .rd _ _=>True
 | _=>False
theorem leaf_self {r:Ru}(h:isLeaf r):r.leaves = [r]:=by cases r<;>first | rfl | cases h
theorem leaf_flat:∀ {rs:List Ru},(∀ r∈rs,isLeaf r)->rs.flatMap Ru.leaves=rs
 | [],_=>rfl
 | r::rs,h=>by rw [List.flatMap_cons,leaf_self (h r List.mem_cons_self),leaf_flat fun x hx=>h x (List.mem_cons_of_mem _ hx)];rfl
noncomputable def LeafOk (ns:List Str) (w:Int):Ru->Prop
 | .num n=>0<=n/\n<=1000000000
 | .rd x row=>x∈ns/\row.length=w.toNat
 | _=>False
theorem LeafOk.leaf {ns:List Str}{w:Int}{r:Ru}(h:LeafOk ns w r):isLeaf r:=by cases r<;>first | trivial | cases h
theorem leaf_ok {r:Ru}(h:isLeaf r):r.ok:=by cases r<;>first | trivial | cases h
noncomputable def Cov (n:Nat) (rs:List Ru):Prop:=∃ L:List (Str×List Int),L.length<=n/\∀ x row,Ru.rd x row∈rs->(x,row)∈L
noncomputable def DeskOk (c:Nat) (ns:List Str) (w:Int) (n:Nat) (r:Ru):Prop:=r.ok/\r.leaves.length<=c/\(∀ l∈r.leaves,LeafOk ns w l)/\Cov n r.leaves
noncomputable def HouseOk (c:Nat) (w wh:Int) (ds:List (Str×Ru)):Prop:=1<=w/\w<=3/\2<=wh/\wh<=1000000000/\1<=ds.length/\ds.length<=6/\(ds.map (·.1)).Nodup/\(∀ z∈ds.map (·.1),NameOk z)/\∃ n,n * ds.length<=16/\∀ p∈ds,DeskOk c (ds.map (·.1)) w n p.2
theorem rds_dok:∀ {l:List (Str×List Int)},I.doks (l.map fun p=>tRu (.rd p.1 p.2))=true/\I.deps (l.map fun p=>tRu (.rd p.1 p.2))<=50
 | []=>⟨rfl,by decide⟩
 | p::l=>by
  have ih:=rds_dok (l:=l)
  have hi:∀ row:List Int,I.doks (row.map I.int)=true/\I.deps (row.map I.int)=0:=fun row=>by
   induction row with
   | nil=>exact⟨rfl,rfl⟩
   | cons x row ih=>exact⟨by rw [List.map_cons,I.doks,ih.1];rfl,by rw [List.map_cons,I.deps,ih.2];rfl⟩
  refine⟨?_,?_⟩
  ·rw [List.map_cons,I.doks,ih.1]
   simp only [tRu,I.dok,I.doks,(hi p.2).1]
   rfl
  ·rw [List.map_cons,I.deps]
   have h1:I.dep (tRu (.rd p.1 p.2))<=50:=by simp only [tRu,I.dep,I.deps,(hi p.2).2];decide
   have:=ih.2
   omega
theorem cut_takeI {α:Type}{xs:List α}{v:Int}(h:0<=v):cutL xs none (some v)=xs.take v.toNat:=by
 obtain⟨n,rfl⟩:∃ n:Nat,v=n:=⟨v.toNat,by omega⟩
 unfold cutL
 rw [HT.sIx_none,HT.sIx_nat,Int.toNat_natCast,List.drop_zero,Nat.sub_zero]
 rcases Nat.le_total n xs.length with h | h
 ·rw [Nat.min_eq_left h]
 ·rw [Nat.min_eq_right h,List.take_of_length_le h,List.take_of_length_le (Nat.le_refl _)]
theorem house_ok {f:Int×Int}{Q:T->T->Prop}(q:∀ w wh ds f',HouseOk 10 w wh ds->Q (.im (zfb w wh ds)) (fT f')):W2 (r_l_house [fT f]) Q:=by
 refine runI_ok' [some ⟨.io 0,fT f⟩,none,none,none,none,none,none,none,none,none] rfl rfl rfl ?_
 unfold m_l_house
 and_intros
 refine reads_ok fun w m ls f hw1 hw2 hm1 hm2 hL=>?_
 ac_nf
 and_intros
 refine zu (by omega) (by omega) fun d1 f a1 b1=>?_
 ac_nf
 and_intros
 refine zu (by omega) (by omega) fun d2 f a2 b2=>?_
 ac_nf
 and_intros
 refine zu (by omega) (by omega) fun d3 f a3 b3=>?_
 ac_nf
 and_intros
 refine zu (by omega) (by omega) fun d4 f a4 b4=>?_
 ac_nf
 and_intros
 refine zua (ns:=[2+d1,2+d2,1000000000 - d3]) a4 (by simpa using b4) fun wh hwh _=>?_
 have hwh':2<=wh/\wh<=1000000000:=by simp at hwh;omega
 and_intros
 have hlm:((ls.map zha).length:Int)=m:=by rw [List.length_map,hL.1];omega
 rw [hlm]
 refine names_ok (by omega) hm2 fun zs f hzl hzn hzo=>?_
 ac_nf
 and_intros
 refine zic (fun s:(Int×Int)×List (Str×Ru)=>[some ⟨.io 0,fT s.1⟩,some ⟨.ow,.im (.int w)⟩,some ⟨.ow,.lst (ls.map zha)⟩,some ⟨.ow,.im (.int wh)⟩,some ⟨.ow,.li (zs.map .str)⟩,some ⟨.ow,.li (s.2.map tDesk)⟩,none,none,none,none]) (fun j s=>s.2.map (·.1)=zs.take j/\∀ p∈s.2,DeskOk 10 zs w (16 / m.toNat) p.2) ?_
 and_intros
 rw [hlm]
 refine⟨⟨by omega,by omega⟩,(f,[]),by bv_omega,⟨rfl,by simp⟩,fun x s hx ⟨hd1,hd2⟩=>?_,fun s ⟨hd1,hd2⟩=>?_⟩
 ·obtain⟨f,ds⟩:=s
  dsimp only at hd1 hd2 ⊢
  obtain⟨l,hl,hl7,hlP⟩:=hL.get (n:=x) (by omega)
  and_intros
  refine w_compIs (fun _:Unit=>[some ⟨.io 0,fT f⟩,some ⟨.ow,.im (.int w)⟩,some ⟨.ow,.lst (ls.map zha)⟩,some ⟨.ow,.im (.int wh)⟩,some ⟨.ow,.li (zs.map .str)⟩,some ⟨.ow,.li (ds.map tDesk)⟩,some ⟨.ow,.im (.int x)⟩,none,none,none]) (fun p:Str×List Int=>tRu (.rd p.1 p.2)) (fun j _ L=>L.length=j/\∀ p∈L,p.1∈zs/\p.2.length=w.toNat) ?_
  and_intros
  refine p_ixLL (u:=zha l) (kd:=.vw (some 2) (some [.ix x])) (by omega) (by rw [Int.toNat_natCast,List.getElem?_map,hl];rfl) (zqe l) rfl ?_
  and_intros
  rw [hlm]
  rw [cut_takeI (Int.ediv_nonneg (by omega) (by omega)),← List.map_take]
  refine⟨(l.take (16 / m).toNat).map tRd,rfl,by simp;rw [sizeLine_eq];omega,by bv_omega,(),by bv_omega,⟨rfl,by simp⟩,fun j x' _ L hx' ⟨hLl,hLx⟩=>?_,fun _ L ⟨hLl,hLx⟩=>?_⟩
  ·rw [List.getElem?_map] at hx'
   cases e:(l.take (16 / m).toNat)[j]? with
   | none=>rw [e] at hx';cases hx'
   | some p=>
    rw [e] at hx';cases hx'
    have hp:=hlP p (List.mem_of_mem_take (List.mem_of_getElem? e))
    obtain⟨p0,p1,p2,p3⟩:=hp
    and_intros
    refine p_ixE (emb:=I.str) (ns:=zs) p0 (by omega) fun z hz=>?_
    and_intros
    exact⟨(z,p.2),(),rfl,by bv_omega,by simp [hLl],zpa hLx ⟨List.mem_of_getElem? hz,p2⟩⟩
  rw [List.length_map] at hLl
  have hLn:L.length<=16 / m.toNat:=by
   rw [hLl,List.length_take]
   have:(16 / m).toNat=16 / m.toNat:=by
    obtain⟨n,rfl⟩:∃ n:Nat,m=n:=⟨m.toNat,by omega⟩
    rw [Int.toNat_natCast];exact congrArg Int.toNat (Int.natCast_ediv 16 n).symm
   omega
  have hL7:L.length<=7:=by rw [hLl,List.length_take];omega
  and_intros
  refine zic (fun s:(Int×Int)×List Ru=>[some ⟨.io 0,fT s.1⟩,some ⟨.ow,.im (.int w)⟩,some ⟨.ow,.lst (ls.map zha)⟩,some ⟨.ow,.im (.int wh)⟩,some ⟨.ow,.li (zs.map .str)⟩,some ⟨.ow,.li (ds.map tDesk)⟩,some ⟨.ow,.im (.int x)⟩,some ⟨.ow,.li (s.2.map tRu)⟩,none,none]) (fun j s=>s.2.length=L.length+j/\(∀ r∈s.2,LeafOk zs w r)/\∀ y row,Ru.rd y row∈s.2->(y,row)∈L) ?_
  and_intros
  refine zu (by omega) (by omega) fun d f hd0 hd1'=>?_
  ac_nf
  and_intros
  refine p_eqL (js:=[]) ⟨rds_dok.1,rfl,rds_dok.2⟩ ?_
  and_intros
  have hk:∀ b:Bool,0<=(if b then 1 else 0:Int)/\(if b then 1 else 0:Int)<=1:=fun b=>by cases b<;>decide
  have hk':=hk (decide (L.map (fun p=>tRu (.rd p.1 p.2)) = []))
  have hk0:L = []->(if (decide (L.map (fun p=>tRu (.rd p.1 p.2)) = []))=true then 1 else 0:Int)=1:=fun z=>by rw [z];rfl
  generalize (if (decide (L.map (fun p=>tRu (.rd p.1 p.2)) = []))=true then 1 else 0:Int)=kk at *
  refine⟨⟨by omega,by omega⟩,(f,L.map fun p=>.rd p.1 p.2),by rw [List.map_map];bv_omega,⟨by simp,fun r hr=>?_,fun y row hr=>?_⟩,fun j s hj ⟨hs1,hs2,hs3⟩=>?_,fun s ⟨hs1,hs2,hs3⟩=>?_⟩
  ·obtain⟨p,hp,rfl⟩:=List.mem_map.mp hr
   exact hLx p hp
  ·obtain⟨p,hp,e⟩:=List.mem_map.mp hr
   cases e;exact hp
  ·obtain⟨f,rs⟩:=s
   dsimp only at hs1 hs2 hs3 ⊢
   and_intros
   refine zu (by omega) (by omega) fun e1 f he0 he1=>?_
   ac_nf
   and_intros
   refine zua (ns:=[9,1000000001]) he0 (by simpa using he1) fun top htop _=>?_
   have htop':1<=top/\top<=1000000001:=by simp at htop;omega
   and_intros
   refine zu (by omega) (by omega) fun num f hn0 hn1=>?_
   ac_nf
   and_intros
   rw [List.length_map]
   refine zu (by omega) (by omega) fun at0 f ha0 ha1=>?_
   ac_nf
   and_intros
   refine p_ins (is:=rs.map tRu) ⟨ha0,by simp;omega,by simp;rw [sizeLine_eq];omega⟩ ?_
   ac_nf
   and_intros
   refine⟨(f,rs.take at0.toNat++Ru.num num::rs.drop at0.toNat),?_,by simp;omega,fun r hr=>?_,fun y row hr=>?_⟩
   ·rw [List.map_append,List.map_cons,List.map_take,List.map_drop]
    bv_omega
   ·rcases List.mem_append.mp hr with hr | hr
    ·exact hs2 r (List.mem_of_mem_take hr)
    ·rcases List.mem_cons.mp hr with rfl | hr
     ·exact⟨hn0,by omega⟩
     ·exact hs2 r (List.mem_of_mem_drop hr)
   ·rcases List.mem_append.mp hr with hr | hr
    ·exact hs3 y row (List.mem_of_mem_take hr)
    ·rcases List.mem_cons.mp hr with hr | hr
     ·cases hr
     ·exact hs3 y row (List.mem_of_mem_drop hr)
  ·obtain⟨f,rs⟩:=s
   dsimp only at hs1 hs2 hs3 ⊢
   and_intros
   refine p_ixE (emb:=I.str) (ns:=zs) (by omega) (by omega) fun z hz=>?_
   and_intros
   refine grown_ok (rs:=rs) (fun h0=>?_) (by omega) (fun r hr=>leaf_ok (hs2 r hr).leaf) fun r f hrl hro=>?_
   ·rw [h0] at hs1
    have hL0:L = []:=List.eq_nil_of_length_eq_zero (by simp at hs1;omega)
    have:=hk0 hL0
    simp at hs1
    omega
   rw [leaf_flat fun r hr=>(hs2 r hr).leaf] at hrl
   ac_nf
   and_intros
   refine zwc (is:=ds.map tDesk) (by
    have:ds.length<=zs.length:=by rw [← List.length_map (f:=fun p:Str×Ru=>p.1),hd1];simp;omega
    simp;rw [sizeLine_eq];omega) ?_
   ac_nf
   and_intros
   refine⟨(f,ds++[(z,r)]),?_,?_,zpa hd2 ⟨hro,by rw [hrl];omega,by rw [hrl];exact hs2,L,hLn,by rw [hrl];exact hs3⟩⟩
   ·rw [List.map_append]
    bv_omega
   ·rw [List.map_append,hd1,List.take_succ]
    rw [Int.toNat_natCast] at hz
    rw [hz];rfl
 ·obtain⟨f,ds⟩:=s
  dsimp only at hd1 hd2 ⊢
  and_intros
  rw [List.take_of_length_le (by omega)] at hd1
  have hlen:ds.length=m.toNat:=by rw [← hzl,← hd1,List.length_map]
  refine q w wh ds f ⟨hw1,hw2,hwh'.1,hwh'.2,by omega,by omega,by rw [hd1];exact hzn,by rw [hd1];exact hzo,16 / m.toNat,?_,by rw [hd1];exact hd2⟩
  rw [hlen];exact Nat.div_mul_le_self 16 m.toNat
theorem feed_ok {ns:List Int}{k:Int}(hn:ns.length<=1000)(h1:0<=k)(h2:k<=1000000){Q:T->Prop}(q:∀ f,Q (fT f)):W1 (r_l_feed [.li (ns.map .int),.im (.int k)]) Q:=by
 refine runP_ok' [some ⟨.vw none none,.li (ns.map .int)⟩,some ⟨.ow,.im (.int k)⟩,none,none] rfl rfl rfl ?_
 unfold m_l_feed
 and_intros
 refine WS.mono (Q:=fun fl ρ=>fl = .nx/\∃ cell:Int,ρ = [some ⟨.vw none none,.li (ns.map .int)⟩,some ⟨.ow,.im (.int k)⟩,some ⟨.ow,.im (.int cell)⟩,none]) ?_ ?_
 ·(refine w_if ?_;and_intros;clear_value hk)
  ·rw [List.length_map] at hk
   and_intros
   refine zua (ns:=ns) h1 hk fun y hy _=>?_
   and_intros
   exact⟨by trivial,y,by first | trivial | bv_omega⟩
  ·(refine w_if ?_;and_intros;clear_value hl)
   ·rw [List.length_map] at hl
    and_intros
    rw [List.length_map]
    refine p_mod (by omega) ?_
    and_intros
    refine zua (ns:=ns) (Int.emod_nonneg _ (by omega)) (Int.emod_lt_of_pos _ (by omega)) fun y hy _=>?_
    and_intros
    exact⟨by trivial,_,by first | trivial | bv_omega⟩
   ·and_intros
    exact⟨by trivial,_,by first | trivial | bv_omega⟩
 rintro fl ρ ⟨rfl,cell,rfl⟩
 and_intros
 refine WS.mono (Q:=fun fl ρ=>fl = .nx/\∃ own:Int,ρ = [some ⟨.vw none none,.li (ns.map .int)⟩,some ⟨.ow,.im (.int k)⟩,some ⟨.ow,.im (.int cell)⟩,some ⟨.ow,.im (.int own)⟩]) ?_ ?_
 ·refine w_if ?_
  and_intros
  refine p_pow ⟨by omega,by omega,by decide⟩ ?_
  and_intros
  clear_value hc
  ·and_intros
   exact⟨by trivial,_,by first | trivial | bv_omega⟩
  ·and_intros
   exact⟨by trivial,_,by first | trivial | bv_omega⟩
 rintro fl ρ ⟨rfl,own,rfl⟩
 and_intros
 have m0:=Int.emod_nonneg cell (show (2147483629:Int)≠0 by omega)
 have m1:=Int.emod_lt_of_pos cell (show (0:Int)<2147483629 by omega)
 refine p_pow ⟨by omega,by omega,by omega⟩ ?_
 and_intros
 exact q (own,_)
noncomputable def Ru.pre:Ru->List Ru
 | .num n=>[.num n]
 | .rd x row=>[.rd x row]
 | .op s a b=>.op s a b::(a.pre++b.pre)
 | .cond a b c=>.cond a b c::(a.pre++(b.pre++c.pre))
theorem bls_bl:∀ {bs:List Bool},bls (bs.map I.bl)=some bs
 | []=>rfl
 | b::bs=>by rw [List.map_cons,bls,bls_bl];rfl
theorem p_all {bs:List Bool}{Q:T->Prop}(q:Q (.im (.bl (bs.all id)))):W1 (allT [.li (bs.map I.bl)]) Q:=w1 (by simp only [allT,bls_bl,Option.map_some]) q
mutual
noncomputable def I.fit:I->Bool
 | .tup is=>decide (is.length<=1000000) && I.fits is
 | _=>true
noncomputable def I.fits:List I->Bool
 | []=>true
 | i::is=>i.fit && I.fits is
end
theorem fits_mem:∀ {is:List I} {i:I},I.fits is=true->i∈is->i.fit=true
 | a::is,i,h,hm=>by
  rw [I.fits,Bool.and_eq_true] at h
  rcases List.mem_cons.mp hm with rfl | hm
  ·exact h.1
  ·exact fits_mem h.2 hm
theorem fits_of:∀ {is:List I},(∀ i∈is,i.fit=true)->I.fits is=true
 | [],_=>rfl
 | a::is,h=>by rw [I.fits,h a List.mem_cons_self,fits_of fun i hi=>h i (List.mem_cons_of_mem _ hi)];rfl
theorem deps_mem:∀ {is:List I} {i:I},i∈is->i.dep<=I.deps is
 | a::is,i,hm=>by
  rw [I.deps]
  rcases List.mem_cons.mp hm with rfl | hm
  ·omega
  ·have:=deps_mem hm;omega
theorem deps_of {n:Nat}:∀ {is:List I},(∀ i∈is,i.dep<=n)->I.deps is<=n
 | [],_=>Nat.zero_le _
 | a::is,h=>by
  have h1:=h a List.mem_cons_self
  have h2:=deps_of fun i hi=>h i (List.mem_cons_of_mem _ hi)
  rw [I.deps];omega
theorem p_allU {l:List Unit}{Q:T->Prop}(q:Q (.im (.bl true))):W1 (allT [.li (l.map fun _=>I.bl true)]) Q:=by
 have e:(l.map fun _=>I.bl true)=(l.map fun _=>true).map I.bl:=by rw [List.map_map];rfl
 rw [e]
 refine p_all ?_
 have:(l.map fun _=>true).all id=true:=by simp
 rw [this]
 exact q
theorem alike_im:∀ (n:Nat) (i:I),i.dep<n->i.fit=true->W1 (zld n [.im i,.im i]) fun t=>t = .im (.bl true):=by
 intro n
 induction n with
 | zero=>intro i h;omega
 | succ n ih=>
  intro i h hf
  refine runP_ok' [some ⟨.ow,.im i⟩,some ⟨.ow,.im i⟩] rfl rfl rfl ?_
  unfold m_l_alike
  cases i with
  | tup is=>
   rw [I.fit,Bool.and_eq_true,decide_eq_true_eq] at hf
   rw [I.dep] at h
   (repeat first | infer_instance | refine spT ?_ | refine spF ?_ | refine w_if ?_)
   clear_value hl
   ·and_intros
    refine w_compZs (fun _:Unit=>[some ⟨.ow,.im (.tup is)⟩,some ⟨.ow,.im (.tup is)⟩]) (fun _:Unit=>I.bl true) (fun j _ l=>l.length=j) ?_
    and_intros
    refine⟨_,_,false,false,is,is,rfl,rfl,rfl,by rw [sizeLine_eq];omega,by bv_omega,(),by bv_omega,rfl,fun j x y _ l hx hy hP=>?_,fun _ l hP=>?_⟩
    ·rw [hx] at hy;cases hy
     have hm:=List.mem_of_getElem? hx
     and_intros
     refine W1.mono (ih x (by have:=deps_mem hm;omega) (fits_mem hf.2 hm)) fun t ht=>?_
     subst ht
     exact⟨(),(),rfl,by bv_omega,by simp [hP]⟩
    ·and_intros
     refine p_allU ?_
     and_intros
     try rfl
   ·exact absurd rfl hl
  | non=>
   (repeat first | infer_instance | refine spT ?_ | refine spF ?_ | refine w_if ?_)
   refine w1 (x:=.im (.bl true)) (by bv_omega) ?_
   and_intros
   try rfl
  | bl b=>
   (repeat first | infer_instance | refine spT ?_ | refine spF ?_ | refine w_if ?_)
   refine w1 (x:=.im (.bl true)) (by with_unfolding_all (cases b<;>rfl)) ?_
   and_intros
   try rfl
  | int z=>(repeat first | infer_instance | refine spT ?_ | refine spF ?_ | refine w_if ?_);simp
  | str z=>(repeat first | infer_instance | refine spT ?_ | refine spF ?_ | refine w_if ?_);simp
theorem alike_li {n:Nat}{is:List I}(h:I.deps is<n)(hf:I.fits is=true)(hl':is.length<=1000000){Q:T->Prop}(q:Q (.im (.bl true))):W1 (zld (n+1) [.li is,.li is]) Q:=by
 refine runP_ok' [some ⟨.vw none none,.li is⟩,some ⟨.vw none none,.li is⟩] rfl rfl rfl ?_
 unfold m_l_alike
 (repeat first | infer_instance | refine spT ?_ | refine spF ?_ | refine w_if ?_)
 clear_value hl
 ·and_intros
  refine w_compZs (fun _:Unit=>[some ⟨.vw none none,.li is⟩,some ⟨.vw none none,.li is⟩]) (fun _:Unit=>I.bl true) (fun j _ l=>l.length=j) ?_
  and_intros
  refine⟨_,_,true,true,is,is,rfl,rfl,rfl,by rw [sizeLine_eq];omega,by bv_omega,(),by bv_omega,rfl,fun j x y _ l hx hy hP=>?_,fun _ l hP=>?_⟩
  ·rw [hx] at hy;cases hy
   have hm:=List.mem_of_getElem? hx
   and_intros
   refine W1.mono (alike_im n x (by have:=deps_mem hm;omega) (fits_mem hf hm)) fun t ht=>?_
   subst ht
   exact⟨(),(),rfl,by bv_omega,by simp [hP]⟩
  ·and_intros
   refine p_allU ?_
   and_intros
   exact q
 ·exact absurd rfl hl
noncomputable def rngL (n:Int):List Int:=(List.range n.toNat).map fun i:Nat=>(i:Int)
noncomputable def znd (ps:List (List Int)) (n:Int):List (List Int):=ps.flatMap fun p=>(rngL n).map fun k=>p++[k]
noncomputable def plc (sz:List Int):List (List Int):=sz.foldl znd [[]]
noncomputable def tPl (p:List Int):I:=.tup (p.map .int)
noncomputable def znc (ns:List Str) (ps:List (List Int)):List (Str×List Int):=ps.flatMap fun p=>ns.map fun n=>(n,p)
noncomputable def tCell (c:Str×List Int):I:=.tup [.str c.1,tPl c.2]
noncomputable def mx (x:Int):Nat:=max 1 x.toNat
noncomputable def prd:List Int->Nat
 | []=>1
 | x::r=>mx x * prd r
theorem mx_pos (x:Int):1<=mx x:=by unfold mx;omega
theorem prd_pos:∀ l,1<=prd l
 | []=>Nat.le_refl 1
 | x::r=>Nat.mul_le_mul (mx_pos x) (prd_pos r)
theorem prd_app:∀ a b,prd (a++b)=prd a * prd b
 | [],b=>by simp [prd]
 | x::a,b=>by rw [List.cons_append,prd,prd,prd_app a b,Nat.mul_assoc]
theorem rngL_len (n:Int):(rngL n).length=n.toNat:=by simp [rngL]
theorem ztc (ps:List (List Int))(n:Int):(znd ps n).length=ps.length * n.toNat:=by
 unfold znd
 rw [List.length_flatMap]
 have:(ps.map fun a=>((rngL n).map fun k=>a++[k]).length)=ps.map fun _=>n.toNat:=by
  refine List.map_congr_left fun a _=>?_
  rw [List.length_map,rngL_len]
 rw [this]
 have sm:∀ l:List (List Int),(l.map fun _=>n.toNat).sum=l.length * n.toNat:=by
  intro l
  induction l with
  | nil=>simp
  | cons a l ih=>rw [List.map_cons,List.sum_cons,ih,List.length_cons,Nat.succ_mul,Nat.add_comm]
 exact sm ps
theorem stepP_app (a b:List (List Int))(n:Int):znd (a++b) n=znd a n++znd b n:=by unfold znd;rw [List.flatMap_append]
theorem cellsL_app (ns:List Str)(a b:List (List Int)):znc ns (a++b)=znc ns a++znc ns b:=by unfold znc;rw [List.flatMap_append]
theorem zme (ns:List Str)(ps:List (List Int)):(znc ns ps).length=ps.length * ns.length:=by
 unfold znc
 rw [List.length_flatMap]
 have:(ps.map fun a=>(ns.map fun n=>(n,a)).length)=ps.map fun _=>ns.length:=by
  refine List.map_congr_left fun a _=>?_
  rw [List.length_map]
 rw [this]
 have sm:∀ l:List (List Int),(l.map fun _=>ns.length).sum=l.length * ns.length:=by
  intro l
  induction l with
  | nil=>simp
  | cons a l ih=>rw [List.map_cons,List.sum_cons,ih,List.length_cons,Nat.succ_mul,Nat.add_comm]
 exact sm ps
theorem fold_len:∀ (sz:List Int) (ps:List (List Int)),(sz.foldl znd ps).length<=ps.length * prd sz
 | [],ps=>by simp [prd]
 | n::sz,ps=>by
  rw [List.foldl_cons,prd]
  refine Nat.le_trans (fold_len sz _) ?_
  rw [ztc,← Nat.mul_assoc]
  refine Nat.mul_le_mul_right _ (Nat.mul_le_mul_left _ ?_)
  unfold mx;omega
theorem plc_len (sz:List Int):(plc sz).length<=prd sz:=by
 have:=fold_len sz [[]]
 rw [List.length_singleton,Nat.one_mul] at this
 exact this
theorem fold_nil:∀ (sz:List Int),sz.foldl znd [] = []
 | []=>rfl
 | n::sz=>by rw [List.foldl_cons];exact fold_nil sz
theorem plc_zero {sz:List Int}(h:(0:Int)∈sz):∀ ps,sz.foldl znd ps = []:=by
 induction sz with
 | nil=>cases h
 | cons n sz ih=>
  intro ps
  rw [List.foldl_cons]
  rcases List.mem_cons.mp h with h | h
  ·subst h
   have:znd ps 0 = []:=by
    apply List.eq_nil_of_length_eq_zero
    rw [ztc];rfl
   rw [this,fold_nil]
  ·exact ih h _
theorem plc_snoc {sz:List Int}{n:Int}:plc (sz++[n])=znd (plc sz) n:=by unfold plc;rw [List.foldl_append];rfl
theorem plc_w:∀ (sz:List Int) (ps:List (List Int)) (k:Nat),(∀ p∈ps,p.length=k)->∀ p∈sz.foldl znd ps,p.length=k+sz.length
 | [],ps,k,h,p,hp=>by rw [List.length_nil];exact h p hp
 | n::sz,ps,k,h,p,hp=>by
  rw [List.foldl_cons] at hp
  have:=plc_w sz _ (k+1) (fun q hq=>by
   obtain⟨a,ha,hb⟩:=List.mem_flatMap.mp hq
   obtain⟨c,_,rfl⟩:=List.mem_map.mp hb
   rw [List.length_append,h a ha];rfl) p hp
  rw [List.length_cons];omega
theorem prd_take (sz:List Int)(j:Nat):prd (sz.take j)<=prd sz:=by
 have h:=prd_app (sz.take j) (sz.drop j)
 rw [List.take_append_drop] at h
 rw [h]
 exact Nat.le_mul_of_pos_right _ (prd_pos _)
structure SzOk (D:Nat)(w:Int)(sz:List Int):Prop where
 len:sz.length=w.toNat
 bnd:∀ x∈sz,0<=x/\x<=300
 prod:prd sz * D<=300
theorem ints_dok:∀ row:List Int,I.doks (row.map I.int)=true/\I.deps (row.map I.int)=0
 | []=>⟨rfl,rfl⟩
 | x::row=>⟨by rw [List.map_cons,I.doks,(ints_dok row).1];rfl,by rw [List.map_cons,I.deps,(ints_dok row).2];rfl⟩
theorem box_ok {w wh:Int}{ds:List (Str×Ru)}{sz:List Int}(hw:1<=w/\w<=3)(hd:1<=ds.length/\ds.length<=6)(hs:SzOk ds.length w sz){Q:T->Prop}(q:Q (.li ((znc (ds.map (·.1)) (plc sz)).map tCell))):W1 (r_p_box [.im (zfb w wh ds),.im (.tup (sz.map .int))]) Q:=by
 have hp:prd sz<=300:=Nat.le_trans (Nat.le_mul_of_pos_right _ hd.1) hs.prod
 have hpl:∀ j,(plc (sz.take j)).length<=300:=fun j=>Nat.le_trans (plc_len _) (Nat.le_trans (prd_take sz j) hp)
 refine runP_ok' [some ⟨.ow,.im (zfb w wh ds)⟩,some ⟨.ow,.im (.tup (sz.map .int))⟩,none,none] rfl rfl rfl ?_
 unfold m_p_box
 and_intros
 refine w_if ?_
 and_intros
 refine p_inT ⟨rfl,(ints_dok sz).1,by rw [(ints_dok sz).2];decide⟩ ?_
 and_intros
 clear_value c
 ·have h0:(0:Int)∈sz:=by
   obtain⟨x,hx,e⟩:=List.mem_map.mp c
   cases e
   exact hx
  have:plc sz = []:=plc_zero h0 _
  rw [this] at q
  and_intros
  exact q
 ·and_intros
  refine w_forIs (fun ps:List (List Int)=>[some ⟨.ow,.im (zfb w wh ds)⟩,some ⟨.ow,.im (.tup (sz.map .int))⟩,some ⟨.ow,.li (ps.map tPl)⟩,none]) (fun j ps=>ps=plc (sz.take j)) ?_
  and_intros
  refine⟨sz.map .int,rfl,by bv_omega,[[]],by bv_omega,rfl,fun j x ps hx hP=>?_,fun ps hP=>?_⟩
  ·rw [List.getElem?_map] at hx
   cases e:sz[j]? with
   | none=>rw [e] at hx;cases hx
   | some n=>
    rw [e] at hx;cases hx
    have hb:=hs.bnd n (List.mem_of_getElem? e)
    have hps:ps.length<=300:=by rw [hP];exact hpl j
    have hnext:znd ps n=plc (sz.take (j+1)):=by rw [List.take_succ,e,hP];exact plc_snoc.symm
    have hlen:ps.length * n.toNat<=300:=by rw [← ztc,hnext];exact hpl (j+1)
    have hpw:∀ p∈ps,p.length<=3:=fun p hp=>by
     rw [hP] at hp
     have:=plc_w (sz.take j) [[]] 0 (by simp) p hp
     have h2:(sz.take j).length<=sz.length:=by simp;omega
     rw [hs.len] at h2
     omega
    and_intros
    refine w_comp2 (wi_seq ?_)
    and_intros
    refine w1 (x:=(ps.map tPl).map fun i=>⟨.ow,.im i⟩) rfl (gu (by bv_omega) ⟨fun j acc ρ=>ρ = [some ⟨.ow,.im (zfb w wh ds)⟩,some ⟨.ow,.im (.tup (sz.map .int))⟩,some ⟨.ow,.li (ps.map tPl)⟩,some ⟨.ow,.im (.int n)⟩]/\acc=((znd (ps.take j) n).map tPl).map T.im,⟨rfl,rfl⟩,?_,?_⟩)
    ·rintro i r acc ρ hr ⟨rfl,rfl⟩
     obtain⟨x,hx,rfl⟩:=zza hr
     obtain⟨p,hp,rfl⟩:=zza hx
     have hil:=(List.getElem?_eq_some_iff.mp hp).1
     have hti:(ps.take i).length * n.toNat<=300:=Nat.le_trans (Nat.mul_le_mul_right _ (by simp;omega)) hlen
     and_intros
     refine wi_rng1 ?_
     and_intros
     refine⟨n,rfl,⟨by omega,by omega⟩,gu (by bv_omega) ⟨by rw [List.length_map,List.length_map,ztc,rngI_eq,List.length_map,List.length_map,List.length_range,sizeLine_eq];omega,?_⟩⟩
     rw [rngI_eq]
     refine comp_map (fun x=>match x with | .int k=>tPl (p++[k]) | _=>.non) _ (fun x hx=>?_) _ ⟨by bv_omega,?_⟩
     ·obtain⟨k,hk,rfl⟩:=List.mem_map.mp hx
      and_intros
      refine p_addT (is:=p.map .int) (js:=[.int (0+(k:Int))]) (by have:=hpw p (List.mem_of_getElem? hp);simp;rw [sizeLine_eq];omega) ?_
      exact⟨by simp [tPl],by bv_omega⟩
     ·rw [List.take_succ,hp,← List.map_append,stepP_app]
      simp [znd,rngL]
    ·rintro acc ρ ⟨rfl,rfl⟩
     rw [show (List.map (fun i=>(⟨.ow,.im i⟩:R)) (List.map tPl ps)).length=ps.length from by simp,List.take_length]
     refine⟨by rw [List.length_map,List.length_map,ztc,sizeLine_eq];omega,?_⟩
     rw [mkLst_im]
     and_intros
     exact⟨znd ps n,by bv_omega,hnext⟩
  ·rw [List.length_map,List.take_length] at hP
   subst hP
   have hp0:=hpl sz.length
   rw [List.take_length] at hp0
   and_intros
   refine w_comp2 (wi_seq ?_)
   and_intros
   refine w1 (x:=((plc sz).map tPl).map fun i=>⟨.ow,.im i⟩) rfl (gu (by bv_omega) ⟨fun j acc ρ=>ρ = [some ⟨.ow,.im (zfb w wh ds)⟩,some ⟨.ow,.im (.tup (sz.map .int))⟩,some ⟨.ow,.li ((plc sz).map tPl)⟩,none]/\acc=((znc (ds.map (·.1)) ((plc sz).take j)).map tCell).map T.im,⟨rfl,rfl⟩,?_,?_⟩)
   ·rintro i r acc ρ hr ⟨rfl,rfl⟩
    obtain⟨x,hx,rfl⟩:=zza hr
    obtain⟨p,hp,rfl⟩:=zza hx
    and_intros
    refine wi_seq ?_
    rw [zfb]
    and_intros
    refine w1 (x:=(ds.map tDesk).map fun i=>⟨.ow,.im i⟩) rfl (gu (by bv_omega) ⟨?_,?_⟩)
    ·rw [List.length_map,List.length_map,List.length_map,List.length_map,zme,List.length_map,sizeLine_eq]
     have h1:((plc sz).take i).length<=300:=by simp;omega
     have h2:((plc sz).take i).length * ds.length<=300 * 6:=Nat.mul_le_mul h1 hd.2
     omega
    ·refine comp_map (fun x=>match x with | .tup [.str z,_]=>tCell (z,p) | _=>.non) _ (fun x hx=>?_) _ ⟨by bv_omega,?_⟩
     ·obtain⟨d,hd,rfl⟩:=List.mem_map.mp hx
      rw [tDesk]
      and_intros
      exact⟨by bv_omega,by bv_omega⟩
     ·rw [List.take_succ,hp,← List.map_append,cellsL_app]
      simp [znc,tDesk]
   ·rintro acc ρ ⟨rfl,rfl⟩
    rw [show (List.map (fun i=>(⟨.ow,.im i⟩:R)) (List.map tPl (plc sz))).length=(plc sz).length from by simp,List.take_length]
    have h2:(plc sz).length * ds.length<=300 * 6:=Nat.mul_le_mul hp0 hd.2
    refine⟨by rw [List.length_map,List.length_map,zme,List.length_map,sizeLine_eq];omega,?_⟩
    rw [mkLst_im]
    and_intros
    exact q
theorem due_ok {w wh:Int}{ds:List (Str×Ru)}{sz:List Int}(hw:1<=w/\w<=3)(hd:1<=ds.length/\ds.length<=6)(hs:SzOk ds.length w sz){Q:T->Prop}(q:Q (.li ((znc (ds.map (·.1)) (plc sz)).map tCell))):W1 (r_l_due [.im (zfb w wh ds),.im (.tup (sz.map .int))]) Q:=by
 have hp:prd sz<=300:=Nat.le_trans (Nat.le_mul_of_pos_right _ hd.1) hs.prod
 have hpl:∀ j,(plc (sz.take j)).length<=300:=fun j=>Nat.le_trans (plc_len _) (Nat.le_trans (prd_take sz j) hp)
 refine runP_ok' [some ⟨.ow,.im (zfb w wh ds)⟩,some ⟨.ow,.im (.tup (sz.map .int))⟩,none,none,none,none,none] rfl rfl rfl ?_
 unfold m_l_due
 and_intros
 refine w_forIs (fun ps:List (List Int)=>[some ⟨.ow,.im (zfb w wh ds)⟩,some ⟨.ow,.im (.tup (sz.map .int))⟩,some ⟨.ow,.li (ps.map tPl)⟩,none,none,none,none]) (fun j ps=>ps=plc (sz.take j)) ?_
 and_intros
 refine⟨sz.map .int,rfl,by bv_omega,[[]],by bv_omega,rfl,fun j x ps hx hP=>?_,fun ps hP=>?_⟩
 ·rw [List.getElem?_map] at hx
  cases e:sz[j]? with
  | none=>rw [e] at hx;cases hx
  | some n=>
   rw [e] at hx;cases hx
   have hb:=hs.bnd n (List.mem_of_getElem? e)
   have hps:ps.length<=300:=by rw [hP];exact hpl j
   have hnext:znd ps n=plc (sz.take (j+1)):=by rw [List.take_succ,e,hP];exact plc_snoc.symm
   have hlen:ps.length * n.toNat<=300:=by rw [← ztc,hnext];exact hpl (j+1)
   have hpw:∀ p∈ps,p.length<=3:=fun p hp=>by
    rw [hP] at hp
    have:=plc_w (sz.take j) [[]] 0 (by simp) p hp
    have h2:(sz.take j).length<=sz.length:=by simp;omega
    rw [hs.len] at h2
    omega
   and_intros
   refine w_forIs (fun l:List (List Int)=>[some ⟨.ow,.im (zfb w wh ds)⟩,some ⟨.ow,.im (.tup (sz.map .int))⟩,some ⟨.ow,.li (ps.map tPl)⟩,some ⟨.ow,.im (.int n)⟩,some ⟨.ow,.li (l.map tPl)⟩,none,none]) (fun i l=>l=znd (ps.take i) n) ?_
   and_intros
   refine⟨ps.map tPl,rfl,by bv_omega,[],by bv_omega,rfl,fun i x l hx hl=>?_,fun l hl=>?_⟩
   ·rw [List.getElem?_map] at hx
    cases ep:ps[i]? with
    | none=>rw [ep] at hx;cases hx
    | some p=>
     rw [ep] at hx;cases hx
     have hti:(ps.take i).length * n.toNat<=300:=Nat.le_trans (Nat.mul_le_mul_right _ (by simp;omega)) hlen
     and_intros
     refine zwd (fun _:Unit=>[some ⟨.ow,.im (zfb w wh ds)⟩,some ⟨.ow,.im (.tup (sz.map .int))⟩,some ⟨.ow,.li (ps.map tPl)⟩,some ⟨.ow,.im (.int n)⟩,some ⟨.ow,.li (l.map tPl)⟩,some ⟨.ow,.im (tPl p)⟩,none]) (fun k:Int=>tPl (p++[k])) (fun j _ ks=>ks=(List.range j).map fun i:Nat=>(i:Int)) ?_
     and_intros
     refine⟨⟨by omega,by omega⟩,by bv_omega,(),by bv_omega,rfl,fun k _ ks hk hks=>?_,fun _ ks hks=>?_⟩
     ·and_intros
      refine p_addT (is:=p.map .int) (js:=[.int (k:Int)]) (by have:=hpw p (List.mem_of_getElem? ep);simp;rw [sizeLine_eq];omega) ?_
      exact⟨(k:Int),(),by simp [tPl],by bv_omega,by rw [hks,List.range_succ];simp⟩
     ·and_intros
      have e1:(ks.map fun k=>tPl (p++[k]))=((rngL n).map fun k=>p++[k]).map tPl:=by rw [hks];simp [rngL]
      rw [e1]
      refine p_extL (by rw [List.length_map,List.length_map,hl,ztc,List.length_map,rngL_len,sizeLine_eq];omega) ?_
      rw [← List.map_append]
      ac_nf
      and_intros
      refine⟨l++(rngL n).map fun k=>p++[k],by bv_omega,?_⟩
      rw [List.take_succ,ep,stepP_app,hl]
      simp [znd]
   ·rw [List.length_map,List.take_length] at hl
    and_intros
    ac_nf
    exact⟨l,by bv_omega,by rw [hl,hnext]⟩
 ·rw [List.length_map,List.take_length] at hP
  subst hP
  have hp0:=hpl sz.length
  rw [List.take_length] at hp0
  and_intros
  refine w_forIs (fun l:List (Str×List Int)=>[some ⟨.ow,.im (zfb w wh ds)⟩,some ⟨.ow,.im (.tup (sz.map .int))⟩,some ⟨.ow,.li ((plc sz).map tPl)⟩,none,none,none,some ⟨.ow,.li (l.map tCell)⟩]) (fun i l=>l=znc (ds.map (·.1)) ((plc sz).take i)) ?_
  and_intros
  refine⟨(plc sz).map tPl,rfl,by bv_omega,[],by bv_omega,rfl,fun i x l hx hl=>?_,fun l hl=>?_⟩
  ·rw [List.getElem?_map] at hx
   cases ep:(plc sz)[i]? with
   | none=>rw [ep] at hx;cases hx
   | some p=>
    rw [ep] at hx;cases hx
    have h1:((plc sz).take i).length<=300:=by simp;omega
    have h2:((plc sz).take i).length * ds.length<=300 * 6:=Nat.mul_le_mul h1 hd.2
    and_intros
    refine w_compIs (fun _:Unit=>[some ⟨.ow,.im (zfb w wh ds)⟩,some ⟨.ow,.im (.tup (sz.map .int))⟩,some ⟨.ow,.li ((plc sz).map tPl)⟩,none,none,some ⟨.ow,.im (tPl p)⟩,some ⟨.ow,.li (l.map tCell)⟩]) (fun z:Str=>tCell (z,p)) (fun j _ zs=>zs=((ds.map (·.1)).take j)) ?_
    rw [zfb]
    and_intros
    refine⟨ds.map tDesk,rfl,by rw [List.length_map,sizeLine_eq];omega,by bv_omega,(),by bv_omega,rfl,fun k x _ zs hx hzs=>?_,fun _ zs hzs=>?_⟩
    ·rw [List.getElem?_map] at hx
     cases ed:ds[k]? with
     | none=>rw [ed] at hx;cases hx
     | some d=>
      rw [ed] at hx;cases hx
      rw [tDesk]
      and_intros
      exact⟨d.1,(),by bv_omega,by bv_omega,by rw [hzs,List.take_succ,List.getElem?_map,ed];rfl⟩
    ·rw [List.length_map] at hzs
     have hzs':zs=ds.map (·.1):=by rw [hzs];exact List.take_of_length_le (by simp)
     have e1:(zs.map fun z=>tCell (z,p))=((ds.map (·.1)).map fun z=>(z,p)).map tCell:=by rw [hzs',List.map_map,List.map_map,List.map_map];rfl
     rw [e1]
     and_intros
     refine p_extL (by rw [List.length_map,List.length_map,List.length_map,List.length_map,hl,zme,List.length_map,sizeLine_eq];omega) ?_
     rw [← List.map_append]
     ac_nf
     and_intros
     refine⟨l++(ds.map (·.1)).map fun z=>(z,p),by bv_omega,?_⟩
     rw [List.take_succ,ep,cellsL_app,hl]
     simp [znc]
  ·rw [List.length_map,List.take_length] at hl
   subst hl
   and_intros
   exact q
theorem cut_dropI {α:Type}{xs:List α}{v:Int}(h:0<=v)(h2:v.toNat<=xs.length):cutL xs (some v) none=xs.drop v.toNat:=by
 obtain⟨n,rfl⟩:∃ n:Nat,v=(n:Int):=⟨v.toNat,by omega⟩
 exact cut_drop (by simpa using h2)
theorem left_step {l s':Int}{p D:Nat}(h1:0<=s')(h2:s'<=l)(h3:1<=l)(h4:l<=300)(h5:p * l.toNat * D<=300):1<=l / (if s' > 1 then s' else 1)/\l / (if s' > 1 then s' else 1)<=300/\p * (mx s' * 1) * (l / (if s' > 1 then s' else 1)).toNat * D<=300:=by
 generalize hm:(if s' > 1 then s' else 1)=m
 have m1:1<=m/\m<=l/\mx s'=m.toNat:=by
  subst hm
  unfold mx
  split<;>omega
 have a1:1<=l / m:=Int.le_ediv_of_mul_le (by omega) (by omega)
 have a2:l / m<=l:=Int.ediv_le_self _ (by omega)
 have a3:m * (l / m)<=l:=Int.mul_ediv_self_le (by omega)
 refine⟨a1,by omega,?_⟩
 have a4:mx s' * (l / m).toNat<=l.toNat:=by
  rw [m1.2.2]
  have e:((m.toNat * (l / m).toNat:Nat):Int)=m * (l / m):=by
   rw [Int.natCast_mul,Int.toNat_of_nonneg (by omega),Int.toNat_of_nonneg (by omega)]
  omega
 refine Nat.le_trans ?_ h5
 refine Nat.mul_le_mul_right _ ?_
 rw [Nat.mul_one,Nat.mul_assoc]
 exact Nat.mul_le_mul_left _ a4
theorem sizes_ok {w wh:Int}{ds:List (Str×Ru)}{f:Int×Int}(hw:1<=w/\w<=3)(hd:1<=ds.length/\ds.length<=6){Q:T->T->Prop}(q:∀ sz f',SzOk ds.length w sz->Q (.im (.tup (sz.map .int))) (fT f')):W2 (r_l_sizes [fT f,.im (zfb w wh ds)]) Q:=by
 refine runI_ok' [some ⟨.io 0,fT f⟩,some ⟨.ow,.im (zfb w wh ds)⟩,none,none,none,none,none,none] rfl rfl rfl ?_
 unfold m_l_sizes
 rw [zfb]
 and_intros
 rw [List.length_map]
 refine p_fdiv (by omega) ?_
 generalize hl0:(300:Int) / (ds.length:Int)=l0
 have hl:1<=l0/\l0<=300/\l0.toNat * ds.length<=300:=by
  subst hl0
  have h6:ds.length=1 ∨ ds.length=2 ∨ ds.length=3 ∨ ds.length=4 ∨ ds.length=5 ∨ ds.length=6:=by omega
  rcases h6 with h | h | h | h | h | h<;>rw [h]<;>decide
 and_intros
 refine zic (fun s:(Int×Int)×Int×List Int=>[some ⟨.io 0,fT s.1⟩,some ⟨.ow,.im (zfb w wh ds)⟩,some ⟨.ow,.im (.int s.2.1)⟩,some ⟨.ow,.li (s.2.2.map .int)⟩,none,none,none,none]) (fun j s=>s.2.2.length=j/\(∀ x∈s.2.2,0<=x/\x<=300)/\1<=s.2.1/\s.2.1<=300/\prd s.2.2 * s.2.1.toNat * ds.length<=300) ?_
 and_intros
 refine⟨⟨by omega,by omega⟩,(f,l0,[]),by bv_omega,⟨rfl,by simp,hl.1,hl.2.1,by simpa [prd] using hl.2.2⟩,fun j s hj hP=>?_,fun s hP=>?_⟩
 ·obtain⟨f,l,sz⟩:=s
  obtain⟨p1,p2,p3,p4,p5⟩:=hP
  dsimp only at p1 p2 p3 p4 p5
  and_intros
  refine zu (by omega) (by omega) fun d f hd0 hd1=>?_
  ac_nf
  and_intros
  refine zu (by omega) (by omega) fun a f ha0 ha1=>?_
  ac_nf
  and_intros
  refine zu (by omega) (by omega) fun b f hb0 hb1=>?_
  ac_nf
  and_intros
  refine zu (by omega) (by omega) fun c f hc0 hc1=>?_
  ac_nf
  and_intros
  refine zua (ns:=[0,1,l,1+a,1+b,1+c]) hd0 (by simpa using hd1) fun y hy _=>?_
  have hy':0<=y/\y<=300:=by simp at hy;omega
  and_intros
  generalize hs':(if l<y then l else y)=s'
  have h1:0<=s'/\s'<=l:=by subst hs';split<;>omega
  ac_nf
  and_intros
  refine zwc (by rw [List.length_map,sizeLine_eq];omega) ?_
  ac_nf
  and_intros
  obtain⟨c1,c2,c3⟩:=left_step h1.1 h1.2 p3 p4 p5
  refine⟨(f,l / (if s' > 1 then s' else 1),sz++[s']),?_,by simp [p1],fun x hx=>?_,c1,c2,?_⟩
  ·rw [List.map_append];try bv_omega
  ·rcases List.mem_append.mp hx with hx | hx
   ·exact p2 x hx
   ·rw [List.mem_singleton.mp hx];omega
  ·dsimp only
   rw [prd_app]
   exact c3
 ·obtain⟨f,l,sz⟩:=s
  obtain⟨p1,p2,p3,p4,p5⟩:=hP
  dsimp only at p1 p2 p3 p4 p5
  rw [zfb]
  and_intros
  refine zu (by omega) (by omega) fun a f ha0 ha1=>?_
  ac_nf
  and_intros
  rw [cut_dropI ha0 (by rw [List.length_map];omega),cut_takeI ha0]
  refine p_addL (by simp;rw [sizeLine_eq];omega) ?_
  rw [← List.map_drop,← List.map_take,← List.map_append]
  and_intros
  have hpr:prd (sz.drop a.toNat++sz.take a.toNat)=prd sz:=by
   rw [prd_app,Nat.mul_comm,← prd_app,List.take_append_drop]
  refine q (sz.drop a.toNat++sz.take a.toNat) f ⟨by simp;omega,fun x hx=>?_,?_⟩
  ·rcases List.mem_append.mp hx with hx | hx
   ·exact p2 x (List.mem_of_mem_drop hx)
   ·exact p2 x (List.mem_of_mem_take hx)
  ·rw [hpr]
   refine Nat.le_trans ?_ p5
   refine Nat.mul_le_mul_right _ ?_
   exact Nat.le_mul_of_pos_right _ (by omega)
noncomputable def tAsk (h:Int×Int×List (Str×Ru)×List Int):I:=.tup [zfb h.1 h.2.1 h.2.2.1,.tup (h.2.2.2.map .int)]
theorem cells_deps {l:List (Str×List Int)}:I.deps (l.map tCell)<=2:=deps_of fun i hi=>by
 obtain⟨c,_,rfl⟩:=List.mem_map.mp hi
 rw [tCell,I.dep,I.deps,I.deps,I.deps,tPl,I.dep,(ints_dok c.2).2]
 show max 0 (max (0+1) 0)+1<=2
 decide
theorem ints_fit:∀ l:List Int,I.fits (l.map I.int)=true
 | []=>rfl
 | a::l=>by rw [List.map_cons,I.fits,ints_fit l];rfl
theorem cells_fits {l:List (Str×List Int)}(h:∀ c∈l,c.2.length<=1000):I.fits (l.map tCell)=true:=fits_of fun i hi=>by
 obtain⟨c,hc,rfl⟩:=List.mem_map.mp hi
 have h1:=h c hc
 have h2:(tPl c.2).fit=true:=by
  rw [tPl,I.fit,ints_fit,List.length_map,decide_eq_true (show c.2.length<=1000000 by omega)];rfl
 rw [tCell,I.fit,I.fits,I.fits,I.fits,h2]
 rfl
theorem k10_law {ns:List Int}(hn:ns.length<=63):W1 (r_l_law_v2 [.li (ns.map .int)]) fun t=>t = .im (.bl true):=by
 refine runP_ok' [some ⟨.vw none none,.li (ns.map .int)⟩,none,none,none,none,none,none,none,none] rfl rfl rfl ?_
 unfold m_l_law_v2
 and_intros
 refine zic (fun hs:List (Int×Int×List (Str×Ru)×List Int)=>[some ⟨.vw none none,.li (ns.map .int)⟩,some ⟨.ow,.li (hs.map tAsk)⟩,none,none,none,none,none,none,none]) (fun j hs=>hs.length=j/\∀ h∈hs,HouseOk 10 h.1 h.2.1 h.2.2.1/\SzOk h.2.2.1.length h.1 h.2.2.2) ?_
 and_intros
 rw [List.length_map]
 generalize hc:(if (if (7:Int)<(ns.length:Int) then 7 else (ns.length:Int)) > 2 then (if (7:Int)<(ns.length:Int) then 7 else (ns.length:Int)) else 2)=c
 have hc6:2<=c/\c<=7:=by subst hc;split<;>split<;>omega
 refine⟨⟨by omega,by omega⟩,[],by bv_omega,⟨rfl,by simp⟩,fun j hs hj ⟨hl,hh⟩=>?_,fun hs ⟨hl,hh⟩=>?_⟩
 ·and_intros
  refine feed_ok (ns:=ns) (by omega) (by omega) (by omega) fun f=>?_
  and_intros
  refine house_ok fun w wh ds f hok=>?_
  have hok0:=hok
  obtain⟨a1,a2,a3,a4,a5,a6,_⟩:=hok0
  ac_nf
  and_intros
  refine sizes_ok (w:=w) (wh:=wh) (ds:=ds) ⟨a1,a2⟩ ⟨a5,a6⟩ fun sz f hsz=>?_
  ac_nf
  and_intros
  refine zwc (by rw [List.length_map,sizeLine_eq];omega) ?_
  ac_nf
  and_intros
  refine⟨hs++[(w,wh,ds,sz)],?_,by simp [hl],zpa hh ⟨hok,hsz⟩⟩
  rw [List.map_append]
  try bv_omega
 and_intros
 refine w_forIs (fun _:Unit=>[some ⟨.vw none none,.li (ns.map .int)⟩,some ⟨.ow,.li (hs.map tAsk)⟩,none,none,none,none,none,none,none]) (fun _ _=>True) ?_
 and_intros
 rw [cut_takeI (by omega),← List.map_take]
 refine p_addL (is:=hs.map tAsk) (js:=(hs.take (1:Int).toNat).map tAsk) (by simp;rw [sizeLine_eq];omega) ?_
 rw [← List.map_append]
 refine⟨(hs++hs.take (1:Int).toNat).map tAsk,rfl,by bv_omega,(),by bv_omega,trivial,fun j x' _ hx' _=>?_,fun _ _=>?_⟩
 ·rw [List.getElem?_map] at hx'
  cases e:(hs++hs.take (1:Int).toNat)[j]? with
  | none=>rw [e] at hx';cases hx'
  | some h=>
   rw [e] at hx';cases hx'
   have hm:h∈hs:=(List.mem_append.mp (List.mem_of_getElem? e)).elim id fun z=>List.mem_of_mem_take z
   obtain⟨w,wh,ds,sz⟩:=h
   obtain⟨hok,hsz⟩:=hh _ hm
   dsimp only at hok hsz
   obtain⟨a1,a2,a3,a4,a5,a6,_⟩:=hok
   rw [tAsk]
   and_intros
   refine due_ok (wh:=wh) ⟨a1,a2⟩ ⟨a5,a6⟩ hsz ?_
   ac_nf
   and_intros
   have hp:prd sz<=300:=Nat.le_trans (Nat.le_mul_of_pos_right _ a5) hsz.prod
   have hpl:(plc sz).length<=300:=Nat.le_trans (plc_len _) hp
   have hcl:(znc (ds.map (·.1)) (plc sz)).length<=1800:=by
    rw [zme,List.length_map]
    exact Nat.mul_le_mul hpl a6
   have hcw:∀ c∈znc (ds.map (·.1)) (plc sz),c.2.length<=1000:=fun c hc=>by
    obtain⟨p,hp,hc⟩:=List.mem_flatMap.mp hc
    obtain⟨z,_,rfl⟩:=List.mem_map.mp hc
    have h1:=plc_w sz [[]] 0 (by simp) p hp
    have h2:=hsz.len
    show p.length<=1000
    omega
   generalize hcs:(znc (ds.map (·.1)) (plc sz))=cs at hcl hcw
   refine zic (fun _:Unit=>[some ⟨.vw none none,.li (ns.map .int)⟩,some ⟨.ow,.li (hs.map tAsk)⟩,none,none,some ⟨.ow,.im (zfb w wh ds)⟩,some ⟨.ow,.im (.tup (sz.map .int))⟩,some ⟨.ow,.li (cs.map tCell)⟩,none,none]) (fun _ _=>True) ?_
   and_intros
   refine⟨⟨by omega,by omega⟩,(),by bv_omega,trivial,fun k _ hk _=>?_,fun _ _=>?_⟩
   ·and_intros
    refine box_ok (wh:=wh) ⟨a1,a2⟩ ⟨a5,a6⟩ hsz ?_
    rw [hcs]
    ac_nf
    and_intros
    refine w_if ?_
    and_intros
    refine alike_li (n:=23) (by have:=cells_deps (l:=cs);omega) (cells_fits hcw) (by rw [List.length_map];omega) ?_
    (repeat first | infer_instance | refine spT ?_ | refine spF ?_ | refine w_if ?_)
    refine zwc (by rw [List.length_map,sizeLine_eq];omega) ?_
    ac_nf
    and_intros
    exact⟨(),by bv_omega,trivial⟩
   ·and_intros
    exact⟨(),by bv_omega,trivial⟩
 ·and_intros
  rfl
end L2
namespace K10
open PySem PySem.Spec PyProof.Rows L2
noncomputable def top (i:Nat):Stmt:=PySem.Challenge.pw_clockhouse_k10_boxes.main.body.getD i (.Pass ⟨0,0,0,0⟩)
noncomputable abbrev s_box:Stmt:=top 1
noncomputable abbrev s__law_feed:Stmt:=top 3
noncomputable abbrev s__law_take:Stmt:=top 4
noncomputable abbrev zie:Stmt:=top 5
noncomputable abbrev s__law_row:Stmt:=top 6
noncomputable abbrev zsc:Stmt:=top 7
noncomputable abbrev zyb:Stmt:=top 8
noncomputable abbrev zzb:Stmt:=top 9
noncomputable abbrev zbc:Stmt:=top 10
noncomputable abbrev zhb:Stmt:=top 11
noncomputable abbrev zac:Stmt:=top 12
noncomputable abbrev zje:Stmt:=top 13
noncomputable abbrev zge:Stmt:=top 14
noncomputable abbrev zhe:Stmt:=top 15
noncomputable abbrev zfe:Stmt:=top 16
noncomputable abbrev zke:Stmt:=top 17
noncomputable abbrev s__law_due:Stmt:=top 18
noncomputable abbrev s_law:Stmt:=top 19
structure GT (K:PySem.W.Frag)(mg:Str->Option Value):Prop where
 triv:True
end K10
namespace K10
open PySem PySem.Spec PyProof.Rows L2
structure Adr (mg:Str->Option Value)(K:PySem.W.Frag):Prop where
 d_l_feed:Def0 K mg "_law_feed" s__law_feed ["_law_script","_law_k"]
 d_l_take:Def0 K mg "_law_take" s__law_take ["_law_feed_here","_law_many"]
 d_l_turned_row:Def0 K mg "_law_turned_row" zbc ["_law_row_here","_law_way","_law_signs"]
 d_l_row:Def0 K mg "_law_row" s__law_row ["_law_feed_here","_law_ways"]
 d_l_opposed_reads:Def0 K mg "_law_opposed_reads" zhb ["_law_feed_here","_law_ways","_law_many"]
 d_l_free_reads:Def0 K mg "_law_free_reads" zyb ["_law_feed_here","_law_ways","_law_many"]
 d_l_back_row:Def0 K mg "_law_back_row" zsc ["_law_feed_here","_law_ways"]
 d_l_late_reads:Def0 K mg "_law_late_reads" zzb ["_law_feed_here","_law_ways","_law_many"]
 d_l_ring_reads:Def0 K mg "_law_ring_reads" zac ["_law_feed_here","_law_ways","_law_many"]
 d_l_reads:Def0 K mg "_law_reads" zje ["_law_feed_here"]
 d_l_names:Def0 K mg "_law_names" zie ["_law_feed_here","_law_many"]
 d_l_grown:Def0 K mg "_law_grown" zge ["_law_feed_here","_law_leaves"]
 d_l_house:Def0 K mg "_law_house" zhe ["_law_feed_here"]
 d_l_due:Def0 K mg "_law_due" s__law_due ["_law_house_here","_law_sizes_here"]
 d_p_box:Def0 K mg "box" s_box ["house","sizes"]
 d_l_sizes:Def0 K mg "_law_sizes" zke ["_law_feed_here","_law_house_here"]
 d_l_alike:Def0 K mg "_law_alike" zfe ["_law_found","_law_due_here"]
 d_l_law:Def0 K mg "law" s_law ["_law_script"]
 T:Bi mg
 G:GT K mg
theorem adr_less (mg:Str->Option Value)(K:PySem.W.Frag)(a:Addr)(A:Adr mg K)(l:LsAt K a):Adr mg (less K a):=
 ⟨A.d_l_feed.less l,A.d_l_take.less l,A.d_l_turned_row.less l,A.d_l_row.less l,A.d_l_opposed_reads.less l,A.d_l_free_reads.less l,A.d_l_back_row.less l,A.d_l_late_reads.less l,A.d_l_ring_reads.less l,A.d_l_reads.less l,A.d_l_names.less l,A.d_l_grown.less l,A.d_l_house.less l,A.d_l_due.less l,A.d_p_box.less l,A.d_l_sizes.less l,A.d_l_alike.less l,A.d_l_law.less l,A.T,⟨trivial⟩⟩
noncomputable def KF (P:Params):PySem.W.Frag:=[(3,oD [(eO P "__name__" 165 (vs "law_clockhouse_k10_boxes" 195)),(eO P "__doc__" 166 .none),(eO P "__package__" 167 .none),(eO P "__loader__" 168 (Value.builtin "__main__.__loader__#opaque")),(eO P "__spec__" 169 .none),(eO P "__annotations__" 170 (vr 6)),(eO P "__builtins__" 171 (vr 4)),(eO P "__file__" 173 (vs "/claim/cut.py" 172)),(eO P "__cached__" 174 .none),(eO P "box" 194 (vr 19)),(eO P "_law_feed" 206 (vr 26)),(eO P "_law_take" 216 (vr 33)),(eO P "_law_names" 222 (vr 38)),(eO P "_law_row" 228 (vr 43)),(eO P "_law_back_row" 234 (vr 48)),(eO P "_law_free_reads" 240 (vr 53)),(eO P "_law_late_reads" 246 (vr 58)),(eO P "_law_turned_row" 257 (vr 65)),(eO P "_law_opposed_reads" 263 (vr 70)),(eO P "_law_ring_reads" 269 (vr 75)),(eO P "_law_reads" 280 (vr 82)),(eO P "_law_grown" 291 (vr 89)),(eO P "_law_house" 297 (vr 94)),(eO P "_law_alike" 303 (vr 99)),(eO P "_law_sizes" 317 (vr 106)),(eO P "_law_due" 323 (vr 111)),(eO P "law" 338 (vr 118))] 27),
 (26,oF "_law_feed" s__law_feed (vs "law_clockhouse_k10_boxes" 195) 25),
 (25,oC [(vs "_law_feed" 197),(vs "_law_feed" 198),(vs "/claim/cut.py" 199),(vi 10),(vi 2),(vi 0),(vi 0),(vi 3),(vr 20),(.bool true),(vi 181),(vr 21),.none,(vr 22),(vr 23),(vr 24),(vi 204),(vi 10),(vs "/claim/cut.py" 205)]),
 (33,oF "_law_take" s__law_take (vs "law_clockhouse_k10_boxes" 195) 32),
 (32,oC [(vs "_law_take" 207),(vs "_law_take" 208),(vs "/claim/cut.py" 209),(vi 20),(vi 2),(vi 0),(vi 0),(vi 3),(vr 27),(.bool true),(vi 181),(vr 28),.none,(vr 29),(vr 30),(vr 31),(vi 214),(vi 20),(vs "/claim/cut.py" 215)]),
 (65,oF "_law_turned_row" zbc (vs "law_clockhouse_k10_boxes" 195) 64),
 (64,oC [(vs "_law_turned_row" 247),(vs "_law_turned_row" 248),(vs "/claim/cut.py" 249),(vi 64),(vi 3),(vi 0),(vi 0),(vi 3),(vr 59),(.bool true),(vi 181),(vr 60),.none,(vr 61),(vr 62),(vr 63),(vi 255),(vi 64),(vs "/claim/cut.py" 256)]),
 (43,oF "_law_row" s__law_row (vs "law_clockhouse_k10_boxes" 195) 42),
 (42,oC [(vs "_law_row" 223),(vs "_law_row" 224),(vs "/claim/cut.py" 225),(vi 41),(vi 2),(vi 0),(vi 0),(vi 3),(vr 39),(.bool true),(vi 181),(vr 40),.none,.none,.none,(vr 41),(vi 226),(vi 41),(vs "/claim/cut.py" 227)]),
 (70,oF "_law_opposed_reads" zhb (vs "law_clockhouse_k10_boxes" 195) 69),
 (69,oC [(vs "_law_opposed_reads" 258),(vs "_law_opposed_reads" 259),(vs "/claim/cut.py" 260),(vi 69),(vi 3),(vi 0),(vi 0),(vi 3),(vr 66),(.bool true),(vi 181),(vr 67),.none,.none,.none,(vr 68),(vi 261),(vi 69),(vs "/claim/cut.py" 262)]),
 (53,oF "_law_free_reads" zyb (vs "law_clockhouse_k10_boxes" 195) 52),
 (52,oC [(vs "_law_free_reads" 235),(vs "_law_free_reads" 236),(vs "/claim/cut.py" 237),(vi 49),(vi 3),(vi 0),(vi 0),(vi 3),(vr 49),(.bool true),(vi 181),(vr 50),.none,.none,.none,(vr 51),(vi 238),(vi 49),(vs "/claim/cut.py" 239)]),
 (48,oF "_law_back_row" zsc (vs "law_clockhouse_k10_boxes" 195) 47),
 (47,oC [(vs "_law_back_row" 229),(vs "_law_back_row" 230),(vs "/claim/cut.py" 231),(vi 45),(vi 2),(vi 0),(vi 0),(vi 3),(vr 44),(.bool true),(vi 181),(vr 45),.none,.none,.none,(vr 46),(vi 232),(vi 45),(vs "/claim/cut.py" 233)]),
 (58,oF "_law_late_reads" zzb (vs "law_clockhouse_k10_boxes" 195) 57),
 (57,oC [(vs "_law_late_reads" 241),(vs "_law_late_reads" 242),(vs "/claim/cut.py" 243),(vi 55),(vi 3),(vi 0),(vi 0),(vi 3),(vr 54),(.bool true),(vi 181),(vr 55),.none,.none,.none,(vr 56),(vi 244),(vi 55),(vs "/claim/cut.py" 245)]),
 (75,oF "_law_ring_reads" zac (vs "law_clockhouse_k10_boxes" 195) 74),
 (74,oC [(vs "_law_ring_reads" 264),(vs "_law_ring_reads" 265),(vs "/claim/cut.py" 266),(vi 83),(vi 3),(vi 0),(vi 0),(vi 3),(vr 71),(.bool true),(vi 181),(vr 72),.none,.none,.none,(vr 73),(vi 267),(vi 83),(vs "/claim/cut.py" 268)]),
 (82,oF "_law_reads" zje (vs "law_clockhouse_k10_boxes" 195) 81),
 (81,oC [(vs "_law_reads" 270),(vs "_law_reads" 271),(vs "/claim/cut.py" 272),(vi 95),(vi 1),(vi 0),(vi 0),(vi 3),(vr 76),(.bool true),(vi 181),(vr 77),.none,(vr 78),(vr 79),(vr 80),(vi 278),(vi 95),(vs "/claim/cut.py" 279)]),
 (38,oF "_law_names" zie (vs "law_clockhouse_k10_boxes" 195) 37),
 (37,oC [(vs "_law_names" 217),(vs "_law_names" 218),(vs "/claim/cut.py" 219),(vi 28),(vi 2),(vi 0),(vi 0),(vi 3),(vr 34),(.bool true),(vi 181),(vr 35),.none,.none,.none,(vr 36),(vi 220),(vi 28),(vs "/claim/cut.py" 221)]),
 (89,oF "_law_grown" zge (vs "law_clockhouse_k10_boxes" 195) 88),
 (88,oC [(vs "_law_grown" 281),(vs "_law_grown" 282),(vs "/claim/cut.py" 283),(vi 107),(vi 2),(vi 0),(vi 0),(vi 3),(vr 83),(.bool true),(vi 181),(vr 84),.none,(vr 85),(vr 86),(vr 87),(vi 289),(vi 107),(vs "/claim/cut.py" 290)]),
 (94,oF "_law_house" zhe (vs "law_clockhouse_k10_boxes" 195) 93),
 (93,oC [(vs "_law_house" 292),(vs "_law_house" 293),(vs "/claim/cut.py" 294),(vi 118),(vi 1),(vi 0),(vi 0),(vi 3),(vr 90),(.bool true),(vi 181),(vr 91),.none,.none,.none,(vr 92),(vi 295),(vi 118),(vs "/claim/cut.py" 296)]),
 (111,oF "_law_due" s__law_due (vs "law_clockhouse_k10_boxes" 195) 110),
 (110,oC [(vs "_law_due" 318),(vs "_law_due" 319),(vs "/claim/cut.py" 320),(vi 149),(vi 2),(vi 0),(vi 0),(vi 3),(vr 107),(.bool true),(vi 181),(vr 108),.none,.none,.none,(vr 109),(vi 321),(vi 149),(vs "/claim/cut.py" 322)]),
 (19,oF "box" s_box (vs "clockhouse.lots" 187) 18),
 (18,oC [(vs "box" 189),(vs "box" 190),(vs "/claim/cut.py" 191),(vi 2),(vi 2),(vi 0),(vi 0),(vi 3),(vr 15),(.bool true),(vi 181),(vr 16),.none,.none,.none,(vr 17),(vi 192),(vi 2),(vs "/claim/cut.py" 193)]),
 (106,oF "_law_sizes" zke (vs "law_clockhouse_k10_boxes" 195) 105),
 (105,oC [(vs "_law_sizes" 304),(vs "_law_sizes" 305),(vs "/claim/cut.py" 306),(vi 138),(vi 2),(vi 0),(vi 0),(vi 3),(vr 100),(.bool true),(vi 181),(vr 101),.none,(vr 102),(vr 103),(vr 104),(vi 315),(vi 138),(vs "/claim/cut.py" 316)]),
 (99,oF "_law_alike" zfe (vs "law_clockhouse_k10_boxes" 195) 98),
 (98,oC [(vs "_law_alike" 298),(vs "_law_alike" 299),(vs "/claim/cut.py" 300),(vi 130),(vi 2),(vi 0),(vi 0),(vi 3),(vr 95),(.bool true),(vi 181),(vr 96),.none,.none,.none,(vr 97),(vi 301),(vi 130),(vs "/claim/cut.py" 302)]),
 (118,oF "law" s_law (vs "law_clockhouse_k10_boxes" 195) 117),
 (117,oC [(vs "law" 324),(vs "law" 325),(vs "/claim/cut.py" 326),(vi 160),(vi 1),(vi 0),(vi 0),(vi 3),(vr 112),(.bool true),(vi 181),(vr 113),.none,(vr 114),(vr 115),(vr 116),(vi 336),(vi 160),(vs "/claim/cut.py" 337)])]
noncomputable def KL:List Str:=["box","_law_feed","_law_take","_law_names","_law_row","_law_back_row","_law_free_reads","_law_late_reads","_law_turned_row","_law_opposed_reads","_law_ring_reads","_law_reads","_law_grown","_law_house","_law_alike","_law_sizes","_law_due"].map Str.ofString
noncomputable def KH:PySem.W.Hook:=PySem.W.kHook KF [3,26,25,33,32,65,64,43,42,70,69,53,52,48,47,58,57,75,74,82,81,38,37,89,88,94,93,111,110,19,18,106,105,99,98,118,117] (fun _=>rfl)
noncomputable def KQ:Program:=PySem.W.view PySem.Challenge.pw_clockhouse_k10_boxes [19]
theorem left:PySem.W.LeftO PySem.Challenge.pw_clockhouse_k10_boxes KQ KL (fun s=>PySem.W.xlAt KQ [] s && PySem.W.recOk [] s) KH.obs KH.val 4000:=fun w=>by kernel_rfl
theorem adr0 (w:World)(mg:Str->Option Value)(h:Heap)(X:(KF w.params).In h)(G:h.Ns mainGlobals mg):Adr mg (KF w.params):=
 ⟨Def0.mkO X G 26 (vs "law_clockhouse_k10_boxes" 195) 25 (by kernel_rfl) (by kernel_rfl) (by kernel_rfl) (fun _ _ _ _ _ _=>by2 fun _ _=>rfl),
   Def0.mkO X G 33 (vs "law_clockhouse_k10_boxes" 195) 32 (by kernel_rfl) (by kernel_rfl) (by kernel_rfl) (fun _ _ _ _ _ _=>by2 fun _ _=>rfl),
   Def0.mkO X G 65 (vs "law_clockhouse_k10_boxes" 195) 64 (by kernel_rfl) (by kernel_rfl) (by kernel_rfl) (fun _ _ _ _ _ _=>by3 fun _ _ _=>rfl),
   Def0.mkO X G 43 (vs "law_clockhouse_k10_boxes" 195) 42 (by kernel_rfl) (by kernel_rfl) (by kernel_rfl) (fun _ _ _ _ _ _=>by2 fun _ _=>rfl),
   Def0.mkO X G 70 (vs "law_clockhouse_k10_boxes" 195) 69 (by kernel_rfl) (by kernel_rfl) (by kernel_rfl) (fun _ _ _ _ _ _=>by3 fun _ _ _=>rfl),
   Def0.mkO X G 53 (vs "law_clockhouse_k10_boxes" 195) 52 (by kernel_rfl) (by kernel_rfl) (by kernel_rfl) (fun _ _ _ _ _ _=>by3 fun _ _ _=>rfl),
   Def0.mkO X G 48 (vs "law_clockhouse_k10_boxes" 195) 47 (by kernel_rfl) (by kernel_rfl) (by kernel_rfl) (fun _ _ _ _ _ _=>by2 fun _ _=>rfl),
   Def0.mkO X G 58 (vs "law_clockhouse_k10_boxes" 195) 57 (by kernel_rfl) (by kernel_rfl) (by kernel_rfl) (fun _ _ _ _ _ _=>by3 fun _ _ _=>rfl),
   Def0.mkO X G 75 (vs "law_clockhouse_k10_boxes" 195) 74 (by kernel_rfl) (by kernel_rfl) (by kernel_rfl) (fun _ _ _ _ _ _=>by3 fun _ _ _=>rfl),
   Def0.mkO X G 82 (vs "law_clockhouse_k10_boxes" 195) 81 (by kernel_rfl) (by kernel_rfl) (by kernel_rfl) (fun _ _ _ _ _ _=>by1 fun _=>rfl),
   Def0.mkO X G 38 (vs "law_clockhouse_k10_boxes" 195) 37 (by kernel_rfl) (by kernel_rfl) (by kernel_rfl) (fun _ _ _ _ _ _=>by2 fun _ _=>rfl),
   Def0.mkO X G 89 (vs "law_clockhouse_k10_boxes" 195) 88 (by kernel_rfl) (by kernel_rfl) (by kernel_rfl) (fun _ _ _ _ _ _=>by2 fun _ _=>rfl),
   Def0.mkO X G 94 (vs "law_clockhouse_k10_boxes" 195) 93 (by kernel_rfl) (by kernel_rfl) (by kernel_rfl) (fun _ _ _ _ _ _=>by1 fun _=>rfl),
   Def0.mkO X G 111 (vs "law_clockhouse_k10_boxes" 195) 110 (by kernel_rfl) (by kernel_rfl) (by kernel_rfl) (fun _ _ _ _ _ _=>by2 fun _ _=>rfl),
   Def0.mkO X G 19 (vs "clockhouse.lots" 187) 18 (by kernel_rfl) (by kernel_rfl) (by kernel_rfl) (fun _ _ _ _ _ _=>by2 fun _ _=>rfl),
   Def0.mkO X G 106 (vs "law_clockhouse_k10_boxes" 195) 105 (by kernel_rfl) (by kernel_rfl) (by kernel_rfl) (fun _ _ _ _ _ _=>by2 fun _ _=>rfl),
   Def0.mkO X G 99 (vs "law_clockhouse_k10_boxes" 195) 98 (by kernel_rfl) (by kernel_rfl) (by kernel_rfl) (fun _ _ _ _ _ _=>by2 fun _ _=>rfl),
   Def0.mkO X G 118 (vs "law_clockhouse_k10_boxes" 195) 117 (by kernel_rfl) (by kernel_rfl) (by kernel_rfl) (fun _ _ _ _ _ _=>by1 fun _=>rfl),
   ⟨PySem.W.mg_none_of X G (by kernel_rfl),PySem.W.mg_none_of X G (by kernel_rfl),PySem.W.mg_none_of X G (by kernel_rfl),PySem.W.mg_none_of X G (by kernel_rfl),PySem.W.mg_none_of X G (by kernel_rfl),PySem.W.mg_none_of X G (by kernel_rfl),PySem.W.mg_none_of X G (by kernel_rfl),PySem.W.mg_none_of X G (by kernel_rfl),PySem.W.mg_none_of X G (by kernel_rfl),PySem.W.mg_none_of X G (by kernel_rfl),PySem.W.mg_none_of X G (by kernel_rfl),PySem.W.mg_none_of X G (by kernel_rfl),PySem.W.mg_none_of X G (by kernel_rfl),PySem.W.mg_none_of X G (by kernel_rfl),PySem.W.mg_none_of X G (by kernel_rfl),PySem.W.mg_none_of X G (by kernel_rfl),PySem.W.mg_none_of X G (by kernel_rfl),PySem.W.mg_none_of X G (by kernel_rfl),PySem.W.mg_none_of X G (by kernel_rfl),PySem.W.mg_none_of X G (by kernel_rfl),PySem.W.mg_none_of X G (by kernel_rfl)⟩,⟨trivial⟩⟩
theorem sc_l_feed:FnScope ["_law_script","_law_k","_law_cell","_law_own"] ["_law_script","_law_k"] (zq s__law_feed):=⟨rfl,rfl,rfl,by decide +kernel,rfl,by decide +kernel,by decide +kernel⟩
theorem sc_l_take:FnScope ["_law_feed_here","_law_many","_law_digit","_law_one"] ["_law_feed_here","_law_many"] (zq s__law_take):=⟨rfl,rfl,rfl,by decide +kernel,rfl,by decide +kernel,by decide +kernel⟩
theorem sc_l_turned_row:FnScope ["_law_row_here","_law_way","_law_signs","_law_found","_law_k"] ["_law_row_here","_law_way","_law_signs"] (zq zbc):=⟨rfl,rfl,rfl,by decide +kernel,rfl,by decide +kernel,by decide +kernel⟩
theorem sc_l_row:FnScope ["_law_feed_here","_law_ways"] ["_law_feed_here","_law_ways"] (zq s__law_row):=⟨rfl,rfl,rfl,by decide +kernel,rfl,by decide +kernel,by decide +kernel⟩
theorem sc_l_opposed_reads:FnScope ["_law_feed_here","_law_ways","_law_many","_law_far","_law_some","_law_way","_law_signs","_law_looks","_law_x","_law_other","_law_row_here"] ["_law_feed_here","_law_ways","_law_many"] (zq zhb):=⟨rfl,rfl,rfl,by decide +kernel,rfl,by decide +kernel,by decide +kernel⟩
theorem sc_l_free_reads:FnScope ["_law_feed_here","_law_ways","_law_many","_law_looks","_law_x","_law_k"] ["_law_feed_here","_law_ways","_law_many"] (zq zyb):=⟨rfl,rfl,rfl,by decide +kernel,rfl,by decide +kernel,by decide +kernel⟩
theorem sc_l_back_row:FnScope ["_law_feed_here","_law_ways","_law_at","_law_more"] ["_law_feed_here","_law_ways"] (zq zsc):=⟨rfl,rfl,rfl,by decide +kernel,rfl,by decide +kernel,by decide +kernel⟩
theorem sc_l_late_reads:FnScope ["_law_feed_here","_law_ways","_law_many","_law_looks","_law_x","_law_k"] ["_law_feed_here","_law_ways","_law_many"] (zq zzb):=⟨rfl,rfl,rfl,by decide +kernel,rfl,by decide +kernel,by decide +kernel⟩
theorem sc_l_ring_reads:FnScope ["_law_feed_here","_law_ways","_law_many","_law_looks","_law_long","_law_rest","_law_k","_law_row_here"] ["_law_feed_here","_law_ways","_law_many"] (zq zac):=⟨rfl,rfl,rfl,by decide +kernel,rfl,by decide +kernel,by decide +kernel⟩
theorem sc_l_reads:FnScope ["_law_feed_here","_law_form","_law_wide","_law_ways","_law_many"] ["_law_feed_here"] (zq zje):=⟨rfl,rfl,rfl,by decide +kernel,rfl,by decide +kernel,by decide +kernel⟩
theorem sc_l_names:FnScope ["_law_feed_here","_law_many","_law_letters","_law_stem","_law_first","_law_at","_law_found","_law_k","_law_name"] ["_law_feed_here","_law_many"] (zq zie):=⟨rfl,rfl,rfl,by decide +kernel,rfl,by decide +kernel,by decide +kernel⟩
theorem sc_l_grown:FnScope ["_law_feed_here","_law_leaves","_law_found","_law_at","_law_sign"] ["_law_feed_here","_law_leaves"] (zq zge):=⟨rfl,rfl,rfl,by decide +kernel,rfl,by decide +kernel,by decide +kernel⟩
theorem sc_l_house:FnScope ["_law_feed_here","_law_ways","_law_looks","_law_wheel","_law_names_here","_law_desks","_law_x","_law_leaves","_law_k","_law_number"] ["_law_feed_here"] (zq zhe):=⟨rfl,rfl,rfl,by decide +kernel,rfl,by decide +kernel,by decide +kernel⟩
theorem sc_l_due:FnScope ["_law_house_here","_law_sizes_here","_law_found","_law_size","_law_longer","_law_place","_law_cells"] ["_law_house_here","_law_sizes_here"] (zq s__law_due):=⟨rfl,rfl,rfl,by decide +kernel,rfl,by decide +kernel,by decide +kernel⟩
theorem sc_p_box:FnScope ["house","sizes","places","size"] ["house","sizes"] (zq s_box):=⟨rfl,rfl,rfl,by decide +kernel,rfl,by decide +kernel,by decide +kernel⟩
theorem sc_l_sizes:FnScope ["_law_feed_here","_law_house_here","_law_left","_law_found","_law_k","_law_form","_law_size","_law_at"] ["_law_feed_here","_law_house_here"] (zq zke):=⟨rfl,rfl,rfl,by decide +kernel,rfl,by decide +kernel,by decide +kernel⟩
theorem sc_l_alike:FnScope ["_law_found","_law_due_here"] ["_law_found","_law_due_here"] (zq zfe):=⟨rfl,rfl,rfl,by decide +kernel,rfl,by decide +kernel,by decide +kernel⟩
theorem sc_l_law:FnScope ["_law_script","_law_asked","_law_k","_law_feed_here","_law_house_here","_law_sizes_here","_law_due_here","_law_turn","_law_found"] ["_law_script"] (zq s_law):=⟨rfl,rfl,rfl,by decide +kernel,rfl,by decide +kernel,by decide +kernel⟩
section
variable  {P:Program}{W:World}{K:PySem.W.Frag}{mg:Str->Option Value}{base:Heap}(A:Adr mg K)
include A
theorem has_l_feed:Has P W K mg base 1 "_law_feed" ["_law_script","_law_k"] (spP K r_l_feed):=
 Def.qp A.d_l_feed.to sc_l_feed (m:=m_l_feed) (zi (zw 2 (fun _=>sc_l_feed.nd) (zna za (q_mul za zg (zk 1)) zg))
  (zi (zvd (zeb za c_lt (zk 1) (ztb za b_len A.T.b_len (zc 0 zd)) (nomark _)) (zv (zw 2 (fun _=>sc_l_feed.nd) (q_ix za (zk 0) (zk 1)))) (zv (zvd (zeb za c_gt (ztb za b_len A.T.b_len (zc 0 zd)) zg (nomark _)) (zv (zw 2 (fun _=>sc_l_feed.nd) (zna za (q_mul za (q_mod za (q_ix za (zk 0) (q_mod za (zk 1) (ztb za b_len A.T.b_len (zc 0 zd)))) zg) zg) (q_mul za zg (zk 1))))) zjc)))
  (zi (zw 3 (fun _=>sc_l_feed.nd) zg)
  (zi (zvd (zeb za c_ge (zk 2) (q_pow za zg zg) (nomark _)) (zv (zw 3 (fun _=>sc_l_feed.nd) (zk 2))) zjc)
  (zv (zoa (zmb [3] (zc 3 (zb (zna za (q_mod za (q_pow za (zna za (q_mul za (q_mod za (zk 2) zg) zg) (q_mul za zg (zk 1))) zg) zg) zg) zd))))))))) (fun _=>rfl)
theorem zj:Has P W K mg base 1 "_law_take" ["_law_feed_here","_law_many"] (spI K 0 zp):=
 Def.qi A.d_l_take.to sc_l_take (m:=m_l_take) (zi (zvd (zeb za c_gt (q_ix za (zk 0) zg) zg (nomark _)) (zi (zw 2 (fun _=>sc_l_take.nd) (q_mod za (q_ix za (zk 0) zg) (zk 1)))
  (zi (qs_asg (q_fdiv za (q_ix za (zk 0) zg) (zk 1)) (qg_sub 0 (zk 0) zg))
  (zv (zoa (zk 2))))) zjc)
  (zi (zw 3 (fun _=>sc_l_take.nd) (q_mod za (q_mul za (q_ix za (zk 0) zg) zg) zg))
  (zi (qs_asg (zna za (q_mod za (zna za (q_mul za (zk 3) zg) zg) zg) zg) (qg_sub 0 (zk 0) zg))
  (zv (zoa (q_mod za (q_fdiv za (zna za (q_mul za (zk 3) zg) (q_ix za (zk 0) zg)) zg) (zk 1))))))) (fun _=>rfl)
theorem has_l_turned_row:Has P W K mg base 1 "_law_turned_row" ["_law_row_here","_law_way","_law_signs"] (spP K zec):=
 Def.qp A.d_l_turned_row.to sc_l_turned_row (m:=zcd) (zi (zw 3 (fun _=>sc_l_turned_row.nd) (zmb [] zd))
  (zi (zub za (fun _=>PassesOwn.never) (zz za A.T (zb (ztb za b_len A.T.b_len (zc 0 zd)) zd)) (zt 4 (fun _=>sc_l_turned_row.nd)) (zra [4] (zv (zgb (zse 3 [] za zjb (zk 3) (zb (q_mul za (q_ix za (zk 0) (q_mod za (zna za (zk 4) (zk 1)) (ztb za b_len A.T.b_len (zc 0 zd)))) (q_ix za (zk 2) (zk 4))) zd))))))
  (zv (zoa (q_ty za b_tuple A.T.b_tuple (zc 3 zd)))))) (fun _=>rfl)
theorem has_l_row:Has P W K mg base 2 "_law_row" ["_law_feed_here","_law_ways"] (spI K 0 r_l_row):=
 Def.qi A.d_l_row.to sc_l_row (m:=m_l_row) (zi (zvd (zeb za c_eq (zea 0 za (zj A) (zc 0 (zb zg zd))) zg (nomark _)) (zv (zoa (q_mul za (zja [] (zb zg zd)) (zk 1)))) zjc)
  (zv (zoa (q_ty za b_tuple A.T.b_tuple (zb (zue (N':=["_law_feed_here","_law_ways","_law_k"]) (f:=[some 0,none,none]) za (fun _=>Blk.of (by kernel_rfl)) (zz za A.T (zc 1 zd)) (zt 2 (fun _=>zpc (by kernel_rfl))) zab (q_ix (CK.blk za) (zmb [] (zb zg (zb zg (zb (zuc (CK.blk za) zg zg) (zb zg (zb (zuc (CK.blk za) zg zg) zd)))))) (zea 0 (CK.blk za) (zj A) (zc 0 (zb zg zd))))) zd))))) (fun _=>rfl)
theorem has_l_opposed_reads:Has P W K mg base 3 "_law_opposed_reads" ["_law_feed_here","_law_ways","_law_many"] (spI K 0 zwb):=
 Def.qi A.d_l_opposed_reads.to sc_l_opposed_reads (m:=zvb) (zi (zw 3 (fun _=>sc_l_opposed_reads.nd) (zna za zg (zea 0 za (zj A) (zc 0 (zb zg zd)))))
  (zi (zw 4 (fun _=>sc_l_opposed_reads.nd) (zmb [] (zb (zja [] (zb zg (zb zg (zb (zja [3] (zb zg (zc 3 zd))) zd)))) (zb (zja [] (zb zg (zb zg (zb (zja [] (zb zg (zb (zuc za (zuc za zg zg) (zea 0 za (zj A) (zc 0 (zb zg zd)))) zd))) zd)))) (zb (zja [] (zb zg (zb zg (zb (zja [] (zb (zuc za zg zg) (zb (zuc za (zea 0 za (zj A) (zc 0 (zb zg zd))) zg) zd))) zd)))) zd)))))
  (zi (zgb (zse 4 [] za zjb (zk 4) (zb (zja [] (zb zg (zb zg (zb (zja [] (zb (zuc za zg (zea 0 za (zj A) (zc 0 (zb zg zd)))) (zb zg zd))) zd)))) zd)))
  (zi (zvd (zeb za c_eq (zk 1) zg (nomark _)) (zi (zw 4 (fun _=>sc_l_opposed_reads.nd) (zmb [] (zb (zja [] (zb zg (zb zg (zb (zja [3] (zb zg (zb zg (zc 3 zd)))) zd)))) (zb (zja [] (zb zg (zb zg (zb (zja [] (zb zg (zb zg (zb (zuc za zg zg) zd)))) zd)))) (zb (zja [] (zb zg (zb zg (zb (zja [] (zb zg (zb (zuc za zg zg) (zb zg zd)))) zd)))) (zb (zja [] (zb zg (zb zg (zb (zja [] (zb zg (zb zg (zb (zea 0 za (zj A) (zc 0 (zb zg zd))) zd)))) zd)))) zd))))))
  (zv (zw 4 (fun _=>sc_l_opposed_reads.nd) (zna za (zk 4) (zmb [] (zb (zja [] (zb zg (zb zg (zb (zja [] (zb zg (zb (zna za zg (zea 0 za (zj A) (zc 0 (zb zg zd)))) (zb zg zd)))) zd)))) (zb (zja [] (zb zg (zb zg (zb (zja [] (zb (zuc za zg zg) (zb zg (zb zg zd)))) zd)))) (zb (zja [] (zb zg (zb zg (zb (zja [] (zb zg (zb zg (zb zg zd)))) zd)))) zd)))))))) zjc)
  (zi (qs_par 5 6 za (fun _=>sc_l_opposed_reads.nd) (zb (zea 0 za (zj A) (zc 0 (zc 1 zd))) (zb (zue (N':=["_law_feed_here","_law_ways","_law_many","_law_far","_law_some","_law_way","_law_signs","_law_looks","_law_x","_law_other","_law_row_here","_law_k"]) (f:=[some 0,none,none,none,none,none,none,none,none,none,none,none]) za (fun _=>Blk.of (by kernel_rfl)) (zz za A.T (zc 1 zd)) (zt 11 (fun _=>zpc (by kernel_rfl))) zab (zuc (CK.blk za) zg (q_mul (CK.blk za) zg (zea 0 (CK.blk za) (zj A) (zc 0 (zb zg zd)))))) zd)))
  (zi (zjd 7 (N':=["_law_feed_here","_law_ways","_law_many","_law_far","_law_some","_law_way","_law_signs","_law_looks","_law_x","_law_other","_law_row_here"]) (f:=[none,none,none,none,none,none,none,none,none,none,none]) za (fun _=>sc_l_opposed_reads.nd) (fun _=>Blk.of (by kernel_rfl)) (zz za A.T (zc 2 zd)) (zt 8 (fun _=>zpc (by kernel_rfl))) zab (zmb [] zd))
  (zi (zub za (fun _=>PassesOwn.never) (zxd za (zk 4)) (qg_tup za (zva (zt 8 (fun _=>sc_l_opposed_reads.nd)) (zva (zt 9 (fun _=>sc_l_opposed_reads.nd)) (zva (zt 10 (fun _=>sc_l_opposed_reads.nd)) qgs_nil)))) (zra [8,9,10] (zv (zgb (zse 7 [] za zjb (q_ix za (zk 7) (zk 8)) (zb (zja [9] (zc 9 (zb (q_fnP za (has_l_turned_row A) (zc 10 (zc 5 (zc 6 zd)))) zd))) zd))))))
  (zi (zub za (fun _=>PassesOwn.never) (qi_range2 za A.T (zb zg (zc 2 zd))) (zt 8 (fun _=>sc_l_opposed_reads.nd)) (zra [8] (zv (zgb (zse 7 [] za zjb (q_ix za (zk 7) (zk 8)) (zb (zja [] (zb (zea 0 za (zj A) (zc 0 (zc 8 zd))) (zb (zea 0 za (has_l_row A) (zc 0 (zc 1 zd))) zd))) zd))))))
  (zv (zoa (zk 7))))))))))) (fun _=>rfl)
theorem has_l_free_reads:Has P W K mg base 3 "_law_free_reads" ["_law_feed_here","_law_ways","_law_many"] (spI K 0 zed):=
 Def.qi A.d_l_free_reads.to sc_l_free_reads (m:=zzc) (zi (zjd 3 (N':=["_law_feed_here","_law_ways","_law_many","_law_looks","_law_x","_law_k"]) (f:=[none,none,none,none,none,none]) za (fun _=>sc_l_free_reads.nd) (fun _=>Blk.of (by kernel_rfl)) (zz za A.T (zc 2 zd)) (zt 4 (fun _=>zpc (by kernel_rfl))) zab (zmb [] zd))
  (zi (zub za (fun _=>PassesOwn.never) (zz za A.T (zc 2 zd)) (zt 4 (fun _=>sc_l_free_reads.nd)) (zra [4,5] (zv (zub za (fun _=>PassesOwn.never) (zz za A.T (zb (zea 0 za (zj A) (zc 0 (zb zg zd))) zd)) (zt 5 (fun _=>sc_l_free_reads.nd)) (zra [5] (zv (zgb (zse 3 [] za zjb (q_ix za (zk 3) (zk 4)) (zb (zja [] (zb (zea 0 za (zj A) (zc 0 (zc 2 zd))) (zb (zea 0 za (has_l_row A) (zc 0 (zc 1 zd))) zd))) zd)))))))))
  (zv (zoa (zk 3))))) (fun _=>rfl)
theorem has_l_back_row:Has P W K mg base 2 "_law_back_row" ["_law_feed_here","_law_ways"] (spI K 0 zyc):=
 Def.qi A.d_l_back_row.to sc_l_back_row (m:=zbe) (zi (zw 2 (fun _=>sc_l_back_row.nd) (zea 0 za (zj A) (zc 0 (zc 1 zd))))
  (zi (zjd 3 (N':=["_law_feed_here","_law_ways","_law_at","_law_more","_law_k"]) (f:=[some 0,none,none,none,none]) za (fun _=>sc_l_back_row.nd) (fun _=>Blk.of (by kernel_rfl)) (qi_range2 za A.T (zb (zna za (zk 2) zg) (zc 1 zd))) (zt 4 (fun _=>zpc (by kernel_rfl))) zab (q_ix (CK.blk za) (zmb [] (zb zg (zb zg (zb (zuc (CK.blk za) zg zg) (zb zg (zb (zuc (CK.blk za) zg zg) zd)))))) (zea 0 (CK.blk za) (zj A) (zc 0 (zb zg zd)))))
  (zv (zoa (q_ty za b_tuple A.T.b_tuple (zb (zna za (zna za (q_mul za (zmb [] (zb zg zd)) (zk 2)) (zmb [] (zb (zuc za (zuc za zg zg) (zea 0 za (zj A) (zc 0 (zb zg zd)))) zd))) (zk 3)) zd)))))) (fun _=>rfl)
theorem has_l_late_reads:Has P W K mg base 3 "_law_late_reads" ["_law_feed_here","_law_ways","_law_many"] (spI K 0 zdc):=
 Def.qi A.d_l_late_reads.to sc_l_late_reads (m:=zad) (zi (zjd 3 (N':=["_law_feed_here","_law_ways","_law_many","_law_looks","_law_x","_law_k"]) (f:=[none,none,none,none,none,none]) za (fun _=>sc_l_late_reads.nd) (fun _=>Blk.of (by kernel_rfl)) (zz za A.T (zc 2 zd)) (zt 4 (fun _=>zpc (by kernel_rfl))) zab (zmb [] zd))
  (zi (zub za (fun _=>PassesOwn.never) (zz za A.T (zc 2 zd)) (zt 4 (fun _=>sc_l_late_reads.nd)) (zra [4,5] (zv (zub za (fun _=>PassesOwn.never) (zz za A.T (zb (zna za zg (zea 0 za (zj A) (zc 0 (zb zg zd)))) zd)) (zt 5 (fun _=>sc_l_late_reads.nd)) (zra [5] (zv (zvd (QW.t (qw_and (zeb za c_gt (zk 4) zg (nomark _)) (qw_and1 (zeb za c_eq (zea 0 za (zj A) (zc 0 (zb zg zd))) zg (nomark _))))) (zv (zgb (zse 3 [] za zjb (q_ix za (zk 3) (zk 4)) (zb (zja [] (zb (zea 0 za (zj A) (zc 0 (zc 4 zd))) (zb (q_mul za (zja [] (zb zg zd)) (zk 1)) zd))) zd)))) (zv (zgb (zse 3 [] za zjb (q_ix za (zk 3) (zk 4)) (zb (zja [] (zb (zea 0 za (zj A) (zc 0 (zc 2 zd))) (zb (zea 0 za (has_l_back_row A) (zc 0 (zc 1 zd))) zd))) zd)))))))))))
  (zv (zoa (zk 3))))) (fun _=>rfl)
theorem has_l_ring_reads:Has P W K mg base 4 "_law_ring_reads" ["_law_feed_here","_law_ways","_law_many"] (spI K 0 zfd):=
 Def.qi A.d_l_ring_reads.to sc_l_ring_reads (m:=zbd) (zi (zw 3 (fun _=>sc_l_ring_reads.nd) (zea 0 za (has_l_late_reads A) (zc 0 (zc 1 (zc 2 zd)))))
  (zi (zw 4 (fun _=>sc_l_ring_reads.nd) (zna za zg (zea 0 za (zj A) (zc 0 (zc 2 zd)))))
  (zi (zw 5 (fun _=>sc_l_ring_reads.nd) (q_mul za (zmb [] (zb zg zd)) (zk 1)))
  (zi (zub za (fun _=>PassesOwn.never) (zz za A.T (zc 4 zd)) (zt 6 (fun _=>sc_l_ring_reads.nd)) (zra [6,7] (zi (zw 7 (fun _=>sc_l_ring_reads.nd) (zue (N':=["_law_feed_here","_law_ways","_law_many","_law_looks","_law_long","_law_rest","_law_k","_law_row_here","_law_j"]) (f:=[some 0,none,none,none,none,none,none,none,none]) za (fun _=>Blk.of (by kernel_rfl)) (zz za A.T (zc 1 zd)) (zt 8 (fun _=>zpc (by kernel_rfl))) zab (zuc (CK.blk za) (zea 0 (CK.blk za) (zj A) (zc 0 (zb zg zd))) zg)))
  (zi (zw 7 (fun _=>sc_l_ring_reads.nd) (zue (N':=["_law_feed_here","_law_ways","_law_many","_law_looks","_law_long","_law_rest","_law_k","_law_row_here","_law_j"]) (f:=[none,none,none,none,none,some 5,none,some 7,none]) za (fun _=>Blk.of (by kernel_rfl)) (zz za A.T (zc 1 zd)) (zt 8 (fun _=>zpc (by kernel_rfl))) zab (zuc (CK.blk za) (ztb (CK.blk za) b_max A.T.b_max (zb (zuc (CK.blk za) zg zg) (zb (ztb (CK.blk za) b_min A.T.b_min (zb zg (zb (zna (CK.blk za) (q_ix (CK.blk za) (zk 5) (zk 8)) (q_ix (CK.blk za) (zk 7) (zk 8))) zd))) zd))) (q_ix (CK.blk za) (zk 5) (zk 8)))))
  (zi (zvd (zeb za c_eq (zna za (zk 6) zg) (zk 4) (nomark _)) (zv (zw 7 (fun _=>sc_l_ring_reads.nd) (zue (N':=["_law_feed_here","_law_ways","_law_many","_law_looks","_law_long","_law_rest","_law_k","_law_row_here","_law_number"]) (f:=[none,none,none,none,none,none,none,none,none]) za (fun _=>Blk.of (by kernel_rfl)) (zxd za (zk 5)) (zt 8 (fun _=>zpc (by kernel_rfl))) zab (zuc (CK.blk za) zg (zk 8))))) zjc)
  (zi (zw 5 (fun _=>sc_l_ring_reads.nd) (zue (N':=["_law_feed_here","_law_ways","_law_many","_law_looks","_law_long","_law_rest","_law_k","_law_row_here","_law_j"]) (f:=[none,none,none,none,none,some 5,none,some 7,none]) za (fun _=>Blk.of (by kernel_rfl)) (zz za A.T (zc 1 zd)) (zt 8 (fun _=>zpc (by kernel_rfl))) zab (zna (CK.blk za) (q_ix (CK.blk za) (zk 5) (zk 8)) (q_ix (CK.blk za) (zk 7) (zk 8)))))
  (zv (zgb (zse 3 [] za m_insert (q_ix za (zk 3) (zk 6)) (zb zg (zb (zja [] (zb (q_mod za (zna za (zk 6) zg) (zk 4)) (zb (q_ty za b_tuple A.T.b_tuple (zc 7 zd)) zd))) zd)))))))))))
  (zv (zoa (zk 3))))))) (fun _=>rfl)
theorem has_l_reads:Has P W K mg base 5 "_law_reads" ["_law_feed_here"] (spI K 0 r_l_reads):=
 Def.qi A.d_l_reads.to sc_l_reads (m:=m_l_reads) (zi (qs_par 1 2 za (fun _=>sc_l_reads.nd) (zb (zea 0 za (zj A) (zc 0 (zb zg zd))) (zb (zea 0 za (zj A) (zc 0 (zb zg zd))) zd)))
  (zi (zw 3 (fun _=>sc_l_reads.nd) (q_ix za (zmb [] (zb zg (zb zg (zb zg (zb zg (zb zg (zb zg (zb zg (zb zg zd))))))))) (q_mod za (zk 2) zg)))
  (zi (zw 4 (fun _=>sc_l_reads.nd) (zna za zg (zea 0 za (zj A) (zc 0 (zb (q_ix za (zmb [] (zb zg (zb zg zd))) (q_fdiv za (zk 2) zg)) zd)))))
  (zi (zvd (zeb za c_lt (zk 1) zg (nomark _)) (zv (zoa (zja [3] (zc 3 (zb (zea 0 za (has_l_free_reads A) (zc 0 (zc 3 (zc 4 zd)))) zd))))) zjc)
  (zi (zvd (zeb za c_lt (zk 1) zg (nomark _)) (zv (zoa (zja [3] (zc 3 (zb (zea 0 za (has_l_late_reads A) (zc 0 (zc 3 (zc 4 zd)))) zd))))) zjc)
  (zi (zvd (zeb za c_eq (zk 1) zg (nomark _)) (zv (zoa (zja [3] (zc 3 (zb (zea 0 za (has_l_ring_reads A) (zc 0 (zc 3 (zc 4 zd)))) zd))))) zjc)
  (zi (zw 3 (fun _=>sc_l_reads.nd) (ztb za b_max A.T.b_max (zb zg (zc 3 zd))))
  (zv (zoa (zja [3] (zc 3 (zb (zea 0 za (has_l_opposed_reads A) (zc 0 (zc 3 (zb (ztb za b_max A.T.b_max (zc 3 (zb (ztb za b_min A.T.b_min (zc 4 (zb zg zd))) zd))) zd)))) zd)))))))))))) (fun _=>rfl)
theorem has_l_names:Has P W K mg base 2 "_law_names" ["_law_feed_here","_law_many"] (spI K 0 r_l_names):=
 Def.qi A.d_l_names.to sc_l_names (m:=m_l_names) (zi (zw 2 (fun _=>sc_l_names.nd) zdd)
  (zi (zw 3 (fun _=>sc_l_names.nd) (q_meth za m_join zdd (zb (zue (N':=["_law_feed_here","_law_many","_law_letters","_law_stem","_law_first","_law_at","_law_found","_law_k","_law_name"]) (f:=[some 0,none,some 2,none,none,none,none,none,none]) za (fun _=>Blk.of (by kernel_rfl)) (zz za A.T (zb (zea 0 za (zj A) (zc 0 (zb zg zd))) zd)) (zt 7 (fun _=>zpc (by kernel_rfl))) zab (q_ix (CK.blk za) (zk 2) (zea 0 (CK.blk za) (zj A) (zc 0 (zb zg zd))))) zd)))
  (zi (qs_par 4 5 za (fun _=>sc_l_names.nd) (zb (zea 0 za (zj A) (zc 0 (zb zg zd))) (zb (zea 0 za (zj A) (zc 0 (zb (zna za (ztb za b_len A.T.b_len (zc 3 zd)) zg) zd))) zd)))
  (zi (zw 6 (fun _=>sc_l_names.nd) (zmb [] zd))
  (zi (zub za (fun _=>PassesOwn.never) (zz za A.T (zc 1 zd)) (zt 7 (fun _=>sc_l_names.nd)) (zra [7,8] (zi (zw 8 (fun _=>sc_l_names.nd) (zna za (zna za (q_sl za (zk 3) qo_none (qo_some (zk 5))) (q_ix za (zk 2) (q_mod za (zna za (zk 4) (q_mul za zg (zk 7))) zg))) (q_sl za (zk 3) (qo_some (zk 5)) qo_none)))
  (zi (zvd (zeb za c_eq (q_mod za (zk 7) zg) zg (nomark _)) (zv (zw 8 (fun _=>sc_l_names.nd) (zna za (zk 8) zdd))) zjc)
  (zi (zvd (zeb za c_in (zk 8) (zja [] (zb zdd (zb zdd (zb zdd (zb zdd (zb zdd zd)))))) (by with_unfolding_all rfl)) (zv (zw 8 (fun _=>sc_l_names.nd) (zna za (zk 8) zdd))) zjc)
  (zv (zgb (zse 6 [8] za zjb (zk 6) (zc 8 zd)))))))))
  (zv (zoa (zk 6)))))))) (fun _=>rfl)
theorem has_l_grown:Has P W K mg base 2 "_law_grown" ["_law_feed_here","_law_leaves"] (spI K 0 r_l_grown):=
 Def.qi A.d_l_grown.to sc_l_grown (m:=m_l_grown) (zi (zw 2 (fun _=>sc_l_grown.nd) (q_ty za b_list A.T.b_list (zc 1 zd)))
  (zi (qs_while (fun _=>PassesOwn.never) (zeb za c_gt (ztb za b_len A.T.b_len (zc 2 zd)) zg (nomark _)) (zra [3,4] (zi (zw 3 (fun _=>sc_l_grown.nd) (zea 0 za (zj A) (zc 0 (zb (zuc za (ztb za b_len A.T.b_len (zc 2 zd)) zg) zd))))
  (zv (qs_fgt [3,4] (zvd (QW.t (qw_and (zeb za c_gt (ztb za b_len A.T.b_len (zc 2 zd)) zg (nomark _)) (qw_and1 (zeb za c_eq (zea 0 za (zj A) (zc 0 (zb zg zd))) zg (nomark _))))) (zi (zw 3 (fun _=>sc_l_grown.nd) (ztb za b_min A.T.b_min (zc 3 (zb (zuc za (ztb za b_len A.T.b_len (zc 2 zd)) zg) zd))))
  (zv (qs_asg (zmb [] (zb (zja [] (zb zdd (zb (q_ix za (zk 2) (zk 3)) (zb (q_ix za (zk 2) (zna za (zk 3) zg)) (zb (q_ix za (zk 2) (zna za (zk 3) zg)) zd))))) zd)) (qg_subsl 2 (zk 2) (zk 3) (zna za (zk 3) zg))))) (zi (zw 4 (fun _=>sc_l_grown.nd) (q_ix za (zmb [] (zb zdd (zb zdd (zb zdd (zb zdd (zb zdd (zb zdd (zb zdd zd)))))))) (zea 0 za (zj A) (zc 0 (zb zg zd)))))
  (zv (qs_asg (zmb [] (zb (zja [4] (zb zdd (zc 4 (zb (q_ix za (zk 2) (zk 3)) (zb (q_ix za (zk 2) (zna za (zk 3) zg)) zd))))) zd)) (qg_subsl 2 (zk 2) (zk 3) (zna za (zk 3) zg)))))))))))
  (zv (zoa (q_ix za (zk 2) zg))))) (fun _=>rfl)
theorem has_l_house:Has P W K mg base 6 "_law_house" ["_law_feed_here"] (spI K 0 r_l_house):=
 Def.qi A.d_l_house.to sc_l_house (m:=m_l_house) (zi (qs_asg (zea 0 za (has_l_reads A) (zc 0 zd)) (qg_tup za (zva (zt 1 (fun _=>sc_l_house.nd)) (zva (zt 2 (fun _=>sc_l_house.nd)) qgs_nil))))
  (zi (zw 3 (fun _=>sc_l_house.nd) (q_ix za (zmb [] (zb (zna za zg (zea 0 za (zj A) (zc 0 (zb zg zd)))) (zb (zna za zg (zea 0 za (zj A) (zc 0 (zb zg zd)))) (zb (zuc za zg (zea 0 za (zj A) (zc 0 (zb zg zd)))) zd)))) (zea 0 za (zj A) (zc 0 (zb zg zd)))))
  (zi (zw 4 (fun _=>sc_l_house.nd) (zea 0 za (has_l_names A) (zc 0 (zb (ztb za b_len A.T.b_len (zc 2 zd)) zd))))
  (zi (zw 5 (fun _=>sc_l_house.nd) (zmb [] zd))
  (zi (zub za (fun _=>PassesOwn.never) (zz za A.T (zb (ztb za b_len A.T.b_len (zc 2 zd)) zd)) (zt 6 (fun _=>sc_l_house.nd)) (zra [6,7,8,9] (zi (zjd 7 (N':=["_law_feed_here","_law_ways","_law_looks","_law_wheel","_law_names_here","_law_desks","_law_x","_law_leaves","_law_k","_law_number","_law_other","_law_row_here"]) (f:=[none,none,none,none,some 4,none,none,none,none,none,none,none]) za (fun _=>sc_l_house.nd) (fun _=>Blk.of (by kernel_rfl)) (zxd za (q_sl za (q_ix za (zk 2) (zk 6)) qo_none (qo_some (q_fdiv za zg (ztb za b_len A.T.b_len (zc 2 zd)))))) (qg_tup (CK.blk za) (zva (zt 10 (fun _=>zpc (by kernel_rfl))) (zva (zt 11 (fun _=>zpc (by kernel_rfl))) qgs_nil))) zab (zja [11] (zb zdd (zb (q_ix (CK.blk za) (zk 4) (zk 10)) (zc 11 zd)))))
  (zi (zub za (fun _=>PassesOwn.never) (zz za A.T (zb (zna za (zea 0 za (zj A) (zc 0 (zb zg zd))) (q_ty za b_int A.T.b_int (zb (q_cmp za c_eq (zk 7) (zmb [] zd) (nomark _)) zd))) zd)) (zt 8 (fun _=>sc_l_house.nd)) (zra [8,9] (zi (zw 9 (fun _=>sc_l_house.nd) (zea 0 za (zj A) (zc 0 (zb (q_ix za (zmb [] (zb zg (zb zg zd))) (zea 0 za (zj A) (zc 0 (zb zg zd)))) zd))))
  (zv (zgb (zse 7 [] za m_insert (zk 7) (zb (zea 0 za (zj A) (zc 0 (zb (zna za (ztb za b_len A.T.b_len (zc 7 zd)) zg) zd))) (zb (zja [9] (zb zdd (zc 9 zd))) zd))))))))
  (zv (zgb (zse 5 [] za zjb (zk 5) (zb (zja [] (zb (q_ix za (zk 4) (zk 6)) (zb (zea 0 za (has_l_grown A) (zc 0 (zc 7 zd))) zd))) zd))))))))
  (zv (zoa (zja [1,3] (zc 1 (zc 3 (zb (q_ty za b_tuple A.T.b_tuple (zc 5 zd)) zd))))))))))) (fun _=>rfl)
theorem has_l_due:Has P W K mg base 1 "_law_due" ["_law_house_here","_law_sizes_here"] (spP K r_l_due):=
 Def.qp A.d_l_due.to sc_l_due (m:=m_l_due) (zi (zw 2 (fun _=>sc_l_due.nd) (zmb [] (zb (zja [] zd) zd)))
  (zi (zub za (fun _=>PassesOwn.never) (zxd za (zk 1)) (zt 3 (fun _=>sc_l_due.nd)) (zra [3,4,5] (zi (zw 4 (fun _=>sc_l_due.nd) (zmb [] zd))
  (zi (zub za (fun _=>PassesOwn.never) (zxd za (zk 2)) (zt 5 (fun _=>sc_l_due.nd)) (zra [5] (zv (zgb (zse 4 [] za m_extend (zk 4) (zb (zue (N':=["_law_house_here","_law_sizes_here","_law_found","_law_size","_law_longer","_law_place","_law_cells","_law_k"]) (f:=[none,none,none,none,none,some 5,none,none]) za (fun _=>Blk.of (by kernel_rfl)) (zz za A.T (zc 3 zd)) (zt 7 (fun _=>zpc (by kernel_rfl))) zab (zna (CK.blk za) (zk 5) (zja [7] (zc 7 zd)))) zd))))))
  (zv (zw 2 (fun _=>sc_l_due.nd) (q_mov 4)))))))
  (zi (zw 6 (fun _=>sc_l_due.nd) (zmb [] zd))
  (zi (zub za (fun _=>PassesOwn.never) (zxd za (zk 2)) (zt 5 (fun _=>sc_l_due.nd)) (zra [5] (zv (zgb (zse 6 [] za m_extend (zk 6) (zb (zue (N':=["_law_house_here","_law_sizes_here","_law_found","_law_size","_law_longer","_law_place","_law_cells","_law_name","_law_rule"]) (f:=[none,none,none,none,none,some 5,none,none,none]) za (fun _=>Blk.of (by kernel_rfl)) (zxd za (q_ix za (zk 0) zg)) (qg_tup (CK.blk za) (zva (zt 7 (fun _=>zpc (by kernel_rfl))) (zva (zt 8 (fun _=>zpc (by kernel_rfl))) qgs_nil))) zab (zja [7,5] (zc 7 (zc 5 zd)))) zd))))))
  (zv (zoa (zk 6))))))) (fun _=>rfl)
theorem has_p_box:Has P W K mg base 1 "box" ["house","sizes"] (spP K r_p_box):=
 Def.qp A.d_p_box.to sc_p_box (m:=m_p_box) (zi (zvd (zeb za c_in zg (zk 1) (by with_unfolding_all rfl)) (zv (zoa (zmb [] zd))) zjc)
  (zi (zw 2 (fun _=>sc_p_box.nd) (zmb [] (zb (zja [] zd) zd)))
  (zi (zub za (fun _=>PassesOwn.never) (zxd za (zk 1)) (zt 3 (fun _=>sc_p_box.nd)) (zra [3] (zv (qs_setcomp2 2 (N':=["house","sizes","places","size","place","number"]) (f:=[none,none,none,some 3,none,none]) (f2:=[some 0,some 1,some 2,some 3,some 4,none]) za (fun _=>sc_p_box.nd) (fun _=>Blk.of (by kernel_rfl)) (by decide) (zxd za (zk 2)) (zt 4 (fun _=>zpc (by kernel_rfl))) (zz (CK.blk za) A.T (zc 3 zd)) (zt 5 (fun _=>zpc (by kernel_rfl))) zab (zna (CK.blk za) (zk 4) (zja [5] (zc 5 zd)))))))
  (zv (zoa (q_comp2 (N':=["house","sizes","places","size","place","name","rule"]) (f:=[some 0,none,none,none,none,none,none]) (f2:=[some 0,some 1,some 2,some 3,some 4,none,none]) za (fun _=>Blk.of (by kernel_rfl)) (by decide) (zxd za (zk 2)) (zt 4 (fun _=>zpc (by kernel_rfl))) (zxd (CK.blk za) (q_ix (CK.blk za) (zk 0) zg)) (qg_tup (CK.blk za) (zva (zt 5 (fun _=>zpc (by kernel_rfl))) (zva (zt 6 (fun _=>zpc (by kernel_rfl))) qgs_nil))) zab (zja [5,4] (zc 5 (zc 4 zd))))))))) (fun _=>rfl)
theorem has_l_sizes:Has P W K mg base 2 "_law_sizes" ["_law_feed_here","_law_house_here"] (spI K 0 r_l_sizes):=
 Def.qi A.d_l_sizes.to sc_l_sizes (m:=m_l_sizes) (zi (zw 2 (fun _=>sc_l_sizes.nd) (q_fdiv za zg (ztb za b_len A.T.b_len (zb (q_ix za (zk 1) zg) zd))))
  (zi (zw 3 (fun _=>sc_l_sizes.nd) (zmb [] zd))
  (zi (zub za (fun _=>PassesOwn.never) (zz za A.T (zb (q_ix za (zk 1) zg) zd)) (zt 4 (fun _=>sc_l_sizes.nd)) (zra [4,5,6] (zi (zw 5 (fun _=>sc_l_sizes.nd) (zea 0 za (zj A) (zc 0 (zb zg zd))))
  (zi (zw 6 (fun _=>sc_l_sizes.nd) (q_ix za (zmb [2] (zb zg (zb zg (zc 2 (zb (zna za zg (zea 0 za (zj A) (zc 0 (zb zg zd)))) (zb (zna za zg (zea 0 za (zj A) (zc 0 (zb zg zd)))) (zb (zna za zg (zea 0 za (zj A) (zc 0 (zc 2 zd)))) zd))))))) (zk 5)))
  (zi (zw 6 (fun _=>sc_l_sizes.nd) (ztb za b_min A.T.b_min (zc 6 (zc 2 zd))))
  (zi (zw 2 (fun _=>sc_l_sizes.nd) (q_fdiv za (zk 2) (ztb za b_max A.T.b_max (zb zg (zc 6 zd)))))
  (zv (zgb (zse 3 [6] za zjb (zk 3) (zc 6 zd))))))))))
  (zi (zw 7 (fun _=>sc_l_sizes.nd) (zea 0 za (zj A) (zc 0 (zb (q_ix za (zk 1) zg) zd))))
  (zv (zoa (q_ty za b_tuple A.T.b_tuple (zb (zna za (q_sl za (zk 3) (qo_some (zk 7)) qo_none) (q_sl za (zk 3) qo_none (qo_some (zk 7)))) zd)))))))) (fun _=>rfl)
theorem has_l_alike:∀ n,Has P W K mg base (1+n) "_law_alike" ["_law_found","_law_due_here"] (spP K (zld n))
 | 0=>Def.qp A.d_l_alike.to sc_l_alike (m:=mNever) qss_never (fun _=>rfl)
 | n+1=>by
  have h_l_alike:=has_l_alike n
  exact Def.qp (k:=1+n) A.d_l_alike.to sc_l_alike (m:=m_l_alike (zld n)) (zi (zvd (qt_val (q_is2 za A.T.b_isinstance A.T.b_tuple PyProof.Rows.boot_tuple (by decide) A.T.b_list PyProof.Rows.boot_list (by decide) (zk 1))) (zi (zvd (QW.t (qw_or (zeb za c_ne (q_is1 za A.T.b_isinstance A.T.b_tuple PyProof.Rows.boot_tuple (by decide) (zk 0)) (q_is1 za A.T.b_isinstance A.T.b_tuple PyProof.Rows.boot_tuple (by decide) (zk 1)) (nomark _)) (qw_or1 (zeb za c_ne (q_is1 za A.T.b_isinstance A.T.b_list PyProof.Rows.boot_list (by decide) (zk 0)) (q_is1 za A.T.b_isinstance A.T.b_list PyProof.Rows.boot_list (by decide) (zk 1)) (nomark _))))) (zv (zoa q_bl)) zjc)
  (zv (zoa (q_and (q_cmp za c_eq (ztb za b_len A.T.b_len (zc 0 zd)) (ztb za b_len A.T.b_len (zc 1 zd)) (nomark _)) (q_one (ztb za b_all A.T.b_all (zb (zue (N':=["_law_found","_law_due_here","_law_one","_law_other"]) (f:=[none,none,none,none]) za (fun _=>Blk.of (by kernel_rfl)) (qi_zip za A.T (zc 0 (zc 1 zd))) (qg_tup (CK.blk za) (zva (zt 2 (fun _=>zpc (by kernel_rfl))) (zva (zt 3 (fun _=>zpc (by kernel_rfl))) qgs_nil))) zab (q_fnP (CK.blk za) h_l_alike (zc 2 (zc 3 zd)))) zd))))))) zjc)
  (zi (zvd (QW.t (qw_or (zeb za c_ne (q_is1 za A.T.b_isinstance A.T.b_bool PyProof.Rows.boot_bool (by decide) (zk 0)) (q_is1 za A.T.b_isinstance A.T.b_bool PyProof.Rows.boot_bool (by decide) (zk 1)) (nomark _)) (qw_or1 (zeb za c_ne (q_is1 za A.T.b_isinstance A.T.b_str PyProof.Rows.boot_str (by decide) (zk 0)) (q_is1 za A.T.b_isinstance A.T.b_str PyProof.Rows.boot_str (by decide) (zk 1)) (nomark _))))) (zv (zoa q_bl)) zjc)
  (zv (zoa (q_and (q_not (q_is2 za A.T.b_isinstance A.T.b_tuple PyProof.Rows.boot_tuple (by decide) A.T.b_list PyProof.Rows.boot_list (by decide) (zk 0))) (q_one (q_cmp za c_eq (zk 0) (zk 1) (nomark _)))))))) (fun _=>rfl)
theorem has_l_law:Has P W K mg base 26 "law" ["_law_script"] (spP K r_l_law_v2):=
 Def.qp A.d_l_law.to sc_l_law (m:=m_l_law_v2) (zi (zw 1 (fun _=>sc_l_law.nd) (zmb [] zd))
  (zi (zub za (fun _=>PassesOwn.never) (zz za A.T (zb (ztb za b_max A.T.b_max (zb zg (zb (ztb za b_min A.T.b_min (zb (ztb za b_len A.T.b_len (zc 0 zd)) (zb zg zd))) zd))) zd)) (zt 2 (fun _=>sc_l_law.nd)) (zra [2,3,4] (zi (zw 3 (fun _=>sc_l_law.nd) (q_fnP za (has_l_feed A) (zc 0 (zc 2 zd))))
  (zi (zw 4 (fun _=>sc_l_law.nd) (zea 3 za (has_l_house A) (zc 3 zd)))
  (zv (zgb (zse 1 [] za zjb (zk 1) (zb (zja [4] (zc 4 (zb (zea 3 za (has_l_sizes A) (zc 3 (zc 4 zd))) zd))) zd))))))))
  (zi (zub za (fun _=>PassesOwn.never) (zxd za (zna za (zk 1) (q_sl za (zk 1) qo_none (qo_some zg)))) (qg_tup za (zva (zt 4 (fun _=>sc_l_law.nd)) (zva (zt 5 (fun _=>sc_l_law.nd)) qgs_nil))) (zra [4,5,6,7,8] (zi (zw 6 (fun _=>sc_l_law.nd) (q_fnP za (has_l_due A) (zc 4 (zc 5 zd))))
  (zv (zub za (fun _=>PassesOwn.never) (zz za A.T (zb zg zd)) (zt 7 (fun _=>sc_l_law.nd)) (zra [7,8] (zi (zw 8 (fun _=>sc_l_law.nd) (q_fnP za (has_p_box A) (zc 4 (zc 5 zd))))
  (zi (zvd (qt_not (qt_val (q_fnP za (has_l_alike A 24) (zc 8 (zc 6 zd))))) (zv (zoa q_bl)) zjc)
  (zv (zgb (zse 8 [] za zjb (zk 8) (zb (zja [] (zb zdd (zb (zja [] zd) zd))) zd))))))))))))
  (zv (zoa q_bl))))) (fun _=>rfl)
end
end K10
open PySem PySem.W PyProof.Rows
set_option maxRecDepth 100000 in
set_option maxHeartbeats 0 in
theorem PySem.Challenge.cw_clockhouse_k10_boxes_holds : PySem.Challenge.rw_clockhouse_k10_boxes.Holds := by
 refine holds_law (by kernel_rfl) fun said=>?_
 refine holds_open (q:=K10.KQ) (loose:=K10.KL) (XP:=XL K10.KQ []) (YP:=K10.KH.says) K10.left K10.KH.of K10.KH.keeps (fun s e=>xl_of s (Bool.and_eq_true_iff.mp e).1) XL.keeps (by rfl) (by rfl) (by rfl) (fun s e=>recFacts_of (Bool.and_eq_true_iff.mp e).2) (by rfl) said (by kernel_rfl) ⟨rfl,rfl,rfl,rfl,rfl,by decide +kernel⟩ ?hw ?hc
 case hw=>w_witness2
 exact L2.walkP (l:=PySem.Challenge.rw_clockhouse_k10_boxes) (k:=26) (x:="_law_script") (st:=K10.s_law) (run:=L2.r_l_law_v2) (A:=K10.Adr) (K:=K10.KF) rfl rfl ⟨rfl,by decide,by decide⟩ (fun w h Y=>Y) K10.adr0 K10.adr_less (fun mg K A=>A.d_l_law.to) (fun _ _ _ _ _ _ s v=>.of_eq rfl) (fun w mg K base A=>K10.has_l_law A) (fun ns hn=>by obtain⟨t,h1,h2⟩:=L2.k10_law (ns:=ns) hn;rw [h1,h2])
#print axioms PySem.Challenge.cw_clockhouse_k10_boxes_holds
