import PyProof.Rows.All
import Wide.All
import OpenK.AllK
import Wide.FinOn
import Lean
import PyProof.EqAt
import PyProof.EqKinds
import PyProof.TupleCall
import PyProof.CompFree
import PyProof.ConsumeWalk
import PyProof.StrWalks
import PyProof.SliceStr2
import PyProof.Rows.StrJoin2
import PyProof.StrOps2
import PyProof.ListMulRoad
import PyProof.TupleOps
import PyProof.NeKinds
import KE.KRevIter
import PyProof.Rows.SortWalk
import PyProof.Draws
import PyProof.EnumMake
import PyProof.AutoListH
import PyProof.ZipIter
import KE.KDictOf
import PyProof.AttrMissHeap
import PySem.Challenge.RW_clockhouse_k06_steps_and_waits
set_option Elab.async false
set_option linter.all false
set_option maxRecDepth 100000
set_option maxHeartbeats 4000000
set_option genSizeOf false
set_option compiler.extract_closed false
open List renaming getElem?_eq_some_iff → DB,size_toArray → DC,replicate → DE,nodup_append → DF,getElem?_map → DG,length_map → DH,map_cons → DJ,flatMap_cons → DL,mem_map → DM,flatMap_append → DO,map_append → DP,length_cons → DQ,mem_filter → DR,length_append → DS,take_of_length_le → DT,append_assoc → DU,getElem?_set_ne → DW,filterMap_append → DY,filterMap_cons → DZ,append_nil → D0,length_take → D3,getD_eq_getElem?_getD → D4,getElem?_eq_getElem → D6,cons_append → D8,nodup_cons → D9,perm_middle → Ea,mem_map_of_mem → Eb,not_mem_nil → Ec,mem_cons → Ed,range → Ee,mem_filterMap → Ef,map_map → Eg,replicate_succ → Eh,lookup_cons → Ei,getElem?_append_left → Em,mem_of_mem_take → Ep,nil_append → Er,getElem?_set_self → Es,all_eq_true → Et,mem_flatMap → Eu,filter_sublist → Ev,length_drop → Ey,filter_cons → EA,contains_eq_mem → EB,getElem?_cons_succ → EC,getElem?_append_right → EF,flatten_cons → EG,nodup_nil → EH,drop_eq_getElem_cons → EK,all_cons → EM,mem_range → EN,length → EO,getElem?_cons_zero → EQ,filter_eq_self → ET,getElem_cons_drop → EW,filterMap_map → EZ,cons → E3,ext_getElem? → E4,mem_of_mem_drop → E5,length_eq_zero_iff → E6,eq_nil_of_length_eq_zero → E9,map_nil → Fa,length_eq_one_iff → Fb,mem_replicate → Fd,mem_iff_getElem? → Ff,reverse_cons → Fg,getElem?_zip_eq_some → Fj,length_set → Fm,forIn_cons → Fn,append_of_mem → Fo,take_append_drop → Fs,drop_length → Fu,flatMap_nil → Fv,map_take → Fx,lookup → Fy,getLast?_append → Fz,length_nil → FA,foldl_cons → FB,filter_map → FD,find?_cons → FE,all_nil → FF,filter_append → FI,filter_filter → FJ,perm_ext_iff_of_nodup → FK,filterMap_eq_nil_iff → FM,set_comm → FO,getElem?_take_of_lt → FP,any_cons → FQ,append_cancel_right → FS,filterMap_cons_none → FT,length_filterMap_le → FU,getElem?_replicate → FV,flatMap_eq_nil_iff → FZ,map_reverse → F3,foldl → F5,toArray → F6,sublist_cons_self → F7,map_set → F8,mem_append → F9,of_mem_zip → Ga,head?_drop → Gc,length_zip → Gd,getElem?_eq_none → Gf,dropLast_eq_take → Gg,set_append_left → Gk,drop_drop → Gn,take_succ → Go,length_reverse → Gv,map_congr_left → Gw,reverse_append → Gx,length_flatMap → Gy,map_drop → GA,zip_cons_cons → GB,set_cons_succ → GC,map_inj_right → GD,take_sublist → GF,mem_flatten → GO,sum_reverse → GQ,range_succ → GV,forIn_nil → GZ,drop_zero → G3,take_zero → G4,all_map → Ha
open Bool renaming and_eq_true → DD,false_ne_true → DN,not_eq_true' → El,eq_iff_iff → EJ,and_self → Fw,or_eq_true → FC,false_eq_true → FH,and_true → FR,and_false → Gi,and_eq_true_iff → Gr,true_and → Gz,not_eq_true → GN,false_and → GX,not_false → G5,false_or → G6,true_or → G9
open Nat renaming le_refl → DK,ne_of_lt → DV,lt_of_lt_of_le → DX,le_trans → Ek,zero_add → Eo,lt_of_le_of_lt → Ew,le_add_right → Ez,lt_irrefl → ED,zero_le → EX,zero_lt_succ → E8,ne_of_gt → Fi,mod_lt → FL,le_max_right → FY,le_of_lt → F4,le_max_left → Gb,min_eq_left → Ge,le_of_ble_eq_true → Gh,mul_le_mul → Gj,add_le_add_left → Gs,mul_comm → GG,lt_succ_of_lt → GI,lt_trans → GK,lt_succ_self → GM,not_lt_zero → GS,zero_lt_one → GU,min_self → Hb,le_succ → Hj
open Option renaming some → D5,map_eq_some_iff → EV,map_some → Fe,isSome_iff_exists → Fk,getD_none → FW
open Int renaming toNat_natCast → D7,emod_lt_of_pos → Ex,emod_nonneg → ER,eq_ofNat_of_zero_le → FX,ediv_one → G8,zero_add → Hc
open PyProof.Rows renaming slot_tuple_getitem → Ej,callWith_type1 → EU,boot_tuple → E7,boot_list → Fc,boot_bool → Fq,boot_str → Ft,callWith_builtin1 → GL,boot_dict → He,boot_min → Hf,boot_max → Hg,boot_all → Hh,boot_int → Hi,lt_int → Hk
open Array renaming length_toList → EI,size_append → GH,toList → G7
open PySem.W renaming fnOf → EL,keepIn → EY,codeIn → Fh,cellsFrom_some → Fp,findIn → FG,methodObj → FN,kitOne → Gp,kitAny → Gq,specialIn → GE,nsIn → GJ,instObj → GR
open PySem renaming mem_of_lookup → ES,seqSlot_of → GP
open Prod renaming ext → GY
local macro_rules|`(tactic| rfl')=>`(tactic| kernel_rfl)
theorem K06.ws:PySem.Challenge.rw_clockhouse_k06_steps_and_waits.wellSaid=true:=by rfl'
theorem yaR {α:Type}{b : α}(x:List α){y:List α}(h:b∈y):b∈x++y:=List.mem_append_right x h
theorem yaL {α:Type}{b : α}{x:List α}(y:List α)(h:b∈x):b∈x++y:=List.mem_append_left y h
theorem ymS {α:Type}{b : α}{x:List α}:b∈b::x:=List.mem_cons_self
theorem ymC {α:Type}{b : α}(y : α){x:List α}(h:b∈x):b∈y::x:=List.mem_cons_of_mem y h
theorem yaM {α:Type}{b : α}{x y:List α}(h:b∈x++y):b∈x∨b∈y:=F9.mp h
theorem ycM {α:Type}{b a : α}{x:List α}(h:b∈a::x):b=a∨b∈x:=Ed.mp h
theorem ysM {α:Type}{b a : α}(h:b∈[a]):b=a:=List.mem_singleton.mp h
theorem ymG {α:Type}{x:List α}{i:Nat}{a : α}(h:x[i]?=some a):a∈x:=List.mem_of_getElem? h
abbrev yF:=PySem.W.Frag
namespace L2
open PySem PySem.Spec PyProof.Rows
abbrev Key:=Sum Int Str
noncomputable def km:Key->Value->Bool
 | .inl k,v=>Value.isInt k v
 | .inr x,v=>Value.isStrOf x v
noncomputable def Dl (w:World):Key->Int
 | .inl k=>hashInt k
 | .inr x=>hashStr w x
theorem bn:∀{k:Key} {v:Value},km k v=true->(∃i t,k=Sum.inl i/\v=Value.int i t)∨(∃x t,k=Sum.inr x/\v=Value.str x t)
 | .inl i,v,h=>by
  obtain⟨t,e⟩:=Value.isInt_shape (k:=i) (v:=v) h
  exact .inl ⟨i,t,rfl,e⟩
 | .inr x,v,h=>by
  obtain⟨t,e⟩:=Value.isStrOf_shape (x:=x) (v:=v) h
  exact .inr ⟨x,t,rfl,e⟩
theorem pR (i:Int)(t:Tok):km (.inl i) (.int i t)=true:=by simp[km,Value.isInt]
theorem pS (x:Str)(t:Tok):km (.inr x) (.str x t)=true:=by simp[km,Value.isStrOf]
theorem yq (a b:Int):decide ((Sum.inl a:Key)=Sum.inl b)=(a==b):=by
 by_cases e:a=b
 ·subst e;simp
 ·have h:¬ (Sum.inl a:Key)=Sum.inl b:=λq=>e (Sum.inl.inj q)
  rw[decide_eq_false h]
  exact(beq_eq_false_iff_ne.mpr e).symm
theorem yu (a b:Str):decide ((Sum.inr a:Key)=Sum.inr b)=decide (a=b):=by
 by_cases e:a=b
 ·subst e;simp
 ·have h:¬ (Sum.inr a:Key)=Sum.inr b:=λq=>e (Sum.inr.inj q)
  rw[decide_eq_false h,decide_eq_false e]
theorem yr (a:Int)(b:Str):decide ((Sum.inl a:Key)=Sum.inr b)=false:=decide_eq_false (λq=>nomatch q)
theorem yt (a:Str)(b:Int):decide ((Sum.inr a:Key)=Sum.inl b)=false:=decide_eq_false (λq=>nomatch q)
noncomputable def cj (prog:Program) (w:World):PySem.KeyKind prog w Key where
 is:=km
 hash:=Dl w
 inj:=λv a b ha hb=>by
  rcases bn ha with⟨i,t,rfl,rfl⟩|⟨x,t,rfl,rfl⟩
  ·rcases bn hb with⟨j,u,rfl,e⟩|⟨y,u,rfl,e⟩
   ·injection e with e1 _;rw[e1]
   ·exact nomatch e
  ·rcases bn hb with⟨j,u,rfl,e⟩|⟨y,u,rfl,e⟩
   ·exact nomatch e
   ·injection e with e1 _;rw[e1]
 byValue:=λk v h=>by
  rcases bn h with⟨i,t,rfl,rfl⟩|⟨x,t,rfl,rfl⟩<;>rfl
 pyHash:=λhv h=>by
  rcases bn hv with⟨i,t,rfl,rfl⟩|⟨x,t,rfl,rfl⟩
  ·exact wpAny_pyHash_int h
  ·exact wpAny_pyHash_str h
 eqBool:=λhu hv h=>by
  rcases bn hu with⟨i,t,rfl,rfl⟩|⟨x,t,rfl,rfl⟩
  ·rcases bn hv with⟨j,u,rfl,rfl⟩|⟨y,u,rfl,rfl⟩
   ·rw[yq]at h;exact wpAny_eqBool_int h
   ·rw[yr]at h;exact SeqAt.EqAt.int_str i t y u _ _ _ _ h
  ·rcases bn hv with⟨j,u,rfl,rfl⟩|⟨y,u,rfl,rfl⟩
   ·rw[yt]at h;exact SeqAt.EqAt.str_int x t j u _ _ _ _ h
   ·rw[yu]at h;exact wpAny_eqBool_str h
 «strs»:=λk x t v h=>by
  rcases bn h with⟨i,u,rfl,e⟩|⟨y,u,rfl,e⟩
  ·exact nomatch e
  ·injection e with e1 _
   subst e1
   cases v<;>rfl
theorem md (prog:Program)(w:World)(i:Int)(t:Tok):(cj prog w).is (.inl i) (.int i t)=true:=pR i t
theorem me (prog:Program)(w:World)(x:Str)(t:Tok):(cj prog w).is (.inr x) (.str x t)=true:=pS x t
inductive V where
 | non|bl (b:Bool)|int (i:Int)|str (x:Str)|byt (b:Array UInt8)|flt (b:UInt64)|ref (a:Addr)|ty (n:String)
 deriving DecidableEq
def RelV:V->Value->Prop
 | .non,u=>u=Value.none
 | .bl b,u=>u=Value.bool b
 | .int i,u=>∃t,u=Value.int i t
 | .str x,u=>∃t,u=Value.str x t
 | .byt b,u=>∃t,u=Value.bytes b t
 | .flt b,u=>∃t,u=Value.float b t
 | .ref a,u=>u=Value.ref a
 | .ty n,u=>u=Value.type n
abbrev Vals:List V->List Value->Prop:=Paired RelV
theorem Vals.length {xs:List V}{us:List Value}(r:Vals xs us):xs.length=us.length:=Paired.length r
theorem Vals.get:∀{xs:List V} {us:List Value} {i:Nat} {x:V},Vals xs us->xs[i]?=some x->∃u,us[i]?=some u/\RelV x u
 | _,_,_,_,.nil,e=>by simp at e
 | _,_,0,_,.cons r _,e=>by simp at e;subst e;exact⟨_,rfl,r⟩
 | _,_,i+1,x,.cons _ t,e=>by
  obtain⟨u,h1,h2⟩:=Vals.get (i:=i) (x:=x) t (by simpa using e)
  exact⟨u,by simpa using h1,h2⟩
theorem Vals.set {x:V}{u:Value}(r:RelV x u):∀{xs:List V} {us:List Value} (i:Nat),Vals xs us->Vals (xs.set i x) (us.set i u)
 | _,_,_,.nil=>.nil
 | _,_,0,.cons _ t=>.cons r t
 | _,_,i+1,.cons q t=>.cons q (Vals.set r i t)
theorem Vals.append:∀{xs ys:List V} {us ws:List Value},Vals xs us->Vals ys ws->Vals (xs++ys) (us++ws)
 | _,_,_,_,.nil,s=>s
 | _,_,_,_,.cons r t,s=>.cons r (Vals.append t s)
theorem Vals.take:∀{xs:List V} {us:List Value} (n:Nat),Vals xs us->Vals (xs.take n) (us.take n)
 | _,_,0,_=>.nil
 | _,_,_+1,.nil=>.nil
 | _,_,n+1,.cons r t=>.cons r (Vals.take n t)
theorem Vals.drop:∀{xs:List V} {us:List Value} (n:Nat),Vals xs us->Vals (xs.drop n) (us.drop n)
 | _,_,0,r=>r
 | _,_,_+1,.nil=>.nil
 | _,_,n+1,.cons _ t=>Vals.drop n t
def RelO:Option V->Option Value->Prop
 | some v,some u=>RelV v u
 | none,none=>True
 | _,_=>False
def KV {κ : Type}:List (κ×V)->List (κ×Value)->Prop:=Paired λ(p : κ×V) (q : κ×Value)=>p.1=q.1/\RelV p.2 q.2
noncomputable def kV:Key->V
 | .inl i=>.int i
 | .inr x=>.str x
inductive HO where
 | lst (xs:List V)
 | tup (xs:List V)
 | dK (kvs:List (Key×V))|dT (kvs:List (List Key×V))
 | set (S:Int->Bool) (n:Nat)
 | ins (C dx:Addr) (fs:List (Str×V))
 | own (x:Addr)
 | xd (fs:List (Str×V))
 | met (f x:Addr)
 | rng (lo hi:Int)
 | frz (o:Obj) (u:HO)
 | tbl (ps:Array Value)
 | ext (φ : Heap->Prop)
abbrev Hp:=Addr->Option HO
noncomputable def upd (H:Hp) (a:Addr) (o:HO):Hp:=λb=>if b=a then some o else H b
theorem az {H:Hp}{a:Addr}{o:HO}:upd H a o a=some o:=by unfold upd;rw[if_pos rfl]
theorem upd_ne {H:Hp}{a b:Addr}{o:HO}(h:b≠a):upd H a o b=H b:=by unfold upd;rw[if_neg h]
theorem bc {H:Hp}{a b:Addr}{o:HO}(h:H a=some o)(h':H b=none):a≠b:=by
 intro e;subst e;rw[h]at h';cases h'
def IsTupN (h:Heap)(a:Addr)(items:Array Value):Prop:=∃o,h.get? a=some o/\(o.cls=.type "tuple" ∧ o.dict=none)/\∃n,o.data=.seq items n
theorem IsTupN.to {h:Heap}{a:Addr}{items:Array Value}(x:IsTupN h a items):IsTup h a items:=let ⟨o,e,c,d⟩:=x;⟨o,e,c.1,d⟩
theorem IsTupN.new (h:Heap)(items:Array Value):IsTupN (h.push {cls:=.type "tuple",data:=.seq items}) h.objs.size items:=⟨_,Heap.get?_push_size _ rfl,⟨rfl,rfl⟩,_,rfl⟩
section
variable  (P:Program)(w:World)
def ObjOk (H:Hp)(h:Heap)(a:Addr):HO->Prop
 | .lst xs=>xs.length<=sizeLine/\∃(its:List Value) (n:Nat),Vals xs its/\h.get? a=some {cls:=.type "list",data:=.seq its.toArray n}
 | .tup xs=>xs.length<=sizeLine/\∃its:List Value,Vals xs its/\IsTupN h a its.toArray
 | .dK kvs=>kvs.length<=sizeLine/\(a==sysModules)=false/\∃vs,KV kvs vs/\h.DictOf (cj P w) a vs
 | .dT kvs=>kvs.length<=sizeLine/\(a==sysModules)=false/\∃xs:List (List Key×Addr×Value),
   Paired (λ(p:List Key×V) (q:List Key×Addr×Value)=>p.1=q.1/\H q.2.1=some (.tup (p.1.map kV))/\RelV p.2 q.2.2) kvs xs ∧
   ∃o es ep,h.get? a=some o/\o.ExactDict/\o.data=.dict es ep/\es.toList=xs.map (entryOfKey (tupleKind (cj P w)))/\(xs.map (·.1)).Nodup
 | .set S n=>h.SetOf (intKind P w) a S n
 | .ins C dx fs=>H dx=some (.own a)/\fs.length<=1000/\dx≠a/\h.get? a=some (GR C dx) ∧
   ∃mA,h.Ns1 dx mA/\(∀f,RelO (fs.lookup f) (mA f))/\PySem.Within mA (fs.map (·.1))
 | .own _=>∃o,h.get? a=some o
 | .xd fs=>∃mA,h.Ns1 a mA/\∀f,RelO (fs.lookup f) (mA f)
 | .rng lo hi=>∃t u v,h.get? a=some {cls:=.type "range",data:=.fields #[.int lo t,.int hi u,.int 1 v]}
 | .frz o u=>h.get? a=some o/\ObjOk H h a u
 | .tbl ps=>h.get? a=some {cls:=.none,data:=.fields ps}
 | .met f x=>h.get? a=some (FN (.ref f) (.ref x))
 | .ext φ=>φ h/\(∃o,h.get? a=some o)/\∀h1 h2:Heap,φ h1->(∀o,h1.get? a=some o->h2.get? a=some o)->φ h2
def HOk (H:Hp)(h:Heap):Prop:=∀a o,H a=some o->ObjOk P w H h a o
end
section
variable  {P:Program}{w:World}{H H':Hp}{h h':Heap}{a:Addr}{o:HO}
theorem ObjOk.lt (x:ObjOk P w H h a o):a<h.objs.size:=by
 cases o with
 | lst xs=>obtain⟨_,_,_,_,e⟩:=x;exact Heap.lt_size e
 | tup xs=>obtain⟨_,_,_,p⟩:=x;exact p.to.lt
 | dK kvs=>obtain⟨_,_,_,_,o,_,_,e,_⟩:=x;exact Heap.lt_size e
 | dT kvs=>obtain⟨_,_,_,_,o,_,_,e,_⟩:=x;exact Heap.lt_size e
 | set S n=>obtain⟨o,_,_,_,e,_⟩:=x;exact Heap.lt_size e
 | ins C dx fs=>obtain⟨_,_,_,e,_⟩:=x;exact Heap.lt_size e
 | own y=>obtain⟨_,e⟩:=x;exact Heap.lt_size e
 | xd fs=>obtain⟨_,⟨_,_,_,e,_⟩,_⟩:=x;exact Heap.lt_size e
 | rng lo hi=>obtain⟨_,_,_,e⟩:=x;exact Heap.lt_size e
 | frz ob u=>obtain⟨e,_⟩:=x;exact Heap.lt_size e
 | tbl ps=>exact Heap.lt_size (show h.get? a=some _ from x)
 | met f y=>exact Heap.lt_size (show h.get? a=some _ from x)
 | ext φ=>obtain⟨_,⟨_,e⟩,_⟩:=x;exact Heap.lt_size e
theorem Paired.mapP {α β:Type}{F G : α->β->Prop}:∀{l₁ : List α} {l₂ : List β},Paired F l₁ l₂->(∀a b,F a b->G a b)->Paired G l₁ l₂
 | _,_,.nil,_=>.nil
 | _,_,.cons r t,f=>.cons (f _ _ r) (Paired.mapP t f)
theorem ObjOk.stay (x:ObjOk P w H h a o)(k:∀b u,(b=a∨H b=some (.own a))->h.get? b=some u->h'.get? b=some u)
  (ho:∀b,H b=some (.own a)->H' b=some (.own a)) (ht:∀b xs,H b=some (.tup xs)->H' b=some (.tup xs)):ObjOk P w H' h' a o:=by
 induction o with
 | lst xs=>obtain⟨z,its,n,r,e⟩:=x;exact⟨z,its,n,r,k _ _ (.inl rfl) e⟩
 | tup xs=>obtain⟨z,its,r,ob,e,c⟩:=x;exact⟨z,its,r,ob,k _ _ (.inl rfl) e,c⟩
 | dK kvs=>obtain⟨z,y,vs,r,ob,es,ep,e,c⟩:=x;exact⟨z,y,vs,r,ob,es,ep,k _ _ (.inl rfl) e,c⟩
 | dT kvs=>
  obtain⟨z,y,xs,r,ob,es,ep,e,c⟩:=x
  exact⟨z,y,xs,Paired.mapP r λp q z=>⟨z.1,ht _ _ z.2.1,z.2.2⟩,ob,es,ep,k _ _ (.inl rfl) e,c⟩
 | set S n=>obtain⟨ob,es,ep,t,e,c⟩:=x;exact⟨ob,es,ep,t,k _ _ (.inl rfl) e,c⟩
 | ins C dx fs=>
  obtain⟨d,z,ne,e,mA,⟨od,es,ep,e2,c⟩,r⟩:=x
  exact⟨ho _ d,z,ne,k _ _ (.inl rfl) e,mA,⟨od,es,ep,k _ _ (.inr d) e2,c⟩,r⟩
 | own y=>obtain⟨ob,e⟩:=x;exact⟨ob,k _ _ (.inl rfl) e⟩
 | xd fs=>obtain⟨mA,⟨od,es,ep,e,c⟩,r⟩:=x;exact⟨mA,⟨od,es,ep,k _ _ (.inl rfl) e,c⟩,r⟩
 | rng lo hi=>obtain⟨t,u,v,e⟩:=x;exact⟨t,u,v,k _ _ (.inl rfl) e⟩
 | frz ob u ih=>obtain⟨e,q⟩:=x;exact⟨k _ _ (.inl rfl) e,ih q⟩
 | tbl ps=>
  have e:h.get? a=some {cls:=.none,data:=.fields ps}:=x
  show h'.get? a=some {cls:=.none,data:=.fields ps}
  exact k a _ (.inl rfl) e
 | met f y=>
  have e:h.get? a=some (FN (.ref f) (.ref y)):=x
  show h'.get? a=some (FN (.ref f) (.ref y))
  exact k a _ (.inl rfl) e
 | ext φ=>obtain⟨p,⟨o,e⟩,st⟩:=x;exact⟨st _ _ p λo q=>k _ _ (.inl rfl) q,⟨o,k _ _ (.inl rfl) e⟩,st⟩
theorem HOk.lt (x:HOk P w H h)(e:H a=some o):a<h.objs.size:=(x a o e).lt
theorem HOk.fresh (x:HOk P w H h)(e:h.objs.size<=a):H a=none:=by
 cases q:H a with
 | none=>rfl
 | some u=>exact absurd (DX (x.lt q) e) (ED _)
theorem HOk.kept (x:HOk P w H h)(k:∀b u,h.get? b=some u->h'.get? b=some u):HOk P w H h':=λa o e=>
 (x a o e).stay (λb u _ q=>k b u q) (λ_ q=>q) λ_ _ q=>q
theorem HOk.laid (x:HOk P w H h)(k:∀b u,h.get? b=some u->h'.get? b=some u)(hp:h.objs.size<=a)(new:ObjOk P w (upd H a o) h' a o):HOk P w (upd H a o) h':=λb u e=>by
 have hn:=x.fresh hp
 by_cases hb:b=a
 ·subst hb;rw[az]at e;cases e;exact new
 ·rw[upd_ne hb]at e
  exact(x b u e).stay (λc v _ q=>k c v q) (λc q=>by rw[upd_ne (bc q hn)];exact q) λc xs q=>by rw[upd_ne (bc q hn)];exact q
end
def Rd (H:Hp)(a:Addr)(u:HO):Prop:=H a=some u ∨ ∃o,H a=some (.frz o u)
theorem Rd.ok {P:Program}{w:World}{H:Hp}{h:Heap}{a:Addr}{u:HO}(r:Rd H a u)(x:HOk P w H h):ObjOk P w H h a u:=by
 rcases r with r|⟨o,r⟩
 ·exact x a u r
 ·obtain⟨_,q⟩:=x a _ r
  exact q
def Mut:Option HO->Prop
 | some (.lst _)=>True
 | some (.dK _)=>True
 | some (.dT _)=>True
 | some (.set _ _)=>True
 | some (.ins _ _ _)=>True
 | some (.ext _)=>True
 | _=>False
section
variable  {P:Program}{w:World}{H:Hp}{h h':Heap}{x e:Addr}{o':HO}
theorem HOk.write (ok:HOk P w H h)(mu:Mut (H x))(he:e=x∨H e=some (.own x))(k:∀b u,b≠e->h.get? b=some u->h'.get? b=some u)(heo:∃u,h'.get? e=some u)
  (new:ObjOk P w (upd H x o') h' x o'):HOk P w (upd H x o') h':=λb u q=>by
 have nown:∀c y,H c=some (.own y)->c≠x:=λc y r z=>by subst z;rw[r]at mu;exact mu
 have ntup:∀c xs,H c=some (.tup xs)->c≠x:=λc xs r z=>by subst z;rw[r]at mu;exact mu
 by_cases hb:b=x
 ·subst hb;rw[az]at q;cases q;exact new
 ·rw[upd_ne hb]at q
  by_cases hbe:b=e
  ·have q':H b=some (.own x):=by
    rcases he with z|z
    ·exact absurd (hbe.trans z) hb
    ·rw[hbe];exact z
   rw[q]at q';cases q'
   obtain⟨v,hv⟩:=heo
   exact⟨v,by rw[hbe];exact hv⟩
  ·refine(ok b u q).stay (λc v hc r=>k c v ?_ r) (λc r=>by rw[upd_ne (nown c b r)];exact r) λc xs r=>by rw[upd_ne (ntup c xs r)];exact r
   rcases hc with rfl|hc
   ·exact hbe
   ·rintro rfl
    rcases he with z|z
    ·exact nown c b hc z
    ·rw[hc]at z;cases z;exact hb rfl
end
structure Un (fs ex:List Addr)(H H':Hp)(h h':Heap):Prop where
 keep:∀b o,h.get? b=some o->H b=none->b∉fs->b∉ex->h'.get? b=some o
 slot:∀b o,h.get? b=some o->H b=none->b∈fs->b∉ex->∃sl,h'.get? b=some {o with slots:=sl}
 free:∀b o,h.get? b=some o->H b=none->b∉ex->H' b=none
 there:∀b o,h.get? b=some o->b∉ex->∃o',h'.get? b=some o'
 tups:∀b xs,H b=some (.tup xs)->H' b=some (.tup xs)
 frzs:∀b o u,H b=some (.frz o u)->H' b=some (.frz o u)
 tbls:∀b ps,H b=some (.tbl ps)->∃more,H' b=some (.tbl (ps++more))
section
variable  {fs fs' ex ex':List Addr}{H H1 H2:Hp}{h h1 h2 h':Heap}{a x e:Addr}{o:HO}
theorem Un.any (u:Un fs ex H H1 h h1){b:Addr}{ob:Obj}(q:h.get? b=some ob)(n:H b=none)(hx:b∉ex):∃sl,h1.get? b=some {ob with slots:=sl}:=by
 by_cases hb:b∈fs
 ·exact u.slot b ob q n hb hx
 ·exact⟨ob.slots,u.keep b ob q n hb hx⟩
theorem Un.kept (k:∀b u,h.get? b=some u->h'.get? b=some u):Un fs ex H H h h':=
 ⟨λb ob q _ _ _=>k b ob q,λb ob q _ _ _=>⟨ob.slots,k b ob q⟩,λ_ _ _ n _=>n,λb ob q _=>⟨ob,k b ob q⟩,λ_ _ q=>q,λ_ _ _ q=>q,λ_ ps q=>⟨#[],by rw[q];simp⟩⟩
theorem Un.refl:Un fs ex H H h h:=Un.kept λ_ _ q=>q
theorem Un.laid (k:∀b u,h.get? b=some u->h'.get? b=some u)(hp:h.objs.size<=a)(hn:H a=none):Un fs ex H (upd H a o) h h' where
 keep:=λb u q _ _ _=>k b u q
 slot:=λb u q _ _ _=>⟨u.slots,k b u q⟩
 free:=λb u q n _=>by rw[upd_ne (DV (DX (Heap.lt_size q) hp))];exact n
 there:=λb u q _=>⟨u,k b u q⟩
 tups:=λb xs q=>by rw[upd_ne (bc q hn)];exact q
 frzs:=λb u xs q=>by rw[upd_ne (bc q hn)];exact q
 tbls:=λb ps q=>⟨#[],by rw[upd_ne (bc q hn),q];simp⟩
theorem Un.write (mu:Mut (H x))(he:e=x∨H e=some (.own x))(k:∀b u,b≠e->h.get? b=some u->h'.get? b=some u)(heo:∃u,h'.get? e=some u):Un fs ex H (upd H x o) h h':=by
 have hx:∀b,H b=none->b≠x:=λb n z=>by subst z;rw[n]at mu;exact mu
 have hb:∀b,H b=none->b≠e:=λb n z=>by
  subst z
  rcases he with r|r
  ·exact hx b n r
  ·rw[n]at r;cases r
 have hm:∀b u,H b=some u->¬ Mut (some u)->b≠x:=λb u q nm z=>by subst z;rw[q]at mu;exact nm mu
 refine⟨λb u q n _ _=>k b u (hb b n) q,λb u q n _ _=>⟨u.slots,k b u (hb b n) q⟩,λb u q n _=>by rw[upd_ne (hx b n)];exact n,λb u q _=>?_,
  λb xs q=>by rw[upd_ne (hm b _ q λz=>z)];exact q,λb u xs q=>by rw[upd_ne (hm b _ q λz=>z)];exact q,λb ps q=>⟨#[],by rw[upd_ne (hm b _ q λz=>z),q];simp⟩⟩
 by_cases hbe:b=e
 ·subst hbe;exact heo
 ·exact⟨u,k b u hbe q⟩
end
noncomputable def trk (h:Heap) (H:Hp):List Addr:=(Ee h.objs.size).filter λa=>(H a).isSome
noncomputable def lg (h:Heap) (H:Hp):Heap:=PySem.W.hideAll h (trk h H)
theorem pJ (h:Heap)(H:Hp):(lg h H).objs.size=h.objs.size:=PySem.W.hideAll_size _ _
theorem rG {h:Heap}{H:Hp}{b:Addr}{o:Obj}(e:h.get? b=some o)(n:H b=none):(lg h H).get? b=some o:=
 PySem.W.hideAll_get _ e λhm=>by
  have q:(H b).isSome=true:=(DR.mp hm).2
  rw[n]at q;simp at q
theorem vp {h:Heap}{H:Hp}{b:Addr}{o:Obj}(e:(lg h H).get? b=some o):h.get? b=some o/\H b=none:=by
 have e':h.get? b=some o:=PySem.W.of_hideAll (trk h H) e
 refine⟨e',?_⟩
 cases q:H b with
 | none=>rfl
 | some x=>
  have hm:b∈trk h H:=DR.mpr ⟨EN.mpr (Heap.lt_size e'),by simp[q]⟩
  have z:(lg h H).get? b=none:=PySem.W.hideAll_none (trk h H) hm
  rw[z]at e;cases e
noncomputable def uR (g h:Heap) (L:Addr):List (Addr×Obj):=(Ee h.objs.size).filterMap λa=>if a=L∨(g.get? a).isSome=true then none else(h.get? a).map λo=>(a,o)
noncomputable def rest (g h:Heap) (L d:Addr):List (Addr×Obj):=(uR g h L).filter λp=>decide (p.1≠d)
structure Mod (K:yF)(mg:Str->Option Value)(base:Heap):Prop where
 kin:K.In base
 glob:base.Ns mainGlobals mg
 blt:∃mb,base.Ns builtinsNs mb/\∀x:Str,x ≠ "__name__" → mb x=bootBuiltins x
 nolimit:base.NoLimit
structure Cx where
 prog:Program
 w:World
 K:yF
 mg:Str->Option Value
 base:Heap
 A:Around
 N:List Str
 s₀ : Shared
 H₀ : Hp
 env:Env
 outer:List Env
 stack:List Env
 ex:List Addr
 fn:Str->Bool
 calm:Bool
 pn:List (Addr×Obj)
 xe:Value->Shared->Prop
def frs (l:List Env):List Addr:=l.filterMap (·.frame)
noncomputable abbrev Cx.fs (X:Cx):List Addr:=frs X.outer
def Vis (sc:Scope)(x:Str):Prop:=sc.names.lookup x=some .local∨sc.names.lookup x=some .cell∨sc.names.lookup x=some .free
def Loc (sc:Scope)(x:Str):Prop:=sc.names.lookup x=some .local∨sc.names.lookup x=some .cell
def C0 (env:Env)(h:Heap)(m:Str->Option Value)(x:Str)(u:Value):Prop:=
 (env.kindOf x=some .local/\m x=some u)∨((env.kindOf x=some .cell∨env.kindOf x=some .free)/\∃c,env.cells.lookup x=some c/\h.IsCell c (some u))
structure Cx.Ok (X:Cx):Prop where
 mod:Mod X.K X.mg X.base
 kind:X.env.scope.kind=.function
 glob:X.env.globals=mainGlobals
 blt:X.env.builtins=builtinsNs
 above:X.s₀.heap.objs.size<=X.env.locals
 inj:∀x y c,X.env.cells.lookup x=some c->X.env.cells.lookup y=some c->x=y
 has:∀x,(X.env.kindOf x=some .cell∨X.env.kindOf x=some .free)->∃c,X.env.cells.lookup x=some c
 cab:∀x c,X.fn x=true->X.env.cells.lookup x=some c->X.s₀.heap.objs.size<=c
 hd:X.calm=true->X.A.handled=none
 frames:X.A.frames=some X.stack
 stk:X.stack=X.outer∨(X.stack=X.env::X.outer/\X.env.frame=some X.env.locals)
 exf:∀b∈X.ex,b≠X.env.locals/\∀x c,X.env.cells.lookup x=some c->c≠b
 bs:∀b o,X.base.get? b=some o->X.s₀.heap.get? b=some o/\X.H₀ b=none
 bsz:X.base.objs.size<=X.s₀.heap.objs.size
 noex:∀b o,X.base.get? b=some o->b∉X.ex
 exfs:∀b∈X.ex,b∉X.fs
 funs:X.s₀.heap.FunFrames X.base X.outer
 frf:∀b∈X.fs,X.H₀ b=none
structure Inv (X:Cx)(pins:List (Addr×Obj))(Z:List (Option V))(H:Hp)(s:Shared):Prop where
 ok:X.Ok
 os:s.os=X.s₀.os
 bare:AllBare s.gens
 base:Un X.fs X.ex X.H₀ H X.s₀.heap s.heap
 loc:∃m,s.heap.Ns X.env.locals m/\∀(i:Nat) (x:Str) (v:V),X.N[i]?=some x->Z[i]?=some (some v)->Vis X.env.scope x->∃u,RelV v u/\C0 X.env s.heap m x u
 cell:∀x c,X.env.cells.lookup x=some c->∃v,s.heap.IsCell c v
 free:H X.env.locals=none
 freeC:∀x c,X.env.cells.lookup x=some c->H c=none
 pin:∀p∈X.pn++pins,s.heap.get? p.1=some p.2/\H p.1=none/\p.1≠X.env.locals/\p.1∉X.fs/\∀v,p.2.data ≠ .cell v
 hok:HOk X.prog X.w H s.heap
 len:Z.length=X.N.length
section
variable  {X:Cx}{pins:List (Addr×Obj)}{Z:List (Option V)}{H H':Hp}{s:Shared}{h':Heap}
theorem Cx.Ok.nofr (ok:X.Ok){b:Addr}{o:Obj}(e:X.base.get? b=some o):b∉X.fs:=λhb=>by
 have:=(ok.funs.mem hb).1
 rw[e]at this;cases this
theorem Inv.bs (I:Inv X pins Z H s):∀b o,X.base.get? b=some o->s.heap.get? b=some o/\H b=none:=λb o e=>
 ⟨I.base.keep b o (I.ok.bs b o e).1 (I.ok.bs b o e).2 (I.ok.nofr e) (I.ok.noex b o e),I.base.free b o (I.ok.bs b o e).1 (I.ok.bs b o e).2 (I.ok.noex b o e)⟩
theorem Inv.bk (I:Inv X pins Z H s):∀b o,X.base.get? b=some o->s.heap.get? b=some o:=λb o e=>(I.bs b o e).1
theorem Inv.mod (I:Inv X pins Z H s):Mod X.K X.mg X.base:=I.ok.mod
theorem Inv.kIn (I:Inv X pins Z H s):X.K.In s.heap:=I.ok.mod.kin.keeps I.bk
theorem Inv.fr (I:Inv X pins Z H s):∃m,Fr X.base X.env.locals s.heap m:=
 let ⟨m,hn,_⟩:=I.loc
 ⟨m,hn,I.bk,Ek I.ok.bsz I.ok.above⟩
theorem Inv.lt (I:Inv X pins Z H s):X.env.locals<s.heap.objs.size:=let ⟨_,hn,_⟩:=I.loc;hn.lt
theorem Inv.sz (I:Inv X pins Z H s):X.s₀.heap.objs.size<=s.heap.objs.size:=Ek I.ok.above (F4 I.lt)
theorem Inv.nofs (I:Inv X pins Z H s){a:Addr}(h:s.heap.objs.size<=a):a∉X.fs:=λhb=>by
 obtain⟨_,o,ho,_⟩:=I.ok.funs.mem hb
 exact absurd (DX (Heap.lt_size ho) (Ek I.sz h)) (ED _)
theorem Inv.cne (I:Inv X pins Z H s):∀x c,X.env.cells.lookup x=some c->c≠X.env.locals:=λx c e z=>by
 obtain⟨v,o,ho,hd⟩:=I.cell x c e
 obtain⟨m,⟨o',es,ep,ho',hd',_⟩,_⟩:=I.loc
 rw[z,ho']at ho;cases ho;rw[hd']at hd;cases hd
theorem Inv.funs (I:Inv X pins Z H s):s.heap.FunFrames X.base X.outer:=by
 have all:∀(l:List Env),(∀b∈frs l,b∈X.fs)->X.s₀.heap.FunFrames X.base l->s.heap.FunFrames X.base l:=by
  intro l
  induction l with
  | nil=>intro _ _;trivial
  | cons env r ih=>
   intro hs hl
   obtain⟨hk,⟨L,o,hf,hn,ho,hd⟩,hr⟩:=hl
   have hL:L∈X.fs:=hs L (by unfold frs;rw[DZ,hf];exact ymS)
   obtain⟨sl,e⟩:=I.base.slot L o ho (I.ok.frf L hL) hL λz=>I.ok.exfs L z hL
   exact⟨hk,⟨L,_,hf,hn,e,hd⟩,ih (λb hb=>hs b (by unfold frs;rw[DZ,hf];exact ymC _ hb)) hr⟩
 exact all X.outer (λ_ hb=>hb) I.ok.funs
theorem Inv.stack (I:Inv X pins Z H s):s.heap.FunFrames X.base X.stack:=by
 rcases I.ok.stk with e|⟨e,hf⟩
 ·rw[e];exact I.funs
 ·rw[e]
  obtain⟨m,hn,_⟩:=I.loc
  refine .cons (by rw[I.ok.kind];decide) hf hn ?_ I.funs
  exact Heap.get?_none_of_le (Ek I.ok.bsz I.ok.above)
theorem Inv.stkSub (I:Inv X pins Z H s):∀b∈frs X.stack,b∈X.env.locals::X.fs:=λb hb=>by
 rcases I.ok.stk with e|⟨e,hf⟩
 ·rw[e]at hb;exact ymC _ hb
 ·rw[e]at hb
  unfold frs at hb
  rw[DZ,hf]at hb
  exact hb
theorem Inv.stkFree (I:Inv X pins Z H s):∀b∈frs X.stack,H b=none:=λb hb=>by
 rcases ycM (I.stkSub b hb)with e|hb
 ·rw[e];exact I.free
 ·obtain⟨_,o,ho,_⟩:=I.ok.funs.mem hb
  exact I.base.free b o ho (I.ok.frf b hb) λz=>I.ok.exfs b z hb
theorem Inv.step {g':Array GenState}{t':Nat}{d':Drawn}{ch:List Addr}(I:Inv X pins Z H s)
  (hch:∀b∈ch,(b∈X.ex∨X.s₀.heap.objs.size<=b)/\b≠X.env.locals/\(∀x c,X.env.cells.lookup x=some c->c≠b)/\∀p∈X.pn++pins,p.1≠b)
  (keep:∀b o,b≠X.env.locals->b∉X.fs->b∉ch->s.heap.get? b=some o->H b=none->h'.get? b=some o)
  (slot:∀b o,b≠X.env.locals->b∈X.fs->b∉ch->s.heap.get? b=some o->H b=none->∃sl,h'.get? b=some {o with slots:=sl}) (free:∀b o,b∉ch->s.heap.get? b=some o->H b=none->H' b=none)
  (there:∀b o,b∉ch->s.heap.get? b=some o->∃o',h'.get? b=some o')
  (tups:∀b xs,H b=some (.tup xs)->H' b=some (.tup xs)) (frzs:∀b o u,H b=some (.frz o u)->H' b=some (.frz o u)) (tbls:∀b ps,H b=some (.tbl ps)->∃more,H' b=some (.tbl (ps++more)))
  (ns:∀m,s.heap.Ns X.env.locals m->h'.Ns X.env.locals m) (hok:HOk X.prog X.w H' h') (hg:AllBare g') :
  Inv X pins Z H' {s with heap:=h',gens:=g',drawn:=d',toks:=t'}:=by
 have neL:∀b o,X.s₀.heap.get? b=some o->b≠X.env.locals:=λb o e=>DV (DX (Heap.lt_size e) I.ok.above)
 have neC:∀b o,X.s₀.heap.get? b=some o->b∉X.ex->b∉ch:=λb o e hx hb=>by
  rcases(hch b hb).1 with z|z
  ·exact hx z
  ·exact absurd (DX (Heap.lt_size e) z) (ED _)
 have cellK:∀x c,X.env.cells.lookup x=some c->∀v,s.heap.IsCell c v->h'.IsCell c v:=λx c e v ⟨o,ho,hd⟩=>by
  have nch:c∉ch:=λz=>(hch c z).2.2.1 x c e rfl
  by_cases hc:c∈X.fs
  ·obtain⟨sl,q⟩:=slot c o (I.cne x c e) hc nch ho (I.freeC x c e)
   exact⟨_,q,hd⟩
  ·exact⟨o,keep c o (I.cne x c e) hc nch ho (I.freeC x c e),hd⟩
 refine⟨I.ok,I.os,hg,⟨λb o e n hb hx=>?_,λb o e n hb hx=>?_,λb o e n hx=>?_,λb o e hx=>?_,λb xs e=>tups b xs (I.base.tups b xs e),λb o xs e=>frzs b o xs (I.base.frzs b o xs e),λb ps e=>?_⟩,?_,λx c e=>?_,?_,λx c e=>?_,λp hp=>?_,hok,I.len⟩
 ·exact keep b o (neL b o e) hb (neC b o e hx) (I.base.keep b o e n hb hx) (I.base.free b o e n hx)
 ·obtain⟨sl,e1⟩:=I.base.slot b o e n hb hx
  obtain⟨sl',e2⟩:=slot b _ (neL b o e) hb (neC b o e hx) e1 (I.base.free b o e n hx)
  exact⟨sl',e2⟩
 ·obtain⟨o',e1⟩:=I.base.there b o e hx
  exact free b o' (neC b o e hx) e1 (I.base.free b o e n hx)
 ·obtain⟨o',e1⟩:=I.base.there b o e hx
  exact there b o' (neC b o e hx) e1
 ·obtain⟨m1,e1⟩:=I.base.tbls b ps e
  obtain⟨m2,e2⟩:=tbls b _ e1
  exact⟨m1++m2,by rw[e2,Array.append_assoc]⟩
 ·obtain⟨m,hn,hl⟩:=I.loc
  refine⟨m,ns m hn,λi x v e1 e2 e3=>?_⟩
  obtain⟨u,r,l⟩:=hl i x v e1 e2 e3
  refine⟨u,r,?_⟩
  rcases l with l|⟨k,c,e,z⟩
  ·exact .inl l
  ·exact .inr ⟨k,c,e,cellK x c e _ z⟩
 ·obtain⟨v,z⟩:=I.cell x c e
  exact⟨v,cellK x c e v z⟩
 ·obtain⟨m,⟨o,_,_,ho,_⟩,_⟩:=I.loc
  exact free _ o (λz=>(hch _ z).2.1 rfl) ho I.free
 ·obtain⟨v,o,ho,hd⟩:=I.cell x c e
  exact free c o (λz=>(hch c z).2.2.1 x c e rfl) ho (I.freeC x c e)
 ·obtain⟨e,n,ne,nf,d⟩:=I.pin p hp
  have nch:p.1∉ch:=λz=>(hch p.1 z).2.2.2 p hp rfl
  exact⟨keep p.1 p.2 ne nf nch e n,free p.1 p.2 nch e n,ne,nf,d⟩
theorem Inv.un {t':Nat}(I:Inv X pins Z H s)(u:Un X.fs [] H H' s.heap h')(hok:HOk X.prog X.w H' h'):Inv X pins Z H' {s with heap:=h',toks:=t'}:=by
 obtain⟨m,⟨o,es,ep,ho,r⟩,_⟩:=id I.loc
 obtain⟨sl,hL⟩:=u.any ho I.free (by simp)
 exact I.step (g':=s.gens) (d':=s.drawn) (ch:=[]) (λ_ z=>nomatch z) (λb o _ hb _ e n=>u.keep b o e n hb (by simp)) (λb o _ hb _ e n=>u.slot b o e n hb (by simp)) (λb o _ e n=>u.free b o e n (by simp)) (λb o _ e=>u.there b o e (by simp)) u.tups u.frzs u.tbls (λm' hm=>by
  obtain⟨o',es',ep',ho',r'⟩:=hm
  rw[ho]at ho';cases ho'
  exact⟨_,es',ep',hL,r'⟩) hok I.bare
theorem Inv.call {g':Array GenState}{t':Nat}{d':Drawn}{ch:List Addr}(I:Inv X pins Z H s)(u:Un (frs X.stack) ch H H' s.heap h')(hok:HOk X.prog X.w H' h')(hg:AllBare g')
  (hch:∀b∈ch,(b∈X.ex∨X.s₀.heap.objs.size<=b)/\b≠X.env.locals/\(∀x c,X.env.cells.lookup x=some c->c≠b)/\∀p∈X.pn++pins,p.1≠b) :
  Inv X pins Z H' {s with heap:=h',gens:=g',drawn:=d',toks:=t'}:=by
 obtain⟨m,⟨o,es,ep,ho,r⟩,_⟩:=id I.loc
 obtain⟨sl,hL⟩:=u.any ho I.free λz=>(hch _ z).2.1 rfl
 exact I.step (ch:=ch) hch (λb o hL hb hc e n=>u.keep b o e n (λz=>(ycM (I.stkSub b z)).elim hL hb) hc) (λb o _ _ hc e n=>u.any e n hc) (λb o hc e n=>u.free b o e n hc) (λb o hc e=>u.there b o e hc) u.tups u.frzs u.tbls (λm' hm=>by
  obtain⟨o',es',ep',ho',r'⟩:=hm
  rw[ho]at ho';cases ho'
  exact⟨_,es',ep',hL,r'⟩) hok hg
theorem Inv.turned {t':Nat}{it:Addr}(I:Inv X pins Z H s)(k:∀b o,b≠it->s.heap.get? b=some o->h'.get? b=some o)(hn:H it=none)(hL:it≠X.env.locals)
  (h1:it∈X.ex∨X.s₀.heap.objs.size<=it) (h2:∀x c,X.env.cells.lookup x=some c->c≠it) (h3:∀p∈X.pn++pins,p.1≠it):Inv X pins Z H {s with heap:=h',toks:=t'}:=by
 have nit:∀b u,H b=some u->b≠it:=λb u e z=>by rw[z,hn]at e;cases e
 refine I.step (g':=s.gens) (d':=s.drawn) (ch:=[it]) (λb hb=>?_) (λb o _ _ hc e _=>k b o (λz=>hc (by simp[z])) e) (λb o _ _ hc e _=>⟨o.slots,k b o (λz=>hc (by simp[z])) e⟩) (λ_ _ _ _ n=>n)
  (λb o hc e=>⟨o,k b o (λz=>hc (by simp[z])) e⟩) (λ_ _ e=>e) (λ_ _ _ e=>e) (λb ps e=>⟨#[],by rw[e];simp⟩) (λm hm=>?_) (λb u e=>?_) I.bare
 ·have e:b=it:=by simpa using hb
  subst e
  exact⟨h1,hL,h2,h3⟩
 ·obtain⟨o,es,ep,ho,r⟩:=hm
  exact⟨o,es,ep,k _ o (Ne.symm hL) ho,r⟩
 ·refine(I.hok b u e).stay (λc v hc q=>k c v ?_ q) (λ_ q=>q) λ_ _ q=>q
  rcases hc with z|z
  ·rw[z];exact nit b u e
  ·exact nit c _ z
theorem Inv.tok (I:Inv X pins Z H s)(t:Nat):Inv X pins Z H {s with toks:=t}:=I.un (h':=s.heap) (t':=t) Un.refl I.hok
theorem Inv.kept {t':Nat}(I:Inv X pins Z H s)(k:∀b u,s.heap.get? b=some u->h'.get? b=some u):Inv X pins Z H {s with heap:=h',toks:=t'}:=I.un (Un.kept k) (I.hok.kept k)
theorem Inv.laid {a:Addr}{o:HO}{t':Nat}(I:Inv X pins Z H s)(k:∀b u,s.heap.get? b=some u->h'.get? b=some u)(hp:s.heap.objs.size<=a)(new:ObjOk X.prog X.w (upd H a o) h' a o) :
  Inv X pins Z (upd H a o) {s with heap:=h',toks:=t'}:=I.un (Un.laid k hp (I.hok.fresh hp)) (I.hok.laid k hp new)
theorem Inv.write {x e:Addr}{o:HO}{t':Nat}(I:Inv X pins Z H s)(mu:Mut (H x))(he:e=x∨H e=some (.own x))(k:∀b u,b≠e->s.heap.get? b=some u->h'.get? b=some u)(heo:∃u,h'.get? e=some u)
  (new:ObjOk X.prog X.w (upd H x o) h' x o):Inv X pins Z (upd H x o) {s with heap:=h',toks:=t'}:=I.un (Un.write mu he k heo) (I.hok.write mu he k heo new)
theorem Inv.weak {Z':List (Option V)}(I:Inv X pins Z H s)(hl:Z'.length=Z.length)(w:∀(i:Nat) v,Z'[i]?=some (some v)->Z[i]?=some (some v)):Inv X pins Z' H s:=
 ⟨I.ok,I.os,I.bare,I.base,let ⟨m,hn,hl'⟩:=I.loc;⟨m,hn,λi x v e1 e2 e3=>hl' i x v e1 (w i v e2) e3⟩,I.cell,I.free,I.freeC,I.pin,I.hok,hl.trans I.len⟩
theorem Inv.pins_of {pins':List (Addr×Obj)}(I:Inv X pins Z H s)(h:∀p∈pins',s.heap.get? p.1=some p.2/\H p.1=none/\p.1≠X.env.locals/\p.1∉X.fs/\∀v,p.2.data ≠ .cell v):Inv X pins' Z H s:=
 ⟨I.ok,I.os,I.bare,I.base,I.loc,I.cell,I.free,I.freeC,λp hp=>(yaM hp).elim (λz=>I.pin p (yaL _ z)) (h p),I.hok,I.len⟩
theorem mr {N:List Str}(hN:N.Nodup){i j:Nat}{x:Str}(a:N[i]?=some x)(b:N[j]?=some x):i=j:=by
 obtain⟨h1,e1⟩:=DB.mp a
 obtain⟨h2,e2⟩:=DB.mp b
 exact(List.getElem_inj hN).mp (e1.trans e2.symm)
theorem kK {M:Model}{A:Around}{E:Value->Shared->Prop}{i:Nat}{x:Str}{v:V}{u:Value}{Q:Unit->Shared->Prop}(I:Inv X pins Z H s)(hN:X.N.Nodup)(hi:X.N[i]?=some x)(hx:Loc X.env.scope x)(r:RelV v u)
  (h:∀s',Inv X pins (Z.set i (some v)) H s'->(∃a,Heap.SameBut a s.heap s'.heap/\(a=X.env.locals∨X.env.cells.lookup x=some a))->Q () s') (hf:X.fn x=true∨X.env.scope.names.lookup x=some .local:=by first|exact .inl rfl|exact .inr rfl|assumption):wpAny M A (storeName X.env x u) Q E s:=by
 obtain⟨m,hn,hl⟩:=id I.loc
 have hcls:(X.env.scope.kind == .class||(X.env.scope.kind == .module&&X.env.locals != X.env.globals))=false:=by rw[I.ok.kind];rfl
 have hiZ:i<Z.length:=by rw[I.len];exact(DB.mp hi).1
 have cne:=I.cne
 have tracked:∀{a:Addr} {h':Heap},(∃o,s.heap.get? a=some o/\H a=none)->Heap.SameBut a s.heap h'->HOk X.prog X.w H h':=λ{a h'} ha hs b ob e=>by
  obtain⟨_,_,hfree⟩:=ha
  refine(I.hok b ob e).stay (λc w' hc q=>(hs.2 c ?_).trans q) (λ_ q=>q) λ_ _ q=>q
  rintro rfl
  rcases hc with rfl|hc
  ·rw[hfree]at e;cases e
  ·rw[hfree]at hc;cases hc
 rcases hx with hk|hk
 ·refine wpAny_storeName_local hk hn (λh' hn' hs=>?_) hcls
  obtain⟨oL,_,_,hoL,_⟩:=id hn
  refine h _ ⟨I.ok,I.os,I.bare,⟨λb o e n hb hx=>?_,λb o e n hb hx=>?_,I.base.free,λb o e hx=>?_,I.base.tups,I.base.frzs,I.base.tbls⟩,⟨_,hn',λj y v' e1 e2 e3=>?_⟩,λy c e=>?_,I.free,I.freeC,λp hp=>?_,tracked ⟨oL,hoL,I.free⟩ hs,by simpa using I.len⟩ ⟨_,hs,.inl rfl⟩
  ·exact(hs.2 b (DV (DX (Heap.lt_size e) I.ok.above))).trans (I.base.keep b o e n hb hx)
  ·obtain⟨sl,e1⟩:=I.base.slot b o e n hb hx
   exact⟨sl,(hs.2 b (DV (DX (Heap.lt_size e) I.ok.above))).trans e1⟩
  ·obtain⟨o',e1⟩:=I.base.there b o e hx
   exact⟨o',(hs.2 b (DV (DX (Heap.lt_size e) I.ok.above))).trans e1⟩
  ·by_cases hj:j=i
   ·subst hj
    rw[hi]at e1;cases e1
    rw[Es hiZ]at e2
    cases e2
    exact⟨u,r,.inl ⟨hk,by simp⟩⟩
   ·rw[DW (Ne.symm hj)]at e2
    obtain⟨u',r',q⟩:=hl j y v' e1 e2 e3
    refine⟨u',r',?_⟩
    rcases q with⟨k,e⟩|⟨k,c,e,z⟩
    ·refine .inl ⟨k,?_⟩
     have:y≠x:=λe=>hj (mr hN e1 (e▸hi))
     simp[this,e]
    ·exact .inr ⟨k,c,e,z.sameBut hs (cne y c e)⟩
  ·obtain⟨w',z⟩:=I.cell y c e
   exact⟨w',z.sameBut hs (cne y c e)⟩
  ·obtain⟨e,n,ne,nf,d⟩:=I.pin p hp
   exact⟨(hs.2 p.1 ne).trans e,n,ne,nf,d⟩
 ·have hfn:X.fn x=true:=by
   rcases hf with z|z
   ·exact z
   ·rw[z]at hk;cases hk
  obtain⟨c,hc⟩:=I.ok.has x (.inl hk)
  obtain⟨w',z⟩:=I.cell x c hc
  refine wpAny_storeName_cell I.ok.kind hk hc z (λh' hc' hs=>?_)
  obtain⟨oc,hoc,hocd⟩:=id z
  refine h {s with heap:=h'} ⟨I.ok,I.os,I.bare,⟨λb o e n hb hx=>?_,λb o e n hb hx=>?_,I.base.free,λb o e hx=>?_,I.base.tups,I.base.frzs,I.base.tbls⟩,⟨m,hn.sameBut hs (Ne.symm (cne x c hc)),λj y v' e1 e2 e3=>?_⟩,λy c' e=>?_,I.free,I.freeC,λp hp=>?_,tracked ⟨oc,hoc,I.freeC x c hc⟩ hs,by simpa using I.len⟩ ⟨c,hs,.inr hc⟩
  ·exact(hs.2 b (DV (DX (Heap.lt_size e) (I.ok.cab x c hfn hc)))).trans (I.base.keep b o e n hb hx)
  ·obtain⟨sl,e1⟩:=I.base.slot b o e n hb hx
   exact⟨sl,(hs.2 b (DV (DX (Heap.lt_size e) (I.ok.cab x c hfn hc)))).trans e1⟩
  ·obtain⟨o',e1⟩:=I.base.there b o e hx
   exact⟨o',(hs.2 b (DV (DX (Heap.lt_size e) (I.ok.cab x c hfn hc)))).trans e1⟩
  ·by_cases hj:j=i
   ·subst hj
    rw[hi]at e1;cases e1
    rw[Es hiZ]at e2
    cases e2
    exact⟨u,r,.inr ⟨.inl hk,c,hc,hc'⟩⟩
   ·rw[DW (Ne.symm hj)]at e2
    obtain⟨u',r',q⟩:=hl j y v' e1 e2 e3
    refine⟨u',r',?_⟩
    rcases q with q|⟨k,c',e,z'⟩
    ·exact .inl q
    ·refine .inr ⟨k,c',e,z'.sameBut hs ?_⟩
     rintro rfl
     exact hj (mr hN e1 (I.ok.inj _ _ _ e hc▸hi))
  ·by_cases hcc:c'=c
   ·subst hcc;exact⟨_,hc'⟩
   ·obtain⟨w2,z2⟩:=I.cell y c' e
    exact⟨w2,z2.sameBut hs hcc⟩
  ·obtain⟨e,n,ne,nf,d⟩:=I.pin p hp
   refine⟨(hs.2 p.1 ?_).trans e,n,ne,nf,d⟩
   intro q
   rw[q,hoc]at e
   have q':oc=p.2:=D5.inj e
   exact d w' (by rw[←q'];exact hocd)
theorem dJ {M:Model}{A:Around}{E:Value->Shared->Prop}{i:Nat}{x:Str}{v:V}{u:Value}{Q:Unit->Shared->Prop}(I:Inv X pins Z H s)(hN:X.N.Nodup)(hi:X.N[i]?=some x)(hx:Loc X.env.scope x)(r:RelV v u)
  (h:∀s',Inv X pins (Z.set i (some v)) H s'->Q () s') (hf:X.fn x=true∨X.env.scope.names.lookup x=some .local:=by first|exact .inl rfl|exact .inr rfl|assumption):wpAny M A (storeName X.env x u) Q E s:=
 kK I hN hi hx r (λs' I' _=>h s' I') hf
theorem Inv.call' {s':Shared}{ch:List Addr}(I:Inv X pins Z H s)(ho:s'.os=s.os)(u:Un (frs X.stack) ch H H' s.heap s'.heap)(hok:HOk X.prog X.w H' s'.heap)(hg:AllBare s'.gens)
  (hch:∀b∈ch,(b∈X.ex∨X.s₀.heap.objs.size<=b)/\b≠X.env.locals/\(∀x c,X.env.cells.lookup x=some c->c≠b)/\∀p∈X.pn++pins,p.1≠b):Inv X pins Z H' s':=by
 obtain⟨h',g',d',t',o'⟩:=s'
 have e:o'=s.os:=ho
 subst e
 exact I.call (g':=g') (t':=t') (d':=d') u hok hg hch
end
abbrev XK:=Value->Option Addr->Hp->Prop
abbrev St:=List (Option V)
abbrev VK:=V->Hp->Prop
abbrev TE:=St->Hp->VK->Prop
abbrev TT:=St->Hp->(Bool->Hp->Prop)->Prop
abbrev TA:=St->Hp->(List V->Hp->Prop)->Prop
structure Ends where
 nx:St->Hp->Prop
 rt:VK
 bk:St->Hp->Prop:=λ_ _=>False
 ct:St->Hp->Prop:=λ_ _=>False
abbrev TS:=Ends->St->Hp->Prop
def EP (X:Cx)(pins:List (Addr×Obj))(Z:St)(Q:VK)(u:Value)(s':Shared):Prop:=∃v H',Inv X pins Z H' s'/\RelV v u/\Q v H'
def TP (X:Cx)(pins:List (Addr×Obj))(Z:St)(Q:Bool->Hp->Prop)(b:Bool)(s':Shared):Prop:=∃H',Inv X pins Z H' s'/\Q b H'
def AP (X:Cx)(pins:List (Addr×Obj))(Z:St)(Q:List V->Hp->Prop)(us:List Value)(s':Shared):Prop:=∃vs H',Inv X pins Z H' s'/\Vals vs us/\Q vs H'
def SP (X:Cx)(pins:List (Addr×Obj))(D:Ends)(f:Flow)(s':Shared):Prop:=
 match f with
 | .next=>∃Z' H',Inv X pins Z' H' s'/\D.nx Z' H'
 | .brk=>∃Z' H',Inv X pins Z' H' s'/\D.bk Z' H'
 | .cont=>∃Z' H',Inv X pins Z' H' s'/\D.ct Z' H'
 | .ret u=>∃v Z' H',Inv X pins Z' H' s'/\RelV v u/\D.rt v H'
def PE (X:Cx)(e:Expr)(t:TE):Prop:=
 ∀(pins:List (Addr×Obj)) (s:Shared) (Z:St) (H:Hp) (Q:VK),Inv X pins Z H s->t Z H Q->wpAny (model X.prog X.w) X.A (eval e X.env) (EP X pins Z Q) X.xe s
def PT (X:Cx)(e:Expr)(t:TT):Prop:=
 ∀(pins:List (Addr×Obj)) (s:Shared) (Z:St) (H:Hp) (Q:Bool->Hp->Prop),Inv X pins Z H s->t Z H Q->wpAny (model X.prog X.w) X.A (isTrue e X.env (eval e X.env)) (TP X pins Z Q) X.xe s
def PW (X:Cx)(e:Expr)(t:TT):Prop:=
 ∀(whole:Sem Value) (pins:List (Addr×Obj)) (s:Shared) (Z:St) (H:Hp) (Q:Bool->Hp->Prop),Inv X pins Z H s->t Z H Q->wpAny (model X.prog X.w) X.A (isTrue e X.env whole) (TP X pins Z Q) X.xe s
theorem PW.pt {X:Cx}{e:Expr}{t:TT}(h:PW X e t):PT X e t:=h _
def PA (X:Cx)(es:List Expr)(t:TA):Prop:=
 ∀(pos:Pos) (pins:List (Addr×Obj)) (s:Shared) (Z:St) (H:Hp) (Q:List V->Hp->Prop),Inv X pins Z H s->t Z H Q->wpAny (model X.prog X.w) X.A (spliced (backTo pos (starEach es X.env))) (AP X pins Z Q) X.xe s
def PS (X:Cx)(st:Stmt)(t:TS):Prop:=
 ∀(pins:List (Addr×Obj)) (s:Shared) (Z:St) (H:Hp) (D:Ends),Inv X pins Z H s->t D Z H->wpAny (model X.prog X.w) X.A (exec st X.env) (SP X pins D) X.xe s
def PSs (X:Cx)(st:List Stmt)(t:TS):Prop:=
 ∀(pins:List (Addr×Obj)) (s:Shared) (Z:St) (H:Hp) (D:Ends),Inv X pins Z H s->t D Z H->wpAny (model X.prog X.w) X.A (execs st X.env) (SP X pins D) X.xe s
theorem thn {α:Type}{t:Sem α}{Q Q' : α->Shared->Prop}{M:Model}{A:Around}{E:Value->Shared->Prop}{s:Shared}(h:wpAny M A t Q E s)(hQ:∀a s,Q a s->Q' a s):wpAny M A t Q' E s:=wpAny_mono h hQ λ_ _ x=>x
section
variable  {X:Cx}
theorem bin {a b:Expr}{ta tb:TE}(ha:PE X a ta)(hb:PE X b tb){pins:List (Addr×Obj)}{s:Shared}{Z:St}{H:Hp}{R:V->V->Hp->Prop}(I:Inv X pins Z H s)(h:ta Z H λx H1=>tb Z H1 λy H2=>R x y H2)
  {α:Type} {Q : α->Shared->Prop} {f:Value->Value->Sem α}
  (hf:∀v u s2 x y H2,Inv X pins Z H2 s2->RelV x v->RelV y u->R x y H2->wpAny (model X.prog X.w) X.A (f v u) Q X.xe s2) :
  wpAny (model X.prog X.w) X.A (eval a X.env) (λv s₁=>wpAny (model X.prog X.w) X.A (eval b X.env) (λu s₂=>wpAny (model X.prog X.w) X.A (f v u) Q X.xe s₂) X.xe s₁) X.xe s:=by
 refine thn (ha pins s Z H _ I h) λv s1 ⟨x,H1,I1,r1,q1⟩=>?_
 refine thn (hb pins s1 Z H1 _ I1 q1) λu s2 ⟨y,H2,I2,r2,q2⟩=>?_
 exact hf v u s2 x y H2 I2 r1 r2 q2
def wW (i:Nat):TE:=λZ H Q=>∃v,Z[i]?=some (some v)/\Q v H
def tC (v:V):TE:=λ_ H Q=>Q v H
theorem nN {i:Nat}{x:Str}{pos:Pos}(hN:X.N[i]?=some x)(hv:Vis X.env.scope x)(hd:(x==("__debug__" : Str))=false:=by decide)(hcd:(x==("__classdict__" : Str))=false:=by decide):PE X (.Name x pos) (wW i):=by
 intro pins s Z H Q I h
 obtain⟨v,e,h⟩:=h
 obtain⟨m,hn,hl⟩:=I.loc
 obtain⟨u,r,l⟩:=hl i x v hN e hv
 have fin:EP X pins Z Q u s:=⟨v,H,I,r,h⟩
 rcases l with⟨hk,hm⟩|⟨hk,c,hc,hcell⟩
 ·exact wpAny_Name (wpAny_loadName_local I.ok.kind hk hn hm fin) hd
 ·rcases hk with hk|hk
  ·exact wpAny_Name (wpAny_loadName_cell I.ok.kind hk hc hcell fin) hd
  ·exact wpAny_Name (wpAny_loadName_free I.ok.kind hk hc hcell fin hcd) hd
theorem sA {i j pos}:PE X (.Constant (.int i) j pos) (tC (.int i)):=λ_ _ _ H _ I h=>wpAny_Constant_int ⟨.int i,H,I.tok _,⟨_,rfl⟩,h⟩
theorem BK {b j pos}:PE X (.Constant (.bool b) j pos) (tC (.bl b)):=λ_ _ _ H _ I h=>Constant_bool ⟨.bl b,H,I,rfl,h⟩
theorem zk {x j pos}:PE X (.Constant (.str x) j pos) (tC (.str x)):=λ_ _ _ H _ I h=>Calls.Constant_str ⟨.str x,H,I.tok _,⟨_,rfl⟩,h⟩
def Gl (X:Cx)(x:Str):Prop:=X.env.kindOf x=some .globalImplicit
theorem vd {E:Value->Shared->Prop}{pins:List (Addr×Obj)}{s:Shared}{Z:St}{H:Hp}{x:Str}{u:Value}{pos:Pos}{Q:Value->Shared->Prop}(I:Inv X pins Z H s)(hg:Gl X x)(hm:X.mg x=some u)(h:Q u s)
  (hd:(x==("__debug__" : Str))=false:=by decide):wpAny (model X.prog X.w) X.A (eval (.Name x pos) X.env) Q E s:=
 Calls.Name_function_global I.ok.kind hg (Calls.loadGlobal_global (by rw[I.ok.glob];exact I.mod.glob.keeps I.bk) hm h) hd
theorem il {E:Value->Shared->Prop}{pins:List (Addr×Obj)}{s:Shared}{Z:St}{H:Hp}{x:Str}{u:Value}{pos:Pos}{Q:Value->Shared->Prop}(I:Inv X pins Z H s)(hg:Gl X x)(hm:X.mg x=none)(hv:bootBuiltins x=some u)(h:Q u s)
  (hn:x ≠ "__name__" :=by decide) (hd:(x==("__debug__" : Str))=false:=by decide):wpAny (model X.prog X.w) X.A (eval (.Name x pos) X.env) Q E s:=by
 obtain⟨mb,h1,h2⟩:=I.mod.blt
 exact Calls.Name_function_global I.ok.kind hg (Calls.loadGlobal_builtin (by rw[I.ok.glob];exact I.mod.glob.keeps I.bk) hm (by rw[I.ok.blt];exact h1.keeps I.bk) ((h2 x hn).trans hv) h) hd
theorem lv {x:Str}{v:V}{u:Value}{pos:Pos}(hg:Gl X x)(hm:X.mg x=none)(hv:bootBuiltins x=some u)(r:RelV v u)(hn:x ≠ "__name__" :=by decide)(hd:(x==("__debug__" : Str))=false:=by decide):PE X (.Name x pos) (tC v):=
 λ_ _ _ H _ I h=>il I hg hm hv ⟨v,H,I,r,h⟩ hn hd
variable  {a b:Expr}{ta tb:TE}{pos:Pos}
def PC (X:Cx)(op:CmpOp)(a b:Expr)(t:TE):Prop:=
 ∀(pins:List (Addr×Obj)) (s:Shared) (Z:St) (H:Hp) (Q:VK),Inv X pins Z H s->t Z H Q →
  wpAny (model X.prog X.w) X.A (eval a X.env) (λv s₁=>wpAny (model X.prog X.w) X.A (eval b X.env) (λu s₂=>wpAny (model X.prog X.w) X.A (compareOp op v u) (EP X pins Z Q) X.xe s₂) X.xe s₁) X.xe s
def tB (t:TE):TT:=λZ H Q=>t Z H λx H1=>∃c,x=.bl c/\Q c H1
theorem pt_cmp {op:CmpOp}{t:TE}(h:PC X op a b t)(h1:behindInMarks op b=false:=by first|exact nobehind _ (by decide) (by decide)|rfl):PT X (.Compare a [op] [b] pos) (tB t):=by
 intro pins s Z H Q I hw
 refine wpAny_isTrue_Compare1 (thn (h pins s Z H _ I hw) λv s1 h1=>thn h1 λu s2 h2=>thn h2 λc s3 ⟨x,H1,I1,r1,q1⟩=>?_) h1
 obtain⟨d,rfl,q⟩:=q1
 cases r1
 exact wpAny_truthy_bool ⟨H1,I1,q⟩
theorem zA {e:Expr}{t:TE}(h:PE X e t)(he:∀whole,isTrue e X.env whole=(do let v ←whole;standAt e.pos;holding [v] (truthy v)):=by intro _;rfl):PT X e (tB t):=by
 intro pins s Z H Q I hw
 refine isTrue_plain (thn (h pins s Z H _ I hw) λv s1 ⟨x,H1,I1,r1,q1⟩=>?_) (he _)
 obtain⟨d,rfl,q⟩:=q1
 cases r1
 exact wpAny_truthy_bool ⟨H1,I1,q⟩
variable  {tA tB':TT}{rest:List Expr}
def Cz (t u:TT):TT:=λZ H Q=>t Z H λc H1=>if c=true then u Z H1 Q else Q false H1
def tOr (t u:TT):TT:=λZ H Q=>t Z H λc H1=>if c=true then Q true H1 else u Z H1 Q
def CH (t:TT):TT:=λZ H Q=>t Z H λc H1=>Q (!c) H1
theorem wa (ha:PT X a tA):PW X (.BoolOp .And [a] pos) tA:=by
 intro wh pins s Z H Q I h
 refine isTrue_and (thn (ha pins s Z H Q I h) λc s1 e=>?_)
 cases c with
 | true=>exact isTrue_and_nil e
 | false=>exact e
theorem zD (ha:PT X a tA):PW X (.BoolOp .Or [a] pos) tA:=by
 intro wh pins s Z H Q I h
 refine isTrue_or (thn (ha pins s Z H Q I h) λc s1 e=>?_)
 cases c with
 | false=>exact isTrue_or_nil e
 | true=>exact e
theorem zC (ha:PT X a tA)(hb:PW X (.BoolOp .And (b::rest) pos) tB'):PW X (.BoolOp .And (a::b::rest) pos) (Cz tA tB'):=by
 intro wh pins s Z H Q I h
 refine isTrue_and (thn (ha pins s Z H _ I h) λc s1 ⟨H1,I1,q1⟩=>?_)
 cases c with
 | true=>exact hb wh pins s1 Z H1 Q I1 q1
 | false=>exact⟨H1,I1,q1⟩
theorem BR (ha:PT X a tA)(hb:PW X (.BoolOp .Or (b::rest) pos) tB'):PW X (.BoolOp .Or (a::b::rest) pos) (tOr tA tB'):=by
 intro wh pins s Z H Q I h
 refine isTrue_or (thn (ha pins s Z H _ I h) λc s1 ⟨H1,I1,q1⟩=>?_)
 cases c with
 | true=>exact⟨H1,I1,q1⟩
 | false=>exact hb wh pins s1 Z H1 Q I1 q1
theorem zz (ha:PT X a tA):PT X (.UnaryOp .Not a pos) (CH tA):=by
 intro pins s Z H Q I h
 exact isTrue_not (ha pins s Z H (λc H1=>Q (!c) H1) I h)
def xL (ta tb:TE):TE:=λZ H Q=>ta Z H λx H1=>∃c,x=.bl c/\if c=true then tb Z H1 Q else Q (.bl false) H1
def xO (ta:TE):TE:=λZ H Q=>ta Z H λx H1=>∃c,x=.bl c/\Q (.bl (!c)) H1
theorem zj {op}{t:TE}(h:PE X a t):PE X (.BoolOp op [a] pos) t:=λpins s Z H Q I hw=>BoolOp_one (h pins s Z H Q I hw)
theorem ze (ha:PE X a ta)(hb:PE X (.BoolOp .And (b::rest) pos) tb):PE X (.BoolOp .And (a::b::rest) pos) (xL ta tb):=by
 intro pins s Z H Q I h
 refine BoolOp_and (thn (ha pins s Z H _ I h) λv s1 ⟨x,H1,I1,r1,q1⟩=>?_)
 obtain⟨c,rfl,q1⟩:=q1
 cases r1
 refine wpAny_truthy_bool ?_
 cases c with
 | true=>exact hb pins s1 Z H1 Q I1 q1
 | false=>exact⟨.bl false,H1,I1,rfl,q1⟩
theorem zi (ha:PE X a ta):PE X (.UnaryOp .Not a pos) (xO ta):=by
 intro pins s Z H Q I h
 refine UnaryOp_ (thn (ha pins s Z H _ I h) λv s1 ⟨x,H1,I1,r1,q1⟩=>?_)
 obtain⟨c,rfl,q1⟩:=q1
 cases r1
 exact not_of (wpAny_truthy_bool ⟨.bl (!c),H1,I1,rfl,q1⟩)
end
def SqL (K:yF)(H:Hp)(a:Addr)(xs:List V):Prop:=
 Rd H a (.lst xs) ∨
  ∃(o:Obj) (its:Array Value) (n:Nat),K.lookup a=some o/\o.cls=.type "list" ∧ o.dict=none/\o.data=.seq its n/\its.size<=sizeLine/\Vals xs its.toList
def SqT (K:yF)(H:Hp)(a:Addr)(xs:List V):Prop:=
 Rd H a (.tup xs) ∨
  ∃(o:Obj) (its:Array Value) (n:Nat),K.lookup a=some o/\(o.cls=.type "tuple" ∧ o.dict=none)/\o.data=.seq its n/\its.size<=sizeLine/\Vals xs its.toList
noncomputable def C3:Value->Option V
 | .none=>some .non
 | .bool b=>some (.bl b)
 | .int i _=>some (.int i)
 | .str x _=>some (.str x)
 | .bytes b _=>some (.byt b)
 | .float b _=>some (.flt b)
 | .ref a=>some (.ref a)
 | .type n=>some (.ty n)
 | _=>none
theorem RelV.abs {x:V}{u:Value}(r:RelV x u):C3 u=some x:=by
 cases x with
 | non=>cases r;rfl
 | bl _=>cases r;rfl
 | int _=>obtain⟨t,rfl⟩:=r;rfl
 | str _=>obtain⟨t,rfl⟩:=r;rfl
 | byt _=>obtain⟨t,rfl⟩:=r;rfl
 | flt _=>obtain⟨t,rfl⟩:=r;rfl
 | ref _=>cases r;rfl
 | ty _=>cases r;rfl
theorem RelV.inj {x y:V}{u:Value}(r:RelV x u)(q:RelV y u):x=y:=D5.inj (r.abs.symm.trans q.abs)
theorem Vals.inj:∀{xs ys:List V} {us:List Value},Vals xs us->Vals ys us->xs=ys
 | _,_,_,.nil,.nil=>rfl
 | _,_,_,.cons r t,.cons r' t'=>by rw[r.inj r',Vals.inj t t']
section
variable  {X:Cx}{pins:List (Addr×Obj)}{Z:St}{H:Hp}{s:Shared}{a:Addr}{xs ys:List V}
theorem SqL.of {K:yF}(h:H a=some (.lst xs)):SqL K H a xs:=.inl (.inl h)
theorem SqT.of {K:yF}(h:H a=some (.tup xs)):SqT K H a xs:=.inl (.inl h)
theorem Inv.list (I:Inv X pins Z H s)(h:SqL X.K H a xs):∃its:List Value,Vals xs its/\PlainL s.heap a its.toArray/\xs.length<=sizeLine:=by
 rcases h with h|⟨o,its,n,hk,hc,hd,hs,hz,r⟩
 ·obtain⟨z,its,n,r,e⟩:=h.ok I.hok
  exact⟨its,r,⟨_,n,e,rfl,rfl,rfl⟩,z⟩
 ·refine⟨its.toList,r,⟨o,n,I.kIn a o hk,hc,hd,by simpa using hs⟩,?_⟩
  have e:=r.length
  simp only[EI]at e
  omega
theorem Inv.tuple (I:Inv X pins Z H s)(h:SqT X.K H a xs):∃its:List Value,Vals xs its/\IsTup s.heap a its.toArray/\xs.length<=sizeLine:=by
 rcases h with h|⟨o,its,n,hk,hc,hs,hz,r⟩
 ·obtain⟨z,its,r,p⟩:=h.ok I.hok
  exact⟨its,r,p.to,z⟩
 ·refine⟨its.toList,r,⟨o,I.kIn a o hk,hc.1,n,by simpa using hs⟩,?_⟩
  have e:=r.length
  simp only[EI]at e
  omega
theorem Inv.list_inj (I:Inv X pins Z H s)(h:SqL X.K H a xs)(h':SqL X.K H a ys):xs=ys:=by
 obtain⟨its,r,⟨o,n,e,_,_,d⟩,_⟩:=I.list h
 obtain⟨its',r',⟨o',n',e',_,_,d'⟩,_⟩:=I.list h'
 rw[e]at e';cases e'
 rw[d]at d'
 injection d' with d1 _
 have:its=its':=by simpa using congrArg G7 d1
 subst this
 exact r.inj r'
theorem Inv.tuple_inj (I:Inv X pins Z H s)(h:SqT X.K H a xs)(h':SqT X.K H a ys):xs=ys:=by
 obtain⟨its,r,⟨o,e,_,n,d⟩,_⟩:=I.tuple h
 obtain⟨its',r',⟨o',e',_,n',d'⟩,_⟩:=I.tuple h'
 rw[e]at e';cases e'
 rw[d]at d'
 injection d' with d1 _
 have:its=its':=by simpa using congrArg G7 d1
 subst this
 exact r.inj r'
end
noncomputable abbrev Cx.wish (X:Cx) (E:Value->Shared->Prop):Cx:={X with xe:=E}
noncomputable abbrev Cx.nox (X:Cx):Cx:=X.wish λ_ _=>False
theorem Cx.Ok.wish {X:Cx}(ok:X.Ok)(E:Value->Shared->Prop):(X.wish E).Ok:=
 ⟨ok.mod,ok.kind,ok.glob,ok.blt,ok.above,ok.inj,ok.has,ok.cab,ok.hd,ok.frames,ok.stk,ok.exf,ok.bs,ok.bsz,ok.noex,ok.exfs,ok.funs,ok.frf⟩
theorem Cx.Ok.unwish {X:Cx}{E:Value->Shared->Prop}(ok:(X.wish E).Ok):X.Ok:=
 ⟨ok.mod,ok.kind,ok.glob,ok.blt,ok.above,ok.inj,ok.has,ok.cab,ok.hd,ok.frames,ok.stk,ok.exf,ok.bs,ok.bsz,ok.noex,ok.exfs,ok.funs,ok.frf⟩
section
variable  {X:Cx}{pins:List (Addr×Obj)}{Z:St}{H:Hp}{s:Shared}{E:Value->Shared->Prop}
theorem Inv.wish (I:Inv X pins Z H s)(E:Value->Shared->Prop):Inv (X.wish E) pins Z H s:=⟨I.ok.wish E,I.os,I.bare,I.base,I.loc,I.cell,I.free,I.freeC,I.pin,I.hok,I.len⟩
theorem Inv.unwish (I:Inv (X.wish E) pins Z H s):Inv X pins Z H s:=⟨I.ok.unwish,I.os,I.bare,I.base,I.loc,I.cell,I.free,I.freeC,I.pin,I.hok,I.len⟩
theorem SP.unwish {D:Ends}{f:Flow}{s':Shared}(h:SP (X.wish E) pins D f s'):SP X pins D f s':=by
 cases f with
 | next=>obtain⟨Z',H',I,q⟩:=h;exact⟨Z',H',I.unwish,q⟩
 | brk=>obtain⟨Z',H',I,q⟩:=h;exact⟨Z',H',I.unwish,q⟩
 | cont=>obtain⟨Z',H',I,q⟩:=h;exact⟨Z',H',I.unwish,q⟩
 | ret u=>obtain⟨v,Z',H',I,r,q⟩:=h;exact⟨v,Z',H',I.unwish,r,q⟩
theorem PSs.nox {st:List Stmt}{t:TS}(h:PSs X.nox st t):PSs X st t:=λpins s Z H D I hw=>
 wpAny_mono (h pins s Z H D (I.wish _) hw) (λ_ _ q=>q.unwish) λ_ _ z=>False.elim z
end
section
variable  {X:Cx}{st:Stmt}{rest:List Stmt}{t u:TS}{e:Expr}{te:TE}{pos:Pos}
def xN:TS:=λD Z H=>D.nx Z H
def CL (t u:TS):TS:=λD Z H=>t {D with nx:=u D} Z H
theorem vU:PSs X [] xN:=λ_ _ Z H _ I h=>wpAny_execs_nil ⟨Z,H,I,h⟩
theorem tf (h1:PS X st t)(h2:PSs X rest u):PSs X (st::rest) (CL t u):=by
 intro pins s Z H D I h
 refine wpAny_execs_cons (thn (h1 pins s Z H {D with nx:=u D} I h) λf s1 q=>?_)
 cases f with
 | next=>
  obtain⟨Z',H',I',q⟩:=q
  exact h2 pins s1 Z' H' D I' q
 | ret v=>exact q
 | brk=>exact q
 | cont=>exact q
theorem vV (h1:PS X st t):PSs X [st] t:=by
 intro pins s Z H D I h
 refine wpAny_execs_cons (thn (h1 pins s Z H D I h) λf s1 q=>?_)
 cases f with
 | next=>exact wpAny_execs_nil q
 | ret v=>exact q
 | brk=>exact q
 | cont=>exact q
theorem Inv.quiet {pins:List (Addr×Obj)}{Z:St}{H:Hp}{s:Shared}(I:Inv X pins Z H s):interactive X.env=false:=by simp[interactive,I.ok.kind]
def xM (te:TE):TS:=λD Z H=>te Z H λ_ H1=>D.nx Z H1
theorem vS (he:PE X e te)(hs:swapsWith e none pos.line X.env=pure false:=by rfl):PS X (.Expr e pos) (xM te):=by
 intro pins s Z H D I h
 exact wpAny_Expr_any (thn (he pins s Z H _ I h) λv s1 ⟨x,H1,I1,r1,q1⟩=>⟨Z,H1,I1,q1⟩) I.quiet hs
def CJ (te:TE):TS:=λD Z H=>te Z H D.rt
theorem zx (he:PE X e te):PS X (.Return (some e) pos) (CJ te):=by
 intro pins s Z H D I h
 exact wpAny_Return_some (thn (he pins s Z H _ I h) λv s1 ⟨x,H1,I1,r1,q1⟩=>⟨x,Z,H1,I1,r1,q1⟩)
def CD (c:TT)(t u:TS):TS:=λD Z H=>c Z H λb H1=>if b=true then t D Z H1 else u D Z H1
theorem BQ {c:Expr}{a b:List Stmt}{tc:TT}(hc:PT X c tc)(ha:PSs X a t)(hb:PSs X b u):PS X (.If c a b pos) (CD tc t u):=by
 intro pins s Z H D I h
 refine wpAny_If (thn (hc pins s Z H _ I h) λd s1 ⟨H1,I1,q1⟩=>?_)
 cases d with
 | true=>exact ha pins s1 Z H1 D I1 q1
 | false=>exact hb pins s1 Z H1 D I1 q1
end
abbrev TG:=V->St->Hp->(St->Hp->Prop)->Prop
abbrev TGs:=List V->St->Hp->(St->Hp->Prop)->Prop
def PG (X:Cx)(target:Expr)(t:TG):Prop:=
 ∀(pins:List (Addr×Obj)) (s:Shared) (Z:St) (H:Hp) (v:V) (u:Value) (Q:St->Hp->Prop),Inv X pins Z H s->RelV v u->t v Z H Q →
  wpAny (model X.prog X.w) X.A (assign target X.env u) (λ_ s'=>∃Z' H',Inv X pins Z' H' s'/\Q Z' H') X.xe s
def PGs (X:Cx)(ts:List Expr)(t:TGs):Prop:=
 ∀(pins:List (Addr×Obj)) (s:Shared) (Z:St) (H:Hp) (vs:List V) (us:List Value) (Q:St->Hp->Prop),Inv X pins Z H s->Vals vs us->t vs Z H Q →
  wpAny (model X.prog X.w) X.A (assignInOrder ((assignEach ts X.env).map (·.2)) us) (λ_ s'=>∃Z' H',Inv X pins Z' H' s'/\Q Z' H') X.xe s
abbrev xV:=V->V->V->Hp->(Hp->Prop)->Prop
def AV (X:Cx)(t:xV):Prop:=
 ∀(pins:List (Addr×Obj)) (s:Shared) (Z:St) (H:Hp) (o i v:V) (ov iv u:Value) (Q:Hp->Prop),Inv X pins Z H s->RelV o ov->RelV i iv->RelV v u->t o i v H Q →
  wpAny (model X.prog X.w) X.A (setItem ov iv u) (λ_ s'=>∃H',Inv X pins Z H' s'/\Q H') X.xe s
section
variable  {X:Cx}{pos:Pos}
def ki (i:Nat):TG:=λv Z H Q=>Q (Z.set i (some v)) H
theorem vH {i:Nat}{x:Str}(hN:X.N.Nodup)(hi:X.N[i]?=some x)(hx:Loc X.env.scope x)(hf:X.fn x=true∨X.env.scope.names.lookup x=some .local:=by first|exact .inl rfl|exact .inr rfl|assumption):PG X (.Name x pos) (ki i):=by
 intro pins s Z H v u Q I r h
 exact wpAny_assign_Name (dJ I hN hi hx r (λs' I'=>⟨_,H,I',h⟩) hf)
def yj:TGs:=λvs Z H Q=>vs=[]/\Q Z H
def rE (t:TG)(u:TGs):TGs:=λvs Z H Q=>∃v r,vs=v::r/\t v Z H λZ' H'=>u r Z' H' Q
theorem vI:PGs X [] yj:=by
 intro pins s Z H vs us Q I r h
 obtain⟨e,h⟩:=h
 subst e
 cases r
 exact assignInOrder_nil ⟨Z,H,I,h⟩
theorem sE {e:Expr}{es:List Expr}{t:TG}{u:TGs}(h1:PG X e t)(h2:PGs X es u)
  (hs:(assignEach (e::es) X.env).map (·.2)=assign e X.env::(assignEach es X.env).map (·.2):=by rfl):PGs X (e::es) (rE t u):=by
 intro pins s Z H vs us Q I r h
 obtain⟨v,vr,e1,h⟩:=h
 subst e1
 cases r with
 | cons r rr=>
  rw[hs]
  refine assignInOrder_cons (thn (h1 pins s Z H _ _ _ I r h) λ_ s1 ⟨Z1,H1,I1,q1⟩=>?_)
  exact h2 pins s1 Z1 H1 _ _ Q I1 rr q1
def uZ (K:yF)(n:Nat)(t:TGs):TG:=λv Z H Q=>∃a xs,v=.ref a/\SqT K H a xs/\xs.length=n/\t xs Z H Q
theorem zn {es:List Expr}{k:Nat}{t:TGs}{n:Nat}(hc:X.calm=true)(h:PGs X es t)
  (hn:(assignEach es X.env).length=n:=by rfl) (hst:(assignEach es X.env).findIdx? (·.1)=none:=by rfl):PG X (.Tuple es k pos) (uZ X.K n t):=by
 intro pins s Z H v u Q I r hw
 obtain⟨a,xs,e1,hq,hl,hw⟩:=hw
 subst e1
 cases r
 obtain⟨its,rv,ht,hz⟩:=I.tuple hq
 refine assign_Tuple_tuple (I.ok.hd hc) ht (by simp[hn,←hl,rv.length]) hst λh' hx=>?_
 have I1:Inv X pins Z H {s with heap:=h'}:=I.kept (t':=s.toks) λb o e=>hx b o (DV (Heap.lt_size e)) e
 exact h pins _ Z H xs _ Q I1 (by simpa using rv) hw
def A8 (to ti:TE)(t:xV):TG:=λv Z H Q=>to Z H λo H1=>ti Z H1 λi H2=>t o i v H2 λH3=>Q Z H3
theorem zm {o i:Expr}{to ti:TE}{t:xV}(ho:PE X o to)(hi:PE X i ti)(hs:AV X t)
  (ha:∀v,assign (.Subscript o i pos) X.env v=(do
   let ov ←holding [v] (eval o X.env)
   let iv ←holding [v,ov] (eval i X.env)
   standAt pos
   holding [v,ov,iv] (setItem ov iv v)
   release [v,ov,iv] []):=by intro _;rfl):PG X (.Subscript o i pos) (A8 to ti t):=by
 intro pins s Z H v u Q I r h
 rw[ha]
 refine wpAny_bind (wpAny_holding (thn (ho pins s Z H _ I h) λov s1 ⟨x,H1,I1,r1,q1⟩=>?_))
 refine wpAny_bind (wpAny_holding (thn (hi pins s1 Z H1 _ I1 q1) λiv s2 ⟨y,H2,I2,r2,q2⟩=>?_))
 refine wpAny_bind (wpAny_standAt (wpAny_bind (wpAny_holding (thn (hs pins s2 Z H2 x y v ov iv u _ I2 r1 r2 r q2) λ_ s3 ⟨H3,I3,q3⟩=>?_))))
 exact wpAny_release ⟨Z,H3,I3,q3⟩
def wV (te:TE)(g:TG):TS:=λD Z H=>te Z H λx H1=>g x Z H1 D.nx
theorem zu {tg e:Expr}{te:TE}{g:TG}(he:PE X e te)(hg:PG X tg g)(hs:swapsWithSole [tg] e pos.line X.env=pure false:=by rfl)(hw:swappedStores [tg] e X.env=pure none:=by rfl)
  (h1:(assignEach [tg] X.env).map (·.2)=[assign tg X.env]:=by rfl):PS X (.Assign [tg] e pos) (wV te g):=by
 intro pins s Z H D I h
 refine wpAny_Assign_stores (thn (he pins s Z H _ I h) λv s1 ⟨x,H1,I1,r1,q1⟩=>?_) hs hw
 rw[h1]
 exact thn (hg pins s1 Z H1 x v _ I1 r1 q1) λ_ s2 q=>q
theorem zy {i:Nat}{x:Str}{e:Expr}{te:TE}{pos':Pos}(hN:X.N.Nodup)(hi:X.N[i]?=some x)(hx:Loc X.env.scope x)(he:PE X e te)(hs:swapsWith e (some (.Name x pos')) pos.line X.env=pure false:=by rfl)(hf:X.fn x=true∨X.env.scope.names.lookup x=some .local:=by first|exact .inl rfl|exact .inr rfl|assumption) :
  PS X (.Assign [.Name x pos'] e pos) (wV te (ki i)):=by
 intro pins s Z H D I h
 refine wpAny_Assign_Name (thn (he pins s Z H _ I h) λv s1 ⟨y,H1,I1,r1,q1⟩=>?_) hs
 exact dJ I1 hN hi hx r1 (λs2 I2=>⟨_,H1,I2,q1⟩) hf
def CI (i j:Nat)(ta:TA):TS:=λD Z H=>ta Z H λvs H1=>∃v w,vs=[v,w]/\D.nx ((Z.set i (some v)).set j (some w)) H1
theorem zw {i j:Nat}{x y:Str}{a b:Expr}{ta:TA}{px py pt:Pos}{kt k2 pt2}(hc:X.calm=true)(hN:X.N.Nodup)(hi:X.N[i]?=some x)(hj:X.N[j]?=some y)(hij:i≠j)
  (hx:X.env.scope.names.lookup x=some .local) (hy:X.env.scope.names.lookup y=some .local) (ha:PA X [a,b] ta)
  (hw:swappedStores [.Tuple [.Name x px,.Name y py] kt pt] (.Tuple [a,b] k2 pt2) X.env=pure (some [x,y]))
  (hs:swapsWithSole [.Tuple [.Name x px,.Name y py] kt pt] (.Tuple [a,b] k2 pt2) pos.line X.env=pure false:=by rfl) :
  PS X (.Assign [.Tuple [.Name x px,.Name y py] kt pt] (.Tuple [a,b] k2 pt2) pos) (CI i j ta):=by
 intro pins s Z H D I h
 rw[exec_Assign_arm]
 refine wpAny_bind (wpAny_standAt ?_)
 rw[hs]
 refine wpAny_bind (wpAny_pure ?_)
 rw[if_neg (by decide)]
 refine wpAny_bind (Tuple_ (thn (ha _ pins s Z H _ I h) λus s1 ⟨vs,H1,I1,r1,q1⟩=>?_))
 obtain⟨v,w,e1,q1⟩:=q1
 subst e1
 obtain⟨u1,u2,rfl,rv,rw'⟩:∃u1 u2,us=[u1,u2]/\RelV v u1/\RelV w u2:=by
  cases r1 with
  | cons p q=>
   cases q with
   | cons p' q'=>
    cases q'
    exact⟨_,_,rfl,p,p'⟩
 refine wpAny_newObj_type ?_ (by show 2<=sizeLine;decide)
 have I2:Inv X pins Z H1 {s1 with heap:=s1.heap.push {cls:=.type "tuple",data:=.seq [u1,u2].toArray}}:=I1.kept (t':=s1.toks) λb o e=>Heap.get?_push_of_some _ e
 rw[hw]
 refine wpAny_bind (wpAny_pure ?_)
 show wpAny (model X.prog X.w) X.A (do rule "assign.swapped-stores";let items ←unpackItems (.ref s1.heap.objs.size) 2 none;assignInOrder [λv=>bindName X.env y v,λv=>bindName X.env x v] items.reverse;pure Flow.next) _ _ _
 refine wpAny_bind (wpAny_rule (wpAny_bind (unpackItems_tuple (items:=#[u1,u2]) (I.ok.hd hc) (IsTup.new s1.heap _) λh' hx'=>?_)))
 have I3:=I2.kept (h':=h') (t':=s1.toks) λb o e=>hx' b o (DV (Heap.lt_size e)) e
 show wpAny _ _ (assignInOrder [λv=>bindName X.env y v,λv=>bindName X.env x v] [u2,u1] >>= λ_=>pure Flow.next) _ _ _
 refine wpAny_bind (assignInOrder_cons (wpAny_bindName (dJ I3 hN hj (.inl hy) rw' (λs2 I4=>?_) (.inr hy))))
 refine assignInOrder_cons (wpAny_bindName (dJ I4 hN hi (.inl hx) rv (λs3 I5=>assignInOrder_nil (wpAny_pure ?_)) (.inr hx)))
 rw[FO _ _ (Ne.symm hij)]at I5
 exact⟨_,H1,I5,q1⟩
end
section
variable  {X:Cx}{pos:Pos}
def ux (c:TT)(tb:TS):TS:=λD Z H=>∃W:Nat->St->Hp->Prop,(∃m,W m Z H)/\∀m Z H,W m Z H →
 c Z H λb H1=>if b=true then∃N:St->Hp->Prop,(∀Z' H',N Z' H'->∃m',m'<m/\W m' Z' H')/\tb {D with nx:=N,ct:=N,bk:=D.nx} Z H1 else D.nx Z H1
theorem sZ {c:Expr}{body:List Stmt}{tc:TT}{tb:TS}(hp:PassesOwn (model X.prog X.w) X.A X.env X.xe)(hc:PT X c tc)(hb:PSs X body tb):PS X (.While c body [] pos) (ux tc tb):=by
 intro pins s Z H D I h
 obtain⟨W,⟨m0,w0⟩,turn⟩:=h
 refine wpAny_While (codeAny_whileLoop (λn s'=>∃Z' H',Inv X pins Z' H' s'/\W n Z' H') ?_ m0 ⟨Z,H,I,w0⟩)
 rintro n s1 ⟨Z1,H1,I1,w1⟩
 refine wpAny_passesOwn hp (thn (hc pins s1 Z1 H1 _ I1 (turn n Z1 H1 w1)) λb s2 ⟨H2,I2,q2⟩=>?_)
 cases b with
 | true=>
  obtain⟨N,hN,q2⟩:=q2
  rw[if_pos rfl]
  refine wpAny_passesOwn hp (thn (hb pins s2 Z1 H2 _ I2 q2) λf s3 q3=>?_)
  cases f with
  | next=>
   obtain⟨Z3,H3,I3,n3⟩:=q3
   obtain⟨m',hm,w3⟩:=hN Z3 H3 n3
   exact⟨m',hm,Z3,H3,I3,w3⟩
  | cont=>
   obtain⟨Z3,H3,I3,n3⟩:=q3
   obtain⟨m',hm,w3⟩:=hN Z3 H3 n3
   exact⟨m',hm,Z3,H3,I3,w3⟩
  | brk=>exact q3
  | ret v=>exact q3
 | false=>
  rw[if_neg DN]
  exact wpAny_execs_nil ⟨Z1,H2,I2,q2⟩
end
structure It where
 go:Nat->Hp->Prop
 yld:Nat->Hp->V->Hp->Prop
 stop:Nat->Hp->Prop
def eg (X:Cx)(pins:List (Addr×Obj))(H:Hp)(b:Addr):Prop:=
 H b=none/\b≠X.env.locals/\b∉X.fs/\(b∈X.ex∨X.s₀.heap.objs.size<=b)/\(∀x c,X.env.cells.lookup x=some c->c≠b)/\∀p∈X.pn++pins,p.1≠b
theorem Inv.fpOk {X:Cx}{pins:List (Addr×Obj)}{Z:St}{H H':Hp}{s:Shared}{b:Addr}(I:Inv X pins Z H s)(hb:s.heap.objs.size<=b)(hn:H' b=none):eg X pins H' b:=by
 refine⟨hn,Fi (DX I.lt hb),I.nofs hb,.inr (Ek I.sz hb),λx c e z=>?_,λp hp z=>?_⟩
 ·obtain⟨v,q⟩:=I.cell x c e
  exact absurd (DX q.lt (by rw[z];exact hb)) (ED _)
 ·exact absurd (DX (Heap.lt_size (I.pin p hp).1) (by rw[z];exact hb)) (ED _)
structure Turn (P:Program)(w:World)(K:yF)(tg:Expr)(J:It)(fp:List Addr)(it:Addr)(tn:Nat->Heap->Prop):Prop where
 mem:it∈fp
 obj:∀i h,tn i h->∀b∈fp,∃o,h.get? b=some o/\∀v,o.data ≠ .cell v
 keep:∀i h h',tn i h->(∀b∈fp,∀o,h.get? b=some o->h'.get? b=some o)->tn i h'
 item:∀(X:Cx),X.prog=P->X.w=w->X.K=K->X.calm=true->∀(i:Nat) (pins:List (Addr×Obj)) (s:Shared) (Z:St) (H:Hp) (E:Value->Shared->Prop),Inv X pins Z H s->(∀b∈fp,eg X pins H b)->tn i s.heap->J.go i H →
  wpAny (model P w) X.A (pyNext (.ref it)) (λr s1=>∃u,r=some u ∧
   wpAny (model P w) X.A (letOwnedTupleGo tg (.ref it) u) (λ_ s2=>∃x H',Inv X pins Z H' s2/\RelV x u/\J.yld i H x H'/\tn (i+1) s2.heap/\∀b∈fp,H' b=none) E s1) E s
 done:∀(X:Cx),X.prog=P->X.w=w->X.K=K->X.calm=true->∀(i:Nat) (pins:List (Addr×Obj)) (s:Shared) (Z:St) (H:Hp) (E:Value->Shared->Prop),Inv X pins Z H s->(∀b∈fp,eg X pins H b)->tn i s.heap->J.stop i H →
  wpAny (model P w) X.A (pyNext (.ref it)) (λr s1=>r=none/\Inv X pins Z H s1) E s
 self:∀(A:Around) (i:Nat) (s:Shared) (Q:Value->Shared->Prop) (E:Value->Shared->Prop),tn i s.heap->Q (.ref it) s->wpAny (model P w) A (pyIter (.ref it)) Q E s
abbrev TI:=St->Hp->(It->Hp->Prop)->Prop
def PIE (X:Cx)(pins:List (Addr×Obj))(Z:St)(tg:Expr)(R:It->Hp->Prop)(itv:Value)(s2:Shared):Prop:=
 ∃(it:Addr) (fp:List Addr) (tn:Nat->Heap->Prop) (J:It) (H':Hp),itv=.ref it/\Inv X pins Z H' s2/\Turn X.prog X.w X.K tg J fp it tn/\tn 0 s2.heap/\(∀b∈fp,eg X pins H' b)/\R J H'
def PI (X:Cx)(tg iter:Expr)(wi:TI):Prop:=
 ∀(pins:List (Addr×Obj)) (s:Shared) (Z:St) (H:Hp) (R:It->Hp->Prop),Inv X pins Z H s->wi Z H R →
  wpAny (model X.prog X.w) X.A (eval iter X.env) (λv s1=>wpAny (model X.prog X.w) X.A (pyIter v) (PIE X pins Z tg R) X.xe s1) X.xe s
theorem oP {M:Model}{A:Around}{E:Value->Shared->Prop}{s:Shared}{tg:Expr}{it:Addr}{u:Value}{o:Obj}{n:String}{vs:Array Value}{Q:Unit->Shared->Prop}(ho:s.heap.get? it=some o)(hc:o.cls=.type n)(hd:o.data=.fields vs)
  (hn:["enumerate","zip","dict_itemiterator","dict_reverseitemiterator","odict_iterator","itertools.zip_longest","itertools.pairwise"].contains n=false) (hQ:Q () s):wpAny M A (letOwnedTupleGo tg (.ref it) u) Q E s:=by
 unfold letOwnedTupleGo
 cases tg<;>first
  | exact wpAny_pure hQ
  | (cases u<;>first
    | exact wpAny_pure hQ
    | (refine wpAny_bind (wpAny_load ho ?_)
       rw[hc,hd]
       show wpAny M A (if(["enumerate","zip","dict_itemiterator","dict_reverseitemiterator","odict_iterator","itertools.zip_longest","itertools.pairwise"].contains n&&vs[0]? == some (rawInt _))=true then _ else _) Q E s
       rw[if_neg (by intro h;rw[hn,GX]at h;cases h)]
       exact wpAny_pure hQ))
noncomputable def Itl (K:yF) (a:Addr):It:=
 ⟨λi H=>∃xs x,SqL K H a xs/\xs[i]?=some x,λi H x H'=>H'=H/\∀xs,SqL K H a xs->xs[i]?=some x,λi H=>∃xs,SqL K H a xs/\xs.length<=i⟩
noncomputable def Itt (K:yF) (a:Addr):It:=
 ⟨λi H=>∃xs x,SqT K H a xs/\xs[i]?=some x,λi H x H'=>H'=H/\∀xs,SqT K H a xs->xs[i]?=some x,λi H=>∃xs,SqT K H a xs/\xs.length<=i⟩
noncomputable def Itr (lo:Int) (n:Nat):It:=⟨λi _=>i<n,λi H x H'=>H'=H/\x=.int (lo+i),λi _=>n<=i⟩
theorem qK {P:Program}{w:World}{K:yF}{tg:Expr}(a it:Addr):Turn P w K tg (Itl K a) [it] it (λi h=>h.IsListIter it a i) where
 mem:=by simp
 obj:=λi h st b hb=>by
  have e:b=it:=by simpa using hb
  subst e
  obtain⟨o,e,c,d⟩:=st
  exact⟨o,e,λv z=>by rw[d]at z;cases z⟩
 keep:=λi h h' st k=>st.at λo e=>k it (by simp) o e
 item:=by
  intro X hP hw hK hc i pins s Z H E I hf st hg
  subst hP hw hK
  obtain⟨xs,x,hq,hx⟩:=hg
  obtain⟨its,rv,p,hz⟩:=I.list hq
  obtain⟨u,hu,ru⟩:=rv.get hx
  obtain⟨f0,f1,f2,f3,f4,f5⟩:=hf it (by simp)
  refine wpAny_pyNext_list_item st p.isList (x:=u) (by simpa using hu) λh' st' sb=>?_
  have I1:Inv X pins Z H {s with heap:=h'}:=I.turned (t':=s.toks) (λb o hb e=>(sb.2 b hb).trans e) f0 f1 f3 f4 f5
  obtain⟨o,e,c,d⟩:=id st'
  exact⟨u,rfl,oP (s:={s with heap:=h'}) e c d (by decide) ⟨x,H,I1,ru,⟨rfl,λys hy=>by rw[I.list_inj hy hq];exact hx⟩,st',λb hb=>(hf b hb).1⟩⟩
 done:=by
  intro X hP hw hK hc i pins s Z H E I hf st hg
  subst hP hw hK
  obtain⟨xs,hq,hx⟩:=hg
  obtain⟨its,rv,p,hz⟩:=I.list hq
  obtain⟨f0,f1,f2,f3,f4,f5⟩:=hf it (by simp)
  have hl:=rv.length
  exact wpAny_pyNext_list_end (I.ok.hd hc) st p.isList (by simp;omega) λh' eb=>⟨rfl,I.turned (t':=s.toks) (λb o hb e=>eb b o hb e) f0 f1 f3 f4 f5⟩
 self:=λ_ _ _ _ _ st h=>wpAny_pyIter_listiter st h
theorem oa {P:Program}{w:World}{K:yF}{tg:Expr}(a it:Addr):Turn P w K tg (Itt K a) [it] it (λi h=>h.IsTupleIter it a i) where
 mem:=by simp
 obj:=λi h st b hb=>by
  have e:b=it:=by simpa using hb
  subst e
  obtain⟨o,e,c,d⟩:=st
  exact⟨o,e,λv z=>by rw[d]at z;cases z⟩
 keep:=λi h h' st k=>st.at λo e=>k it (by simp) o e
 item:=by
  intro X hP hw hK hc i pins s Z H E I hf st hg
  subst hP hw hK
  obtain⟨xs,x,hq,hx⟩:=hg
  obtain⟨its,rv,p,hz⟩:=I.tuple hq
  obtain⟨u,hu,ru⟩:=rv.get hx
  obtain⟨f0,f1,f2,f3,f4,f5⟩:=hf it (by simp)
  refine wpAny_pyNext_tuple_item st (show s.heap.IsTuple a its.toArray from p) (x:=u) (by simpa using hu) λh' st' sb=>?_
  have I1:Inv X pins Z H {s with heap:=h'}:=I.turned (t':=s.toks) (λb o hb e=>(sb.2 b hb).trans e) f0 f1 f3 f4 f5
  obtain⟨o,e,c,d⟩:=id st'
  exact⟨u,rfl,oP (s:={s with heap:=h'}) e c d (by decide) ⟨x,H,I1,ru,⟨rfl,λys hy=>by rw[I.tuple_inj hy hq];exact hx⟩,st',λb hb=>(hf b hb).1⟩⟩
 done:=by
  intro X hP hw hK hc i pins s Z H E I hf st hg
  subst hP hw hK
  obtain⟨xs,hq,hx⟩:=hg
  obtain⟨its,rv,p,hz⟩:=I.tuple hq
  obtain⟨f0,f1,f2,f3,f4,f5⟩:=hf it (by simp)
  have hl:=rv.length
  exact wpAny_pyNext_tuple_end (I.ok.hd hc) st (show s.heap.IsTuple a its.toArray from p) (by simp;omega) λh' eb=>⟨rfl,I.turned (t':=s.toks) (λb o hb e=>eb b o hb e) f0 f1 f3 f4 f5⟩
 self:=λ_ _ _ _ _ st h=>wpAny_pyIter_tupleiter st h
theorem n9 {P:Program}{w:World}{K:yF}{tg:Expr}(it:Addr)(lo:Int)(n:Nat):Turn P w K tg (Itr lo n) [it] it (λi h=>IsRangeIter h it (lo+(i:Nat)*1) ((n:Int)-(i:Nat)) 1) where
 mem:=by simp
 obj:=λi h st b hb=>by
  have e:b=it:=by simpa using hb
  subst e
  exact⟨_,st,λv z=>by
   have z':Data.fields _=Data.cell v:=z
   cases z'⟩
 keep:=λi h h' st k=>k it (by simp) _ st
 item:=by
  intro X hP hw hK hc i pins s Z H E I hf st hg
  subst hP hw hK
  obtain⟨f0,f1,f2,f3,f4,f5⟩:=hf it (by simp)
  have W:=Walks.range (prog:=X.prog) (w:=X.w) (I.ok.hd hc) it lo 1 n
  refine W.item i s _ _ hg st λv h' tk hv st' kk=>?_
  obtain⟨t,rfl⟩:=hv
  have I1:Inv X pins Z H {s with heap:=h',toks:=tk}:=I.turned (λb o hb e=>kk b o (by simpa using hb) e) f0 f1 f3 f4 f5
  refine⟨_,rfl,oP (s:={s with heap:=h',toks:=tk}) (n:="range_iterator") st' rfl rfl (by decide) ⟨.int (lo+i),H,I1,⟨t,?_⟩,⟨rfl,rfl⟩,st',λb hb=>(hf b hb).1⟩⟩
  rw[Int.mul_one]
 done:=by
  intro X hP hw hK hc i pins s Z H E I hf st hg
  subst hP hw hK
  obtain⟨f0,f1,f2,f3,f4,f5⟩:=hf it (by simp)
  exact wpAny_pyNext_range_end (I.ok.hd hc) st (by have:n<=i:=hg;omega) λh' eb=>⟨rfl,I.turned (t':=s.toks) (λb o hb e=>eb b o hb e) f0 f1 f3 f4 f5⟩
 self:=λ_ _ _ _ _ st h=>wpAny_pyIter_rangeiter st h
section
variable  {X:Cx}{tg:Expr}
def oQ (K:yF)(tl:TE):TI:=λZ H R=>tl Z H λx H1=>∃a,x=.ref a/\(∃xs,SqL K H1 a xs)/\R (Itl K a) H1
def u6 (K:yF)(tl:TE):TI:=λZ H R=>tl Z H λx H1=>∃a,x=.ref a/\(∃xs,SqT K H1 a xs)/\R (Itt K a) H1
theorem vK {l:Expr}{tl:TE}(hl:PE X l tl):PI X tg l (oQ X.K tl):=by
 intro pins s Z H R I h
 refine thn (hl pins s Z H _ I h) λv s1 ⟨x,H1,I1,r1,q1⟩=>?_
 obtain⟨a,e,⟨xs,hq⟩,q⟩:=q1
 subst e
 cases r1
 obtain⟨its,rv,p,hz⟩:=I1.list hq
 refine wpAny_pyIter_list p.isList ?_
 refine⟨s1.heap.objs.size,[s1.heap.objs.size],_,_,H1,rfl,I1.kept (t':=s1.toks) λb o e=>Heap.get?_push_of_some _ e,qK a _,⟨_,Heap.get?_push_size _ rfl,rfl,rfl⟩,λb hb=>?_,q⟩
 have e:b=s1.heap.objs.size:=by simpa using hb
 subst e
 exact I1.fpOk (DK _) (I1.hok.fresh (DK _))
theorem zq {l:Expr}{tl:TE}(hl:PE X l tl):PI X tg l (u6 X.K tl):=by
 intro pins s Z H R I h
 refine thn (hl pins s Z H _ I h) λv s1 ⟨x,H1,I1,r1,q1⟩=>?_
 obtain⟨a,e,⟨xs,hq⟩,q⟩:=q1
 subst e
 cases r1
 obtain⟨its,rv,p,hz⟩:=I1.tuple hq
 refine wpAny_pyIter_tuple (show s1.heap.IsTuple a its.toArray from p) ?_
 refine⟨s1.heap.objs.size,[s1.heap.objs.size],_,_,H1,rfl,I1.kept (t':=s1.toks) λb o e=>Heap.get?_push_of_some _ e,oa a _,⟨_,Heap.get?_push_size _ rfl,rfl,rfl⟩,λb hb=>?_,q⟩
 have e:b=s1.heap.objs.size:=by simpa using hb
 subst e
 exact I1.fpOk (DK _) (I1.hok.fresh (DK _))
theorem mI {pins:List (Addr×Obj)}{Z:St}{H:Hp}{s:Shared}{R:It->Hp->Prop}{E:Value->Shared->Prop}{lo hi:Int}{t u v:Tok}{tk:Nat}(I:Inv X pins Z H s)(h1 : -(2^62)<=lo)(h2:lo<2^62)(h3 : -(2^62)<=hi)(h4:hi<2^62)
  (q:R (Itr lo (hi-lo).toNat) H):wpAny (model X.prog X.w) X.A (pyIter (.ref s.heap.objs.size)) (PIE X pins Z tg R) E {s with heap:=s.heap.push {cls:=.type "range",data:=.fields #[.int lo t,.int hi u,.int 1 v]},toks:=tk}:=by
 refine wpAny_pyIter_range (IsRange.new ..) (small_one h1 h2 h3 h4) ?_
 have I1:Inv X pins Z H {s with heap:=s.heap.push {cls:=.type "range",data:=.fields #[.int lo t,.int hi u,.int 1 v]},toks:=tk}:=I.kept λb o e=>Heap.get?_push_of_some _ e
 refine⟨(s.heap.push {cls:=.type "range",data:=.fields #[.int lo t,.int hi u,.int 1 v]}).objs.size,[(s.heap.push {cls:=.type "range",data:=.fields #[.int lo t,.int hi u,.int 1 v]}).objs.size],_,_,H,rfl,
  I1.kept (t':=tk) λb o e=>Heap.get?_push_of_some _ e,n9 _ lo (hi-lo).toNat,?_,λb hb=>?_,q⟩
 ·have e1:lo+((0:Nat):Int)*1=lo:=by simp
  have e2:(((hi-lo).toNat:Nat):Int)-((0:Nat):Int)=Builtin.Range.rangeSize lo hi 1:=by rw[rangeSize_one];split<;>omega
  show IsRangeIter _ _ (lo+((0:Nat):Int)*1) ((((hi-lo).toNat:Nat):Int)-((0:Nat):Int)) 1
  rw[e1,e2]
  exact Heap.get?_push_size _ rfl
 ·have e:b=(s.heap.push {cls:=.type "range",data:=.fields #[.int lo t,.int hi u,.int 1 v]}).objs.size:=by simpa using hb
  subst e
  exact I1.fpOk (DK _) (I1.hok.fresh (DK _))
def xq (ta:TA):TI:=λZ H R=>ta Z H λvs H1=>∃j:Int,vs=[.int j]/\-(2^62)<=j/\j<2^62/\R (Itr 0 j.toNat) H1
def xr (ta:TA):TI:=λZ H R=>ta Z H λvs H1=>∃i j:Int,vs=[.int i,.int j]/\(-(2^62)<=i/\i<2^62/\-(2^62)<=j/\j<2^62)/\R (Itr i (j-i).toNat) H1
theorem qd {a:Expr}{ta:TA}{p pos:Pos}(hg:Gl X "range")(hm:X.mg "range" = none)(ha:PA X [a] ta)(hs:starEach [a] X.env=[(false,eval a X.env)]:=by rfl):PI X tg (.Call (.Name "range" p) [a] [] pos) (xq ta):=by
 intro pins s Z H R I h
 refine Call_ (il I hg hm boot_range (EU (thn (ha pos pins s Z H _ I h) λus s1 ⟨vs,H1,I1,r1,q1⟩=>?_) hs rfl))
 obtain⟨j,e,q1,q2,q⟩:=q1
 subst e
 cases r1 with
 | cons r rr=>
  cases rr
  obtain⟨t,rfl⟩:=r
  exact call_range_1 (mI I1 (by omega) (by omega) q1 q2 (by simpa using q))
theorem qf {a b:Expr}{ta:TA}{p pos:Pos}(hg:Gl X "range")(hm:X.mg "range" = none)(ha:PA X [a,b] ta)(hs:starEach [a,b] X.env=[(false,eval a X.env),(false,eval b X.env)]:=by rfl)(hs2:starEach [b] X.env=[(false,eval b X.env)]:=by rfl) :
  PI X tg (.Call (.Name "range" p) [a,b] [] pos) (xr ta):=by
 intro pins s Z H R I h
 refine Call_ (il I hg hm boot_range (EU (thn (ha pos pins s Z H _ I h) λus s1 ⟨vs,H1,I1,r1,q1⟩=>?_) (by rw[hs,hs2]) (by rw[hs2];rfl)))
 obtain⟨i,j,e,⟨q1,q2,q3,q4⟩,q⟩:=q1
 subst e
 cases r1 with
 | cons r rr=>
  cases rr with
  | cons r' rr=>
   cases rr
   obtain⟨t,rfl⟩:=r
   obtain⟨t',rfl⟩:=r'
   exact call_range_2 (mI I1 q1 q2 q3 q4 q)
def CB (wi:TI)(g:TG)(tb:TS):TS:=λD Z H=>wi Z H λJ H1=>∃W:Nat->Nat->St->Hp->Prop,(∃m,W 0 m Z H1)/\∀i m Z H,W i m Z H →
 (J.stop i H/\D.nx Z H)∨(J.go i H/\∃N:St->Hp->Prop,(∀Z' H',N Z' H'->∃m',m'<m/\W (i+1) m' Z' H')/\∀x H',J.yld i H x H'->g x Z H' λZ2 H2=>tb {D with nx:=N,ct:=N,bk:=D.nx} Z2 H2)
noncomputable def bu (fp:List Addr) (h:Heap):List (Addr×Obj):=fp.filterMap λb=>(h.get? b).map λo=>(b,o)
theorem bH {fp:List Addr}{h:Heap}{b:Addr}{o:Obj}(hb:b∈fp)(e:h.get? b=some o):(b,o)∈bu fp h:=Ef.mpr ⟨b,hb,by rw[e];rfl⟩
theorem kB {fp:List Addr}{h:Heap}{p:Addr×Obj}(hp:p∈bu fp h):p.1∈fp/\h.get? p.1=some p.2:=by
 obtain⟨b,hb,e⟩:=Ef.mp hp
 cases q:h.get? b with
 | none=>rw[q]at e;cases e
 | some o=>
  rw[q]at e
  have e':(b,o)=p:=D5.inj e
  subst e'
  exact⟨hb,q⟩
theorem Inv.pinned {pins:List (Addr×Obj)}{Z:St}{H:Hp}{s:Shared}{fp:List Addr}(I:Inv X pins Z H s)(hf:∀b∈fp,eg X pins H b)(ho:∀b∈fp,∃o,s.heap.get? b=some o/\∀v,o.data ≠ .cell v):Inv X (pins++bu fp s.heap) Z H s:=
 I.pins_of λp hp=>(yaM hp).elim (λz=>I.pin p (yaR _ z)) λz=>by
  obtain⟨hb,e⟩:=kB z
  obtain⟨f0,f1,f2,_⟩:=hf p.1 hb
  obtain⟨o,e',d⟩:=ho p.1 hb
  rw[e]at e';cases e'
  exact⟨e,f0,f1,f2,d⟩
theorem Inv.unpinned {pins pl:List (Addr×Obj)}{Z:St}{H:Hp}{s:Shared}(I:Inv X (pins++pl) Z H s):Inv X pins Z H s:=I.pins_of λp hp=>I.pin p (yaR _ (yaL _ hp))
theorem zv {iter:Expr}{body:List Stmt}{wi:TI}{g:TG}{tb:TS}{pos:Pos}(hp:PassesOwn (model X.prog X.w) X.A X.env X.xe)(hc:X.calm=true)(hi:PI X tg iter wi)(hg:PG X tg g)(hb:PSs X body tb)
  (hs:∀x,foldedSetIterable iter X.env x=pure x:=by intro _;rfl):PS X (.For tg iter body [] pos) (CB wi g tb):=by
 intro pins s Z H D I h
 refine wpAny_For (thn (hi pins s Z H _ I h) λv s1 h1=>thn h1 λitv s2 h2=>?_) hs
 obtain⟨it,fp,tn,J,H2,e,I2,T,st2,f2,W,⟨m0,w0⟩,turn⟩:=h2
 subst e
 have stat:∀{H':Hp},(∀b∈fp,H' b=none)->∀b∈fp,eg X pins H' b:=λhn b hb=>⟨hn b hb,(f2 b hb).2⟩
 refine codeAny_forLoop_any (λn s'=>∃i Z' H',Inv X pins Z' H' s'/\tn i s'.heap/\(∀b∈fp,H' b=none)/\W i n Z' H') ?_ m0 ⟨0,Z,H2,I2,st2,λb hb=>(f2 b hb).1,w0⟩
 rintro n s3 ⟨i,Z3,H3,I3,st3,fr3,w3⟩
 rcases turn i n Z3 H3 w3 with⟨stop,qn⟩|⟨go,N,hN,step⟩
 ·refine wpAny_passesOwn hp (thn (T.done X rfl rfl rfl hc i pins s3 Z3 H3 X.xe I3 (stat fr3) st3 stop) λr s4 ⟨hr,I4⟩=>?_)
  subst hr
  exact wpAny_execs_nil ⟨Z3,H3,I4,qn⟩
 ·refine wpAny_passesOwn hp (thn (T.item X rfl rfl rfl hc i pins s3 Z3 H3 X.xe I3 (stat fr3) st3 go) λr s4 ⟨u,hr,h4⟩=>?_)
  subst hr
  refine wpAny_passesOwn hp (thn h4 λ_ s5 ⟨x,H5,I5,r5,y5,st5,fr5⟩=>?_)
  have I5':=I5.pinned (stat fr5) (T.obj _ _ st5)
  refine wpAny_passesOwn hp (thn (hg _ s5 Z3 H5 x u _ I5' r5 (step x H5 y5)) λ_ s6 ⟨Z6,H6,I6,q6⟩=>?_)
  refine wpAny_passesOwn hp (thn (hb _ s6 Z6 H6 _ I6 q6) λf s7 q7=>?_)
  have again:∀{Z7:St} {H7:Hp},Inv X (pins++bu fp s5.heap) Z7 H7 s7->N Z7 H7->∃m,m<n/\∃i Z' H',Inv X pins Z' H' s7/\tn i s7.heap/\(∀b∈fp,H' b=none)/\W i m Z' H':=λ{Z7 H7} I7 n7=>by
   obtain⟨m',hm,w7⟩:=hN Z7 H7 n7
   refine⟨m',hm,i+1,Z7,H7,I7.unpinned,T.keep _ _ _ st5 λb hb o e=>(I7.pin (b,o) (yaR _ (yaR _ (bH hb e)))).1,λb hb=>?_,w7⟩
   obtain⟨o,e,d⟩:=T.obj _ _ st5 b hb
   exact(I7.pin (b,o) (yaR _ (yaR _ (bH hb e)))).2.1
  cases f with
  | next=>obtain⟨Z7,H7,I7,n7⟩:=q7;exact again I7 n7
  | cont=>obtain⟨Z7,H7,I7,n7⟩:=q7;exact again I7 n7
  | brk=>obtain⟨Z7,H7,I7,q7⟩:=q7;exact⟨Z7,H7,I7.unpinned,q7⟩
  | ret v=>obtain⟨x7,Z7,H7,I7,r7,q7⟩:=q7;exact⟨x7,Z7,H7,I7.unpinned,r7,q7⟩
end
abbrev R2:=V->V->Hp->VK->Prop
def OpR (X:Cx)(f:Value->Value->Sem Value)(r:R2):Prop:=
 ∀(pins:List (Addr×Obj)) (s:Shared) (Z:St) (H:Hp) (x y:V) (v u:Value) (Q:VK),Inv X pins Z H s->RelV x v->RelV y u->r x y H Q →
  wpAny (model X.prog X.w) X.A (f v u) (EP X pins Z Q) X.xe s
def UnR (X:Cx)(f:Value->Sem Value)(r:V->Hp->VK->Prop):Prop:=
 ∀(pins:List (Addr×Obj)) (s:Shared) (Z:St) (H:Hp) (x:V) (v:Value) (Q:VK),Inv X pins Z H s->RelV x v->r x H Q →
  wpAny (model X.prog X.w) X.A (f v) (EP X pins Z Q) X.xe s
def CallR (X:Cx)(f:Value)(r:List V->Hp->VK->Prop):Prop:=
 ∀(pins:List (Addr×Obj)) (s:Shared) (Z:St) (H:Hp) (xs:List V) (us:List Value) (Q:VK),Inv X pins Z H s->Vals xs us->r xs H Q →
  wpAny (model X.prog X.w) X.A (call f us) (EP X pins Z Q) X.xe s
def C2 (X:Cx)(r:V->Hp->(Bool->Hp->Prop)->Prop):Prop:=
 ∀(pins:List (Addr×Obj)) (s:Shared) (Z:St) (H:Hp) (x:V) (v:Value) (Q:Bool->Hp->Prop),Inv X pins Z H s->RelV x v->r x H Q →
  wpAny (model X.prog X.w) X.A (truthy v) (TP X pins Z Q) X.xe s
def tOp (r:R2)(ta tb:TE):TE:=λZ H Q=>ta Z H λx H1=>tb Z H1 λy H2=>r x y H2 Q
def tUn (r:V->Hp->VK->Prop)(ta:TE):TE:=λZ H Q=>ta Z H λx H1=>r x H1 Q
def rI (C:Int->Int->Prop)(g:Int->Int->V):R2:=λx y H Q=>∃i j,x=.int i/\y=.int j/\C i j/\Q (g i j) H
def rI0 (g:Int->Int->V):R2:=λx y H Q=>∃i j,x=.int i/\y=.int j/\Q (g i j) H
def rU (g:Int->V):V->Hp->VK->Prop:=λx H Q=>∃i,x=.int i/\Q (g i) H
section
variable  {X:Cx}{a b c:Expr}{ta tb tc:TE}{pos:Pos}
theorem xZ (ha:PE X a ta)(hb:PE X b tb){pins:List (Addr×Obj)}{s:Shared}{Z:St}{H:Hp}{R:V->V->Hp->Prop}(I:Inv X pins Z H s)
  (h:ta Z H λx H1=>tb Z H1 λy H2=>R x y H2) {Q:Value->Shared->Prop} {f:Value->Value->Sem Value}
  (hf:∀v u s2 x y H2,Inv X pins Z H2 s2->RelV x v->RelV y u->R x y H2->wpAny (model X.prog X.w) X.A (f v u) Q X.xe s2) :
  wpAny (model X.prog X.w) X.A (eval a X.env) (λv s₁=>wpAny (model X.prog X.w) X.A (eval b X.env) (λu s₂=>wpAny (model X.prog X.w) X.A (f v u) Q X.xe s₂) X.xe s₁) X.xe s:=by
 refine thn (ha pins s Z H _ I h) λv s1 ⟨x,H1,I1,r1,q1⟩=>?_
 refine thn (hb pins s1 Z H1 _ I1 q1) λu s2 ⟨y,H2,I2,r2,q2⟩=>?_
 exact hf v u s2 x y H2 I2 r1 r2 q2
theorem BO {op:Operator}{r:R2}(ho:OpR X (binaryOp op) r)(ha:PE X a ta)(hb:PE X b tb):PE X (.BinOp a op b pos) (tOp r ta tb):=by
 intro pins s Z H Q I h
 exact wpAny_BinOp (xZ ha hb I h λv u s2 x y H2 I2 rx ry q=>ho pins s2 Z H2 x y v u Q I2 rx ry q)
theorem BP {op:UnaryOp}{r:V->Hp->VK->Prop}(ho:UnR X (unaryOp op) r)(ha:PE X a ta):PE X (.UnaryOp op a pos) (tUn r ta):=by
 intro pins s Z H Q I h
 exact UnaryOp_ (thn (ha pins s Z H _ I h) λv s1 ⟨x,H1,I1,r1,q1⟩=>ho pins s1 Z H1 x v Q I1 r1 q1)
theorem opI {f:Value->Value->Sem Value}{C:Int->Int->Prop}{g:Int->Int->Int}
  (rule:∀(i j:Int) (t u:Tok) (s:Shared) (Q:Value->Shared->Prop) (E:Value->Shared->Prop),C i j->Q (.int (g i j) s.toks) {s with toks:=s.toks+1}->wpAny (model X.prog X.w) X.A (f (.int i t) (.int j u)) Q E s) :
  OpR X f (rI C λi j=>.int (g i j)):=by
 intro pins s Z H x y v u Q I rx ry h
 obtain⟨i,j,rfl,rfl,hc,q⟩:=h
 obtain⟨t,rfl⟩:=rx
 obtain⟨t',rfl⟩:=ry
 exact rule i j t t' s _ _ hc ⟨.int (g i j),H,I.tok _,⟨_,rfl⟩,q⟩
theorem Bq {f:Value->Value->Sem Value}{g:Int->Int->Int}
  (rule:∀(i j:Int) (t u:Tok) (s:Shared) (Q:Value->Shared->Prop) (E:Value->Shared->Prop),Q (.int (g i j) s.toks) {s with toks:=s.toks+1}->wpAny (model X.prog X.w) X.A (f (.int i t) (.int j u)) Q E s) :
  OpR X f (rI0 λi j=>.int (g i j)):=by
 intro pins s Z H x y v u Q I rx ry h
 obtain⟨i,j,rfl,rfl,q⟩:=h
 obtain⟨t,rfl⟩:=rx
 obtain⟨t',rfl⟩:=ry
 exact rule i j t t' s _ _ ⟨.int (g i j),H,I.tok _,⟨_,rfl⟩,q⟩
theorem yE {f:Value->Value->Sem Value}{g:Int->Int->Bool}
  (rule:∀(i j:Int) (t u:Tok) (s:Shared) (Q:Value->Shared->Prop) (E:Value->Shared->Prop),Q (.bool (g i j)) s->wpAny (model X.prog X.w) X.A (f (.int i t) (.int j u)) Q E s) :
  OpR X f (rI0 λi j=>.bl (g i j)):=by
 intro pins s Z H x y v u Q I rx ry h
 obtain⟨i,j,rfl,rfl,q⟩:=h
 obtain⟨t,rfl⟩:=rx
 obtain⟨t',rfl⟩:=ry
 exact rule i j t t' s _ _ ⟨.bl (g i j),H,I,rfl,q⟩
def xT (i j:Int):Prop:=0<=j/\j<=1000000/\i.natAbs<2^64
def CMul (i j:Int):Prop:=(-(2^64)<i/\i<2^64)∨(-(2^64)<j/\j<2^64)
theorem CMul.ok {i j:Int}(h:CMul i j):IntMulOk i j:=by
 rcases h with⟨h1,h2⟩|⟨h1,h2⟩
 ·exact .of_left (intBits_le_64 h1 h2)
 ·exact .of_right (intBits_le_64 h1 h2)
theorem op_add:OpR X (binaryOp .Add) (rI0 λi j=>.int (i+j)):=Bq λ_ _ _ _ _ _ _ q=>add_int q
theorem yR:OpR X (binaryOp .Sub) (rI0 λi j=>.int (i-j)):=Bq λ_ _ _ _ _ _ _ q=>sub_int q
theorem op_mul:OpR X (binaryOp .Mult) (rI CMul λi j=>.int (i*j)):=opI λ_ _ _ _ _ _ _ hc q=>mul_int q hc.ok
theorem yM:OpR X (binaryOp .Mod) (rI (λ_ j=>0<j) λi j=>.int (i % j)):=opI λi j _ _ _ _ _ hc q=>by
 have h1:(0:Int)<j:=hc
 exact mod_int' (by omega) (by rw[Int.fmod_eq_emod_of_nonneg i (by omega)];exact q)
theorem yQ:OpR X (binaryOp .Pow) (rI xT λi j=>.int (i^j.toNat)):=opI λ_ _ _ _ _ _ _ hc q=>pow_int_small hc.1 hc.2.1 hc.2.2 q
theorem unI {f:Value->Sem Value}{g:Int->Int}
  (rule:∀(i:Int) (t:Tok) (s:Shared) (Q:Value->Shared->Prop) (E:Value->Shared->Prop),Q (.int (g i) s.toks) {s with toks:=s.toks+1}->wpAny (model X.prog X.w) X.A (f (.int i t)) Q E s) :
  UnR X f (rU λi=>.int (g i)):=by
 intro pins s Z H x v Q I rx h
 obtain⟨i,rfl,q⟩:=h
 obtain⟨t,rfl⟩:=rx
 exact rule i t s _ _ ⟨.int (g i),H,I.tok _,⟨_,rfl⟩,q⟩
theorem Av:UnR X (unaryOp .USub) (rU λi=>.int (-i)):=unI λ_ _ _ _ _ q=>neg_int q
end
noncomputable def uo:V->V->Bool
 | .non,.non=>true|.non,.int _=>true|.int _,.non=>true|.non,.bl _=>true|.bl _,.non=>true|.non,.str _=>true|.str _,.non=>true
 | .int _,.int _=>true|.bl _,.bl _=>true|.str _,.str _=>true|.byt _,.byt _=>true
 | .int _,.str _=>true|.str _,.int _=>true|.bl _,.str _=>true|.str _,.bl _=>true
 | _,_=>false
def rEq:R2:=λx y H Q=>uo x y=true/\Q (.bl (decide (x=y))) H
def rNe:R2:=λx y H Q=>uo x y=true/\Q (.bl (!decide (x=y))) H
theorem oB {i j:Int}:decide (V.int i=V.int j)=(i==j):=by
 rw[EJ]
 simp
theorem rm {i j:Bool}:decide (V.bl i=V.bl j)=(i==j):=by
 rw[EJ]
 simp
theorem oE {i j:Str}:decide (V.str i=V.str j)=(i==j):=by
 rw[EJ]
 simp
theorem oA {i j:Array UInt8}:decide (V.byt i=V.byt j)=(i.toList==j.toList):=by
 rw[EJ]
 cases i
 cases j
 simp
section
variable  {X:Cx}{a b c:Expr}{ta tb tc:TE}{pos:Pos}
theorem aO {pins:List (Addr×Obj)}{Z:St}{H:Hp}{s:Shared}{Q:VK}{k k':Bool}(I:Inv X pins Z H s)(q:Q (.bl k) H)(e:k=k'):EP X pins Z Q (.bool k') s:=by
 subst e
 exact⟨.bl k,H,I,rfl,q⟩
theorem op_eq:OpR X (compareOp .Eq) rEq:=by
 intro pins s Z H x y v u Q I rx ry h
 obtain⟨hs,q⟩:=h
 cases x with
 | non=>
  cases rx
  cases y with
  | non=>cases ry;exact PySem.EqNone.eq_none_none (aO I q (by simp))
  | bl j=>cases ry;exact PySem.EqNone.eq_none_bool (aO I q (by simp))
  | int j=>obtain⟨t',rfl⟩:=ry;exact PySem.EqNone.eq_none_int (aO I q (by simp))
  | str j=>obtain⟨t',rfl⟩:=ry;exact PySem.EqNone.eq_none_str (aO I q (by simp))
  | _=>exact absurd (show false=true from hs) DN
 | bl i=>
  cases rx
  cases y with
  | non=>cases ry;exact PySem.EqNone.eq_bool_none (aO I q (by simp))
  | bl j=>cases ry;exact eq_bool (aO I q rm)
  | str j=>obtain⟨t',rfl⟩:=ry;exact PySem.EqMixed.eq_bool_str (aO I q (by simp))
  | _=>exact absurd (show false=true from hs) DN
 | int i=>
  obtain⟨t,rfl⟩:=rx
  cases y with
  | non=>cases ry;exact PySem.EqNone.eq_int_none (aO I q (by simp))
  | int j=>obtain⟨t',rfl⟩:=ry;exact eq_int (aO I q oB)
  | str j=>obtain⟨t',rfl⟩:=ry;exact PySem.EqMixed.eq_int_str (aO I q (by simp))
  | _=>exact absurd (show false=true from hs) DN
 | str i=>
  obtain⟨t,rfl⟩:=rx
  cases y with
  | non=>cases ry;exact PySem.EqNone.eq_str_none (aO I q (by simp))
  | bl j=>cases ry;exact PySem.EqMixed.eq_str_bool (aO I q (by simp))
  | int j=>obtain⟨t',rfl⟩:=ry;exact PySem.EqMixed.eq_str_int (aO I q (by simp))
  | str j=>obtain⟨t',rfl⟩:=ry;exact eq_str (aO I q oE)
  | _=>exact absurd (show false=true from hs) DN
 | byt i=>
  obtain⟨t,rfl⟩:=rx
  cases y with
  | byt j=>obtain⟨t',rfl⟩:=ry;exact PySem.W.eq_bytes (aO I q oA)
  | _=>exact absurd (show false=true from hs) DN
 | _=>cases y<;>exact absurd (show false=true from hs) DN
theorem op_ne:OpR X (compareOp .NotEq) rNe:=by
 intro pins s Z H x y v u Q I rx ry h
 obtain⟨hs,q⟩:=h
 cases x with
 | non=>
  cases rx
  cases y with
  | non=>cases ry;exact PySem.EqNone.ne_none_none (aO I q (by simp))
  | bl j=>cases ry;exact PySem.EqNone.ne_none_bool (aO I q (by simp))
  | int j=>obtain⟨t',rfl⟩:=ry;exact PySem.EqNone.ne_none_int (aO I q (by simp))
  | str j=>obtain⟨t',rfl⟩:=ry;exact PySem.EqNone.ne_none_str (aO I q (by simp))
  | _=>exact absurd (show false=true from hs) DN
 | bl i=>
  cases rx
  cases y with
  | non=>cases ry;exact PySem.EqNone.ne_bool_none (aO I q (by simp))
  | bl j=>cases ry;exact ne_bool (aO I q (congrArg not rm))
  | str j=>obtain⟨t',rfl⟩:=ry;exact PySem.EqMixed.ne_bool_str (aO I q (by simp))
  | _=>exact absurd (show false=true from hs) DN
 | int i=>
  obtain⟨t,rfl⟩:=rx
  cases y with
  | non=>cases ry;exact PySem.EqNone.ne_int_none (aO I q (by simp))
  | int j=>obtain⟨t',rfl⟩:=ry;exact ne_int (aO I q (congrArg not oB))
  | str j=>obtain⟨t',rfl⟩:=ry;exact PySem.EqMixed.ne_int_str (aO I q (by simp))
  | _=>exact absurd (show false=true from hs) DN
 | str i=>
  obtain⟨t,rfl⟩:=rx
  cases y with
  | non=>cases ry;exact PySem.EqNone.ne_str_none (aO I q (by simp))
  | bl j=>cases ry;exact PySem.EqMixed.ne_str_bool (aO I q (by simp))
  | int j=>obtain⟨t',rfl⟩:=ry;exact PySem.EqMixed.ne_str_int (aO I q (by simp))
  | str j=>obtain⟨t',rfl⟩:=ry;exact ne_str (aO I q (congrArg not oE))
  | _=>exact absurd (show false=true from hs) DN
 | byt i=>
  obtain⟨t,rfl⟩:=rx
  cases y with
  | byt j=>obtain⟨t',rfl⟩:=ry;exact PySem.W.ne_bytes (aO I q (congrArg not oA))
  | _=>exact absurd (show false=true from hs) DN
 | _=>cases y<;>exact absurd (show false=true from hs) DN
theorem Bt:OpR X (compareOp .Lt) (rI0 λi j=>.bl (decide (i<j))):=yE λ_ _ _ _ _ _ _ q=>lt_int q
theorem Bs:OpR X (compareOp .Gt) (rI0 λi j=>.bl (decide (j<i))):=yE λ_ _ _ _ _ _ _ q=>gt_int q
theorem Br:OpR X (compareOp .GtE) (rI0 λi j=>.bl (decide (j<=i))):=yE λ_ _ _ _ _ _ _ q=>ge_int q
theorem op_in_str:OpR X (compareOp .In) (λx y H Q=>∃i j,x=.str i/\y=.str j/\Q (.bl (!(Builtin.Str.occurrences j i 0 j.length 1).isEmpty)) H):=by
 intro pins s Z H x y v u Q I rx ry h
 obtain⟨i,j,rfl,rfl,q⟩:=h
 obtain⟨t,rfl⟩:=rx
 obtain⟨t',rfl⟩:=ry
 exact in_str (aO I q rfl)
theorem OpR.or {f:Value->Value->Sem Value}{r r':R2}(h:OpR X f r)(h':OpR X f r'):OpR X f (λx y H Q=>r x y H Q∨r' x y H Q):=by
 intro pins s Z H x y v u Q I rx ry q
 rcases q with q|q
 ·exact h pins s Z H x y v u Q I rx ry q
 ·exact h' pins s Z H x y v u Q I rx ry q
theorem vC {op:CmpOp}{r:R2}(ho:OpR X (compareOp op) r)(ha:PE X a ta)(hb:PE X b tb)(hm:behindInMarks op b=false):PE X (.Compare a [op] [b] pos) (tOp r ta tb):=by
 intro pins s Z H Q I h
 exact wpAny_Compare1 (xZ ha hb I h λv u s2 x y H2 I2 rx ry q=>ho pins s2 Z H2 x y v u Q I2 rx ry q) hm
def xQ (t:TE):TT:=λZ H Q=>t Z H λx H'=>∃k,x=.bl k/\Q k H'
theorem vW {op:CmpOp}{r:R2}(ho:OpR X (compareOp op) r)(ha:PE X a ta)(hb:PE X b tb)(hm:behindInMarks op b=false):PT X (.Compare a [op] [b] pos) (xQ (tOp r ta tb)):=by
 intro pins s Z H Q I h
 refine wpAny_isTrue_Compare1 (thn (ha pins s Z H _ I h) λv s1 ⟨x,H1,I1,r1,q1⟩=>thn (hb pins s1 Z H1 _ I1 q1) λu s2 ⟨y,H2,I2,r2,q2⟩=>
  thn (ho pins s2 Z H2 x y v u _ I2 r1 r2 q2) λc s3 ⟨z,H3,I3,r3,k,e,q3⟩=>?_) hm
 subst e
 cases r3
 exact wpAny_truthy_bool ⟨H3,I3,q3⟩
def uQ (K:yF)(x:V)(H:Hp)(k:Bool):Prop:=
 match x with
 | .non=>k=false
 | .bl b=>k=b
 | .int i=>k=(i != 0)
 | .str y=>y.length<=sizeLine/\k=((y.length:Int) != 0)
 | .byt y=>y.size<=sizeLine/\k=((y.size:Int) != 0)
 | .ref p=>(∃xs,SqL K H p xs/\k = !xs.isEmpty)∨(∃xs,SqT K H p xs/\k = !xs.isEmpty) ∨ ∃kvs,H p=some (.dK kvs)/\k = !kvs.isEmpty
 | _=>False
theorem nu {κ : Type}{kvs:List (κ×V)}{vs:List (κ×Value)}(r:KV kvs vs):(!vs.isEmpty) = !kvs.isEmpty:=by
 cases r<;>rfl
theorem jv {xs:List V}{its:List Value}(r:Vals xs its):(!its.toArray.isEmpty) = !xs.isEmpty:=by
 cases r<;>simp
theorem gB:(sizeLine:Nat)<2^63:=by rw[sizeLine_eq];decide
theorem Ar:C2 X (λx H Q=>∃k,uQ X.K x H k/\Q k H):=by
 intro pins s Z H x v Q I rx h
 obtain⟨k,e,q⟩:=h
 have hl:=gB
 have hs:sizeLine=16777216:=sizeLine_eq
 cases x with
 | non=>
  cases rx
  have e':k=false:=e
  subst e'
  exact truthy_none ⟨H,I,q⟩
 | bl b=>
  cases rx
  have e':k=b:=e
  subst e'
  exact wpAny_truthy_bool ⟨H,I,q⟩
 | int i=>
  obtain⟨t,rfl⟩:=rx
  have e':k=(i != 0):=e
  subst e'
  exact PySem.P.truthy_int ⟨H,I,q⟩
 | str y=>
  obtain⟨t,rfl⟩:=rx
  obtain⟨hy,e'⟩:y.length<=sizeLine/\k=((y.length:Int) != 0):=e
  subst e'
  exact PySem.P.truthy_str (by omega) ⟨H,I.tok _,q⟩
 | byt y=>
  obtain⟨t,rfl⟩:=rx
  obtain⟨hy,e'⟩:y.size<=sizeLine/\k=((y.size:Int) != 0):=e
  subst e'
  exact PySem.W.truthy_bytes (by omega) ⟨H,I.tok _,q⟩
 | ref p=>
  cases rx
  have e':(∃xs,SqL X.K H p xs/\k = !xs.isEmpty)∨(∃xs,SqT X.K H p xs/\k = !xs.isEmpty) ∨ ∃kvs,H p=some (.dK kvs)/\k = !kvs.isEmpty:=e
  rcases e' with⟨xs,hx,e'⟩|⟨xs,hx,e'⟩|⟨kvs,hx,e'⟩
  ·subst e'
   obtain⟨its,r,pl,hz⟩:=I.list hx
   have hlen:=r.length
   exact wpAny_truthy_list pl.isList (by simp only[DC];omega) ⟨H,I.tok _,by rw[jv r];exact q⟩
  ·subst e'
   obtain⟨its,r,pl,hz⟩:=I.tuple hx
   have hlen:=r.length
   exact truthy_tuple pl (by simp only[DC];omega) ⟨H,I.tok _,by rw[jv r];exact q⟩
  ·subst e'
   obtain⟨hz,hS,vs,r,m⟩:kvs.length<=sizeLine/\(p==sysModules)=false/\∃vs,KV kvs vs/\s.heap.DictOf (cj X.prog X.w) p vs:=I.hok p _ hx
   have hlen:kvs.length=vs.length:=Paired.length r
   exact wpAny_truthy_dict hS m (by omega) ⟨H,I.tok _,by rw[nu r];exact q⟩
 | _=>exact(show False from e).elim
theorem tj (ha:PE X a ta)(he:∀whole,isTrue a X.env whole=(do let v ←whole;standAt a.pos;holding [v] (truthy v))) :
  PT X a (λZ H Q=>ta Z H λx H'=>∃k,uQ X.K x H' k/\Q k H'):=by
 intro pins s Z H Q I h
 exact isTrue_plain (thn (ha pins s Z H _ I h) λv s1 ⟨x,H1,I1,r1,q1⟩=>Ar pins s1 Z H1 x v Q I1 r1 q1) (he _)
theorem op_add_str:OpR X (binaryOp .Add) (λx y H Q=>∃i j,x=.str i/\y=.str j/\i.length+j.length<=sizeLine/\Q (.str (i++j)) H):=by
 intro pins s Z H x y v u Q I rx ry h
 obtain⟨i,j,rfl,rfl,hz,q⟩:=h
 obtain⟨t,rfl⟩:=rx
 obtain⟨t',rfl⟩:=ry
 exact add_str (λt' tk=>⟨.str (i++j),H,I.tok _,⟨_,rfl⟩,q⟩) hz
theorem hV {x:V}{us:List Value}(r:Vals [x] us):∃u,us=[u]/\RelV x u:=by
 cases r with
 | cons r1 r2=>cases r2;exact⟨_,rfl,r1⟩
theorem kP {x y:V}{us:List Value}(r:Vals [x,y] us):∃u w',us=[u,w']/\RelV x u/\RelV y w':=by
 cases r with
 | cons r1 r2=>
  cases r2 with
  | cons r3 r4=>cases r4;exact⟨_,_,rfl,r1,r3⟩
theorem pB (hc:X.calm=true):CallR X (.builtin "max") (λxs H Q=>∃i j,xs=[.int i,.int j]/\Q (.int (if j>i then j else i)) H):=by
 intro pins s Z H xs us Q I r h
 obtain⟨i,j,rfl,q⟩:=h
 obtain⟨u,w',rfl,⟨t,rfl⟩,⟨t',rfl⟩⟩:=kP r
 refine max_two_ints (I.ok.hd hc) λh' tk k=>⟨_,H,I.kept k,?_,q⟩
 by_cases hj:j>i
 ·rw[if_pos hj,if_pos hj];exact⟨_,rfl⟩
 ·rw[if_neg hj,if_neg hj];exact⟨_,rfl⟩
theorem pC (hc:X.calm=true):CallR X (.builtin "min") (λxs H Q=>∃i j,xs=[.int i,.int j]/\Q (.int (if j<i then j else i)) H):=by
 intro pins s Z H xs us Q I r h
 obtain⟨i,j,rfl,q⟩:=h
 obtain⟨u,w',rfl,⟨t,rfl⟩,⟨t',rfl⟩⟩:=kP r
 refine min_two_ints (I.ok.hd hc) λh' tk k=>⟨_,H,I.kept k,?_,q⟩
 by_cases hj:j<i
 ·rw[if_pos hj,if_pos hj];exact⟨_,rfl⟩
 ·rw[if_neg hj,if_neg hj];exact⟨_,rfl⟩
theorem pw:CallR X (.type "int") (λxs H Q=>(∃i,xs=[.int i]/\Q (.int i) H) ∨ ∃k,xs=[.bl k]/\Q (.int (if k then 1 else 0)) H):=by
 intro pins s Z H xs us Q I r h
 rcases h with⟨i,rfl,q⟩|⟨k,rfl,q⟩
 ·obtain⟨u,rfl,t,rfl⟩:=hV r
  exact call_int_int ⟨.int i,H,I,⟨_,rfl⟩,q⟩
 ·obtain⟨u,rfl,r1⟩:=hV r
  cases r1
  exact call_int_bool ⟨.int (if k then 1 else 0),H,I.tok _,⟨_,rfl⟩,q⟩
end
structure ObjM (h:Heap)(x dx C:Addr)(mA:Str->Option Value):Prop where
 obj:h.get? x=some (GR C dx)
 ns:h.Ns1 dx mA
 ne:dx≠x
section
variable  {prog:Program}{w:World}{A:Around}{E:Value->Shared->Prop}{s:Shared}{K:yF}{x dx C f:Addr}{mA:Str->Option Value}{name:Str}{v:Value}
end
theorem RelO.some_of {v:V}{o:Option Value}(r:RelO (some v) o):∃u,o=some u/\RelV v u:=by
 cases o with
 | none=>exact(show False from r).elim
 | some u=>exact⟨u,rfl,r⟩
section
variable  {P:Program}{w:World}{H H':Hp}{h h':Heap}{a C dx:Addr}{fs fs':List (Str×V)}
end
structure Cls (K:yF)(C:Addr):Prop where
 pg:PySem.W.plainGet K C Str.empty=true
 hd:PySem.W.hasDictIn K C=true
 po:PySem.W.plainOver K C=true
 sa:FG K (.ref C) "__setattr__" = some (some (.builtin "object.__setattr__"))
structure Con (K:yF)(C:Addr)(f:Str)(v:V)(u:Value):Prop where
 at_:FG K (.ref C) f=some (some u)
 rel:RelV v u
 get:GE K u "__get__" = some none
 cp:PySem.W.copiedNames.contains f=false
structure Meth (K:yF)(C:Addr)(m:Str)(f:Addr):Prop where
 at_:FG K (.ref C) m=some (some (.ref f))
 fn:PySem.W.isFn K (.ref f)=true
 kp:EY K (.ref f)=true
section
variable  {X:Cx}{pins:List (Addr×Obj)}{Z:St}{H:Hp}{s:Shared}{a C dx:Addr}{fs:List (Str×V)}{f:Str}{v:V}{A:Around}{E:Value->Shared->Prop}
end
section
variable  {X:Cx}{o e value:Expr}{f:Str}{pos pos' tpos:Pos}{ta tv:TE}
end
section
variable  {X:Cx}{pins:List (Addr×Obj)}{Z:St}{H:Hp}{s:Shared}{A:Around}{E:Value->Shared->Prop}{Q:Value->Shared->Prop}{c:Value}{b:Bool}
inductive TyOf (K:yF) (H:Hp):V->Value->Prop where
 | non:TyOf K H .non (.type "NoneType")
 | bl (x:Bool):TyOf K H (.bl x) (.type "bool")
 | int (i:Int):TyOf K H (.int i) (.type "int")
 | str (x:Str):TyOf K H (.str x) (.type "str")
 | flt (x:UInt64):TyOf K H (.flt x) (.type "float")
 | lst {a:Addr} {xs:List V} (e:H a=some (.lst xs)):TyOf K H (.ref a) (.type "list")
 | frz {a:Addr} {o:Obj} {xs:List V} (e:H a=some (.frz o (.lst xs))):TyOf K H (.ref a) (.type "list")
 | tup {a:Addr} {xs:List V} (e:H a=some (.tup xs)):TyOf K H (.ref a) (.type "tuple")
 | dK {a:Addr} {kvs:List (Key×V)} (e:H a=some (.dK kvs)):TyOf K H (.ref a) (.type "dict")
 | dT {a:Addr} {kvs:List (List Key×V)} (e:H a=some (.dT kvs)):TyOf K H (.ref a) (.type "dict")
 | ins {a C dx:Addr} {fs:List (Str×V)} (e:H a=some (.ins C dx fs)) (cl:Cls K C) (ha:FG K (.ref C) "__class__" = some (some (.builtin "object.__class__")))
   (hn:GE K (.builtin "object.__class__") "__get__" = some (some (.builtin "getset_descriptor.__get__"))) (htk:PySem.W.takesIn K (.builtin "object.__class__")=some true)
   (hm:PySem.W.mroIn K C (.type "object")=some true):TyOf K H (.ref a) (.ref C)
end
structure Room (k:Nat)(A:Around):Prop where
 hd:A.handled=none
 dp:A.depth+3*k+5<recursionLimit
 un:A.units+16*k+200<cLine
theorem Room.mono {j k:Nat}{A:Around}(r:Room k A)(h:j<=k):Room j A:=⟨r.hd,by have:=r.dp;omega,by have:=r.un;omega⟩
theorem Room.deeper {k:Nat}{A:Around}(r:Room (k+1) A)(env:Env):Room k (A.deeper env):=
 ⟨r.hd,by have:=r.dp;show A.depth+1+3*k+5<_;omega,by have:=r.un;show A.units+3+16*k+200<_;omega⟩
theorem Room.in1 {k:Nat}{A:Around}(r:Room (k+1) A):Room k A.in1:=
 ⟨r.hd,by have:=r.dp;show A.depth+3*k+5<_;omega,by have:=r.un;show A.units+1+16*k+200<_;omega⟩
theorem Room.depth {k:Nat}{A:Around}(r:Room k A):A.depth<recursionLimit:=by have:=r.dp;omega
theorem Room.units {k:Nat}{A:Around}(r:Room k A):A.units+64<cLine:=by have:=r.un;omega
def CG:TA:=λ_ H Q=>Q [] H
def pb (ta:TE)(tr:TA):TA:=λZ H Q=>ta Z H λx H1=>tr Z H1 λxs H2=>Q (x::xs) H2
section
variable  {X:Cx}{e:Expr}{es:List Expr}{te:TE}{t:TA}{pos:Pos}
theorem lu:PA X [] CG:=λ_ _ _ _ H Q I h=>Calls.spliced_nil ⟨[],H,I,.nil,h⟩
theorem vA (ha:PE X e te)(hr:PA X es t)(hs:starEach (e::es) X.env=(false,eval e X.env)::starEach es X.env:=by rfl):PA X (e::es) (pb te t):=by
 intro pos pins s Z H Q I h
 rw[hs]
 show wpAny _ _ (spliced ((false,eval e X.env)::backTo pos (starEach es X.env))) _ _ s
 refine Calls.spliced_cons (thn (ha pins s Z H _ I h) λu s1 ⟨x,H1,I1,r1,q1⟩=>?_)
 exact thn (hr pos pins s1 Z H1 _ I1 q1) λus s2 ⟨xs,H2,I2,r2,q2⟩=>⟨x::xs,H2,I2,.cons r1 r2,q2⟩
def CN (t:TA):TE:=λZ H Q=>t Z H λxs H1=>xs.length<=sizeLine/\∀p,H1 p=none->Q (.ref p) (upd H1 p (.tup xs))
def CF (t:TA):TE:=λZ H Q=>t Z H λxs H1=>xs.length<=sizeLine/\∀p,H1 p=none->Q (.ref p) (upd H1 p (.lst xs))
theorem sC {x1}(h:PA X es t):PE X (.Tuple es x1 pos) (CN t):=by
 intro pins s Z H Q I hq
 refine wpAny_Tuple_spliced (thn (h pos pins s Z H _ I hq) λus s1 ⟨xs,H1,I1,r,z,q⟩=>⟨by rw[←r.length];exact z,?_⟩)
 have hf:H1 s1.heap.objs.size=none:=I1.hok.fresh (DK _)
 refine⟨.ref s1.heap.objs.size,upd H1 s1.heap.objs.size (.tup xs),I1.laid (t':=s1.toks) (λb u e=>Heap.get?_push_of_some _ e) (DK _) ?_,rfl,q _ hf⟩
 exact⟨z,us,r,⟨_,Heap.get?_push_size _ rfl,⟨rfl,rfl⟩,_,rfl⟩⟩
theorem zh (h:PA X es t):PE X (.List es pos) (CF t):=by
 intro pins s Z H Q I hq
 refine wpAny_List_spliced (thn (h pos pins s Z H _ I hq) λus s1 ⟨xs,H1,I1,r,z,q⟩=>⟨by rw[←r.length];exact z,?_⟩)
 have hf:H1 s1.heap.objs.size=none:=I1.hok.fresh (DK _)
 refine⟨.ref s1.heap.objs.size,upd H1 s1.heap.objs.size (.lst xs),I1.laid (t':=s1.toks) (λb u e=>Heap.get?_push_of_some _ e) (DK _) ?_,rfl,q _ hf⟩
 exact⟨z,us,0,r,Heap.get?_push_size _ rfl⟩
end
abbrev Sp:=List V->Hp->VK->XK->Prop
abbrev CXT:=List Env->Hp->Shared->XK->Value->Shared->Prop
structure Env0 (P:Program)(w:World)(K:yF)(mg:Str->Option Value)(base:Heap)(A:Around)(outer:List Env)(s:Shared)(H:Hp):Prop where
 frames:A.frames=some outer
 mod:Mod K mg base
 bs:∀b o,base.get? b=some o->s.heap.get? b=some o/\H b=none
 bsz:base.objs.size<=s.heap.objs.size
 funs:s.heap.FunFrames base outer
 frf:∀b∈frs outer,H b=none
 hok:HOk P w H s.heap
 bare:AllBare s.gens
def CE (outer:List Env)(P:Program)(w:World)(H:Hp)(s:Shared)(Q:VK)(u:Value)(s':Shared):Prop:=
 ∃v H',s'.os=s.os/\AllBare s'.gens/\Un (frs outer) [] H H' s.heap s'.heap/\HOk P w H' s'.heap/\RelV v u/\Q v H'
def CR (CX:CXT)(outer:List Env)(P:Program)(w:World)(H:Hp)(s:Shared)(Q:VK)(E:XK)(r:Result)(s':Shared):Prop:=
 match r with
 | .ok (.ret u)=>CE outer P w H s Q u s'
 | .ok _=>False
 | .error e=>CX outer H s E e s'
structure FnOk (P:Program)(w:World)(K:yF)(mg:Str->Option Value)(base:Heap)(CX:CXT)(k:Nat)(f:Addr)(fd:FuncData)(ps:List Str)(sp:Sp):Prop where
 len:∀vs H Q E,sp vs H Q E->vs.length=ps.length
 run:∀(A:Around) (outer:List Env) (s:Shared) (H:Hp) (args:Args) (us:List Value) (vs:List V) (Q:VK) (E:XK),Room k A->Env0 P w K mg base A outer s H->BindsTo s fd args (ps.zip us)->Vals vs us->sp vs H Q E →
  codeAny (model P w) A (.call (.ref f) args) (CR CX outer P w H s Q E) s
theorem Env0.in1 {P:Program}{w:World}{K:yF}{mg:Str->Option Value}{base:Heap}{A:Around}{outer:List Env}{s:Shared}{H:Hp}(e:Env0 P w K mg base A outer s H) :
  Env0 P w K mg base A.in1 outer s H:=⟨e.frames,e.mod,e.bs,e.bsz,e.funs,e.frf,e.hok,e.bare⟩
section
variable  {X:Cx}{pins:List (Addr×Obj)}{Z:St}{H:Hp}{s s':Shared}
theorem Inv.env0 (I:Inv X pins Z H s):Env0 X.prog X.w X.K X.mg X.base X.A X.stack s H:=
 ⟨I.ok.frames,I.ok.mod,I.bs,Ek I.ok.bsz I.sz,I.stack,I.stkFree,I.hok,I.bare⟩
theorem Inv.after {Q:VK}{u:Value}(I:Inv X pins Z H s)(h:CE X.stack X.prog X.w H s Q u s'):EP X pins Z Q u s':=by
 obtain⟨v,H',os,bare,un,hok,r,q⟩:=h
 obtain⟨hh,g,d,t,os'⟩:=s'
 obtain rfl:os'=s.os:=os
 exact⟨v,H',I.call (h':=hh) (g':=g) (d':=d) (t':=t) (ch:=[]) un hok bare (λb z=>absurd z (by simp)),r,q⟩
end
def kM (sp:Sp)(dvs:List V)(E:XK)(t:TA):TE:=λZ H Q=>t Z H λvs H1=>sp (vs++dvs) H1 Q E
def Binds (K:yF)(fd:FuncData)(ps:List Str)(ds:List Value):Prop:=
 ∀(s:Shared) (us:List Value),K.In s.heap->(us++ds).length=ps.length->BindsTo s fd ⟨us,[]⟩ (ps.zip (us++ds))
theorem Binds.all {K:yF}{fd:FuncData}{ps:List Str}(h:∀us:List Value,us.length=ps.length->bindArgs fd ⟨us,[]⟩=pure (ps.zip us)):Binds K fd ps []:=λs us _ hl=>by
 rw[D0]at hl⊢
 exact .of_eq (h us hl)
def m9 (CX:CXT)(X:Cx)(E:XK):Prop:=∀(pins:List (Addr×Obj)) (Z:St) (H:Hp) (s:Shared) (e:Value) (s':Shared),Inv X pins Z H s->CX X.stack H s E e s'->X.xe e s'
section
variable  {X:Cx}{CX:CXT}{k:Nat}{f C:Addr}{fd:FuncData}{ps:List Str}{sp:Sp}{dvs:List V}{ds:List Value}{E:XK}{x m:Str}{p pos apos:Pos}{e o:Expr}{es:List Expr}{ta:TE}{t:TA}
theorem Al {pins:List (Addr×Obj)}{Z:St}{H:Hp}{s:Shared}{Q:VK}{us:List Value}{vs:List V}(F:FnOk X.prog X.w X.K X.mg X.base CX k f fd ps sp)(hr:Room k X.A)(hb:Binds X.K fd ps ds)(hd:Vals dvs ds)(hx:m9 CX X E)
  (I:Inv X pins Z H s) (r:Vals vs us) (h:sp (vs++dvs) H Q E):wpAny (model X.prog X.w) X.A (call (.ref f) us) (EP X pins Z Q) X.xe s:=by
 have r2:Vals (vs++dvs) (us++ds):=r.append hd
 have hl:(us++ds).length=ps.length:=by rw[←r2.length];exact F.len _ _ _ _ h
 refine wpAny_call (codeAny_mono (F.run X.A X.stack s H ⟨us,[]⟩ (us++ds) (vs++dvs) Q E hr I.env0 (hb s us I.kIn hl) r2 h) λr s' hq=>?_)
 cases r with
 | error e=>exact hx pins Z H s e s' I hq
 | ok fl=>
  cases fl with
  | ret u=>exact I.after hq
  | next=>exact False.elim hq
  | brk=>exact False.elim hq
  | cont=>exact False.elim hq
theorem vB (F:FnOk X.prog X.w X.K X.mg X.base CX k f fd ps sp)(hr:Room k X.A)(hg:Gl X x)(hm:X.mg x=some (.ref f))(hk:EY X.K (.ref f)=true)(hb:Binds X.K fd ps ds)(hd:Vals dvs ds)(hx:m9 CX X E)
  (ha:PA X (e::es) t) (hdb:(x==("__debug__" : Str))=false:=by decide) (he:starEach (e::es) X.env=(false,eval e X.env)::starEach es X.env:=by rfl) (hpl:(backTo pos (starEach es X.env)).any (·.1)=false:=by rfl) :
  PE X (.Call (.Name x p) (e::es) [] pos) (kM sp dvs E t):=by
 intro pins s Z H Q I h
 refine wpAny_Call_Name_kw (vd I hg hm ?_ hdb)
 refine PySem.W.callWith_K (h₀:=X.base) I.ok.mod.kin hk (thn (ha pos pins s Z H _ I h) λus s1 ⟨vs,H1,I1,r,q⟩=>⟨I1.kIn,?_⟩) he hpl
 exact Al F hr hb hd hx I1 r q
end
section
variable  {X:Cx}{CX:CXT}{k:Nat}{f C:Addr}{fd:FuncData}{ps ks:List Str}{sp:Sp}{E:XK}{x m:Str}{p pos apos kpos:Pos}{e o:Expr}{es:List Expr}{kws:List Keyword}{te ta:TE}{t tk:TA}{nm:Option Str}
structure KBinds (K:yF)(fd:FuncData)(ps ks:List Str)(g:List Value->List Value->List Value)(gV:List V->List V->List V):Prop where
 to:∀(s:Shared) (us ws:List Value),K.In s.heap->(g us ws).length=ps.length->BindsTo s fd ⟨us,ks.zip ws⟩ (ps.zip (g us ws))
 rel:∀{vs:List V} {us:List Value} {zs:List V} {ws:List Value},Vals vs us->Vals zs ws->Vals (gV vs zs) (g us ws)
variable  {g:List Value->List Value->List Value}{gV:List V->List V->List V}
end
structure FnScope (N P:List Str)(sc:Scope):Prop where
 kind:sc.kind=.function
 co:sc.isCoroutine=false
 gen:sc.isGenerator=false
 nd:N.Nodup
 pre:N.take P.length=P
 par:∀x∈P,sc.names.lookup x=some .local∨sc.names.lookup x=some .cell
 nofree:∀y∈sc.names,y.2 ≠ .free
theorem j7 {kindOf:Str->Option NameKind}{x:Str}:∀{binds:List (Str×Value)} {m:Str->Option Value},(∀v,(x,v)∉binds)->bindL kindOf binds m x=m x
 | [],_,_=>rfl
 | (n,v)::r,m,h=>by
  unfold bindL
  rw[j7 λw hw=>h w (ymC _ hw)]
  split
  ·have:x≠n:=by rintro rfl;exact h v ymS
   simp[this]
  ·rfl
theorem j5 {kindOf:Str->Option NameKind}{x:Str}:∀{binds:List (Str×Value)} {m:Str->Option Value},(∀v,(x,v)∉binds)->bindC kindOf binds m x=m x
 | [],_,_=>rfl
 | (n,v)::r,m,h=>by
  unfold bindC
  rw[j5 λw hw=>h w (ymC _ hw)]
  split
  ·rfl
  ·have:x≠n:=by rintro rfl;exact h v ymS
   simp[this]
theorem j6 {kindOf:Str->Option NameKind}{x:Str}{v:Value}:∀{P:List Str} {vs:List Value} {i:Nat} {m:Str->Option Value},P.Nodup->P[i]?=some x->vs[i]?=some v->kindOf x=some .local →
  bindL kindOf (P.zip vs) m x=some v
 | [],_,_,_,_,h,_,_=>by simp at h
 | _::_,[],_,_,_,_,h,_=>by simp at h
 | p::P,w::vs,0,m,nd,h1,h2,hk=>by
  simp at h1 h2;subst h1;subst h2
  show bindL kindOf ((p,w)::P.zip vs) m p=_
  unfold bindL
  rw[j7 λv hv=>(D9.mp nd).1 (Ga hv).1,if_pos hk]
  simp
 | p::P,w::vs,i+1,m,nd,h1,h2,hk=>by
  show bindL kindOf ((p,w)::P.zip vs) m x=_
  unfold bindL
  exact j6 (i:=i) (D9.mp nd).2 (by simpa using h1) (by simpa using h2) hk
theorem j4 {kindOf:Str->Option NameKind}{x:Str}{v:Value}:∀{P:List Str} {vs:List Value} {i:Nat} {m:Str->Option Value},P.Nodup->P[i]?=some x->vs[i]?=some v->kindOf x≠some .local →
  bindC kindOf (P.zip vs) m x=some v
 | [],_,_,_,_,h,_,_=>by simp at h
 | _::_,[],_,_,_,_,h,_=>by simp at h
 | p::P,w::vs,0,m,nd,h1,h2,hk=>by
  simp at h1 h2;subst h1;subst h2
  show bindC kindOf ((p,w)::P.zip vs) m p=_
  unfold bindC
  rw[j5 λv hv=>(D9.mp nd).1 (Ga hv).1,if_neg hk]
  simp
 | p::P,w::vs,i+1,m,nd,h1,h2,hk=>by
  show bindC kindOf ((p,w)::P.zip vs) m x=_
  unfold bindC
  exact j4 (i:=i) (D9.mp nd).2 (by simpa using h1) (by simpa using h2) hk
noncomputable def bJ (N:List Str) (vs:List V):St:=vs.map some++DE (N.length-vs.length) none
noncomputable def jW (CX:CXT) (P:Program) (w:World) (K:yF) (mg:Str->Option Value) (base:Heap) (N:List Str) (qual:Str) (scope:Scope) (f:Addr) (cd:Value) (A:Around) (outer:List Env) (s:Shared) (H:Hp) (E:XK):Cx where
 prog:=P
 w:=w
 K:=K
 mg:=mg
 base:=base
 A:=A.deeper (envOfC qual scope s.heap.objs.size f cd)
 N:=N
 s₀:=s
 H₀:=H
 env:=envOfC qual scope s.heap.objs.size f cd
 outer:=outer
 stack:=envOfC qual scope s.heap.objs.size f cd::outer
 ex:=[]
 calm:=true
 fn:=λ_=>true
 pn:=[]
 xe:=λe s'=>wpAny (model P w) (A.deeper (envOfC qual scope s.heap.objs.size f cd)) (leaving (envOfC qual scope s.heap.objs.size f cd) e) (λ_ s''=>CX outer H s E e s'') (λe' s''=>CX outer H s E e' s'') s'
theorem lV {sc:Scope}{n:Nat}{x:Str}(h:sc.names.lookup x=some .cell):∃c,(cellsFrom n sc.names []).lookup x=some c:=by
 have q:=Fp sc.names n [] (.inl h)
 exact Fk.mp q
theorem pK {CX:CXT}{P:Program}{w:World}{K:yF}{mg:Str->Option Value}{base:Heap}{N ps:List Str}{qual:Str}{scope:Scope}{f:Addr}{cd:Value}{A:Around}{outer:List Env}{s s1:Shared}{H:Hp}{E:XK}{us:List Value}{vs:List V}
  (S:FnScope N ps scope) (hd:A.handled=none) (e0:Env0 P w K mg base A outer s H) (hl:vs.length=ps.length) (r:Vals vs us)
  (x:InCallC s s.heap.objs.size (bindL (envOfC qual scope s.heap.objs.size f cd).kindOf (ps.zip us) λ_=>none) (cellsFrom (s.heap.objs.size+1) scope.names []) (bindC (envOfC qual scope s.heap.objs.size f cd).kindOf (ps.zip us) λ_=>none) s1) :
  Inv (jW CX P w K mg base N qual scope f cd A outer s H E) [] (bJ N vs) H s1:=by
 have hpl:ps.length<=N.length:=by have:=congrArg EO S.pre;rw[D3]at this;omega
 obtain⟨h1,tk,rfl,hk⟩:=x.done
 have noA:∀b:Addr,b∉(jW CX P w K mg base N qual scope f cd A outer s H E).ex:=λb z=>absurd (show b∈([]:List Addr)from z) (by simp)
 refine⟨⟨e0.mod,S.kind,rfl,rfl,DK _,λy z c h1 h2=>?_,λy hy=>?_,λy c _ h=>?_,λ_=>hd,Around.frames_deeper e0.frames,.inr ⟨rfl,rfl⟩,λb z=>absurd z (noA b),e0.bs,e0.bsz,λb _ _=>noA b,λb z=>absurd z (noA b),e0.funs,e0.frf⟩,
  rfl,e0.bare,Un.kept hk,⟨_,x.toInCall.ns,λi y v h1 h2 h3=>?_⟩,λy c h=>⟨_,x.cell y c h⟩,e0.hok.fresh (DK _),λy c h=>?_,λp hp=>absurd (show p∈([]:List (Addr×Obj))from hp) (by simp),e0.hok.kept hk,?_⟩
 ·exact name_of_addr x.apart (ES h1) (ES h2)
 ·have hy:scope.names.lookup y=some .cell∨scope.names.lookup y=some .free:=hy
  rcases hy with hy|hy
  ·exact lV hy
  ·exact absurd rfl (S.nofree _ (ES hy))
 ·exact F4 (x.above y c (ES h))
 ·have hi:i<vs.length:=by
   unfold bJ at h2
   by_cases hi:i<vs.length
   ·exact hi
   ·rw[EF (by simpa using hi)]at h2
    rw[FV]at h2
    split at h2<;>cases h2
  have ha:vs[i]?=some v:=by
   unfold bJ at h2
   rw[Em (by simpa using hi),DG]at h2
   cases e:vs[i]? with
   | none=>rw[e]at h2;cases h2
   | some a=>rw[e]at h2;cases h2;rfl
  obtain⟨u,hu,rv⟩:=r.get ha
  have hp:ps[i]?=some y:=by
   rw[←S.pre,FP (by omega)];exact h1
  have ndP:ps.Nodup:=by rw[←S.pre];exact S.nd.sublist (GF _ _)
  refine⟨u,rv,?_⟩
  rcases S.par y (ymG hp)with k|k
  ·exact .inl ⟨k,j6 ndP hp hu k⟩
  ·obtain⟨c,e⟩:=lV (n:=s.heap.objs.size+1) k
   refine .inr ⟨.inl k,c,e,?_⟩
   have q:=x.cell y c e
   rw[j4 ndP hp hu (by show scope.names.lookup y≠_;rw[k];decide)]at q
   exact q
 ·exact e0.hok.fresh (F4 (x.above y c (ES h)))
 ·unfold bJ
  show _=N.length
  rw[DS,DH,List.length_replicate]
  omega
theorem A6 {CX:CXT}{P:Program}{w:World}{K:yF}{mg:Str->Option Value}{base:Heap}{k:Nat}{f:Addr}{name qual:Str}{params:Arguments}{body:List Stmt}{scope:Scope}{dV kV doc pm cdv ct oc:Value}{an od:Option Addr}
  {osl:Array (Option Value)} {N ps:List Str} {sp:Sp} (lk:K.lookup f=some ⟨oc,od,.func (EL name qual params body scope dV kV doc pm an cdv ct),osl⟩) (hcd:Fh K cdv qual=true) (S:FnScope N ps scope)
  (len:∀vs H Q E,sp vs H Q E->vs.length=ps.length)
  (hbody:∀(A:Around) (outer:List Env) (s:Shared) (H:Hp) (vs:List V) (Q:VK) (E:XK),Room k (A.deeper (envOfC qual scope s.heap.objs.size f cdv))->sp vs H Q E →
   ∃t,PSs (jW CX P w K mg base N qual scope f cdv A outer s H E) body t/\t {nx:=λ_ H'=>Q .non H',rt:=Q} (bJ N vs) H) :
  FnOk P w K mg base CX (k+1) f (EL name qual params body scope dV kV doc pm an cdv ct) ps sp:=by
 refine⟨len,λA outer s H args us vs Q E hr e0 hb r hsp=>?_⟩
 have hl:=len _ _ _ _ hsp
 have KX:K.In s.heap:=e0.mod.kin.keeps λb o e=>(e0.bs b o e).1
 have lim:s.heap.NoLimit:=e0.mod.nolimit.keeps λb o e=>(e0.bs b o e).1
 have hkind:∀y∈ps.zip us,scope.names.lookup y.1=some .local∨(scope.names.lookup y.1=some .cell/\((cellsFrom (s.heap.objs.size+1) scope.names []).lookup y.1).isSome=true):=fun⟨n,v⟩ hy=>by
  rcases S.par n (Ga hy).1 with q|q
  ·exact .inl q
  ·exact .inr ⟨q,Fp _ _ _ (.inl q)⟩
 refine codeAny_call_function hr.depth (KX _ _ lk) rfl S.co S.gen rfl (PySem.W.codeRec_of KX hcd) (hb _ _ _ _ ?_)
 refine wpAny_newFunctionEnv_cells S.kind hkind λenv he s1 x=>?_
 subst he
 refine⟨lim.keeps x.toInCall.keep,codeAny_func ?_⟩
 obtain⟨t,ht,hq⟩:=hbody A outer s H vs Q E (hr.deeper _) hsp
 have I:Inv (jW CX P w K mg base N qual scope f cdv A outer s H E) [] (bJ N vs) H s1:=pK S hr.hd e0 hl r x
 refine wpAny_mono (ht [] s1 (bJ N vs) H _ I hq) (λfl s' hs=>?_) λe s' hs=>hs
 have fin:∀{Z':St} {H':Hp} {v:V} {u:Value},Inv (jW CX P w K mg base N qual scope f cdv A outer s H E) [] Z' H' s'->RelV v u->Q v H'->CE outer P w H s Q u s':=
  λ{Z' H' v u} J rv q=>⟨v,H',J.os,J.bare,J.base,J.hok,rv,q⟩
 cases fl with
 | ret u=>
  obtain⟨v,Z',H',J,rv,q⟩:=hs
  exact fin J rv q
 | next=>
  obtain⟨Z',H',J,q⟩:=hs
  exact fin (v:=V.non) (u:=Value.none) J rfl q
 | brk=>
  obtain⟨_,_,_,q⟩:=hs
  exact False.elim q
 | cont=>
  obtain⟨_,_,_,q⟩:=hs
  exact False.elim q
section
variable  {X:Cx}{x:Str}{p pos:Pos}{e:Expr}{es:List Expr}{t:TA}{id T:String}{r:List V->Hp->VK->Prop}
def tCB (r:List V->Hp->VK->Prop)(t:TA):TE:=λZ H Q=>t Z H λvs H1=>r vs H1 Q
theorem sv (hc:CallR X (.builtin id) r)(hg:Gl X x)(hm:X.mg x=none)(hv:bootBuiltins x=some (.builtin id))(ha:PA X (e::es) t)(hn:x ≠ "__name__" :=by decide)(hdb:(x==("__debug__" : Str))=false:=by decide)
  (he:starEach (e::es) X.env=(false,eval e X.env)::starEach es X.env:=by rfl) (hpl:(backTo pos (starEach es X.env)).any (·.1)=false:=by rfl):PE X (.Call (.Name x p) (e::es) [] pos) (tCB r t):=by
 intro pins s Z H Q I h
 refine wpAny_Call_Name_kw (il I hg hm hv ?_ hn hdb)
 exact GL (thn (ha pos pins s Z H _ I h) λus s1 ⟨vs,H1,I1,r1,q1⟩=>hc pins s1 Z H1 vs us Q I1 r1 q1) he hpl
theorem qc (hc:CallR X (.type T) r)(hg:Gl X x)(hm:X.mg x=none)(hv:bootBuiltins x=some (.type T))(ha:PA X (e::es) t)(hn:x ≠ "__name__" :=by decide)(hdb:(x==("__debug__" : Str))=false:=by decide)
  (he:starEach (e::es) X.env=(false,eval e X.env)::starEach es X.env:=by rfl) (hpl:(backTo pos (starEach es X.env)).any (·.1)=false:=by rfl):PE X (.Call (.Name x p) (e::es) [] pos) (tCB r t):=by
 intro pins s Z H Q I h
 refine wpAny_Call_Name_kw (il I hg hm hv ?_ hn hdb)
 exact EU (thn (ha pos pins s Z H _ I h) λus s1 ⟨vs,H1,I1,r1,q1⟩=>hc pins s1 Z H1 vs us Q I1 r1 q1) he hpl
end
end L2
namespace HT
open PySem PyProof.Rows
noncomputable def lexLt:List Int->List Int->Bool
 | [],[]=>false
 | [],_::_=>true
 | _::_,[]=>false
 | x::xs,y::ys=>if x=y then lexLt xs ys else decide (x<y)
theorem lexLt_cons (x y:Int)(xs ys:List Int):lexLt (x::xs) (y::ys)=if x=y then lexLt xs ys else decide (x<y):=rfl
theorem lexLt_nil_nil:lexLt [] []=false:=rfl
theorem lexLt_nil_cons (y:Int)(ys:List Int):lexLt [] (y::ys)=true:=rfl
theorem lexLt_cons_nil (x:Int)(xs:List Int):lexLt (x::xs) []=false:=rfl
theorem eqAt_int (A:Around)(s:Shared)(a:Int)(t:Tok)(c:Int)(u:Tok):∃e,SeqAt.EqAt A s (.int a t) (.int c u) e/\(e=true↔a=c):=
 ⟨(a==c),SeqAt.EqAt.int_int a t c u,by simp⟩
theorem rcLt_int (A:Around)(s:Shared)(a:Int)(t:Tok)(c:Int)(u:Tok)(prog:Program)(w:World)(E:Value->Shared->Prop)(Q:Value->Shared->Prop)(h:Q (.bool (decide (a<c))) s) :
  wpAny (model prog w) A (richCompare .Lt (.int a t) (.int c u)) Q E s:=
 (Hk h:wpAny (model prog w) A (compareOp .Lt (.int a t) (.int c u)) Q E s)
section
open PySem.SeqAt
open PySem.AutoSeq1 (wpAny_loadPart')
open PySem.MeetsSeq PySem.MeetsSeq2 PySem.MeetsSeq3
theorem tuple_lt_ints (l b:Addr)(items items2:Array Value)(n n2:Nat)(dd dd2:Option Addr)(sl sl2:Array (Option Value))(ns ms:List Int)(hi:IntsAre items.toList ns)(hj:IntsAre items2.toList ms) :
  Meets (Builtin.«tuple.__lt__» ⟨[.ref l,.ref b],[]⟩)
   (λ_ R s=>s.heap.get? l=some {cls:=.type "tuple",dict:=dd,data:=.seq items n,slots:=sl}/\s.heap.get? b=some {cls:=.type "tuple",dict:=dd2,data:=.seq items2 n2,slots:=sl2} ∧
    R (.ok (.ret (.bool (lexLt ns ms)))) s):=
 .of_wp λprog w A R s h=>by
  obtain⟨hp,g,d,tk,os⟩:=s;obtain⟨hl,hb,h⟩:=h
  have f2:=AutoSeq1.sub_tuple_tuple
  have z1:items.size=ns.length:=by rw[←hi.length];simp
  have z2:items2.size=ms.length:=by rw[←hj.length];simp
  wp_walk using wpAny_loadPart' hl,wpAny_loadPart' hb,wpAny_forIn_list _ (λrest b s'=>b.1=none/\s'=⟨hp,g,d,tk,os⟩/\∃(vs ws:List Value) (ns' ms':List Int),rest=vs.zip ws ∧
   IntsAre vs ns'/\IntsAre ws ms'/\ns'.length+items2.size=ms'.length+items.size/\R (.ok (.ret (.bool (lexLt ns' ms')))) ⟨hp,g,d,tk,os⟩) _
  case turn=>
   rintro⟨y,x⟩ rest b s' ⟨hb',rfl,vs,ws,ns',ms',hz,hvi,hwi,hlen,hR⟩
   cases hvi with
   | nil=>rw[List.zip_nil_left]at hz;cases hz
   | cons a t hvi'=>
    cases hwi with
    | nil=>rw[List.zip_nil_right]at hz;cases hz
    | cons c u hwi'=>
     rw[GB]at hz
     injection hz with hyx hrest
     injection hyx with hy hx
     subst hy hx
     rw[lexLt_cons]at hR
     simp only[DQ]at hlen
     obtain⟨e,he,hiff⟩:=eqAt_int A.in1 ⟨hp,g,d,tk,os⟩ a t c u
     refine wpAny_bind (he prog w _ _ ?_)
     cases e with
     | true=>
      rw[if_pos (hiff.mp rfl)]at hR
      wp_walk
      exact⟨rfl,rfl,_,_,_,_,hrest,hvi',hwi',by omega,hR⟩
     | false=>
      rw[if_neg (λq=>absurd (hiff.mpr q) DN)]at hR
      have hri:=rcLt_int A.in1 ⟨hp,g,d,tk,os⟩ a t c u prog w
      wp_walk using hri
      exact⟨_,rfl,by simpa using hR⟩
  case fin=>
   rintro⟨b1,b2⟩ s' ⟨hb',rfl,vs,ws,ns',ms',hz,hvi,hwi,hlen,hR⟩
   simp only at hb'
   subst hb'
   have hv:lexLt ns' ms'=decide (items.size<items2.size):=by
    cases hvi with
    | nil=>
     cases hwi with
     | nil=>
      simp only[FA]at hlen
      rw[lexLt_nil_nil]
      exact(decide_eq_false (by omega)).symm
     | cons c u hw=>
      simp only[FA,DQ]at hlen
      rw[lexLt_nil_cons]
      exact(decide_eq_true (by omega)).symm
    | cons a t hv=>
     cases hwi with
     | nil=>
      simp only[FA,DQ]at hlen
      rw[lexLt_cons_nil]
      exact(decide_eq_false (by omega)).symm
     | cons c u hw=>
      rw[GB]at hz
      cases hz
   rw[hv]at hR
   wp_walk
   exact⟨_,rfl,by simpa[Builtin.Tuple.tupleCompareSizes]using hR⟩
  case h=>
   exact⟨rfl,rfl,items.toList,items2.toList,ns,ms,rfl,hi,hj,by omega,h⟩
end
section
variable  {prog:Program}{w:World}{A:Around}{E:Value->Shared->Prop}{s:Shared}
theorem lt_tupInts {l b:Addr}{items items2:Array Value}{ns ms:List Int}{Q:Value->Shared->Prop}(hl:IsTup s.heap l items)(hb:IsTup s.heap b items2)(hi:IntsAre items.toList ns)(hj:IntsAre items2.toList ms)
  (hu:A.units<cLine) (h:Q (.bool (lexLt ns ms)) s):wpAny (model prog w) A (compareOp .Lt (.ref l) (.ref b)) Q E s:=by
 obtain⟨⟨cls,dd,data,sl⟩,ho,hc,n,hd⟩:=id hl
 obtain⟨⟨cls2,dd2,data2,sl2⟩,ho2,hc2,n2,hd2⟩:=id hb
 simp only at hc hd hc2 hd2
 subst hc hd hc2 hd2
 exact richCompare_meets_room (op:=.Lt) ⟨_,ho,rfl⟩ ⟨_,ho2,rfl⟩ PySem.F.slot_tuple_lt PySem.F.entry_tuple_lt (PySem.F.args_tuple_lt_2 _ _) (tuple_lt_ints l b items items2 n n2 dd dd2 sl sl2 ns ms hi hj)
  ⟨ho,ho2,show Value.bool (lexLt ns ms)≠Value.notImplemented/\Q (.bool (lexLt ns ms)) s from⟨(λx=>nomatch x),h⟩⟩ hu
theorem cat_tup {t b:Addr}{vs ws:List Value}{Q:Value->Shared->Prop}(ht:IsTup s.heap t vs.toArray)(hb:IsTup s.heap b ws.toArray)(hv:vs≠[])
  (h1:ws=[]->Q (.ref t) s) (h2:ws≠[]->Q (.ref s.heap.objs.size) {s with heap:=s.heap.push {cls:=.type "tuple",data:=.seq (vs++ws).toArray}})
  (hsz:vs.length+ws.length<=sizeLine):wpAny (model prog w) A (binaryOp .Add (.ref t) (.ref b)) Q E s:=by
 obtain⟨⟨cls,dd,data,sl⟩,ho,hc,n,hd⟩:=id ht
 obtain⟨⟨cls2,dd2,data2,sl2⟩,ho2,hc2,n2,hd2⟩:=id hb
 simp only at hc hd hc2 hd2
 subst hc hd hc2 hd2
 have e:vs.toArray++ws.toArray=(vs++ws).toArray:=by simp
 by_cases hw:ws=[]
 ·exact concat_meets ⟨_,ho,rfl⟩ ⟨_,ho2,rfl⟩ noFill_tuple_add seq_tuple_add PySem.F.slot_tuple_add PySem.F.entry_tuple_add (PySem.F.args_tuple_add_2 _ _)
   (tuple_addW1 t b vs.toArray ws.toArray n n2 dd dd2 sl sl2 (by simpa using hv) (by simp[hw])) ⟨ho,ho2,h1 hw⟩
 ·refine concat_meets ⟨_,ho,rfl⟩ ⟨_,ho2,rfl⟩ noFill_tuple_add seq_tuple_add PySem.F.slot_tuple_add PySem.F.entry_tuple_add (PySem.F.args_tuple_add_2 _ _)
   (tuple_addW2 t b vs.toArray ws.toArray n n2 dd dd2 sl sl2 (by simpa using hv) (by simpa using hw) (by rw[DC,DC];exact hsz)) ⟨ho,ho2,?_⟩
  rw[e]
  exact h2 hw
noncomputable def sIx (n d:Nat):Option Int->Nat
 | none=>d
 | some v=>if v<0 then(v+(n:Int)).toNat else min v.toNat n
theorem sIx_none (n d:Nat):sIx n d none=d:=rfl
theorem sIx_nat (n d k:Nat):sIx n d (some (k:Int))=min k n:=by
 show(if(k:Int)<0 then((k:Int)+(n:Int)).toNat else min (k:Int).toNat n)=min k n
 rw[if_neg (by omega),D7]
theorem sIx_le (n d:Nat)(hd:d<=n)(o:Option Int):sIx n d o<=n:=by
 cases o with
 | none=>exact hd
 | some v=>
  show(if v<0 then(v+(n:Int)).toNat else min v.toNat n)<=n
  by_cases hv:v<0
  ·rw[if_pos hv];omega
  ·rw[if_neg hv];exact Nat.min_le_right _ _
theorem clip_eq (v:Int)(n d:Nat):(if v<0 then max (v+(n:Int)) 0 else min v (n:Int))=((sIx n d (some v):Nat):Int):=by
 show(if v<0 then max (v+(n:Int)) 0 else min v (n:Int))=(((if v<0 then(v+(n:Int)).toNat else min v.toNat n):Nat):Int)
 by_cases hv:v<0
 ·simp only[if_pos hv];omega
 ·simp only[if_neg hv];omega
theorem adjust_gen (lo hi:Option Int)(n:Nat):Builtin.Slice.sliceAdjust lo hi 1 (n:Int)=(((sIx n 0 lo:Nat):Int),((sIx n n hi:Nat):Int)):=by
 have h1:¬ ((1:Int)<0):=by omega
 unfold Builtin.Slice.sliceAdjust
 simp only[h1,if_false]
 refine GY ?_ ?_
 ·cases lo with
  | none=>rfl
  | some v=>exact clip_eq v n 0
 ·cases hi with
  | none=>rfl
  | some v=>exact clip_eq v n n
theorem places_gen (i j:Nat):Builtin.Slice.slicePlaces (i:Int) (j:Int) 1=j-i:=by
 unfold Builtin.Slice.slicePlaces
 have h1:(1:Int)>0:=by omega
 simp only[h1,if_true,G8]
 split<;>omega
theorem slicePart_ {v:Value}{o:Option Int}{Q:Option Int->Shared->Prop}(p:IsPart v o)(h:Q o s):wpAny (model prog w) A (Builtin.Slice.slicePartIndex v) Q E s:=by
 cases p with
 | none=>exact slicePart_none h
 | int i t=>exact slicePart_int h
theorem sliceApplied_gen {sl:Addr}{vl vu:Value}{lo hi:Option Int}{n:Nat}{Q:Int×Int×Nat->Shared->Prop}(hs:s.heap.IsSliceOf sl vl vu .none)(pl:IsPart vl lo)(pu:IsPart vu hi)
  (h:Q (((sIx n 0 lo:Nat):Int),1,sIx n n hi-sIx n 0 lo) s):wpAny (model prog w) A (Builtin.Slice.sliceApplied (.ref sl) (pure (n:Int))) Q E s:=by
 obtain⟨os,hos,hcs,hds⟩:=id hs
 unfold Builtin.Slice.sliceApplied Builtin.Slice.sliceFields
 refine wpAny_bind (wpAny_bind (wpAny_field hos hds (x:=vl) rfl (wpAny_bind (wpAny_field hos hds (x:=vu) rfl (wpAny_bind (wpAny_field hos hds (x:=.none) rfl (wpAny_pure ?_)))))))
 refine wpAny_bind (slicePart_none ?_)
 show wpAny _ _ (if((1:Int)==0)=true then _ else _) _ _ s
 rw[if_neg (by decide)]
 refine wpAny_bind (slicePart_ pl (wpAny_bind (slicePart_ pu (wpAny_bind (wpAny_pure ?_)))))
 show wpAny _ _ (match Builtin.Slice.sliceAdjust lo hi 1 (n:Int)with|(lo,hi)=>pure (lo,(1:Int),Builtin.Slice.slicePlaces lo hi 1)) _ _ s
 rw[adjust_gen lo hi n]
 show wpAny _ _ (pure (((sIx n 0 lo:Nat):Int),(1:Int),Builtin.Slice.slicePlaces ((sIx n 0 lo:Nat):Int) ((sIx n n hi:Nat):Int) 1)) _ _ s
 rw[places_gen]
 exact wpAny_pure h
theorem pick_gen (xs:Array Value)(i k:Nat):((Ee k).filterMap λ(m:Nat)=>xs[((i:Int)+(m:Int)*1).toNat]?).toArray=((xs.toList.drop i).take k).toArray:=by
 have e:(λ(m:Nat)=>xs[((i:Int)+(m:Int)*1).toNat]?)=λm=>xs[i+m]?:=by
  funext m
  have:((i:Int)+(m:Int)*1).toNat=i+m:=by omega
  rw[this]
 rw[e]
 have:=pick_run xs i k
 rw[EZ]at this
 have e2:((λx=>xs[x]?)∘λx=>i+x)=λm=>xs[i+m]?:=rfl
 rw[e2]at this
 rw[this]
theorem getItem_tuple_cut {t sl:Addr}{items:Array Value}{vl vu:Value}{lo hi:Option Int}{Q:Value->Shared->Prop}(ht:IsTup s.heap t items)(hs:s.heap.IsSliceOf sl vl vu .none)(pl:IsPart vl lo)(pu:IsPart vu hi)
  (hw:¬ (sIx items.size 0 lo=0/\sIx items.size items.size hi=items.size))
  (h:Q (.ref s.heap.objs.size) {s with heap:=s.heap.push {cls:=.type "tuple",data:=.seq ((items.toList.drop (sIx items.size 0 lo)).take (sIx items.size items.size hi-sIx items.size 0 lo)).toArray}})
  (hsz:items.size<=sizeLine):wpAny (model prog w) A (getItem (.ref t) (.ref sl)) Q E s:=by
 have htake:sizeOk (.seq ((items.toList.drop (sIx items.size 0 lo)).take (sIx items.size items.size hi-sIx items.size 0 lo)).toArray):=by
  show((items.toList.drop (sIx items.size 0 lo)).take (sIx items.size items.size hi-sIx items.size 0 lo)).toArray.size<=sizeLine
  rw[DC,D3,Ey,EI]
  omega
 have hj:sIx items.size items.size hi<=items.size:=sIx_le _ _ (DK _) hi
 obtain⟨os,hos,hcs,hds⟩:=id hs
 have hTs:s.TypeIs (.ref sl) "slice" :=⟨os,hos,hcs⟩
 unfold getItem
 try with_reducible refine wpAny_holding ?_
 first|refine wpAny_bind (wpAny_pure ?_)|skip
 refine wpAny_bind (wpAny_sequenceKey ht.typeIs (by decide) ?_)
 refine wpAny_bind (wpAny_callSpecial?_slot (name:=Str.ofString "__getitem__") ht.typeIs Ej
  (wpAny_call_entry Ej ht.typeIs entry_tuple_getitem ?_ (args_tuple_getitem _ _)))
 show wpAny _ _ (Builtin.Tuple.tupleItemsOf (.ref t) >>= _) _ _ s
 refine wpAny_bind (tupleItemsOf_ ht ?_)
 refine wpAny_bind (wpAny_typeOf hTs ?_)
 rw[if_pos (by decide)]
 refine wpAny_bind (sliceApplied_gen hs pl pu ?_)
 have hno:¬ ((((sIx items.size 0 lo:Nat):Int)==0&&(1:Int)==1&&(sIx items.size items.size hi-sIx items.size 0 lo)==items.size)=true):=by
  intro q
  rw[DD,DD]at q
  have q1:((sIx items.size 0 lo:Nat):Int)=0:=eq_of_beq q.1.1
  have q2:sIx items.size items.size hi-sIx items.size 0 lo=items.size:=eq_of_beq q.2
  exact hw ⟨by omega,by omega⟩
 show wpAny _ _ (if(((sIx items.size 0 lo:Nat):Int)==0&&(1:Int)==1&&(sIx items.size items.size hi-sIx items.size 0 lo)==items.size)=true then _ else _) _ _ s
 rw[if_neg hno,pick_gen]
 first
  | exact wpAny_bind (m:=Builtin.Tuple.tupleExact _) (wpAny_newObj_type (wpAny_pure ⟨_,rfl,wpAny_pure h⟩) htake)
  | exact wpAny_bind (m:=Builtin.Tuple.tupleExact _) (wpAny_newObj_type (wpAny_bind (wpAny_pure (wpAny_pure ⟨_,rfl,wpAny_pure h⟩))) htake)
  | exact wpAny_bind (wpAny_bind (m:=Builtin.Tuple.tupleExact _) (wpAny_newObj_type (wpAny_pure (wpAny_pure ⟨_,rfl,wpAny_pure h⟩)) htake))
  | exact wpAny_bind (wpAny_bind (m:=Builtin.Tuple.tupleExact _) (wpAny_newObj_type (wpAny_pure ⟨_,rfl,wpAny_pure h⟩) htake))
end
end HT
namespace L2
open PySem PySem.Spec PyProof.Rows
abbrev TO:=St->Hp->(Option Int->Hp->Prop)->Prop
def PO (X:Cx)(e:Option Expr)(t:TO):Prop:=
 ∀(pins:List (Addr×Obj)) (s:Shared) (Z:St) (H:Hp) (Q:Option Int->Hp->Prop),Inv X pins Z H s->t Z H Q →
  wpAny (model X.prog X.w) X.A (evalPart e X.env) (λu s'=>∃o H',Inv X pins Z H' s'/\IsPart u o/\Q o H') X.xe s
def pc:TO:=λ_ H Q=>Q none H
def pd (t:TE):TO:=λZ H Q=>t Z H λx H1=>∃i,x=.int i/\Q (some i) H1
theorem jp {ns:List Int}:∀{us:List Value},Vals (ns.map V.int) us->IntsAre us ns:=by
 induction ns with
 | nil=>intro us r;rw[Fa]at r;cases r;exact .nil
 | cons n ns ih=>
  intro us r
  rw[DJ]at r
  cases r with
  | cons r1 r2=>
   obtain⟨t,e⟩:=r1
   subst e
   exact .cons n t (ih r2)
section
variable  {X:Cx}{e:Expr}{te:TE}{lo hi:Option Expr}{tl th:TO}{pos p2:Pos}
theorem vM:PO X none pc:=by
 intro pins s Z H Q I h
 rw[evalPart_none]
 exact wpAny_pure ⟨none,H,I,.none,h⟩
theorem lw (h:PE X e te):PO X (some e) (pd te):=by
 intro pins s Z H Q I hw
 rw[evalPart_some]
 refine thn (h pins s Z H _ I hw) λu s1 ⟨x,H1,I1,r1,q1⟩=>?_
 obtain⟨i,rfl,q⟩:=q1
 obtain⟨t,rfl⟩:=r1
 exact⟨some i,H1,I1,.int i t,q⟩
def SlR (X:Cx)(r:V->Option Int->Option Int->Hp->VK->Prop):Prop:=
 ∀(pins:List (Addr×Obj)) (s:Shared) (Z:St) (H:Hp) (x:V) (v vl vu:Value) (lo hi:Option Int) (sl:Addr) (Q:VK),Inv X pins Z H s->RelV x v->s.heap.IsSliceOf sl vl vu .none->IsPart vl lo->IsPart vu hi->r x lo hi H Q →
  ∃T id,typeLookup (.type T) "__getitem__" = pure (some (.builtin id))/\s.TypeIs v T/\wpAny (model X.prog X.w) X.A (getItem v (.ref sl)) (EP X pins Z Q) X.xe s
theorem SlR.or {r r':V->Option Int->Option Int->Hp->VK->Prop}(h:SlR X r)(h':SlR X r'):SlR X (λx lo hi H Q=>r x lo hi H Q∨r' x lo hi H Q):=by
 intro pins s Z H x v vl vu lo hi sl Q I rx hs pl pu q
 rcases q with q|q
 ·exact h pins s Z H x v vl vu lo hi sl Q I rx hs pl pu q
 ·exact h' pins s Z H x v vl vu lo hi sl Q I rx hs pl pu q
def tSl (r:V->Option Int->Option Int->Hp->VK->Prop)(te:TE)(tl th:TO):TE:=λZ H Q=>te Z H λx H1=>tl Z H1 λl H2=>th Z H2 λu H3=>r x l u H3 Q
theorem sB {r:V->Option Int->Option Int->Hp->VK->Prop}(hr:SlR X r)(he:PE X e te)(hl:PO X lo tl)(hu:PO X hi th):PE X (.Subscript e (.Slice lo hi none p2) pos) (tSl r te tl th):=by
 intro pins s Z H Q I h
 refine Subscript_ (thn (he pins s Z H _ I h) λv s1 ⟨x,H1,I1,r1,q1⟩=>?_)
 refine wpAny_Slice (thn (hl pins s1 Z H1 _ I1 q1) λvl s2 ⟨l,H2,I2,pl,q2⟩=>thn (hu pins s2 Z H2 _ I2 q2) λvu s3 ⟨u,H3,I3,pu,q3⟩=>?_)
 rw[evalPart_none]
 refine wpAny_pure ?_
 have I4:Inv X pins Z H3 {s3 with heap:=s3.heap.push {cls:=.type "slice",data:=.fields #[vl,vu,.none]}}:=I3.kept (t':=s3.toks) λb ob q=>Heap.get?_push_of_some _ q
 obtain⟨T,id,hT,ht,hg⟩:=hr pins {s3 with heap:=s3.heap.push {cls:=.type "slice",data:=.fields #[vl,vu,.none]}} Z H3 x v vl vu l u s3.heap.objs.size Q I4 r1 (Heap.IsSliceOf.new ..) pl pu q3
 show wpAny (model X.prog X.w) X.A (subscriptTail e (.Slice lo hi none p2) v (.ref s3.heap.objs.size)) (EP X pins Z Q) X.xe {s3 with heap:=s3.heap.push {cls:=.type "slice",data:=.fields #[vl,vu,.none]}}
 exact tail_any (ops:=[.ref s3.heap.objs.size,v]) ht hT hg (by with_unfolding_all rfl)
noncomputable def jh (xs:List V) (lo hi:Option Int):List V:=(xs.drop (HT.sIx xs.length 0 lo)).take (HT.sIx xs.length xs.length hi-HT.sIx xs.length 0 lo)
theorem iM (xs:List V)(lo hi:Option Int):(jh xs lo hi).length<=xs.length:=by
 unfold jh
 rw[D3,Ey]
 omega
def Cu (K:yF):V->Option Int->Option Int->Hp->VK->Prop:=λx lo hi H Q=>∃a xs,x=.ref a/\SqT K H a xs ∧
 ¬ (HT.sIx xs.length 0 lo=0/\HT.sIx xs.length xs.length hi=xs.length)/\∀p,H p=none->Q (.ref p) (upd H p (.tup (jh xs lo hi)))
theorem sl_tup:SlR X (Cu X.K):=by
 intro pins s Z H x v vl vu lo hi sl Q I rx hs pl pu h
 obtain⟨a,xs,rfl,hx,hw,q⟩:=h
 cases rx
 obtain⟨its,r,ht,hz⟩:=I.tuple hx
 have hlen:its.toArray.size=xs.length:=by rw[DC];exact r.length.symm
 refine⟨"tuple",_,Ej.lookup,ht.typeIs,?_⟩
 refine HT.getItem_tuple_cut ht hs pl pu (by rw[hlen];exact hw) ?_ (by rw[hlen];exact hz)
 rw[hlen]
 refine⟨.ref s.heap.objs.size,_,I.laid (t':=s.toks) (o:=.tup (jh xs lo hi)) (λb ob q=>Heap.get?_push_of_some _ q) (DK _) ?_,rfl,q _ (I.hok.fresh (DK _))⟩
 exact⟨Ek (iM xs lo hi) hz,_,(r.drop (HT.sIx xs.length 0 lo)).take (HT.sIx xs.length xs.length hi-HT.sIx xs.length 0 lo),IsTupN.new _ _⟩
def z8 (K:yF):R2:=λx y H Q=>∃a b ns ms,x=.ref a/\y=.ref b/\SqT K H a (ns.map V.int)/\SqT K H b (ms.map V.int)/\Q (.bl (HT.lexLt ns ms)) H
theorem yL (hu:X.A.units<cLine):OpR X (compareOp .Lt) (z8 X.K):=by
 intro pins s Z H x y v u Q I rx ry h
 obtain⟨a,b,ns,ms,rfl,rfl,ha,hb,q⟩:=h
 cases rx
 cases ry
 obtain⟨its,r1,p1,_⟩:=I.tuple ha
 obtain⟨its2,r2,p2,_⟩:=I.tuple hb
 have i1:IntsAre its.toArray.toList ns:=jp r1
 have i2:IntsAre its2.toArray.toList ms:=jp r2
 exact HT.lt_tupInts p1 p2 i1 i2 hu ⟨.bl (HT.lexLt ns ms),H,I,rfl,q⟩
def xC (K:yF):R2:=λx y H Q=>∃a b xs ys,x=.ref a/\y=.ref b/\SqT K H a xs/\SqT K H b ys/\xs≠[]/\xs.length+ys.length<=sizeLine ∧
 (ys=[]->Q (.ref a) H)/\(ys≠[]->∀p,H p=none->Q (.ref p) (upd H p (.tup (xs++ys))))
theorem Vals.nil_iff {xs:List V}{us:List Value}(r:Vals xs us):us=[]↔xs=[]:=by
 cases r with
 | nil=>simp
 | cons _ _=>simp
theorem vt:OpR X (binaryOp .Add) (xC X.K):=by
 intro pins s Z H x y v u Q I rx ry h
 obtain⟨a,b,xs,ys,rfl,rfl,ha,hb,hx,hz,q1,q2⟩:=h
 cases rx
 cases ry
 obtain⟨its,r1,p1,_⟩:=I.tuple ha
 obtain⟨its2,r2,p2,_⟩:=I.tuple hb
 refine HT.cat_tup p1 p2 (λz=>hx (r1.nil_iff.mp z)) (λz=>⟨.ref a,H,I,rfl,q1 (r2.nil_iff.mp z)⟩) (λz=>?_) (by rw[←r1.length,←r2.length];exact hz)
 refine⟨.ref s.heap.objs.size,_,I.laid (t':=s.toks) (o:=.tup (xs++ys)) (λb ob q=>Heap.get?_push_of_some _ q) (DK _) ?_,rfl,q2 (λw=>z (r2.nil_iff.mpr w)) _ (I.hok.fresh (DK _))⟩
 exact⟨by rw[DS];exact hz,_,r1.append r2,IsTupN.new _ _⟩
end
noncomputable def ixN (n:Nat) (i:Int):Option Nat:=if 0<=i then(if i<n then some i.toNat else none)else if -(n:Int)<=i then some (i+n).toNat else none
noncomputable def atI {α:Type} (xs:List α) (i:Int):Option α:=(ixN xs.length i).bind λj=>xs[j]?
theorem oS {n:Nat}{i:Int}{j:Nat}(h:ixN n i=some j):seqIndex? i n=some j/\j<n/\-(n:Int)<=i/\i<n:=by
 unfold ixN at h
 by_cases h0:0<=i
 ·rw[if_pos h0]at h
  by_cases h1:i<n
  ·rw[if_pos h1]at h
   have e:i.toNat=j:=D5.inj h
   exact⟨by rw[seqIndex_of h0 h1,e],by omega,by omega,h1⟩
  ·rw[if_neg h1]at h;cases h
 ·rw[if_neg h0]at h
  by_cases h1 : -(n:Int)<=i
  ·rw[if_pos h1]at h
   have e:(i+n).toNat=j:=D5.inj h
   exact⟨by rw[seqIndex_neg (by omega) h1,e],by omega,h1,by omega⟩
  ·rw[if_neg h1]at h;cases h
theorem kW {α:Type}{xs:List α}{i:Int}{v : α}(h:atI xs i=some v):∃j,seqIndex? i xs.length=some j/\xs[j]?=some v/\j<xs.length/\-(xs.length:Int)<=i/\i<xs.length:=by
 unfold atI at h
 cases e:ixN xs.length i with
 | none=>rw[e]at h;cases h
 | some j=>
  rw[e]at h
  obtain⟨h1,h2,h3,h4⟩:=oS e
  exact⟨j,h1,h,h2,h3,h4⟩
def oq (b:Expr):Prop:=∀o i,subscripted b false o i=operate [o,i] (getItem o i)
def IxR (X:Cx)(r:R2):Prop:=
 ∀(value slice:Expr) (pins:List (Addr×Obj)) (s:Shared) (Z:St) (H:Hp) (x y:V) (v u:Value) (Q:VK),Inv X pins Z H s->RelV x v->RelV y u->r x y H Q →
  subscripted slice false v u=operate [v,u] (getItem v u)->wpAny (model X.prog X.w) X.A (subscriptTail value slice v u) (EP X pins Z Q) X.xe s
def MtR (X:Cx)(id:String)(r:V->List V->Hp->VK->Prop):Prop:=
 ∀(pins:List (Addr×Obj)) (s:Shared) (Z:St) (H:Hp) (x:V) (xs:List V) (v:Value) (us:List Value) (Q:VK),Inv X pins Z H s->RelV x v->Vals xs us->r x xs H Q →
  wpAny (model X.prog X.w) X.A (call (.builtin id) (v::us)) (EP X pins Z Q) X.xe s
section
variable  {X:Cx}{a b:Expr}{ta tb:TE}{pos:Pos}
theorem IxR.or {r r':R2}(h:IxR X r)(h':IxR X r'):IxR X (λx y H Q=>r x y H Q∨r' x y H Q):=by
 intro value slice pins s Z H x y v u Q I rx ry q hs
 rcases q with q|q
 ·exact h value slice pins s Z H x y v u Q I rx ry q hs
 ·exact h' value slice pins s Z H x y v u Q I rx ry q hs
theorem MtR.or {id:String}{r r':V->List V->Hp->VK->Prop}(h:MtR X id r)(h':MtR X id r'):MtR X id (λx xs H Q=>r x xs H Q∨r' x xs H Q):=by
 intro pins s Z H x xs v us Q I rx rs q
 rcases q with q|q
 ·exact h pins s Z H x xs v us Q I rx rs q
 ·exact h' pins s Z H x xs v us Q I rx rs q
theorem BN {r:R2}(hr:IxR X r)(ha:PE X a ta)(hb:PE X b tb)(hs:oq b):PE X (.Subscript a b pos) (tOp r ta tb):=by
 intro pins s Z H Q I h
 exact Subscript_ (xZ ha hb I h λv u s2 x y H2 I2 rx ry q=>hr a b pins s2 Z H2 x y v u Q I2 rx ry q (hs _ _))
def Cn (K:yF):R2:=λx y H Q=>∃p xs i v,x=.ref p/\y=.int i/\SqL K H p xs/\atI xs i=some v/\Q v H
def Cp (K:yF):R2:=λx y H Q=>∃p xs i v,x=.ref p/\y=.int i/\SqT K H p xs/\atI xs i=some v/\Q v H
def Co:R2:=λx y H Q=>∃z i c,x=.str z/\y=.int i/\z.length<=sizeLine/\atI z.cps.toList i=some c/\Q (.str ⟨#[c]⟩) H
theorem ix_list:IxR X (Cn X.K):=by
 intro value slice pins s Z H x y v u Q I rx ry h hs
 obtain⟨p,xs,i,z,rfl,rfl,hq,he,q⟩:=h
 cases rx
 obtain⟨t,rfl⟩:=ry
 obtain⟨its,r,pl,hz⟩:=I.list hq
 obtain⟨j,h1,h2,h3,h4,h5⟩:=kW he
 obtain⟨w,ew,rw'⟩:=r.get h2
 have hl:=r.length
 have hn:=gB
 have fin:EP X pins Z Q w s:=⟨z,H,I,rw',q⟩
 by_cases h0:0<=i
 ·have hj:i.toNat=j:=by
   rw[seqIndex_of h0 h5]at h1
   exact D5.inj h1
  exact item_listR pl.isList h0 (by omega) (by rw[hj];simpa using ew) fin hs
 ·have hj:(i+(its.toArray.size:Int)).toNat=j:=by
   rw[seqIndex_neg (by omega) h4]at h1
   rw[DC,←hl]
   exact D5.inj h1
  exact subscriptTail_builtinR (x:=w) pl.isList.typeIs slot_list_getitem.lookup
   (wpAny_getItem_list_neg (Q:=λr s'=>r=w/\EP X pins Z Q r s') pl.isList (by omega) (by rw[DC]<;>omega) (by omega) (by rw[hj];simpa using ew) ⟨rfl,fin⟩) hs
theorem ix_tup:IxR X (Cp X.K):=by
 intro value slice pins s Z H x y v u Q I rx ry h hs
 obtain⟨p,xs,i,z,rfl,rfl,hq,he,q⟩:=h
 cases rx
 obtain⟨t,rfl⟩:=ry
 obtain⟨its,r,pl,hz⟩:=I.tuple hq
 obtain⟨j,h1,h2,h3,h4,h5⟩:=kW he
 obtain⟨w,ew,rw'⟩:=r.get h2
 have hl:=r.length
 have hn:=gB
 have fin:EP X pins Z Q w s:=⟨z,H,I,rw',q⟩
 exact subscriptTail_builtinR (x:=w) pl.typeIs slot_tuple_getitem.lookup
  (getItem_tuple (j:=j) (Q:=λr s'=>r=w/\EP X pins Z Q r s') pl (by omega) (by omega) (by rw[DC,←hl];exact h1) (by simpa using ew) ⟨rfl,fin⟩) hs
theorem yo:IxR X Co:=by
 intro value slice pins s Z H x y v u Q I rx ry h hs
 obtain⟨z,i,c,rfl,rfl,hz,he,q⟩:=h
 obtain⟨t,rfl⟩:=rx
 obtain⟨t',rfl⟩:=ry
 obtain⟨j,h1,h2,h3,h4,h5⟩:=kW he
 have hl:z.cps.toList.length=z.length:=by simp[Str.length]
 rw[hl]at h1 h4 h5
 have hn:=gB
 exact tail_any (typeIs_str s z t) slot_str_getitem.lookup (getItem_str (c:=c) (by
  have e1:decide (i < -(2^63:Int))=false:=decide_eq_false (by omega)
  have e2:decide (i≥2^63)=false:=decide_eq_false (by omega)
  rw[e1,e2,Bool.or_false]) (by rw[h1];simpa using h2) ⟨.str ⟨#[c]⟩,H,I.tok _,⟨_,rfl⟩,q⟩) hs
def rIx (K:yF):R2:=λx y H Q=>Cn K x y H Q∨Cp K x y H Q∨Co x y H Q
theorem yn:IxR X (rIx X.K):=ix_list.or (ix_tup.or yo)
theorem nB (its:List Value)(n j:Nat)(u:Value):Obj.mapSeq (·.setIfInBounds j u) {cls:=.type "list",data:=.seq its.toArray n}={cls:=.type "list",data:=.seq (its.set j u).toArray n}:=by
 simp[Obj.mapSeq]
theorem Inv.lst {pins:List (Addr×Obj)}{Z:St}{H:Hp}{s:Shared}{p:Addr}{xs:List V}(I:Inv X pins Z H s)(h:H p=some (.lst xs)) :
  ∃(its:List Value) (n:Nat),Vals xs its/\s.heap.get? p=some {cls:=.type "list",data:=.seq its.toArray n}/\xs.length<=sizeLine:=by
 obtain⟨z,its,n,r,e⟩:=I.hok p _ h
 exact⟨its,n,r,e,z⟩
theorem Inv.lstUpd {pins:List (Addr×Obj)}{Z:St}{H:Hp}{s:Shared}{p:Addr}{xs ys:List V}{its its':List Value}{n n':Nat}{f:Obj->Obj}(I:Inv X pins Z H s)(h:H p=some (.lst xs))
  (ho:s.heap.get? p=some {cls:=.type "list",data:=.seq its.toArray n}) (hf:f {cls:=.type "list",data:=.seq its.toArray n}={cls:=.type "list",data:=.seq its'.toArray n'}) (r:Vals ys its') (hz:ys.length<=sizeLine) (t:Nat) :
  Inv X pins Z (upd H p (.lst ys)) {s with heap:=s.heap.update p f,toks:=t}:=by
 have e:(s.heap.update p f).get? p=some {cls:=.type "list",data:=.seq its'.toArray n'}:=by
  rw[Heap.get?_update_self f ho (by rw[hf]<;>rfl),hf]
 refine I.write (x:=p) (e:=p) (by rw[h];trivial) (.inl rfl) (λb u hb q=>(Heap.get?_update_other _ _ (Ne.symm hb)).trans q) ⟨_,e⟩ ?_
 exact⟨hz,its',n',r,e⟩
def xH:V->V->V->Hp->(Hp->Prop)->Prop:=λo i v H Q=>∃p xs k j,o=.ref p/\i=.int k/\H p=some (.lst xs)/\ixN xs.length k=some j/\Q (upd H p (.lst (xs.set j v)))
theorem ur:AV X xH:=by
 intro pins s Z H o i v ov iv u Q I ro ri rv h
 obtain⟨p,xs,k,j,rfl,rfl,hp,hj,q⟩:=h
 cases ro
 obtain⟨t,rfl⟩:=ri
 obtain⟨its,n,r,ho,hz⟩:=I.lst hp
 obtain⟨h1,h2,h3,h4⟩:=oS hj
 have hl:=r.length
 have hn:=gB
 have I':Inv X pins Z (upd H p (.lst (xs.set j v))) {s with heap:=s.heap.update p (Obj.mapSeq (·.setIfInBounds j u))}:=
  I.lstUpd hp ho (nB its n j u) (r.set rv j) (by rw[Fm];exact hz) s.toks
 by_cases h0:0<=k
 ·have hk:k.toNat=j:=by
   rw[seqIndex_of h0 h4]at h1
   exact D5.inj h1
  exact PySem.W.ki_setAt ho h0 (by omega) (by rw[DC,←hl];exact h4) (by rw[hk];exact⟨_,I',q⟩)
 ·have hk:(k+(its.toArray.size:Int)).toNat=j:=by
   rw[seqIndex_neg (by omega) h3]at h1
   rw[DC,←hl]
   exact D5.inj h1
  exact PySem.W.ki_setBack ho (by omega) (by rw[DC,←hl];exact h3) (by omega) (by rw[hk];exact⟨_,I',q⟩)
theorem lN (lo hi:Option Int)(n:Nat):(sliceBounds lo hi none n).1=((HT.sIx n 0 lo:Nat):Int)/\(sliceBounds lo hi none n).2.1=((HT.sIx n n hi:Nat):Int)/\(sliceBounds lo hi none n).2.2=1:=by
 refine⟨?_,?_,rfl⟩
 ·cases lo with
  | none=>simp[sliceBounds,HT.sIx]
  | some i=>
   simp only[sliceBounds,HT.sIx,FW,show(1:Int)>0 by decide,if_true]
   by_cases h:i<0
   ·simp only[h,if_true]<;>omega
   ·simp only[h,if_false]<;>omega
 ·cases hi with
  | none=>simp[sliceBounds,HT.sIx]
  | some i=>
   simp only[sliceBounds,HT.sIx,FW,show(1:Int)>0 by decide,if_true]
   by_cases h:i<0
   ·simp only[h,if_true]<;>omega
   ·simp only[h,if_false]<;>omega
theorem j2 (its:List Value)(lo hi:Option Int):slicePick its.toArray lo hi none=((its.drop (HT.sIx its.length 0 lo)).take (HT.sIx its.length its.length hi-HT.sIx its.length 0 lo)).toArray:=by
 obtain⟨h1,h2,h3⟩:=lN lo hi its.toArray.size
 unfold slicePick
 rw[h1,h2,h3]
 simp only[sliceRange_one,pick_run,DC]<;>rfl
def Ct (K:yF):V->Option Int->Option Int->Hp->VK->Prop:=λx lo hi H Q=>∃a xs,x=.ref a/\SqL K H a xs/\∀p,H p=none->Q (.ref p) (upd H p (.lst (jh xs lo hi)))
theorem sl_list:SlR X (Ct X.K):=by
 intro pins s Z H x v vl vu lo hi sl Q I rx hs pl pu h
 obtain⟨a,xs,rfl,hx,q⟩:=h
 cases rx
 obtain⟨its,r,ht,hz⟩:=I.list hx
 have hlen:=r.length
 refine⟨"list",_,slot_list_getitem.lookup,ht.isList.typeIs,?_⟩
 refine wpAny_getItem_list_slice ht.isList hs pl pu .none (by simp) ?_ (by rw[DC]<;>omega)
 rw[j2,←hlen]
 refine⟨.ref s.heap.objs.size,_,I.laid (t':=s.toks) (o:=.lst (jh xs lo hi)) (λb ob q=>Heap.get?_push_of_some _ q) (DK _) ?_,rfl,q _ (I.hok.fresh (DK _))⟩
 exact⟨Ek (iM xs lo hi) hz,_,0,(r.drop (HT.sIx xs.length 0 lo)).take (HT.sIx xs.length xs.length hi-HT.sIx xs.length 0 lo),Heap.get?_push_size _ rfl⟩
noncomputable def iO:V->Bool
 | .non=>true
 | .bl _=>true
 | .int _=>true
 | .str _=>true
 | _=>false
noncomputable def eqV:V->V->Bool
 | .non,.non=>true
 | .bl a,.bl b=>a==b
 | .bl a,.int b=>(if a then 1 else 0)==b
 | .int a,.bl b=>a==(if b then 1 else 0)
 | .int a,.int b=>a==b
 | .str a,.str b=>a==b
 | _,_=>false
theorem yb {A:Around}{s:Shared}{y x:V}{u v:Value}(ry:RelV y u)(rx:RelV x v)(fy:iO y=true)(fx:iO x=true):SeqAt.EqAt A s u v (eqV y x):=by
 cases y with
 | non=>
  cases ry
  cases x with
  | non=>cases rx;exact SeqAt.EqAt.same _
  | bl b=>cases rx;exact SeqAt.EqAt.none_bool b
  | int b=>obtain⟨t,rfl⟩:=rx;exact SeqAt.EqAt.none_int b t
  | str b=>obtain⟨t,rfl⟩:=rx;exact SeqAt.EqAt.none_str b t
  | _=>exact absurd (show false=true from fx) DN
 | bl a=>
  cases ry
  cases x with
  | non=>cases rx;exact SeqAt.EqAt.bool_none a
  | bl b=>cases rx;exact SeqAt.EqAt.bool_bool a b
  | int b=>obtain⟨t,rfl⟩:=rx;exact SeqAt.EqAt.bool_int a b t
  | str b=>obtain⟨t,rfl⟩:=rx;exact SeqAt.EqAt.bool_str a b t
  | _=>exact absurd (show false=true from fx) DN
 | int a=>
  obtain⟨t',rfl⟩:=ry
  cases x with
  | non=>cases rx;exact SeqAt.EqAt.int_none a t'
  | bl b=>cases rx;exact SeqAt.EqAt.int_bool a t' b
  | int b=>obtain⟨t,rfl⟩:=rx;exact SeqAt.EqAt.int_int a t' b t
  | str b=>obtain⟨t,rfl⟩:=rx;exact SeqAt.EqAt.int_str a t' b t
  | _=>exact absurd (show false=true from fx) DN
 | str a=>
  obtain⟨t',rfl⟩:=ry
  cases x with
  | non=>cases rx;exact SeqAt.EqAt.str_none a t'
  | bl b=>cases rx;exact SeqAt.EqAt.str_bool a t' b
  | int b=>obtain⟨t,rfl⟩:=rx;exact SeqAt.EqAt.str_int a t' b t
  | str b=>obtain⟨t,rfl⟩:=rx;exact SeqAt.EqAt.str_str a t' b t
  | _=>exact absurd (show false=true from fx) DN
 | _=>exact absurd (show false=true from fy) DN
noncomputable def eqU (x:V) (u:Value):Bool:=match u with
 | .none=>eqV .non x
 | .bool b=>eqV (.bl b) x
 | .int i _=>eqV (.int i) x
 | .str z _=>eqV (.str z) x
 | _=>false
theorem rC {x y:V}{u:Value}(r:RelV y u)(f:iO y=true):eqU x u=eqV y x:=by
 cases y with
 | non=>cases r;rfl
 | bl b=>cases r;rfl
 | int i=>obtain⟨t,rfl⟩:=r;rfl
 | str z=>obtain⟨t,rfl⟩:=r;rfl
 | _=>exact absurd (show false=true from f) DN
theorem gJ {x:V}:∀{xs:List V} {us:List Value},Vals xs us->xs.all iO=true->us.any (eqU x)=xs.any λy=>eqV y x
 | _,_,.nil,_=>rfl
 | y::xs,u::us,.cons r t,f=>by
  rw[EM,DD]at f
  rw[FQ,FQ,rC r f.1,gJ t f.2]
theorem fJ {A:Around}{s:Shared}{x:V}{v:Value}(rx:RelV x v)(fx:iO x=true):∀{xs:List V} {us:List Value},Vals xs us->xs.all iO=true->∀u∈us,SeqAt.EqAt A s u v (eqU x u)
 | _,_,.nil,_=>λu hu=>by cases hu
 | y::xs,u::us,.cons r t,f=>λu' hu=>by
  rw[EM,DD]at f
  rcases ycM hu with rfl|hu
  ·rw[rC r f.1];exact yb r rx f.1 fx
  ·exact fJ rx fx t f.2 u' hu
noncomputable def inV (x:V) (xs:List V):Bool:=xs.any λy=>eqV y x
def rIn (K:yF)(neg:Bool):R2:=λx y H Q=>∃p xs,y=.ref p/\(SqL K H p xs∨SqT K H p xs)/\iO x=true/\xs.all iO=true/\Q (.bl (if neg then !inV x xs else inV x xs)) H
theorem op_in_seq:OpR X (compareOp .In) (rIn X.K false):=by
 intro pins s Z H x y v u Q I rx ry h
 obtain⟨p,xs,rfl,hq,fx,fs,q⟩:=h
 cases ry
 rcases hq with hq|hq
 ·obtain⟨its,r,pl,hz⟩:=I.list hq
  refine SeqAt.in_listAt (eqU x) pl.isList (λw hw=>fJ rx fx r fs w (by simpa using hw)) ⟨.bl _,H,I,rfl,?_⟩
  rw[show its.toArray.any (eqU x)=its.any (eqU x) by simp,gJ r fs]
  exact q
 ·obtain⟨its,r,pl,hz⟩:=I.tuple hq
  refine SeqAt.in_tupleAt (eqU x) pl (λw hw=>fJ rx fx r fs w (by simpa using hw)) ⟨.bl _,H,I,rfl,?_⟩
  rw[show its.toArray.any (eqU x)=its.any (eqU x) by simp,gJ r fs]
  exact q
theorem op_notIn_seq:OpR X (compareOp .NotIn) (rIn X.K true):=by
 intro pins s Z H x y v u Q I rx ry h
 obtain⟨p,xs,rfl,hq,fx,fs,q⟩:=h
 cases ry
 rcases hq with hq|hq
 ·obtain⟨its,r,pl,hz⟩:=I.list hq
  refine SeqAt.notIn_listAt (eqU x) pl.isList (λw hw=>fJ rx fx r fs w (by simpa using hw)) ⟨.bl _,H,I,rfl,?_⟩
  rw[show its.toArray.any (eqU x)=its.any (eqU x) by simp,gJ r fs]
  exact q
 ·obtain⟨its,r,pl,hz⟩:=I.tuple hq
  refine SeqAt.notIn_tupleAt (eqU x) pl (λw hw=>fJ rx fx r fs w (by simpa using hw)) ⟨.bl _,H,I,rfl,?_⟩
  rw[show its.toArray.any (eqU x)=its.any (eqU x) by simp,gJ r fs]
  exact q
theorem op_notIn_str:OpR X (compareOp .NotIn) (λx y H Q=>∃i j,x=.str i/\y=.str j/\Q (.bl (!(!(Builtin.Str.occurrences j i 0 j.length 1).isEmpty))) H):=by
 intro pins s Z H x y v u Q I rx ry h
 obtain⟨i,j,rfl,rfl,q⟩:=h
 obtain⟨t,rfl⟩:=rx
 obtain⟨t',rfl⟩:=ry
 exact notIn_str ⟨.bl _,H,I,rfl,q⟩
theorem kZ:CallR X (.builtin "len") (λxs H Q=>∃p ys,xs=[.ref p]/\(SqL X.K H p ys∨SqT X.K H p ys)/\Q (.int ys.length) H):=by
 intro pins s Z H xs us Q I r h
 obtain⟨p,ys,rfl,hq,q⟩:=h
 obtain⟨u,rfl,rx⟩:=hV r
 cases rx
 have hn:=gB
 rcases hq with hq|hq
 ·obtain⟨its,r',pl,hz⟩:=I.list hq
  have hlen:=r'.length
  exact Calls.call_len_list pl.isList (by simp only[DC]<;>omega) ⟨.int ys.length,H,I.tok _,⟨s.toks+1,by rw[DC,hlen]⟩,q⟩
 ·obtain⟨its,r',pl,hz⟩:=I.tuple hq
  have hlen:=r'.length
  exact len_tuple pl (by simp only[DC]<;>omega) ⟨.int ys.length,H,I.tok _,⟨s.toks+1,by rw[DC,hlen]⟩,q⟩
theorem k6:CallR X (.builtin "len") (λxs H Q=>∃z,xs=[.str z]/\z.length<=sizeLine/\Q (.int z.length) H):=by
 intro pins s Z H xs us Q I r h
 obtain⟨z,rfl,hz,q⟩:=h
 obtain⟨u,rfl,t,rfl⟩:=hV r
 have hn:=gB
 exact len_str (by omega) ⟨.int z.length,H,I.tok _,⟨_,rfl⟩,q⟩
theorem CallR.or {f:Value}{r r':List V->Hp->VK->Prop}(h:CallR X f r)(h':CallR X f r'):CallR X f (λxs H Q=>r xs H Q∨r' xs H Q):=by
 intro pins s Z H xs us Q I rs q
 rcases q with q|q
 ·exact h pins s Z H xs us Q I rs q
 ·exact h' pins s Z H xs us Q I rs q
theorem k7:CallR X (.type "list") (λxs H Q=>∃p ys,xs=[.ref p]/\(SqL X.K H p ys∨SqT X.K H p ys)/\∀l,H l=none->Q (.ref l) (upd H l (.lst ys))):=by
 intro pins s Z H xs us Q I r h
 obtain⟨p,ys,rfl,hq,q⟩:=h
 obtain⟨u,rfl,rx⟩:=hV r
 cases rx
 have fin:∀(its:List Value),Vals ys its->ys.length<=sizeLine->∀(h':Heap) (c':Nat),(∀b o',s.heap.get? b=some o'->h'.get? b=some o') →
   h'.get? s.heap.objs.size=some {cls:=.type "list",dict:=none,data:=.seq its.toArray c',slots:=#[]}->EP X pins Z Q (.ref s.heap.objs.size) {s with heap:=h'}:=λits r' hz h' c' kp e=>
  ⟨.ref s.heap.objs.size,_,I.laid (t':=s.toks) kp (DK _) (show ObjOk X.prog X.w _ h' _ (.lst ys)from⟨hz,its,c',r',e⟩),rfl,q _ (I.hok.fresh (DK _))⟩
 rcases hq with hq|hq
 ·obtain⟨its,r',pl,hz⟩:=I.list hq
  have hlen:=r'.length
  obtain⟨o,ho,hc,n,hd⟩:=pl.isList
  exact call_list_seq p (.inl rfl) ho hc hd (λh' c' kp e=>fin its r' hz h' c' kp e) (by simp only[DC]<;>omega)
 ·obtain⟨its,r',pl,hz⟩:=I.tuple hq
  have hlen:=r'.length
  obtain⟨o,ho,hc,n,hd⟩:=pl
  exact call_list_seq p (.inr rfl) ho hc hd (λh' c' kp e=>fin its r' hz h' c' kp e) (by simp only[DC]<;>omega)
theorem jV:CallR X (.type "tuple") (λxs H Q=>∃p ys,xs=[.ref p]/\((SqL X.K H p ys/\∀l,H l=none->Q (.ref l) (upd H l (.tup ys)))∨(SqT X.K H p ys/\Q (.ref p) H))):=by
 intro pins s Z H xs us Q I r h
 obtain⟨p,ys,rfl,h⟩:=h
 obtain⟨u,rfl,rx⟩:=hV r
 cases rx
 rcases h with⟨hq,q⟩|⟨hq,q⟩
 ·obtain⟨its,r',pl,hz⟩:=I.list hq
  have hlen:=r'.length
  refine call_tuple_list pl.isList (λh' kp=>?_) (by simp only[DC]<;>omega)
  have I1:Inv X pins Z H {s with heap:=h'}:=I.kept (t':=s.toks) kp
  have I2:Inv X pins Z (upd H h'.objs.size (.tup ys)) {s with heap:=h'.push {cls:=.type "tuple",data:=.seq its.toArray}}:=
   I1.laid (t':=s.toks) (λb o e=>Heap.get?_push_of_some _ e) (DK _) (show ObjOk X.prog X.w _ _ _ (.tup ys)from⟨hz,its,r',IsTupN.new _ _⟩)
  exact⟨.ref h'.objs.size,_,I2,rfl,q _ (I1.hok.fresh (DK _))⟩
 ·obtain⟨its,r',pl,hz⟩:=I.tuple hq
  exact call_tuple_same pl ⟨.ref p,H,I,rfl,q⟩
def tyV (K:yF)(T:String)(x:V)(H:Hp):Prop:=match x with
 | .str _=>T = "str"
 | .int _=>T = "int"
 | .ref p=>(T = "list" ∧ ∃xs,SqL K H p xs)∨(T = "tuple" ∧ ∃o,K.lookup p=some o/\o.cls=.type "tuple" ∧ o.dict=none) ∨
   (T = "dict" ∧ ((∃kvs,H p=some (.dK kvs)) ∨ ∃kvs,H p=some (.dT kvs)))∨(T = "set" ∧ ∃S n,H p=some (.set S n))
 | _=>False
theorem uB {pins:List (Addr×Obj)}{Z:St}{H:Hp}{s:Shared}{T:String}{x:V}{v:Value}(I:Inv X pins Z H s)(r:RelV x v)(ty:tyV X.K T x H) :
  s.TypeIs v T/\∀a,v=.ref a->∃ob,s.heap.get? a=some ob/\ob.dict=none:=by
 cases x with
 | str z=>
  obtain⟨t,rfl⟩:=r
  cases (show T = "str" from ty)
  exact⟨typeIs_str s z t,λ_ e=>nomatch e⟩
 | int i=>
  obtain⟨t,rfl⟩:=r
  cases (show T = "int" from ty)
  exact⟨typeIs_int s i t,λ_ e=>nomatch e⟩
 | ref p=>
  cases r
  rcases ty with⟨rfl,xs,hq⟩|⟨rfl,o,hk,hc,hd⟩|⟨rfl,hk⟩|⟨rfl,S,n,hk⟩
  ·obtain⟨its,_,pl,_⟩:=I.list hq
   refine⟨pl.isList.typeIs,λa e=>?_⟩
   cases e
   obtain⟨o,n,e,c,hd,_⟩:=pl
   exact⟨o,e,hd⟩
  ·refine⟨⟨o,I.kIn p o hk,hc⟩,λa e=>?_⟩
   cases e
   exact⟨o,I.kIn _ o hk,hd⟩
  ·have z:∃o,s.heap.get? p=some o/\o.ExactDict:=by
    rcases hk with⟨kvs,hk⟩|⟨kvs,hk⟩
    ·obtain⟨_,_,_,_,o,_,_,e,ex,_⟩:=I.hok p _ hk
     exact⟨o,e,ex⟩
    ·obtain⟨_,_,_,_,o,_,_,e,ex,_⟩:=I.hok p _ hk
     exact⟨o,e,ex⟩
   obtain⟨o,e,ex⟩:=z
   refine⟨⟨o,e,ex.1⟩,λa e2=>?_⟩
   cases e2
   exact⟨o,e,ex.2.1⟩
  ·obtain⟨o,_,_,_,e,ex,_⟩:=I.hok p _ hk
   refine⟨⟨o,e,ex.1⟩,λa e2=>?_⟩
   cases e2
   exact⟨o,e,ex.2.1⟩
 | _=>exact False.elim ty
def Aq (K:yF)(T:String)(r:V->List V->Hp->VK->Prop)(to:TE):TE:=λZ H Q=>to Z H λx H1=>tyV K T x H1/\r x [] H1 Q
def tBM (K:yF)(T:String)(r:V->List V->Hp->VK->Prop)(to:TE)(t:TA):TE:=λZ H Q=>to Z H λx H1=>tyV K T x H1/\t Z H1 λxs H2=>r x xs H2 Q
variable  {o e:Expr}{es:List Expr}{to:TE}{t:TA}{name:Str}{apos cpos:Pos}{T id:String}{r:V->List V->Hp->VK->Prop}
theorem zf (pa:PlainAttrs T)(slot:Slot T name id)(hty:typeOf (.builtin id)=pure (.type "method_descriptor"))(hm:MtR X id r)(ho:PE X o to)
  (hbase:attributeBase o name X.env (eval o X.env)=eval o X.env:=by rfl) (hline:(apos.endLine==cpos.line)=true:=by rfl):PE X (.Call (.Attribute o name apos) [] [] cpos) (Aq X.K T r to):=by
 intro pins s Z H Q I h
 refine wpAny_Call_method0_late hbase hline (thn (ho pins s Z H _ I h) λv s1 ⟨x,H1,I1,r1,ty,q1⟩=>?_)
 obtain⟨h1,h2⟩:=uB I1 r1 ty
 exact⟨T,id,pa,slot,hty,h1,h2,Calls.callWith_builtin rfl (PySem.evalArgs_none (hm pins s1 Z H1 x [] v [] Q I1 r1 .nil q1))⟩
theorem BL (pa:PlainAttrs T)(slot:Slot T name id)(hty:typeOf (.builtin id)=pure (.type "method_descriptor"))(hm:MtR X id r)(ho:PE X o to)(ha:PA X (e::es) t)
  (hbase:attributeBase o name X.env (eval o X.env)=eval o X.env:=by rfl)
  (hfew:((backTo cpos (starEach (e::es) X.env)).all (λx=>!x.1)&&(backToKw cpos (keywordEach [] X.env)).all (λx=>x.1.isSome)
   && decide ((e::es).length+([]:List Keyword).length+(if([]:List Keyword).isEmpty then 0 else 1)<30))=true:=by rfl)
  (hline:(apos.endLine==cpos.line)=true:=by rfl) (hs:starEach (e::es) X.env=(false,eval e X.env)::starEach es X.env:=by rfl) (hplain:(backTo cpos (starEach es X.env)).any (·.1)=false:=by rfl) :
  PE X (.Call (.Attribute o name apos) (e::es) [] cpos) (tBM X.K T r to t):=by
 intro pins s Z H Q I h
 refine wpAny_Call_method_late hbase hfew hline rfl (thn (ho pins s Z H _ I h) λv s1 ⟨x,H1,I1,r1,ty,q1⟩=>?_)
 obtain⟨h1,h2⟩:=uB I1 r1 ty
 refine⟨T,id,pa,slot,hty,h1,h2,?_⟩
 have hA:=ha cpos pins s1 Z H1 _ I1 q1
 rw[hs]at hA⊢
 refine Calls.callWith_builtin (by show(false||(backTo cpos (starEach es X.env)).any (·.1))=false;rw[hplain]<;>rfl) (Calls.evalArgs_plain ?_)
 exact thn hA λus s2 ⟨vs,H2,I2,r2,q2⟩=>hm pins s2 Z H2 x vs v us Q I2 r1 r2 q2
end
def MtM (X:Cx)(id:String)(r:V->List V->Hp->VK->Prop):Prop:=
 ∀(pins:List (Addr×Obj)) (s:Shared) (Z:St) (H:Hp) (x:V) (xs:List V) (v:Value) (us:List Value) (Q:VK),Inv X pins Z H s->RelV x v->Vals xs us->r x xs H Q →
  wpAny (model X.prog X.w) X.A (call (.builtin id) (v::us)) (EP X pins Z Q) X.xe s
theorem Vals.one:∀{x:V} {us:List Value},Vals [x] us->∃u,us=[u]/\RelV x u
 | _,_,.cons r .nil=>⟨_,rfl,r⟩
theorem Vals.zero:∀{us:List Value},Vals [] us->us=[]
 | _,.nil=>rfl
theorem Vals.dropLast {xs:List V}{us:List Value}(h:Vals xs us):Vals xs.dropLast us.dropLast:=by
 induction h with
 | nil=>exact .nil
 | cons r t ih=>
  cases t with
  | nil=>exact .nil
  | cons q t'=>exact .cons r ih
theorem Vals.reverse {xs:List V}{us:List Value}(h:Vals xs us):Vals xs.reverse us.reverse:=by
 induction h with
 | nil=>exact .nil
 | cons r t ih=>rw[Fg,Fg];exact Vals.append ih (.cons r .nil)
theorem Vals.rep {xs:List V}{us:List Value}(h:Vals xs us):∀k:Nat,Vals (DE k xs).flatten (DE k us).flatten
 | 0=>.nil
 | k+1=>by
  rw[Eh,Eh,EG,EG]
  exact Vals.append h (Vals.rep h k)
theorem nq {α:Type}(l:List α):l.eraseIdx (l.length-1)=l.dropLast:=by
 induction l with
 | nil=>rfl
 | cons a r ih=>
  cases r with
  | nil=>rfl
  | cons b r=>
   have e:(a::b::r).length-1=((b::r).length-1)+1:=by
    have h1:(a::b::r).length=r.length+2:=rfl
    have h2:(b::r).length=r.length+1:=rfl
    omega
   rw[e,List.eraseIdx_cons_succ,ih]
   all_goals rfl
theorem eD (its:List Value):∀(k:Nat) (acc:List Value),
  F5 (λx1 x2=>x1++x2) acc.toArray (DE k its.toArray)=(acc++(DE k its).flatten).toArray
 | 0,acc=>by simp
 | k+1,acc=>by
  have e:acc.toArray++its.toArray=(acc++its).toArray:=by simp
  have e2:(acc++its)++(DE k its).flatten=acc++(DE (k+1) its).flatten:=by
   rw[Eh,EG,DU]
  rw[←e2,←eD its k (acc++its),←e,Eh,FB]
section
variable  {X:Cx}{pins:List (Addr×Obj)}{Z:St}{H:Hp}{s:Shared}{l b:Addr}{xs ys zs:List V}
theorem Inv.lset {its its':List Value}{n:Nat}{f:Array Value->Array Value}{t':Nat}(I:Inv X pins Z H s)(hH:H l=some (.lst xs))
  (e:s.heap.get? l=some {cls:=.type "list",data:=.seq its.toArray n}) (hf:f its.toArray=its'.toArray) (hv:Vals ys its') (hz:ys.length<=sizeLine) :
  Inv X pins Z (upd H l (.lst ys)) {s with heap:=s.heap.update l (Obj.mapSeq f),toks:=t'}:=by
 have q:=PySem.IsL.update e f
 rw[hf]at q
 refine I.write (x:=l) (e:=l) (by rw[hH];exact trivial) (.inl rfl) (λb' u hb hu=>(Heap.get?_update_other s.heap (Obj.mapSeq f) (Ne.symm hb)).trans hu) ⟨_,q⟩ ?_
 exact⟨hz,its',_,hv,q⟩
theorem Inv.lnew {its:List Value}{t':Nat}(I:Inv X pins Z H s)(hv:Vals ys its)(hz:ys.length<=sizeLine) :
  Inv X pins Z (upd H s.heap.objs.size (.lst ys)) {s with heap:=s.heap.push {cls:=.type "list",data:=.seq its.toArray},toks:=t'}:=
 I.laid (λ_ _ q=>Heap.get?_push_of_some _ q) (DK _) ⟨hz,its,0,hv,Heap.get?_push_size _ rfl⟩
theorem Inv.fresh (I:Inv X pins Z H s):H s.heap.objs.size=none:=I.hok.fresh (DK _)
theorem Inv.lstM (I:Inv X pins Z H s)(hH:H l=some (.lst xs)):xs.length<=sizeLine/\∃(its:List Value) (n:Nat),Vals xs its/\xs.length=its.length/\s.heap.get? l=some {cls:=.type "list",data:=.seq its.toArray n}:=by
 obtain⟨z,its,n,r,e⟩:=I.hok l _ hH
 exact⟨z,its,n,r,r.length,e⟩
theorem dE {n:Nat}(h:n<=sizeLine):Builtin.List.listTooLong n=false:=by
 unfold Builtin.List.listTooLong
 exact decide_eq_false (by omega)
end
section
variable  {X:Cx}
def lx:V->List V->Hp->VK->Prop:=λx vs H Q=>∃l xs y,x=.ref l/\vs=[y]/\H l=some (.lst xs)/\xs.length<sizeLine/\Q .non (upd H l (.lst (xs++[y])))
theorem pZ:MtM X "list.append" lx:=by
 intro pins s Z H x vs v us Q I rx rv h
 obtain⟨l,xs,y,rfl,rfl,hH,hz,q⟩:=h
 cases rx
 obtain⟨u,rfl,ru⟩:=rv.one
 obtain⟨z,its,n,r,hl,e⟩:=I.lstM hH
 refine call_meets F.slot_list_append ⟨_,e,rfl⟩ F.entry_list_append (F.args_list_append_2 _ _) (PySem.list_append l its.toArray n u (by rw[DC];omega)) ⟨e,?_⟩
 refine⟨.non,_,I.lset (its':=its++[u]) hH e (by simp) (r.append (.cons ru .nil)) ?_,rfl,q⟩
 rw[DS,List.length_singleton]
 omega
def wq:V->List V->Hp->VK->Prop:=λx vs H Q=>∃l b xs zs,x=.ref l/\vs=[.ref b]/\H l=some (.lst xs)/\H b=some (.lst zs)/\xs.length+zs.length<=sizeLine/\Q .non (upd H l (.lst (xs++zs)))
theorem mt_extend:MtM X "list.extend" wq:=by
 intro pins s Z H x vs v us Q I rx rv h
 obtain⟨l,b,xs,zs,rfl,rfl,hH,hB,hz,q⟩:=h
 cases rx
 obtain⟨u,rfl,ru⟩:=rv.one
 cases ru
 obtain⟨z,its,n,r,hl,e⟩:=I.lstM hH
 obtain⟨z2,its2,n2,r2,hl2,e2⟩:=I.lstM hB
 have hsz:its.toArray.size+its2.toArray.size<=sizeLine:=by rw[DC,DC];omega
 have hlong:¬ (!its.toArray.isEmpty&&Builtin.List.listTooLong (its.toArray.size+its2.toArray.size))=true:=by
  rw[dE hsz,Gi]
  exact DN
 refine call_meets F.slot_list_extend ⟨_,e,rfl⟩ F.entry_list_extend (F.args_list_extend_2 _ _)
  (AutoSeq1.list_extend_list_list_0 l its.toArray n b its2.toArray n2 hlong (by rw[DC];omega) (by omega)) ⟨e,e2,?_⟩
 refine⟨.non,_,I.lset (its':=its++its2) hH e (by simp) (r.append r2) ?_,rfl,q⟩
 rw[DS]
 omega
def Aa:V->List V->Hp->VK->Prop:=λx vs H Q=>∃l xs y,x=.ref l/\vs=[]/\H l=some (.lst xs)/\xs[xs.length-1]?=some y/\Q y (upd H l (.lst xs.dropLast))
theorem yA:MtM X "list.pop" Aa:=by
 intro pins s Z H x vs v us Q I rx rv h
 obtain⟨l,xs,y,rfl,rfl,hH,hy,q⟩:=h
 cases rx
 have hus:=rv.zero
 subst hus
 obtain⟨z,its,n,r,hl,e⟩:=I.lstM hH
 obtain⟨u,hu,ru⟩:=r.get hy
 have hy':its.toArray[its.toArray.size-1]?=some u:=by
  show its.toArray[its.length-1]?=some u
  rw[←Array.getElem?_toList,←hl]
  exact hu
 refine call_meets F.slot_list_pop ⟨_,e,rfl⟩ F.entry_list_pop (F.args_list_pop_1 _) (MeetsSeq.list_pop_last l its.toArray n u hy' (by rw[DC];omega)) ⟨e,?_⟩
 refine⟨y,_,I.lset (its':=its.dropLast) hH e ?_ r.dropLast ?_,ru,q⟩
 ·show its.toArray.eraseIdxIfInBounds (its.toArray.size-1)=its.dropLast.toArray
  rw[DC,List.eraseIdxIfInBounds_toArray,nq]
 ·rw[List.length_dropLast]
  omega
def Ck:R2:=λx y H Q=>∃l b xs zs,x=.ref l/\y=.ref b/\H l=some (.lst xs)/\H b=some (.lst zs)/\xs.length+zs.length<=sizeLine/\∀p,H p=none->Q (.ref p) (upd H p (.lst (xs++zs)))
theorem op_cat:OpR X (binaryOp .Add) Ck:=by
 intro pins s Z H x y v u Q I rx ry h
 obtain⟨l,b,xs,zs,rfl,rfl,hH,hB,hz,q⟩:=h
 cases rx
 cases ry
 obtain⟨z,its,n,r,hl,e⟩:=I.lstM hH
 obtain⟨z2,its2,n2,r2,hl2,e2⟩:=I.lstM hB
 refine PySem.P.add_list e e2 ?_ (by rw[DC,DC];omega)
 have ea:its.toArray++its2.toArray=(its++its2).toArray:=by simp
 rw[ea]
 exact⟨.ref _,_,I.lnew (t':=s.toks) (r.append r2) (by rw[DS];omega),rfl,q _ I.fresh⟩
def Cs:R2:=λx y H Q=>∃l k xs,x=.ref l/\y=.int k/\H l=some (.lst xs)/\-(2^63)<=k/\k<2^63/\xs.length*k.toNat<=sizeLine ∧
 ∀p,H p=none->Q (.ref p) (upd H p (.lst (DE k.toNat xs).flatten))
theorem gT {α:Type}(xs:List α)(k:Nat):(DE k xs).flatten.length=k*xs.length:=by
 induction k with
 | zero=>simp
 | succ k ih=>rw[Eh,EG,DS,ih,Nat.succ_mul,Nat.add_comm]
theorem op_rep:OpR X (binaryOp .Mult) Cs:=by
 intro pins s Z H x y v u Q I rx ry h
 obtain⟨l,k,xs,rfl,rfl,hH,h1,h2,hz,q⟩:=h
 cases rx
 obtain⟨t,rfl⟩:=ry
 obtain⟨z,its,n,r,hl,e⟩:=I.lstM hH
 have hlen:its.toArray.size*k.toNat<=sizeLine:=by rw[DC,←hl];exact hz
 have hcap:¬ its.toArray.size*k.toNat>(2^63-1) / 8:=by
  have:(sizeLine:Nat)<=(2^63-1) / 8:=by decide
  omega
 have hfit:¬ (!Builtin.List.listFitsIndex k)=true:=by
  rw[fitsIndex_both h1 h2]
  exact DN
 have hlong:¬ Builtin.List.listTooLong (its.toArray.size*k.toNat)=true:=by
  rw[dE hlen]
  exact DN
 have hnew:F5 (λx1 x2=>x1++x2) #[] (DE (if its.toArray.isEmpty=true then 0 else k.toNat) its.toArray)=(DE k.toNat its).flatten.toArray:=by
  have f0:∀m:Nat,F5 (λx1 x2=>x1++x2) #[] (DE m its.toArray)=(DE m its).flatten.toArray:=λm=>by
   have:=eD its m []
   rw[Er]at this
   exact this
  rw[f0]
  cases its with
  | nil=>simp
  | cons a r'=>rw[if_neg (by simp)]
 refine wpAny_binaryOp_repeat_ref (T:="list") (U:="int") (by decide) ⟨_,e,rfl⟩ (λs'=>typeIs_int s' k t) noFill_list_mul F.fills_int_mul F.slot_int_rmul repeat_list F.slot_int_index.lookup
  (call_meets F.slot_int_rmul (typeIs_int s k t) F.entry_int_rmul (F.args_int_rmul_2 _ _) (int___rmul___int_list k t l its.toArray n)
   ⟨e,rfl,⟨_,e,rfl⟩,call_meets F.slot_list_mul ⟨_,e,rfl⟩ F.entry_list_mul (F.args_list_mul_2 _ _) (AutoListH.list___mul___list_int_3 l its.toArray n k t hfit hcap hlong) ⟨e,?_⟩⟩)
 rw[hnew]
 exact⟨.ref _,_,I.lnew (t':=s.toks) (r.rep k.toNat) (by rw[gT,GG];exact hz),rfl,q _ I.fresh⟩
end
section
variable  {prog:Program}{w:World}{A:Around}{E:Value->Shared->Prop}{s:Shared}
theorem qI (its its2:List Value)(a c:Nat):its.toArray.extract 0 a++its2.toArray++its.toArray.extract c its.toArray.size=(its.take a++its2++its.drop c).toArray:=by
 apply Array.toList_inj.mp
 first
  | (simp
     exact DT (by simp))
  | simp[DT]
  | simp
theorem nh {a c n:Nat}(hac:a<=c)(hc:c<=n):sliceBounds (some (a:Int)) (some (c:Int)) none n=((a:Int),(c:Int),1):=by
 simp only[sliceBounds,FW]
 have h1:¬ ((a:Int)<0):=by omega
 have h2:¬ ((c:Int)<0):=by omega
 simp only[h1,h2,if_false,show(1:Int)>0 by decide,if_true]
 congr 1
 ·omega
 ·congr 1;omega
set_option maxRecDepth 100000 in
theorem j1 {l b sl:Addr}{items new:Array Value}{n n2:Nat}{vl vu:Value}{a c:Nat}{Q:Unit->Shared->Prop}
  (e:s.heap.get? l=some {cls:=.type "list",data:=.seq items n}) (e2:s.heap.get? b=some {cls:=.type "list",data:=.seq new n2}) (hne:l≠b)
  (hs:s.heap.IsSliceOf sl vl vu .none) (pl:IsPart vl (some (a:Int))) (pu:IsPart vu (some (c:Int))) (hac:a<=c) (hc:c<=items.size)
  (hsz:items.size+new.size<=sizeLine) (h:Q () {s with heap:=s.heap.update l (Obj.mapSeq λxs=>xs.extract 0 a++new++xs.extract c xs.size)}) :
  wpAny (model prog w) A (setItem (.ref l) (.ref sl) (.ref b)) Q E s:=by
 have hl:s.heap.IsList l items:=PySem.IsL.isList e
 have hb:s.heap.IsList b new:=PySem.IsL.isList e2
 obtain⟨os,hos,hcs,hds⟩:=id hs
 have hTs:s.TypeIs (.ref sl) "slice" :=⟨os,hos,hcs⟩
 have hstep:¬ ((rawPart none==rawInt 0)=true):=DN
 have hsame:Builtin.List.listSameRef (.ref l) (.ref b)=false:=by
  unfold Builtin.List.listSameRef
  exact beq_eq_false_iff_ne.mpr hne
 have hmax:(max (a:Int) (c:Int)).toNat=c:=by omega
 have hz':((λxs:Array Value=>xs.extract 0 a++new++xs.extract c xs.size) items).size<=sizeLine+1:=by
  simp only[GH,Array.size_extract]
  omega
 unfold setItem
 try with_reducible refine wpAny_holding ?_
 first|refine wpAny_bind (wpAny_pure ?_)|skip
 refine wpAny_bind (wpAny_sequenceKey hl.typeIs (by decide) ?_)
 refine wpAny_bind (wpAny_callSpecial?_slot (name:=Str.ofString "__setitem__") hl.typeIs slot_list_setitem
  (wpAny_call_entry slot_list_setitem hl.typeIs entry_list_setitem ?_ (args_list_setitem _ _ _)))
 show wpAny _ _ (Builtin.List.listSubscript? (.ref sl) >>= _) _ _ s
 refine wpAny_bind ?_
 unfold Builtin.List.listSubscript?
 refine wpAny_bind (wpAny_specialOf hTs slice_no_index ?_)
 simp only[Option.isNone_none,if_true]
 refine wpAny_pure ?_
 show wpAny _ _ (typeOf (.ref sl) >>= _) _ _ s
 refine wpAny_bind (wpAny_typeOf hTs ?_)
 first
  | rw[if_neg (by decide)]
  | refine PySem.W.KFB.if_not (by decide) ?_
 rw[listSliceParts_eq]
 refine wpAny_bind (wpAny_bind (wpAny_field hos hds (x:=.none) rfl (wpAny_bind (wpAny_listPart .none ?_))))
 rw[if_neg hstep]
 refine wpAny_bind (wpAny_field hos hds (x:=vl) rfl (wpAny_bind (wpAny_listPart pl ?_)))
 refine wpAny_bind (wpAny_field hos hds (x:=vu) rfl (wpAny_bind (wpAny_listPart pu (wpAny_pure ?_))))
 first
  | simp only[hsame,FH,if_false]
  | refine PySem.W.KFB.if_not hsame ?_
  | (dsimp only
     rw[if_neg (by rw[hsame];exact DN)])
 refine wpAny_bind (m:=Builtin.List.listAllItems (.ref b) "must assign iterable to extended slice") ?_
 unfold Builtin.List.listAllItems
 refine wpAny_bind (wpAny_typeOf hb.typeIs ?_)
 first
  | refine PySem.W.KFB.if_so (by decide) ?_
  | rw[if_pos (by decide)]
  | simp only[beq_self_eq_true,G9,if_true]
 unfold Builtin.List.listItems
 refine wpAny_bind (wpAny_seqItems e2 rfl (wpAny_pure ?_))
 refine wpAny_bind (wpAny_bind (wpAny_seqItems e rfl (wpAny_pure ?_)))
 refine wpAny_bind (wpAny_of_eq ((sliceIndices_raw (some (a:Int)) (some (c:Int)) none items.size (by simp)).trans (congrArg (pure:Int×Int×Int->Sem (Int×Int×Int)) (nh hac hc))) ?_)
 show wpAny _ _ (if((1:Int)==1)=true then _ else _) _ _ s
 rw[if_pos (by decide)]
 refine wpAny_bind (wpAny_rule ?_)
 first
  | simp only[dE hsz,FH,if_false]
  | refine PySem.W.KFB.if_not (dE hsz) ?_
 first|refine wpAny_bind (wpAny_pure ?_)|skip
 show wpAny _ _ (updateSeq l (λxs=>xs.extract 0 ((a:Int)).toNat++new++xs.extract (max (a:Int) (c:Int)).toNat xs.size) >>= _) _ _ s
 rw[hmax,D7]
 refine wpAny_bind (wpAny_updateSeq (hz:=Ek (Ez _ _) hsz) (_hz':=hz') e rfl ?_)
 refine wpAny_bind (wpAny_letGo ?_)
 first
  | exact wpAny_bind (wpAny_pure (wpAny_pure ⟨.none,rfl,wpAny_pure h⟩))
  | exact wpAny_pure ⟨.none,rfl,wpAny_pure h⟩
end
section
variable  {X:Cx}
theorem qH {pins:List (Addr×Obj)}{s:Shared}{Z:St}{H:Hp}{l b sl:Addr}{xs ys:List V}{a c:Int}{vl vu:Value}{Q:Unit->Shared->Prop}(I:Inv X pins Z H s)
  (hH:H l=some (.lst xs)) (hB:H b=some (.lst ys)) (hne:l≠b) (hs:s.heap.IsSliceOf sl vl vu .none) (ra:RelV (.int a) vl) (rc:RelV (.int c) vu) (h0:0<=a) (hac:a<=c) (hc:c<=xs.length)
  (hz:xs.length+ys.length<=sizeLine) (h:∀s',Inv X pins Z (upd H l (.lst (xs.take a.toNat++ys++xs.drop c.toNat))) s'->Q () s') :
  wpAny (model X.prog X.w) X.A (setItem (.ref l) (.ref sl) (.ref b)) Q X.xe s:=by
 obtain⟨ta,rfl⟩:=ra
 obtain⟨tc,rfl⟩:=rc
 obtain⟨z,its,n,r,hl,e⟩:=I.lstM hH
 obtain⟨z2,its2,n2,r2,hl2,e2⟩:=I.lstM hB
 obtain⟨a',rfl⟩:=FX h0
 obtain⟨c',rfl⟩:=FX (Int.le_trans h0 hac)
 simp only[D7]at h
 refine j1 (a:=a') (c:=c') e e2 hne hs (.int _ _) (.int _ _) (by omega) (by rw[DC];omega) (by rw[DC,DC];omega) (h _ ?_)
 refine I.lset (its':=its.take a'++its2++its.drop c') (t':=s.toks) hH e ?_ (Vals.append (Vals.append (r.take _) r2) (r.drop _)) ?_
 ·exact qI its its2 a' c'
 ·rw[DS,DS,D3,Ey]
  omega
end
end L2
namespace Att
open PySem PySem.W PySem.Calls PyProof.Rows
theorem ints_of_wellAll {P:Params}{h:Heap}:∀(ns:List Int) (vs:List Value),WellAll P h vs (ns.map WData.int)->IntsAre vs ns:=by
 intro ns
 induction ns with
 | nil=>
  intro vs w
  rw[Fa]at w
  cases w
  exact .nil
 | cons n ns ih=>
  intro vs w
  rw[DJ]at w
  cases w with
  | cons a b=>
   cases a
   exact .cons _ _ (ih _ b)
theorem script_of {l:OpenLaw}{n:Nat}(hn:l.most=some n){P:Params}{h:Heap}{args:List WData}{vals:List Value}
  (hpre:l.row.toRowW.claim.pre args=true) (hwl:WellAll P h vals args) :
  ∃a vs ns,vals=[Value.ref a]/\args=[WData.list (ns.map WData.int)]/\h.get? a=some {cls:=.type "list",data:=.seq vs.toArray}/\IntsAre vs ns/\ns.length<=n:=by
 have hsh:WShape.hasAll [] args [.list .int]=true:=(pre_splitW hpre).1
 have hc:l.pre.holds [] {args:=args}=true:=(pre_splitW hpre).2
 obtain⟨d,r,rfl,h1,h2⟩:=hasAllW_cons hsh
 obtain rfl:=hasAllW_nil h2
 obtain⟨xs,rfl,h3⟩:=hasW_list h1
 obtain⟨ns,rfl⟩:=items_int h3
 have hlen:ns.length<=n:=by
  unfold OpenLaw.pre at hc
  have h4:(WTm.not (.lt (.lit (.int (n:Int))) (.len (.arg 0)))).holds [] {args:=[.list (ns.map .int)]}=true:=by
   have h4:=(holds_andW hc).1
   rw[hn]at h4
   exact h4
  have h5:=condW_of h4 (w_not (w_lt w_lit (w_len_list (w_arg rfl))))
  rw[DH]at h5
  refine Nat.le_of_not_lt λq=>?_
  have q':(n:Int)<((ns.length:Nat):Int):=by omega
  first
   | (rw[decide_eq_true q']at h5;exact absurd h5 (by decide))
   | (simp at h5;omega)
 cases hwl with
 | cons w1 w2=>
  cases w2
  cases w1 with
  | list ho hall=>exact⟨_,_,ns,rfl,rfl,ho,ints_of_wellAll ns _ hall,hlen⟩
theorem post_true (l:OpenLaw)(args:List WData):l.row.toRowW.claim.post args (.bool true) args=true:=
 postW_of (r:=l.row.toRowW) (X:=(true==true))
  (show WShape.has [] (.bool true) .bool=true by first|rfl|decide|simp[WShape.has,WShape.arms,WShape.armsAll])
  (show(WTm.eq .res (.lit (.bool true))).value [] {args:=args,res:=some (.bool true),after:=args}=some (.bool (true==true))from w_eq_bool (w_res rfl) w_lit) rfl
theorem attach_call {l:OpenLaw}{n:Nat}{q:Program}{loose:List Str}{XP:(Str->Option Value)->Heap->Prop}{YP:World->Heap->Prop}{d:DefRec}
  (hn:l.most=some n) (hdf:d.params.defaults=[])
  (call:∀(w:World) (s₀ s₁ : Shared) (mg mb:Str->Option Value) (fa:Addr) (o:Obj) (pm cd doc:Value) (a:Addr) (vs:List Value) (ns:List Int),
   Ground q loose [] XP w s₀ mg mb s₁.heap->YP w s₁.heap →
   s₁.heap.get? fa=some o->o.data=.func (docDef d.name d.params d.body d.scope pm cd doc)->s₁.heap.CodeRec cd d.name->mg d.name=some (.ref fa) →
   s₁.heap.get? a=some {cls:=.type "list",data:=.seq vs.toArray}->IntsAre vs ns->ns.length<=n->s₁.gens = #[] →
   codeAny (model l.prog w) callerA (.call (.ref fa) ⟨[.ref a],[]⟩) (λr s'=>r=.ok (.ret (.bool true))/\OldK s₁.heap s'.heap/\s'.os=s₁.os/\AllBare s'.gens) s₁) :
  WalkO q loose XP YP l.row.toRowW d [] (λf vs=>PySem.call f vs):=by
 intro w s₀ s₁ mg mb G Y fa o pm cd doc dV kV ho hd hcd hD hmg hg args vals as hpre hlay hrd hwl hlo
 obtain rfl:dV=.none:=Dflts.none hD hdf
 obtain rfl:kV=.none:=Dflts.noKw hD
 obtain⟨a,vs,ns,rfl,rfl,hobj,hints,hlen⟩:=script_of hn hpre hwl
 refine enter_call (codeAny_mono (call w s₀ s₁ mg mb fa o pm cd doc a vs ns G Y ho (fd_plain hd) hcd hmg hobj hints hlen hg) λr s' hq=>?_)
 obtain⟨rfl,h2,h3,h4⟩:=hq
 exact⟨.inl ⟨.bool true,.bool true,[],rfl,λ_=>rfl,.bool true,post_true l _,λ_=>⟨List.Pairwise.nil,λ_ hm=>(nomatch hm)⟩⟩,h2,h3,h4⟩
section
variable  {prog:Program}{w:World}{A:Around}{E:Value->Shared->Prop}{s:Shared}{K:Frag}
end
end Att
namespace L2
open PySem PySem.Spec PyProof.Rows
theorem kQ:∀{vs:List Value} {ns:List Int},IntsAre vs ns->Vals (ns.map V.int) vs
 | _,_,.nil=>.nil
 | _,_,.cons n t h=>.cons ⟨t,rfl⟩ (kQ h)
def AT (H:Hp):Prop:=∀b,H b=none ∨ ∃o xs,H b=some (.frz o (.lst xs))
theorem rQ {P:Program}{w:World}{K:yF}{mg mb:Str->Option Value}{CX:CXT}{k:Nat}{fa a:Addr}{fd:FuncData}{x:Str}{sp:Sp}{s₁ : Shared}{vs:List Value}{ns:List Int}
  (KX:K.In s₁.heap) (hns:s₁.heap.Ns mainGlobals mg) (hb:s₁.heap.Ns builtinsNs mb) (hbb:∀x:Str,x ≠ "__name__" → mb x=bootBuiltins x) (hlim:s₁.heap.NoLimit) (hg:s₁.gens = #[])
  (ha:s₁.heap.get? a=some {cls:=.type "list",data:=.seq vs.toArray}) (hi:IntsAre vs ns) (hl:ns.length<=sizeLine) (hr:Room k callerA)
  (F:∀base:Heap,K.In base->base.Ns mainGlobals mg->FnOk P w K mg base CX k fa fd [x] sp) (hbind:∀(s:Shared) (u:Value),BindsTo s fd ⟨[u],[]⟩ [(x,u)])
  (hsp:∀H:Hp,AT H->SqL K H a (ns.map V.int)->sp [.ref a] H (λv _=>v=.bl true) λ_ _ _=>False)
  (hCX:∀H e s',CX [] H s₁ (λ_ _ _=>False) e s'->False) :
  codeAny (model P w) callerA (.call (.ref fa) ⟨[.ref a],[]⟩) (λr s'=>r=.ok (.ret (.bool true))/\OldK s₁.heap s'.heap/\s'.os=s₁.os/\AllBare s'.gens) s₁:=by
 have rv:=kQ hi
 have lenV:=hi.length
 have core:∀H:Hp,AT H->SqL K H a (ns.map V.int)->HOk P w H s₁.heap->(∀b,H b≠none->b=a)->(H a≠none->K.lookup a=none) →
   codeAny (model P w) callerA (.call (.ref fa) ⟨[.ref a],[]⟩) (λr s'=>r=.ok (.ret (.bool true))/\OldK s₁.heap s'.heap/\s'.os=s₁.os/\AllBare s'.gens) s₁:=by
  intro H hO hS hok hA hK
  have base_of:∀{b:Addr} {o:Obj},s₁.heap.get? b=some o->H b=none->(lg s₁.heap H).get? b=some o:=λe n=>rG e n
  have noA:∀{b:Addr} {o:Obj} {es:Array DictEntry} {ep:Nat},s₁.heap.get? b=some o->o.data=.dict es ep->H b=none:=λ{b o es ep} e d=>by
   cases q:H b with
   | none=>rfl
   | some u=>
    have e':b=a:=hA b (by rw[q];simp)
    subst e'
    rw[ha]at e;cases e
    have d':Data.seq vs.toArray _=Data.dict es ep:=d
    cases d'
  have nsK:∀{b:Addr} {m:Str->Option Value},s₁.heap.Ns b m->(lg s₁.heap H).Ns b m:=λ{b m} ⟨o,es,ep,e,d,r⟩=>⟨o,es,ep,base_of e (noA e d),d,r⟩
  have hKb:K.In (lg s₁.heap H):=λb o e=>base_of (KX b o e) (by
   cases q:H b with
   | none=>rfl
   | some u=>
    have e':b=a:=hA b (by rw[q];simp)
    subst e'
    rw[hK (by rw[q];simp)]at e;cases e)
  have hM:Mod K mg (lg s₁.heap H):=⟨hKb,nsK hns,⟨mb,nsK hb,hbb⟩,let ⟨mc,h1,h2⟩:=hlim;⟨mc,nsK h1,h2⟩⟩
  have e0:Env0 P w K mg (lg s₁.heap H) callerA [] s₁ H:=⟨rfl,hM,λb o e=>vp e,Nat.le_of_eq (pJ _ _),trivial,λb hb=>absurd (show b∈([]:List Addr)from hb) (by simp),hok,.of_eq hg⟩
  refine codeAny_mono ((F _ hKb (nsK hns)).run callerA [] s₁ H ⟨[.ref a],[]⟩ [.ref a] [.ref a] _ _ hr e0 (hbind s₁ (.ref a)) (.cons rfl .nil) (hsp H hO hS)) λr s' h=>?_
  cases r with
  | error e=>exact(hCX H e s' h).elim
  | ok fl=>
   cases fl with
   | next=>exact False.elim h
   | brk=>exact False.elim h
   | cont=>exact False.elim h
   | ret u=>
    obtain⟨v,H',os,bare,un,hok',r',q⟩:=h
    have q':v=.bl true:=q
    subst q'
    obtain rfl:u=Value.bool true:=r'
    refine⟨rfl,OldK.of_keep λb o e=>?_,os,bare⟩
    cases q:H b with
    | none=>exact un.keep b o e q (by intro z;exact absurd (show b∈([]:List Addr)from z) (by simp)) (by simp)
    | some u=>
     rcases hO b with z|⟨ob,xs,z⟩
     ·rw[q]at z;cases z
     ·have z2:=un.frzs b ob _ z
      obtain⟨e1,_⟩:=hok b _ z
      obtain⟨e2,_⟩:=hok' b _ z2
      rw[e]at e1;cases e1
      exact e2
 cases hk:K.lookup a with
 | some o=>
  have e:=KX a o hk
  rw[ha]at e
  cases e
  refine core (λ_=>none) (λ_=>.inl rfl) (.inr ⟨_,vs.toArray,_,hk,rfl,rfl,rfl,by rw[DC,lenV];exact hl,by simpa using rv⟩) (λb u z=>by have z':(none:Option HO)=some u:=z;cases z') (λb z=>absurd rfl z) λz=>absurd rfl z
 | none=>
  refine core (λb=>if b=a then some (.frz {cls:=.type "list",data:=.seq vs.toArray} (.lst (ns.map V.int)))else none) (λb=>?_) (.inl (.inr ⟨{cls:=.type "list",data:=.seq vs.toArray},if_pos rfl⟩)) (λb u z=>?_) (λb z=>?_) λ_=>hk
  ·by_cases hb:b=a
   ·exact .inr ⟨_,_,if_pos hb⟩
   ·exact .inl (if_neg hb)
  ·by_cases hb:b=a
   ·have z':=(if_pos hb).symm.trans z
    cases z'
    subst hb
    exact⟨ha,by rw[DH];exact hl,vs,_,rv,ha⟩
   ·have z':=(if_neg hb).symm.trans z
    cases z'
  ·by_cases hb:b=a
   ·exact hb
   ·exact absurd (if_neg hb) z
noncomputable def da (s:Stmt):Arguments:=match s with
 | .FunctionDef _ a _ _ _ _ _ _ _ _=>a
 | _=>{posonlyargs:=[],args:=[],vararg:=none,kwonlyargs:=[],kw_defaults:=[],kwarg:=none,defaults:=[]}
noncomputable def br (s:Stmt):List Stmt:=match s with
 | .FunctionDef _ _ b _ _ _ _ _ _ _=>b
 | _=>[]
noncomputable def aj (s:Stmt):Scope:=match s with
 | .FunctionDef _ _ _ _ _ _ sc _ _ _=>sc
 | _=>{kind:=.function,names:=[],isGenerator:=false,isCoroutine:=false}
abbrev CX0:CXT:=λ_ _ _ _ _ _=>False
abbrev E0:XK:=λ_ _ _=>False
theorem BJ {X:Cx}:m9 CX0 X E0:=λ_ _ _ _ _ _ _ h=>h.elim
structure Fun (K:yF)(x qual:Str)(st:Stmt)(f:Addr)(fd:FuncData):Prop where
 ex:∃(oc:Value) (od:Option Addr) (kV doc pm:Value) (an:Option Addr) (cdv ct:Value) (osl:Array (Option Value)),
  fd=EL x qual (da st) (br st) (aj st) .none kV doc pm an cdv ct/\K.lookup f=some ⟨oc,od,.func fd,osl⟩/\Fh K cdv qual=true
 kp:EY K (.ref f)=true
section
variable  {P:Program}{w:World}{K:yF}{mg:Str->Option Value}{base:Heap}
theorem Fun.ok {x qual:Str}{st:Stmt}{f:Addr}{fd:FuncData}{N ps:List Str}{k:Nat}{sp:Sp}(F:Fun K x qual st f fd)(S:FnScope N ps (aj st))(len:∀vs H Q E,sp vs H Q E->vs.length=ps.length)
  (hbody:∀(cdv:Value) (A:Around) (outer:List Env) (s:Shared) (H:Hp) (vs:List V) (Q:VK) (E:XK),Room k (A.deeper (envOfC qual (aj st) s.heap.objs.size f cdv))->sp vs H Q E →
   ∃t,PSs (jW CX0 P w K mg base N qual (aj st) f cdv A outer s H E).nox (br st) t/\t {nx:=λ_ H'=>Q .non H',rt:=Q} (bJ N vs) H):FnOk P w K mg base CX0 (k+1) f fd ps sp:=by
 obtain⟨oc,od,kV,doc,pm,an,cdv,ct,osl,rfl,lk,hcd⟩:=F.ex
 refine A6 lk hcd S len λA outer s H vs Q E hr hsp=>?_
 obtain⟨t,h,q⟩:=hbody cdv A outer s H vs Q E hr hsp
 exact⟨t,h.nox,q⟩
theorem yi {x qual:Str}{st:Stmt}{f:Addr}{oc:Value}{od an:Option Addr}{osl:Array (Option Value)}{kV doc pm cdv ct:Value}(l:K.lookup f=some ⟨oc,od,.func (EL x qual (da st) (br st) (aj st) .none kV doc pm an cdv ct),osl⟩)
  (c:Fh K cdv qual=true) (k:EY K (.ref f)=true):Fun K x qual st f (EL x qual (da st) (br st) (aj st) .none kV doc pm an cdv ct):=⟨⟨oc,od,kV,doc,pm,an,cdv,ct,osl,rfl,l,c⟩,k⟩
end
theorem A9 {A:Around}{k:Nat}(hr:Room k A):A.units+1<cLine:=Ew (Gs (by decide:1<=64) _) hr.units
section
variable  {X:Cx}
end
theorem pM {A B:Prop}(h:B):if false=true then A else B:=by
 rw[if_neg DN]
 exact h
theorem pN {A B:Prop}(h:A):if true=true then A else B:=by
 rw[if_pos rfl]
 exact h
def Same (H H':Hp):Prop:=∀b o,H b=some o->H' b=some o
theorem Same.refl (H:Hp):Same H H:=λ_ _ h=>h
theorem Same.seq {K:yF}{H H':Hp}{a:Addr}{xs:List V}(e:Same H H')(h:SqL K H a xs):SqL K H' a xs:=by
 rcases h with(h|⟨o,h⟩)|h
 ·exact .inl (.inl (e _ _ h))
 ·exact .inl (.inr ⟨o,e _ _ h⟩)
 ·exact .inr h
noncomputable def bB (env:Env):List (Str×NameKind)->List (Str×Addr)->List (Str×Addr)
 | [],acc=>acc
 | (n,k)::r,acc=>if k == .free then bB env r ((n,(env.cells.lookup n).getD 0)::acc)else bB env r acc
theorem ic {env:Env}:∀(names:List (Str×NameKind)) (acc:List (Str×Addr)),(∀x∈names,x.2=.free->∃c,env.cells.lookup x.1=some c) →
  (forIn names acc λ(x:Str×NameKind) (cs:List (Str×Addr))=>if x.2 == .free then(do let c ←cellOf env x.1;pure (ForInStep.yield ((x.1,c)::cs)):Sem _)else pure (ForInStep.yield cs))=(pure (bB env names acc):Sem _)
 | [],acc,_=>rfl
 | (n,k)::r,acc,h=>by
  have hr:∀x∈r,x.2=.free->∃c,env.cells.lookup x.1=some c:=λx hx=>h x (ymC _ hx)
  rw[Fn]
  unfold bB
  by_cases hk:(k==NameKind.free)=true
  ·obtain⟨c,hc⟩:=h (n,k) ymS (by simpa using hk)
   have hc':env.cells.lookup n=some c:=hc
   have e:cellOf env n=pure c:=by unfold cellOf;rw[hc']
   simp only[hk,if_true,e,hc',Option.getD_some,pure_bind]
   exact ic r _ hr
  ·have hk':(k==NameKind.free)=false:=by simpa using hk
   simp only[hk',FH,if_false,pure_bind]
   exact ic r _ hr
theorem dY {env:Env}{scope:Scope}(h:∀x∈scope.names,x.2=.free->∃c,env.cells.lookup x.1=some c):closureFor scope env=pure (bB env scope.names []):=by
 have:=ic (env:=env) scope.names [] h
 simp only[closureFor]
 rw[this,pure_bind]
theorem ib {env:Env}{x:Str}{c:Addr}:∀(names:List (Str×NameKind)) (acc:List (Str×Addr)),(∀y∈names,y.2=.free->∃c,env.cells.lookup y.1=some c)->(acc.lookup x=some c->env.cells.lookup x=some c) →
  (bB env names acc).lookup x=some c->env.cells.lookup x=some c
 | [],acc,_,h0,h=>h0 h
 | (n,k)::r,acc,hn,h0,h=>by
  have hr:∀y∈r,y.2=.free->∃c,env.cells.lookup y.1=some c:=λy hy=>hn y (ymC _ hy)
  unfold bB at h
  by_cases hk:(k==NameKind.free)=true
  ·rw[if_pos hk]at h
   refine ib r _ hr (λe=>?_) h
   obtain⟨c',hc'⟩:=hn (n,k) ymS (by simpa using hk)
   have hc'':env.cells.lookup n=some c':=hc'
   rw[Ei]at e
   by_cases hx:(x==n)=true
   ·rw[hx]at e
    have hxn:x=n:=by simpa using hx
    subst hxn
    rw[hc'']at e⊢
    exact e
   ·have hx':(x==n)=false:=by simpa using hx
    rw[hx']at e
    exact h0 e
  ·rw[if_neg hk]at h
   exact ib r acc hr h0 h
theorem ia {env:Env}{x:Str}:∀(names:List (Str×NameKind)) (acc:List (Str×Addr)),(acc.lookup x).isSome=true->((bB env names acc).lookup x).isSome=true
 | [],_,h=>h
 | (n,k)::r,acc,h=>by
  unfold bB
  by_cases hk:(k==NameKind.free)=true
  ·rw[if_pos hk]
   refine ia r _ ?_
   rw[Ei]
   cases hx:(x==n)with
   | true=>rfl
   | false=>exact h
  ·rw[if_neg hk]
   exact ia r acc h
theorem eQ {env:Env}{x:Str}:∀(names:List (Str×NameKind)) (acc:List (Str×Addr)),(x,NameKind.free)∈names->((bB env names acc).lookup x).isSome=true
 | [],_,h=>by cases h
 | (n,k)::r,acc,h=>by
  unfold bB
  rcases ycM h with e|h
  ·cases e
   rw[if_pos (by rfl)]
   refine ia r _ ?_
   rw[Ei,beq_self_eq_true]
   rfl
  ·by_cases hk:(k==NameKind.free)=true
   ·rw[if_pos hk]
    exact eQ r _ h
   ·rw[if_neg hk]
    exact eQ r _ h
theorem je {x:Str}{c:Addr}:∀(names:List (Str×NameKind)) (n:Nat) (acc:List (Str×Addr)),(cellsFrom n names acc).lookup x=some c->(n<=c/\(x,NameKind.cell)∈names)∨acc.lookup x=some c
 | [],_,_,h=>.inr h
 | (y,k)::r,n,acc,h=>by
  unfold cellsFrom at h
  by_cases hk:(k==NameKind.cell)=true
  ·rw[if_pos hk]at h
   rcases je r (n+1) _ h with⟨h1,h2⟩|h1
   ·exact .inl ⟨by omega,ymC _ h2⟩
   ·rw[Ei]at h1
    by_cases hx:(x==y)=true
    ·rw[hx]at h1
     have hxy:x=y:=by simpa using hx
     have hkc:k=.cell:=by simpa using hk
     subst hxy hkc
     cases h1
     exact .inl ⟨DK _,ymS⟩
    ·have hx':(x==y)=false:=by simpa using hx
     rw[hx']at h1
     exact .inr h1
  ·rw[if_neg hk]at h
   rcases je r n _ h with⟨h1,h2⟩|h1
   ·exact .inl ⟨h1,ymC _ h2⟩
   ·exact .inr h1
theorem ni:∀(names:List (Str×NameKind)) (n:Nat) (acc:List (Str×Addr)),(∀x c,acc.lookup x=some c->c<n)->(∀x y c,acc.lookup x=some c->acc.lookup y=some c->x=y) →
  ∀x y c,(cellsFrom n names acc).lookup x=some c->(cellsFrom n names acc).lookup y=some c->x=y
 | [],_,_,_,hi,x,y,c,h1,h2=>hi x y c h1 h2
 | (z,k)::r,n,acc,hb,hi,x,y,c,h1,h2=>by
  unfold cellsFrom at h1 h2
  by_cases hk:(k==NameKind.cell)=true
  ·rw[if_pos hk]at h1 h2
   refine ni r (n+1) ((z,n)::acc) (λa b e=>?_) (λa b d e1 e2=>?_) x y c h1 h2
   ·rw[Ei]at e
    cases q:(a==z)with
    | true=>rw[q]at e;cases e;exact GM _
    | false=>rw[q]at e;exact GI (hb a b e)
   ·rw[Ei]at e1 e2
    cases q1:(a==z)with
    | true=>
     cases q2:(b==z)with
     | true=>rw[beq_iff_eq.mp q1,beq_iff_eq.mp q2]
     | false=>rw[q1]at e1;rw[q2]at e2;cases e1;exact absurd (hb b n e2) (ED _)
    | false=>
     cases q2:(b==z)with
     | true=>rw[q1]at e1;rw[q2]at e2;cases e2;exact absurd (hb a n e1) (ED _)
     | false=>rw[q1]at e1;rw[q2]at e2;exact hi a b d e1 e2
  ·rw[if_neg hk]at h1 h2
   exact ni r n acc hb hi x y c h1 h2
theorem jf {x:Str}:∀(names:List (Str×NameKind)) (n:Nat) (acc:List (Str×Addr)),(x,NameKind.cell)∉names->(cellsFrom n names acc).lookup x=acc.lookup x
 | [],_,_,_=>rfl
 | (y,k)::r,n,acc,h=>by
  unfold cellsFrom
  by_cases hk:(k==NameKind.cell)=true
  ·rw[if_pos hk,jf r _ _ (λz=>h (ymC _ z)),Ei]
   have hkc:k=.cell:=by simpa using hk
   have hx:(x==y)=false:=by
    cases q:(x==y)with
    | false=>rfl
    | true=>exact absurd (by rw[beq_iff_eq.mp q,hkc];exact ymS) h
   rw[hx]
  ·rw[if_neg hk]
   exact jf r _ _ λz=>h (ymC _ z)
theorem k8 {x:Str}{c:Addr}:∀(names:List (Str×NameKind)) (n:Nat) (acc:List (Str×Addr)),((x,NameKind.cell)∈names ∨ ∀c',acc.lookup x=some c'->n<=c')->(cellsFrom n names acc).lookup x=some c->∀lo,lo<=n->(∀c',acc.lookup x=some c'->lo<=c')∨(x,NameKind.cell)∈names->lo<=c
 | [],n,acc,_,h,lo,hl,h2=>by
  rcases h2 with h2|h2
  ·exact h2 c h
  ·cases h2
 | (y,k)::r,n,acc,_,h,lo,hl,h2=>by
  unfold cellsFrom at h
  by_cases hk:(k==NameKind.cell)=true
  ·rw[if_pos hk]at h
   have key:(∀c',((y,n)::acc).lookup x=some c'->lo<=c')∨(x,NameKind.cell)∈r:=by
    by_cases hx:(x==y)=true
    ·refine .inl λc' e=>?_
     rw[Ei,hx]at e
     cases e
     exact hl
    ·have hx':(x==y)=false:=by simpa using hx
     rcases h2 with h2|h2
     ·refine .inl λc' e=>?_
      rw[Ei,hx']at e
      exact h2 c' e
     ·rcases ycM h2 with e|h2
      ·cases e
       simp at hx
      ·exact .inr h2
   have key2:(x,NameKind.cell)∈r ∨ ∀c',((y,n)::acc).lookup x=some c'->n+1<=c'∨True:=.inr λ_ _=>.inr trivial
   rcases key with key|key
   ·by_cases hm:(x,NameKind.cell)∈r
    ·exact k8 r (n+1) _ (.inl hm) h lo (by omega) (.inr hm)
    ·rw[jf r _ _ hm]at h
     exact key c h
   ·exact k8 r (n+1) _ (.inl key) h lo (by omega) (.inr key)
  ·rw[if_neg hk]at h
   have key:(∀c',acc.lookup x=some c'->lo<=c')∨(x,NameKind.cell)∈r:=by
    rcases h2 with h2|h2
    ·exact .inl h2
    ·rcases ycM h2 with e|h2
     ·cases e
      exact absurd rfl hk
     ·exact .inr h2
   by_cases hm:(x,NameKind.cell)∈r
   ·exact k8 r n _ (.inl hm) h lo hl (.inr hm)
   ·rcases key with key|key
    ·rw[jf r _ _ hm]at h
     exact key c h
    ·exact absurd key hm
theorem dZ {x:Str}{c:Addr}:∀(names:List (Str×NameKind)) (h:Heap) (acc:List (Str×Addr)),(cellsFrom h.objs.size names acc).lookup x=some c->(pushCells h names).IsCell c none∨acc.lookup x=some c
 | [],_,_,e=>.inr e
 | (y,k)::r,h,acc,e=>by
  unfold cellsFrom at e
  unfold pushCells
  by_cases hk:(k==NameKind.cell)=true
  ·rw[if_pos hk]at e⊢
   have e':(cellsFrom (h.push {cls:=.type "cell",data:=.cell none}).objs.size r ((y,h.objs.size)::acc)).lookup x=some c:=by rw[Heap.size_push];exact e
   rcases dZ r (h.push {cls:=.type "cell",data:=.cell none}) ((y,h.objs.size)::acc) e' with q|q
   ·exact .inl q
   ·rw[Ei]at q
    cases hx:(x==y)with
    | true=>
     rw[hx]at q
     cases q
     exact .inl ⟨_,pushCells_keeps r _ _ _ (Heap.get?_push_size _ rfl),rfl⟩
    | false=>rw[hx]at q;exact .inr q
  ·rw[if_neg hk]at e⊢
   exact dZ r h acc e
theorem fU {M:Model}{A:Around}{E:Value->Shared->Prop}{s:Shared}{scope:Scope}{globals:Addr}{cl:List (Str×Addr)}{qual:Str}{env:Env}{Q:Env->Shared->Prop}
  (hQ:∀h',h'.Ns s.heap.objs.size (λ_=>none)->(∀b o,s.heap.get? b=some o->h'.get? b=some o)->(∀x c,(cellsFrom (s.heap.objs.size+1) scope.names cl).lookup x=some c->h'.IsCell c none∨cl.lookup x=some c) →
   Q (newEnv scope s.heap.objs.size globals (cellsFrom (s.heap.objs.size+1) scope.names cl) qual none .none (some env) builtinsNs) {s with heap:=h'}) :
  wpAny M A (newFunctionEnv scope globals cl [] qual none .none (some env)) Q E s:=by
 simp only[newFunctionEnv,Option.isSome_some,if_true]
 refine wpAny_bind (wpAny_alloc ?_)
 refine wpAny_bind (wpAny_layCells _ (λname kind cells=>by cases hkc:kind==NameKind.cell<;>simp[hkc]) _ _ _ _ ?_)
 rw[show({s with heap:=s.heap.push {cls:=.type "dict",data:=.dict #[]}}:Shared).heap.objs.size=s.heap.objs.size+1 from Heap.size_push ..]
 rw[GZ]
 refine wpAny_bind (wpAny_pure (wpAny_pure (hQ _ ?_ ?_ ?_)))
 ·exact(Heap.Ns.new s.heap (.type "dict")).keeps (pushCells_keeps _ _)
 ·exact λb o e=>pushCells_keeps _ _ b o (Heap.get?_push_of_some _ e)
 ·intro x c e
  have e':(cellsFrom (s.heap.push {cls:=.type "dict",data:=.dict #[]}).objs.size scope.names cl).lookup x=some c:=by rw[Heap.size_push];exact e
  exact dZ _ _ _ e'
noncomputable def rlK (env:Env) (n:Str) (k:NameKind):NameKind:=if(k == .free&&env.scope.kind == .function&&env.kindOf n==some .cell)then .cell else k
theorem ku {env:Env}{x:Str}:∀(names:List (Str×NameKind)),
  (names.map λ(n,k)=>if(k==NameKind.free&&env.scope.kind == .function&&env.kindOf n==some .cell)then(n,NameKind.cell)else(n,k)).lookup x=(names.lookup x).map (rlK env x)
 | []=>rfl
 | (n,k)::r=>by
  have ih:=ku (env:=env) (x:=x) r
  rw[DJ,Ei]
  have e1:(if(k==NameKind.free&&env.scope.kind == .function&&env.kindOf n==some .cell)then(n,NameKind.cell)else(n,k))=(n,rlK env n k):=by
   unfold rlK;split<;>rfl
  show Fy x ((if(k==NameKind.free&&env.scope.kind == .function&&env.kindOf n==some .cell)then(n,NameKind.cell)else(n,k))::_)=_
  rw[e1,Ei,Ei]
  cases hx:(x==n)with
  | true=>
   have e2:=beq_iff_eq.mp hx
   subst e2
   rfl
  | false=>exact ih
theorem fH {scope:Scope}{env:Env}{x:Str}:(relabel scope env).names.lookup x=(scope.names.lookup x).map (rlK env x):=ku scope.names
structure Blk (osc sc:Scope)(N N':List Str)(fr:List (Option Nat)):Prop where
 kind:sc.kind=.function
 nd:N'.Nodup
 len:fr.length=N'.length
 free:∀(i j:Nat) (x:Str),fr[i]?=some (some j)->N'[i]?=some x->N[j]?=some x/\sc.names.lookup x=some .free
 out:∀x∈sc.names,x.2=.free->(osc.names.lookup x.1=some .cell∨osc.names.lookup x.1=some .free)/\(x.1,NameKind.cell)∉sc.names
 locl:∀x∈sc.names,x.2=.local->sc.names.lookup x.1=some .local
noncomputable def AZ (osc sc:Scope) (N N':List Str) (fr:List (Option Nat)):Bool:=
 (sc.kind == .function)&&decide N'.Nodup&&(fr.length==N'.length) &&
 (fr.zip N').all (λp=>match p.1 with|none=>true|some j=>N[j]? == some p.2&&sc.names.lookup p.2==some .free) &&
 sc.names.all (λp=>(p.2 != .free||((osc.names.lookup p.1==some .cell||osc.names.lookup p.1==some .free) && !sc.names.contains (p.1,.cell)))&&(p.2 != .local||sc.names.lookup p.1==some .local))
theorem Blk.of {osc sc:Scope}{N N':List Str}{fr:List (Option Nat)}(h:AZ osc sc N N' fr=true):Blk osc sc N N' fr:=by
 unfold AZ at h
 simp only[DD]at h
 obtain⟨⟨⟨⟨h1,h2⟩,h3⟩,h4⟩,h5⟩:=h
 refine⟨by simpa using h1,of_decide_eq_true h2,by simpa using h3,λi j x e1 e2=>?_,λx hx hk=>?_,λx hx hk=>?_⟩
 ·have hm:(some j,x)∈fr.zip N':=by
   refine Ff.mpr ⟨i,?_⟩
   rw[Fj]
   exact⟨e1,e2⟩
  have:=Et.mp h4 _ hm
  simp only[DD]at this
  exact⟨by simpa using this.1,by simpa using this.2⟩
 ·have:=Et.mp h5 x hx
  simp only[DD]at this
  have t1:=this.1
  rw[hk]at t1
  simp only[bne_self_eq_false,G6,DD,FC,El]at t1
  refine⟨t1.1.imp (λz=>by simpa using z) (λz=>by simpa using z),λhm=>?_⟩
  have t2:=t1.2
  rw[List.contains_iff_mem.mpr hm]at t2
  cases t2
 ·have:=Et.mp h5 x hx
  simp only[DD]at this
  have t1:=this.2
  rw[hk]at t1
  simp only[bne_self_eq_false,G6]at t1
  simpa using t1
noncomputable def aT (fr:List (Option Nat)) (Z:St):St:=fr.map λo=>match o with
 | none=>none
 | some j=>Z.getD j none
theorem bS (fr:List (Option Nat))(Z:St):(aT fr Z).length=fr.length:=by unfold aT;rw[DH]
noncomputable def x8 (X:Cx) (scope:Scope) (N':List Str) (cells:List (Str×Addr)) (C:Addr) (s:Shared) (H:Hp) (ex:List Addr) (pn:List (Addr×Obj)) (xe:Value->Shared->Prop):Cx where
 prog:=X.prog
 w:=X.w
 K:=X.K
 mg:=X.mg
 base:=X.base
 A:=X.A
 N:=N'
 s₀:=s
 H₀:=H
 env:=compEnvC scope cells C X.env
 outer:=X.stack
 stack:=X.stack
 ex:=ex
 fn:=λx=>scope.names.lookup x==some .cell
 calm:=X.calm
 pn:=pn
 xe:=xe
section
variable  {X:Cx}{pins:List (Addr×Obj)}{Z:St}{H H':Hp}{s:Shared}{scope:Scope}{N':List Str}{fr:List (Option Nat)}{ex:List Addr}{xe:Value->Shared->Prop}
theorem dB {sc:Scope}{x:Str}{k:NameKind}(h:sc.names.lookup x=some k):(x,k)∈sc.names:=ES h
theorem Inv.freeCells (I:Inv X pins Z H s)(B:Blk X.env.scope scope X.N N' fr):∀x∈scope.names,x.2=.free->∃c,X.env.cells.lookup x.1=some c:=λx hx hk=>I.ok.has x.1 (B.out x hx hk).1
theorem Inv.enter {h':Heap}(I:Inv X pins Z H s)(B:Blk X.env.scope scope X.N N' fr)(hex:∀b∈ex,eg X pins H b/\∃o,s.heap.get? b=some o)
  (hns:h'.Ns s.heap.objs.size (λ_=>none)) (hk:∀b o,s.heap.get? b=some o->h'.get? b=some o)
  (hc:∀x c,(cellsFrom (s.heap.objs.size+1) scope.names (bB X.env scope.names [])).lookup x=some c->h'.IsCell c none∨(bB X.env scope.names []).lookup x=some c) :
  Inv (x8 X scope N' (cellsFrom (s.heap.objs.size+1) scope.names (bB X.env scope.names [])) s.heap.objs.size s H ex (X.pn++pins) xe) [] (aT fr Z) H {s with heap:=h'}:=by
 have hfc:=I.freeCells B
 have old:∀x c,(bB X.env scope.names []).lookup x=some c->X.env.cells.lookup x=some c:=λx c e=>ib scope.names [] hfc (λz=>by cases z) e
 have lt:∀x c,X.env.cells.lookup x=some c->c<s.heap.objs.size:=λx c e=>by
  obtain⟨v,q⟩:=I.cell x c e
  exact q.lt
 have cases2:∀x c,(cellsFrom (s.heap.objs.size+1) scope.names (bB X.env scope.names [])).lookup x=some c->s.heap.objs.size+1<=c∨X.env.cells.lookup x=some c:=λx c e=>
  (je _ _ _ e).imp (λz=>z.1) (old x c)
 have hlt:∀b∈ex,b<s.heap.objs.size:=λb hb=>by
  obtain⟨o,e⟩:=(hex b hb).2
  exact Heap.lt_size e
 have has:∀x,scope.names.lookup x=some .cell∨scope.names.lookup x=some .free->∃c,(cellsFrom (s.heap.objs.size+1) scope.names (bB X.env scope.names [])).lookup x=some c:=λx hx=>by
  refine Fk.mp (Fp _ _ _ (hx.imp id λz=>eQ _ _ (dB z)))
 refine⟨⟨I.ok.mod,?_,I.ok.glob,I.ok.blt,DK _,?_,?_,?_,I.ok.hd,I.ok.frames,.inl rfl,?_,I.bs,Ek I.ok.bsz I.sz,?_,?_,I.stack,I.stkFree⟩,rfl,I.bare,Un.kept hk,⟨_,hns,?_⟩,?_,?_,?_,?_,I.hok.kept hk,?_⟩
 ·exact B.kind
 ·exact ni _ _ _ (λx c e=>GI (lt x c (old x c e))) (λx y c e1 e2=>I.ok.inj x y c (old x c e1) (old y c e2))
 ·intro x hx
  refine has x ?_
  have hx':(relabel scope X.env).names.lookup x=some .cell∨(relabel scope X.env).names.lookup x=some .free:=hx
  rw[fH]at hx'
  cases q:scope.names.lookup x with
  | none=>rw[q]at hx';rcases hx' with z|z<;>cases z
  | some k=>
   rw[q]at hx'
   have hx2:rlK X.env x k=.cell∨rlK X.env x k=.free:=hx'.imp (λz=>D5.inj z) (λz=>D5.inj z)
   unfold rlK at hx2
   split at hx2
   ·rename_i hc
    simp only[DD]at hc
    have:k=.free:=by simpa using hc.1.1
    rw[this];exact .inr rfl
   ·rcases hx2 with z|z<;>rw[z]
    ·exact .inl rfl
    ·exact .inr rfl
 ·intro x c hf e
  have hf':scope.names.lookup x=some .cell:=by
   have:(scope.names.lookup x==some NameKind.cell)=true:=hf
   simpa using this
  exact k8 _ _ _ (.inl (dB hf')) e _ (Hj _) (.inr (dB hf'))
 ·intro b hb
  obtain⟨⟨_,_,_,_,f4,_⟩,_⟩:=hex b hb
  refine⟨DV (hlt b hb),λx c e z=>?_⟩
  rcases cases2 x c e with q|q
  ·rw[z]at q
   exact absurd (DX (hlt b hb) (Nat.le_of_succ_le q)) (ED _)
  ·exact f4 x c q z
 ·intro b o e hb
  obtain⟨⟨_,_,_,f3,_,_⟩,_⟩:=hex b hb
  rcases f3 with z|z
  ·exact I.ok.noex b o e z
  ·exact absurd (DX (Heap.lt_size e) (Ek I.ok.bsz z)) (ED _)
 ·intro b hb hf
  obtain⟨⟨_,f1,f2,_,_,_⟩,_⟩:=hex b hb
  rcases ycM (I.stkSub b hf)with z|z
  ·exact f1 z
  ·exact f2 z
 ·intro i x v e1 e2 e3
  unfold aT at e2
  rw[DG]at e2
  cases q:fr[i]? with
  | none=>rw[q]at e2;cases e2
  | some o=>
   rw[q]at e2
   cases o with
   | none=>simp at e2
   | some j=>
    have e2':Z.getD j none=some v:=by simpa using e2
    obtain⟨b1,b2⟩:=B.free i j x q e1
    have e4:Z[j]?=some (some v):=by
     rw[D4]at e2'
     cases q2:Z[j]? with
     | none=>rw[q2]at e2';cases e2'
     | some y=>rw[q2]at e2';simp at e2';rw[e2']
    obtain⟨o1,o2⟩:=B.out (x,.free) (dB b2) rfl
    obtain⟨m,hn,hl⟩:=I.loc
    have vis:Vis X.env.scope x:=o1.elim (λz=>.inr (.inl z)) λz=>.inr (.inr z)
    obtain⟨u,r,l⟩:=hl j x v b1 e4 vis
    refine⟨u,r,.inr ?_⟩
    have nl:∃c,X.env.cells.lookup x=some c/\s.heap.IsCell c (some u):=by
     rcases l with⟨kl,_⟩|⟨_,c,h1,h2⟩
     ·have kl':X.env.scope.names.lookup x=some .local:=kl
      rcases o1 with z|z<;>· have z':X.env.scope.names.lookup x=_:=z;rw[kl']at z';cases z'
     ·exact⟨c,h1,h2⟩
    obtain⟨c,h1,h2⟩:=nl
    have kd:(compEnvC scope (cellsFrom (s.heap.objs.size+1) scope.names (bB X.env scope.names [])) s.heap.objs.size X.env).kindOf x=some .cell∨(compEnvC scope (cellsFrom (s.heap.objs.size+1) scope.names (bB X.env scope.names [])) s.heap.objs.size X.env).kindOf x=some .free:=by
     show(relabel scope X.env).names.lookup x=some .cell∨(relabel scope X.env).names.lookup x=some .free
     rw[fH,b2]
     show some (rlK X.env x .free)=_∨some (rlK X.env x .free)=_
     unfold rlK
     split
     ·exact .inl rfl
     ·exact .inr rfl
    refine⟨kd,c,?_,h2.keeps hk⟩
    show(cellsFrom (s.heap.objs.size+1) scope.names (bB X.env scope.names [])).lookup x=some c
    rw[jf _ _ _ o2]
    obtain⟨c',hc'⟩:=Fk.mp (eQ (env:=X.env) scope.names [] (dB b2))
    rw[hc']
    have:=old x c' hc'
    rw[h1]at this
    exact this.symm
 ·intro x c e
  rcases hc x c e with q|q
  ·exact⟨_,q⟩
  ·obtain⟨v,z⟩:=I.cell x c (old x c q)
   exact⟨v,z.keeps hk⟩
 ·exact I.hok.fresh (DK _)
 ·intro x c e
  rcases cases2 x c e with q|q
  ·exact I.hok.fresh (by omega)
  ·exact I.freeC x c q
 ·intro p hp
  have hp':p∈X.pn++pins:=by
   have:p∈(X.pn++pins)++[]:=hp
   rwa [D0]at this
  obtain⟨e,n,ne,nf,d⟩:=I.pin p hp'
  refine⟨hk _ _ e,n,DV (Heap.lt_size e),λz=>?_,d⟩
  rcases ycM (I.stkSub p.1 z)with q|q
  ·exact ne q
  ·exact nf q
 ·show(aT fr Z).length=N'.length
  rw[bS,B.len]
theorem Inv.leave {cells:List (Str×Addr)}{C:Addr}{pins':List (Addr×Obj)}{Z':St}{s':Shared}{pn:List (Addr×Obj)}(I:Inv X pins Z H s)(hex:∀b∈ex,eg X pins H b)
  (J:Inv (x8 X scope N' cells C s H ex pn xe) pins' Z' H' s'):Inv X pins Z H' s':=
 I.call' J.os J.base J.hok J.bare λb hb=>by
  obtain⟨_,f1,_,f3,f4,f5⟩:=hex b hb
  exact⟨f3,f1,f4,f5⟩
theorem Inv.track {d:Addr}{o:HO}(I:Inv X pins Z H s)(hd:eg X pins H d)(hX:d∉X.ex∨X.s₀.heap.objs.size<=d)(h0:X.s₀.heap.objs.size<=d)(new:ObjOk X.prog X.w (upd H d o) s.heap d o):Inv X pins Z (upd H d o) s:=by
 obtain⟨f0,f1,f2,f3,f4,f5⟩:=hd
 refine⟨I.ok,I.os,I.bare,⟨I.base.keep,I.base.slot,λb u q n hx=>?_,I.base.there,λb xs q=>?_,λb u xs q=>?_,λb ps q=>?_⟩,I.loc,I.cell,?_,λx c e=>?_,λp hp=>?_,λb u q=>?_,I.len⟩
 ·rw[upd_ne (DV (DX (Heap.lt_size q) h0))]
  exact I.base.free b u q n hx
 ·have:=I.base.tups b xs q
  rw[upd_ne (bc this f0)]
  exact this
 ·have:=I.base.frzs b u xs q
  rw[upd_ne (bc this f0)]
  exact this
 ·obtain⟨m,this⟩:=I.base.tbls b ps q
  exact⟨m,by rw[upd_ne (bc this f0)];exact this⟩
 ·rw[upd_ne (Ne.symm f1)]
  exact I.free
 ·rw[upd_ne (f4 x c e)]
  exact I.freeC x c e
 ·obtain⟨e,n,ne,nf,dd⟩:=I.pin p hp
  exact⟨e,by rw[upd_ne (f5 p hp)];exact n,ne,nf,dd⟩
 ·by_cases hb:b=d
  ·subst hb
   rw[az]at q
   cases q
   exact new
  ·rw[upd_ne hb]at q
   exact(I.hok b u q).stay (λ_ _ _ z=>z) (λc z=>by rw[upd_ne (bc z f0)];exact z) λc xs z=>by rw[upd_ne (bc z f0)];exact z
end
noncomputable abbrev lO (ifs:List Expr) (env:Env):Sem Bool:=forIn ifs true λc r=>if r=true then do let ok ←isTrue c env (eval c env);pure (ForInStep.yield ok)else pure (ForInStep.yield r)
theorem fD {prog:Program}{w:World}{A:Around}{R:Result->Shared->Prop}{s:Shared}{elt target iter:Expr}{ifs:List Expr}{scope:Scope}{pos:Pos}{it acc:Value}{env:Env}(I:Nat->Shared->Prop)
  (turn:∀n s,I n s->wpAny (model prog w) A (pyNext it) (λr s₁=>match r with
   | none=>R (.ok .next) s₁
   | some v=>wpAny (model prog w) A (letOwnedTupleGo target it v) (λ_ s₁'=>wpAny (model prog w) A (assign target env v) (λ_ s₂=>
     wpAny (model prog w) A (lO ifs env) (λok s₃=>
      if ok=true then wpAny (model prog w) A (eval elt env) (λx s₄=>
       wpAny (model prog w) A (call (.builtin "list.append") [acc,x]) (λ_ s₅=>∃m,m<n/\I m s₅) (notedBy (model prog w) A env λe s'=>R (.error e) s') s₄) (notedBy (model prog w) A env λe s'=>R (.error e) s') s₃
      else∃m,m<n/\I m s₃) (notedBy (model prog w) A env λe s'=>R (.error e) s') s₂) (notedBy (model prog w) A env λe s'=>R (.error e) s') s₁') (notedBy (model prog w) A env λe s'=>R (.error e) s') s₁) (notedBy (model prog w) A env λe s'=>R (.error e) s') s)
  (n:Nat) (h:I n s):codeAny (model prog w) A (.compLoop (.ListComp elt [⟨target,iter,ifs,0⟩] scope pos) 0 it acc env) R s:=by
 refine codeAny_loop rfl I (λn s hI=>?_) n h
 show wpAny _ A ((compTurn (.ListComp elt [⟨target,iter,ifs,0⟩] scope pos) 0 it acc env).onRaise (λx=>do noteFrame x env;theTreesLotGoes x)) _ _ s
 refine wpAny_noted ?_
 rw[compTurn_list]
 refine wpAny_bind (wpAny_standAt (wpAny_bind (wpAny_mono (turn n s hI) (λr s₁ h₁=>?_) λ_ _ h'=>h')))
 cases r with
 | none=>exact wpAny_pure h₁
 | some v=>
  refine wpAny_bind (wpAny_mono h₁ (λ_ s₁' h₁'=>?_) λ_ _ h'=>h')
  refine wpAny_bind (wpAny_mono h₁' (λ_ s₂ h₂=>wpAny_bind (wpAny_mono h₂ (λok s₃ h₃=>?_) λ_ _ h'=>h')) λ_ _ h'=>h')
  cases ok with
  | false=>exact wpAny_pure ⟨rfl,h₃⟩
  | true=>
   exact wpAny_bind (wpAny_bind (wpAny_mono h₃ (λx s₄ h₄=>wpAny_bind (wpAny_mono h₄ (λ_ s₅ h₅=>wpAny_pure (wpAny_pure ⟨rfl,h₅⟩)) λ_ _ h'=>h')) λ_ _ h'=>h'))
def PTs (X:Cx)(ifs:List Expr)(t:TT):Prop:=
 ∀(pins:List (Addr×Obj)) (s:Shared) (Z:St) (H:Hp) (Q:Bool->Hp->Prop),Inv X pins Z H s->t Z H Q->wpAny (model X.prog X.w) X.A (lO ifs X.env) (TP X pins Z Q) X.xe s
def CO:TT:=λ_ H Q=>Q true H
theorem vX {X:Cx}:PTs X [] CO:=λ_ _ _ H _ I h=>wpAny_tests_nil ⟨H,I,h⟩
theorem vY {X:Cx}{c:Expr}{t:TT}(h:PT X c t):PTs X [c] t:=λpins s Z H Q I q=>wpAny_tests_one (h pins s Z H Q I q)
def Kp (fr:List (Option Nat))(Z Z':St):Prop:=Z'.length=Z.length/\∀i j:Nat,fr[i]?=some (some j)->Z'[i]?=Z[i]?
theorem Kp.refl (fr:List (Option Nat))(Z:St):Kp fr Z Z:=⟨rfl,λ_ _ _=>rfl⟩
theorem Kp.trans {fr:List (Option Nat)}{Z Z' Z'':St}(a:Kp fr Z Z')(b:Kp fr Z' Z''):Kp fr Z Z'':=⟨b.1.trans a.1,λi j e=>(b.2 i j e).trans (a.2 i j e)⟩
def dy (fr:List (Option Nat))(g:TG):Prop:=∀v Z H (Q Q':St->Hp->Prop),(∀Z' H',Q Z' H'->Kp fr Z Z'->Q' Z' H')->g v Z H Q->g v Z H Q'
def ja (fr:List (Option Nat))(g:TGs):Prop:=∀v Z H (Q Q':St->Hp->Prop),(∀Z' H',Q Z' H'->Kp fr Z Z'->Q' Z' H')->g v Z H Q->g v Z H Q'
theorem u5 {fr:List (Option Nat)}{i:Nat}(h:fr[i]?=some none):dy fr (ki i):=λv Z H Q Q' k q=>by
 refine k _ _ q ⟨Fm,λi' j e=>?_⟩
 have:i≠i':=λz=>by subst z;rw[h]at e;cases e
 exact DW this
theorem yk {fr:List (Option Nat)}:ja fr yj:=λv Z H Q Q' k q=>⟨q.1,k _ _ q.2 (Kp.refl _ _)⟩
theorem u4 {fr:List (Option Nat)}{g:TG}{gs:TGs}(h1:dy fr g)(h2:ja fr gs):ja fr (rE g gs):=λvs Z H Q Q' k q=>by
 obtain⟨v,r,e,q⟩:=q
 refine⟨v,r,e,h1 v Z H _ _ (λZ1 H1 q1 k1=>h2 r Z1 H1 _ _ (λZ2 H2 q2 k2=>k Z2 H2 q2 (k1.trans k2)) q1) q⟩
theorem yl {fr:List (Option Nat)}{K:yF}{n:Nat}{gs:TGs}(h:ja fr gs):dy fr (uZ K n gs):=λv Z H Q Q' k q=>by
 obtain⟨a,xs,e1,e2,e3,q⟩:=q
 exact⟨a,xs,e1,e2,e3,h xs Z H Q Q' k q⟩
structure Bk where
 cells:List (Str×Addr)
 C:Addr
 s:Shared
 H:Hp
 ex:List Addr
 pn:List (Addr×Obj)
noncomputable abbrev cxB (X:Cx) (scope:Scope) (N':List Str) (b:Bk):Cx:=x8 X scope N' b.cells b.C b.s b.H b.ex b.pn λ_ _=>False
def uu (wi:TI)(fr:List (Option Nat))(g:TG)(tc:TT)(te:TE):TE:=λZ H Q=>
 wi Z H λJ H1=>∃W:Nat->Nat->List V->Hp->Prop,(∃m,W 0 m [] H1)/\∀i m acc H,W i m acc H->acc.length<sizeLine ∧
  ((J.stop i H/\∀d,H d=none->Q (.ref d) (upd H d (.lst acc))) ∨
  (J.go i H/\∃N:List V->Hp->Prop,(∀acc' H',N acc' H'->∃m',m'<m/\W (i+1) m' acc' H') ∧
   ∀x H',J.yld i H x H'->g x (aT fr Z) H' λZ2 H2=>tc Z2 H2 λb H3=>if b=true then te Z2 H3 λv H4=>N (acc++[v]) H4 else N acc H3))
section
variable  {X:Cx}{elt tg iter:Expr}{ifs:List Expr}{scope:Scope}{pos:Pos}{N':List Str}{fr:List (Option Nat)}{wi:TI}{g:TG}{tc:TT}{te:TE}
theorem jg (hc:X.calm=true)(B:Blk X.env.scope scope X.N N' fr)
  (hg:∀b,PG (cxB X scope N' b) tg g) (hgk:dy fr g) (ht:∀b,PTs (cxB X scope N' b) ifs tc) (he:∀b,PE (cxB X scope N' b) elt te)
  {pins:List (Addr×Obj)} {Z:St} {Q:VK} {itv:Value} {s2:Shared} {E:Value->Shared->Prop} {RR:Value->Addr->Result->Shared->Prop}
  (h2:PIE X pins Z tg (λJ H1=>∃W:Nat->Nat->List V->Hp->Prop,(∃m,W 0 m [] H1)/\∀i m acc H,W i m acc H->acc.length<sizeLine ∧
   ((J.stop i H/\∀d,H d=none->Q (.ref d) (upd H d (.lst acc))) ∨
   (J.go i H/\∃N:List V->Hp->Prop,(∀acc' H',N acc' H'->∃m',m'<m/\W (i+1) m' acc' H') ∧
    ∀x H',J.yld i H x H'->g x (aT fr Z) H' λZ2 H2=>tc Z2 H2 λb H3=>if b=true then te Z2 H3 λv H4=>N (acc++[v]) H4 else N acc H3))) itv s2)
  (hRR:∀(d C:Addr) (v:V) (H':Hp) (s':Shared) m',Inv X pins Z H' s'->v=.ref d->Q v H'->s'.heap.Ns C m'->eg X pins H' C->C≠d->RR (.ref d) C (.ok .next) s') :
  wpAny (model X.prog X.w) X.A (newList []) (λacc s₃=>wpAny (model X.prog X.w) X.A (newFunctionEnv scope X.env.globals (bB X.env scope.names []) [] X.env.qual none .none (some X.env)) (λcenv s₄=>
   codeAny (model X.prog X.w) X.A (.compStart (.ListComp elt [⟨tg,iter,ifs,0⟩] scope pos) 0 itv acc {cenv with scope:=relabel scope X.env}) (RR acc cenv.locals) s₄) E s₃) E s2:=by
 obtain⟨it,fp,tn,J,H2,rfl,I2,T,st2,f2,W,⟨m0,w0⟩,turn⟩:=h2
 refine wpAny_newObj_type ?_
 generalize hd:s2.heap.objs.size=d
 have I3:Inv X pins Z H2 {s2 with heap:=s2.heap.push {cls:=.type "list",dict:=none,data:=.seq ([]:List Value).toArray}}:=I2.kept (t':=s2.toks) λb o e=>Heap.get?_push_of_some _ e
 have fd:eg X pins H2 d:=I2.fpOk (by rw[hd];exact DK _) (I2.hok.fresh (by rw[hd];exact DK _))
 have od:(s2.heap.push {cls:=.type "list",dict:=none,data:=.seq ([]:List Value).toArray}).get? d=some {cls:=.type "list",dict:=none,data:=.seq ([]:List Value).toArray}:=by rw[←hd];exact Heap.get?_push_size _ rfl
 have st3:tn 0 (s2.heap.push {cls:=.type "list",dict:=none,data:=.seq ([]:List Value).toArray}):=T.keep _ _ _ st2 λb _ o e=>Heap.get?_push_of_some _ e
 have ne_d:∀b∈fp,b≠d:=λb hb=>by
  obtain⟨o,e,_⟩:=T.obj _ _ st2 b hb
  rw[←hd]
  exact DV (Heap.lt_size e)
 have hd0:X.s₀.heap.objs.size<=d:=by rw[←hd];exact I2.sz
 generalize hs3:({s2 with heap:=s2.heap.push {cls:=.type "list",dict:=none,data:=.seq ([]:List Value).toArray}}:Shared)=s3 at I3
 have od3:s3.heap.get? d=some {cls:=.type "list",dict:=none,data:=.seq ([]:List Value).toArray}:=by rw[←hs3];exact od
 have st3':tn 0 s3.heap:=by rw[←hs3];exact st3
 have hex:∀b∈d::fp,eg X pins H2 b/\∃o,s3.heap.get? b=some o:=λb hb=>by
  rcases ycM hb with e|hb
  ·subst e;exact⟨fd,_,od3⟩
  ·obtain⟨o,e,_⟩:=T.obj _ _ st3' b hb
   exact⟨f2 b hb,o,e⟩
 refine fU λh4 hns hk hcl=>?_
 have J0:=I3.enter (ex:=d::fp) (xe:=λ_ _=>False) B hex hns hk hcl
 generalize hCs:cellsFrom (s3.heap.objs.size+1) scope.names (bB X.env scope.names [])=cells at J0
 have hCd:s3.heap.objs.size≠d:=λz=>by have:=Heap.lt_size od3;rw[z]at this;exact ED _ this
 let bk:Bk:=⟨cells,s3.heap.objs.size,s3,H2,d::fp,X.pn++pins⟩
 have J0':Inv (cxB X scope N' bk) [] (aT fr Z) H2 {s3 with heap:=h4}:=J0
 show codeAny (model X.prog X.w) X.A (.compStart (.ListComp elt [⟨tg,iter,ifs,0⟩] scope pos) 0 (.ref it) (.ref d) (cxB X scope N' bk).env) (RR (.ref d) s3.heap.objs.size) {s3 with heap:=h4}
 have ne_pn:∀p∈X.pn++pins,p.1≠d/\∀b∈fp,p.1≠b:=λp hp=>⟨fd.2.2.2.2.2 p hp,λb hb=>(f2 b hb).2.2.2.2.2 p hp⟩
 have fpk:∀{Hx:Hp} {o:Obj},(∀b∈fp,Hx b=none)->∀b∈fp,eg (cxB X scope N' bk) [(d,o)] Hx b:=λ{Hx o} hn b hb=>by
  have hb':b∈d::fp:=ymC _ hb
  refine⟨hn b hb,(J0'.ok.exf b hb').1,J0'.ok.exfs b hb',.inl hb',λx c e=>(J0'.ok.exf b hb').2 x c e,λp hp=>?_⟩
  have hp':p∈(X.pn++pins)++[(d,o)]:=hp
  rcases yaM hp' with z|z
  ·exact(ne_pn p z).2 b hb
  ·have:p=(d,o):=by simpa using z
   rw[this]
   exact Ne.symm (ne_d b hb)
 have loop:∀s4:Shared,Inv (cxB X scope N' bk) [] (aT fr Z) H2 s4->tn 0 s4.heap->s4.heap.PlainList d #[] →
   codeAny (model X.prog X.w) X.A (.compLoop (.ListComp elt [⟨tg,iter,ifs,0⟩] scope pos) 0 (.ref it) (.ref d) (cxB X scope N' bk).env) (RR (.ref d) s3.heap.objs.size) s4:=by
  intro s4 J4 st4 pl4
  refine fD (λn s'=>∃i acc its H' Z',Inv (cxB X scope N' bk) [] Z' H' s'/\Kp fr (aT fr Z) Z'/\tn i s'.heap/\(∀b∈fp,H' b=none)/\H' d=none/\s'.heap.PlainList d (F6 its)/\Vals acc its/\W i n acc H') ?_ m0
   ⟨0,[],[],H2,aT fr Z,J4,Kp.refl _ _,st4,λb hb=>(f2 b hb).1,fd.1,pl4,.nil,w0⟩
  rintro n s5 ⟨i,acc,its,H5,Z5,J5,kp5,st5,fr5,hd5,⟨n5,pl5⟩,va5,w5⟩
  obtain⟨hz,cs⟩:=turn i n acc H5 w5
  have J5p:Inv (cxB X scope N' bk) [(d,{cls:=.type "list",data:=.seq its.toArray n5})] Z5 H5 s5:=J5.pins_of λp hp=>by
   have:p=(d,{cls:=.type "list",data:=.seq its.toArray n5}):=by simpa using hp
   subst this
   exact⟨pl5,hd5,(J0'.ok.exf d ymS).1,J0'.ok.exfs d ymS,λv z=>by cases z⟩
  rcases cs with⟨stop,q⟩|⟨go,N,hN,step⟩
  ·refine thn (T.done (cxB X scope N' bk) rfl rfl rfl hc i _ s5 Z5 H5 _ J5p (fpk fr5) st5 stop) λr s6 ⟨hr,J6⟩=>?_
   subst hr
   obtain⟨e6,n6,_⟩:=J6.pin (d,{cls:=.type "list",data:=.seq its.toArray n5}) (yaR _ (by simp))
   have I6:Inv X pins Z H5 s6:=I3.leave (λb hb=>(hex b hb).1) J6
   have I6t:Inv X pins Z (upd H5 d (.lst acc)) s6:=I6.track ⟨hd5,fd.2⟩ (.inr hd0) hd0 ⟨by omega,its,n5,va5,e6⟩
   obtain⟨m6,hn6,_⟩:=J6.loc
   refine hRR d s3.heap.objs.size (.ref d) _ s6 m6 I6t rfl (q d hd5) hn6 ?_ hCd
   exact I3.fpOk (DK _) (by rw[upd_ne hCd];exact J6.free)
  ·refine thn (T.item (cxB X scope N' bk) rfl rfl rfl hc i _ s5 Z5 H5 _ J5p (fpk fr5) st5 go) λr s6 ⟨u,hr,h6⟩=>?_
   subst hr
   refine thn h6 λ_ s7 ⟨x,H7,J7,r7,y7,st7,fr7⟩=>?_
   have J7w:Inv (cxB X scope N' bk) [(d,{cls:=.type "list",data:=.seq its.toArray n5})] (aT fr Z) H7 s7:=J7.weak kp5.1.symm λk v e=>by
    cases q:fr[k]? with
    | none=>
     unfold aT at e
     rw[DG,q]at e
     cases e
    | some o=>
     cases o with
     | none=>
      unfold aT at e
      rw[DG,q]at e
      simp at e
     | some j=>rw[kp5.2 k j q];exact e
   have J7p:=J7w.pinned (fpk fr7) (T.obj _ _ st7)
   have never:∀{α:Type} {t:Sem α} {QQ : α->Shared->Prop} {EE:Value->Shared->Prop} {ss:Shared},wpAny (model X.prog X.w) X.A t QQ (λ_ _=>False) ss->wpAny (model X.prog X.w) X.A t QQ EE ss:=λhh=>wpAny_mono hh (λ_ _ z=>z) λ_ _ z=>z.elim
   have G:=hgk x (aT fr Z) H7 _ (λZ2 H2=>(tc Z2 H2 λb H3=>if b=true then te Z2 H3 λv H4=>N (acc++[v]) H4 else N acc H3)/\Kp fr (aT fr Z) Z2) (λZ' H' a b=>⟨a,b⟩) (step x H7 y7)
   refine never (thn (hg bk _ s7 (aT fr Z) H7 x u _ J7p r7 G) λ_ s8 ⟨Z8,H8,J8,q8,kp8⟩=>?_)
   refine never (thn (ht bk _ s8 Z8 H8 _ J8 q8) λok s9 ⟨H9,J9,q9⟩=>?_)
   have keepT:∀{Zx:St} {Hx:Hp} {sx:Shared},Inv (cxB X scope N' bk) ([(d,{cls:=.type "list",data:=.seq its.toArray n5})]++bu fp s7.heap) Zx Hx sx->(∀b∈fp,∀o,s7.heap.get? b=some o->sx.heap.get? b=some o)/\(∀b∈fp,Hx b=none)/\sx.heap.get? d=some {cls:=.type "list",data:=.seq its.toArray n5}/\Hx d=none:=λ{Zx Hx sx} Jx=>by
    refine⟨λb hb o e=>(Jx.pin (b,o) (yaR _ (yaR _ (bH hb e)))).1,λb hb=>?_,?_⟩
    ·obtain⟨o,e,_⟩:=T.obj _ _ st7 b hb
     exact(Jx.pin (b,o) (yaR _ (yaR _ (bH hb e)))).2.1
    ·have:=Jx.pin (d,{cls:=.type "list",data:=.seq its.toArray n5}) (yaR _ (yaL _ (by simp)))
     exact⟨this.1,this.2.1⟩
   cases ok with
   | false=>
    rw[if_neg (by decide)]at q9⊢
    obtain⟨m',hm,w9⟩:=hN _ _ q9
    obtain⟨k1,k2,k3,k4⟩:=keepT J9
    exact⟨m',hm,i+1,acc,its,H9,Z8,J9.pins_of (λp hp=>by simp at hp),kp8,T.keep _ _ _ st7 k1,k2,k4,⟨n5,k3⟩,va5,w9⟩
   | true=>
    rw[if_pos rfl]at q9⊢
    refine never (thn (he bk _ s9 Z8 H9 _ J9 q9) λy s10 ⟨v,H10,J10,r10,q10⟩=>?_)
    obtain⟨m',hm,w10⟩:=hN _ _ q10
    obtain⟨k1,k2,k3,k4⟩:=keepT J10
    have hzs:its.toArray.size<=sizeLine:=by rw[DC,←va5.length];omega
    refine wpAny_list_append_plain (hsz:=hzs) ⟨n5,k3⟩ λh11 pl11 sb11=>?_
    have J10':Inv (cxB X scope N' bk) [] Z8 H10 s10:=J10.pins_of (λp hp=>by simp at hp)
    have J11:Inv (cxB X scope N' bk) [] Z8 H10 {s10 with heap:=h11}:=J10'.turned (it:=d) (t':=s10.toks) (λb o hb e=>(sb11.2 b hb).trans e) k4 (J0'.ok.exf d ymS).1 (.inl ymS) (λx c e=>(J0'.ok.exf d ymS).2 x c e) λp hp=>by
     have hp':p∈(X.pn++pins)++[]:=hp
     rw[D0]at hp'
     exact(ne_pn p hp').1
    refine⟨m',hm,i+1,acc++[v],its++[y],H10,Z8,J11,kp8,T.keep _ _ _ st7 (λb hb o e=>(sb11.2 b (ne_d b hb)).trans (k1 b hb o e)),k2,k4,?_,va5.append (.cons r10 .nil),w10⟩
    have:(its++[y]).toArray=its.toArray.push y:=by simp
    rw[this]
    exact pl11
 have st4:tn 0 h4:=T.keep _ _ _ st3' λb _ o e=>hk b o e
 have pl4:h4.PlainList d #[]:=⟨0,hk d _ od3⟩
 have L4:=loop {s3 with heap:=h4} J0' st4 pl4
 exact codeAny_compStart_list L4 (T.self X.A 0 _ _ _ st4 L4)
theorem vD (hc:X.calm=true)(B:Blk X.env.scope scope X.N N' fr)(hi:PI X tg iter wi)
  (hg:∀b,PG (cxB X scope N' b) tg g) (hgk:dy fr g) (ht:∀b,PTs (cxB X scope N' b) ifs tc) (he:∀b,PE (cxB X scope N' b) elt te)
  (hs:∀x,foldedSetIterable iter X.env x=pure x:=by intro _;rfl):PE X (.ListComp elt [⟨tg,iter,ifs,0⟩] scope pos) (uu wi fr g tc te):=by
 intro pins s Z H Q I h
 rw[eval_ListComp]
 refine wpAny_comprehension_free (use:=none) rfl hs (dY (I.freeCells B)) B.kind B.locl (thn (hi pins s Z H _ I h) λv s1 h1=>thn h1 λitv s2 h2=>?_)
 refine jg (RR:=λacc C=>compPost (model X.prog X.w) X.A X.xe none (EP X pins Z Q) acc C) hc B hg hgk ht he h2 ?_
 intro d C v H' s' m' I' hv q hn fC hCd
 refine⟨m',hn,λh'' sb=>?_⟩
 obtain⟨c0,c1,c2,c3,c4,c5⟩:=fC
 exact⟨v,H',I'.turned (it:=C) (t':=s'.toks) (λb o hb e=>(sb.2 b hb).trans e) c0 c1 c3 c4 c5,by rw[hv];rfl,q⟩
theorem nP {i:Nat}{x:Str}{pos' spos:Pos}(hc:X.calm=true)(hN:X.N.Nodup)(hi':X.N[i]?=some x)(hx:X.env.scope.names.lookup x=some .local)(B:Blk X.env.scope scope X.N N' fr)(hi:PI X tg iter wi)
  (hg:∀b,PG (cxB X scope N' b) tg g) (hgk:dy fr g) (ht:∀b,PTs (cxB X scope N' b) ifs tc) (he:∀b,PE (cxB X scope N' b) elt te)
  (hsw:swapsWith (.ListComp elt [⟨tg,iter,ifs,0⟩] scope pos) (some (.Name x pos')) spos.line X.env=pure true:=by rfl)
  (hs:∀x,foldedSetIterable iter X.env x=pure x:=by intro _;rfl):PS X (.Assign [.Name x pos'] (.ListComp elt [⟨tg,iter,ifs,0⟩] scope pos) spos) (wV (uu wi fr g tc te) (ki i)):=by
 intro pins s Z H D I h
 rw[exec_Assign_Name_used _ _ _ _ hsw]
 refine wpAny_bind (wpAny_standAt (wpAny_bind ?_))
 show wpAny _ _ (do let _ ←comprehension (.ListComp elt [⟨tg,iter,ifs,0⟩] scope pos) scope X.env _ (newList []) false (eval iter X.env) (some (assign (.Name x pos') X.env))) _ _ s
 refine wpAny_bind (wpAny_mono (wpAny_comprehension_free (use:=some (assign (.Name x pos') X.env)) (Q:=λ_ s'=>SP X pins D .next s') rfl hs (dY (I.freeCells B)) B.kind B.locl (thn (hi pins s Z H _ I h) λv s1 h1=>thn h1 λitv s2 h2=>?_)) (λ_ s' hq=>wpAny_pure (wpAny_pure hq)) λ_ _ e=>e)
 refine jg (Q:=λv H1=>ki i v Z H1 D.nx) (RR:=λacc C=>compPost (model X.prog X.w) X.A X.xe (some (assign (.Name x pos') X.env)) (λ_ s'=>SP X pins D .next s') acc C) hc B hg hgk ht he h2 ?_
 intro d C v H' s' m' I' hv q hn fC hCd
 obtain⟨c0,c1,c2,c3,c4,c5⟩:=fC
 subst hv
 refine wpAny_assign_Name (kK I' hN hi' (.inl hx) (show RelV (.ref d) (.ref d)from rfl) (λs6 I6 ⟨a,sa,ha⟩=>?_) (.inr hx))
 have haC:C≠a:=by
  rcases ha with z|z
  ·rw[z];exact c1
  ·exact λz'=>c4 x a z z'.symm
 refine⟨m',hn.sameBut sa haC,λh'' sb=>?_⟩
 exact⟨_,H',I6.turned (it:=C) (t':=s6.toks) (λb o hb e=>(sb.2 b hb).trans e) c0 c1 c3 c4 c5,q⟩
end
inductive D where
 | int (i:Int)|str (x:Str)|tup (ds:List D)
mutual
def Rep (K:yF)(H:Hp):D->V->Prop
 | .int i,v=>v=.int i
 | .str x,v=>v=.str x
 | .tup ds,v=>∃a xs,v=.ref a/\SqT K H a xs/\Reps K H ds xs
def Reps (K:yF)(H:Hp):List D->List V->Prop
 | [],xs=>xs=[]
 | d::ds,xs=>∃x r,xs=x::r/\Rep K H d x/\Reps K H ds r
end
mutual
noncomputable def D.depth:D->Nat
 | .int _=>0
 | .str _=>0
 | .tup ds=>aJ ds+1
noncomputable def aJ:List D->Nat
 | []=>0
 | d::ds=>max d.depth (aJ ds)
end
theorem ke {d:D}:∀{ds:List D},d∈ds->d.depth<=aJ ds
 | [],h=>by cases h
 | e::ds,h=>by
  rw[aJ]
  rcases ycM h with z|z
  ·rw[z];exact Gb _ _
  ·exact Ek (ke z) (FY _ _)
theorem Reps.length {K:yF}{H:Hp}:∀{ds:List D} {xs:List V},Reps K H ds xs->xs.length=ds.length
 | [],xs,h=>by rw[Reps]at h;rw[h];rfl
 | d::ds,xs,h=>by
  rw[Reps]at h
  obtain⟨x,r,rfl,_,h3⟩:=h
  rw[DQ,DQ,h3.length]
theorem Rep.tup_iff {K:yF}{H:Hp}{ds:List D}{v:V}:Rep K H (.tup ds) v ↔ ∃a xs,v=.ref a/\SqT K H a xs/\Reps K H ds xs:=by rw[Rep]
theorem Same.laid {H:Hp}{p:Addr}{o:HO}(hp:H p=none):Same H (upd H p o):=λb u e=>by rw[upd_ne (bc e hp)];exact e
section
variable  {X:Cx}{pins:List (Addr×Obj)}{Z:St}{H:Hp}{s:Shared}
mutual
theorem Rep.inj (I:Inv X pins Z H s):∀{d e:D} {v:V},Rep X.K H d v->Rep X.K H e v->d=e
 | .int i,.int j,v,h,h'=>by simp only[Rep]at h h';subst h;cases h';rfl
 | .int i,.str j,v,h,h'=>by simp only[Rep]at h h';subst h;cases h'
 | .int i,.tup j,v,h,h'=>by simp only[Rep]at h h';subst h;obtain⟨_,_,z,_⟩:=h';cases z
 | .str i,.int j,v,h,h'=>by simp only[Rep]at h h';subst h;cases h'
 | .str i,.str j,v,h,h'=>by simp only[Rep]at h h';subst h;cases h';rfl
 | .str i,.tup j,v,h,h'=>by simp only[Rep]at h h';subst h;obtain⟨_,_,z,_⟩:=h';cases z
 | .tup i,.int j,v,h,h'=>by simp only[Rep]at h h';subst h';obtain⟨_,_,z,_⟩:=h;cases z
 | .tup i,.str j,v,h,h'=>by simp only[Rep]at h h';subst h';obtain⟨_,_,z,_⟩:=h;cases z
 | .tup ds,.tup es,v,h,h'=>by
  simp only[Rep]at h h'
  obtain⟨a,xs,rfl,h2,h3⟩:=h
  obtain⟨b,ys,z,h4,h5⟩:=h'
  cases z
  rw[I.tuple_inj h4 h2]at h5
  rw[Reps.inj I h3 h5]
theorem Reps.inj (I:Inv X pins Z H s):∀{ds es:List D} {xs:List V},Reps X.K H ds xs->Reps X.K H es xs->ds=es
 | [],[],xs,h,h'=>rfl
 | [],e::es,xs,h,h'=>by simp only[Reps]at h h';subst h;obtain⟨_,_,z,_⟩:=h';cases z
 | d::ds,[],xs,h,h'=>by simp only[Reps]at h h';subst h';obtain⟨_,_,z,_⟩:=h;cases z
 | d::ds,e::es,xs,h,h'=>by
  simp only[Reps]at h h'
  obtain⟨x,r,rfl,h2,h3⟩:=h
  obtain⟨y,q,z,h4,h5⟩:=h'
  cases z
  rw[Rep.inj I h2 h4,Reps.inj I h3 h5]
end
open SeqAt in
mutual
theorem rA (I:Inv X pins Z H s):∀(d e:D) {x y:V} {u v:Value} {A:Around},Rep X.K H d x->Rep X.K H e y->RelV x u->RelV y v->A.units+d.depth<cLine->∃b,(b=true↔d=e)/\EqAt A s u v b
 | .int i,.int j,x,y,u,v,A,h,h',r,r',_=>by
  simp only[Rep]at h h';subst h h';obtain⟨t,rfl⟩:=r;obtain⟨t',rfl⟩:=r'
  exact⟨_,by simp,EqAt.int_int i t j t'⟩
 | .int i,.str j,x,y,u,v,A,h,h',r,r',_=>by
  simp only[Rep]at h h';subst h h';obtain⟨t,rfl⟩:=r;obtain⟨t',rfl⟩:=r'
  exact⟨_,by simp,EqAt.int_str i t j t'⟩
 | .str i,.int j,x,y,u,v,A,h,h',r,r',_=>by
  simp only[Rep]at h h';subst h h';obtain⟨t,rfl⟩:=r;obtain⟨t',rfl⟩:=r'
  exact⟨_,by simp,EqAt.str_int i t j t'⟩
 | .str i,.str j,x,y,u,v,A,h,h',r,r',_=>by
  simp only[Rep]at h h';subst h h';obtain⟨t,rfl⟩:=r;obtain⟨t',rfl⟩:=r'
  exact⟨_,by simp,EqAt.str_str i t j t'⟩
 | .int i,.tup j,x,y,u,v,A,h,h',r,r',hu=>by
  simp only[Rep]at h h';subst h;obtain⟨t,rfl⟩:=r
  obtain⟨a,xs,rfl,h2,_⟩:=h'
  cases r'
  obtain⟨its,_,p,_⟩:=I.tuple h2
  exact⟨false,by simp,EqAt.int_tuple i t (show s.heap.IsTuple a its.toArray from p) (Ew (Ez _ _) hu)⟩
 | .str i,.tup j,x,y,u,v,A,h,h',r,r',hu=>by
  simp only[Rep]at h h';subst h;obtain⟨t,rfl⟩:=r
  obtain⟨a,xs,rfl,h2,_⟩:=h'
  cases r'
  obtain⟨its,_,p,_⟩:=I.tuple h2
  exact⟨false,by simp,EqAt.str_tuple i t (show s.heap.IsTuple a its.toArray from p) (Ew (Ez _ _) hu)⟩
 | .tup j,.int i,x,y,u,v,A,h,h',r,r',hu=>by
  simp only[Rep]at h h';subst h';obtain⟨t,rfl⟩:=r'
  obtain⟨a,xs,rfl,h2,_⟩:=h
  cases r
  obtain⟨its,_,p,_⟩:=I.tuple h2
  exact⟨false,by simp,EqAt.tuple_int i t (show s.heap.IsTuple a its.toArray from p) (Ew (Ez _ _) hu)⟩
 | .tup j,.str i,x,y,u,v,A,h,h',r,r',hu=>by
  simp only[Rep]at h h';subst h';obtain⟨t,rfl⟩:=r'
  obtain⟨a,xs,rfl,h2,_⟩:=h
  cases r
  obtain⟨its,_,p,_⟩:=I.tuple h2
  exact⟨false,by simp,EqAt.tuple_str i t (show s.heap.IsTuple a its.toArray from p) (Ew (Ez _ _) hu)⟩
 | .tup ds,.tup es,x,y,u,v,A,h,h',r,r',hu=>by
  by_cases hne:u=v
  ·subst hne
   have hxy:x=y:=r.inj r'
   subst hxy
   exact⟨true,by simp[Rep.inj I h h'],EqAt.same u⟩
  ·simp only[Rep]at h h'
   obtain⟨a,xs,rfl,h2,h3⟩:=h
   obtain⟨b,ys,rfl,h4,h5⟩:=h'
   cases r
   cases r'
   obtain⟨its,rv,p,_⟩:=I.tuple h2
   obtain⟨its',rv',p',_⟩:=I.tuple h4
   have hab:a≠b:=λz=>hne (by rw[z])
   have hu':A.in1.units+aJ ds<cLine:=by
    have:A.units+(aJ ds+1)<cLine:=by rw[D.depth]at hu;exact hu
    show A.units+1+aJ ds<cLine
    omega
   obtain⟨e,he,hE⟩:=fX I ds es (A:=A.in1) h3 h5 rv rv' hu'
   have R:=RcAt.tuples (A:=A) (s:=s) (l:=a) (b:=b) (items:=its.toArray) (items2:=its'.toArray) (e:=e) (show s.heap.IsTuple a its.toArray from p) (show s.heap.IsTuple b its'.toArray from p') (Ew (Ez _ _) hu) (λj h1 h2=>by
    simpa using hE j (its[j]'(by simpa using h1)) (its'[j]'(by simpa using h2)) (by simp) (by simp))
   refine⟨_,?_,EqAt.of_refs hab R⟩
   rw[he.symm]
   have l1:its.toArray.size=ds.length:=by rw[DC,←rv.length,h3.length]
   have l2:its'.toArray.size=es.length:=by rw[DC,←rv'.length,h5.length]
   rw[l1,l2]
   simp
theorem fX (I:Inv X pins Z H s):∀(ds es:List D) {xs ys:List V} {us vs:List Value} {A:Around},Reps X.K H ds xs->Reps X.K H es ys->Vals xs us->Vals ys vs->A.units+aJ ds<cLine →
  ∃e:Nat->Bool,(((Ee (min ds.length es.length)).all e=true/\ds.length=es.length)↔D.tup ds=D.tup es)/\∀(j:Nat) u v,us[j]?=some u->vs[j]?=some v->EqAt A s u v (e j)
 | [],es,xs,ys,us,vs,A,h,h',r,r',_=>by
  rw[Reps]at h;subst h;cases r
  refine⟨λ_=>true,?_,λj u v e=>by simp at e⟩
  cases es<;>simp
 | d::ds,[],xs,ys,us,vs,A,h,h',r,r',_=>by
  rw[Reps]at h';subst h';cases r'
  exact⟨λ_=>true,by simp,λj u v _ e=>by simp at e⟩
 | d::ds,e::es,xs,ys,us,vs,A,h,h',r,r',hu=>by
  simp only[Reps]at h h'
  obtain⟨x,q,rfl,h2,h3⟩:=h
  obtain⟨y,q',rfl,h4,h5⟩:=h'
  cases r with
  | cons r1 r2=>
   cases r' with
   | cons r3 r4=>
    rw[aJ]at hu
    have m1:=Gb d.depth (aJ ds)
    have m2:=FY d.depth (aJ ds)
    obtain⟨b,hb,hB⟩:=rA I d e (A:=A) h2 h4 r1 r3 (by omega)
    obtain⟨f,hf,hF⟩:=fX I ds es (A:=A) h3 h5 r2 r4 (by omega)
    refine⟨λj=>match j with|0=>b|j+1=>f j,?_,λj u v e1 e2=>?_⟩
    ·have hf':((Ee (min ds.length es.length)).all f=true/\ds.length=es.length)↔ds=es:=by rw[hf];simp
     rw[DQ,DQ,Nat.succ_min_succ,List.range_succ_eq_map,EM,Ha]
     simp only[D.tup.injEq,E3.injEq,DD,Nat.add_right_cancel_iff]
     rw[←hf',←hb]
     constructor
     ·rintro⟨⟨a1,a2⟩,a3⟩;exact⟨a1,a2,a3⟩
     ·rintro⟨a1,a2,a3⟩;exact⟨⟨a1,a2⟩,a3⟩
    ·cases j with
     | zero=>simp at e1 e2;subst e1 e2;exact hB
     | succ j=>exact hF j u v (by simpa using e1) (by simpa using e2)
end
end
section
variable  {X:Cx}
def Cl (K:yF):R2:=λx y H Q=>∃ds es,Rep K H (.tup ds) x/\Rep K H (.tup es) y/\aJ ds<=50/\∀b,(b=true↔ds=es)->Q (.bl b) H
def Cq (K:yF):R2:=λx y H Q=>∃ds es,Rep K H (.tup ds) x/\Rep K H (.tup es) y/\aJ ds<=50/\∀b,(b=true↔ds≠es)->Q (.bl b) H
theorem yG (hu:X.A.units+64<cLine):OpR X (compareOp .Eq) (Cl X.K):=by
 intro pins s Z H x y v u Q I rx ry h
 obtain⟨ds,es,h1,h2,hd,q⟩:=h
 rw[Rep.tup_iff]at h1 h2
 obtain⟨a,xs,rfl,h3,h4⟩:=h1
 obtain⟨b,ys,rfl,h5,h6⟩:=h2
 cases rx
 cases ry
 obtain⟨its,rv,p,_⟩:=I.tuple h3
 obtain⟨its',rv',p',_⟩:=I.tuple h5
 have hu':X.A.in1.units+aJ ds<cLine:=by show X.A.units+1+aJ ds<cLine;omega
 obtain⟨e,he,hE⟩:=fX I ds es (A:=X.A.in1) h4 h6 rv rv' hu'
 have R:=SeqAt.RcAt.tuples (A:=X.A) (s:=s) (l:=a) (b:=b) (items:=its.toArray) (items2:=its'.toArray) (e:=e) (show s.heap.IsTuple a its.toArray from p) (show s.heap.IsTuple b its'.toArray from p') (by omega) (λj h1 h2=>by
  simpa using hE j (its[j]'(by simpa using h1)) (its'[j]'(by simpa using h2)) (by simp) (by simp))
 refine R X.prog X.w X.xe _ ⟨.bl _,H,I,rfl,q _ ?_⟩
 have l1:its.toArray.size=ds.length:=by rw[DC,←rv.length,h4.length]
 have l2:its'.toArray.size=es.length:=by rw[DC,←rv'.length,h6.length]
 have he':((Ee (min ds.length es.length)).all e=true/\ds.length=es.length)↔ds=es:=by rw[he];simp
 rw[l1,l2,←he']
 simp
theorem yN (hu:X.A.units+64<cLine):OpR X (compareOp .NotEq) (Cq X.K):=by
 intro pins s Z H x y v u Q I rx ry h
 obtain⟨ds,es,h1,h2,hd,q⟩:=h
 rw[Rep.tup_iff]at h1 h2
 obtain⟨a,xs,rfl,h3,h4⟩:=h1
 obtain⟨b,ys,rfl,h5,h6⟩:=h2
 cases rx
 cases ry
 obtain⟨its,rv,p,_⟩:=I.tuple h3
 obtain⟨its',rv',p',_⟩:=I.tuple h5
 have hu':X.A.in1.units+aJ ds<cLine:=by show X.A.units+1+aJ ds<cLine;omega
 obtain⟨e,he,hE⟩:=fX I ds es (A:=X.A.in1) h4 h6 rv rv' hu'
 have R:=SeqAt.RcNeAt.tuples (A:=X.A) (s:=s) (l:=a) (b:=b) (items:=its.toArray) (items2:=its'.toArray) (e:=e) (show s.heap.IsTuple a its.toArray from p) (show s.heap.IsTuple b its'.toArray from p') (by omega) (λj h1 h2=>by
  simpa using hE j (its[j]'(by simpa using h1)) (its'[j]'(by simpa using h2)) (by simp) (by simp))
 refine R X.prog X.w X.xe _ ⟨.bl _,H,I,rfl,q _ ?_⟩
 have l1:its.toArray.size=ds.length:=by rw[DC,←rv.length,h4.length]
 have l2:its'.toArray.size=es.length:=by rw[DC,←rv'.length,h6.length]
 have he':((Ee (min ds.length es.length)).all e=true/\ds.length=es.length)↔ds=es:=by rw[he];simp
 rw[l1,l2,ne_eq,←not_congr he',El,←GN,DD,beq_iff_eq]
def Cm (K:yF):R2:=λx y H Q=>∃a b xs ys ds es,x=.ref a/\y=.ref b/\SqL K H a xs/\SqL K H b ys/\Reps K H ds xs/\Reps K H es ys/\aJ ds<=50/\∀c,(c=true↔ds=es)->Q (.bl c) H
def Cr (K:yF):R2:=λx y H Q=>∃a b xs ys ds es,x=.ref a/\y=.ref b/\SqL K H a xs/\SqL K H b ys/\Reps K H ds xs/\Reps K H es ys/\aJ ds<=50/\∀c,(c=true↔ds≠es)->Q (.bl c) H
theorem yH (hu:X.A.units+64<cLine):OpR X (compareOp .Eq) (Cm X.K):=by
 intro pins s Z H x y v u Q I rx ry h
 obtain⟨a,b,xs,ys,ds,es,rfl,rfl,h3,h5,h4,h6,hd,q⟩:=h
 cases rx
 cases ry
 obtain⟨its,rv,p,_⟩:=I.list h3
 obtain⟨its',rv',p',_⟩:=I.list h5
 have hu':X.A.in1.units+aJ ds<cLine:=by show X.A.units+1+aJ ds<cLine;omega
 obtain⟨e,he,hE⟩:=fX I ds es (A:=X.A.in1) h4 h6 rv rv' hu'
 have l1:its.toArray.size=ds.length:=by rw[DC,←rv.length,h4.length]
 have l2:its'.toArray.size=es.length:=by rw[DC,←rv'.length,h6.length]
 have he':((Ee (min ds.length es.length)).all e=true/\ds.length=es.length)↔ds=es:=by rw[he];simp
 by_cases hl:ds.length=es.length
 ·have R:=SeqAt.RcAt.lists (A:=X.A) (s:=s) (l:=a) (b:=b) (items:=its.toArray) (items2:=its'.toArray) (e:=e) p.isList p'.isList (by rw[l1,l2];exact hl) (by omega) (λj h1 h2=>by
   simpa using hE j (its[j]'(by simpa using h1)) (its'[j]'(by simpa using h2)) (by simp) (by simp))
  refine R X.prog X.w X.xe _ ⟨.bl _,H,I,rfl,q _ ?_⟩
  rw[l1,←he',←hl,Hb]
  simp
 ·have R:=SeqAt.RcAt.lists_lengths (A:=X.A) (s:=s) (l:=a) (b:=b) (items:=its.toArray) (items2:=its'.toArray) p.isList p'.isList (by rw[l1,l2];simpa using hl) (by omega)
  refine R X.prog X.w X.xe _ ⟨.bl _,H,I,rfl,q _ ?_⟩
  constructor
  ·intro z;cases z
  ·intro z;exact absurd (by rw[z]) hl
theorem yO (hu:X.A.units+64<cLine):OpR X (compareOp .NotEq) (Cr X.K):=by
 intro pins s Z H x y v u Q I rx ry h
 obtain⟨a,b,xs,ys,ds,es,rfl,rfl,h3,h5,h4,h6,hd,q⟩:=h
 cases rx
 cases ry
 obtain⟨its,rv,p,_⟩:=I.list h3
 obtain⟨its',rv',p',_⟩:=I.list h5
 have hu':X.A.in1.units+aJ ds<cLine:=by show X.A.units+1+aJ ds<cLine;omega
 obtain⟨e,he,hE⟩:=fX I ds es (A:=X.A.in1) h4 h6 rv rv' hu'
 have l1:its.toArray.size=ds.length:=by rw[DC,←rv.length,h4.length]
 have l2:its'.toArray.size=es.length:=by rw[DC,←rv'.length,h6.length]
 have he':((Ee (min ds.length es.length)).all e=true/\ds.length=es.length)↔ds=es:=by rw[he];simp
 by_cases hl:ds.length=es.length
 ·have R:=SeqAt.RcNeAt.lists (A:=X.A) (s:=s) (l:=a) (b:=b) (items:=its.toArray) (items2:=its'.toArray) (e:=e) p.isList p'.isList (by rw[l1,l2];exact hl) (by omega) (λj h1 h2=>by
   simpa using hE j (its[j]'(by simpa using h1)) (its'[j]'(by simpa using h2)) (by simp) (by simp))
  refine R X.prog X.w X.xe _ ⟨.bl _,H,I,rfl,q _ ?_⟩
  rw[l1,ne_eq,←not_congr he',←hl,Hb]
  simp
 ·have R:=SeqAt.RcNeAt.lists_lengths (A:=X.A) (s:=s) (l:=a) (b:=b) (items:=its.toArray) (items2:=its'.toArray) p.isList p'.isList (by rw[l1,l2];simpa using hl) (by omega)
  refine R X.prog X.w X.xe _ ⟨.bl _,H,I,rfl,q _ ?_⟩
  constructor
  ·intro _ z;exact absurd (by rw[z]) hl
  ·intro _;rfl
open Classical in
noncomputable def isD (K:yF) (H:Hp) (d:D) (u:Value):Bool:=decide (∃v,RelV v u/\Rep K H d v)
open Classical in
theorem oR {K:yF}{H:Hp}{d:D}{u:Value}:isD K H d u=true ↔ ∃v,RelV v u/\Rep K H d v:=by
 unfold isD
 exact decide_eq_true_iff
theorem gK {pins:List (Addr×Obj)}{Z:St}{H:Hp}{s:Shared}(I:Inv X pins Z H s){d:D}:∀{ds:List D} {xs:List V} {us:List Value},Reps X.K H ds xs->Vals xs us->(us.any (isD X.K H d)=true↔d∈ds)
 | [],xs,us,h,r=>by rw[Reps]at h;subst h;cases r;simp
 | e::ds,xs,us,h,r=>by
  rw[Reps]at h
  obtain⟨x,q,rfl,h2,h3⟩:=h
  cases r with
  | @cons _ u0 _ us0 r1 r2=>
   rw[FQ,FC,gK I h3 r2,Ed]
   have:isD X.K H d u0=true↔d=e:=by
    rw[oR]
    constructor
    ·rintro⟨v,rv,hv⟩
     rw[rv.inj r1]at hv
     exact Rep.inj I hv h2
    ·intro z
     subst z
     exact⟨x,r1,h2⟩
   rw[this]
theorem fG {pins:List (Addr×Obj)}{Z:St}{H:Hp}{s:Shared}(I:Inv X pins Z H s){A:Around}{d:D}{x:V}{v:Value}(hx:Rep X.K H d x)(rx:RelV x v){ds:List D}(hu:A.units+aJ ds<cLine) :
  ∀{es:List D} {xs:List V} {us:List Value},(∀e∈es,e∈ds)->Reps X.K H es xs->Vals xs us->∀u∈us,SeqAt.EqAt A s u v (isD X.K H d u)
 | [],xs,us,_,h,r=>by rw[Reps]at h;subst h;cases r;intro u hu;cases hu
 | e::es,xs,us,hs,h,r=>by
  rw[Reps]at h
  obtain⟨y,q,rfl,h2,h3⟩:=h
  cases r with
  | cons r1 r2=>
   intro u hu'
   rcases ycM hu' with z|z
   ·subst z
    obtain⟨b,hb,hB⟩:=rA I e d (A:=A) h2 hx r1 rx (Ew (Gs (ke (hs e ymS)) _) hu)
    have:isD X.K H d u=b:=by
     have h5:isD X.K H d u=true↔e=d:=by
      rw[oR]
      constructor
      ·rintro⟨w,rw',hw⟩
       rw[rw'.inj r1]at hw
       exact(Rep.inj I hw h2).symm
      ·intro z
       subst z
       exact⟨y,r1,h2⟩
     rw[EJ,h5,hb]
    rw[this]
    exact hB
   ·exact fG I hx rx hu (λe' h'=>hs e' (ymC _ h')) h3 r2 u z
def wr (K:yF)(neg:Bool):R2:=λx y H Q=>∃p xs d ds,y=.ref p/\(SqL K H p xs∨SqT K H p xs)/\Rep K H d x/\Reps K H ds xs/\aJ ds<=50/\∀b,(b=true↔(if neg=true then d∉ds else d∈ds))->Q (.bl b) H
theorem yJ (hu:X.A.units+64<cLine):OpR X (compareOp .In) (wr X.K false):=by
 intro pins s Z H x y v u Q I rx ry h
 obtain⟨p,xs,d,ds,rfl,hq,hx,hs,hd,q⟩:=h
 cases ry
 have hu':X.A.in1.units+aJ ds<cLine:=by show X.A.units+1+aJ ds<cLine;omega
 rcases hq with hq|hq
 ·obtain⟨its,rv,pl,_⟩:=I.list hq
  refine SeqAt.in_listAt (isD X.K H d) pl.isList (λy hy=>fG I hx rx hu' (λ_ z=>z) hs rv y (by simpa using hy)) ⟨.bl _,H,I,rfl,q _ ?_⟩
  rw[if_neg (by decide),←gK I hs rv];simp
 ·obtain⟨its,rv,pl,_⟩:=I.tuple hq
  refine SeqAt.in_tupleAt (isD X.K H d) (show s.heap.IsTuple p its.toArray from pl) (λy hy=>fG I hx rx hu' (λ_ z=>z) hs rv y (by simpa using hy)) ⟨.bl _,H,I,rfl,q _ ?_⟩
  rw[if_neg (by decide),←gK I hs rv];simp
theorem p9 (hu:X.A.units+64<cLine):OpR X (compareOp .NotIn) (wr X.K true):=by
 intro pins s Z H x y v u Q I rx ry h
 obtain⟨p,xs,d,ds,rfl,hq,hx,hs,hd,q⟩:=h
 cases ry
 have hu':X.A.in1.units+aJ ds<cLine:=by show X.A.units+1+aJ ds<cLine;omega
 rcases hq with hq|hq
 ·obtain⟨its,rv,pl,_⟩:=I.list hq
  refine SeqAt.notIn_listAt (isD X.K H d) pl.isList (λy hy=>fG I hx rx hu' (λ_ z=>z) hs rv y (by simpa using hy)) ⟨.bl _,H,I,rfl,q _ ?_⟩
  rw[if_pos rfl,←gK I hs rv];simp
 ·obtain⟨its,rv,pl,_⟩:=I.tuple hq
  refine SeqAt.notIn_tupleAt (isD X.K H d) (show s.heap.IsTuple p its.toArray from pl) (λy hy=>fG I hx rx hu' (λ_ z=>z) hs rv y (by simpa using hy)) ⟨.bl _,H,I,rfl,q _ ?_⟩
  rw[if_pos rfl,←gK I hs rv];simp
def m7 (i j:Int):Prop:=0<j/\j<2^64
theorem p8:OpR X (binaryOp .FloorDiv) (rI m7 λi j=>.int (i / j)):=opI λi j _ _ _ _ _ hc q=>by
 have h1:(0:Int)<j:=hc.1
 have h2:j<2^64:=hc.2
 refine floordiv_int (by omega) (by rw[Int.fdiv_eq_ediv_of_nonneg i (by omega)];exact q) (.inl (PyProof.noPylong_of_log2 ?_))
 have h3:j.natAbs<2^64:=by omega
 have h4:j.natAbs≠0:=by omega
 have:=(Nat.log2_lt h4).mpr h3
 omega
theorem zp {tg e:Expr}{te:TE}(he:PE X e te):PI X tg e (λZ H R=>te Z H λx H1=>∃z:Str,x=.str z/\R ⟨λi _=>i<z.cps.size,λi H y H'=>H'=H/\∃c,z.cps[i]?=some c/\y=.str ⟨#[c]⟩,λi _=>z.cps.size<=i⟩ H1):=by
 intro pins s Z H R I h
 refine thn (he pins s Z H _ I h) λv s1 ⟨x,H1,I1,r1,q1⟩=>?_
 obtain⟨z,rfl,q⟩:=q1
 obtain⟨t,rfl⟩:=r1
 have main:∀(n:String) (o:Obj),(["enumerate","zip","dict_itemiterator","dict_reverseitemiterator","odict_iterator","itertools.zip_longest","itertools.pairwise"].contains n=false) →
   o={cls:=.type n,data:=.fields #[.str z t,.int 0 0]}->(∀A':Around,A'.handled=none->Walks X.prog X.w A' s1.heap.objs.size [s1.heap.objs.size] [s1.heap.objs.size] z.cps.size (SignAt z) (λi h=>h.IsStrIter s1.heap.objs.size n z t i)) →
   (∀(A:Around) (i:Nat) (s:Shared) (Q:Value->Shared->Prop) (E:Value->Shared->Prop),s.heap.IsStrIter s1.heap.objs.size n z t i->Q (.ref s1.heap.objs.size) s->wpAny (model X.prog X.w) A (pyIter (.ref s1.heap.objs.size)) Q E s) →
   PIE X pins Z tg R (.ref s1.heap.objs.size) {s1 with heap:=s1.heap.push o}:=by
  intro n o hn ho W hself
  subst ho
  refine⟨s1.heap.objs.size,[s1.heap.objs.size],λi h=>h.IsStrIter s1.heap.objs.size n z t i/\i<=z.cps.size,_,H1,rfl,I1.kept (t':=s1.toks) λb o e=>Heap.get?_push_of_some _ e,?_,⟨⟨_,Heap.get?_push_size _ rfl,rfl,rfl⟩,EX _⟩,λb hb=>?_,q⟩
  ·refine⟨by simp,λi h st b hb=>?_,λi h h' st k=>⟨?_,st.2⟩,?_,?_,λA i s Q E st h=>?_⟩
   ·have e:b=s1.heap.objs.size:=by simpa using hb
    subst e
    obtain⟨o,e,c,d⟩:=st.1
    exact⟨o,e,λv z=>by rw[d]at z;cases z⟩
   ·obtain⟨o,ho,r⟩:=st.1
    exact⟨o,k _ (by simp) o ho,r⟩
   ·intro Y hP hw hK hc i pins' s' Z' H' E I' hf st hg
    obtain⟨f0,f1,f2,f3,f4,f5⟩:=hf s1.heap.objs.size (by simp)
    refine(W Y.A (I'.ok.hd hc)).item i s' _ _ hg st.1 λv h' tk hv st' kk=>?_
    obtain⟨c,u,hc',rfl⟩:=hv
    have I1':Inv Y pins' Z' H' {s' with heap:=h',toks:=tk}:=I'.turned (λb o hb e=>kk b o (by simpa using hb) e) f0 f1 f3 f4 f5
    obtain⟨o,e,cl,d⟩:=id st'
    exact⟨_,rfl,oP (s:={s' with heap:=h',toks:=tk}) e cl d hn ⟨.str ⟨#[c]⟩,H',I1',⟨u,rfl⟩,⟨rfl,c,hc',rfl⟩,⟨st',hg⟩,λb hb=>(hf b hb).1⟩⟩
   ·intro Y hP hw hK hc i pins' s' Z' H' E I' hf st hg
    obtain⟨f0,f1,f2,f3,f4,f5⟩:=hf s1.heap.objs.size (by simp)
    have hi:i=z.cps.size:=Nat.le_antisymm st.2 hg
    refine(W Y.A (I'.ok.hd hc)).done s' _ _ (hi▸st.1) λh' tk kk=>⟨rfl,?_⟩
    exact I'.turned (λb o hb e=>kk b o (by simpa using hb) e) f0 f1 f3 f4 f5
   ·exact hself A i s Q E st.1 h
  ·have e:b=s1.heap.objs.size:=by simpa using hb
   subst e
   exact I1.fpOk (DK _) (I1.hok.fresh (DK _))
 cases ha:z.cps.all (· < 128)
 ·exact wpAny_pyIter_wide ha (main "str_iterator" _ (by decide) rfl (λA' hA=>Walks.strWide hA _ z t) λA i s Q E st h=>wpAny_pyIter_striter_wide st h)
 ·exact wpAny_pyIter_ascii ha (main "str_ascii_iterator" _ (by decide) rfl (λA' hA=>Walks.strAscii hA _ z t) λA i s Q E st h=>wpAny_pyIter_striter_ascii st h)
end
noncomputable abbrev sL (z:Str):List Nat:=z.cps.toList
noncomputable abbrev oL (l:List Nat):Str:=⟨l.toArray⟩
theorem cE (l:List Nat):sL (oL l)=l:=rfl
theorem r6 (z:Str):oL (sL z)=z:=by cases z;rfl
theorem cT (z:Str):z.length=(sL z).length:=by unfold Str.length sL;rw[EI]
theorem jR (x y:Str):sL (x++y)=sL x++sL y:=by
 show(x.cps++y.cps).toList=_
 rw[Array.toList_append]
theorem lK {x y:Str}(h:sL x=sL y):x=y:=by rw[←r6 x,h,r6]
noncomputable def cQ {α:Type} (xs:List α) (lo hi:Option Int):List α:=(xs.drop (HT.sIx xs.length 0 lo)).take (HT.sIx xs.length xs.length hi-HT.sIx xs.length 0 lo)
theorem mQ (lo hi:Option Int)(n:Nat):Builtin.Str.strSliceIndices lo hi 1 n=(Ee (HT.sIx n n hi-HT.sIx n 0 lo)).map (HT.sIx n 0 lo + ·):=by
 have h1:(1:Int)>0:=by omega
 have clip:∀(v:Option Int) (d:Nat),(match v with|none=>(d:Int)|some i=>(if(1:Int)>0 then max 0 (min (if i<0 then i+(n:Int)else i) (n:Int))else max (-1) (min (if i<0 then i+(n:Int)else i) ((n:Int)-1))))=((HT.sIx n d v:Nat):Int):=by
  intro v d
  cases v with
  | none=>rfl
  | some i=>
   show(if(1:Int)>0 then max 0 (min (if i<0 then i+(n:Int)else i) (n:Int))else _)=(((if i<0 then(i+(n:Int)).toNat else min i.toNat n):Nat):Int)
   rw[if_pos h1]
   by_cases hi:i<0
   ·simp only[if_pos hi];omega
   ·simp only[if_neg hi];omega
 have e:Builtin.Str.strSliceIndices lo hi 1 n=sliceRange ((HT.sIx n 0 lo:Nat):Int) ((HT.sIx n n hi:Nat):Int) 1:=by
  unfold Builtin.Str.strSliceIndices
  simp only[h1,if_true]
  have c1:=clip lo 0
  have c2:=clip hi n
  simp only[h1,if_true]at c1 c2
  rw[←c1,←c2]
  rfl
 rw[e,sliceRange_one]
theorem kT (x:Str)(lo hi:Option Int):Txt.slice x lo hi=oL (cQ (sL x) lo hi):=by
 have hn:x.length=(sL x).length:=cT x
 have key:((Builtin.Str.strSliceIndices lo hi 1 x.length).filterMap (x.cps[·]?))=cQ (sL x) lo hi:=by
  rw[mQ,hn]
  unfold cQ
  exact pick_run x.cps _ _
 unfold Txt.slice
 split
 ·rename_i h
  have h2:(Builtin.Str.strSliceIndices lo hi 1 x.length).length=x.length:=by
   simp only[DD]at h
   simpa using h.2
  have h3:(cQ (sL x) lo hi)=sL x:=by
   unfold cQ
   rw[mQ,DH,List.length_range,hn]at h2
   have a1:=HT.sIx_le (sL x).length (sL x).length (DK _) hi
   have a2:HT.sIx (sL x).length 0 lo=0∨(sL x).length=0:=by omega
   rcases a2 with a2|a2
   ·rw[a2,G3]
    exact DT (by omega)
   ·rw[E9 a2]
    simp
  rw[h3,r6]
 ·rw[key]
section
variable  {X:Cx}
theorem Ap:SlR X (λx lo hi H Q=>∃z,x=.str z/\z.length<=sizeLine/\Q (.str (oL (cQ (sL z) lo hi))) H):=by
 intro pins s Z H x v vl vu lo hi sl Q I rx hs pl pu h
 obtain⟨z,rfl,hz,q⟩:=h
 obtain⟨t,rfl⟩:=rx
 have hp:∀{v:Value} {o:Option Int},IsPart v o->∃p:Option (Int×Tok),v=partValue p/\p.map (·.1)=o:=λ{v o} p=>by
  cases p with
  | none=>exact⟨none,rfl,rfl⟩
  | int i t=>exact⟨some (i,t),rfl,rfl⟩
 obtain⟨l,rfl,rfl⟩:=hp pl
 obtain⟨u,rfl,rfl⟩:=hp pu
 refine⟨"str",_,F.slot_str_getitem.lookup,typeIs_str _ _ _,?_⟩
 refine wpAny_getItem_str_slice (l:=l) (u:=u) (st:=none) hs rfl ?_
 have e:sliceMade z t l u none=if((1:Int)==1&&(Builtin.Str.strSliceIndices (l.map (·.1)) (u.map (·.1)) 1 z.length).length==z.length)=true then Made.val (.str z t)else Made.str ⟨((Builtin.Str.strSliceIndices (l.map (·.1)) (u.map (·.1)) 1 z.length).filterMap (z.cps[·]?)).toArray⟩:=rfl
 rw[e]
 refine post_val_or_str ⟨Ek (Txt.slice_le z _ _) hz,λt' k=>?_⟩
 refine⟨.str (Txt.slice z (l.map (·.1)) (u.map (·.1))),H,I.tok k,⟨t',rfl⟩,?_⟩
 rw[kT]
 exact q
def rSl (K:yF):V->Option Int->Option Int->Hp->VK->Prop:=λx lo hi H Q=>Cu K x lo hi H Q∨Ct K x lo hi H Q ∨ ∃z,x=.str z/\z.length<=sizeLine/\Q (.str (oL (cQ (sL z) lo hi))) H
theorem nV {zs:List Str}:∀{us:List Value},Vals (zs.map V.str) us->StrsAre us zs:=by
 induction zs with
 | nil=>intro us r;rw[Fa]at r;cases r;exact .nil
 | cons n ns ih=>
  intro us r
  rw[DJ]at r
  cases r with
  | cons r1 r2=>
   obtain⟨t,e⟩:=r1
   subst e
   exact .cons n t (ih r2)
theorem vm:MtR X "str.join" (λx vs H Q=>∃z a zs,x=.str z/\vs=[.ref a]/\SqL X.K H a (zs.map V.str)/\(zs.map (·.length)).sum+zs.length*z.length<=16777216/\Q (.str (Txt.join z zs)) H):=by
 intro pins s Z H x xs v us Q I rx rv h
 obtain⟨z,a,zs,rfl,rfl,hq,hz,q⟩:=h
 obtain⟨t,rfl⟩:=rx
 obtain⟨u,rfl,ru⟩:=hV rv
 cases ru
 obtain⟨its,r,p,_⟩:=I.list hq
 exact join_list p.isList (by simpa using nV r) hz λt' k=>⟨.str (Txt.join z zs),H,I.tok k,⟨t',rfl⟩,q⟩
theorem pI (zs:List Str):sL (Txt.join (oL []) zs)=(zs.map sL).flatten:=by
 have key:∀(zs:List Str) (acc:Array Nat),(zs.foldl (λacc p=>acc++(oL []).cps++p.cps) acc).toList=acc.toList++(zs.map sL).flatten:=by
  intro zs
  induction zs with
  | nil=>intro acc;simp
  | cons z zs ih=>
   intro acc
   rw[FB,ih]
   simp
 cases zs with
 | nil=>rfl
 | cons z zs=>
  show(zs.foldl (λacc p=>acc++(oL []).cps++p.cps) z.cps).toList=_
  rw[key]
  simp
theorem op_mulS:OpR X (binaryOp .Mult) (λx y H Q=>∃z n,x=.str z/\y=.int n/\1<=n/\n<=1000/\z.length<=1000/\Q (.str (oL (DE n.toNat (sL z)).flatten)) H):=by
 intro pins s Z H x y v u Q I rx ry h
 obtain⟨z,n,rfl,rfl,h1,h2,h3,q⟩:=h
 obtain⟨t,rfl⟩:=rx
 obtain⟨t',rfl⟩:=ry
 have hf:∀(m:Nat) (acc:Array Nat),(DE m z.cps).foldl (· ++ ·) acc=acc++(DE m (sL z)).flatten.toArray:=by
  intro m
  induction m with
  | zero=>intro acc;simp
  | succ m ih=>intro acc;rw[Eh,FB,ih,Eh,EG];apply Array.ext';simp
 have hlen:z.length*n.toNat<=1000*1000:=Gj h3 (by omega)
 have e3:¬ n<1:=by omega
 refine P.mul_str ?_ ?_ ?_ ?_
 ·rw[decide_eq_false (by omega),decide_eq_false (by omega)];rfl
 ·intro _ _
  have a1:n*9223372036854775<=2^63-1:=by omega
  have:(9223372036854775:Int)<=(2^63-1) / n:=(Int.le_ediv_iff_mul_le (by omega)).mpr (by omega)
  omega
 ·intro _ _
  unfold Builtin.Str.tooLong
  exact decide_eq_false (by rw[sizeLine_eq];omega)
 ·rw[if_neg e3]
  refine post_val_or_str ?_
  have hv:(if(n==1||z.length==0)=true then z else(⟨(DE n.toNat z.cps).foldl (· ++ ·) #[]⟩:Str))=oL (DE n.toNat (sL z)).flatten:=by
   split
   ·rename_i hc
    rcases Bool.or_eq_true_iff.mp hc with c|c
    ·have:n=1:=by simpa using c
     subst this
     show z=oL (DE 1 (sL z)).flatten
     simp only[Eh,List.replicate_zero,EG,List.flatten_nil,D0]
    ·have h0:(sL z).length=0:=by rw[←cT];simpa using c
     have h00:sL z=[]:=E9 h0
     rw[h00]
     apply lK
     rw[h00,cE]
     symm
     exact List.eq_nil_iff_forall_not_mem.mpr λa ha=>by
      obtain⟨l,hl,hal⟩:=GO.mp ha
      rw[List.eq_of_mem_replicate hl]at hal
      cases hal
   ·rw[hf];simp
  rw[hv]
  refine⟨?_,λt2 k=>⟨.str (oL (DE n.toNat (sL z)).flatten),H,I.tok k,⟨t2,rfl⟩,q⟩⟩
  rw[cT,cE,gT,←cT,sizeLine_eq,GG]
  omega
theorem iy:fillsNumberSlot (.type "tuple") "mul" = pure false:=
 PySem.fillsNumberSlot_seq (id:="tuple.__mul__") (r:=some (.builtin "tuple.__rmul__")) F.slot_tuple_mul.lookup (by decide +kernel) F.slot_tuple_rmul.lookup (by decide +kernel)
theorem lH:seqRepeat? (.type "tuple")=pure (some (.builtin "tuple.__mul__")):=by
 unfold seqRepeat?
 rw[GP (T:="tuple") (name:="__mul__") (id:="tuple.__mul__") F.slot_tuple_mul.lookup (by decide +kernel),GP (T:="tuple") (name:="__rmul__") (id:="tuple.__rmul__") F.slot_tuple_rmul.lookup (by decide +kernel)]
 rfl
theorem jo (a:Int)(t:Tok)(l:Addr)(items:Array Value)(n:Nat)(dd:Option Addr)(sl:Array (Option Value)) :
  Meets (Builtin.«int.__rmul__» ⟨[.int a t,.ref l],[]⟩) (λ_ R s=>s.heap.get? l=some {cls:=.type "tuple",dict:=dd,data:=.seq items n,slots:=sl}/\R (.ok (.ret Value.notImplemented)) s):=
 .of_wp λprog w A R s h=>by obtain⟨hp,g,d,tk,os⟩:=s;obtain⟨hl,h⟩:=h;wp_walk;exact⟨_,rfl,h⟩
theorem iY (l:Addr)(items:Array Value)(n:Nat)(dd:Option Addr)(sl:Array (Option Value))(k:Int)(t:Tok)(h1:2<=k)(h2:k<=1000)(hne:items.isEmpty=false)(hz:items.size<=1000) :
  Meets (Builtin.«tuple.__mul__» ⟨[.ref l,.int k t],[]⟩) (λ_ R s=>s.heap.get? l=some {cls:=.type "tuple",dict:=dd,data:=.seq items n,slots:=sl} ∧
   R (.ok (.ret (.ref s.heap.objs.size))) {s with heap:=s.heap.push {cls:=.type "tuple",data:=.seq ((DE k.toNat items).foldl (· ++ ·) #[])}}):=
 .of_wp λprog w A R s h=>by
  obtain⟨hp,g,d,tk,os⟩:=s;obtain⟨hl,h⟩:=h
  have c1:¬ (decide (k < -(2^63))||decide (k≥2^63))=true:=by rw[decide_eq_false (by omega),decide_eq_false (by omega)];decide
  have c2:¬ (items.isEmpty||k==1)=true:=by rw[hne];simp;omega
  have c3:¬ (decide (k<=0)||items.isEmpty)=true:=by rw[hne,decide_eq_false (by omega)];decide
  have c0:((items.size:Nat):Int)*k<=1000*1000:=Int.mul_le_mul (by omega) h2 (by omega) (by omega)
  have c4:¬ ((items.size:Int)*k>(2^63-1) / 8):=by omega
  have c5:¬ Builtin.Tuple.tupleTooMany ((items.size:Int)*k)=true:=by unfold Builtin.Tuple.tupleTooMany;simp;rw[sizeLine_eq];omega
  have f1:=AutoSeq1.idx_int
  wp_walk using AutoSeq1.wpAny_loadPart' hl
  rw[if_neg c1]
  refine wpAny_bind (tupleItemsOf_ ⟨_,hl,rfl,n,rfl⟩ ?_)
  dsimp only
  rw[if_neg c2,if_neg c3,if_neg c4,if_neg c5]
  have hsz:sizeOk (.seq ((DE k.toNat items).foldl (· ++ ·) #[])):=by
   show((DE k.toNat items).foldl (· ++ ·) #[]).size<=sizeLine
   have f0:=eD items.toList k.toNat []
   have e0:(DE k.toNat items.toList.toArray).foldl (· ++ ·) #[]=(DE k.toNat items.toList).flatten.toArray:=by simpa using f0
   have e1:items.toList.toArray=items:=by simp
   rw[e1]at e0
   rw[e0,DC,gT,EI,sizeLine_eq]
   have a1:k.toNat*items.size<=1000*1000:=Gj (by omega) hz
   omega
  first
   | exact wpAny_bind (m:=Builtin.Tuple.tupleExact _) (wpAny_newObj_type (wpAny_pure ⟨_,rfl,h⟩) hsz)
   | exact wpAny_bind (wpAny_bind (m:=Builtin.Tuple.tupleExact _) (wpAny_newObj_type (wpAny_pure ⟨_,rfl,h⟩) hsz))
def xG (K:yF):R2:=λx y H Q=>∃l k xs,x=.ref l/\y=.int k/\SqT K H l xs/\xs≠[]/\xs.length<=1000/\1<=k/\k<=1000 ∧
 (k=1->Q (.ref l) H)/\(2<=k->∀p,H p=none->Q (.ref p) (upd H p (.tup (DE k.toNat xs).flatten)))
theorem vy:OpR X (binaryOp .Mult) (xG X.K):=by
 intro pins s Z H x y v u Q I rx ry h
 obtain⟨l,k,xs,rfl,rfl,hH,hne,hlen,h1,h2,q1,q2⟩:=h
 cases rx
 obtain⟨t,rfl⟩:=ry
 obtain⟨its,r,p,hz⟩:=I.tuple (X:=X) hH
 obtain⟨⟨cls,dd,data,sl⟩,ho,hc,n,hd⟩:=id p
 simp only at hc hd
 subst hc hd
 have hl:=r.length
 have hne':its.toArray.isEmpty=false:=by
  cases its with
  | nil=>cases r;exact absurd rfl hne
  | cons a r'=>rfl
 have hTy:s.TypeIs (.ref l) "tuple" :=⟨_,ho,rfl⟩
 refine wpAny_binaryOp_repeat_ref (T:="tuple") (U:="int") (by decide) hTy (λs'=>typeIs_int s' k t) iy F.fills_int_mul F.slot_int_rmul lH F.slot_int_index.lookup
  (call_meets F.slot_int_rmul (typeIs_int s k t) F.entry_int_rmul (F.args_int_rmul_2 _ _) (jo k t l its.toArray n dd sl)
   ⟨ho,rfl,hTy,?_⟩)
 by_cases hk:k=1
 ·subst hk
  refine wpAny_call_entry F.slot_tuple_mul hTy F.entry_tuple_mul ?_ (F.args_tuple_mul_2 _ _)
  have f1:=AutoSeq1.idx_int
  have c1:¬ (decide ((1:Int) < -(2^63))||decide ((1:Int)≥2^63))=true:=by decide
  obtain⟨hp,g,d,tk,os⟩:=s
  wp_walk using AutoSeq1.wpAny_loadPart' ho
  exact⟨_,rfl,.ref l,H,I,rfl,q1 rfl⟩
 ·refine call_meets F.slot_tuple_mul hTy F.entry_tuple_mul (F.args_tuple_mul_2 _ _) (iY l its.toArray n dd sl k t (by omega) h2 hne' (by rw[DC,←hl];exact hlen)) ⟨ho,?_⟩
  have e0:(DE k.toNat its.toArray).foldl (· ++ ·) #[]=(DE k.toNat its).flatten.toArray:=by simpa using eD its k.toNat []
  rw[e0]
  refine⟨.ref s.heap.objs.size,_,I.laid (t':=s.toks) (o:=.tup (DE k.toNat xs).flatten) (λb ob q=>Heap.get?_push_of_some _ q) (DK _) ?_,rfl,q2 (by omega) _ (I.hok.fresh (DK _))⟩
  refine⟨?_,_,r.rep k.toNat,IsTupN.new _ _⟩
  rw[gT,sizeLine_eq]
  have a1:k.toNat*xs.length<=1000*1000:=Gj (by omega) hlen
  omega
theorem gv (l:Addr)(items:Array Value)(n:Nat)(b:Addr)(items2:Array Value)(n2:Nat)(dd:Option Addr)(sl:Array (Option Value))(hs0:¬(!items.isEmpty&&Builtin.List.listTooLong (items.size+items2.size))=true)(hs1:items.size<=sizeLine)(hs2:items.size+items2.size<=sizeLine+1) :
  Meets (Builtin.«list.extend» ⟨[.ref l,.ref b],[]⟩) (λ_ R s=>s.heap.get? l=some {cls:=.type "list",dict:=none,data:=.seq items n,slots:=#[]}/\s.heap.get? b=some {cls:=.type "tuple",dict:=dd,data:=.seq items2 n2,slots:=sl}/\R (.ok (.ret Value.none)) {s with heap:=s.heap.update l (Obj.mapSeq λx=>x++items2),toks:=s.toks}):=
 .of_wp λprog w A R s h=>by
  obtain⟨hp,g,d,tk,os⟩:=s;obtain⟨hl,hb,h⟩:=h;have f1:=AutoSeq1.idx_int;have f2:=AutoSeq1.sub_tuple_tuple;have f3:=AutoSeq1.sub_list_list;have f4:=AutoSeq1.sub_tuple_list;have f5:=AutoSeq1.sub_list_tuple;
  have hz':(items++items2).size<=sizeLine+1:=by rw[GH];exact hs2
  wp_walk using(wpAny_updateSeq hl rfl (hz:=hs1) (_hz':=hz')),AutoSeq1.wpAny_loadPart' hl,AutoSeq1.wpAny_loadPart' hb;exact⟨_,rfl,h⟩
def mH (K:yF):V->List V->Hp->VK->Prop:=λx vs H Q=>∃l b xs zs,x=.ref l/\vs=[.ref b]/\H l=some (.lst xs)/\SqT K H b zs/\xs.length+zs.length<=sizeLine/\Q .non (upd H l (.lst (xs++zs)))
theorem nE:MtM X "list.extend" (mH X.K):=by
 intro pins s Z H x vs v us Q I rx rv h
 obtain⟨l,b,xs,zs,rfl,rfl,hH,hB,hz,q⟩:=h
 cases rx
 obtain⟨u,rfl,ru⟩:=rv.one
 cases ru
 obtain⟨z,its,n,r,hl,e⟩:=I.lstM hH
 obtain⟨its2,r2,p2,z2⟩:=I.tuple hB
 obtain⟨⟨cls,dd,data,sl⟩,ho,hc,n2,hd⟩:=id p2
 simp only at hc hd
 subst hc hd
 have hl2:=r2.length
 have hsz:its.toArray.size+its2.toArray.size<=sizeLine:=by rw[DC,DC];omega
 have hlong:¬ (!its.toArray.isEmpty&&Builtin.List.listTooLong (its.toArray.size+its2.toArray.size))=true:=by
  rw[dE hsz,Gi]
  exact DN
 refine call_meets F.slot_list_extend ⟨_,e,rfl⟩ F.entry_list_extend (F.args_list_extend_2 _ _)
  (gv l its.toArray n b its2.toArray n2 dd sl hlong (by rw[DC];omega) (by omega)) ⟨e,ho,?_⟩
 refine⟨.non,_,I.lset (its':=its++its2) hH e (by simp) (r.append r2) ?_,rfl,q⟩
 rw[DS]
 omega
end
section
variable  {X:Cx}
theorem fq {α β:Type}{f : α->Option β}{g : α->β}:∀{l:List α},(∀k∈l,f k=some (g k))->l.filterMap f=l.map g
 | [],_=>rfl
 | a::l,h=>by
  rw[DZ,h a ymS,DJ]
  show g a::_=_
  rw[fq λk hk=>h k (ymC _ hk)]
theorem uf (xs:Array Value):((Ee xs.size).filterMap λ(k:Nat)=>xs[(((xs.size:Int)-1)+(k:Int) * -1).toNat]?)=xs.toList.reverse:=by
 apply E4
 intro i
 rw[fq (g:=λk=>(xs[xs.size-1-k]?).getD default) (λk hk=>?_),DG]
 ·by_cases hi:i<xs.size
  ·have h2:xs.size-1-i<xs.size:=by omega
   rw[List.getElem?_range hi,List.getElem?_reverse (by simpa using hi)]
   simp[h2]
  ·rw[Gf (by simpa using hi),Gf (by simpa using hi)]
   rfl
 ·have hk':=EN.mp hk
  have e1:((((xs.size:Nat):Int)-1)+(k:Int) * -1).toNat=xs.size-1-k:=by omega
  rw[e1]
  have h2:xs.size-1-k<xs.size:=by omega
  simp[h2]
theorem gP {prog:Program}{w:World}{A:Around}{E:Value->Shared->Prop}{s:Shared}{t sl:Addr}{tt:Tok}{items:Array Value}{Q:Value->Shared->Prop}(ht:IsTup s.heap t items)(hs:s.heap.IsSliceOf sl .none .none (.int (-1) tt))
  (h:Q (.ref s.heap.objs.size) {s with heap:=s.heap.push {cls:=.type "tuple",data:=.seq items.toList.reverse.toArray}})
  (hsz:items.size<=sizeLine):wpAny (model prog w) A (getItem (.ref t) (.ref sl)) Q E s:=by
 have htake:sizeOk (.seq items.toList.reverse.toArray):=by
  show items.toList.reverse.toArray.size<=sizeLine
  rw[DC,Gv,EI]
  exact hsz
 obtain⟨os,hos,hcs,hds⟩:=id hs
 have hTs:s.TypeIs (.ref sl) "slice" :=⟨os,hos,hcs⟩
 unfold getItem
 try with_reducible refine wpAny_holding ?_
 first|refine wpAny_bind (wpAny_pure ?_)|skip
 refine wpAny_bind (wpAny_sequenceKey ht.typeIs (by decide) ?_)
 refine wpAny_bind (wpAny_callSpecial?_slot (name:=Str.ofString "__getitem__") ht.typeIs Ej
  (wpAny_call_entry Ej ht.typeIs entry_tuple_getitem ?_ (args_tuple_getitem _ _)))
 show wpAny _ _ (Builtin.Tuple.tupleItemsOf (.ref t) >>= _) _ _ s
 refine wpAny_bind (tupleItemsOf_ ht ?_)
 refine wpAny_bind (wpAny_typeOf hTs ?_)
 rw[if_pos (by decide)]
 have app:∀{Q':Int×Int×Nat->Shared->Prop},Q' ((items.size:Int)-1,-1,items.size) s->wpAny (model prog w) A.in1 (Builtin.Slice.sliceApplied (.ref sl) (pure (items.size:Int))) Q' E s:=by
  intro Q' hq
  unfold Builtin.Slice.sliceApplied Builtin.Slice.sliceFields
  refine wpAny_bind (wpAny_bind (wpAny_field hos hds (x:=.none) rfl (wpAny_bind (wpAny_field hos hds (x:=.none) rfl (wpAny_bind (wpAny_field hos hds (x:=.int (-1) tt) rfl (wpAny_pure ?_)))))))
  refine wpAny_bind (slicePart_int ?_)
  show wpAny _ _ (if((-1:Int)==0)=true then _ else _) _ _ s
  rw[if_neg (by decide)]
  refine wpAny_bind (slicePart_none (wpAny_bind (slicePart_none (wpAny_bind (wpAny_pure ?_)))))
  show wpAny _ _ (match Builtin.Slice.sliceAdjust none none (-1) (items.size:Int)with|(lo,hi)=>pure (lo,(-1:Int),Builtin.Slice.slicePlaces lo hi (-1))) _ _ s
  have e1:Builtin.Slice.sliceAdjust none none (-1) (items.size:Int)=((items.size:Int)-1,-1):=by
   unfold Builtin.Slice.sliceAdjust
   simp
  rw[e1]
  have e2:Builtin.Slice.slicePlaces ((items.size:Int)-1) (-1) (-1)=items.size:=by
   unfold Builtin.Slice.slicePlaces
   rw[if_neg (by omega)]
   split
   ·rw[Int.neg_neg,G8];omega
   ·omega
  show wpAny _ _ (pure ((items.size:Int)-1,(-1:Int),Builtin.Slice.slicePlaces ((items.size:Int)-1) (-1) (-1))) _ _ s
  rw[e2]
  exact wpAny_pure hq
 refine wpAny_bind (app ?_)
 show wpAny _ _ (if((((items.size:Int)-1)==0&&(-1:Int)==1&&items.size==items.size))=true then _ else _) _ _ s
 rw[if_neg (by simp),uf]
 first
  | exact wpAny_bind (m:=Builtin.Tuple.tupleExact _) (wpAny_newObj_type (wpAny_pure ⟨_,rfl,wpAny_pure h⟩) htake)
  | exact wpAny_bind (m:=Builtin.Tuple.tupleExact _) (wpAny_newObj_type (wpAny_bind (wpAny_pure (wpAny_pure ⟨_,rfl,wpAny_pure h⟩))) htake)
  | exact wpAny_bind (wpAny_bind (m:=Builtin.Tuple.tupleExact _) (wpAny_newObj_type (wpAny_pure (wpAny_pure ⟨_,rfl,wpAny_pure h⟩)) htake))
  | exact wpAny_bind (wpAny_bind (m:=Builtin.Tuple.tupleExact _) (wpAny_newObj_type (wpAny_pure ⟨_,rfl,wpAny_pure h⟩) htake))
def uw (K:yF)(te:TE):TE:=λZ H Q=>te Z H λx H1=>∃a xs,x=.ref a/\SqT K H1 a xs/\∀p,H1 p=none->Q (.ref p) (upd H1 p (.tup xs.reverse))
theorem vF {e:Expr}{te:TE}{j:Nat}{p1 p2 p3 pos:Pos}(he:PE X e te):PE X (.Subscript e (.Slice none none (some (.UnaryOp .USub (.Constant (.int 1) j p1) p2)) p3) pos) (uw X.K te):=by
 intro pins s Z H Q I h
 refine Subscript_ (thn (he pins s Z H _ I h) λv s1 ⟨x,H1,I1,r1,q1⟩=>?_)
 obtain⟨a,xs,rfl,hq,q⟩:=q1
 cases r1
 refine wpAny_Slice ?_
 rw[evalPart_none]
 refine wpAny_pure (wpAny_pure ?_)
 rw[evalPart_some]
 refine thn (BP Av sA pins s1 Z H1 (λx H2=>x=.int (-1)/\H2=H1) I1 ⟨1,rfl,rfl,rfl⟩) λvu s2 ⟨y,H2,I2,r2,e1,e2⟩=>?_
 subst e1 e2
 obtain⟨tt,rfl⟩:=r2
 have I3:Inv X pins Z H2 {s2 with heap:=s2.heap.push {cls:=.type "slice",data:=.fields #[.none,.none,.int (-1) tt]}}:=I2.kept (t':=s2.toks) λb ob q=>Heap.get?_push_of_some _ q
 obtain⟨its,r,ht,hz⟩:=I3.tuple hq
 show wpAny (model X.prog X.w) X.A (subscriptTail e (.Slice none none (some (.UnaryOp .USub (.Constant (.int 1) j p1) p2)) p3) (.ref a) (.ref s2.heap.objs.size)) (EP X pins Z Q) X.xe {s2 with heap:=s2.heap.push {cls:=.type "slice",data:=.fields #[.none,.none,.int (-1) tt]}}
 refine tail_any (ops:=[.ref a,.ref s2.heap.objs.size]) ht.typeIs Ej.lookup (gP (tt:=tt) ht (Heap.IsSliceOf.new ..) ?_ (by rw[DC,←r.length];exact hz)) (by with_unfolding_all rfl)
 refine⟨.ref _,_,I3.laid (t':=s2.toks) (o:=.tup xs.reverse) (λb ob q=>Heap.get?_push_of_some _ q) (DK _) ?_,rfl,q _ (I3.hok.fresh (DK _))⟩
 exact⟨by rw[Gv];exact hz,its.reverse,r.reverse,IsTupN.new _ _⟩
theorem nY {A:Around}{bs:List Bool}:TruthOf X.prog X.w A (λi v=>(bs.map Value.bool)[i]?=some v) (λi=>bs.getD i false):=by
 intro i v s Q E hv hq
 rw[DG]at hv
 cases q:bs[i]? with
 | none=>rw[q]at hv;cases hv
 | some b=>
  rw[q]at hv
  cases hv
  have e:bs.getD i false=b:=by rw[D4,q];rfl
  simp only[e]at hq
  exact wpAny_truthy_bool hq
theorem CP {bs:List Bool}:∀{us:List Value},Vals (bs.map V.bl) us->us=bs.map Value.bool:=by
 induction bs with
 | nil=>intro us r;rw[Fa]at r;cases r;rfl
 | cons b bs ih=>
  intro us r
  rw[DJ]at r
  cases r with
  | cons r1 r2=>rw[ih r2,DJ];cases r1;rfl
theorem range_getD (bs:List Bool):(Ee bs.length).all (λi=>bs.getD i false)=bs.all id:=by
 have:(Ee bs.length).map (λi=>bs.getD i false)=bs:=PyProof.Rows.range_getD bs false
 conv=>rhs;rw[←this]
 rw[Ha]
 rfl
theorem re (hc:X.calm=true):CallR X (.builtin "all") (λxs H Q=>∃(a:Addr) (bs:List Bool),xs=[.ref a]/\SqL X.K H a (bs.map V.bl)/\Q (.bl (bs.all id)) H):=by
 intro pins s Z H xs us Q I rv h
 obtain⟨a,bs,rfl,hq,q⟩:=h
 obtain⟨u,rfl,ru⟩:=hV rv
 cases ru
 obtain⟨its,r,p,hz⟩:=I.list hq
 have e:=CP r
 subst e
 have hne:a≠s.heap.objs.size:=by
  obtain⟨o,n,e,_⟩:=p
  exact DV (Heap.lt_size e)
 refine call_all_walk (wpAny_pyIter_list p.isList ?_)
 refine⟨s.heap.objs.size,_,_,_,_,_,λi=>bs.getD i false,rfl,Walks.list (A:=X.A.in1) (show X.A.in1.handled=none from I.ok.hd hc) s.heap.objs.size a hne (bs.map Value.bool).toArray,⟨⟨_,Heap.get?_push_size _ rfl,rfl,rfl⟩,?_⟩,?_,λh' tk hk=>?_⟩
 ·exact p.isList.at λo e=>Heap.get?_push_of_some _ e
 ·intro i v s Q E hv hq
  exact nY (bs:=bs) i v s Q E (by simpa using hv) hq
 ·have I1:Inv X pins Z H {s with heap:=h',toks:=tk}:=I.kept λb o e=>hk b o (λz=>absurd (ysM z) (DV (Heap.lt_size e))) (Heap.get?_push_of_some _ e)
  refine⟨.bl _,H,I1,rfl,?_⟩
  have:(Ee (bs.map Value.bool).toArray.size).all (λi=>bs.getD i false)=bs.all id:=by rw[DC,DH];exact range_getD bs
  rw[this]
  exact q
def rF (to:TE)(tl th:TO):TG:=λv Z H Q=>to Z H λo H1=>tl Z H1 λl H2=>th Z H2 λu H3=>∃p b xs ys a c,o=.ref p/\v=.ref b/\l=some a/\u=some c/\H3 p=some (.lst xs)/\H3 b=some (.lst ys)/\p≠b/\0<=a/\a<=c/\c<=xs.length/\xs.length+ys.length<=sizeLine ∧
 Q Z (upd H3 p (.lst (xs.take a.toNat++ys++xs.drop c.toNat)))
theorem sD {o:Expr}{lo hi:Option Expr}{to:TE}{tl th:TO}{p2 pos:Pos}(ho:PE X o to)(hl:PO X lo tl)(hu:PO X hi th)
  (ha:∀v,assign (.Subscript o (.Slice lo hi none p2) pos) X.env v=(do
   let ov ←holding [v] (eval o X.env)
   let iv ←holding [v,ov] (eval (.Slice lo hi none p2) X.env)
   standAt pos
   holding [v,ov,iv] (setItem ov iv v)
   release [iv,v,ov] []):=by intro _;rfl):PG X (.Subscript o (.Slice lo hi none p2) pos) (rF to tl th):=by
 intro pins s Z H v u Q I r h
 rw[ha]
 refine wpAny_bind (wpAny_holding (thn (ho pins s Z H _ I h) λov s1 ⟨x,H1,I1,r1,q1⟩=>?_))
 refine wpAny_bind (wpAny_holding (wpAny_Slice (thn (hl pins s1 Z H1 _ I1 q1) λvl s2 ⟨l,H2,I2,pl,q2⟩=>thn (hu pins s2 Z H2 _ I2 q2) λvu s3 ⟨w',H3,I3,pu,q3⟩=>?_)))
 rw[evalPart_none]
 refine wpAny_pure ?_
 obtain⟨p,b,xs,ys,a,c,rfl,rfl,rfl,rfl,hp,hb,hne,h0,hac,hc,hz,q⟩:=q3
 have I4:Inv X pins Z H3 {s3 with heap:=s3.heap.push {cls:=.type "slice",data:=.fields #[vl,vu,.none]}}:=I3.kept (t':=s3.toks) λb ob q=>Heap.get?_push_of_some _ q
 cases r1
 cases r
 refine wpAny_bind (wpAny_standAt (wpAny_bind (wpAny_holding ?_)))
 cases pl with
 | int _ t1=>
  cases pu with
  | int _ t2=>
   exact qH (sl:=s3.heap.objs.size) I4 hp hb hne (Heap.IsSliceOf.new ..) ⟨t1,rfl⟩ ⟨t2,rfl⟩ h0 hac hc hz λs' I'=>wpAny_release ⟨Z,_,I',q⟩
end
def Has (P:Program)(w:World)(K:yF)(mg:Str->Option Value)(base:Heap)(k:Nat)(name:Str)(ps:List Str)(sp:Sp):Prop:=
 ∃(f:Addr) (fd:FuncData),mg name=some (.ref f)/\EY K (.ref f)=true/\Binds K fd ps []/\FnOk P w K mg base CX0 k f fd ps sp/\∃oc od osl,K.lookup f=some ⟨oc,od,.func fd,osl⟩
def Def (K:yF)(mg:Str->Option Value)(name:Str)(st:Stmt)(ps:List Str):Prop:=
 ∃(f:Addr) (fd:FuncData),mg name=some (.ref f)/\Fun K name name st f fd/\Binds K fd ps []
theorem Def.has {P:Program}{w:World}{K:yF}{mg:Str->Option Value}{base:Heap}{k:Nat}{name:Str}{st:Stmt}{N ps:List Str}{sp:Sp}(d:Def K mg name st ps)(S:FnScope N ps (aj st))(len:∀vs H Q E,sp vs H Q E->vs.length=ps.length)
  (hbody:∀(f:Addr) (cdv:Value) (A:Around) (outer:List Env) (s:Shared) (H:Hp) (vs:List V) (Q:VK) (E:XK),Room k (A.deeper (envOfC name (aj st) s.heap.objs.size f cdv))->sp vs H Q E →
   ∃t,PSs (jW CX0 P w K mg base N name (aj st) f cdv A outer s H E).nox (br st) t/\t {nx:=λ_ H'=>Q .non H',rt:=Q} (bJ N vs) H):Has P w K mg base (k+1) name ps sp:=by
 obtain⟨f,fd,h1,F,b⟩:=d
 obtain⟨oc,od,kV,doc,pm,an,cdv,ct,osl,e,lk,hcd⟩:=F.ex
 exact⟨f,fd,h1,F.kp,b,F.ok S len (hbody f),oc,od,osl,lk⟩
theorem rR {P:Program}{w:World}{K:yF}{mg:Str->Option Value}{fa:Addr}{name:Str}{st:Stmt}{x:Str}{k:Nat}{sp:Sp}(hfa:mg name=some (.ref fa))(d:Def K mg name st [x])
  (hb:∀(kV doc pm:Value) (an:Option Addr) (cdv ct:Value) (s:Shared) (v:Value),BindsTo s (EL name name (da st) (br st) (aj st) .none kV doc pm an cdv ct) ⟨[v],[]⟩ [(x,v)])
  (H:∀base:Heap,K.In base->base.Ns mainGlobals mg->Has P w K mg base k name [x] sp) :
  ∃fd:FuncData,(∀(s:Shared) (v:Value),BindsTo s fd ⟨[v],[]⟩ [(x,v)])/\∀base:Heap,K.In base->base.Ns mainGlobals mg->FnOk P w K mg base CX0 k fa fd [x] sp:=by
 obtain⟨f,fd,h1,F,b⟩:=d
 rw[hfa]at h1
 cases h1
 obtain⟨oc,od,kV,doc,pm,an,cdv,ct,osl,e,lk,hcd⟩:=F.ex
 refine⟨fd,λs v=>by rw[e];exact hb _ _ _ _ _ _ s v,λbase kb nb=>?_⟩
 obtain⟨f',fd',g1,_,_,g4,oc',od',osl',lk'⟩:=H base kb nb
 rw[hfa]at g1
 cases g1
 rw[lk]at lk'
 cases lk'
 exact g4
section
variable  {X:Cx}{x:Str}{e:Expr}{es:List Expr}{p pos:Pos}{k:Nat}{ps:List Str}{sp:Sp}{t:TA}
theorem BM (h:Has X.prog X.w X.K X.mg X.base k x ps sp)(hr:Room k X.A)(hg:Gl X x)(ha:PA X (e::es) t)(hdb:(x==("__debug__" : Str))=false:=by decide)
  (he:starEach (e::es) X.env=(false,eval e X.env)::starEach es X.env:=by rfl) (hpl:(backTo pos (starEach es X.env)).any (·.1)=false:=by rfl) :
  PE X (.Call (.Name x p) (e::es) [] pos) (kM sp [] E0 t):=by
 obtain⟨f,fd,h1,h2,h3,h4,_⟩:=h
 exact vB h4 hr hg h1 h2 h3 .nil BJ ha hdb he hpl
end
section
variable  {X:Cx}
def xA (K:yF):R2:=λx y H Q=>rI0 (λi j=>.int (i+j)) x y H Q∨((∃i j,x=.str i/\y=.str j/\i.length+j.length<=sizeLine/\Q (.str (i++j)) H)∨(Ck x y H Q∨xC K x y H Q))
theorem op_addX:OpR X (binaryOp .Add) (xA X.K):=op_add.or (op_add_str.or (op_cat.or vt))
def xE (K:yF):R2:=λx y H Q=>rI CMul (λi j=>.int (i*j)) x y H Q∨((∃z n,x=.str z/\y=.int n/\1<=n/\n<=1000/\z.length<=1000/\Q (.str (oL (DE n.toNat (sL z)).flatten)) H)∨(Cs x y H Q∨xG K x y H Q))
theorem op_mulX:OpR X (binaryOp .Mult) (xE X.K):=op_mul.or (op_mulS.or (op_rep.or vy))
def zY (K:yF):R2:=λx y H Q=>rEq x y H Q∨(Cl K x y H Q∨Cm K x y H Q)
theorem yI (hu:X.A.units+64<cLine):OpR X (compareOp .Eq) (zY X.K):=op_eq.or ((yG hu).or (yH hu))
def z9 (K:yF):R2:=λx y H Q=>rNe x y H Q∨(Cq K x y H Q∨Cr K x y H Q)
theorem yP (hu:X.A.units+64<cLine):OpR X (compareOp .NotEq) (z9 X.K):=op_ne.or ((yN hu).or (yO hu))
def zZ (K:yF):R2:=λx y H Q=>(∃i j,x=.str i/\y=.str j/\Q (.bl (!(Builtin.Str.occurrences j i 0 j.length 1).isEmpty)) H)∨(rIn K false x y H Q∨wr K false x y H Q)
theorem yK (hu:X.A.units+64<cLine):OpR X (compareOp .In) (zZ X.K):=op_in_str.or (op_in_seq.or (yJ hu))
def lA (K:yF):R2:=λx y H Q=>(∃i j,x=.str i/\y=.str j/\Q (.bl (!(!(Builtin.Str.occurrences j i 0 j.length 1).isEmpty))) H)∨(rIn K true x y H Q∨wr K true x y H Q)
theorem qa (hu:X.A.units+64<cLine):OpR X (compareOp .NotIn) (lA X.K):=op_notIn_str.or (op_notIn_seq.or (p9 hu))
theorem Dv:SlR X (rSl X.K):=sl_tup.or (sl_list.or Ap)
def tG (K:yF):List V->Hp->VK->Prop:=λxs H Q=>(∃p ys,xs=[.ref p]/\(SqL K H p ys∨SqT K H p ys)/\Q (.int ys.length) H)∨(∃z,xs=[.str z]/\z.length<=sizeLine/\Q (.int z.length) H)
theorem pA:CallR X (.builtin "len") (tG X.K):=CallR.or kZ k6
theorem ug (n:String):RelV (.ty n) (.type n):=rfl
end
section
variable  {Z:St}{H:Hp}{Q:VK}{D:Ends}{K:yF}
end
noncomputable def Its (z:Str):It:=⟨λi _=>i<z.cps.size,λi H y H'=>H'=H/\∃c,z.cps[i]?=some c/\y=.str ⟨#[c]⟩,λi _=>z.cps.size<=i⟩
def Ba (te:TE):TI:=λZ H R=>te Z H λx H1=>∃z:Str,x=.str z/\R (Its z) H1
theorem vL {X:Cx}{tg e:Expr}{te:TE}(he:PE X e te):PI X tg e (Ba te):=zp he
theorem iR {N:List Str}(h:decide N.Nodup=true):N.Nodup:=of_decide_eq_true h
section
variable  {X:Cx}{K:yF}
theorem Dk (h:X.K=K):IxR X (rIx K):=h▸yn
def tJ (K:yF):List V->Hp->VK->Prop:=λxs H Q=>∃p ys,xs=[.ref p]/\((SqL K H p ys/\∀l,H l=none->Q (.ref l) (upd H l (.tup ys)))∨(SqT K H p ys/\Q (.ref p) H))
def tH (K:yF):List V->Hp->VK->Prop:=λxs H Q=>∃p ys,xs=[.ref p]/\(SqL K H p ys∨SqT K H p ys)/\∀l,H l=none->Q (.ref l) (upd H l (.lst ys))
def Cj (K:yF):List V->Hp->VK->Prop:=λxs H Q=>∃(a:Addr) (bs:List Bool),xs=[.ref a]/\SqL K H a (bs.map V.bl)/\Q (.bl (bs.all id)) H
def xD (K:yF):V->List V->Hp->VK->Prop:=λx vs H Q=>∃z a zs,x=.str z/\vs=[.ref a]/\SqL K H a (zs.map V.str)/\(zs.map (·.length)).sum+zs.length*z.length<=16777216/\Q (.str (Txt.join z zs)) H
theorem Dt {e:Expr}{te:TE}{j:Nat}{p1 p2 p3 pos:Pos}(h:X.K=K)(he:PE X e te):PE X (.Subscript e (.Slice none none (some (.UnaryOp .USub (.Constant (.int 1) j p1) p2)) p3) pos) (uw K te):=h▸vF he
theorem tgK {es:List Expr}{k:Nat}{t:TGs}{n:Nat}{pos:Pos}(h:X.K=K)(hc:X.calm=true)(hs:PGs X es t)
  (hn:(assignEach es X.env).length=n:=by rfl) (hst:(assignEach es X.env).findIdx? (·.1)=none:=by rfl):PG X (.Tuple es k pos) (uZ K n t):=h▸zn hc hs hn hst
theorem ilK {tg l:Expr}{tl:TE}(h:X.K=K)(hl:PE X l tl):PI X tg l (oQ K tl):=h▸vK hl
theorem itK {tg l:Expr}{tl:TE}(h:X.K=K)(hl:PE X l tl):PI X tg l (u6 K tl):=h▸zq hl
def CM (K:yF)(ta:TE):TT:=λZ H Q=>ta Z H λx H'=>∃k,uQ K x H' k/\Q k H'
theorem Dw {a:Expr}{ta:TE}(h:X.K=K)(ha:PE X a ta)(he:∀whole,isTrue a X.env whole=(do let v ←whole;standAt a.pos;holding [v] (truthy v))):PT X a (CM K ta):=h▸tj ha he
variable  {o e:Expr}{es:List Expr}{to:TE}{t:TA}{name:Str}{apos cpos:Pos}{T id:String}{r:V->List V->Hp->VK->Prop}
theorem C7 (h:X.K=K)(pa:PlainAttrs T)(slot:Slot T name id)(hty:typeOf (.builtin id)=pure (.type "method_descriptor"))(hm:MtR X id r)(ho:PE X o to)
  (hbase:attributeBase o name X.env (eval o X.env)=eval o X.env:=by rfl) (hline:(apos.endLine==cpos.line)=true:=by rfl):PE X (.Call (.Attribute o name apos) [] [] cpos) (Aq K T r to):=h▸zf pa slot hty hm ho hbase hline
theorem bmK (h:X.K=K)(pa:PlainAttrs T)(slot:Slot T name id)(hty:typeOf (.builtin id)=pure (.type "method_descriptor"))(hm:MtR X id r)(ho:PE X o to)(ha:PA X (e::es) t)
  (hbase:attributeBase o name X.env (eval o X.env)=eval o X.env:=by rfl)
  (hfew:((backTo cpos (starEach (e::es) X.env)).all (λx=>!x.1)&&(backToKw cpos (keywordEach [] X.env)).all (λx=>x.1.isSome)
   && decide ((e::es).length+([]:List Keyword).length+(if([]:List Keyword).isEmpty then 0 else 1)<30))=true:=by rfl)
  (hline:(apos.endLine==cpos.line)=true:=by rfl) (hs:starEach (e::es) X.env=(false,eval e X.env)::starEach es X.env:=by rfl) (hplain:(backTo cpos (starEach es X.env)).any (·.1)=false:=by rfl) :
  PE X (.Call (.Attribute o name apos) (e::es) [] cpos) (tBM K T r to t):=h▸BL pa slot hty hm ho ha hbase hfew hline hs hplain
end
theorem Same.put {H H1:Hp}{l:Addr}{o:HO}(s:Same H H1)(hl:H l=none):Same H (L2.upd H1 l o):=λb u h=>by rw[L2.upd_ne (bc h hl)];exact s b u h
structure Bi (mg:Str->Option Value):Prop where
 b_len:mg "len" = none
 b_all:mg "all" = none
 b_any:mg "any" = none
 b_tuple:mg "tuple" = none
 b_list:mg "list" = none
 b_range:mg "range" = none
 b_min:mg "min" = none
 b_max:mg "max" = none
 b_int:mg "int" = none
 b_bool:mg "bool" = none
 b_isinstance:mg "isinstance" = none
 b_str:mg "str" = none
 b_sorted:mg "sorted" = none
 b_sum:mg "sum" = none
 b_zip:mg "zip" = none
 b_enumerate:mg "enumerate" = none
 b_dict:mg "dict" = none
 b_abs:mg "abs" = none
 b_repr:mg "repr" = none
 b_reversed:mg "reversed" = none
 b_set:mg "set" = none
noncomputable abbrev LET:Str:="abcdefghijklmnopqrstuvwxyz"
theorem kS:(sL LET).length=26:=by decide +kernel
theorem LET_len':LET.length=26:=by decide +kernel
noncomputable def rd:D->Option D
 | .tup [.str x,nm,row]=>if x=("at" : Str)then some (.tup [nm,row])else none
 | _=>none
def xP (i j k:Nat)(ta:TA):TS:=λD Z H=>ta Z H λvs H1=>∃u v w,vs=[u,v,w]/\D.nx (((Z.set i (some u)).set j (some v)).set k (some w)) H1
theorem vT {X:Cx}{pos:Pos}{i j k:Nat}{x y z:Str}{a b c:Expr}{ta:TA}{px py pz pt:Pos}{kt k2 pt2}(hc:X.calm=true)(hN:X.N.Nodup)(hi:X.N[i]?=some x)(hj:X.N[j]?=some y)(hk:X.N[k]?=some z)(hij:i≠j)(hik:i≠k)(hjk:j≠k)
  (hx:X.env.scope.names.lookup x=some .local) (hy:X.env.scope.names.lookup y=some .local) (hz:X.env.scope.names.lookup z=some .local) (ha:PA X [a,b,c] ta)
  (hw:swappedStores [.Tuple [.Name x px,.Name y py,.Name z pz] kt pt] (.Tuple [a,b,c] k2 pt2) X.env=pure (some [x,y,z]))
  (hs:swapsWithSole [.Tuple [.Name x px,.Name y py,.Name z pz] kt pt] (.Tuple [a,b,c] k2 pt2) pos.line X.env=pure false:=by rfl) :
  PS X (.Assign [.Tuple [.Name x px,.Name y py,.Name z pz] kt pt] (.Tuple [a,b,c] k2 pt2) pos) (xP i j k ta):=by
 intro pins s Z H D I h
 rw[exec_Assign_arm]
 refine wpAny_bind (wpAny_standAt ?_)
 rw[hs]
 refine wpAny_bind (wpAny_pure ?_)
 rw[if_neg (by decide)]
 refine wpAny_bind (Tuple_ (thn (ha _ pins s Z H _ I h) λus s1 ⟨vs,H1,I1,r1,q1⟩=>?_))
 obtain⟨u,v,w,e1,q1⟩:=q1
 subst e1
 obtain⟨u1,u2,u3,rfl,ru,rv,rw'⟩:∃u1 u2 u3,us=[u1,u2,u3]/\RelV u u1/\RelV v u2/\RelV w u3:=by
  cases r1 with
  | cons p q=>
   cases q with
   | cons p' q'=>
    cases q' with
    | cons p'' q''=>
     cases q''
     exact⟨_,_,_,rfl,p,p',p''⟩
 refine wpAny_newObj_type ?_ (by show 3<=sizeLine;decide)
 have I2:Inv X pins Z H1 {s1 with heap:=s1.heap.push {cls:=.type "tuple",data:=.seq [u1,u2,u3].toArray}}:=I1.kept (t':=s1.toks) λb o e=>Heap.get?_push_of_some _ e
 rw[hw]
 refine wpAny_bind (wpAny_pure ?_)
 show wpAny (model X.prog X.w) X.A (do rule "assign.swapped-stores";let items ←unpackItems (.ref s1.heap.objs.size) 3 none;assignInOrder [λv=>bindName X.env z v,λv=>bindName X.env y v,λv=>bindName X.env x v] items.reverse;pure Flow.next) _ _ _
 refine wpAny_bind (wpAny_rule (wpAny_bind (unpackItems_tuple (items:=#[u1,u2,u3]) (I.ok.hd hc) (IsTup.new s1.heap _) λh' hx'=>?_)))
 have I3:=I2.kept (h':=h') (t':=s1.toks) λb o e=>hx' b o (DV (Heap.lt_size e)) e
 show wpAny _ _ (assignInOrder [λv=>bindName X.env z v,λv=>bindName X.env y v,λv=>bindName X.env x v] [u3,u2,u1] >>= λ_=>pure Flow.next) _ _ _
 refine wpAny_bind (assignInOrder_cons (wpAny_bindName (dJ I3 hN hk (.inl hz) rw' (λs2 I4=>?_) (.inr hz))))
 refine assignInOrder_cons (wpAny_bindName (dJ I4 hN hj (.inl hy) rv (λs3 I5=>?_) (.inr hy)))
 refine assignInOrder_cons (wpAny_bindName (dJ I5 hN hi (.inl hx) ru (λs4 I6=>assignInOrder_nil (wpAny_pure ?_)) (.inr hx)))
 have e:((Z.set k (some w)).set j (some v)).set i (some u)=((Z.set i (some u)).set j (some v)).set k (some w):=by
  rw[FO _ _ (Ne.symm hij),FO _ _ (Ne.symm hik),FO _ _ (Ne.symm hjk)]
 rw[e]at I6
 exact⟨_,H1,I6,q1⟩
def Bd (m x:Int):Prop:=0<=x/\x<m
theorem Bd.mod {m:Int}(h:0<m)(x:Int):Bd m (x % m):=⟨ER _ (by omega),Ex _ h⟩
theorem n8 (elt tg iter tg2 iter2:Expr)(ifs2:List Expr)(scope:Scope)(pos:Pos)(it acc:Value)(env:Env) :
  compTurn (.ListComp elt [⟨tg,iter,[],0⟩,⟨tg2,iter2,ifs2,0⟩] scope pos) 0 it acc env=(standAt iter.pos >>= λ_=>pyNext it >>= λr=>match r with
   | none=>pure (.done .next)
   | some v=>letOwnedTupleGo tg it v >>= λ_=>assign tg env v >>= λ_=>
    (eval iter2 env >>= λx=>standAt iter2.pos >>= λ_=>foldedSetIterable iter2 env x >>= λx=>holding [x] (pyIter x) >>= λj=>runOwn (.compStart (.ListComp elt [⟨tg,iter,[],0⟩,⟨tg2,iter2,ifs2,0⟩] scope pos) 1 j acc env) env >>= λ_=>
     again (.compLoop (.ListComp elt [⟨tg,iter,[],0⟩,⟨tg2,iter2,ifs2,0⟩] scope pos) 0 it acc env))):=by
 unfold compTurn
 rfl
theorem nZ (elt tg2 iter2:Expr)(g1:Comprehension)(ifs2:List Expr)(scope:Scope)(pos:Pos)(it acc:Value)(env:Env) :
  compTurn (.ListComp elt [g1,⟨tg2,iter2,ifs2,0⟩] scope pos) 1 it acc env=(do
   standAt iter2.pos
   match ←pyNext it with
   | none=>pure (.done .next)
   | some v=>
    letOwnedTupleGo tg2 it v
    assign tg2 env v
    let mut ok:=true
    for c in ifs2 do
     if ok then ok ←isTrue c env (eval c env)
    if ok then
     (do let _ ←call (.builtin "list.append") [acc,←eval elt env])
    again (.compLoop (.ListComp elt [g1,⟨tg2,iter2,ifs2,0⟩] scope pos) 1 it acc env)):=by rfl
theorem nw {prog:Program}{w:World}{A:Around}{R:Result->Shared->Prop}{s:Shared}{elt tg2 iter2:Expr}{g1:Comprehension}{ifs2:List Expr}{scope:Scope}{pos:Pos}{it acc:Value}{env:Env}(I:Nat->Shared->Prop)
  (turn:∀n s,I n s->wpAny (model prog w) A (pyNext it) (λr s₁=>match r with
   | none=>R (.ok .next) s₁
   | some v=>wpAny (model prog w) A (letOwnedTupleGo tg2 it v) (λ_ s₁'=>wpAny (model prog w) A (assign tg2 env v) (λ_ s₂=>
     wpAny (model prog w) A (lO ifs2 env) (λok s₃=>
      if ok=true then wpAny (model prog w) A (eval elt env) (λx s₄=>
       wpAny (model prog w) A (call (.builtin "list.append") [acc,x]) (λ_ s₅=>∃m,m<n/\I m s₅) (λ_ _=>False) s₄) (λ_ _=>False) s₃
      else∃m,m<n/\I m s₃) (λ_ _=>False) s₂) (λ_ _=>False) s₁') (λ_ _=>False) s₁) (λ_ _=>False) s)
  (n:Nat) (h:I n s):codeAny (model prog w) A (.compLoop (.ListComp elt [g1,⟨tg2,iter2,ifs2,0⟩] scope pos) 1 it acc env) R s:=by
 have never:∀{α:Type} {t:Sem α} {QQ : α->Shared->Prop} {EE:Value->Shared->Prop} {ss:Shared},wpAny (model prog w) A t QQ (λ_ _=>False) ss->wpAny (model prog w) A t QQ EE ss:=λhh=>wpAny_mono hh (λ_ _ z=>z) λ_ _ z=>z.elim
 refine codeAny_loop rfl I (λn s hI=>?_) n h
 show wpAny _ A ((compTurn (.ListComp elt [g1,⟨tg2,iter2,ifs2,0⟩] scope pos) 1 it acc env).onRaise (λx=>do noteFrame x env;theTreesLotGoes x)) _ _ s
 refine wpAny_noted ?_
 rw[nZ]
 refine wpAny_bind (wpAny_standAt (wpAny_bind (wpAny_mono (turn n s hI) (λr s₁ h₁=>?_) λ_ _ z=>z.elim)))
 cases r with
 | none=>exact wpAny_pure h₁
 | some v=>
  refine wpAny_bind (wpAny_mono h₁ (λ_ s₁' h₁'=>?_) λ_ _ z=>z.elim)
  refine wpAny_bind (wpAny_mono h₁' (λ_ s₂ h₂=>wpAny_bind (wpAny_mono h₂ (λok s₃ h₃=>?_) λ_ _ z=>z.elim)) λ_ _ z=>z.elim)
  cases ok with
  | false=>exact wpAny_pure ⟨rfl,h₃⟩
  | true=>
   exact wpAny_bind (wpAny_bind (wpAny_mono h₃ (λx s₄ h₄=>wpAny_bind (wpAny_mono h₄ (λ_ s₅ h₅=>wpAny_pure (wpAny_pure ⟨rfl,h₅⟩)) λ_ _ z=>z.elim)) λ_ _ z=>z.elim))
theorem mO {prog:Program}{w:World}{A:Around}{R:Result->Shared->Prop}{s:Shared}{elt tg2 iter2:Expr}{g1:Comprehension}{ifs2:List Expr}{scope:Scope}{pos:Pos}{it acc:Value}{env:Env}
  (h0:codeAny (model prog w) A (.compLoop (.ListComp elt [g1,⟨tg2,iter2,ifs2,0⟩] scope pos) 1 it acc env) R s)
  (h:wpAny (model prog w) A (pyIter it) (λit' s'=>codeAny (model prog w) A (.compLoop (.ListComp elt [g1,⟨tg2,iter2,ifs2,0⟩] scope pos) 1 it' acc env) R s') (notedBy (model prog w) A env λx s'=>R (.error x) s') s) :
  codeAny (model prog w) A (.compStart (.ListComp elt [g1,⟨tg2,iter2,ifs2,0⟩] scope pos) 1 it acc env) R s:=by
 refine codeAny_of_tree ?_
 show wpAny _ _ ((compStart (.ListComp elt [g1,⟨tg2,iter2,ifs2,0⟩] scope pos) 1 it acc env).onRaise (λx=>do noteFrame x env;standAt theWindowsPlace)) _ _ s
 refine wpAny_notedAt ?_
 unfold compStart
 show wpAny _ _ (ask >>= _) _ _ s
 refine wpAny_bind (wpAny_askSetting (wpAny_ite ?_))
 split
 ·first
   | exact wpAny_pure (And.intro rfl h0)
   | exact wpAny_bind (wpAny_pure (wpAny_pure (And.intro rfl h0)))
 ·refine wpAny_bind (wpAny_rule ?_)
  show wpAny _ _ (standAt iter2.pos >>= _) _ _ s
  exact wpAny_bind (wpAny_standAt (wpAny_bind (wpAny_mono h (λit' s' h'=>wpAny_pure (And.intro rfl h')) λ_ _ x=>x)))
theorem ny {prog:Program}{w:World}{A:Around}{R:Result->Shared->Prop}{s:Shared}{elt tg iter tg2 iter2:Expr}{ifs2:List Expr}{scope:Scope}{pos:Pos}{it acc:Value}{env:Env}(hs:∀x,foldedSetIterable iter2 env x=pure x)(I:Nat->Shared->Prop)
  (turn:∀n s,I n s->wpAny (model prog w) A (pyNext it) (λr s₁=>match r with
   | none=>R (.ok .next) s₁
   | some v=>wpAny (model prog w) A (letOwnedTupleGo tg it v) (λ_ s₁'=>wpAny (model prog w) A (assign tg env v) (λ_ s₂=>
     wpAny (model prog w) A (eval iter2 env) (λx s₃=>wpAny (model prog w) A (pyIter x) (λj s₄=>
      codeAny (model prog w) A (.compStart (.ListComp elt [⟨tg,iter,[],0⟩,⟨tg2,iter2,ifs2,0⟩] scope pos) 1 j acc env) (λr s₅=>match r with|.ok _=>∃m,m<n/\I m s₅|.error _=>False) s₄)
       (λ_ _=>False) s₃) (λ_ _=>False) s₂) (λ_ _=>False) s₁') (λ_ _=>False) s₁) (λ_ _=>False) s)
  (n:Nat) (h:I n s):codeAny (model prog w) A (.compLoop (.ListComp elt [⟨tg,iter,[],0⟩,⟨tg2,iter2,ifs2,0⟩] scope pos) 0 it acc env) R s:=by
 refine codeAny_loop rfl I (λn s hI=>?_) n h
 show wpAny _ A ((compTurn (.ListComp elt [⟨tg,iter,[],0⟩,⟨tg2,iter2,ifs2,0⟩] scope pos) 0 it acc env).onRaise (λx=>do noteFrame x env;theTreesLotGoes x)) _ _ s
 refine wpAny_noted ?_
 rw[n8]
 refine wpAny_bind (wpAny_standAt (wpAny_bind (wpAny_mono (turn n s hI) (λr s₁ h₁=>?_) λ_ _ z=>z.elim)))
 cases r with
 | none=>exact wpAny_pure h₁
 | some v=>
  refine wpAny_bind (wpAny_mono h₁ (λ_ s₁' h₁'=>?_) λ_ _ z=>z.elim)
  refine wpAny_bind (wpAny_mono h₁' (λ_ s₂ h₂=>?_) λ_ _ z=>z.elim)
  refine wpAny_bind (wpAny_mono h₂ (λx s₃ h₃=>wpAny_bind (wpAny_standAt (wpAny_bind (wpAny_of_eq (hs x) (wpAny_bind (wpAny_holding (wpAny_mono h₃ (λj s₄ h₄=>?_) λ_ _ z=>z.elim))))))) λ_ _ z=>z.elim)
  refine wpAny_bind (wpAny_runOwn (codeAny_mono h₄ λr s₅ h₅=>?_))
  cases r with
  | ok f=>exact wpAny_pure ⟨rfl,h₅⟩
  | error e=>exact h₅.elim
def qR (J2:It)(Zi:St)(g2:TG)(tc2:TT)(te:TE)(acc0:List V)(H3:Hp)(N:List V->Hp->Prop):Prop:=
 ∃W2:Nat->Nat->List V->Hp->Prop,(∃m,W2 0 m acc0 H3)/\∀i m acc H,W2 i m acc H->acc.length<sizeLine ∧
  ((J2.stop i H/\N acc H) ∨
  (J2.go i H/\∃N2:List V->Hp->Prop,(∀acc' H',N2 acc' H'->∃m',m'<m/\W2 (i+1) m' acc' H') ∧
   ∀x H',J2.yld i H x H'->g2 x Zi H' λZ3 H4=>tc2 Z3 H4 λb H5=>if b=true then te Z3 H5 λv H6=>N2 (acc++[v]) H6 else N2 acc H5))
def qS (J:It)(Zi:St)(g:TG)(wi2:TI)(fr2:List (Option Nat))(g2:TG)(tc2:TT)(te:TE)(H1:Hp)(Q:VK):Prop:=
 ∃W:Nat->Nat->List V->Hp->Prop,(∃m,W 0 m [] H1)/\∀i m acc H,W i m acc H->acc.length<sizeLine ∧
  ((J.stop i H/\∀d,H d=none->Q (.ref d) (upd H d (.lst acc))) ∨
  (J.go i H/\∃N:List V->Hp->Prop,(∀acc' H',N acc' H'->∃m',m'<m/\W (i+1) m' acc' H') ∧
   ∀x H',J.yld i H x H'->g x Zi H' λZ2 H2=>wi2 Z2 H2 λJ2 H3=>qR J2 (aT fr2 Z2) g2 tc2 te acc H3 N))
def uv (wi:TI)(fr:List (Option Nat))(g:TG)(wi2:TI)(fr2:List (Option Nat))(g2:TG)(tc2:TT)(te:TE):TE:=λZ H Q=>wi Z H λJ H1=>qS J (aT fr Z) g wi2 fr2 g2 tc2 te H1 Q
section
variable  {X:Cx}{elt tg iter tg2 iter2:Expr}{ifs2:List Expr}{scope:Scope}{pos:Pos}{N':List Str}{fr fr2:List (Option Nat)}{wi wi2:TI}{g g2:TG}{tc2:TT}{te:TE}
noncomputable def mS (fr fr2:List (Option Nat)):Bool:=(fr2.length==fr.length)&&(Ee fr.length).all λk=>(fr2[k]? == some (some k))||(fr2[k]? == some none&&fr[k]? == some none)
theorem pv {fr:List (Option Nat)}{Z Z5:St}(kp:Kp fr (aT fr Z) Z5):∀(k:Nat) v,(aT fr Z)[k]?=some (some v)->Z5[k]?=some (some v):=λk v e=>by
 cases q:fr[k]? with
 | none=>
  unfold aT at e
  rw[DG,q]at e
  cases e
 | some o=>
  cases o with
  | none=>
   unfold aT at e
   rw[DG,q]at e
   simp at e
  | some j=>rw[kp.2 k j q];exact e
theorem yv {Z Z8 Z5:St}(h:mS fr fr2=true)(kp8:Kp fr (aT fr Z) Z8)(kp5:Kp fr2 (aT fr2 Z8) Z5):Kp fr (aT fr Z) Z5:=by
 unfold mS at h
 rw[DD]at h
 obtain⟨h1,h2⟩:=h
 have hl:fr2.length=fr.length:=by simpa using h1
 refine⟨by rw[kp5.1,bS,bS,hl],λk j e=>?_⟩
 have hk:k<fr.length:=(DB.mp e).1
 have h3:=Et.mp h2 k (EN.mpr hk)
 rw[e]at h3
 have h4:fr2[k]?=some (some k):=by
  rw[FC]at h3
  rcases h3 with z|z
  ·simpa using z
  ·rw[DD]at z
   have z2:=z.2
   simp at z2
 rw[kp5.2 k k h4,←kp8.2 k j e]
 have hlen:k<Z8.length:=by rw[kp8.1,bS];exact hk
 unfold aT
 rw[DG,h4]
 show some (Z8.getD k none)=_
 rw[D4,D6 hlen]
 rfl
theorem lW (hc:X.calm=true)(B:Blk X.env.scope scope X.N N' fr)(hsub:mS fr fr2=true)
  (hg:∀b,PG (cxB X scope N' b) tg g) (hgk:dy fr g) (hi2:∀b,PI (cxB X scope N' b) tg2 iter2 wi2) (hg2:∀b,PG (cxB X scope N' b) tg2 g2) (hgk2:dy fr2 g2) (ht:∀b,PTs (cxB X scope N' b) ifs2 tc2) (he:∀b,PE (cxB X scope N' b) elt te)
  (hs2:∀b x,foldedSetIterable iter2 (cxB X scope N' b).env x=pure x)
  {pins:List (Addr×Obj)} {Z:St} {Q:VK} {itv:Value} {s2:Shared} {E:Value->Shared->Prop} {RR:Value->Addr->Result->Shared->Prop}
  (h2:PIE X pins Z tg (λJ H1=>qS J (aT fr Z) g wi2 fr2 g2 tc2 te H1 Q) itv s2)
  (hRR:∀(d C:Addr) (v:V) (H':Hp) (s':Shared) m',Inv X pins Z H' s'->v=.ref d->Q v H'->s'.heap.Ns C m'->eg X pins H' C->C≠d->RR (.ref d) C (.ok .next) s') :
  wpAny (model X.prog X.w) X.A (newList []) (λacc s₃=>wpAny (model X.prog X.w) X.A (newFunctionEnv scope X.env.globals (bB X.env scope.names []) [] X.env.qual none .none (some X.env)) (λcenv s₄=>
   codeAny (model X.prog X.w) X.A (.compStart (.ListComp elt [⟨tg,iter,[],0⟩,⟨tg2,iter2,ifs2,0⟩] scope pos) 0 itv acc {cenv with scope:=relabel scope X.env}) (RR acc cenv.locals) s₄) E s₃) E s2:=by
 obtain⟨it,fp,tn,J,H2,rfl,I2,T,st2,f2,W,⟨m0,w0⟩,turn⟩:=h2
 refine wpAny_newObj_type ?_
 generalize hd:s2.heap.objs.size=d
 have I3:Inv X pins Z H2 {s2 with heap:=s2.heap.push {cls:=.type "list",dict:=none,data:=.seq ([]:List Value).toArray}}:=I2.kept (t':=s2.toks) λb o e=>Heap.get?_push_of_some _ e
 have fd:eg X pins H2 d:=I2.fpOk (by rw[hd];exact DK _) (I2.hok.fresh (by rw[hd];exact DK _))
 have od:(s2.heap.push {cls:=.type "list",dict:=none,data:=.seq ([]:List Value).toArray}).get? d=some {cls:=.type "list",dict:=none,data:=.seq ([]:List Value).toArray}:=by rw[←hd];exact Heap.get?_push_size _ rfl
 have st3:tn 0 (s2.heap.push {cls:=.type "list",dict:=none,data:=.seq ([]:List Value).toArray}):=T.keep _ _ _ st2 λb _ o e=>Heap.get?_push_of_some _ e
 have ne_d:∀b∈fp,b≠d:=λb hb=>by
  obtain⟨o,e,_⟩:=T.obj _ _ st2 b hb
  rw[←hd]
  exact DV (Heap.lt_size e)
 have hd0:X.s₀.heap.objs.size<=d:=by rw[←hd];exact I2.sz
 generalize hs3:({s2 with heap:=s2.heap.push {cls:=.type "list",dict:=none,data:=.seq ([]:List Value).toArray}}:Shared)=s3 at I3
 have od3:s3.heap.get? d=some {cls:=.type "list",dict:=none,data:=.seq ([]:List Value).toArray}:=by rw[←hs3];exact od
 have st3':tn 0 s3.heap:=by rw[←hs3];exact st3
 have hex:∀b∈d::fp,eg X pins H2 b/\∃o,s3.heap.get? b=some o:=λb hb=>by
  rcases ycM hb with e|hb
  ·subst e;exact⟨fd,_,od3⟩
  ·obtain⟨o,e,_⟩:=T.obj _ _ st3' b hb
   exact⟨f2 b hb,o,e⟩
 refine fU λh4 hns hk hcl=>?_
 have J0:=I3.enter (ex:=d::fp) (xe:=λ_ _=>False) B hex hns hk hcl
 generalize hCs:cellsFrom (s3.heap.objs.size+1) scope.names (bB X.env scope.names [])=cells at J0
 have hCd:s3.heap.objs.size≠d:=λz=>by have:=Heap.lt_size od3;rw[z]at this;exact ED _ this
 let bk:Bk:=⟨cells,s3.heap.objs.size,s3,H2,d::fp,X.pn++pins⟩
 have J0':Inv (cxB X scope N' bk) [] (aT fr Z) H2 {s3 with heap:=h4}:=J0
 show codeAny (model X.prog X.w) X.A (.compStart (.ListComp elt [⟨tg,iter,[],0⟩,⟨tg2,iter2,ifs2,0⟩] scope pos) 0 (.ref it) (.ref d) (cxB X scope N' bk).env) (RR (.ref d) s3.heap.objs.size) {s3 with heap:=h4}
 have ne_pn:∀p∈X.pn++pins,p.1≠d/\∀b∈fp,p.1≠b:=λp hp=>⟨fd.2.2.2.2.2 p hp,λb hb=>(f2 b hb).2.2.2.2.2 p hp⟩
 have never:∀{α:Type} {t:Sem α} {QQ : α->Shared->Prop} {EE:Value->Shared->Prop} {ss:Shared},wpAny (model X.prog X.w) X.A t QQ (λ_ _=>False) ss->wpAny (model X.prog X.w) X.A t QQ EE ss:=λhh=>wpAny_mono hh (λ_ _ z=>z) λ_ _ z=>z.elim
 have fpk:∀{Hx:Hp} {o:Obj},(∀b∈fp,Hx b=none)->∀b∈fp,eg (cxB X scope N' bk) [(d,o)] Hx b:=λ{Hx o} hn b hb=>by
  have hb':b∈d::fp:=ymC _ hb
  refine⟨hn b hb,(J0'.ok.exf b hb').1,J0'.ok.exfs b hb',.inl hb',λx c e=>(J0'.ok.exf b hb').2 x c e,λp hp=>?_⟩
  have hp':p∈(X.pn++pins)++[(d,o)]:=hp
  rcases yaM hp' with z|z
  ·exact(ne_pn p z).2 b hb
  ·have:p=(d,o):=by simpa using z
   rw[this]
   exact Ne.symm (ne_d b hb)
 have dC:=(J0'.ok.exf d ymS).1
 have dS:=J0'.ok.exfs d ymS
 have loop:∀s4:Shared,Inv (cxB X scope N' bk) [] (aT fr Z) H2 s4->tn 0 s4.heap->s4.heap.PlainList d #[] →
   codeAny (model X.prog X.w) X.A (.compLoop (.ListComp elt [⟨tg,iter,[],0⟩,⟨tg2,iter2,ifs2,0⟩] scope pos) 0 (.ref it) (.ref d) (cxB X scope N' bk).env) (RR (.ref d) s3.heap.objs.size) s4:=by
  intro s4 J4 st4 pl4
  refine ny (hs2 bk) (λn s'=>∃i acc its H' Z',Inv (cxB X scope N' bk) [] Z' H' s'/\Kp fr (aT fr Z) Z'/\tn i s'.heap/\(∀b∈fp,H' b=none)/\H' d=none/\s'.heap.PlainList d (F6 its)/\Vals acc its/\W i n acc H') ?_ m0
   ⟨0,[],[],H2,aT fr Z,J4,Kp.refl _ _,st4,λb hb=>(f2 b hb).1,fd.1,pl4,.nil,w0⟩
  rintro n s5 ⟨i,acc,its,H5,Z5,J5,kp5,st5,fr5,hd5,⟨n5,pl5⟩,va5,w5⟩
  obtain⟨hz,cs⟩:=turn i n acc H5 w5
  have J5p:Inv (cxB X scope N' bk) [(d,{cls:=.type "list",data:=.seq its.toArray n5})] Z5 H5 s5:=J5.pins_of λp hp=>by
   have:p=(d,{cls:=.type "list",data:=.seq its.toArray n5}):=by simpa using hp
   subst this
   exact⟨pl5,hd5,dC,dS,λv z=>by cases z⟩
  rcases cs with⟨stop,q⟩|⟨go,N,hN,step⟩
  ·refine never (thn (T.done (cxB X scope N' bk) rfl rfl rfl hc i _ s5 Z5 H5 _ J5p (fpk fr5) st5 stop) λr s6 ⟨hr,J6⟩=>?_)
   subst hr
   obtain⟨e6,n6,_⟩:=J6.pin (d,{cls:=.type "list",data:=.seq its.toArray n5}) (yaR _ (by simp))
   have I6:Inv X pins Z H5 s6:=I3.leave (λb hb=>(hex b hb).1) J6
   have I6t:Inv X pins Z (upd H5 d (.lst acc)) s6:=I6.track ⟨hd5,fd.2⟩ (.inr hd0) hd0 ⟨by omega,its,n5,va5,e6⟩
   obtain⟨m6,hn6,_⟩:=J6.loc
   refine hRR d s3.heap.objs.size (.ref d) _ s6 m6 I6t rfl (q d hd5) hn6 ?_ hCd
   exact I3.fpOk (DK _) (by rw[upd_ne hCd];exact J6.free)
  ·refine never (thn (T.item (cxB X scope N' bk) rfl rfl rfl hc i _ s5 Z5 H5 _ J5p (fpk fr5) st5 go) λr s6 ⟨u,hr,h6⟩=>?_)
   subst hr
   refine never (thn h6 λ_ s7 ⟨x,H7,J7,r7,y7,st7,fr7⟩=>?_)
   have J7w:Inv (cxB X scope N' bk) [(d,{cls:=.type "list",data:=.seq its.toArray n5})] (aT fr Z) H7 s7:=J7.weak kp5.1.symm (pv kp5)
   have J7p:=J7w.pinned (fpk fr7) (T.obj _ _ st7)
   have G:=hgk x (aT fr Z) H7 _ (λZ2 H2=>(wi2 Z2 H2 λJ2 H3=>qR J2 (aT fr2 Z2) g2 tc2 te acc H3 N)/\Kp fr (aT fr Z) Z2) (λZ' H' a b=>⟨a,b⟩) (step x H7 y7)
   refine never (thn (hg bk _ s7 (aT fr Z) H7 x u _ J7p r7 G) λ_ s8 ⟨Z8,H8,J8,q8,kp8⟩=>?_)
   refine never (thn (hi2 bk _ s8 Z8 H8 _ J8 q8) λv9 s9 h9=>thn h9 λj s10 h10=>?_)
   obtain⟨it2,fp2,tn2,J2,H10,rfl,J10,T2,st10,f10,W2,⟨m2,w2⟩,turn2⟩:=h10
   have keep1:∀{pp:List (Addr×Obj)} {Zx:St} {Hx:Hp} {sx:Shared},(∀p∈bu fp s7.heap,p∈pp)->Inv (cxB X scope N' bk) pp Zx Hx sx->(∀b∈fp,∀o,s7.heap.get? b=some o->sx.heap.get? b=some o)/\(∀b∈fp,Hx b=none):=λ{pp Zx Hx sx} hpp Jx=>by
    refine⟨λb hb o e=>(Jx.pin (b,o) (yaR _ (hpp _ (bH hb e)))).1,λb hb=>?_⟩
    obtain⟨o,e,_⟩:=T.obj _ _ st7 b hb
    exact(Jx.pin (b,o) (yaR _ (hpp _ (bH hb e)))).2.1
   have ne2:∀b∈fp2,b≠d:=λb hb z=>(f10 b hb).2.2.2.2.2 (d,{cls:=.type "list",data:=.seq its.toArray n5}) (yaR _ (yaL _ (by simp))) z.symm
   have fpk2:∀{Hx:Hp} {o:Obj},(∀b∈fp2,Hx b=none)->∀b∈fp2,eg (cxB X scope N' bk) ([(d,o)]++bu fp s7.heap) Hx b:=λ{Hx o} hn b hb=>by
    obtain⟨_,k1,k2,k3,k4,k5⟩:=f10 b hb
    refine⟨hn b hb,k1,k2,k3,k4,λp hp=>?_⟩
    rcases yaM hp with z|z
    ·exact k5 p (yaL _ z)
    ·rcases yaM z with z|z
     ·have:p=(d,o):=by simpa using z
      rw[this]
      exact(ne2 b hb).symm
     ·exact k5 p (yaR _ (yaR _ z))
   obtain⟨e10,hd10,_⟩:=J10.pin (d,{cls:=.type "list",data:=.seq its.toArray n5}) (yaR _ (yaL _ (by simp)))
   have J10w:Inv (cxB X scope N' bk) (bu fp s7.heap) (aT fr2 Z8) H10 s10:=by
    have J10p:Inv (cxB X scope N' bk) (bu fp s7.heap) Z8 H10 s10:=J10.pins_of λp hp=>J10.pin p (yaR _ (yaR _ hp))
    refine J10p.weak ?_ λk v e=>?_
    ·rw[bS,kp8.1,bS]
     unfold mS at hsub
     rw[DD]at hsub
     have h1:=hsub.1
     simpa using h1
    ·unfold aT at e
     rw[DG]at e
     cases q:fr2[k]? with
     | none=>rw[q]at e;cases e
     | some o=>
      rw[q]at e
      cases o with
      | none=>simp at e
      | some j=>
       have hk:k<fr.length:=by
        unfold mS at hsub
        rw[DD]at hsub
        have h1:fr2.length=fr.length:=by simpa using hsub.1
        have:=(DB.mp q).1
        omega
       have hj:j=k:=by
        unfold mS at hsub
        rw[DD]at hsub
        have h3:=Et.mp hsub.2 k (EN.mpr hk)
        rw[q]at h3
        simp at h3
        exact h3
       subst hj
       have e':Z8.getD j none=some v:=by simpa using e
       rw[D4]at e'
       cases q2:Z8[j]? with
       | none=>rw[q2]at e';cases e'
       | some y=>rw[q2]at e';simp at e';rw[e']
   have inner:∀s11:Shared,s11=s10->codeAny (model X.prog X.w) X.A (.compLoop (.ListComp elt [⟨tg,iter,[],0⟩,⟨tg2,iter2,ifs2,0⟩] scope pos) 1 (.ref it2) (.ref d) (cxB X scope N' bk).env)
     (λr s₅=>match r with|.ok _=>∃m,m<n/\∃i acc its H' Z',Inv (cxB X scope N' bk) [] Z' H' s₅/\Kp fr (aT fr Z) Z'/\tn i s₅.heap/\(∀b∈fp,H' b=none)/\H' d=none/\s₅.heap.PlainList d (F6 its)/\Vals acc its/\W i m acc H'|.error _=>False) s11:=by
    rintro s11 rfl
    refine nw (λn2 s'=>∃i2 acc its H' Z',Inv (cxB X scope N' bk) (bu fp s7.heap) Z' H' s'/\Kp fr2 (aT fr2 Z8) Z'/\tn2 i2 s'.heap/\(∀b∈fp2,H' b=none)/\H' d=none/\s'.heap.PlainList d (F6 its)/\Vals acc its/\W2 i2 n2 acc H') ?_ m2
     ⟨0,acc,its,H10,aT fr2 Z8,J10w,Kp.refl _ _,st10,λb hb=>(f10 b hb).1,hd10,⟨n5,e10⟩,va5,w2⟩
    rintro n' t5 ⟨i2,acc2,its2,K5,τ5,L5,kq5,ut5,gr5,he5,⟨n6,ql5⟩,vb5,x5⟩
    obtain⟨hz2,cs2⟩:=turn2 i2 n' acc2 K5 x5
    have L5p:Inv (cxB X scope N' bk) ([(d,{cls:=.type "list",data:=.seq its2.toArray n6})]++bu fp s7.heap) τ5 K5 t5:=L5.pins_of λp hp=>by
     rcases yaM hp with z|z
     ·have:p=(d,{cls:=.type "list",data:=.seq its2.toArray n6}):=by simpa using z
      subst this
      exact⟨ql5,he5,dC,dS,λv z=>by cases z⟩
     ·exact L5.pin p (yaR _ z)
    rcases cs2 with⟨stop2,q2⟩|⟨go2,N2,hN2,step2⟩
    ·refine thn (T2.done (cxB X scope N' bk) rfl rfl rfl hc i2 _ t5 τ5 K5 _ L5p (fpk2 gr5) ut5 stop2) λr t6 ⟨hr,L6⟩=>?_
     subst hr
     obtain⟨e6,n6',_⟩:=L6.pin (d,{cls:=.type "list",data:=.seq its2.toArray n6}) (yaR _ (yaL _ (by simp)))
     obtain⟨m',hm,w6⟩:=hN _ _ q2
     obtain⟨k1,k2⟩:=keep1 (λp hp=>yaR _ hp) L6
     exact⟨m',hm,i+1,acc2,its2,K5,τ5,L6.pins_of (λp hp=>by simp at hp),yv hsub kp8 kq5,T.keep _ _ _ st7 k1,k2,n6',⟨n6,e6⟩,vb5,w6⟩
    ·refine thn (T2.item (cxB X scope N' bk) rfl rfl rfl hc i2 _ t5 τ5 K5 _ L5p (fpk2 gr5) ut5 go2) λr t6 ⟨u2,hr,h6⟩=>?_
     subst hr
     refine thn h6 λ_ t7 ⟨x2,K7,L7,s7r,y72,ut7,gr7⟩=>?_
     have L7w:Inv (cxB X scope N' bk) ([(d,{cls:=.type "list",data:=.seq its2.toArray n6})]++bu fp s7.heap) (aT fr2 Z8) K7 t7:=L7.weak kq5.1.symm (pv kq5)
     have L7p:=L7w.pinned (fpk2 gr7) (T2.obj _ _ ut7)
     have G2:=hgk2 x2 (aT fr2 Z8) K7 _ (λZ3 H4=>(tc2 Z3 H4 λb H5=>if b=true then te Z3 H5 λv H6=>N2 (acc2++[v]) H6 else N2 acc2 H5)/\Kp fr2 (aT fr2 Z8) Z3) (λZ' H' a b=>⟨a,b⟩) (step2 x2 K7 y72)
     refine thn (hg2 bk _ t7 (aT fr2 Z8) K7 x2 u2 _ L7p s7r G2) λ_ t8 ⟨τ8,K8,L8,q82,kq8⟩=>?_
     refine thn (ht bk _ t8 τ8 K8 _ L8 q82) λok t9 ⟨K9,L9,q9⟩=>?_
     have keepT:∀{Zx:St} {Hx:Hp} {sx:Shared},Inv (cxB X scope N' bk) (([(d,{cls:=.type "list",data:=.seq its2.toArray n6})]++bu fp s7.heap)++bu fp2 t7.heap) Zx Hx sx->(∀b∈fp2,∀o,t7.heap.get? b=some o->sx.heap.get? b=some o)/\(∀b∈fp2,Hx b=none)/\sx.heap.get? d=some {cls:=.type "list",data:=.seq its2.toArray n6}/\Hx d=none:=λ{Zx Hx sx} Jx=>by
      refine⟨λb hb o e=>(Jx.pin (b,o) (yaR _ (yaR _ (bH hb e)))).1,λb hb=>?_,?_⟩
      ·obtain⟨o,e,_⟩:=T2.obj _ _ ut7 b hb
       exact(Jx.pin (b,o) (yaR _ (yaR _ (bH hb e)))).2.1
      ·have:=Jx.pin (d,{cls:=.type "list",data:=.seq its2.toArray n6}) (yaR _ (yaL _ (yaL _ (by simp))))
       exact⟨this.1,this.2.1⟩
     have strip:∀{Zx:St} {Hx:Hp} {sx:Shared},Inv (cxB X scope N' bk) (([(d,{cls:=.type "list",data:=.seq its2.toArray n6})]++bu fp s7.heap)++bu fp2 t7.heap) Zx Hx sx->Inv (cxB X scope N' bk) (bu fp s7.heap) Zx Hx sx:=λJx=>Jx.pins_of λp hp=>Jx.pin p (yaR _ (yaL _ (yaR _ hp)))
     cases ok with
     | false=>
      rw[if_neg (by decide)]at q9⊢
      obtain⟨m',hm,w9⟩:=hN2 _ _ q9
      obtain⟨k1,k2,k3,k4⟩:=keepT L9
      exact⟨m',hm,i2+1,acc2,its2,K9,τ8,strip L9,kq8,T2.keep _ _ _ ut7 k1,k2,k4,⟨n6,k3⟩,vb5,w9⟩
     | true=>
      rw[if_pos rfl]at q9⊢
      refine thn (he bk _ t9 τ8 K9 _ L9 q9) λy t10 ⟨v,K10,L10,r10,q10⟩=>?_
      obtain⟨m',hm,w10⟩:=hN2 _ _ q10
      obtain⟨k1,k2,k3,k4⟩:=keepT L10
      have hzs:its2.toArray.size<=sizeLine:=by rw[DC,←vb5.length];omega
      refine wpAny_list_append_plain (hsz:=hzs) ⟨n6,k3⟩ λh11 pl11 sb11=>?_
      have L11:Inv (cxB X scope N' bk) (bu fp s7.heap) τ8 K10 {t10 with heap:=h11}:=(strip L10).turned (it:=d) (t':=t10.toks) (λb o hb e=>(sb11.2 b hb).trans e) k4 dC (.inl ymS) (λx c e=>(J0'.ok.exf d ymS).2 x c e) λp hp=>by
       have hp':p∈(X.pn++pins)++bu fp s7.heap:=hp
       rcases yaM hp' with z|z
       ·exact(ne_pn p z).1
       ·exact ne_d p.1 (kB z).1
      refine⟨m',hm,i2+1,acc2++[v],its2++[y],K10,τ8,L11,kq8,T2.keep _ _ _ ut7 (λb hb o e=>(sb11.2 b (ne2 b hb)).trans (k1 b hb o e)),k2,k4,?_,vb5.append (.cons r10 .nil),w10⟩
      have:(its2++[y]).toArray=its2.toArray.push y:=by simp
      rw[this]
      exact pl11
   exact mO (inner s10 rfl) (T2.self X.A 0 _ _ _ st10 (inner s10 rfl))
 have st4:tn 0 h4:=T.keep _ _ _ st3' λb _ o e=>hk b o e
 have pl4:h4.PlainList d #[]:=⟨0,hk d _ od3⟩
 have L4:=loop {s3 with heap:=h4} J0' st4 pl4
 exact codeAny_compStart_list L4 (T.self X.A 0 _ _ _ st4 L4)
theorem sw (hc:X.calm=true)(B:Blk X.env.scope scope X.N N' fr)(hsub:mS fr fr2=true)(hi:PI X tg iter wi)
  (hg:∀b,PG (cxB X scope N' b) tg g) (hgk:dy fr g) (hi2:∀b,PI (cxB X scope N' b) tg2 iter2 wi2) (hg2:∀b,PG (cxB X scope N' b) tg2 g2) (hgk2:dy fr2 g2) (ht:∀b,PTs (cxB X scope N' b) ifs2 tc2) (he:∀b,PE (cxB X scope N' b) elt te)
  (hs:∀x,foldedSetIterable iter X.env x=pure x:=by intro _;rfl) (hs2:∀b x,foldedSetIterable iter2 (cxB X scope N' b).env x=pure x:=by intro _ _;rfl) :
  PE X (.ListComp elt [⟨tg,iter,[],0⟩,⟨tg2,iter2,ifs2,0⟩] scope pos) (uv wi fr g wi2 fr2 g2 tc2 te):=by
 intro pins s Z H Q I h
 rw[eval_ListComp]
 refine wpAny_comprehension_free (use:=none) rfl hs (dY (I.freeCells B)) B.kind B.locl (thn (hi pins s Z H _ I h) λv s1 h1=>thn h1 λitv s2 h2=>?_)
 refine lW (RR:=λacc C=>compPost (model X.prog X.w) X.A X.xe none (EP X pins Z Q) acc C) hc B hsub hg hgk hi2 hg2 hgk2 ht he hs2 h2 ?_
 intro d C v H' s' m' I' hv q hn fC hCd
 refine⟨m',hn,λh'' sb=>?_⟩
 obtain⟨c0,c1,c2,c3,c4,c5⟩:=fC
 exact⟨v,H',I'.turned (it:=C) (t':=s'.toks) (λb o hb e=>(sb.2 b hb).trans e) c0 c1 c3 c4 c5,by rw[hv];rfl,q⟩
end
open PySem.AutoSeq1 (wpAny_loadPart')
section
variable  {prog:Program}{w:World}{A:Around}{E:Value->Shared->Prop}{ss:Shared}
theorem j0 {jt tt:Addr}{k:Nat}{els:Array Value}{y:Value}{Q:Value->Shared->Prop}(qi:ss.heap.IsTupleIter jt tt k)(qt:ss.heap.IsTuple tt els)(qy:els[k]?=some y)
  (kk:∀h1,h1.IsTupleIter jt tt (k+1)->Heap.SameBut jt ss.heap h1->Q y {ss with heap:=h1}):wpAny (model prog w) A (Builtin.SmallTypes.nextOf (.ref jt)) Q E ss:=by
 obtain⟨qo,eo,ec,ed⟩:=id qi
 obtain⟨ql,el,_,nl,edl⟩:=qt
 unfold Builtin.SmallTypes.nextOf
 refine wpAny_bind (wpAny_callSpecial?_slot (name:=Str.ofString "__next__") qi.typeIs F.slot_tuple_iterator_next (wpAny_call_entry F.slot_tuple_iterator_next qi.typeIs F.entry_tuple_iterator_next ?_ (F.args_tuple_iterator_next_1 _)))
 show wpAny _ _ (field (.ref jt) 0 >>= _) _ _ ss
 refine wpAny_bind (wpAny_field eo ed (x:=.ref tt) rfl ?_)
 show wpAny _ _ (if(Value.ref tt==Value.none)=true then _ else _) _ _ ss
 rw[if_neg (show ¬ ((Value.ref tt==Value.none)=true)from DN)]
 show wpAny _ _ (field (.ref jt) 1 >>= _) _ _ ss
 refine wpAny_bind (wpAny_field eo ed (x:=.int k 0) rfl ?_)
 show wpAny _ _ (seqItems? (.ref tt) >>= _) _ _ ss
 refine wpAny_bind (wpAny_seqItems el edl ?_)
 simp only[D7,qy]
 refine wpAny_bind (wpAny_setField eo ed (by simp) (wpAny_pure ⟨y,rfl,wpAny_pure (kk _ ?_ (Heap.SameBut.update ..))⟩))
 exact⟨_,Heap.get?_update_self _ eo (Obj.isFreed_of_fields (Obj.data_mapFields ed _)),(Obj.cls_mapFields ..).trans ec,by rw[Obj.data_mapFields ed];simp[rawInt]⟩
theorem g8 {jt tt:Addr}{k:Nat}{els:Array Value}{Q:Value->Shared->Prop}(hh:A.handled=none)(qi:ss.heap.IsTupleIter jt tt k)(qt:ss.heap.IsTuple tt els)(qy:els[k]?=none)
  (kk:∀h1 e,Heap.ExtBut jt ss.heap h1->(∃o,h1.get? e=some o/\o.cls=.type "StopIteration")->E (.ref e) {ss with heap:=h1}):wpAny (model prog w) A (Builtin.SmallTypes.nextOf (.ref jt)) Q E ss:=by
 obtain⟨qo,eo,ec,ed⟩:=id qi
 obtain⟨ql,el,_,nl,edl⟩:=qt
 unfold Builtin.SmallTypes.nextOf
 refine wpAny_bind (wpAny_callSpecial?_slot (name:=Str.ofString "__next__") qi.typeIs F.slot_tuple_iterator_next (wpAny_call_entry F.slot_tuple_iterator_next qi.typeIs F.entry_tuple_iterator_next ?_ (F.args_tuple_iterator_next_1 _)))
 show wpAny _ _ (field (.ref jt) 0 >>= _) _ _ ss
 refine wpAny_bind (wpAny_field eo ed (x:=.ref tt) rfl ?_)
 show wpAny _ _ (if(Value.ref tt==Value.none)=true then _ else _) _ _ ss
 rw[if_neg (show ¬ ((Value.ref tt==Value.none)=true)from DN)]
 show wpAny _ _ (field (.ref jt) 1 >>= _) _ _ ss
 refine wpAny_bind (wpAny_field eo ed (x:=.int k 0) rfl ?_)
 show wpAny _ _ (seqItems? (.ref tt) >>= _) _ _ ss
 refine wpAny_bind (wpAny_seqItems el edl ?_)
 simp only[D7,qy]
 refine wpAny_bind (wpAny_rule (wpAny_bind (wpAny_setField eo ed (by simp) ?_)))
 show wpAny _ _ (newExc (.type "StopIteration") ([]:List Value) >>= _) _ _ _
 refine wpAny_bind ?_
 simp only[newExc,newTuple]
 refine wpAny_bind (wpAny_newObj_type ?_ (by size_fits))
 refine wpAny_bind (m:=firstArgMember _ _) (wpAny_of_eq (a:=Value.none) (by first|rfl|(simp only[firstArgMember];rfl;done)) ?_)
 refine wpAny_newObj_type ?_ (by size_fits)
 simp only[raiseNew]
 refine wpAny_bind (wpAny_handled ?_)
 first|rw[show A.in1.handled=none from hh]|rw[id hh]
 refine wpAny_bind (wpAny_pure (wpAny_throw ?_))
 exact kk _ _ (((Heap.SameBut.update ..).extBut.push _).push _) ⟨_,Heap.get?_push_size _ rfl,rfl⟩
theorem l3 (hh:A.handled=none)(jt tt:Addr)(ne:tt≠jt)(els:Array Value):Draws prog w A jt [jt,tt] els.size (λk v=>els[k]?=some v) (λk h=>h.IsTupleIter jt tt k/\h.IsTuple tt els) where
 live:=λ_ _ st=>let ⟨o,ho,_⟩:=st.1;⟨o,ho⟩
 frame:=λ_ _ _ st hk=>⟨st.1.at λo e=>hk jt (by simp) o e,let ⟨o,ho,r⟩:=st.2;⟨o,hk tt (by simp) o ho,r⟩⟩
 item:=λk s Q E hi st kk=>j0 st.1 st.2 (y:=els[k]) (by simp[hi]) λh1 i1 s1=>kk _ h1 s.toks (by simp[hi]) ⟨i1,st.2.extBut s1.extBut ne⟩ s1
 done:=λs Q E st kk=>g8 hh st.1 st.2 (by simp) kk
end
def ly:V->List V->Hp->VK->Prop:=λx vs H Q=>∃l xs i y,x=.ref l/\vs=[.int i,y]/\H l=some (.lst xs)/\0<=i/\i<=xs.length/\xs.length<sizeLine/\Q .non (upd H l (.lst (xs.take i.toNat++y::xs.drop i.toNat)))
theorem p7 {X:Cx}:MtM X "list.insert" ly:=by
 intro pins s Z H x vs v us Q I rx rv h
 obtain⟨l,xs,i,y,rfl,rfl,hH,hi0,hi,hz0,q⟩:=h
 cases rx
 obtain⟨u1,u2,rfl,ru,ry⟩:=kP rv
 obtain⟨t,rfl⟩:=ru
 obtain⟨z,its,n,r,hl,e⟩:=I.lstM hH
 have h63:i<2^63:=by rw[sizeLine_eq]at hz0;omega
 have h62 : -(2^63)<=i:=by omega
 have hfit:¬(!Builtin.List.listFitsIndex i)=true:=by rw[fitsIndex_both h62 h63];exact DN
 have hsz:its.toArray.size<=sizeLine:=by rw[DC];omega
 refine call_meets F.slot_list_insert ⟨_,e,rfl⟩ F.entry_list_insert (F.args_list_insert_3 _ _ _) (PySem.AutoSeq1.list_insert_list_int_val_1 l _ n i t u2 hfit hsz) ⟨e,?_⟩
 refine⟨.non,_,I.lset (its':=its.take i.toNat++u2::its.drop i.toNat) hH e ?_ ((r.take i.toNat).append (.cons ry (r.drop i.toNat))) ?_,rfl,q⟩
 ·show(its.toArray.extract 0 (if i<0 then(i+(its.toArray.size:Int)).toNat else min i.toNat its.toArray.size)).push u2++its.toArray.extract (if i<0 then(i+(its.toArray.size:Int)).toNat else min i.toNat its.toArray.size)=(its.take i.toNat++u2::its.drop i.toNat).toArray
  have hm:min i.toNat its.toArray.size=i.toNat:=by rw[DC];omega
  rw[if_neg (by omega),hm]
  simp
  rw[DT (by rw[Ey];exact DK _)]
 ·rw[DS,D3,DQ,Ey]
  omega
noncomputable def bG:Expr->Bool
 | .Starred _ _=>true
 | _=>false
theorem bg {e:Expr}{es:List Expr}{env:Env}(h:bG e=false):starEach (e::es) env=(false,eval e env)::starEach es env:=by
 cases e<;>first|rfl|cases h
noncomputable def ba:List Expr->Bool
 | []=>true
 | e::es=>(!bG e)&&ba es
theorem cM {env:Env}{pos:Pos}:∀{es:List Expr},ba es=true->(backTo pos (starEach es env)).any (·.1)=false
 | [],_=>rfl
 | e::es,h=>by
  rw[ba,DD]at h
  have h1:bG e=false:=by simpa using h.1
  rw[bg h1]
  show(false||(backTo pos (starEach es env)).any (·.1))=false
  rw[cM h.2];rfl
theorem iS {env:Env}{pos:Pos}:∀{es:List Expr},ba es=true->(backTo pos (starEach es env)).all (λx=>!x.1)=true
 | [],_=>rfl
 | e::es,h=>by
  rw[ba,DD]at h
  have h1:bG e=false:=by simpa using h.1
  rw[bg h1]
  show(!false&&(backTo pos (starEach es env)).all (λx=>!x.1))=true
  rw[iS h.2];rfl
section
variable  {X:Cx}{K:yF}{e:Expr}{es:List Expr}{te:TE}{t:TA}{x:Str}{p pos:Pos}{k:Nat}{ps:List Str}{sp:Sp}
theorem cP (ha:PE X e te)(hr:PA X es t)(hs:bG e=false:=by rfl):PA X (e::es) (pb te t):=vA ha hr (bg hs)
theorem sy (h:Has X.prog X.w X.K X.mg X.base k x ps sp)(hr:Room k X.A)(hg:Gl X x)(ha:PA X (e::es) t)(hn:ba (e::es)=true:=by rfl)(hdb:(x==("__debug__" : Str))=false:=by decide):PE X (.Call (.Name x p) (e::es) [] pos) (kM sp [] E0 t):=by
 rw[ba,DD]at hn
 exact BM h hr hg ha hdb (bg (by simpa using hn.1)) (cM hn.2)
theorem iB {id:String}{r:List V->Hp->VK->Prop}(hc:CallR X (.builtin id) r)(hg:Gl X x)(hm:X.mg x=none)(hb:bootBuiltins x=some (.builtin id))(ha:PA X (e::es) t)(hn:ba (e::es)=true:=by rfl)(hx:x≠("__name__" : Str):=by decide)(hdb:(x==("__debug__" : Str))=false:=by decide):PE X (.Call (.Name x p) (e::es) [] pos) (tCB r t):=by
 rw[ba,DD]at hn
 exact sv hc hg hm hb ha hx hdb (bg (by simpa using hn.1)) (cM hn.2)
theorem nM {T:String}{r:List V->Hp->VK->Prop}(hc:CallR X (.type T) r)(hg:Gl X x)(hm:X.mg x=none)(hb:bootBuiltins x=some (.type T))(ha:PA X (e::es) t)(hn:ba (e::es)=true:=by rfl)(hx:x≠("__name__" : Str):=by decide)(hdb:(x==("__debug__" : Str))=false:=by decide):PE X (.Call (.Name x p) (e::es) [] pos) (tCB r t):=by
 rw[ba,DD]at hn
 exact qc hc hg hm hb ha hx hdb (bg (by simpa using hn.1)) (cM hn.2)
theorem A1 {o:Expr}{to:TE}{name:Str}{apos cpos:Pos}{T id:String}{r:V->List V->Hp->VK->Prop}(h:X.K=K)(pa:PlainAttrs T)(slot:Slot T name id)(hty:typeOf (.builtin id)=pure (.type "method_descriptor"))(hm:MtR X id r)(ho:PE X o to)(ha:PA X (e::es) t)(hn:ba (e::es)=true:=by rfl)(hlen:decide ((e::es).length<30)=true:=by rfl)
  (hbase:attributeBase o name X.env (eval o X.env)=eval o X.env:=by rfl) (hline:(apos.endLine==cpos.line)=true:=by rfl):PE X (.Call (.Attribute o name apos) (e::es) [] cpos) (tBM K T r to t):=by
 have hn':=hn
 rw[ba,DD]at hn'
 refine bmK h pa slot hty hm ho ha hbase ?_ hline (bg (by simpa using hn'.1)) (cM hn'.2)
 rw[iS hn]
 have:=of_decide_eq_true hlen
 simp only[Gz,FA,Nat.add_zero,List.isEmpty_nil,if_true]
 rw[decide_eq_true this]
 rfl
end
inductive I where
 | non|bl (b:Bool)|int (i:Int)|str (x:Str)|tup (is:List I)|ls (is:List I)
mutual
def I.beq:I->I->Bool
 | .non,.non=>true
 | .bl a,.bl b=>a==b
 | .int a,.int b=>decide (a=b)
 | .str a,.str b=>decide (a=b)
 | .tup a,.tup b=>I.beqs a b
 | .ls a,.ls b=>I.beqs a b
 | _,_=>false
def I.beqs:List I->List I->Bool
 | [],[]=>true
 | a::as,b::bs=>I.beq a b&&I.beqs as bs
 | _,_=>false
end
mutual
theorem I.beq_iff:∀{a b:I},I.beq a b=true↔a=b
 | .non,b=>by cases b<;>simp[I.beq]
 | .bl x,b=>by cases b<;>simp[I.beq]
 | .int x,b=>by cases b<;>simp[I.beq]
 | .str x,b=>by cases b<;>simp[I.beq]
 | .tup x,b=>by
  cases b with
  | tup y=>rw[I.beq,I.beqs_iff,I.tup.injEq]
  | _=>simp[I.beq]
 | .ls x,b=>by
  cases b with
  | ls y=>rw[I.beq,I.beqs_iff,I.ls.injEq]
  | _=>simp[I.beq]
theorem I.beqs_iff:∀{a b:List I},I.beqs a b=true↔a=b
 | [],b=>by cases b<;>simp[I.beqs]
 | x::xs,b=>by
  cases b with
  | nil=>simp[I.beqs]
  | cons y ys=>rw[I.beqs,DD,I.beq_iff,I.beqs_iff,E3.injEq]
end
instance:DecidableEq I:=λa b=>decidable_of_iff (I.beq a b=true) I.beq_iff
inductive T where
 | im (i:I)|tup (ts:List T)|li (is:List I)|lst (ts:List T)|di (kvs:List (I×I))|dc (kvs:List (I×T))|ins (C:Addr) (fs:List (Str×T))
noncomputable def ij:Key->I
 | .inl i=>.int i
 | .inr x=>.str x
def DAt (K:yF)(H:Hp)(a:Addr)(ks:List (I×V)):Prop:=∃ys:List (Key×V),H a=some (.dK ys)/\ks=ys.map λp=>(ij p.1,p.2)
mutual
def RpI (K:yF)(H:Hp):I->V->Prop
 | .non,v=>v=.non
 | .bl b,v=>v=.bl b
 | .int i,v=>v=.int i
 | .str x,v=>v=.str x
 | .tup is,v=>∃a xs,v=.ref a/\SqT K H a xs/\RpIs K H is xs
 | .ls is,v=>∃a o xs,v=.ref a/\H a=some (.frz o (.lst xs))/\RpIs K H is xs
def RpIs (K:yF)(H:Hp):List I->List V->Prop
 | [],xs=>xs=[]
 | t::ts,xs=>∃x r,xs=x::r/\RpI K H t x/\RpIs K H ts r
end
mutual
def Rp (K:yF)(H:Hp):T->V->List Addr->Prop
 | .im i,v,F=>RpI K H i v/\F=[]
 | .tup ts,v,F=>∃a xs,v=.ref a/\SqT K H a xs/\Rps K H ts xs F
 | .li is,v,F=>∃a xs,v=.ref a/\Rd H a (.lst xs)/\RpIs K H is xs/\F=[a]
 | .lst ts,v,F=>∃a xs F',v=.ref a/\Rd H a (.lst xs)/\Rps K H ts xs F'/\F=a::F'
 | .di kvs,v,F=>∃a ys,v=.ref a/\DAt K H a ys/\RpIs K H (kvs.map (·.2)) (ys.map (·.2))/\ys.map (·.1)=kvs.map (·.1)/\F=[a]
 | .dc kvs,v,F=>∃a ys F',v=.ref a/\DAt K H a ys/\Rpk K H kvs ys F'/\F=a::F'
 | .ins C fs,v,F=>∃a dx ys F',v=.ref a/\H a=some (.ins C dx ys)/\Rpf K H fs ys F'/\F=a::F'
def Rps (K:yF)(H:Hp):List T->List V->List Addr->Prop
 | [],xs,F=>xs=[]/\F=[]
 | t::ts,xs,F=>∃x r F1 F2,xs=x::r/\Rp K H t x F1/\Rps K H ts r F2/\F=F1++F2
def Rpk (K:yF)(H:Hp):List (I×T)->List (I×V)->List Addr->Prop
 | [],xs,F=>xs=[]/\F=[]
 | (k,t)::ts,xs,F=>∃x r F1 F2,xs=(k,x)::r/\Rp K H t x F1/\Rpk K H ts r F2/\F=F1++F2
def Rpf (K:yF)(H:Hp):List (Str×T)->List (Str×V)->List Addr->Prop
 | [],xs,F=>xs=[]/\F=[]
 | (k,t)::ts,xs,F=>∃x r F1 F2,xs=(k,x)::r/\Rp K H t x F1/\Rpf K H ts r F2/\F=F1++F2
end
noncomputable def Dh:HO->Bool
 | .lst _=>true|.dK _=>true|.dT _=>true|.ins _ _ _=>true|.ext _=>true|_=>false
def Mu (H:Hp)(a:Addr):Prop:=∃o,H a=some o/\Dh o=true
def OffM (M:List Addr)(H H':Hp):Prop:=∀b o,H b=some o->b∉M->H' b=some o
theorem Same.offM {H H':Hp}(s:Same H H')(M:List Addr):OffM M H H':=λb o h _=>s b o h
theorem OffM.refl (M:List Addr)(H:Hp):OffM M H H:=λb o h _=>h
theorem OffM.mono {M M':List Addr}{H H1:Hp}(x:OffM M H H1)(y:∀a∈M,a∈M'):OffM M' H H1:=λb o h n=>x b o h λz=>n (y b z)
theorem OffM.upd {H:Hp}{a:Addr}{o:HO}:OffM [a] H (upd H a o):=λb u h n=>by rw[upd_ne (by simpa using n)];exact h
theorem OffM.rd {M:List Addr}{H H':Hp}{a:Addr}{o:HO}(x:OffM M H H')(n:a∉M)(h:Rd H a o):Rd H' a o:=by
 rcases h with h|⟨u,h⟩
 ·exact .inl (x a _ h n)
 ·exact .inr ⟨u,x a _ h n⟩
theorem OffM.sqT {K:yF}{M:List Addr}{H H':Hp}{a:Addr}{xs:List V}(x:OffM M H H')(hM:∀b∈M,Mu H b)(h:SqT K H a xs):SqT K H' a xs:=by
 rcases h with(h|⟨u,h⟩)|h
 ·exact .inl (.inl (x a _ h λz=>by obtain⟨o,e,m⟩:=hM a z;rw[h]at e;cases e;cases m))
 ·exact .inl (.inr ⟨u,x a _ h λz=>by obtain⟨o,e,m⟩:=hM a z;rw[h]at e;cases e;cases m⟩)
 ·exact .inr h
theorem DAt.off {K:yF}{M:List Addr}{H H':Hp}{a:Addr}{ks:List (I×V)}(x:OffM M H H')(n:a∉M)(h:DAt K H a ks):DAt K H' a ks:=by
 obtain⟨ys,h1,h2⟩:=h
 exact⟨ys,x a _ h1 n,h2⟩
theorem DAt.dom {K:yF}{H:Hp}{a:Addr}{ks:List (I×V)}(h:DAt K H a ks):∃o,H a=some o:=by
 obtain⟨ys,h1,h2⟩:=h
 exact⟨_,h1⟩
theorem Rd.dom {H:Hp}{a:Addr}{u:HO}(h:Rd H a u):∃o,H a=some o:=by
 rcases h with h|⟨o,h⟩
 ·exact⟨_,h⟩
 ·exact⟨_,h⟩
mutual
theorem RpI.off {K:yF}{M:List Addr}{H H':Hp}(x:OffM M H H')(hM:∀b∈M,Mu H b):∀{t:I} {v:V},RpI K H t v->RpI K H' t v
 | .non,_,h=>by rw[RpI]at h⊢;exact h
 | .bl _,_,h=>by rw[RpI]at h⊢;exact h
 | .int _,_,h=>by rw[RpI]at h⊢;exact h
 | .str _,_,h=>by rw[RpI]at h⊢;exact h
 | .tup ts,_,h=>by rw[RpI]at h⊢;obtain⟨a,xs,h1,h2,h3⟩:=h;exact⟨a,xs,h1,x.sqT hM h2,RpIs.off x hM h3⟩
 | .ls ts,_,h=>by
  rw[RpI]at h⊢;obtain⟨a,o,xs,h1,h2,h3⟩:=h
  exact⟨a,o,xs,h1,x a _ h2 (λz=>by obtain⟨u,e,m⟩:=hM a z;rw[h2]at e;cases e;cases m),RpIs.off x hM h3⟩
theorem RpIs.off {K:yF}{M:List Addr}{H H':Hp}(x:OffM M H H')(hM:∀b∈M,Mu H b):∀{ts:List I} {xs:List V},RpIs K H ts xs->RpIs K H' ts xs
 | [],_,h=>by rw[RpIs]at h⊢;exact h
 | t::ts,_,h=>by
  rw[RpIs]at h⊢;obtain⟨y,r,h1,h2,h3⟩:=h
  exact⟨y,r,h1,RpI.off x hM h2,RpIs.off x hM h3⟩
end
mutual
theorem Rp.off {K:yF}{M:List Addr}{H H':Hp}(x:OffM M H H')(hM:∀b∈M,Mu H b):∀{t:T} {v:V} {F:List Addr},(∀a∈F,a∉M)->Rp K H t v F->Rp K H' t v F
 | .im _,_,_,_,h=>by rw[Rp]at h⊢;exact⟨RpI.off x hM h.1,h.2⟩
 | .tup ts,_,_,n,h=>by rw[Rp]at h⊢;obtain⟨a,xs,h1,h2,h3⟩:=h;exact⟨a,xs,h1,x.sqT hM h2,Rps.off x hM n h3⟩
 | .li ts,_,_,n,h=>by
  rw[Rp]at h⊢;obtain⟨a,xs,h1,h2,h3,rfl⟩:=h
  exact⟨a,xs,h1,x.rd (n a ymS) h2,RpIs.off x hM h3,rfl⟩
 | .lst ts,_,_,n,h=>by
  rw[Rp]at h⊢;obtain⟨a,xs,F',h1,h2,h3,rfl⟩:=h
  exact⟨a,xs,F',h1,x.rd (n a ymS) h2,Rps.off x hM (λb hb=>n b (ymC _ hb)) h3,rfl⟩
 | .di kvs,_,_,n,h=>by
  rw[Rp]at h⊢;obtain⟨a,xs,h1,h2,h3,h4,rfl⟩:=h
  exact⟨a,xs,h1,h2.off x (n a ymS),RpIs.off x hM h3,h4,rfl⟩
 | .dc kvs,_,_,n,h=>by
  rw[Rp]at h⊢;obtain⟨a,xs,F',h1,h2,h3,rfl⟩:=h
  exact⟨a,xs,F',h1,h2.off x (n a ymS),Rpk.off x hM (λb hb=>n b (ymC _ hb)) h3,rfl⟩
 | .ins C fs,_,_,n,h=>by
  rw[Rp]at h⊢;obtain⟨a,dx,xs,F',h1,h2,h3,rfl⟩:=h
  exact⟨a,dx,xs,F',h1,x a _ h2 (n a ymS),Rpf.off x hM (λb hb=>n b (ymC _ hb)) h3,rfl⟩
theorem Rps.off {K:yF}{M:List Addr}{H H':Hp}(x:OffM M H H')(hM:∀b∈M,Mu H b):∀{ts:List T} {xs:List V} {F:List Addr},(∀a∈F,a∉M)->Rps K H ts xs F->Rps K H' ts xs F
 | [],_,_,_,h=>by rw[Rps]at h⊢;exact h
 | t::ts,_,_,n,h=>by
  rw[Rps]at h⊢;obtain⟨y,r,F1,F2,h1,h2,h3,rfl⟩:=h
  exact⟨y,r,F1,F2,h1,Rp.off x hM (λb hb=>n b (yaL _ hb)) h2,Rps.off x hM (λb hb=>n b (yaR _ hb)) h3,rfl⟩
theorem Rpk.off {K:yF}{M:List Addr}{H H':Hp}(x:OffM M H H')(hM:∀b∈M,Mu H b):∀{ts:List (I×T)} {xs:List (I×V)} {F:List Addr},(∀a∈F,a∉M)->Rpk K H ts xs F->Rpk K H' ts xs F
 | [],_,_,_,h=>by rw[Rpk]at h⊢;exact h
 | (k,t)::ts,_,_,n,h=>by
  rw[Rpk]at h⊢;obtain⟨y,r,F1,F2,h1,h2,h3,rfl⟩:=h
  exact⟨y,r,F1,F2,h1,Rp.off x hM (λb hb=>n b (yaL _ hb)) h2,Rpk.off x hM (λb hb=>n b (yaR _ hb)) h3,rfl⟩
theorem Rpf.off {K:yF}{M:List Addr}{H H':Hp}(x:OffM M H H')(hM:∀b∈M,Mu H b):∀{ts:List (Str×T)} {xs:List (Str×V)} {F:List Addr},(∀a∈F,a∉M)->Rpf K H ts xs F->Rpf K H' ts xs F
 | [],_,_,_,h=>by rw[Rpf]at h⊢;exact h
 | (k,t)::ts,_,_,n,h=>by
  rw[Rpf]at h⊢;obtain⟨y,r,F1,F2,h1,h2,h3,rfl⟩:=h
  exact⟨y,r,F1,F2,h1,Rp.off x hM (λb hb=>n b (yaL _ hb)) h2,Rpf.off x hM (λb hb=>n b (yaR _ hb)) h3,rfl⟩
end
theorem Rp.same {K:yF}{H H':Hp}(x:Same H H'){t:T}{v:V}{F:List Addr}(h:Rp K H t v F):Rp K H' t v F:=Rp.off (x.offM []) (by simp) (by simp) h
theorem Rps.same {K:yF}{H H':Hp}(x:Same H H'){t:List T}{v:List V}{F:List Addr}(h:Rps K H t v F):Rps K H' t v F:=Rps.off (x.offM []) (by simp) (by simp) h
theorem RpIs.same {K:yF}{H H':Hp}(x:Same H H'){t:List I}{v:List V}(h:RpIs K H t v):RpIs K H' t v:=RpIs.off (x.offM []) (by simp) h
mutual
theorem Rp.dom {K:yF}{H:Hp}:∀{t:T} {v:V} {F:List Addr},Rp K H t v F->∀a∈F,∃o,H a=some o
 | .im _,_,_,h=>by rw[Rp]at h;rw[h.2];simp
 | .tup ts,_,_,h=>by rw[Rp]at h;obtain⟨_,_,_,_,h⟩:=h;exact Rps.dom h
 | .li ts,_,_,h=>by
  rw[Rp]at h;obtain⟨a,xs,h1,h2,h3,rfl⟩:=h
  intro b hb
  rw[ysM hb];exact h2.dom
 | .lst ts,_,_,h=>by
  rw[Rp]at h;obtain⟨a,xs,F',h1,h2,h3,rfl⟩:=h
  intro b hb
  rcases ycM hb with rfl|hb
  ·exact h2.dom
  ·exact Rps.dom h3 b hb
 | .di ts,_,_,h=>by
  rw[Rp]at h;obtain⟨a,xs,h1,h2,h3,h4,rfl⟩:=h
  intro b hb
  rw[ysM hb];exact h2.dom
 | .dc ts,_,_,h=>by
  rw[Rp]at h;obtain⟨a,xs,F',h1,h2,h3,rfl⟩:=h
  intro b hb
  rcases ycM hb with rfl|hb
  ·exact h2.dom
  ·exact Rpk.dom h3 b hb
 | .ins C ts,_,_,h=>by
  rw[Rp]at h;obtain⟨a,dx,xs,F',h1,h2,h3,rfl⟩:=h
  intro b hb
  rcases ycM hb with rfl|hb
  ·exact⟨_,h2⟩
  ·exact Rpf.dom h3 b hb
theorem Rps.dom {K:yF}{H:Hp}:∀{ts:List T} {xs:List V} {F:List Addr},Rps K H ts xs F->∀a∈F,∃o,H a=some o
 | [],_,_,h=>by rw[Rps]at h;rw[h.2];simp
 | t::ts,_,_,h=>by
  rw[Rps]at h;obtain⟨y,r,F1,F2,h1,h2,h3,rfl⟩:=h
  intro b hb
  rcases yaM hb with hb|hb
  ·exact Rp.dom h2 b hb
  ·exact Rps.dom h3 b hb
theorem Rpk.dom {K:yF}{H:Hp}:∀{ts:List (I×T)} {xs:List (I×V)} {F:List Addr},Rpk K H ts xs F->∀a∈F,∃o,H a=some o
 | [],_,_,h=>by rw[Rpk]at h;rw[h.2];simp
 | (k,t)::ts,_,_,h=>by
  rw[Rpk]at h;obtain⟨y,r,F1,F2,h1,h2,h3,rfl⟩:=h
  intro b hb
  rcases yaM hb with hb|hb
  ·exact Rp.dom h2 b hb
  ·exact Rpk.dom h3 b hb
theorem Rpf.dom {K:yF}{H:Hp}:∀{ts:List (Str×T)} {xs:List (Str×V)} {F:List Addr},Rpf K H ts xs F->∀a∈F,∃o,H a=some o
 | [],_,_,h=>by rw[Rpf]at h;rw[h.2];simp
 | (k,t)::ts,_,_,h=>by
  rw[Rpf]at h;obtain⟨y,r,F1,F2,h1,h2,h3,rfl⟩:=h
  intro b hb
  rcases yaM hb with hb|hb
  ·exact Rp.dom h2 b hb
  ·exact Rpf.dom h3 b hb
end
theorem RpIs.nil {K:yF}{H:Hp}:RpIs K H [] []:=by rw[RpIs]
theorem RpIs.cons {K:yF}{H:Hp}{t:I}{ts:List I}{x:V}{xs:List V}(h:RpI K H t x)(hs:RpIs K H ts xs):RpIs K H (t::ts) (x::xs):=by rw[RpIs];exact⟨x,xs,rfl,h,hs⟩
theorem RpIs.cons_inv {K:yF}{H:Hp}{t:I}{ts:List I}{xs:List V}(h:RpIs K H (t::ts) xs):∃x r,xs=x::r/\RpI K H t x/\RpIs K H ts r:=by rw[RpIs]at h;exact h
theorem RpIs.nil_inv {K:yF}{H:Hp}{xs:List V}(h:RpIs K H [] xs):xs=[]:=by rw[RpIs]at h;exact h
theorem RpIs.length {K:yF}{H:Hp}:∀{ts:List I} {xs:List V},RpIs K H ts xs->xs.length=ts.length
 | [],xs,h=>by rw[h.nil_inv];rfl
 | d::ds,xs,h=>by obtain⟨x,r,rfl,_,h3⟩:=h.cons_inv;rw[DQ,DQ,h3.length]
theorem RpIs.get {K:yF}{H:Hp}:∀{ts:List I} {xs:List V} {i:Nat} {t:I},RpIs K H ts xs->ts[i]?=some t->∃x,xs[i]?=some x/\RpI K H t x
 | [],_,_,_,_,e=>by simp at e
 | d::ds,xs,0,d',h,e=>by
  obtain⟨x,r,rfl,h2,h3⟩:=h.cons_inv
  simp at e;subst e
  exact⟨x,rfl,h2⟩
 | d::ds,xs,i+1,d',h,e=>by
  obtain⟨x,r,rfl,h2,h3⟩:=h.cons_inv
  obtain⟨y,h4,h5⟩:=RpIs.get (i:=i) h3 (by simpa using e)
  exact⟨y,by simpa using h4,h5⟩
theorem RpIs.append {K:yF}{H:Hp}:∀{ds es:List I} {xs ys:List V},RpIs K H ds xs->RpIs K H es ys->RpIs K H (ds++es) (xs++ys)
 | [],es,xs,ys,h,h'=>by obtain rfl:=h.nil_inv;exact h'
 | d::ds,es,xs,ys,h,h'=>by
  obtain⟨x,r,rfl,h2,h3⟩:=h.cons_inv
  exact RpIs.cons h2 (RpIs.append h3 h')
theorem RpIs.take {K:yF}{H:Hp}:∀{ds:List I} {xs:List V} (n:Nat),RpIs K H ds xs->RpIs K H (ds.take n) (xs.take n)
 | ds,xs,0,h=>by simp only[G4];exact RpIs.nil
 | [],xs,n+1,h=>by obtain rfl:=h.nil_inv;exact RpIs.nil
 | d::ds,xs,n+1,h=>by
  obtain⟨x,r,rfl,h2,h3⟩:=h.cons_inv
  exact RpIs.cons h2 (RpIs.take n h3)
theorem RpIs.drop {K:yF}{H:Hp}:∀{ds:List I} {xs:List V} (n:Nat),RpIs K H ds xs->RpIs K H (ds.drop n) (xs.drop n)
 | ds,xs,0,h=>h
 | [],xs,n+1,h=>by obtain rfl:=h.nil_inv;exact RpIs.nil
 | d::ds,xs,n+1,h=>by
  obtain⟨x,r,rfl,h2,h3⟩:=h.cons_inv
  exact RpIs.drop n h3
theorem RpIs.one {K:yF}{H:Hp}{t:I}{x:V}(h:RpI K H t x):RpIs K H [t] [x]:=.cons h .nil
theorem RpIs.reverse {K:yF}{H:Hp}:∀{ds:List I} {xs:List V},RpIs K H ds xs->RpIs K H ds.reverse xs.reverse
 | [],xs,h=>by obtain rfl:=h.nil_inv;exact RpIs.nil
 | d::ds,xs,h=>by
  obtain⟨x,r,rfl,h2,h3⟩:=h.cons_inv
  rw[Fg,Fg]
  exact RpIs.append (RpIs.reverse h3) (.one h2)
theorem RpIs.set {K:yF}{H:Hp}{t:I}{x:V}(hx:RpI K H t x):∀{ds:List I} {xs:List V} (n:Nat),RpIs K H ds xs->RpIs K H (ds.set n t) (xs.set n x)
 | [],xs,n,h=>by obtain rfl:=h.nil_inv;exact RpIs.nil
 | d::ds,xs,0,h=>by obtain⟨y,r,rfl,h2,h3⟩:=h.cons_inv;exact RpIs.cons hx h3
 | d::ds,xs,n+1,h=>by obtain⟨y,r,rfl,h2,h3⟩:=h.cons_inv;exact RpIs.cons h2 (RpIs.set hx n h3)
theorem RpIs.ints {K:yF}{H:Hp}:∀(ns:List Int),RpIs K H (ns.map I.int) (ns.map V.int)
 | []=>RpIs.nil
 | n::ns=>RpIs.cons (by rw[RpI]) (RpIs.ints ns)
theorem Rps.nil {K:yF}{H:Hp}:Rps K H [] [] []:=by rw[Rps];exact⟨rfl,rfl⟩
theorem Rps.cons {K:yF}{H:Hp}{t:T}{ts:List T}{x:V}{xs:List V}{F F':List Addr}(h:Rp K H t x F)(hs:Rps K H ts xs F'):Rps K H (t::ts) (x::xs) (F++F'):=by rw[Rps];exact⟨x,xs,F,F',rfl,h,hs,rfl⟩
theorem Rps.cons_inv {K:yF}{H:Hp}{t:T}{ts:List T}{xs:List V}{F:List Addr}(h:Rps K H (t::ts) xs F):∃x r F1 F2,xs=x::r/\Rp K H t x F1/\Rps K H ts r F2/\F=F1++F2:=by rw[Rps]at h;exact h
theorem Rps.nil_inv {K:yF}{H:Hp}{xs:List V}{F:List Addr}(h:Rps K H [] xs F):xs=[]/\F=[]:=by rw[Rps]at h;exact h
theorem Rps.length {K:yF}{H:Hp}:∀{ts:List T} {xs:List V} {F:List Addr},Rps K H ts xs F->xs.length=ts.length
 | [],xs,_,h=>by rw[h.nil_inv.1];rfl
 | d::ds,xs,_,h=>by obtain⟨x,r,_,_,rfl,_,h3,_⟩:=h.cons_inv;rw[DQ,DQ,h3.length]
theorem Rps.append {K:yF}{H:Hp}:∀{ds es:List T} {xs ys:List V} {F G:List Addr},Rps K H ds xs F->Rps K H es ys G->Rps K H (ds++es) (xs++ys) (F++G)
 | [],es,xs,ys,F,G,h,h'=>by obtain⟨rfl,rfl⟩:=h.nil_inv;exact h'
 | d::ds,es,xs,ys,F,G,h,h'=>by
  obtain⟨x,r,F1,F2,rfl,h2,h3,rfl⟩:=h.cons_inv
  rw[DU]
  exact Rps.cons h2 (Rps.append h3 h')
theorem Rps.at {K:yF}{H:Hp}:∀{ts:List T} {xs:List V} {F:List Addr} {i:Nat} {t:T},Rps K H ts xs F->ts[i]?=some t →
  ∃x A G B,xs[i]?=some x/\Rp K H t x G/\F=A++G++B/\Rps K H (ts.take i) (xs.take i) A/\Rps K H (ts.drop (i+1)) (xs.drop (i+1)) B
 | [],_,_,_,_,_,e=>by simp at e
 | d::ds,xs,_,0,d',h,e=>by
  obtain⟨x,r,F1,F2,rfl,h2,h3,rfl⟩:=h.cons_inv
  simp at e;subst e
  exact⟨x,[],F1,F2,rfl,h2,by simp,Rps.nil,by simpa using h3⟩
 | d::ds,xs,_,i+1,d',h,e=>by
  obtain⟨x,r,F1,F2,rfl,h2,h3,rfl⟩:=h.cons_inv
  obtain⟨y,A,G,B,h4,h5,h6,h7,h8⟩:=Rps.at (i:=i) h3 (by simpa using e)
  refine⟨y,F1++A,G,B,by simpa using h4,h5,by rw[h6];simp,?_,by simpa using h8⟩
  simpa using Rps.cons h2 h7
theorem Rps.take {K:yF}{H:Hp}:∀{ds:List T} {xs:List V} {F:List Addr} (n:Nat),Rps K H ds xs F->∃G G',Rps K H (ds.take n) (xs.take n) G/\Rps K H (ds.drop n) (xs.drop n) G'/\F=G++G'
 | ds,xs,F,0,h=>⟨[],F,by simp only[G4];exact Rps.nil,by simpa using h,rfl⟩
 | [],xs,F,n+1,h=>by obtain⟨rfl,rfl⟩:=h.nil_inv;exact⟨[],[],Rps.nil,Rps.nil,rfl⟩
 | d::ds,xs,F,n+1,h=>by
  obtain⟨x,r,F1,F2,rfl,h2,h3,rfl⟩:=h.cons_inv
  obtain⟨G,G',g1,g2,rfl⟩:=Rps.take n h3
  exact⟨F1++G,G',Rps.cons h2 g1,g2,by rw[DU]⟩
theorem Rps.ims {K:yF}{H:Hp}:∀{is:List I} {xs:List V} {F:List Addr},Rps K H (is.map T.im) xs F↔(RpIs K H is xs/\F=[])
 | [],xs,F=>by rw[Fa,Rps,RpIs]
 | i::is,xs,F=>by
  rw[DJ,Rps,RpIs]
  constructor
  ·rintro⟨x,r,F1,F2,rfl,h1,h2,rfl⟩
   rw[Rp]at h1
   have:=Rps.ims.mp h2
   exact⟨⟨x,r,rfl,h1.1,this.1⟩,by rw[h1.2,this.2];rfl⟩
  ·rintro⟨⟨x,r,rfl,h1,h2⟩,rfl⟩
   exact⟨x,r,[],[],rfl,by rw[Rp];exact⟨h1,rfl⟩,Rps.ims.mpr ⟨h2,rfl⟩,rfl⟩
theorem fN {K:yF}{H:Hp}{i:I}{v:V}(h:RpI K H i v):Rp K H (.im i) v []:=by rw[Rp];exact⟨h,rfl⟩
theorem bj {K:yF}{H:Hp}{i:I}{v:V}{F:List Addr}(h:Rp K H (.im i) v F):RpI K H i v/\F=[]:=by rw[Rp]at h;exact h
noncomputable def I.sc:I->Option V
 | .non=>some .non|.bl b=>some (.bl b)|.int i=>some (.int i)|.str x=>some (.str x)|.tup _=>none|.ls _=>none
theorem iT {t:I}{K:yF}{H:Hp}{v:V}(h:t.sc=some v):RpI K H t v:=by
 cases t<;>simp only[I.sc]at h<;>cases h<;>rw[RpI]
theorem xJ {t:I}{K:yF}{H:Hp}{v w:V}(h:t.sc=some v)(r:RpI K H t w):w=v:=by
 cases t<;>simp only[I.sc]at h<;>cases h<;>rw[RpI]at r<;>exact r
inductive Ac where
 | ix (n:Nat)|ky (k:I)|fd (f:Str)
 deriving DecidableEq
noncomputable def eU {κ α:Type} [DecidableEq κ]:List (κ × α)->κ->Option α
 | [],_=>none
 | (k',t)::r,k=>if k'=k then some t else eU r k
noncomputable def jN {κ α:Type} [DecidableEq κ]:List (κ × α)->κ->α->List (κ × α)
 | [],_,_=>[]
 | (k',t)::r,k,s=>if k'=k then(k',s)::r else(k',t)::jN r k s
noncomputable def iK:T->Ac->Option T
 | .lst ts,.ix n=>ts[n]?
 | .dc kvs,.ky k=>eU kvs k
 | .ins _ fs,.fd f=>eU fs f
 | _,_=>none
noncomputable def zB:T->Ac->T->T
 | .lst ts,.ix n,s=>.lst (ts.set n s)
 | .dc kvs,.ky k,s=>.dc (jN kvs k s)
 | .ins C fs,.fd f,s=>.ins C (jN fs f s)
 | t,_,_=>t
noncomputable def T.sub:T->List Ac->Option T
 | t,[]=>some t
 | t,a::p=>(iK t a).bind λs=>s.sub p
noncomputable def T.put:T->List Ac->T->T
 | _,[],s=>s
 | t,a::p,s=>match iK t a with
  | some u=>zB t a (u.put p s)
  | none=>t
def at1 (K:yF)(H:Hp):V->Ac->V->Prop
 | v,.ix n,w=>∃a xs,v=.ref a/\H a=some (.lst xs)/\xs[n]?=some w
 | v,.ky k,w=>∃a ys,v=.ref a/\DAt K H a ys/\eU ys k=some w
 | v,.fd f,w=>∃a C dx ys,v=.ref a/\H a=some (.ins C dx ys)/\eU ys f=some w
def atP (K:yF)(H:Hp):V->List Ac->V->Prop
 | v,[],w=>w=v
 | v,a::p,w=>∃u,at1 K H v a u/\atP K H u p w
theorem DAt.det {K:yF}{H:Hp}{a:Addr}{xs ys:List (I×V)}(h:DAt K H a xs)(g:DAt K H a ys):xs=ys:=by
 obtain⟨zs,h1,rfl⟩:=h
 obtain⟨zs',h2,rfl⟩:=g
 rw[h1]at h2;cases h2;rfl
theorem ou {K:yF}{H:Hp}{v w w':V}{a:Ac}(h:at1 K H v a w)(g:at1 K H v a w'):w=w':=by
 cases a with
 | ix n=>
  obtain⟨a,xs,rfl,h1,h2⟩:=h
  obtain⟨a',xs',e,g1,g2⟩:=g
  cases e;rw[h1]at g1;cases g1;rw[h2]at g2;cases g2;rfl
 | ky k=>
  obtain⟨a,xs,rfl,h1,h2⟩:=h
  obtain⟨a',xs',e,g1,g2⟩:=g
  cases e
  have:=h1.det g1
  subst this
  rw[h2]at g2;cases g2;rfl
 | fd f=>
  obtain⟨a,C,dx,xs,rfl,h1,h2⟩:=h
  obtain⟨a',C',dx',xs',e,g1,g2⟩:=g
  cases e;rw[h1]at g1;cases g1;rw[h2]at g2;cases g2;rfl
theorem gL {K:yF}{H:Hp}:∀{p:List Ac} {v w w':V},atP K H v p w->atP K H v p w'->w=w'
 | [],v,w,w',h,g=>by rw[atP]at h g;rw[h,g]
 | a::p,v,w,w',h,g=>by
  rw[atP]at h g
  obtain⟨u,h1,h2⟩:=h
  obtain⟨u',g1,g2⟩:=g
  have:=ou h1 g1
  subst this
  exact gL h2 g2
theorem oy {K:yF}{H:Hp}{a:Ac}:∀{p:List Ac} {v w u:V},atP K H v p w->at1 K H w a u->atP K H v (p++[a]) u
 | [],v,w,u,h,g=>by rw[atP]at h;subst h;exact⟨u,g,rfl⟩
 | b::p,v,w,u,h,g=>by
  rw[atP]at h
  obtain⟨x,h1,h2⟩:=h
  exact⟨x,h1,oy h2 g⟩
theorem o9 {a:Ac}:∀{p:List Ac} {t s u:T},t.sub p=some s->iK s a=some u->t.sub (p++[a])=some u
 | [],t,s,u,h,g=>by rw[T.sub]at h;cases h;rw[Er,T.sub,g];rfl
 | b::p,t,s,u,h,g=>by
  rw[T.sub]at h
  rw[D8,T.sub]
  cases e:iK t b with
  | none=>rw[e]at h;cases h
  | some x=>rw[e]at h;exact o9 (p:=p) h g
section
variable  {K:yF}{H:Hp}
theorem Rpk.at {k:I}:∀{ts:List (I×T)} {xs:List (I×V)} {F:List Addr} {t:T},Rpk K H ts xs F->eU ts k=some t →
  ∃x A G B,eU xs k=some x/\Rp K H t x G/\F=A++G++B/\∀H' s' G',(∀{u:T} {w:V} {F':List Addr},(∀a∈F',a∈A∨a∈B)->Rp K H u w F'->Rp K H' u w F')->Rp K H' s' x G'->Rpk K H' (jN ts k s') xs (A++G'++B)
 | [],xs,F,t,h,e=>by simp[eU]at e
 | (k',d)::ds,xs,F,t,h,e=>by
  rw[Rpk]at h
  obtain⟨x,r,F1,F2,rfl,h2,h3,rfl⟩:=h
  by_cases hk:k'=k
  ·subst hk
   simp[eU]at e
   subst e
   refine⟨x,[],F1,F2,by simp[eU],h2,by simp,λH' s' G' st q=>?_⟩
   simp only[jN,if_pos]
   rw[Rpk]
   refine⟨x,r,G',F2,rfl,q,?_,by simp⟩
   have:∀{ts:List (I×T)} {xs:List (I×V)} {F:List Addr},(∀a∈F,a∈F2)->Rpk K H ts xs F->Rpk K H' ts xs F:=by
    intro ts
    induction ts with
    | nil=>intro xs F _ h;rw[Rpk]at h⊢;exact h
    | cons p ts ih=>
     intro xs F hF h
     obtain⟨k2,t2⟩:=p
     rw[Rpk]at h⊢
     obtain⟨y,r,G1,G2,h1,h2,h3,rfl⟩:=h
     exact⟨y,r,G1,G2,h1,st (λa ha=>.inr (hF a (yaL _ ha))) h2,ih (λa ha=>hF a (yaR _ ha)) h3,rfl⟩
   exact this (λa ha=>ha) h3
  ·simp[eU,hk]at e
   obtain⟨y,A,G,B,h4,h5,h6,h7⟩:=Rpk.at h3 e
   refine⟨y,F1++A,G,B,by simp[eU,hk,h4],h5,by rw[h6];simp,λH' s' G' st q=>?_⟩
   simp only[jN,if_neg hk]
   rw[Rpk]
   exact⟨x,r,F1,A++G'++B,rfl,st (λa ha=>.inl (yaL _ ha)) h2,h7 H' s' G' (λha=>st (λa h=>(ha a h).imp (yaR _) id)) q,by simp⟩
theorem Rpf.at {k:Str}:∀{ts:List (Str×T)} {xs:List (Str×V)} {F:List Addr} {t:T},Rpf K H ts xs F->eU ts k=some t →
  ∃x A G B,eU xs k=some x/\Rp K H t x G/\F=A++G++B/\∀H' s' G',(∀{u:T} {w:V} {F':List Addr},(∀a∈F',a∈A∨a∈B)->Rp K H u w F'->Rp K H' u w F')->Rp K H' s' x G'->Rpf K H' (jN ts k s') xs (A++G'++B)
 | [],xs,F,t,h,e=>by simp[eU]at e
 | (k',d)::ds,xs,F,t,h,e=>by
  rw[Rpf]at h
  obtain⟨x,r,F1,F2,rfl,h2,h3,rfl⟩:=h
  by_cases hk:k'=k
  ·subst hk
   simp[eU]at e
   subst e
   refine⟨x,[],F1,F2,by simp[eU],h2,by simp,λH' s' G' st q=>?_⟩
   simp only[jN,if_pos]
   rw[Rpf]
   refine⟨x,r,G',F2,rfl,q,?_,by simp⟩
   have:∀{ts:List (Str×T)} {xs:List (Str×V)} {F:List Addr},(∀a∈F,a∈F2)->Rpf K H ts xs F->Rpf K H' ts xs F:=by
    intro ts
    induction ts with
    | nil=>intro xs F _ h;rw[Rpf]at h⊢;exact h
    | cons p ts ih=>
     intro xs F hF h
     obtain⟨k2,t2⟩:=p
     rw[Rpf]at h⊢
     obtain⟨y,r,G1,G2,h1,h2,h3,rfl⟩:=h
     exact⟨y,r,G1,G2,h1,st (λa ha=>.inr (hF a (yaL _ ha))) h2,ih (λa ha=>hF a (yaR _ ha)) h3,rfl⟩
   exact this (λa ha=>ha) h3
  ·simp[eU,hk]at e
   obtain⟨y,A,G,B,h4,h5,h6,h7⟩:=Rpf.at h3 e
   refine⟨y,F1++A,G,B,by simp[eU,hk,h4],h5,by rw[h6];simp,λH' s' G' st q=>?_⟩
   simp only[jN,if_neg hk]
   rw[Rpf]
   exact⟨x,r,F1,A++G'++B,rfl,st (λa ha=>.inl (yaL _ ha)) h2,h7 H' s' G' (λha=>st (λa h=>(ha a h).imp (yaR _) id)) q,by simp⟩
theorem Mu.lst {a:Addr}{xs:List V}(m:Mu H a)(h:Rd H a (.lst xs)):H a=some (.lst xs):=by
 rcases h with h|⟨o,h⟩
 ·exact h
 ·obtain⟨u,e,m⟩:=m;rw[h]at e;cases e;cases m
theorem Rps.stay {H':Hp}:∀{ts:List T} {xs:List V} {F:List Addr},(∀{u:T} {w:V} {F':List Addr},(∀a∈F',a∈F)->Rp K H u w F'->Rp K H' u w F')->Rps K H ts xs F->Rps K H' ts xs F
 | [],_,_,_,h=>by rw[Rps]at h⊢;exact h
 | t::ts,_,_,n,h=>by
  rw[Rps]at h⊢;obtain⟨y,r,F1,F2,h1,h2,h3,rfl⟩:=h
  exact⟨y,r,F1,F2,h1,n (λa ha=>yaL _ ha) h2,Rps.stay (λha=>n λa h=>yaR _ (ha a h)) h3,rfl⟩
theorem Rp.at1 {t s:T}{v:V}{F:List Addr}{a:Ac}(h:Rp K H t v F)(mu:∀b∈F,Mu H b)(nd:F.Nodup)(e:iK t a=some s) :
  ∃w A G B,L2.at1 K H v a w/\Rp K H s w G/\F=A++G++B/\∀H' s' G',OffM G H H'->Rp K H' s' w G'->Rp K H' (zB t a s') v (A++G'++B):=by
 have dj:∀{A G B:List Addr},F=A++G++B->∀b,(b∈A∨b∈B)->b∉G:=by
  intro A G B e b hb hg
  rw[e]at nd
  rcases hb with hb|hb
  ·exact(DF.mp (DF.mp nd).1).2.2 b hb b hg rfl
  ·exact(DF.mp nd).2.2 b (yaR _ hg) b hb rfl
 have muG:∀{A G B:List Addr},F=A++G++B->∀b∈G,Mu H b:=λe b hb=>mu b (by rw[e];simp[hb])
 cases t with
 | lst ts=>
  cases a with
  | ix n=>
   rw[Rp]at h
   obtain⟨a,xs,F',rfl,h2,h3,rfl⟩:=h
   have ha:=(mu a ymS).lst h2
   obtain⟨x,A,G,B,h4,h5,h6,h7,h8⟩:=h3.at e
   have e':a::F'=(a::A)++G++B:=by rw[h6];simp
   refine⟨x,a::A,G,B,⟨a,xs,rfl,ha,h4⟩,h5,e',λH' s' G' off q=>?_⟩
   have st:∀{u:T} {w:V} {F':List Addr},(∀b∈F',b∈A∨b∈B)->Rp K H u w F'->Rp K H' u w F':=λhb r=>r.off off (muG e') (λb z=>dj e' b ((hb b z).imp (ymC _) id))
   show Rp K H' (.lst (ts.set n s')) (.ref a) _
   rw[Rp]
   refine⟨a,xs,A++G'++B,rfl,.inl (off a _ ha (dj e' a (.inl ymS))),?_,by simp⟩
   have hn:n<ts.length:=(DB.mp e).1
   have hn':n<xs.length:=(DB.mp h4).1
   have e1:ts.set n s'=ts.take n++s'::ts.drop (n+1):=by rw[List.set_eq_take_append_cons_drop,if_pos hn]
   have e2:xs=xs.take n++x::xs.drop (n+1):=by
    have:=DB.mp h4
    obtain⟨hl,hx⟩:=this
    conv=>lhs;rw[←Fs n xs,EK hl,hx]
   rw[e1,e2,DU]
   exact Rps.append (Rps.stay (λhb=>st λb z=>.inl (hb b z)) h7) (Rps.cons q (Rps.stay (λhb=>st λb z=>.inr (hb b z)) h8))
  | ky k=>cases e
  | fd k=>cases e
 | dc kvs=>
  cases a with
  | ky k=>
   rw[Rp]at h
   obtain⟨a,xs,F',rfl,h2,h3,rfl⟩:=h
   obtain⟨x,A,G,B,h4,h5,h6,h7⟩:=h3.at e
   have e':a::F'=(a::A)++G++B:=by rw[h6];simp
   refine⟨x,a::A,G,B,⟨a,xs,rfl,h2,h4⟩,h5,e',λH' s' G' off q=>?_⟩
   have st:∀{u:T} {w:V} {F':List Addr},(∀b∈F',b∈A∨b∈B)->Rp K H u w F'->Rp K H' u w F':=λhb r=>r.off off (muG e') (λb z=>dj e' b ((hb b z).imp (ymC _) id))
   show Rp K H' (.dc (jN kvs k s')) (.ref a) _
   rw[Rp]
   exact⟨a,xs,A++G'++B,rfl,h2.off off (dj e' a (.inl ymS)),h7 H' s' G' st q,by simp⟩
  | ix k=>cases e
  | fd k=>cases e
 | ins C fs=>
  cases a with
  | fd k=>
   rw[Rp]at h
   obtain⟨a,dx,xs,F',rfl,h2,h3,rfl⟩:=h
   obtain⟨x,A,G,B,h4,h5,h6,h7⟩:=h3.at e
   have e':a::F'=(a::A)++G++B:=by rw[h6];simp
   refine⟨x,a::A,G,B,⟨a,C,dx,xs,rfl,h2,h4⟩,h5,e',λH' s' G' off q=>?_⟩
   have st:∀{u:T} {w:V} {F':List Addr},(∀b∈F',b∈A∨b∈B)->Rp K H u w F'->Rp K H' u w F':=λhb r=>r.off off (muG e') (λb z=>dj e' b ((hb b z).imp (ymC _) id))
   show Rp K H' (.ins C (jN fs k s')) (.ref a) _
   rw[Rp]
   exact⟨a,dx,xs,A++G'++B,rfl,off a _ h2 (dj e' a (.inl ymS)),h7 H' s' G' st q,by simp⟩
  | ix k=>cases e
  | ky k=>cases e
 | im _=>cases a<;>cases e
 | tup _=>cases a<;>cases e
 | li _=>cases a<;>cases e
 | di _=>cases a<;>cases e
theorem Rp.atP:∀{p:List Ac} {t s:T} {v:V} {F:List Addr},Rp K H t v F->(∀b∈F,Mu H b)->F.Nodup->t.sub p=some s →
  ∃w A G B,L2.atP K H v p w/\Rp K H s w G/\F=A++G++B/\∀H' s' G',OffM G H H'->Rp K H' s' w G'->Rp K H' (t.put p s') v (A++G'++B)
 | [],t,s,v,F,h,mu,nd,e=>by
  rw[T.sub]at e;cases e
  exact⟨v,[],F,[],rfl,h,by simp,λH' s' G' _ q=>by rw[T.put];simpa using q⟩
 | a::p,t,s,v,F,h,mu,nd,e=>by
  rw[T.sub]at e
  cases e1:iK t a with
  | none=>rw[e1]at e;cases e
  | some u=>
   rw[e1]at e
   obtain⟨w,A,G,B,h1,h2,rfl,h4⟩:=h.at1 mu nd e1
   have nd2:=(DF.mp (DF.mp nd).1).2.1
   obtain⟨x,A',G',B',g1,g2,rfl,g4⟩:=Rp.atP (p:=p) h2 (λb hb=>mu b (yaL _ (yaR _ hb))) nd2 e
   refine⟨x,A++A',G',B'++B,⟨w,h1,g1⟩,g2,by simp,λH' s' G2 off q=>?_⟩
   rw[T.put,e1]
   have:=h4 H' (u.put p s') (A'++G2++B') (off.mono λb hb=>by simp[hb]) (g4 H' s' G2 off q)
   simpa using this
end
inductive Kd where
 | ow|io (k:Nat)|vw (r:Option Nat) (p:Option (List Ac))
structure R where
 k:Kd
 t:T
structure En where
 key:Option Nat
 v:V
 r:R
structure Hd where
 e:En
 F:List Addr
structure Gm where
 K:yF
 H0:Hp
 io:List Addr
 iov:List V
noncomputable def Kd.isOw:Kd->Bool
 | .vw _ _=>false|_=>true
noncomputable def Kd.root:Kd->Option Nat
 | .vw r _=>r|_=>none
noncomputable def Hd.own (h:Hd):List Addr:=if h.e.r.k.isOw=true then h.F else []
def KdOk (Γ:Gm)(H:Hp)(L:List Hd)(h:Hd):Prop:=match h.e.r.k with
 | .ow=>∀a∈h.F,Γ.H0 a=none
 | .io k=>Γ.iov[k]?=some h.e.v
 | .vw none _=>∀a∈h.F,a∉L.flatMap Hd.own
 | .vw (some j) p=>∃g∈L,g.e.key=some j/\g.e.r.k.isOw=true/\(∀a∈h.F,a∈g.F∨a∉L.flatMap Hd.own)/\∀q,p=some q->g.e.r.t.sub q=some h.e.r.t/\atP Γ.K H g.e.v q h.e.v
structure GW (Γ:Gm)(H:Hp)(L:List Hd):Prop where
 nd:(L.flatMap Hd.own).Nodup
 ad:∀a∈L.flatMap Hd.own,Mu H a/\(Γ.H0 a=none∨a ∈ Γ.io)
 rp:∀h∈L,Rp Γ.K H h.e.r.t h.e.v h.F
 kd:∀h∈L,KdOk Γ H L h
 ks:(L.filterMap λh=>h.e.key).Nodup
 fr:∀b o,Γ.H0 b=some o->b∉Γ.io->H b=some o
 iol:∀a ∈ Γ.io,∃o,H a=some o
section
variable  {Γ:Gm}{H H':Hp}{L L':List Hd}{h:Hd}
theorem KdOk.sub (k:KdOk Γ H L h)(s:∀g∈L,g.e.r.k.isOw=true->g∈L')(o:∀a∈L'.flatMap Hd.own,a∈L.flatMap Hd.own):KdOk Γ H L' h:=by
 unfold KdOk at k⊢
 split at k
 ·exact k
 ·exact k
 ·exact λa ha z=>k a ha (o a z)
 ·obtain⟨g,h1,h2,h3,h4,h5⟩:=k
  exact⟨g,s g h1 h3,h2,h3,λa ha=>(h4 a ha).imp id λz w=>z (o a w),h5⟩
theorem GW.perm (G:GW Γ H L)(p:L.Perm L'):GW Γ H L':=
 ⟨(p.flatMap_right _).nodup_iff.mp G.nd,λa ha=>G.ad a ((p.flatMap_right _).mem_iff.mpr ha),λh hh=>G.rp h (p.mem_iff.mpr hh),λh hh=>(G.kd h (p.mem_iff.mpr hh)).sub (λg hg _=>p.mem_iff.mp hg) (λa ha=>(p.flatMap_right _).mem_iff.mpr ha),(p.filterMap _).nodup_iff.mp G.ks,G.fr,G.iol⟩
theorem i7 (s:L'.Sublist L):(L'.flatMap Hd.own).Sublist (L.flatMap Hd.own):=by
 induction s with
 | slnil=>exact List.Sublist.refl _
 | cons a s ih=>rw[DL];exact ih.trans (List.sublist_append_right _ _)
 | cons_cons a s ih=>rw[DL,DL];exact(List.Sublist.refl _).append ih
theorem GW.sub (G:GW Γ H L)(s:L'.Sublist L)(ro:∀h∈L',∀j,h.e.r.k.root=some j->∀g∈L,g.e.key=some j->g.e.r.k.isOw=true->g∈L'):GW Γ H L':=by
 refine⟨(i7 s).nodup G.nd,λa ha=>G.ad a ((i7 s).subset ha),λh hh=>G.rp h (s.subset hh),λh hh=>?_,(s.filterMap _).nodup G.ks,G.fr,G.iol⟩
 have k:=G.kd h (s.subset hh)
 unfold KdOk at k⊢
 split at k
 ·exact k
 ·exact k
 ·exact λa ha z=>k a ha ((i7 s).subset z)
 ·rename_i j p e
  obtain⟨g,h1,h2,h3,h4,h5⟩:=k
  exact⟨g,ro h hh j (by rw[e];rfl) g h1 h2 h3,h2,h3,λa ha=>(h4 a ha).imp id λz w=>z ((i7 s).subset w),h5⟩
theorem GW.drop (G:GW Γ H (h::L))(hk:h.e.key=none):GW Γ H L:=by
 refine G.sub (F7 _ _) λg hg j _ x hx hj _=>?_
 rcases ycM hx with rfl|hx
 ·rw[hk]at hj;cases hj
 ·exact hx
theorem GW.dropK (G:GW Γ H (h::L))(hr:∀g∈L,∀j,h.e.key=some j->g.e.r.k.root≠some j):GW Γ H L:=by
 refine G.sub (F7 _ _) λg hg j hj x hx hk _=>?_
 rcases ycM hx with rfl|hx
 ·exact absurd hj (hr g hg j hk)
 ·exact hx
theorem GW.filter (G:GW Γ H L)(p:Hd->Bool)(hp:∀h∈L,h.e.r.k.isOw=true->p h=true):GW Γ H (L.filter p):=
 G.sub Ev λh hh j hj g hg hk ho=>DR.mpr ⟨hg,hp g hg ho⟩
theorem GW.new0 (G:GW Γ H L){a:Addr}(e:H a=none) : Γ.H0 a=none:=by
 cases q : Γ.H0 a with
 | none=>rfl
 | some o=>
  exfalso
  by_cases hio:a ∈ Γ.io
  ·obtain⟨o,e'⟩:=G.iol a hio;rw[e]at e';cases e'
  ·have:=G.fr a o q hio;rw[e]at this;cases this
theorem GW.push (G:GW Γ H L){v:V}{r:R}{F:List Addr}(hr:Rp Γ.K H r.t v F)(hk:KdOk Γ H L ⟨⟨none,v,r⟩,F⟩)(hF:r.k.isOw=false∨F=[]):GW Γ H (⟨⟨none,v,r⟩,F⟩::L):=by
 have e:Hd.own ⟨⟨none,v,r⟩,F⟩=[]:=by
  unfold Hd.own
  rcases hF with h|h
  ·simp[h]
  ·simp[h]
 refine⟨by rw[DL,e];exact G.nd,λa ha=>G.ad a (by rw[DL,e]at ha;exact ha),λx hx=>?_,λx hx=>?_,?_,G.fr,G.iol⟩
 ·rcases ycM hx with rfl|hx
  ·exact hr
  ·exact G.rp x hx
 ·rcases ycM hx with rfl|hx
  ·exact hk.sub (λg hg _=>ymC _ hg) (λa ha=>by rw[DL,e]at ha;exact ha)
  ·exact(G.kd x hx).sub (λg hg _=>ymC _ hg) (λa ha=>by rw[DL,e]at ha;exact ha)
 ·rw[DZ];exact G.ks
theorem GW.rekey (G:GW Γ H (h::L))(hk:h.e.key=none){key:Option Nat}(hn:∀j,key=some j->j∉L.filterMap λh=>h.e.key):GW Γ H (⟨⟨key,h.e.v,h.e.r⟩,h.F⟩::L):=by
 have eo:((⟨⟨key,h.e.v,h.e.r⟩,h.F⟩:Hd)::L).flatMap Hd.own=(h::L).flatMap Hd.own:=rfl
 have ro:∀x∈L,KdOk Γ H (h::L) x->KdOk Γ H (⟨⟨key,h.e.v,h.e.r⟩,h.F⟩::L) x:=λx hx k=>by
  unfold KdOk at k⊢
  split at k
  ·exact k
  ·exact k
  ·exact k
  ·obtain⟨g,h1,h2,h3⟩:=k
   rcases ycM h1 with rfl|h1
   ·rw[hk]at h2;cases h2
   ·exact⟨g,ymC _ h1,h2,h3⟩
 refine⟨G.nd,G.ad,λx hx=>?_,λx hx=>?_,?_,G.fr,G.iol⟩
 ·rcases ycM hx with rfl|hx
  ·exact G.rp h ymS
  ·exact G.rp x (ymC _ hx)
 ·rcases ycM hx with rfl|hx
  ·have k:=G.kd h ymS
   unfold KdOk at k⊢
   split at k
   ·rename_i e;simp only[e];exact k
   ·rename_i e;simp only[e];exact k
   ·rename_i e;simp only[e];exact k
   ·rename_i e
    simp only[e]
    obtain⟨g,h1,h2,h3⟩:=k
    rcases ycM h1 with rfl|h1
    ·rw[hk]at h2;cases h2
    ·exact⟨g,ymC _ h1,h2,h3⟩
  ·exact ro x hx (G.kd x (ymC _ hx))
 ·have g:=G.ks
  rw[DZ,hk]at g
  rw[DZ]
  cases key with
  | none=>exact g
  | some j=>exact D9.mpr ⟨hn j rfl,g⟩
theorem gY {a:Addr}(ho:h.e.r.k.isOw=true)(ha:a∈h.F):a∈h.own:=by unfold Hd.own;rw[if_pos ho];exact ha
theorem GW.apart {hs:List Hd}(G:GW Γ H (hs++L))(hr:∀g∈L,∀h∈hs,∀j,h.e.key=some j->g.e.r.k.root≠some j)(ho:∀h∈hs,h.e.r.k.isOw=true):∀g∈L,∀a∈g.F,∀h∈hs,a∉h.F:=by
 intro g hg a ha h hh hah
 have nd:=G.nd
 rw[DO]at nd
 have h1:a∈hs.flatMap Hd.own:=Eu.mpr ⟨h,hh,gY (ho h hh) hah⟩
 have out:a∉(hs++L).flatMap Hd.own->False:=λn=>n (by rw[DO];exact yaL _ h1)
 have k:=G.kd g (yaR _ hg)
 have own:∀x∈L,x.e.r.k.isOw=true->a∈x.F->False:=λx hx ox hax=>
  (DF.mp nd).2.2 a h1 a (Eu.mpr ⟨x,hx,gY ox hax⟩) rfl
 unfold KdOk at k
 split at k
 ·rename_i e;exact own g hg (by rw[e];rfl) ha
 ·rename_i e;exact own g hg (by rw[e];rfl) ha
 ·exact out (k a ha)
 ·rename_i j p e
  obtain⟨x,h1',h2,h3,h4,_⟩:=k
  rcases h4 a ha with z|z
  ·rcases yaM h1' with hx|hx
   ·exact hr g hg x hx j h2 (by rw[e];rfl)
   ·exact own x hx h3 z
  ·exact out z
theorem kX {M:List Addr}(off:OffM M H H'){F:List Addr}(hF:∀a∈F,a∉M)(mu:∀a∈F,Mu H a):∀{q:List Ac} {t s:T} {v w:V} {F':List Addr},(∀a∈F',a∈F)->F'.Nodup->Rp Γ.K H t v F'->t.sub q=some s->atP Γ.K H v q w->atP Γ.K H' v q w
 | [],_,_,_,_,_,_,_,_,_,h=>h
 | a::q,t,s,v,w,F',hs,nd,r,e,h=>by
  rw[atP]at h⊢
  obtain⟨u,h1,h2⟩:=h
  rw[T.sub]at e
  cases e1:iK t a with
  | none=>rw[e1]at e;cases e
  | some x=>
   rw[e1]at e
   obtain⟨y,A,G,B,g1,g2,rfl,_⟩:=r.at1 (λb hb=>mu b (hs b hb)) nd e1
   have:=ou h1 g1
   subst this
   refine⟨u,?_,kX off hF mu (λb hb=>hs b (yaL _ (yaR _ hb))) (DF.mp (DF.mp nd).1).2.1 g2 e h2⟩
   cases a with
   | ix n=>
    obtain⟨b,xs,rfl,z1,z2⟩:=h1
    refine⟨b,xs,rfl,off b _ z1 (hF b ?_),z2⟩
    cases t<;>simp only[iK]at e1<;>try cases e1
    rw[Rp]at r
    obtain⟨b',xs',F'',eb,_,_,eF⟩:=r
    cases eb
    exact hs b (by rw[eF];exact ymS)
   | ky n=>
    obtain⟨b,xs,rfl,z1,z2⟩:=h1
    refine⟨b,xs,rfl,z1.off off (hF b ?_),z2⟩
    cases t<;>simp only[iK]at e1<;>try cases e1
    rw[Rp]at r
    obtain⟨b',xs',F'',eb,_,_,eF⟩:=r
    cases eb
    exact hs b (by rw[eF];exact ymS)
   | fd n=>
    obtain⟨b,C,dx,xs,rfl,z1,z2⟩:=h1
    refine⟨b,C,dx,xs,rfl,off b _ z1 (hF b ?_),z2⟩
    cases t<;>simp only[iK]at e1<;>try cases e1
    rw[Rp]at r
    obtain⟨b',dx',xs',F'',eb,_,_,eF⟩:=r
    cases eb
    exact hs b (by rw[eF];exact ymS)
theorem GW.ndF (G:GW Γ H L)(hh:h∈L)(ho:h.e.r.k.isOw=true):h.F.Nodup:=by
 have nd:=G.nd
 obtain⟨s,t,rfl⟩:=Fo hh
 rw[DO,DL]at nd
 have:=(DF.mp (DF.mp nd).2.1).1
 unfold Hd.own at this
 rw[if_pos ho]at this
 exact this
theorem GW.muF (G:GW Γ H L)(hh:h∈L)(ho:h.e.r.k.isOw=true):∀a∈h.F,Mu H a:=λa ha=>(G.ad a (Eu.mpr ⟨h,hh,gY ho ha⟩)).1
theorem fL {hs:List Hd}(ho:∀h∈hs,h.e.r.k.isOw=true):hs.flatMap Hd.own=hs.flatMap (·.F):=by
 induction hs with
 | nil=>rfl
 | cons x xs ih=>
  rw[DL,DL,ih λh hh=>ho h (ymC _ hh)]
  unfold Hd.own
  rw[if_pos (ho x ymS)]
theorem GW.step {hs:List Hd}(G:GW Γ H (hs++L))(ho:∀h∈hs,h.e.r.k.isOw=true)(hr:∀g∈L,∀h∈hs,∀j,h.e.key=some j->g.e.r.k.root≠some j)
  (off:OffM (hs.flatMap (·.F)) H H') (dom:∀a∈hs.flatMap (·.F),∃o,H' a=some o) {key:Option Nat} {v:V} {r:R} {F:List Addr} (nd:F.Nodup) (hF:∀a∈F,(a∈hs.flatMap (·.F)∨H a=none)/\Mu H' a) (hp:Rp Γ.K H' r.t v F)
  (hk:(r.k=.ow/\∀h∈hs,h.e.r.k=.ow) ∨ ∃k,r.k=.io k/\Γ.iov[k]?=some v) (hkey:∀j,key=some j->j∉L.filterMap λh=>h.e.key):GW Γ H' (⟨⟨key,v,r⟩,F⟩::L):=by
 have iow:r.k.isOw=true:=by rcases hk with⟨e,_⟩|⟨k,e,_⟩<;>rw[e]<;>rfl
 have eo:=fL ho
 have G':=G.nd
 rw[DO,eo]at G'
 have nd1:=(DF.mp G').2.1
 have dj:=(DF.mp G').2.2
 have adL:∀a∈L.flatMap Hd.own,Mu H a/\(Γ.H0 a=none∨a ∈ Γ.io):=λa ha=>G.ad a (by rw[DO];exact yaR _ ha)
 have adM:∀a∈hs.flatMap (·.F),Mu H a/\(Γ.H0 a=none∨a ∈ Γ.io):=λa ha=>G.ad a (by rw[DO,eo];exact yaL _ ha)
 have ap:=G.apart hr ho
 have apM:∀g∈L,∀a∈g.F,a∉hs.flatMap (·.F):=λg hg a ha hm=>by
  obtain⟨h,hh,hah⟩:=Eu.mp hm
  exact ap g hg a ha h hh hah
 have eF:Hd.own ⟨⟨key,v,r⟩,F⟩=F:=by unfold Hd.own;rw[if_pos iow]
 have f0:∀a∈F,Γ.H0 a=none∨a ∈ Γ.io:=λa ha=>by
  rcases(hF a ha).1 with z|z
  ·exact(adM a z).2
  ·exact .inl (G.new0 z)
 refine⟨?_,λa ha=>?_,λx hx=>?_,λx hx=>?_,?_,λb o e n=>?_,λa ha=>?_⟩
 ·rw[DL,eF]
  refine DF.mpr ⟨nd,nd1,λa ha b hb=>?_⟩
  rintro rfl
  rcases(hF a ha).1 with z|z
  ·exact dj a z a hb rfl
  ·obtain⟨o,e,_⟩:=(adL a hb).1
   rw[z]at e;cases e
 ·rw[DL,eF]at ha
  rcases yaM ha with ha|ha
  ·exact⟨(hF a ha).2,f0 a ha⟩
  ·obtain⟨⟨o,e,m⟩,z⟩:=adL a ha
   exact⟨⟨o,off a o e λhm=>dj a hm a ha rfl,m⟩,z⟩
 ·rcases ycM hx with rfl|hx
  ·exact hp
  ·exact(G.rp x (yaR _ hx)).off off (λa ha=>(adM a ha).1) (apM x hx)
 ·rcases ycM hx with rfl|hx
  ·unfold KdOk
   rcases hk with⟨e,eh⟩|⟨k,e,ek⟩
   ·simp only[e]
    intro a ha
    rcases(hF a ha).1 with z|z
    ·obtain⟨h,hh,hah⟩:=Eu.mp z
     have q:=G.kd h (yaL _ hh)
     unfold KdOk at q
     rw[eh h hh]at q
     exact q a hah
    ·exact G.new0 z
   ·simp only[e];exact ek
  ·have k:=G.kd x (yaR _ hx)
   have st:∀a∈x.F,a∉(hs++L).flatMap Hd.own->a∉((⟨⟨key,v,r⟩,F⟩:Hd)::L).flatMap Hd.own:=λa ha n z=>by
    rw[DL,eF]at z
    rcases yaM z with z|z
    ·rcases(hF a z).1 with w|w
     ·exact n (by rw[DO,eo];exact yaL _ w)
     ·obtain⟨o,e⟩:=(G.rp x (yaR _ hx)).dom a ha
      rw[w]at e;cases e
    ·exact n (by rw[DO];exact yaR _ z)
   unfold KdOk at k⊢
   split at k
   ·exact k
   ·exact k
   ·exact λa ha=>st a ha (k a ha)
   ·rename_i j p e
    obtain⟨g,h1,h2,h3,h4,h5⟩:=k
    rcases yaM h1 with hg|hg
    ·exact absurd (by rw[e];rfl) (hr x hx g hg j h2)
    ·refine⟨g,ymC _ hg,h2,h3,λa ha=>(h4 a ha).imp id (st a ha),λq hq=>⟨(h5 q hq).1,?_⟩⟩
     exact kX off (F:=g.F) (apM g hg) (G.muF (yaR _ hg) h3) (λa ha=>ha) (G.ndF (yaR _ hg) h3) (G.rp g (yaR _ hg)) (h5 q hq).1 (h5 q hq).2
 ·have g:=G.ks
  rw[DY]at g
  have g2:=(DF.mp g).2.1
  rw[DZ]
  cases key with
  | none=>exact g2
  | some j=>exact D9.mpr ⟨hkey j rfl,g2⟩
 ·refine off b o (G.fr b o e n) λhm=>?_
  rcases(adM b hm).2 with z|z
  ·rw[z]at e;cases e
  ·exact n z
 ·obtain⟨o,e⟩:=G.iol a ha
  by_cases hm:a∈hs.flatMap (·.F)
  ·exact dom a hm
  ·exact⟨o,off a o e hm⟩
end
theorem kD {α β:Type}{f : α->β}{N M:List β}(p:N.Perm M):∀L:List α,L.map f=N->∃L',L.Perm L'/\L'.map f=M:=by
 induction p with
 | nil=>intro L h;exact⟨L,List.Perm.refl _,h⟩
 | cons x p ih=>
  intro L h
  cases L with
  | nil=>cases h
  | cons a L=>
   rw[DJ,E3.injEq]at h
   obtain⟨L',h1,h2⟩:=ih L h.2
   exact⟨a::L',h1.cons a,by rw[DJ,h.1,h2]⟩
 | swap x y l=>
  intro L h
  cases L with
  | nil=>cases h
  | cons a L=>
   cases L with
   | nil=>cases h
   | cons b L=>
    simp only[DJ,E3.injEq]at h
    exact⟨b::a::L,List.Perm.swap _ _ _,by simp[h.1,h.2.1,h.2.2]⟩
 | trans p q ih1 ih2=>
  intro L h
  obtain⟨L1,h1,h2⟩:=ih1 L h
  obtain⟨L2,h3,h4⟩:=ih2 L1 h2
  exact⟨L2,h1.trans h3,h4⟩
def SimL (Γ:Gm)(H:Hp)(X:List En):Prop:=∃L,GW Γ H L/\L.map (·.e)=X
section
variable  {Γ:Gm}{H H':Hp}{X Y:List En}{e:En}
theorem SimL.perm (S:SimL Γ H X)(p:X.Perm Y):SimL Γ H Y:=by
 obtain⟨L,g,e⟩:=S
 obtain⟨L',h1,h2⟩:=kD p L e
 exact⟨L',g.perm h1,h2⟩
theorem aF {α β:Type}{f : α->β}{L:List α}{b : β}{X:List β}(h:L.map f=b::X):∃a L',L=a::L'/\f a=b/\L'.map f=X:=by
 cases L with
 | nil=>cases h
 | cons a L=>rw[DJ,E3.injEq]at h;exact⟨a,L,rfl,h.1,h.2⟩
theorem dQ {α β:Type}{f : α->β}:∀{A:List β} {L:List α} {B:List β},L.map f=A++B->∃L1 L2,L=L1++L2/\L1.map f=A/\L2.map f=B
 | [],L,B,h=>⟨[],L,rfl,rfl,h⟩
 | a::A,L,B,h=>by
  obtain⟨x,L',rfl,h1,h2⟩:=aF h
  obtain⟨L1,L2,rfl,h3,h4⟩:=dQ h2
  exact⟨x::L1,L2,rfl,by rw[DJ,h1,h3],h4⟩
theorem SimL.drop (S:SimL Γ H (e::X))(hk:e.key=none):SimL Γ H X:=by
 obtain⟨L,g,h⟩:=S
 obtain⟨x,L',rfl,h1,h2⟩:=aF h
 subst h1
 exact⟨L',g.drop hk,h2⟩
theorem SimL.dropK (S:SimL Γ H (e::X))(hr:∀g∈X,∀j,e.key=some j->g.r.k.root≠some j):SimL Γ H X:=by
 obtain⟨L,g,h⟩:=S
 obtain⟨x,L',rfl,h1,h2⟩:=aF h
 subst h1
 refine⟨L',g.dropK λy hy j hj=>hr y.e (by rw[←h2];exact Eb hy) j hj,h2⟩
noncomputable def aE (M:List Nat) (e:En):Bool:=match e.r.k.root with
 | some j=>!M.contains j
 | none=>true
noncomputable def af (M:List Nat) (E:List En):List En:=E.filter (aE M)
theorem pP (e:En):aE [] e=true:=by unfold aE;split<;>rfl
theorem bW (E:List En):af [] E=E:=by unfold af;rw[ET];intro a _;exact pP a
theorem aD (M:List Nat)(A B:List En):af M (A++B)=af M A++af M B:=FI ..
theorem kj (M N:List Nat)(e:En):aE (M++N) e=(aE N e&&aE M e):=by
 unfold aE
 split
 ·rename_i j _
  by_cases h1:j∈M<;>by_cases h2:j∈N<;>simp[h1,h2]
 ·rfl
theorem ag (M N:List Nat)(E:List En):af N (af M E)=af (M++N) E:=by
 unfold af
 rw[FJ]
 congr 1
 funext e
 rw[kj]
theorem SimL.kill (S:SimL Γ H X)(M:List Nat):SimL Γ H (af M X):=by
 obtain⟨L,g,h⟩:=S
 refine⟨L.filter λx=>aE M x.e,g.filter _ λx _ ho=>?_,?_⟩
 ·unfold aE
  cases k:x.e.r.k with
  | vw r p=>rw[k]at ho;cases ho
  | ow=>rfl
  | io _=>rfl
 ·rw[←h];unfold af;rw[FD];rfl
theorem SimL.push (S:SimL Γ H X){v:V}{i:I}(h:RpI Γ.K H i v):SimL Γ H (⟨none,v,⟨.ow,.im i⟩⟩::X):=by
 obtain⟨L,g,hX⟩:=S
 exact⟨_,g.push (v:=v) (r:=⟨.ow,.im i⟩) (fN h) (λa ha=>by cases ha) (.inr rfl),by rw[DJ,hX]⟩
theorem SimL.rekey (S:SimL Γ H (e::X))(hk:e.key=none){key:Option Nat}(hn:∀j,key=some j->∀g∈X,g.key≠some j):SimL Γ H (⟨key,e.v,e.r⟩::X):=by
 obtain⟨L,g,h⟩:=S
 obtain⟨x,L',rfl,h1,h2⟩:=aF h
 subst h1
 refine⟨_,g.rekey hk (key:=key) λj hj hm=>?_,by rw[DJ,h2]⟩
 obtain⟨y,hy,hyk⟩:=Ef.mp hm
 exact hn j hj y.e (by rw[←h2];exact Eb hy) hyk
theorem SimL.rd (S:SimL Γ H X)(he:e∈X):∃F,Rp Γ.K H e.r.t e.v F:=by
 obtain⟨L,g,rfl⟩:=S
 obtain⟨h,hh,rfl⟩:=DM.mp he
 exact⟨h.F,g.rp h hh⟩
theorem SimL.view (S:SimL Γ H X)(he:e∈X){j:Nat}(hk:e.key=some j)(ho:e.r.k.isOw=true):SimL Γ H (⟨none,e.v,⟨.vw (some j) (some []),e.r.t⟩⟩::X):=by
 obtain⟨L,g,rfl⟩:=S
 obtain⟨h,hh,rfl⟩:=DM.mp he
 exact⟨_,g.push (v:=h.e.v) (r:=⟨.vw (some j) (some []),h.e.r.t⟩) (g.rp h hh) ⟨h,hh,hk,ho,λa ha=>.inl ha,λq hq=>by cases hq;exact⟨rfl,rfl⟩⟩ (.inl rfl),rfl⟩
theorem SimL.copy (S:SimL Γ H X)(he:e∈X)(ho:e.r.k.isOw=false):SimL Γ H (⟨none,e.v,e.r⟩::X):=by
 obtain⟨L,g,rfl⟩:=S
 obtain⟨h,hh,rfl⟩:=DM.mp he
 exact⟨_,g.push (v:=h.e.v) (r:=h.e.r) (F:=h.F) (g.rp h hh) (g.kd h hh) (.inl ho),rfl⟩
theorem SimL.part (S:SimL Γ H X)(he:e∈X){ro:Option Nat}{p:Option (List Ac)}(ho:e.r.k=.vw ro p){P:V->Prop}{s:T}(hp:∀F,Rp Γ.K H e.r.t e.v F->∃w G,P w/\Rp Γ.K H s w G/\∀a∈G,a∈F):∃w,P w/\SimL Γ H (⟨none,w,⟨.vw ro none,s⟩⟩::X):=by
 obtain⟨L,g,rfl⟩:=S
 obtain⟨h,hh,rfl⟩:=DM.mp he
 obtain⟨w,G,h1,h2,h3⟩:=hp h.F (g.rp h hh)
 refine⟨w,h1,_,g.push (v:=w) (r:=⟨.vw ro none,s⟩) (F:=G) h2 ?_ (.inl rfl),rfl⟩
 have k:=g.kd h hh
 unfold KdOk at k⊢
 rw[ho]at k
 cases ro with
 | none=>exact λa ha=>k a (h3 a ha)
 | some j=>
  obtain⟨x,x1,x2,x3,x4,x5⟩:=k
  exact⟨x,x1,x2,x3,λa ha=>x4 a (h3 a ha),λq hq=>by cases hq⟩
theorem SimL.partP (S:SimL Γ H X)(he:e∈X){j:Nat}{q:List Ac}(ho:e.r.k=.vw (some j) (some q)){a:Ac}{s:T}(hs:iK e.r.t a=some s):∃w,at1 Γ.K H e.v a w/\SimL Γ H (⟨none,w,⟨.vw (some j) (some (q++[a])),s⟩⟩::X):=by
 obtain⟨L,g,rfl⟩:=S
 obtain⟨h,hh,rfl⟩:=DM.mp he
 have k:=g.kd h hh
 unfold KdOk at k
 rw[ho]at k
 obtain⟨x,x1,x2,x3,x4,x5⟩:=k
 obtain⟨y1,y2⟩:=x5 q rfl
 have ms:x.e.r.t.sub (q++[a])=some s:=o9 y1 hs
 obtain⟨w,A,G,B,z1,z2,z3,_⟩:=(g.rp x x1).atP (g.muF x1 x3) (g.ndF x1 x3) ms
 obtain⟨w0,A0,G0,B0,u1,u2,u3,_⟩:=(g.rp x x1).atP (g.muF x1 x3) (g.ndF x1 x3) y1
 have ew:=gL u1 y2
 subst ew
 have nG:G0.Nodup:=by
  have:=g.ndF x1 x3
  rw[u3]at this
  exact(DF.mp (DF.mp this).1).2.1
 have mG:∀b∈G0,Mu H b:=λb hb=>g.muF x1 x3 b (by rw[u3];exact yaL _ (yaR _ hb))
 obtain⟨w',A',G',B',v1,v2,v3,_⟩:=u2.at1 mG nG hs
 have e2:=gL (oy u1 v1) z1
 subst e2
 refine⟨w',v1,_,g.push (v:=w') (r:=⟨.vw (some j) (some (q++[a])),s⟩) (F:=G) z2 ⟨x,x1,x2,x3,λb hb=>.inl (by rw[z3];exact yaL _ (yaR _ hb)),λq' hq=>?_⟩ (.inl rfl),rfl⟩
 cases hq
 exact⟨ms,z1⟩
noncomputable def ay:List V->List T->List En
 | v::vs,t::ts=>⟨none,v,⟨.ow,t⟩⟩::ay vs ts
 | _,_=>[]
theorem jS:∀{vs:List V} {ts:List T} {L:List Hd},vs.length=ts.length->L.map (·.e)=ay vs ts->(∀h∈L,Rp Γ.K H h.e.r.t h.e.v h.F)->Rps Γ.K H ts vs (L.flatMap (·.F))/\∀h∈L,h.e.r.k=.ow/\h.e.key=none
 | [],[],L,_,h,_=>by
  have:L=[]:=List.map_eq_nil_iff.mp h
  subst this
  exact⟨Rps.nil,by simp⟩
 | v::vs,t::ts,L,hl,h,hr=>by
  obtain⟨x,L',rfl,h1,h2⟩:=aF h
  obtain⟨r1,r2⟩:=jS (vs:=vs) (ts:=ts) (by simpa using hl) h2 λy hy=>hr y (ymC _ hy)
  have rx:=hr x ymS
  rw[h1]at rx
  rw[DL]
  refine⟨Rps.cons rx r1,λy hy=>?_⟩
  rcases ycM hy with rfl|hy
  ·rw[h1];exact⟨rfl,rfl⟩
  ·exact r2 y hy
 | [],_::_,_,h,_,_=>by cases h
 | _::_,[],_,h,_,_=>by cases h
theorem SimL.use {vs:List V}{ts:List T}(S:SimL Γ H (ay vs ts++X))(hl:vs.length=ts.length):∃F,Rps Γ.K H ts vs F/\F.Nodup/\(∀a∈F,Mu H a) ∧
  ∀H' v t F',OffM F H H'->(∀a∈F,∃o,H' a=some o)->F'.Nodup->(∀a∈F',(a∈F∨H a=none)/\Mu H' a)->Rp Γ.K H' t v F'->SimL Γ H' (⟨none,v,⟨.ow,t⟩⟩::X):=by
 obtain⟨L,g,h⟩:=S
 obtain⟨hs,L2,rfl,h1,h2⟩:=dQ h
 obtain⟨r1,r2⟩:=jS hl h1 λy hy=>g.rp y (yaL _ hy)
 have ho:∀h∈hs,h.e.r.k.isOw=true:=λh hh=>by rw[(r2 h hh).1];rfl
 have nd:=g.nd
 rw[DO,fL ho]at nd
 refine⟨_,r1,(DF.mp nd).1,λa ha=>(g.ad a (by rw[DO,fL ho];exact yaL _ ha)).1,λH' v t F' off dom nd' hF rp=>?_⟩
 refine⟨_,g.step ho (λx _ y hy j hj=>by rw[(r2 y hy).2]at hj;cases hj) off dom (key:=none) (v:=v) (r:=⟨.ow,t⟩) nd' hF rp (.inl ⟨rfl,λy hy=>(r2 y hy).1⟩) (λj hj=>by cases hj),by rw[DJ,h2]⟩
theorem SimL.mutP {vs:List V}{ts:List T}{p:List Ac}{s:T}(S:SimL Γ H (e::ay vs ts++X))(hl:vs.length=ts.length)(ho:e.r.k.isOw=true)(hr:∀g∈X,∀j,e.key=some j->g.r.k.root≠some j)(hs:e.r.t.sub p=some s)(hX:∀j,e.key=some j->∀g∈X,g.key≠some j) :
  ∃w G F,atP Γ.K H e.v p w/\Rp Γ.K H s w G/\Rps Γ.K H ts vs F/\(G++F).Nodup/\(∀a∈G++F,Mu H a) ∧
  ∀H' s' G',OffM G H H'->(∀a∈G,∃o,H' a=some o)->G'.Nodup->(∀a∈G',(a∈G++F∨H a=none)/\Mu H' a)->Rp Γ.K H' s' w G'->SimL Γ H' (⟨e.key,e.v,⟨e.r.k,e.r.t.put p s'⟩⟩::X):=by
 obtain⟨L,g,h⟩:=S
 rw[D8]at h
 obtain⟨x,L',rfl,h1,h2⟩:=aF h
 obtain⟨hs',L2,rfl,h3,h4⟩:=dQ h2
 subst h1
 obtain⟨r1,r2⟩:=jS hl h3 λy hy=>g.rp y (ymC _ (yaL _ hy))
 have ho':∀h∈x::hs',h.e.r.k.isOw=true:=λh hh=>by
  rcases ycM hh with rfl|hh
  ·exact ho
  ·rw[(r2 h hh).1];rfl
 have nx:=g.ndF ymS ho
 obtain⟨w,A,G,B,z1,z2,z3,z4⟩:=(g.rp x ymS).atP (g.muF ymS ho) nx hs
 have nd:=g.nd
 rw[show x::(hs'++L2)=(x::hs')++L2 from rfl,DO,fL ho']at nd
 have nd1:=(DF.mp nd).1
 rw[DL,z3]at nd1
 have mu:∀a∈(x::hs').flatMap (·.F),Mu H a:=λa ha=>(g.ad a (by rw[show x::(hs'++L2)=(x::hs')++L2 from rfl,DO,fL ho'];exact yaL _ ha)).1
 have inM:∀a,a∈G++hs'.flatMap (·.F)->a∈(x::hs').flatMap (·.F):=λa ha=>by
  rw[DL,z3]
  rcases yaM ha with z|z
  ·exact yaL _ (yaL _ (yaR _ z))
  ·exact yaR _ z
 have ndA:=(DF.mp nd1)
 have ndG:(G++hs'.flatMap (·.F)).Nodup:=DF.mpr ⟨(DF.mp (DF.mp ndA.1).1).2.1,ndA.2.1,λa ha b hb=>ndA.2.2 a (yaL _ (yaR _ ha)) b hb⟩
 refine⟨w,G,hs'.flatMap (·.F),z1,z2,r1,ndG,λa ha=>mu a (inM a ha),λH' s' G' off dom nd' hG rp=>?_⟩
 have apAB:∀a,(a∈A∨a∈B)->a∉G++hs'.flatMap (·.F):=λa ha hm=>by
  rcases yaM hm with z|z
  ·rcases ha with q|q
   ·exact(DF.mp (DF.mp ndA.1).1).2.2 a q a z rfl
   ·exact(DF.mp ndA.1).2.2 a (yaR _ z) a q rfl
  ·rcases ha with q|q
   ·exact ndA.2.2 a (yaL _ (yaL _ q)) a z rfl
   ·exact ndA.2.2 a (yaR _ q) a z rfl
 have rp':=z4 H' s' G' off rp
 refine⟨_,g.step (hs:=x::hs') (L:=L2) ho' (λy hy z hz j hj=>?_) (off.mono λa ha=>inM a (yaL _ ha)) (λa ha=>?_) (key:=x.e.key) (v:=x.e.v) (r:=⟨x.e.r.k,x.e.r.t.put p s'⟩) (F:=A++G'++B) ?_ (λa ha=>?_) rp' ?_ (λj hj hm=>?_),by rw[DJ,h4]⟩
 ·rcases ycM hz with rfl|hz
  ·exact hr y.e (by rw[←h4];exact Eb hy) j hj
  ·rw[(r2 z hz).2]at hj;cases hj
 ·by_cases hm:a∈G
  ·exact dom a hm
  ·obtain⟨o,e1,_⟩:=mu a ha
   exact⟨o,off a o e1 hm⟩
 ·have ab:=DF.mp ndA.1
  have aG:=DF.mp ab.1
  have nG:∀a,(a∈A∨a∈B)->a∉G':=λa ha hg=>by
   rcases(hG a hg).1 with z|z
   ·exact apAB a ha z
   ·have:Mu H a:=mu a (by
     rw[DL,z3]
     rcases ha with q|q
     ·exact yaL _ (yaL _ (yaL _ q))
     ·exact yaL _ (yaR _ q))
    obtain⟨o,e1,_⟩:=this
    rw[z]at e1;cases e1
  refine DF.mpr ⟨DF.mpr ⟨aG.1,nd',λa ha b hb e=>nG a (.inl ha) (e▸hb)⟩,ab.2.1,λa ha b hb e=>?_⟩
  subst e
  rcases yaM ha with z|z
  ·exact ab.2.2 a (yaL _ z) a hb rfl
  ·exact nG a (.inr hb) z
 ·have old:a∈A∨a∈B->(a∈(x::hs').flatMap (·.F)∨H a=none)/\Mu H' a:=λq=>by
   have hm:a∈(x::hs').flatMap (·.F):=by
    rw[DL,z3]
    rcases q with q|q
    ·exact yaL _ (yaL _ (yaL _ q))
    ·exact yaL _ (yaR _ q)
   obtain⟨o,e1,m1⟩:=mu a hm
   exact⟨.inl hm,o,off a o e1 (λz=>apAB a q (yaL _ z)),m1⟩
  rcases yaM ha with z|z
  ·rcases yaM z with z|z
   ·exact old (.inl z)
   ·exact⟨(hG a z).1.imp (inM a) id,(hG a z).2⟩
  ·exact old (.inr z)
 ·have k:=g.kd x ymS
  unfold KdOk at k
  cases ek:x.e.r.k with
  | ow=>
   refine .inl ⟨rfl,λy hy=>?_⟩
   rcases ycM hy with rfl|hy
   ·exact ek
   ·exact(r2 y hy).1
  | io n=>rw[ek]at k;exact .inr ⟨n,rfl,k⟩
  | vw a b=>rw[ek]at ho;cases ho
 ·obtain⟨y,hy,hyk⟩:=Ef.mp hm
  exact hX j hj y.e (by rw[←h4];exact Eb hy) hyk
end
abbrev Rho:=List (Option R)
noncomputable def aA:Nat->List (Option V)->Rho->List En
 | i,some v::Z,some r::ρ=>⟨some i,v,r⟩::aA (i+1) Z ρ
 | i,none::Z,_::ρ=>aA (i+1) Z ρ
 | i,some _::Z,none::ρ=>aA (i+1) Z ρ
 | _,_,_=>[]
theorem bt {r:R}:∀{k:Nat} {Z:List (Option V)} {ρ:Rho} {i:Nat} {v:V},Z[i]?=some (some v)->ρ[i]?=some (some r)->(aA k Z ρ).Perm (⟨some (k+i),v,r⟩::aA k Z (ρ.set i none))
 | _,[],_,_,_,h,_=>by simp at h
 | _,_::_,[],_,_,_,h=>by simp at h
 | k,x::Z,y::ρ,0,v,h1,h2=>by
  simp at h1 h2
  subst h1 h2
  simp[aA]
 | k,x::Z,y::ρ,i+1,v,h1,h2=>by
  have ih:=bt (k:=k+1) (Z:=Z) (ρ:=ρ) (i:=i) (v:=v) (r:=r) (by simpa using h1) (by simpa using h2)
  rw[show k+1+i=k+(i+1) by omega]at ih
  cases x with
  | none=>simpa[aA]using ih
  | some x=>
   cases y with
   | none=>simpa[aA]using ih
   | some y=>
    simp only[aA,GC]
    exact(List.Perm.cons _ ih).trans (List.Perm.swap _ _ _)
theorem kh:∀{k:Nat} {Z:List (Option V)} {ρ:Rho} {i:Nat} {x:Option V},aA k (Z.set i x) (ρ.set i none)=aA k Z (ρ.set i none)
 | _,[],ρ,_,_=>rfl
 | _,x::Z,[],i,y=>by cases i<;>cases x<;>simp[aA]<;>cases y<;>simp[aA]
 | _,x::Z,y::ρ,0,z=>by cases x<;>cases z<;>simp[aA]
 | k,x::Z,y::ρ,i+1,z=>by
  have ih:=kh (k:=k+1) (Z:=Z) (ρ:=ρ) (i:=i) (x:=z)
  cases x<;>cases y<;>simp[aA,ih]
theorem fF {k:Nat}{Z:List (Option V)}{ρ:Rho}{i:Nat}{v:V}{r:R}(h1:i<Z.length)(h2:i < ρ.length):(aA k (Z.set i (some v)) (ρ.set i (some r))).Perm (⟨some (k+i),v,r⟩::aA k Z (ρ.set i none)):=by
 have:=bt (k:=k) (Z:=Z.set i (some v)) (ρ:=ρ.set i (some r)) (i:=i) (v:=v) (r:=r) (by simp[h1]) (by simp[h2])
 rw[List.set_set,kh]at this
 exact this
theorem cL {e:En}:∀{k:Nat} {Z:List (Option V)} {ρ:Rho},e∈aA k Z ρ->∃i,e.key=some (k+i)/\ρ[i]?=some (some e.r)/\Z[i]?=some (some e.v)
 | _,[],_,h=>by simp[aA]at h
 | _,x::_,[],h=>by cases x<;>simp[aA]at h
 | k,x::Z,y::ρ,h=>by
  have go:e∈aA (k+1) Z ρ->∃i,e.key=some (k+i)/\(y::ρ)[i]?=some (some e.r)/\(x::Z)[i]?=some (some e.v):=λh=>by
   obtain⟨i,h1,h2,h3⟩:=cL h
   exact⟨i+1,by rw[h1];congr 1;omega,by simpa using h2,by simpa using h3⟩
  cases x with
  | none=>simp only[aA]at h;exact go h
  | some x=>
   cases y with
   | none=>simp only[aA]at h;exact go h
   | some y=>
    simp only[aA]at h
    rcases ycM h with rfl|h
    ·exact⟨0,rfl,rfl,rfl⟩
    ·exact go h
noncomputable def cX (M:List Nat) (r:R):Bool:=match r.k.root with
 | some j=>!M.contains j
 | none=>true
noncomputable def ca (M:List Nat):Option R->Option R
 | some r=>if cX M r=true then some r else none
 | none=>none
noncomputable def aq (M:List Nat) (ρ:Rho):Rho:=ρ.map (ca M)
theorem aI (M:List Nat)(ρ:Rho):(aq M ρ).length=ρ.length:=by unfold aq;rw[DH]
theorem eC (M:List Nat):∀{k:Nat} {Z:List (Option V)} {ρ:Rho},aA k Z (aq M ρ)=af M (aA k Z ρ)
 | _,[],_=>rfl
 | _,x::_,[]=>by cases x<;>rfl
 | k,x::Z,y::ρ=>by
  have ih:=eC M (k:=k+1) (Z:=Z) (ρ:=ρ)
  have e:aq M (y::ρ)=ca M y::aq M ρ:=rfl
  rw[e]
  cases x with
  | none=>simpa[aA]using ih
  | some v=>
   cases y with
   | none=>simpa[aA,ca]using ih
   | some r=>
    have hk:aE M ⟨some k,v,r⟩=cX M r:=rfl
    cases q:cX M r with
    | true=>simp only[aA,ca,q,if_true,af,EA,hk,ih]
    | false=>
     simp only[aA,ca,q,af,EA,hk,ih]
     simp[aA,ih,af]
theorem kn {M:List Nat}{ρ:Rho}{i:Nat}{r:R}(h:(aq M ρ)[i]?=some (some r)) : ρ[i]?=some (some r):=by
 unfold aq at h
 rw[DG]at h
 cases q : ρ[i]? with
 | none=>rw[q]at h;cases h
 | some o=>
  rw[q]at h
  cases o with
  | none=>cases h
  | some x=>
   have h':ca M (some x)=some r:=by simpa using h
   simp only[ca]at h'
   split at h'
   ·rw[D5.inj h']
   ·exact absurd h' (by simp)
theorem pT {M:List Nat}{ρ:Rho}{i:Nat}{r:R}(h : ρ[i]?=some (some r))(ho:r.k.isOw=true):(aq M ρ)[i]?=some (some r):=by
 unfold aq
 rw[DG,h]
 have:cX M r=true:=by
  unfold cX
  cases e:r.k with
  | vw a b=>rw[e]at ho;cases ho
  | ow=>rfl
  | io _=>rfl
 simp[ca,this]
structure Sim (Γ:Gm)(H:Hp)(ρ:Rho)(Z:St)(E:List En):Prop where
 sl:SimL Γ H (E++aA 0 Z ρ)
 al:∀(i:Nat) r,ρ[i]?=some (some r)->∃v,Z[i]?=some (some v)
 len:Z.length=ρ.length
 hi:∀e∈E,∀j,e.key=some j->ρ.length<=j
section
variable  {Γ:Gm}{H H':Hp}{ρ:Rho}{Z:St}{E E':List En}{e:En}{r:R}{v w x:V}{i j:Nat}{t s:T}
theorem Sim.perm (S:Sim Γ H ρ Z E)(p:E.Perm E'):Sim Γ H ρ Z E':=⟨S.sl.perm (p.append_right _),S.al,S.len,λe he=>S.hi e (p.mem_iff.mpr he)⟩
theorem Sim.drop (S:Sim Γ H ρ Z (e::E))(hk:e.key=none):Sim Γ H ρ Z E:=⟨S.sl.drop hk,S.al,S.len,λx hx=>S.hi x (ymC _ hx)⟩
theorem Sim.swap {f:En}(S:Sim Γ H ρ Z (e::f::E)):Sim Γ H ρ Z (f::e::E):=S.perm (List.Perm.swap _ _ _)
theorem Sim.imm (S:Sim Γ H ρ Z E){i:I}(h:RpI Γ.K H i v):Sim Γ H ρ Z (⟨none,v,⟨.ow,.im i⟩⟩::E):=
 ⟨S.sl.push h,S.al,S.len,λx hx j hj=>by
  rcases ycM hx with rfl|hx
  ·cases hj
  ·exact S.hi x hx j hj⟩
theorem Sim.rd (S:Sim Γ H ρ Z E)(he:e∈E):∃F,Rp Γ.K H e.r.t e.v F:=S.sl.rd (yaL _ he)
theorem Sim.slot (S:Sim Γ H ρ Z E)(h : ρ[i]?=some (some r)):∃v,Z[i]?=some (some v)/\(⟨some i,v,r⟩:En)∈E++aA 0 Z ρ:=by
 obtain⟨v,hv⟩:=S.al i r h
 refine⟨v,hv,yaR _ ((bt hv h).mem_iff.mpr ?_)⟩
 rw[Eo];exact ymS
noncomputable def rdR (i:Nat):R->R
 | ⟨.ow,.im x⟩=>⟨.ow,.im x⟩
 | ⟨.vw a b,t⟩=>⟨.vw a b,t⟩
 | ⟨_,t⟩=>⟨.vw (some i) (some []),t⟩
theorem Sim.cons (S:Sim Γ H ρ Z E)(h:SimL Γ H' (⟨none,v,r⟩::(E++aA 0 Z ρ))):Sim Γ H' ρ Z (⟨none,v,r⟩::E):=
 ⟨h,S.al,S.len,λx hx j hj=>by
  rcases ycM hx with rfl|hx
  ·cases hj
  ·exact S.hi x hx j hj⟩
theorem Sim.var (S:Sim Γ H ρ Z E)(h : ρ[i]?=some (some r)):∃v,Z[i]?=some (some v)/\Sim Γ H ρ Z (⟨none,v,rdR i r⟩::E):=by
 obtain⟨v,hv,hm⟩:=S.slot h
 refine⟨v,hv,S.cons ?_⟩
 obtain⟨k,t⟩:=r
 cases k with
 | vw a b=>exact S.sl.copy (e:=⟨some i,v,⟨.vw a b,t⟩⟩) hm rfl
 | io n=>
  have:=S.sl.view (e:=⟨some i,v,⟨.io n,t⟩⟩) hm rfl rfl
  cases t<;>exact this
 | ow=>
  cases t with
  | im x=>
   obtain⟨F,rp⟩:=S.sl.rd hm
   exact S.sl.push (bj rp).1
  | tup _=>exact S.sl.view (e:=⟨some i,v,⟨.ow,_⟩⟩) hm rfl rfl
  | li _=>exact S.sl.view (e:=⟨some i,v,⟨.ow,_⟩⟩) hm rfl rfl
  | lst _=>exact S.sl.view (e:=⟨some i,v,⟨.ow,_⟩⟩) hm rfl rfl
  | di _=>exact S.sl.view (e:=⟨some i,v,⟨.ow,_⟩⟩) hm rfl rfl
  | dc _=>exact S.sl.view (e:=⟨some i,v,⟨.ow,_⟩⟩) hm rfl rfl
  | ins _ _=>exact S.sl.view (e:=⟨some i,v,⟨.ow,_⟩⟩) hm rfl rfl
theorem Sim.kill (S:Sim Γ H ρ Z E)(M:List Nat):Sim Γ H (aq M ρ) Z (af M E):=by
 refine⟨?_,λi r h=>S.al i r (kn h),by rw[aI];exact S.len,λx hx j hj=>by rw[aI];exact S.hi x (DR.mp hx).1 j hj⟩
 rw[eC,←aD]
 exact S.sl.kill M
theorem jH {M:List Nat}{X:List En}(hi:i∈M):∀g∈af M X,g.r.k.root≠some i:=λg hg z=>by
 have:=(DR.mp hg).2
 unfold aE at this
 rw[z]at this
 simp[hi]at this
theorem Sim.out (S:Sim Γ H ρ Z E)(h : ρ[i]?=some (some r))(ho:r.k.isOw=true):∃v,Z[i]?=some (some v)/\SimL Γ H (⟨some i,v,r⟩::(af [i] E++aA 0 Z ((aq [i] ρ).set i none))) ∧
  (∀g∈af [i] E++aA 0 Z ((aq [i] ρ).set i none),g.r.k.root≠some i)/\∀g∈af [i] E++aA 0 Z ((aq [i] ρ).set i none),g.key≠some i:=by
 obtain⟨v,hv⟩:=S.al i r h
 have S2:=S.kill [i]
 have h2:=pT (M:=[i]) h ho
 have hil:i < ρ.length:=(DB.mp h).1
 refine⟨v,hv,S2.sl.perm ?_,λg hg=>?_,λg hg hk=>?_⟩
 ·have:=(bt (k:=0) hv h2).append_left (af [i] E)
  rw[Eo]at this
  exact this.trans Ea
 ·rcases yaM hg with z|z
  ·exact jH (by simp) g z
  ·have:g∈aA 0 Z (aq [i] ρ):=by
    obtain⟨m,h1,h3,h4⟩:=cL z
    have hm:m≠i:=λe=>by subst e;simp[aI,hil]at h3
    rw[DW (Ne.symm hm)]at h3
    have:=(bt (k:=0) h4 h3).mem_iff.mpr (ymS)
    have e:g=⟨some (0+m),g.v,g.r⟩:=by cases g;simp only[En.mk.injEq,and_self,and_true];exact h1
    rw[e];exact this
   rw[eC]at this
   exact jH (by simp) g this
 ·rcases yaM hg with z|z
  ·have:=S2.hi g z i hk
   rw[aI]at this
   omega
  ·obtain⟨m,h1,h3,h4⟩:=cL z
   rw[hk,Eo]at h1
   cases h1
   simp[aI,hil]at h3
theorem Sim.back (S:Sim Γ H ρ Z E){ρ':Rho}{Z':St}(h:SimL Γ H' (E'++aA 0 Z' ρ'))(hl : ρ'.length=ρ.length)(hZ:Z'.length=Z.length)(al:∀(i:Nat) r,ρ'[i]?=some (some r)->∃v,Z'[i]?=some (some v))(hi:∀e∈E',∀j,e.key=some j->e∈E):Sim Γ H' ρ' Z' E':=
 ⟨h,al,by rw[hl,hZ];exact S.len,λe he j hj=>by rw[hl];exact S.hi e (hi e he j hj) j hj⟩
noncomputable def cN (ρ:Rho) (i:Nat):Bool:=match ρ[i]? with
 | some (some ⟨.io _,_⟩)=>false
 | some _=>true
 | none=>false
theorem xW {ρ:Rho}{Z:St}(al:∀(i:Nat) r,ρ[i]?=some (some r)->∃v,Z[i]?=some (some v))(h1:i<Z.length):∀(m:Nat) r',(ρ.set i (some r))[m]?=some (some r')->∃v',(Z.set i (some v))[m]?=some (some v'):=λm r' hm=>by
 by_cases e:m=i
 ·subst e;exact⟨v,by simp[h1]⟩
 ·rw[DW (Ne.symm e)]at hm⊢;exact al m r' hm
theorem Sim.put (S:Sim Γ H ρ Z (⟨none,v,r⟩::E))(hi:cN ρ i=true)(hr:r.k.root≠some i):Sim Γ H ((aq [i] ρ).set i (some r)) (Z.set i (some v)) (af [i] E):=by
 have hil:i < ρ.length:=by
  unfold cN at hi
  cases q : ρ[i]? with
  | none=>rw[q]at hi;cases hi
  | some o=>exact(DB.mp q).1
 have hiZ:i<Z.length:=by rw[S.len];exact hil
 have hkeep:aE [i] ⟨none,v,r⟩=true:=by
  unfold aE
  split
  ·rename_i j hj
   have:j≠i:=λz=>hr (z▸hj)
   simp[this]
  ·rfl
 have ek:af [i] (⟨none,v,r⟩::E)=⟨none,v,r⟩::af [i] E:=by unfold af;rw[EA,if_pos hkeep]
 have S2:=S.kill [i]
 rw[ek]at S2
 have S3:SimL Γ H (⟨none,v,r⟩::(af [i] E++aA 0 Z ((aq [i] ρ).set i none)))/\∀g∈af [i] E++aA 0 Z ((aq [i] ρ).set i none),g.key≠some i:=by
  cases q:(aq [i] ρ)[i]? with
  | none=>rw[List.getElem?_eq_none_iff,aI]at q;omega
  | some o=>
   cases o with
   | none=>
    have e:(aq [i] ρ).set i none=aq [i] ρ:=by
     apply E4
     intro m
     by_cases hm:m=i
     ·subst hm;rw[q];simp[aI,hil]
     ·rw[DW (Ne.symm hm)]
    rw[e]
    refine⟨S2.sl,λg hg hk=>?_⟩
    rcases yaM hg with z|z
    ·have:=S2.hi g (ymC _ z) i hk
     rw[aI]at this;omega
    ·obtain⟨m,h1,h3,h4⟩:=cL z
     rw[hk,Eo]at h1;cases h1
     rw[q]at h3;cases h3
   | some r0=>
    have q0:=kn q
    by_cases ho:r0.k.isOw=true
    ·obtain⟨v0,hv0,h1,h2,h3⟩:=S.out q0 ho
     rw[ek]at h1 h2 h3
     refine⟨h1.dropK λg hg j hj=>by cases hj;exact h2 g hg,λg hg=>h3 g (ymC _ hg)⟩
    ·obtain⟨v0,hv0⟩:=S.al i r0 q0
     have p:=(bt (k:=0) hv0 q).append_left (⟨none,v,r⟩::af [i] E)
     rw[Eo]at p
     have h1:=S2.sl.perm (p.trans Ea)
     refine⟨h1.dropK λg hg j hj=>?_,λg hg hk=>?_⟩
     ·cases hj
      have h1':g∈af [i] (⟨none,v,r⟩::E)++af [i] (aA 0 Z ρ):=by
       rw[ek,←eC]
       rcases yaM hg with z|z
       ·exact yaL _ z
       ·refine yaR _ ?_
        obtain⟨m,h1,h3,h4⟩:=cL z
        have hm:m≠i:=λe=>by subst e;simp[aI,hil]at h3
        rw[DW (Ne.symm hm)]at h3
        have:=(bt (k:=0) h4 h3).mem_iff.mpr (ymS)
        have e:g=⟨some (0+m),g.v,g.r⟩:=by cases g;simp only[En.mk.injEq,and_self,and_true];exact h1
        rw[e];exact this
      rw[←aD]at h1'
      exact jH (by simp) g h1'
     ·rcases yaM hg with z|z
      ·have:=S2.hi g (ymC _ z) i hk
       rw[aI]at this;omega
      ·obtain⟨m,h1,h3,h4⟩:=cL z
       rw[hk,Eo]at h1;cases h1
       simp[aI,hil]at h3
 obtain⟨S3,hks⟩:=S3
 have S4:=S3.rekey (e:=⟨none,v,r⟩) rfl (key:=some i) λj hj g hg=>by cases hj;exact hks g hg
 refine S2.back (S4.perm ?_) (by simp[aI]) (by simp) (xW S2.al hiZ) (λe he j hj=>ymC _ he)
 have p:=(fF (k:=0) (Z:=Z) (ρ:=aq [i] ρ) (v:=v) (r:=r) hiZ (by rw[aI];exact hil)).append_left (af [i] E)
 rw[Eo]at p
 exact(Ea.symm).trans p.symm
theorem Sim.mut {vs:List V}{ts:List T}{p:List Ac}{k:Kd}(S:Sim Γ H ρ Z (ay vs ts++⟨none,w,⟨.vw (some i) (some p),s⟩⟩::E))(hl:vs.length=ts.length)(h : ρ[i]?=some (some ⟨k,t⟩))(ho:k.isOw=true) :
  ∃G F,Rp Γ.K H s w G/\Rps Γ.K H ts vs F/\(G++F).Nodup/\(∀a∈G++F,Mu H a) ∧
  ∀H' s' G',OffM G H H'->(∀a∈G,∃o,H' a=some o)->G'.Nodup->(∀a∈G',(a∈G++F∨H a=none)/\Mu H' a)->Rp Γ.K H' s' w G'->Sim Γ H' ((aq [i] ρ).set i (some ⟨k,t.put p s'⟩)) Z (af [i] E):=by
 have hil:i < ρ.length:=(DB.mp h).1
 obtain⟨v0,hv0,hm⟩:=S.slot h
 have pl:t.sub p=some s/\atP Γ.K H v0 p w:=by
  obtain⟨L,g,e⟩:=S.sl
  have:(⟨none,w,⟨.vw (some i) (some p),s⟩⟩:En)∈L.map (·.e):=by rw[e];simp
  obtain⟨y,hy,ey⟩:=DM.mp this
  have kd:=g.kd y hy
  unfold KdOk at kd
  rw[ey]at kd
  obtain⟨x,x1,x2,x3,x4,x5⟩:=kd
  have hm':(⟨some i,v0,⟨k,t⟩⟩:En)∈L.map (·.e):=by rw[e];exact hm
  obtain⟨z,hz,ez⟩:=DM.mp hm'
  have:x=z:=by
   have nk:=g.ks
   by_cases q:x=z
   ·exact q
   ·exfalso
    obtain⟨A,B,rfl⟩:=Fo x1
    rw[DY,DZ,x2]at nk
    rcases yaM hz with hz|hz
    ·exact(DF.mp nk).2.2 i (Ef.mpr ⟨z,hz,by rw[ez]⟩) i ymS rfl
    ·rcases ycM hz with hz|hz
     ·exact q hz.symm
     ·exact(D9.mp (DF.mp nk).2.1).1 (Ef.mpr ⟨z,hz,by rw[ez]⟩)
  subst this
  have:=x5 p rfl
  rw[ez]at this
  exact this
 obtain⟨v1,hv1,h1,h2,h3⟩:=S.out h ho
 rw[hv0]at hv1;cases hv1
 have ktemps:∀{vs:List V} {ts:List T},af [i] (ay vs ts)=ay vs ts:=by
  intro vs
  induction vs with
  | nil=>intro ts;rfl
  | cons v vs ih=>
   intro ts
   cases ts with
   | nil=>rfl
   | cons t ts=>show List.filter _ _=_;rw[ay,EA,if_pos (show aE [i] ⟨none,v,⟨.ow,t⟩⟩=true from rfl)];exact congrArg _ ih
 have kv:aE [i] ⟨none,w,⟨.vw (some i) (some p),s⟩⟩=false:=by unfold aE;simp[Kd.root]
 have ek:af [i] (ay vs ts++⟨none,w,⟨.vw (some i) (some p),s⟩⟩::E)=ay vs ts++af [i] E:=by
  rw[aD,ktemps]
  unfold af
  rw[EA,if_neg (by rw[kv];simp)]
 rw[ek]at h1 h2 h3
 rw[DU]at h1 h2 h3
 obtain⟨w',G,F,m1,m2,m3,m4,m5,m6⟩:=SimL.mutP (e:=⟨some i,v0,⟨k,t⟩⟩) (X:=af [i] E++aA 0 Z ((aq [i] ρ).set i none)) (by rw[D8];exact h1) hl ho (λg hg j hj=>by cases hj;exact h2 g (yaR _ hg)) pl.1 (λj hj g hg=>by cases hj;exact h3 g (yaR _ hg))
 have ew:=gL m1 pl.2
 subst ew
 refine⟨G,F,m2,m3,m4,m5,λH' s' G' off dom nd hG rp=>?_⟩
 have S5:=m6 H' s' G' off dom nd hG rp
 have S2:=S.kill [i]
 refine S2.back (S5.perm ?_) (by simp[aI]) rfl (λm r' hm=>?_) (λe he j hj=>by rw[ek];exact yaR _ he)
 ·have p:=(fF (k:=0) (Z:=Z) (ρ:=aq [i] ρ) (v:=v0) (r:=⟨k,t.put p s'⟩) (by rw[S.len];exact hil) (by rw[aI];exact hil)).append_left (af [i] E)
  rw[Eo]at p
  have eZ:Z.set i (some v0)=Z:=by
   apply E4
   intro m
   by_cases hm:m=i
   ·subst hm;rw[hv0];simp[S.len,hil]
   ·rw[DW (Ne.symm hm)]
  rw[eZ]at p
  exact(Ea.symm).trans p.symm
 ·by_cases e:m=i
  ·subst e;exact⟨v0,hv0⟩
  ·rw[DW (Ne.symm e)]at hm;exact S2.al m r' hm
theorem Sim.move (S:Sim Γ H ρ Z (⟨none,w,⟨.vw (some i) (some []),s⟩⟩::E))(h : ρ[i]?=some (some ⟨.ow,t⟩)):Sim Γ H ((aq [i] ρ).set i none) Z (⟨none,w,⟨.ow,s⟩⟩::af [i] E):=by
 have hil:i < ρ.length:=(DB.mp h).1
 obtain⟨v0,hv0,hm⟩:=S.slot h
 have pl:s=t/\w=v0:=by
  obtain⟨L,g,e⟩:=S.sl
  have:(⟨none,w,⟨.vw (some i) (some []),s⟩⟩:En)∈L.map (·.e):=by rw[e];simp
  obtain⟨y,hy,ey⟩:=DM.mp this
  have kd:=g.kd y hy
  unfold KdOk at kd
  rw[ey]at kd
  obtain⟨x,x1,x2,x3,x4,x5⟩:=kd
  have hm':(⟨some i,v0,⟨.ow,t⟩⟩:En)∈L.map (·.e):=by rw[e];exact hm
  obtain⟨z,hz,ez⟩:=DM.mp hm'
  have:x=z:=by
   have nk:=g.ks
   by_cases q:x=z
   ·exact q
   ·exfalso
    obtain⟨A,B,rfl⟩:=Fo x1
    rw[DY,DZ,x2]at nk
    rcases yaM hz with hz|hz
    ·exact(DF.mp nk).2.2 i (Ef.mpr ⟨z,hz,by rw[ez]⟩) i ymS rfl
    ·rcases ycM hz with hz|hz
     ·exact q hz.symm
     ·exact(D9.mp (DF.mp nk).2.1).1 (Ef.mpr ⟨z,hz,by rw[ez]⟩)
  subst this
  have:=x5 [] rfl
  rw[ez]at this
  obtain⟨q1,q2⟩:=this
  rw[T.sub]at q1
  cases q1
  exact⟨rfl,q2⟩
 obtain⟨rfl,rfl⟩:=pl
 obtain⟨v1,hv1,h1,h2,h3⟩:=S.out h rfl
 rw[hv0]at hv1;cases hv1
 have kv:aE [i] ⟨none,w,⟨.vw (some i) (some []),s⟩⟩=false:=by unfold aE;simp[Kd.root]
 have ek:af [i] (⟨none,w,⟨.vw (some i) (some []),s⟩⟩::E)=af [i] E:=by
  unfold af
  rw[EA,if_neg (by rw[kv];simp)]
 rw[ek]at h1 h2 h3
 have S2:=S.kill [i]
 refine S2.back (E':=⟨none,w,⟨.ow,s⟩⟩::af [i] E) ?_ (by simp[aI]) rfl (λm r' hm=>?_) (λe he j hj=>?_)
 ·obtain⟨L,g,e⟩:=h1
  obtain⟨x,L',rfl,e1,e2⟩:=aF e
  have:=g.step (hs:=[x]) (L:=L') (H':=H) (λy hy=>by rw[ysM hy,e1];rfl) (λy hy z hz j hj=>by
   rw[ysM hz,e1]at hj
   cases hj
   exact h2 y.e (by rw[←e2];exact Eb hy)) (OffM.refl _ _) (λa ha=>by
    obtain⟨y,hy,ha⟩:=Eu.mp ha
    rw[ysM hy]at ha
    exact(g.rp x ymS).dom a ha) (key:=none) (v:=w) (r:=⟨.ow,s⟩) (F:=x.F) (g.ndF ymS (by rw[e1];rfl)) (λa ha=>⟨.inl (by simpa using ha),g.muF ymS (by rw[e1];rfl) a ha⟩)
    (by have:=g.rp x ymS;rw[e1]at this;exact this) (.inl ⟨rfl,λy hy=>by rw[ysM hy,e1]⟩) (λj hj=>by cases hj)
  exact⟨_,this,by rw[DJ,e2];rfl⟩
 ·by_cases e:m=i
  ·subst e;simp[aI,hil]at hm
  ·rw[DW (Ne.symm e)]at hm;exact S2.al m r' hm
 ·rcases ycM he with rfl|he
  ·cases hj
  ·rw[ek];exact he
theorem Sim.use {vs:List V}{ts:List T}(S:Sim Γ H ρ Z (ay vs ts++E))(hl:vs.length=ts.length):∃F,Rps Γ.K H ts vs F/\F.Nodup/\(∀a∈F,Mu H a) ∧
  ∀H' v t F',OffM F H H'->(∀a∈F,∃o,H' a=some o)->F'.Nodup->(∀a∈F',(a∈F∨H a=none)/\Mu H' a)->Rp Γ.K H' t v F'->Sim Γ H' ρ Z (⟨none,v,⟨.ow,t⟩⟩::E):=by
 have S1:=S.sl
 rw[DU]at S1
 obtain⟨F,h1,h2,h3,h4⟩:=S1.use hl
 refine⟨F,h1,h2,h3,λH' v t F' a b c d e=>?_⟩
 exact⟨h4 H' v t F' a b c d e,S.al,S.len,λx hx j hj=>by
  rcases ycM hx with rfl|hx
  ·cases hj
  ·exact S.hi x (yaR _ hx) j hj⟩
theorem Sim.part (S:Sim Γ H ρ Z E)(he:e∈E){ro:Option Nat}{p:Option (List Ac)}(ho:e.r.k=.vw ro p){P:V->Prop}(hp:∀F,Rp Γ.K H e.r.t e.v F->∃w G,P w/\Rp Γ.K H s w G/\∀a∈G,a∈F):∃w,P w/\Sim Γ H ρ Z (⟨none,w,⟨.vw ro none,s⟩⟩::E):=by
 obtain⟨w,h1,h2⟩:=S.sl.part (yaL _ he) ho hp
 exact⟨w,h1,S.cons h2⟩
theorem Sim.partP (S:Sim Γ H ρ Z E)(he:e∈E){q:List Ac}(ho:e.r.k=.vw (some j) (some q)){a:Ac}(hs:iK e.r.t a=some s):∃w,at1 Γ.K H e.v a w/\Sim Γ H ρ Z (⟨none,w,⟨.vw (some j) (some (q++[a])),s⟩⟩::E):=by
 obtain⟨w,h1,h2⟩:=S.sl.partP (yaL _ he) ho hs
 exact⟨w,h1,S.cons h2⟩
end
structure ME where
 run:Rho->Option (R×Rho)
 mu:List Nat
structure MT where
 run:Rho->Option (Bool×Rho)
 mu:List Nat
structure MA where
 run:Rho->Option (List R×Rho)
 mu:List Nat
inductive Fl where
 | nx|rt (t:T)|bk|ct
structure MS where
 run:Rho->Option (Fl×Rho)
 mu:List Nat
structure MG where
 run:R->Rho->Option Rho
 mu:List Nat
structure MGs where
 run:List R->Rho->Option Rho
 mu:List Nat
noncomputable def ens:List V->List R->List En
 | v::vs,r::rs=>⟨none,v,r⟩::ens vs rs
 | _,_=>[]
noncomputable def au (M:List Nat) (r:R):Bool:=cX M r
theorem bh {M:List Nat}{r:R}{v:V}(h:au M r=true):aE M ⟨none,v,r⟩=true:=h
theorem av {M:List Nat}{e:En}{E:List En}(h:aE M e=true):af M (e::E)=e::af M E:=by unfold af;rw[EA,if_pos h]
theorem ik {M:List Nat}:∀{vs:List V} {rs:List R},rs.all (au M)=true->af M (ens vs rs)=ens vs rs
 | [],_,_=>by cases ‹List R›<;>rfl
 | _::_,[],_=>rfl
 | v::vs,r::rs,h=>by
  rw[EM,DD]at h
  rw[ens,av (bh h.1),ik h.2]
theorem Sim.weak {Γ:Gm}{H:Hp}{ρ:Rho}{Z:St}{E:List En}(S:Sim Γ H ρ Z E)(M:List Nat):Sim Γ H ρ Z (af M E):=by
 refine⟨?_,S.al,S.len,λe he=>S.hi e (DR.mp he).1⟩
 obtain⟨L,g,h⟩:=S.sl
 obtain⟨A,B,rfl,h1,h2⟩:=dQ h
 refine⟨A.filter (λx=>aE M x.e)++B,g.sub (Ev.append (List.Sublist.refl _)) λx hx j hj y hy hk ho=>?_,?_⟩
 ·rcases yaM hy with z|z
  ·refine yaL _ (DR.mpr ⟨z,?_⟩)
   unfold aE
   cases e:y.e.r.k with
   | vw a b=>rw[e]at ho;cases ho
   | ow=>rfl
   | io _=>rfl
  ·exact yaR _ z
 ·rw[DP,h2,←h1]
  unfold af
  rw[FD];rfl
def aU (K:yF)(te:TE)(m:ME):Prop:=∀(Γ:Gm) (H:Hp) (ρ:Rho) (Z:St) (E:List En) (Q:VK) (r:R) (ρ':Rho),Γ.K=K->m.run ρ=some (r,ρ')->Sim Γ H ρ Z E->(∀v H',Sim Γ H' ρ' Z (⟨none,v,r⟩::af m.mu E)->Q v H')->te Z H Q
def eA (K:yF)(te:TT)(m:MT):Prop:=∀(Γ:Gm) (H:Hp) (ρ:Rho) (Z:St) (E:List En) (Q:Bool->Hp->Prop) (b:Bool) (ρ':Rho),Γ.K=K->m.run ρ=some (b,ρ')->Sim Γ H ρ Z E->(∀H',Sim Γ H' ρ' Z (af m.mu E)->Q b H')->te Z H Q
def fv (K:yF)(ta:TA)(m:MA):Prop:=∀(Γ:Gm) (H:Hp) (ρ:Rho) (Z:St) (E:List En) (Q:List V->Hp->Prop) (rs:List R) (ρ':Rho),Γ.K=K->m.run ρ=some (rs,ρ')->Sim Γ H ρ Z E->(∀vs H',vs.length=rs.length->Sim Γ H' ρ' Z (ens vs rs++af m.mu E)->Q vs H')->ta Z H Q
def FlOk (Γ:Gm)(ρ':Rho)(E:List En)(D:Ends):Fl->Prop
 | .nx=>∀Z' H',Sim Γ H' ρ' Z' E->D.nx Z' H'
 | .bk=>∀Z' H',Sim Γ H' ρ' Z' E->D.bk Z' H'
 | .ct=>∀Z' H',Sim Γ H' ρ' Z' E->D.ct Z' H'
 | .rt t=>∀v Z' H',Sim Γ H' ρ' Z' [⟨none,v,⟨.ow,t⟩⟩]->D.rt v H'
def dM (K:yF)(ts:TS)(m:MS):Prop:=∀(Γ:Gm) (H:Hp) (ρ:Rho) (Z:St) (E:List En) (D:Ends) (f:Fl) (ρ':Rho),Γ.K=K->(∀e∈E,e.key=none)->m.run ρ=some (f,ρ')->Sim Γ H ρ Z E->FlOk Γ ρ' (af m.mu E) D f->ts D Z H
def iU (K:yF)(g:TG)(m:MG):Prop:=∀(Γ:Gm) (H:Hp) (ρ:Rho) (Z:St) (E:List En) (Q:St->Hp->Prop) (v:V) (r:R) (ρ':Rho),Γ.K=K->m.run r ρ=some ρ'->Sim Γ H ρ Z (⟨none,v,r⟩::E)->(∀Z' H',Sim Γ H' ρ' Z' (af m.mu E)->Q Z' H')->g v Z H Q
def lS (K:yF)(g:TGs)(m:MGs):Prop:=∀(Γ:Gm) (H:Hp) (ρ:Rho) (Z:St) (E:List En) (Q:St->Hp->Prop) (vs:List V) (rs:List R) (ρ':Rho),Γ.K=K->m.run rs ρ=some ρ'->vs.length=rs.length->Sim Γ H ρ Z (ens vs rs++E)->(∀Z' H',Sim Γ H' ρ' Z' (af m.mu E)->Q Z' H')->g vs Z H Q
def AU (X:Cx)(st:List Stmt)(m:MS):Prop:=∃ts,PSs X st ts/\dM X.K ts m
section
variable  {K:yF}{X:Cx}
@[irreducible] noncomputable def mC (i:I):ME:=⟨λρ=>some (⟨.ow,.im i⟩,ρ),[]⟩
@[irreducible] noncomputable def ah (i:Nat):ME:=⟨λρ=>match ρ[i]? with
 | some (some r)=>some (rdR i r,ρ)
 | _=>none,[]⟩
theorem tO {i:I}{v:V}(h:i.sc=some v):aU K (tC v) (mC i):=by with_unfolding_all
 intro Γ H ρ Z E Q r ρ' hK hr S q
 cases hr
 exact q v H (by rw[show(mC i).mu=[]from rfl,bW];exact S.imm (iT h))
theorem wM {i:Nat}:aU K (wW i) (ah i):=by with_unfolding_all
 intro Γ H ρ Z E Q r ρ' hK hr S q
 simp only[ah]at hr
 split at hr
 ·rename_i r0 h0
  cases hr
  obtain⟨v,hv,S2⟩:=S.var h0
  exact⟨v,hv,q v H (by rw[show(ah i).mu=[]from rfl,bW];exact S2)⟩
 ·cases hr
@[irreducible] noncomputable def mNil:MA:=⟨λρ=>some ([],ρ),[]⟩
@[irreducible] noncomputable def aa (m:ME)(ms:MA):MA:=⟨λρ=>match m.run ρ with
 | some (r,ρ1)=>match ms.run ρ1 with
  | some (rs,ρ2)=>if au ms.mu r=true then some (r::rs,ρ2)else none
  | none=>none
 | none=>none,m.mu++ms.mu⟩
theorem wE:fv K CG mNil:=by with_unfolding_all
 intro Γ H ρ Z E Q rs ρ' hK hr S q
 cases hr
 exact q [] H rfl (by rw[show mNil.mu=[]from rfl,bW];exact S)
theorem uU {v:V}{r:R}{E:List En}:∀{vs:List V} {rs:List R},(ens vs rs++⟨none,v,r⟩::E).Perm (⟨none,v,r⟩::(ens vs rs++E)):=Ea
theorem tQ {te:TE}{ta:TA}{m:ME}{ms:MA}(h1:aU K te m)(h2:fv K ta ms):fv K (pb te ta) (aa m ms):=by with_unfolding_all
 intro Γ H ρ Z E Q rs ρ' hK hr S q
 simp only[aa]at hr
 split at hr
 ·rename_i r ρ1 e1
  split at hr
  ·rename_i rs1 ρ2 e2
   split at hr
   ·rename_i al
    cases hr
    refine h1 Γ H ρ Z E _ r ρ1 hK e1 S λv H1 S1=>?_
    refine h2 Γ H1 ρ1 Z _ _ rs1 _ hK e2 S1 λvs H2 hl S2=>q (v::vs) H2 (by rw[DQ,DQ,hl]) ?_
    rw[av (bh al),ag]at S2
    exact S2.perm uU
   ·cases hr
  ·cases hr
 ·cases hr
@[irreducible] noncomputable def mNext:MS:=⟨λρ=>some (.nx,ρ),[]⟩
@[irreducible] noncomputable def ao (a b:MS):MS:=⟨λρ=>match a.run ρ with
 | some (.nx,ρ1)=>b.run ρ1
 | some (.rt t,ρ1)=>some (.rt t,ρ1)
 | some (.bk,ρ1)=>some (.bk,ρ1)
 | some (.ct,ρ1)=>some (.ct,ρ1)
 | none=>none,a.mu++b.mu⟩
@[irreducible] noncomputable def mIf (c:MT)(a b:MS):MS:=⟨λρ=>match c.run ρ with
 | some (true,ρ1)=>a.run ρ1
 | some (false,ρ1)=>b.run ρ1
 | none=>none,c.mu++(a.mu++b.mu)⟩
@[irreducible] noncomputable def be (e:ME):MS:=⟨λρ=>match e.run ρ with
 | some (_,ρ1)=>some (.nx,ρ1)
 | none=>none,e.mu⟩
@[irreducible] noncomputable def aB (e:ME)(g:MG):MS:=⟨λρ=>match e.run ρ with
 | some (r,ρ1)=>match g.run r ρ1 with
  | some ρ2=>some (.nx,ρ2)
  | none=>none
 | none=>none,e.mu++g.mu⟩
@[irreducible] noncomputable def qG:R->Rho->Option (T×Rho)
 | ⟨.ow,t⟩,ρ=>some (t,ρ)
 | ⟨.vw (some i) (some []),t⟩,ρ=>match ρ[i]? with
  | some (some ⟨.ow,_⟩)=>some (t,(aq [i] ρ).set i none)
  | _=>none
 | _,_=>none
@[irreducible] noncomputable def bf (e:ME):MS:=⟨λρ=>match e.run ρ with
 | some (r,ρ1)=>match qG r ρ1 with
  | some (t,ρ2)=>some (.rt t,ρ2)
  | none=>none
 | none=>none,e.mu⟩
theorem FlOk.weak {Γ:Gm}{ρ':Rho}{E:List En}{D:Ends}{f:Fl}{M N:List Nat}(h:FlOk Γ ρ' (af (M++N) E) D f):FlOk Γ ρ' (af M E) D f:=by
 cases f with
 | rt t=>exact h
 | nx=>exact λZ' H' S=>h Z' H' (by rw[←ag];exact S.weak N)
 | bk=>exact λZ' H' S=>h Z' H' (by rw[←ag];exact S.weak N)
 | ct=>exact λZ' H' S=>h Z' H' (by rw[←ag];exact S.weak N)
theorem nv (M N:List Nat)(E:List En):af M (af N E)=af N (af M E):=by
 unfold af
 rw[FJ,FJ]
 congr 1
 funext e
 exact Bool.and_comm _ _
theorem FlOk.weak2 {Γ:Gm}{ρ':Rho}{E:List En}{D:Ends}{f:Fl}{M N:List Nat}(h:FlOk Γ ρ' (af (M++N) E) D f):FlOk Γ ρ' (af N E) D f:=by
 refine FlOk.weak (N:=M) ?_
 rwa [←ag,nv,ag]
theorem bL {M:List Nat}{E:List En}(h:∀e∈E,e.key=none):∀e∈af M E,e.key=none:=λe he=>h e (DR.mp he).1
theorem tX:dM K xN mNext:=by with_unfolding_all
 intro Γ H ρ Z E D f ρ' hK hE hr S q
 cases hr
 exact q Z H (by rw[show mNext.mu=[]from rfl,bW];exact S)
theorem wJ {t u:TS}{a b:MS}(h1:dM K t a)(h2:dM K u b):dM K (CL t u) (ao a b):=by
 intro Γ H ρ Z E D f ρ' hK hE hr S q
 show t {D with nx:=u D} Z H
 simp only[ao]at hr q
 split at hr
 ·rename_i ρ1 e1
  refine h1 Γ H ρ Z E _ .nx ρ1 hK hE e1 S λZ1 H1 S1=>?_
  refine h2 Γ H1 ρ1 Z1 _ D f ρ' hK (bL hE) hr S1 ?_
  rw[ag];exact q
 ·rename_i t1 ρ1 e1
  cases hr
  exact h1 Γ H ρ Z E _ (.rt t1) _ hK hE e1 S q
 ·rename_i ρ1 e1
  cases hr
  exact h1 Γ H ρ Z E _ .bk _ hK hE e1 S (show FlOk Γ _ (af a.mu E) D .bk from q.weak)
 ·rename_i ρ1 e1
  cases hr
  exact h1 Γ H ρ Z E _ .ct _ hK hE e1 S (show FlOk Γ _ (af a.mu E) D .ct from q.weak)
 ·cases hr
theorem wB {c:TT}{t u:TS}{mc:MT}{a b:MS}(hc:eA K c mc)(h1:dM K t a)(h2:dM K u b):dM K (CD c t u) (mIf mc a b):=by
 intro Γ H ρ Z E D f ρ' hK hE hr S q
 simp only[mIf]at hr q
 rw[←ag]at q
 split at hr
 ·rename_i ρ1 e1
  refine hc Γ H ρ Z E _ true ρ1 hK e1 S λH1 S1=>pN ?_
  exact h1 Γ H1 ρ1 Z _ D f ρ' hK (bL hE) hr S1 q.weak
 ·rename_i ρ1 e1
  refine hc Γ H ρ Z E _ false ρ1 hK e1 S λH1 S1=>pM ?_
  exact h2 Γ H1 ρ1 Z _ D f ρ' hK (bL hE) hr S1 q.weak2
 ·cases hr
theorem tR {te:TE}{m:ME}(h:aU K te m):dM K (xM te) (be m):=by with_unfolding_all
 intro Γ H ρ Z E D f ρ' hK hE hr S q
 simp only[be]at hr
 split at hr
 ·rename_i r ρ1 e1
  cases hr
  exact h Γ H ρ Z E _ r _ hK e1 S λv H1 S1=>q Z H1 (S1.drop rfl)
 ·cases hr
theorem lD {te:TE}{g:TG}{m:ME}{mg:MG}(h:aU K te m)(hg:iU K g mg):dM K (wV te g) (aB m mg):=by
 intro Γ H ρ Z E D f ρ' hK hE hr S q
 simp only[aB]at hr q
 split at hr
 ·rename_i r ρ1 e1
  split at hr
  ·rename_i ρ2 e2
   cases hr
   refine h Γ H ρ Z E _ r ρ1 hK e1 S λv H1 S1=>?_
   exact hg Γ H1 ρ1 Z _ _ v r _ hK e2 S1 λZ2 H2 S2=>q Z2 H2 (by rw[←ag];exact S2)
  ·cases hr
 ·cases hr
theorem Sim.only {Γ:Gm}{H:Hp}{ρ:Rho}{Z:St}{e:En}{E:List En}(S:Sim Γ H ρ Z (e::E))(hE:∀x∈E,x.key=none):Sim Γ H ρ Z [e]:=by
 induction E with
 | nil=>exact S
 | cons x E ih=>exact ih (S.swap.drop (hE x ymS)) λy hy=>hE y (ymC _ hy)
theorem wH {te:TE}{m:ME}(h:aU K te m):dM K (CJ te) (bf m):=by with_unfolding_all
 intro Γ H ρ Z E D f ρ' hK hE hr S q
 simp only[bf]at hr
 split at hr
 ·rename_i r ρ1 e1
  split at hr
  ·rename_i t ρ2 e2
   cases hr
   refine h Γ H ρ Z E _ r ρ1 hK e1 S λv H1 S1=>?_
   obtain⟨k,t0⟩:=r
   cases k with
   | ow=>
    cases e2
    exact q v Z H1 (S1.only (bL hE))
   | io n=>cases e2
   | vw a b=>
    cases a with
    | none=>cases e2
    | some i=>
     cases b with
     | none=>cases e2
     | some p=>
      cases p with
      | cons _ _=>cases e2
      | nil=>
       simp only[qG]at e2
       split at e2
       ·rename_i t1 h1
        cases e2
        exact q v Z H1 ((S1.move h1).only (bL (bL hE)))
       ·cases e2
  ·cases hr
 ·cases hr
@[irreducible] noncomputable def ae (i:Nat):MG:=⟨λr ρ=>if(cN ρ i&&au [i] r)=true then some ((aq [i] ρ).set i (some r))else none,[i]⟩
theorem cF {i:Nat}{r:R}(h:au [i] r=true):r.k.root≠some i:=λz=>by
 unfold au cX at h
 rw[z]at h
 simp at h
theorem jP {i:Nat}:iU K (ki i) (ae i):=by with_unfolding_all
 intro Γ H ρ Z E Q v r ρ' hK hr S q
 simp only[ae]at hr
 split at hr
 ·rename_i h
  cases hr
  rw[DD]at h
  exact q _ H (S.put h.1 (cF h.2))
 ·cases hr
end
section
variable  {X:Cx}
theorem Inv.lstR {pins:List (Addr×Obj)}{Z:St}{H:Hp}{s:Shared}{l:Addr}{xs:List V}(I:Inv X pins Z H s)(hH:Rd H l (.lst xs)):xs.length<=sizeLine/\∃(its:List Value) (n:Nat),Vals xs its/\xs.length=its.length/\s.heap.get? l=some {cls:=.type "list",data:=.seq its.toArray n}:=by
 obtain⟨z,its,n,r,e⟩:=hH.ok I.hok
 exact⟨z,its,n,r,r.length,e⟩
def xB:R2:=λx y H Q=>∃l b xs zs,x=.ref l/\y=.ref b/\Rd H l (.lst xs)/\Rd H b (.lst zs)/\xs.length+zs.length<=sizeLine/\∀p,H p=none->Q (.ref p) (upd H p (.lst (xs++zs)))
theorem op_catR:OpR X (binaryOp .Add) xB:=by
 intro pins s Z H x y v u Q I rx ry h
 obtain⟨l,b,xs,zs,rfl,rfl,hH,hB,hz,q⟩:=h
 cases rx
 cases ry
 obtain⟨z,its,n,r,hl,e⟩:=I.lstR hH
 obtain⟨z2,its2,n2,r2,hl2,e2⟩:=I.lstR hB
 refine PySem.P.add_list e e2 ?_ (by rw[DC,DC];omega)
 have ea:its.toArray++its2.toArray=(its++its2).toArray:=by simp
 rw[ea]
 exact⟨.ref _,_,I.lnew (t':=s.toks) (r.append r2) (by rw[DS];omega),rfl,q _ I.fresh⟩
def tE (K:yF):R2:=λx y H Q=>∃a b ys,x=.ref a/\y=.ref b/\SqT K H a []/\SqT K H b ys/\Q (.ref b) H
theorem r8:OpR X (binaryOp .Add) (tE X.K):=by
 intro pins s Z H x y v u Q I rx ry h
 obtain⟨a,b,ys,rfl,rfl,ha,hb,q⟩:=h
 cases rx
 cases ry
 obtain⟨its,r1,p1,_⟩:=I.tuple ha
 obtain⟨its2,r2,p2,_⟩:=I.tuple hb
 have hv:its=[]:=r1.nil_iff.mpr rfl
 subst hv
 obtain⟨⟨cls,dd,data,sl⟩,ho,hc,n,hd⟩:=id p1
 obtain⟨⟨cls2,dd2,data2,sl2⟩,ho2,hc2,n2,hd2⟩:=id p2
 simp only at hc hd hc2 hd2
 subst hc hd hc2 hd2
 exact concat_meets ⟨_,ho,rfl⟩ ⟨_,ho2,rfl⟩ noFill_tuple_add seq_tuple_add PySem.F.slot_tuple_add PySem.F.entry_tuple_add (PySem.F.args_tuple_add_2 _ _)
   (tuple_addW0 a b #[] its2.toArray n n2 dd dd2 sl sl2 rfl) ⟨ho,ho2,⟨.ref b,H,I,rfl,q⟩⟩
def tD (K:yF):R2:=λx y H Q=>xA K x y H Q∨(xB x y H Q∨tE K x y H Q)
theorem vq:OpR X (binaryOp .Add) (tD X.K):=op_addX.or (op_catR.or r8)
def xF:R2:=λx y H Q=>∃l k xs,x=.ref l/\y=.int k/\Rd H l (.lst xs)/\-(2^63)<=k/\k<2^63/\xs.length*k.toNat<=sizeLine/\∀p,H p=none->Q (.ref p) (upd H p (.lst (DE k.toNat xs).flatten))
theorem vx:OpR X (binaryOp .Mult) xF:=by
 intro pins s Z H x y v u Q I rx ry h
 obtain⟨l,k,xs,rfl,rfl,hH,h1,h2,hz,q⟩:=h
 cases rx
 obtain⟨t,rfl⟩:=ry
 obtain⟨z,its,n,r,hl,e⟩:=I.lstR hH
 have hlen:its.toArray.size*k.toNat<=sizeLine:=by rw[DC,←hl];exact hz
 have hcap:¬ its.toArray.size*k.toNat>(2^63-1) / 8:=by
  have:(sizeLine:Nat)<=(2^63-1) / 8:=by decide
  omega
 have hfit:¬ (!Builtin.List.listFitsIndex k)=true:=by
  rw[fitsIndex_both h1 h2]
  exact DN
 have hlong:¬ Builtin.List.listTooLong (its.toArray.size*k.toNat)=true:=by
  rw[dE hlen]
  exact DN
 have hnew:F5 (λx1 x2=>x1++x2) #[] (DE (if its.toArray.isEmpty=true then 0 else k.toNat) its.toArray)=(DE k.toNat its).flatten.toArray:=by
  have f0:∀m:Nat,F5 (λx1 x2=>x1++x2) #[] (DE m its.toArray)=(DE m its).flatten.toArray:=λm=>by
   have:=eD its m []
   rw[Er]at this
   exact this
  rw[f0]
  cases its with
  | nil=>simp
  | cons a r'=>rw[if_neg (by simp)]
 refine wpAny_binaryOp_repeat_ref (T:="list") (U:="int") (by decide) ⟨_,e,rfl⟩ (λs'=>typeIs_int s' k t) noFill_list_mul F.fills_int_mul F.slot_int_rmul repeat_list F.slot_int_index.lookup
  (call_meets F.slot_int_rmul (typeIs_int s k t) F.entry_int_rmul (F.args_int_rmul_2 _ _) (int___rmul___int_list k t l its.toArray n)
   ⟨e,rfl,⟨_,e,rfl⟩,call_meets F.slot_list_mul ⟨_,e,rfl⟩ F.entry_list_mul (F.args_list_mul_2 _ _) (AutoListH.list___mul___list_int_3 l its.toArray n k t hfit hcap hlong) ⟨e,?_⟩⟩)
 rw[hnew]
 exact⟨.ref _,_,I.lnew (t':=s.toks) (r.rep k.toNat) (by rw[gT,GG];exact hz),rfl,q _ I.fresh⟩
def tI (K:yF):R2:=λx y H Q=>xE K x y H Q∨xF x y H Q
theorem vv:OpR X (binaryOp .Mult) (tI X.K):=op_mulX.or vx
def mF:V->List V->Hp->VK->Prop:=λx vs H Q=>∃l b xs zs,x=.ref l/\vs=[.ref b]/\H l=some (.lst xs)/\Rd H b (.lst zs)/\xs.length+zs.length<=sizeLine/\Q .non (upd H l (.lst (xs++zs)))
theorem nD:MtM X "list.extend" mF:=by
 intro pins s Z H x vs v us Q I rx rv h
 obtain⟨l,b,xs,zs,rfl,rfl,hH,hB,hz,q⟩:=h
 cases rx
 obtain⟨u,rfl,ru⟩:=rv.one
 cases ru
 obtain⟨z,its,n,r,hl,e⟩:=I.lstM hH
 obtain⟨z2,its2,n2,r2,hl2,e2⟩:=I.lstR hB
 have hsz:its.toArray.size+its2.toArray.size<=sizeLine:=by rw[DC,DC];omega
 have hlong:¬ (!its.toArray.isEmpty&&Builtin.List.listTooLong (its.toArray.size+its2.toArray.size))=true:=by
  rw[dE hsz,Gi]
  exact DN
 refine call_meets F.slot_list_extend ⟨_,e,rfl⟩ F.entry_list_extend (F.args_list_extend_2 _ _)
  (AutoSeq1.list_extend_list_list_0 l its.toArray n b its2.toArray n2 hlong (by rw[DC];omega) (by omega)) ⟨e,e2,?_⟩
 refine⟨.non,_,I.lset (its':=its++its2) hH e (by simp) (r.append r2) ?_,rfl,q⟩
 rw[DS]
 omega
def tF (K:yF):V->List V->Hp->VK->Prop:=λx xs H Q=>mF x xs H Q∨mH K x xs H Q
theorem vk:MtR X "list.extend" (tF X.K):=MtR.or nD nE
end
def Rpx (K:yF)(H:Hp)(t:T)(v:V):Prop:=∃F,Rp K H t v F
def New (K:yF)(H H':Hp)(t:T)(v:V):Prop:=Same H H'/\∃F,Rp K H' t v F/\F.Nodup/\∀a∈F,H a=none/\Mu H' a
section
variable  {K:yF}{H H':Hp}{Γ:Gm}{ρ:Rho}{Z:St}{E:List En}{t:T}{v x y:V}{Q:VK}
theorem Sim.fresh (S:Sim Γ H ρ Z E)(n:New Γ.K H H' t v):Sim Γ H' ρ Z (⟨none,v,⟨.ow,t⟩⟩::E):=by
 obtain⟨sm,F,h1,h2,h3⟩:=n
 obtain⟨F0,r0,_,_,k⟩:=Sim.use (vs:=[]) (ts:=[]) S rfl
 have:=r0.nil_inv.2
 subst this
 exact k H' v t F (sm.offM _) (by simp) h2 (λa ha=>⟨.inr (h3 a ha).1,(h3 a ha).2⟩) h1
theorem New.im {i:I}(h:RpI K H i v):New K H H (.im i) v:=⟨Same.refl H,[],fN h,EH,by simp⟩
theorem New.sc {i:I}(h:i.sc=some v):New K H H (.im i) v:=.im (iT h)
theorem New.tup {is:List I}{xs:List V}{p:Addr}(hp:H p=none)(h:RpIs K H is xs):New K H (upd H p (.tup xs)) (.im (.tup is)) (.ref p):=by
 refine⟨Same.laid hp,[],fN ?_,EH,by simp⟩
 rw[RpI]
 exact⟨p,xs,rfl,SqT.of az,h.same (Same.laid hp)⟩
theorem New.li {is:List I}{xs:List V}{p:Addr}(hp:H p=none)(h:RpIs K H is xs):New K H (upd H p (.lst xs)) (.li is) (.ref p):=by
 refine⟨Same.laid hp,[p],?_,by simp,λa ha=>?_⟩
 ·rw[Rp];exact⟨p,xs,rfl,.inl az,h.same (Same.laid hp),rfl⟩
 ·rw[ysM ha];exact⟨hp,_,az,rfl⟩
theorem cZ {i:I}(h:Rpx K H (.im i) v):RpI K H i v:=by obtain⟨F,h⟩:=h;exact(bj h).1
theorem aN {n:Int}(h:Rpx K H (.im (.int n)) v):v=.int n:=by have:=cZ h;rw[RpI]at this;exact this
theorem cS {n:Str}(h:Rpx K H (.im (.str n)) v):v=.str n:=by have:=cZ h;rw[RpI]at this;exact this
theorem kI {n:Bool}(h:Rpx K H (.im (.bl n)) v):v=.bl n:=by have:=cZ h;rw[RpI]at this;exact this
theorem An (h:Rpx K H (.im .non) v):v=.non:=by have:=cZ h;rw[RpI]at this;exact this
theorem bz {is:List I}(h:Rpx K H (.im (.tup is)) v):∃a xs,v=.ref a/\SqT K H a xs/\RpIs K H is xs:=by have:=cZ h;rw[RpI]at this;exact this
theorem bY {is:List I}(h:Rpx K H (.li is) v):∃a xs,v=.ref a/\Rd H a (.lst xs)/\RpIs K H is xs:=by
 obtain⟨F,h⟩:=h;rw[Rp]at h;obtain⟨a,xs,h1,h2,h3,_⟩:=h;exact⟨a,xs,h1,h2,h3⟩
theorem xI {is:List I}(h:Rpx K H (.im (.ls is)) v):∃a xs,v=.ref a/\Rd H a (.lst xs)/\RpIs K H is xs:=by
 have:=cZ h;rw[RpI]at this;obtain⟨a,o,xs,h1,h2,h3⟩:=this;exact⟨a,xs,h1,.inr ⟨o,h2⟩,h3⟩
theorem fO {ts:List T}(h:Rpx K H (.lst ts) v):∃a xs F,v=.ref a/\Rd H a (.lst xs)/\Rps K H ts xs F:=by
 obtain⟨F,h⟩:=h;rw[Rp]at h;obtain⟨a,xs,F',h1,h2,h3,_⟩:=h;exact⟨a,xs,F',h1,h2,h3⟩
theorem aQ {a:Addr}{xs:List V}(h:Rd H a (.lst xs)):SqL K H a xs:=.inl h
def qV (K:yF)(red:V->Hp->VK->Prop)(f:T->Option T):Prop:=∀(H:Hp) (x:V) (tx t:T) (Q:VK),Rpx K H tx x->f tx=some t->(∀v H',New K H H' t v->Q v H')->red x H Q
def cW (K:yF)(red:R2)(f:T->T->Option T):Prop:=∀(H:Hp) (x y:V) (tx ty t:T) (Q:VK),Rpx K H tx x->Rpx K H ty y->f tx ty=some t->(∀v H',New K H H' t v->Q v H')->red x y H Q
def Rpxs (K:yF)(H:Hp):List T->List V->Prop
 | [],vs=>vs=[]
 | t::ts,vs=>∃v r,vs=v::r/\Rpx K H t v/\Rpxs K H ts r
def fB (K:yF)(red:List V->Hp->VK->Prop)(f:List T->Option T):Prop:=∀(H:Hp) (vs:List V) (ts:List T) (t:T) (Q:VK),Rpxs K H ts vs->f ts=some t->(∀v H',New K H H' t v->Q v H')->red vs H Q
@[irreducible] noncomputable def mOp (f:T->T->Option T)(a b:ME):ME:=⟨λρ=>match a.run ρ with
 | some (ra,ρ1)=>match b.run ρ1 with
  | some (rb,ρ2)=>if au b.mu ra=true then(match f ra.t rb.t with
   | some t=>some (⟨.ow,t⟩,ρ2)
   | none=>none)else none
  | none=>none
 | none=>none,a.mu++b.mu⟩
theorem lF {red:R2}{f:T->T->Option T}{ta tb:TE}{a b:ME}(hp:cW K red f)(ha:aU K ta a)(hb:aU K tb b):aU K (tOp red ta tb) (mOp f a b):=by with_unfolding_all
 intro Γ H ρ Z E Q r ρ' hK hr S q
 simp only[mOp]at hr
 split at hr
 ·rename_i ra ρ1 e1
  split at hr
  ·rename_i rb ρ2 e2
   split at hr
   ·rename_i al
    split at hr
    ·rename_i t e3
     cases hr
     refine ha Γ H ρ Z E _ ra ρ1 hK e1 S λx H1 S1=>?_
     refine hb Γ H1 ρ1 Z _ _ rb _ hK e2 S1 λy H2 S2=>?_
     rw[av (bh al),ag]at S2
     have r1:=S2.rd (ymC _ ymS)
     have r2:=S2.rd ymS
     rw[hK]at r1 r2
     refine hp H2 x y ra.t rb.t t Q r1 r2 e3 λv H3 n=>q v H3 ?_
     rw[←hK]at n
     exact((S2.drop rfl).drop rfl).fresh n
    ·cases hr
   ·cases hr
  ·cases hr
 ·cases hr
@[irreducible] noncomputable def mUn (f:T->Option T)(a:ME):ME:=⟨λρ=>match a.run ρ with
 | some (ra,ρ1)=>(match f ra.t with
  | some t=>some (⟨.ow,t⟩,ρ1)
  | none=>none)
 | none=>none,a.mu⟩
theorem ud {red:V->Hp->VK->Prop}{f:T->Option T}{ta:TE}{a:ME}(hp:qV K red f)(ha:aU K ta a):aU K (tUn red ta) (mUn f a):=by with_unfolding_all
 intro Γ H ρ Z E Q r ρ' hK hr S q
 simp only[mUn]at hr
 split at hr
 ·rename_i ra ρ1 e1
  split at hr
  ·rename_i t e3
   cases hr
   refine ha Γ H ρ Z E _ ra _ hK e1 S λx H1 S1=>?_
   have r1:=S1.rd ymS
   rw[hK]at r1
   refine hp H1 x ra.t t Q r1 e3 λv H3 n=>q v H3 ?_
   rw[←hK]at n
   exact(S1.drop rfl).fresh n
  ·cases hr
 ·cases hr
theorem Sim.rds:∀{vs:List V} {rs:List R} {E:List En},Sim Γ H ρ Z (ens vs rs++E)->vs.length=rs.length->Rpxs Γ.K H (rs.map (·.t)) vs
 | [],[],E,S,_=>rfl
 | v::vs,r::rs,E,S,h=>by
  rw[ens,D8]at S
  exact⟨v,vs,rfl,S.rd ymS,Sim.rds (S.drop rfl) (by simpa using h)⟩
 | [],_::_,_,_,h=>by cases h
 | _::_,[],_,_,h=>by cases h
theorem Sim.drops:∀{vs:List V} {rs:List R} {E:List En},Sim Γ H ρ Z (ens vs rs++E)->Sim Γ H ρ Z E
 | [],rs,E,S=>by cases rs<;>exact S
 | v::vs,[],E,S=>S
 | v::vs,r::rs,E,S=>by
  rw[ens,D8]at S
  exact Sim.drops (S.drop rfl)
@[irreducible] noncomputable def mB (f:List T->Option T)(a:MA):ME:=⟨λρ=>match a.run ρ with
 | some (rs,ρ1)=>(match f (rs.map (·.t))with
  | some t=>some (⟨.ow,t⟩,ρ1)
  | none=>none)
 | none=>none,a.mu⟩
theorem tN {red:List V->Hp->VK->Prop}{f:List T->Option T}{ta:TA}{a:MA}(hp:fB K red f)(ha:fv K ta a):aU K (tCB red ta) (mB f a):=by with_unfolding_all
 intro Γ H ρ Z E Q r ρ' hK hr S q
 simp only[mB]at hr
 split at hr
 ·rename_i rs ρ1 e1
  split at hr
  ·rename_i t e3
   cases hr
   refine ha Γ H ρ Z E _ rs _ hK e1 S λvs H1 hl S1=>?_
   have r1:=S1.rds hl
   rw[hK]at r1
   refine hp H1 vs _ t Q r1 e3 λv H3 n=>q v H3 ?_
   rw[←hK]at n
   exact S1.drops.fresh n
  ·cases hr
 ·cases hr
@[irreducible] noncomputable def mM (f:T->List T->Option T)(o:ME)(a:MA):ME:=⟨λρ=>match o.run ρ with
 | some (r,ρ0)=>match a.run ρ0 with
  | some (rs,ρ1)=>if au a.mu r=true then(match f r.t (rs.map (·.t))with
   | some t=>some (⟨.ow,t⟩,ρ1)
   | none=>none)else none
  | none=>none
 | none=>none,o.mu++a.mu⟩
def qW (K:yF)(T0:String)(red:V->List V->Hp->VK->Prop)(f:T->List T->Option T):Prop:=∀(H:Hp) (x:V) (vs:List V) (tx:T) (ts:List T) (t:T) (Q:VK),Rpx K H tx x->Rpxs K H ts vs->f tx ts=some t->(∀v H',New K H H' t v->Q v H')->red x vs H Q
theorem Cw {T0:String}{red:V->List V->Hp->VK->Prop}{f:T->List T->Option T}{to:TE}{ta:TA}{o:ME}{a:MA}(hp:qW K T0 red f)(hty:∀(H:Hp) (x:V) (tx:T) ts t,Rpx K H tx x->f tx ts=some t->tyV K T0 x H)(ho:aU K to o)(ha:fv K ta a):aU K (tBM K T0 red to ta) (mM f o a):=by with_unfolding_all
 intro Γ H ρ Z E Q r ρ' hK hr S q
 simp only[mM]at hr
 split at hr
 ·rename_i r0 ρ0 e0
  split at hr
  ·rename_i rs ρ1 e1
   split at hr
   ·rename_i al
    split at hr
    ·rename_i t e3
     cases hr
     refine ho Γ H ρ Z E _ r0 _ hK e0 S λx H1 S1=>?_
     have r0':=S1.rd ymS
     rw[hK]at r0'
     refine⟨hty H1 x _ _ _ r0' e3,?_⟩
     refine ha Γ H1 ρ0 Z _ _ rs _ hK e1 S1 λvs H2 hl S2=>?_
     rw[av (bh al),ag]at S2
     have r1:=S2.rds hl
     have S3:=S2.drops
     have r2:=S3.rd ymS
     rw[hK]at r1 r2
     refine hp H2 x vs _ _ t Q r2 r1 e3 λv H3 n=>q v H3 ?_
     rw[←hK]at n
     exact(S3.drop rfl).fresh n
    ·cases hr
   ·cases hr
  ·cases hr
 ·cases hr
@[irreducible] noncomputable def aK (a:ME):MT:=⟨λρ=>match a.run ρ with
 | some (⟨_,.im (.bl b)⟩,ρ1)=>some (b,ρ1)
 | _=>none,a.mu⟩
theorem mK {ta:TE}{a:ME}(ha:aU K ta a):eA K (xQ ta) (aK a):=by with_unfolding_all
 intro Γ H ρ Z E Q b ρ' hK hr S q
 simp only[aK]at hr
 split at hr
 ·rename_i k b0 ρ1 e1
  cases hr
  refine ha Γ H ρ Z E _ _ _ hK e1 S λx H1 S1=>⟨b,?_,q H1 (S1.drop rfl)⟩
  have r1:=S1.rd ymS
  exact kI r1
 ·cases hr
theorem Ak {ta:TE}{a:ME}(ha:aU K ta a):eA K (tB ta) (aK a):=mK ha
noncomputable def tru:T->Option Bool
 | .im .non=>some false
 | .im (.bl b)=>some b
 | .im (.int i)=>some (i != 0)
 | .im (.str x)=>if x.length<=sizeLine then some ((x.length:Int) != 0)else none
 | .im (.tup is)=>some (!is.isEmpty)
 | .li is=>some (!is.isEmpty)
 | .lst ts=>some (!ts.isEmpty)
 | .tup ts=>some (!ts.isEmpty)
 | _=>none
@[irreducible] noncomputable def pX (a:ME):MT:=⟨λρ=>match a.run ρ with
 | some (r,ρ1)=>(match tru r.t with
  | some b=>some (b,ρ1)
  | none=>none)
 | none=>none,a.mu⟩
theorem fW {α β:Type}{l:List α}{m:List β}(h:l.length=m.length):l.isEmpty=m.isEmpty:=by
 cases l<;>cases m<;>first|rfl|cases h
theorem tru_ok' {b:Bool}(h:tru t=some b)(r:Rpx K H t v):uQ K v H b:=by
 cases t with
 | im i=>
  cases i with
  | non=>rw[An r];cases h;rfl
  | bl x=>rw[kI r];cases h;rfl
  | int x=>rw[aN r];cases h;rfl
  | str x=>
   rw[cS r]
   simp only[tru]at h
   split at h
   ·cases h;exact⟨by assumption,rfl⟩
   ·cases h
  | tup is=>
   obtain⟨a,xs,rfl,h1,h2⟩:=bz r
   cases h
   exact .inr (.inl ⟨xs,h1,by rw[fW h2.length]⟩)
  | ls is=>cases h
 | li is=>
  obtain⟨a,xs,rfl,h1,h2⟩:=bY r
  cases h
  exact .inl ⟨xs,aQ h1,by rw[fW h2.length]⟩
 | lst is=>
  obtain⟨a,xs,F,rfl,h1,h2⟩:=fO r
  cases h
  exact .inl ⟨xs,aQ h1,by rw[fW h2.length]⟩
 | tup ts=>
  obtain⟨F,r⟩:=r
  rw[Rp]at r
  obtain⟨a,xs,rfl,h1,h2⟩:=r
  cases h
  exact .inr (.inl ⟨xs,h1,by rw[fW h2.length]⟩)
 | di _=>cases h
 | dc _=>cases h
 | ins _ _=>cases h
theorem wL {ta:TE}{a:ME}(ha:aU K ta a):eA K (CM K ta) (pX a):=by with_unfolding_all
 intro Γ H ρ Z E Q b ρ' hK hr S q
 simp only[pX]at hr
 split at hr
 ·rename_i r ρ1 e1
  split at hr
  ·rename_i b0 e2
   cases hr
   refine ha Γ H ρ Z E _ _ _ hK e1 S λx H1 S1=>⟨b,?_,q H1 (S1.drop rfl)⟩
   have r1:=S1.rd ymS
   rw[hK]at r1
   exact tru_ok' e2 r1
  ·cases hr
 ·cases hr
@[irreducible] noncomputable def ln (a b:MT):MT:=⟨λρ=>match a.run ρ with
 | some (true,ρ1)=>b.run ρ1
 | some (false,ρ1)=>some (false,ρ1)
 | none=>none,a.mu++b.mu⟩
@[irreducible] noncomputable def mOr (a b:MT):MT:=⟨λρ=>match a.run ρ with
 | some (true,ρ1)=>some (true,ρ1)
 | some (false,ρ1)=>b.run ρ1
 | none=>none,a.mu++b.mu⟩
@[irreducible] noncomputable def l7 (a:MT):MT:=⟨λρ=>match a.run ρ with
 | some (b,ρ1)=>some (!b,ρ1)
 | none=>none,a.mu⟩
theorem wv {ta tb:TT}{a b:MT}(ha:eA K ta a)(hb:eA K tb b):eA K (Cz ta tb) (ln a b):=by
 intro Γ H ρ Z E Q c ρ' hK hr S q
 simp only[ln]at hr q
 split at hr
 ·rename_i ρ1 e1
  refine ha Γ H ρ Z E _ _ _ hK e1 S λH1 S1=>pN ?_
  exact hb Γ H1 ρ1 Z _ _ _ _ hK hr S1 λH2 S2=>q H2 (by rw[←ag];exact S2)
 ·rename_i ρ1 e1
  cases hr
  exact ha Γ H ρ Z E _ _ _ hK e1 S λH1 S1=>pM (q H1 (by rw[←ag];exact S1.weak _))
 ·cases hr
theorem Ai {ta tb:TT}{a b:MT}(ha:eA K ta a)(hb:eA K tb b):eA K (tOr ta tb) (mOr a b):=by
 intro Γ H ρ Z E Q c ρ' hK hr S q
 simp only[mOr]at hr q
 split at hr
 ·rename_i ρ1 e1
  cases hr
  exact ha Γ H ρ Z E _ _ _ hK e1 S λH1 S1=>pN (q H1 (by rw[←ag];exact S1.weak _))
 ·rename_i ρ1 e1
  refine ha Γ H ρ Z E _ _ _ hK e1 S λH1 S1=>pM ?_
  exact hb Γ H1 ρ1 Z _ _ _ _ hK hr S1 λH2 S2=>q H2 (by rw[←ag];exact S2)
 ·cases hr
theorem wF {ta:TT}{a:MT}(ha:eA K ta a):eA K (CH ta) (l7 a):=by
 intro Γ H ρ Z E Q c ρ' hK hr S q
 simp only[l7]at hr q
 split at hr
 ·rename_i b ρ1 e1
  cases hr
  exact ha Γ H ρ Z E _ _ _ hK e1 S λH1 S1=>q H1 S1
 ·cases hr
@[irreducible] noncomputable def iP (a b:ME):ME:=⟨λρ=>match a.run ρ with
 | some (⟨_,.im (.bl true)⟩,ρ1)=>b.run ρ1
 | some (⟨_,.im (.bl false)⟩,ρ1)=>some (⟨.ow,.im (.bl false)⟩,ρ1)
 | _=>none,a.mu++b.mu⟩
@[irreducible] noncomputable def kz (a:ME):ME:=⟨λρ=>match a.run ρ with
 | some (⟨_,.im (.bl b)⟩,ρ1)=>some (⟨.ow,.im (.bl !b)⟩,ρ1)
 | _=>none,a.mu⟩
theorem tP {ta tb:TE}{a b:ME}(ha:aU K ta a)(hb:aU K tb b):aU K (xL ta tb) (iP a b):=by
 intro Γ H ρ Z E Q c ρ' hK hr S q
 simp only[iP]at hr q
 split at hr
 ·rename_i k ρ1 e1
  refine ha Γ H ρ Z E _ _ _ hK e1 S λx H1 S1=>⟨true,kI (S1.rd ymS),pN ?_⟩
  exact hb Γ H1 ρ1 Z _ _ _ _ hK hr (S1.drop rfl) λv H2 S2=>q v H2 (by rw[←ag];exact S2)
 ·rename_i k ρ1 e1
  cases hr
  refine ha Γ H ρ Z E _ _ _ hK e1 S λx H1 S1=>⟨false,kI (S1.rd ymS),pM (q _ H1 ?_)⟩
  rw[←ag]
  exact((S1.drop rfl).weak _).imm (iT rfl)
 ·cases hr
theorem tY {ta:TE}{a:ME}(ha:aU K ta a):aU K (xO ta) (kz a):=by
 intro Γ H ρ Z E Q c ρ' hK hr S q
 simp only[kz]at hr q
 split at hr
 ·rename_i k b ρ1 e1
  cases hr
  exact ha Γ H ρ Z E _ _ _ hK e1 S λx H1 S1=>⟨b,kI (S1.rd ymS),q _ H1 ((S1.drop rfl).imm (iT rfl))⟩
 ·cases hr
end
mutual
noncomputable def I.dok:I->Bool
 | .int _=>true|.str _=>true|.tup is=>I.doks is|_=>false
noncomputable def I.doks:List I->Bool
 | []=>true
 | i::is=>i.dok&&I.doks is
end
mutual
noncomputable def I.toD:I->D
 | .int i=>.int i|.str x=>.str x|.tup is=>.tup (I.toDs is)|_=>.int 0
noncomputable def I.toDs:List I->List D
 | []=>[]
 | i::is=>i.toD::I.toDs is
end
mutual
noncomputable def I.dep:I->Nat
 | .tup is=>I.deps is+1|_=>0
noncomputable def I.deps:List I->Nat
 | []=>0
 | i::is=>max i.dep (I.deps is)
end
mutual
theorem x9:∀(i:I),i.toD.depth=i.dep
 | .non=>rfl|.bl _=>rfl|.int _=>rfl|.str _=>rfl|.ls _=>rfl
 | .tup is=>by rw[I.toD,D.depth,I.dep,fV is]
theorem fV:∀(is:List I),aJ (I.toDs is)=I.deps is
 | []=>rfl
 | i::is=>by rw[I.toDs,aJ,I.deps,x9 i,fV is]
end
mutual
theorem pe:∀{a b:I},a.dok=true->b.dok=true->(a.toD=b.toD↔a=b)
 | .non,_,h,_=>by simp[I.dok]at h
 | .bl _,_,h,_=>by simp[I.dok]at h
 | .ls _,_,h,_=>by simp[I.dok]at h
 | .int x,b,_,h=>by cases b<;>simp[I.dok]at h<;>simp[I.toD]
 | .str x,b,_,h=>by cases b<;>simp[I.dok]at h<;>simp[I.toD]
 | .tup x,b,h1,h=>by
  cases b with
  | tup y=>
   rw[I.dok]at h h1
   rw[I.toD,I.toD,D.tup.injEq,I.tup.injEq]
   exact hU h1 h
  | non=>simp[I.dok]at h
  | bl _=>simp[I.dok]at h
  | ls _=>simp[I.dok]at h
  | int _=>simp[I.toD]
  | str _=>simp[I.toD]
theorem hU:∀{a b:List I},I.doks a=true->I.doks b=true->(I.toDs a=I.toDs b↔a=b)
 | [],b,_,_=>by cases b<;>simp[I.toDs]
 | x::xs,b,h1,h=>by
  cases b with
  | nil=>simp[I.toDs]
  | cons y ys=>
   rw[I.doks,DD]at h h1
   rw[I.toDs,I.toDs,E3.injEq,E3.injEq,pe h1.1 h.1,hU h1.2 h.2]
end
section
variable  {K:yF}{H:Hp}
mutual
theorem jQ:∀{i:I} {v:V},i.dok=true->RpI K H i v->Rep K H i.toD v
 | .non,_,h,_=>by simp[I.dok]at h
 | .bl _,_,h,_=>by simp[I.dok]at h
 | .ls _,_,h,_=>by simp[I.dok]at h
 | .int _,_,_,r=>by rw[RpI]at r;rw[I.toD,Rep];exact r
 | .str _,_,_,r=>by rw[RpI]at r;rw[I.toD,Rep];exact r
 | .tup is,_,h,r=>by
  rw[RpI]at r;rw[I.dok]at h
  obtain⟨a,xs,h1,h2,h3⟩:=r
  rw[I.toD,Rep]
  exact⟨a,xs,h1,h2,gj h h3⟩
theorem gj:∀{is:List I} {vs:List V},I.doks is=true->RpIs K H is vs->Reps K H (I.toDs is) vs
 | [],_,_,r=>by rw[RpIs]at r;rw[I.toDs,Reps];exact r
 | i::is,_,h,r=>by
  rw[RpIs]at r;rw[I.doks,DD]at h
  obtain⟨x,xs,h1,h2,h3⟩:=r
  rw[I.toDs,Reps]
  exact⟨x,xs,h1,jQ h.1 h2,gj h.2 h3⟩
end
theorem jF {i:I}:∀{is:List I},i.dok=true->I.doks is=true->(i.toD∈I.toDs is↔i∈is)
 | [],_,_=>by simp[I.toDs]
 | x::xs,h,hs=>by
  rw[I.doks,DD]at hs
  rw[I.toDs,Ed,Ed,pe h hs.1,jF h hs.2]
noncomputable def isI:T->Option Int
 | .im i=>(match i with|.int a=>some a|_=>none)
 | _=>none
noncomputable def isS:T->Option Str
 | .im i=>(match i with|.str a=>some a|_=>none)
 | _=>none
noncomputable def rM:T->Option (List I)
 | .im i=>(match i with|.tup a=>some a|_=>none)
 | _=>none
noncomputable def rL:T->Option (List I)
 | .li a=>some a
 | _=>none
theorem de {t:T}{a:Int}(h:isI t=some a):t=.im (.int a):=by
 cases t with
 | im i=>cases i<;>cases h;rfl
 | _=>cases h
theorem va {t:T}{a:Str}(h:isS t=some a):t=.im (.str a):=by
 cases t with
 | im i=>cases i<;>cases h;rfl
 | _=>cases h
theorem gS {t:T}{a:List I}(h:rM t=some a):t=.im (.tup a):=by
 cases t with
 | im i=>cases i<;>cases h;rfl
 | _=>cases h
theorem eG {t:T}{a:List I}(h:rL t=some a):t=.li a:=by
 cases t with
 | li i=>cases h;rfl
 | _=>cases h
noncomputable def i2 (g:Int->Int->Option T) (x y:T):Option T:=match isI x with
 | some a=>(match isI y with
  | some b=>g a b
  | none=>none)
 | none=>none
theorem gy {g:Int->Int->Option T}{x y t:T}(h:i2 g x y=some t):∃a b,x=.im (.int a)/\y=.im (.int b)/\g a b=some t:=by
 unfold i2 at h
 split at h
 ·rename_i a ea
  split at h
  ·rename_i b eb
   exact⟨a,b,de ea,de eb,h⟩
  ·cases h
 ·cases h
theorem aM {α:Type}{c:Prop}[Decidable c]{t u : α}(h:(if c then some t else none)=some u):c/\t=u:=by
 by_cases hc:c
 ·rw[if_pos hc]at h;exact⟨hc,D5.inj h⟩
 ·rw[if_neg hc]at h;cases h
noncomputable def AY (i:I) (y:T):Option T:=match i with
 | .int a=>(match isI y with|some b=>some (.im (.int (a+b)))|none=>none)
 | .str a=>(match isS y with|some b=>if a.length+b.length<=sizeLine then some (.im (.str (a++b)))else none|none=>none)
 | .tup a=>(match rM y with|some b=>if a.length+b.length<=sizeLine then some (.im (.tup (a++b)))else none|none=>none)
 | _=>none
@[irreducible] noncomputable def bd (x y:T):Option T:=match x with
 | .im i=>AY i y
 | .li a=>(match rL y with|some b=>if a.length+b.length<=sizeLine then some (.li (a++b))else none|none=>none)
 | _=>none
theorem RpIs.nil_iff {is:List I}{xs:List V}(h:RpIs K H is xs):xs=[]↔is=[]:=by
 have:=h.length
 cases is<;>cases xs<;>first|(simp;done)|(cases this;done)
theorem sF:cW K (tD K) bd:=by
 intro H x y tx ty t Q rx ry e q
 unfold bd at e
 split at e
 ·rename_i i
  unfold AY at e
  split at e
  ·split at e
   ·rename_i b eb
    cases de eb
    cases e
    rw[aN rx,aN ry]
    exact .inl (.inl ⟨_,_,rfl,rfl,q _ H (.sc rfl)⟩)
   ·cases e
  ·split at e
   ·rename_i b eb
    cases va eb
    obtain⟨hl,rfl⟩:=aM e
    rw[cS rx,cS ry]
    exact .inl (.inr (.inl ⟨_,_,rfl,rfl,hl,q _ H (.sc rfl)⟩))
   ·cases e
  ·rename_i a
   split at e
   ·rename_i b eb
    cases gS eb
    obtain⟨hl,rfl⟩:=aM e
    obtain⟨p,xs,rfl,h1,h2⟩:=bz rx
    obtain⟨p',ys,rfl,g1,g2⟩:=bz ry
    by_cases ha:a=[]
    ·subst ha
     have:=h2.nil_inv
     subst this
     refine .inr (.inr ⟨p,p',ys,rfl,rfl,h1,g1,q _ H (.im ?_)⟩)
     rw[RpI];exact⟨p',ys,rfl,g1,g2⟩
    ·refine .inl (.inr (.inr (.inr ⟨p,p',xs,ys,rfl,rfl,h1,g1,λz=>ha (h2.nil_iff.mp z),by rw[h2.length,g2.length];exact hl,λz=>q _ H (.im ?_),λz p hp=>q _ _ (.tup hp (h2.append g2))⟩)))
     have:=g2.nil_iff.mp z
     subst this
     rw[D0,RpI]
     exact⟨p,xs,rfl,h1,h2⟩
   ·cases e
  ·cases e
 ·split at e
  ·rename_i b eb
   cases eG eb
   obtain⟨hl,rfl⟩:=aM e
   obtain⟨p,xs,rfl,h1,h2⟩:=bY rx
   obtain⟨p',ys,rfl,g1,g2⟩:=bY ry
   exact .inr (.inl ⟨p,p',xs,ys,rfl,rfl,h1,g1,by rw[h2.length,g2.length];exact hl,λp hp=>q _ _ (.li hp (h2.append g2))⟩)
  ·cases e
 ·cases e
@[irreducible] noncomputable def bZ:T->T->Option T:=i2 λa b=>some (.im (.int (a-b)))
theorem sV:cW K (rI0 λi j=>.int (i-j)) bZ:=by
 intro H x y tx ty t Q rx ry e q
 unfold bZ at e
 obtain⟨a,b,rfl,rfl,e⟩:=gy e
 cases e
 rw[aN rx,aN ry]
 exact⟨_,_,rfl,rfl,q _ H (.sc rfl)⟩
noncomputable def iQ (i j:Int):Bool:=(decide (-(2^64)<i)&&decide (i<2^64))||(decide (-(2^64)<j)&&decide (j<2^64))
theorem vn {i j:Int}(h:iQ i j=true):CMul i j:=by
 unfold iQ at h
 simp only[FC,DD,decide_eq_true_eq]at h
 exact h
noncomputable def Bo (i:I) (b:Int):Option T:=match i with
 | .int a=>if iQ a b=true then some (.im (.int (a*b)))else none
 | .str a=>if 1<=b/\b<=1000/\a.length<=1000 then some (.im (.str (oL (DE b.toNat (sL a)).flatten)))else none
 | .tup a=>if a≠[]/\a.length<=1000/\1<=b/\b<=1000 then some (.im (.tup (DE b.toNat a).flatten))else none
 | _=>none
@[irreducible] noncomputable def dl (x y:T):Option T:=match isI y with
 | some b=>(match x with
  | .im i=>Bo i b
  | .li a=>if -(2^63)<=b/\b<2^63/\a.length*b.toNat<=sizeLine then some (.li (DE b.toNat a).flatten)else none
  | _=>none)
 | none=>none
theorem RpIs.reps {is:List I}{xs:List V}(h:RpIs K H is xs):∀n:Nat,RpIs K H (DE n is).flatten (DE n xs).flatten
 | 0=>.nil
 | n+1=>by
  rw[Eh,Eh,EG,EG]
  exact h.append (h.reps n)
theorem sR:cW K (tI K) dl:=by
 intro H x y tx ty t Q rx ry e q
 unfold dl at e
 split at e
 ·rename_i b eb
  cases de eb
  split at e
  ·unfold Bo at e
   split at e
   ·obtain⟨h,rfl⟩:=aM e
    rw[aN rx,aN ry]
    exact .inl (.inl ⟨_,_,rfl,rfl,vn h,q _ H (.sc rfl)⟩)
   ·obtain⟨h,rfl⟩:=aM e
    rw[cS rx,aN ry]
    exact .inl (.inr (.inl ⟨_,_,rfl,rfl,h.1,h.2.1,h.2.2,q _ H (.sc rfl)⟩))
   ·rename_i a
    obtain⟨h,rfl⟩:=aM e
    obtain⟨p,xs,rfl,h1,h2⟩:=bz rx
    rw[aN ry]
    refine .inl (.inr (.inr (.inr ⟨p,b,xs,rfl,rfl,h1,λz=>h.1 (h2.nil_iff.mp z),by rw[h2.length];exact h.2.1,h.2.2.1,h.2.2.2,λz=>q _ H (.im ?_),λz p hp=>q _ _ (.tup hp (h2.reps _))⟩)))
    subst z
    have e1:(DE (1:Int).toNat a).flatten=a:=by simp
    rw[e1,RpI]
    exact⟨p,xs,rfl,h1,h2⟩
   ·cases e
  ·obtain⟨h,rfl⟩:=aM e
   obtain⟨p,xs,rfl,h1,h2⟩:=bY rx
   rw[aN ry]
   exact .inr ⟨p,b,xs,rfl,rfl,h1,h.1,h.2.1,by rw[h2.length];exact h.2.2,λp hp=>q _ _ (.li hp (h2.reps _))⟩
  ·cases e
 ·cases e
@[irreducible] noncomputable def gn:T->T->Option T:=i2 λa b=>if 0<b/\b<2^64 then some (.im (.int (a / b)))else none
theorem qk:cW K (rI m7 λi j=>.int (i / j)) gn:=by
 intro H x y tx ty t Q rx ry e q
 unfold gn at e
 obtain⟨a,b,rfl,rfl,e⟩:=gy e
 obtain⟨h,rfl⟩:=aM e
 rw[aN rx,aN ry]
 exact⟨_,_,rfl,rfl,h,q _ H (.sc rfl)⟩
@[irreducible] noncomputable def eX:T->T->Option T:=i2 λa b=>if 0<b then some (.im (.int (a % b)))else none
theorem sQ:cW K (rI (λ_ j=>0<j) λi j=>.int (i % j)) eX:=by
 intro H x y tx ty t Q rx ry e q
 unfold eX at e
 obtain⟨a,b,rfl,rfl,e⟩:=gy e
 obtain⟨h,rfl⟩:=aM e
 rw[aN rx,aN ry]
 exact⟨_,_,rfl,rfl,h,q _ H (.sc rfl)⟩
@[irreducible] noncomputable def qg:T->T->Option T:=i2 λa b=>if 0<=b/\b<=1000000/\a.natAbs<2^64 then some (.im (.int (a^b.toNat)))else none
theorem sU:cW K (rI xT λi j=>.int (i^j.toNat)) qg:=by
 intro H x y tx ty t Q rx ry e q
 unfold qg at e
 obtain⟨a,b,rfl,rfl,e⟩:=gy e
 obtain⟨h,rfl⟩:=aM e
 rw[aN rx,aN ry]
 exact⟨_,_,rfl,rfl,h,q _ H (.sc rfl)⟩
@[irreducible] noncomputable def gr (p:Int->Int->Bool):T->T->Option T:=i2 λa b=>some (.im (.bl (p a b)))
theorem jL {p:Int->Int->Bool}:cW K (rI0 λi j=>.bl (p i j)) (gr p):=by
 intro H x y tx ty t Q rx ry e q
 unfold gr at e
 obtain⟨a,b,rfl,rfl,e⟩:=gy e
 cases e
 rw[aN rx,aN ry]
 exact⟨_,_,rfl,rfl,q _ H (.sc rfl)⟩
noncomputable def xK (a b:I):Bool:=match a.sc with
 | some v=>(match b.sc with
  | some w=>uo v w
  | none=>false)
 | none=>false
noncomputable def ofV:V->I
 | .bl b=>.bl b
 | .int i=>.int i
 | .str x=>.str x
 | _=>.non
theorem xv {a:I}{v:V}(h:a.sc=some v):ofV v=a:=by cases a<;>cases h<;>rfl
noncomputable def eqI:I->I->Option Bool
 | .tup a,.tup b=>if I.doks a=true/\I.doks b=true/\I.deps a<=50 then some (decide (a=b))else none
 | a,b=>if xK a b=true then some (decide (a=b))else none
noncomputable def eqB:T->T->Option Bool
 | .im a,.im b=>eqI a b
 | .li a,.li b=>if I.doks a=true/\I.doks b=true/\I.deps a<=50 then some (decide (a=b))else none
 | _,_=>none
@[irreducible] noncomputable def eqT (x y:T):Option T:=(eqB x y).map λb=>.im (.bl b)
@[irreducible] noncomputable def neT (x y:T):Option T:=(eqB x y).map λb=>.im (.bl !b)
theorem yd {a b:I}{c:Bool}(h:eqI a b=some c):(∃x y,a=.tup x/\b=.tup y/\I.doks x=true/\I.doks y=true/\I.deps x<=50/\c=decide (x=y)) ∨ ∃v w,a.sc=some v/\b.sc=some w/\uo v w=true/\c=decide (v=w):=by
 unfold eqI at h
 split at h
 ·rename_i x y
  split at h
  ·rename_i hh;cases h;exact .inl ⟨x,y,rfl,rfl,hh.1,hh.2.1,hh.2.2,rfl⟩
  ·cases h
 ·split at h
  ·rename_i hh
   cases h
   right
   unfold xK at hh
   split at hh
   ·rename_i v ev
    split at hh
    ·rename_i w ew
     refine⟨v,w,ev,ew,hh,?_⟩
     have:(a=b)↔(v=w):=⟨λz=>D5.inj (ev.symm.trans ((congrArg I.sc z).trans ew)),λz=>by rw[←xv ev,←xv ew,z]⟩
     exact decide_eq_decide.mpr this
    ·cases hh
   ·cases hh
  ·cases h
theorem rB {x y:V}{tx ty:T}{b:Bool}{P:V->Prop}(rx:Rpx K H tx x)(ry:Rpx K H ty y)(e:eqB tx ty=some b) :
  (uo x y=true/\b=decide (x=y))∨(∃ds es,Rep K H (.tup ds) x/\Rep K H (.tup es) y/\aJ ds<=50/\(b=true↔ds=es))∨(∃p q xs ys ds es,x=.ref p/\y=.ref q/\SqL K H p xs/\SqL K H q ys/\Reps K H ds xs/\Reps K H es ys/\aJ ds<=50/\(b=true↔ds=es)):=by
 unfold eqB at e
 split at e
 ·rename_i a c
  rcases yd e with⟨x1,y1,rfl,rfl,h1,h2,h3,rfl⟩|⟨v,w,h1,h2,h3,rfl⟩
  ·refine .inr (.inl ⟨I.toDs x1,I.toDs y1,?_,?_,by rw[fV];exact h3,?_⟩)
   ·have:=jQ (i:=.tup x1) (by rw[I.dok];exact h1) (cZ rx)
    rwa [I.toD]at this
   ·have:=jQ (i:=.tup y1) (by rw[I.dok];exact h2) (cZ ry)
    rwa [I.toD]at this
   ·rw[decide_eq_true_eq,hU h1 h2]
  ·rw[xJ h1 (cZ rx),xJ h2 (cZ ry)]
   exact .inl ⟨h3,rfl⟩
 ·split at e
  ·rename_i a c h
   cases e
   obtain⟨p,xs,rfl,h1,h2⟩:=bY rx
   obtain⟨p',ys,rfl,g1,g2⟩:=bY ry
   exact .inr (.inr ⟨p,p',xs,ys,_,_,rfl,rfl,aQ h1,aQ g1,gj h.1 h2,gj h.2.1 g2,by rw[fV];exact h.2.2,by rw[decide_eq_true_eq,hU h.1 h.2.1]⟩)
  ·cases e
 ·cases e
theorem vP:cW K (zY K) eqT:=by
 intro H x y tx ty t Q rx ry e q
 unfold eqT at e
 cases h:eqB tx ty with
 | none=>rw[h]at e;cases e
 | some b=>
  rw[h]at e;cases e
  rcases rB (P:=λ_=>True) rx ry h with⟨h1,rfl⟩|⟨ds,es,h1,h2,h3,h4⟩|⟨p,p',xs,ys,ds,es,h1,h2,h3,h4,h5,h6,h7,h8⟩
  ·exact .inl ⟨h1,q _ H (.sc rfl)⟩
  ·refine .inr (.inl ⟨ds,es,h1,h2,h3,λc hc=>?_⟩)
   have:c=b:=by rw[EJ,hc,h4]
   subst this
   exact q _ H (.sc rfl)
  ·refine .inr (.inr ⟨p,p',xs,ys,ds,es,h1,h2,h3,h4,h5,h6,h7,λc hc=>?_⟩)
   have:c=b:=by rw[EJ,hc,h8]
   subst this
   exact q _ H (.sc rfl)
theorem vR:cW K (z9 K) neT:=by
 intro H x y tx ty t Q rx ry e q
 unfold neT at e
 cases h:eqB tx ty with
 | none=>rw[h]at e;cases e
 | some b=>
  rw[h]at e;cases e
  rcases rB (P:=λ_=>True) rx ry h with⟨h1,rfl⟩|⟨ds,es,h1,h2,h3,h4⟩|⟨p,p',xs,ys,ds,es,h1,h2,h3,h4,h5,h6,h7,h8⟩
  ·exact .inl ⟨h1,q _ H (.sc rfl)⟩
  ·refine .inr (.inl ⟨ds,es,h1,h2,h3,λc hc=>?_⟩)
   have:c = !b:=by cases b<;>cases c<;>simp_all
   subst this
   exact q _ H (.sc rfl)
  ·refine .inr (.inr ⟨p,p',xs,ys,ds,es,h1,h2,h3,h4,h5,h6,h7,λc hc=>?_⟩)
   have:c = !b:=by cases b<;>cases c<;>simp_all
   subst this
   exact q _ H (.sc rfl)
noncomputable def occ (i j:Str):Bool:=!(Builtin.Str.occurrences j i 0 j.length 1).isEmpty
noncomputable def inI (i:I) (y:T):Option Bool:=match y with
 | .im j=>(match j with
  | .str b=>(match i with
   | .str a=>some (occ a b)
   | _=>none)
  | .tup is=>if i.dok=true/\I.doks is=true/\I.deps is<=50 then some (decide (i∈is))else none
  | _=>none)
 | .li is=>if i.dok=true/\I.doks is=true/\I.deps is<=50 then some (decide (i∈is))else none
 | _=>none
noncomputable def inB (x y:T):Option Bool:=match x with
 | .im i=>inI i y
 | _=>none
@[irreducible] noncomputable def inT (x y:T):Option T:=(inB x y).map λb=>.im (.bl b)
@[irreducible] noncomputable def nF (x y:T):Option T:=(inB x y).map λb=>.im (.bl !b)
theorem rJ {x y:V}{tx ty:T}{b:Bool}(rx:Rpx K H tx x)(ry:Rpx K H ty y)(e:inB tx ty=some b) :
  (∃i j,x=.str i/\y=.str j/\b=occ i j)∨(∃p xs d ds,y=.ref p/\(SqL K H p xs∨SqT K H p xs)/\Rep K H d x/\Reps K H ds xs/\aJ ds<=50/\(b=true↔d∈ds)):=by
 unfold inB at e
 split at e
 ·unfold inI at e
  split at e
  ·split at e
   ·split at e
    ·cases e;exact .inl ⟨_,_,cS rx,cS ry,rfl⟩
    ·cases e
   ·obtain⟨h,rfl⟩:=aM e
    obtain⟨p,xs,rfl,h1,h2⟩:=bz ry
    exact .inr ⟨p,xs,_,_,rfl,.inr h1,jQ h.1 (cZ rx),gj h.2.1 h2,by rw[fV];exact h.2.2,by rw[decide_eq_true_eq,jF h.1 h.2.1]⟩
   ·cases e
  ·obtain⟨h,rfl⟩:=aM e
   obtain⟨p,xs,rfl,h1,h2⟩:=bY ry
   exact .inr ⟨p,xs,_,_,rfl,.inl (aQ h1),jQ h.1 (cZ rx),gj h.2.1 h2,by rw[fV];exact h.2.2,by rw[decide_eq_true_eq,jF h.1 h.2.1]⟩
  ·cases e
 ·cases e
theorem vQ:cW K (zZ K) inT:=by
 intro H x y tx ty t Q rx ry e q
 unfold inT at e
 cases h:inB tx ty with
 | none=>rw[h]at e;cases e
 | some b=>
  rw[h]at e;cases e
  rcases rJ rx ry h with⟨i,j,rfl,rfl,rfl⟩|⟨p,xs,d,ds,h1,h2,h3,h4,h5,h6⟩
  ·exact .inl ⟨i,j,rfl,rfl,q _ H (.sc rfl)⟩
  ·refine .inr (.inr ⟨p,xs,d,ds,h1,h2,h3,h4,h5,λc hc=>?_⟩)
   have:c=b:=by rw[EJ,hc,h6];simp
   subst this
   exact q _ H (.sc rfl)
theorem sS:cW K (lA K) nF:=by
 intro H x y tx ty t Q rx ry e q
 unfold nF at e
 cases h:inB tx ty with
 | none=>rw[h]at e;cases e
 | some b=>
  rw[h]at e;cases e
  rcases rJ rx ry h with⟨i,j,rfl,rfl,rfl⟩|⟨p,xs,d,ds,h1,h2,h3,h4,h5,h6⟩
  ·exact .inl ⟨i,j,rfl,rfl,q _ H (.sc rfl)⟩
  ·refine .inr (.inr ⟨p,xs,d,ds,h1,h2,h3,h4,h5,λc hc=>?_⟩)
   have:c = !b:=by cases b<;>cases c<;>simp_all
   subst this
   exact q _ H (.sc rfl)
noncomputable def l1 {α:Type} (g:T->Option α) (ts:List T):Option α:=match ts with
 | []=>none
 | t::r=>(match r with
  | []=>g t
  | _::_=>none)
theorem dA {α:Type}{g:T->Option α}{ts:List T}{u : α}(h:l1 g ts=some u):∃t,ts=[t]/\g t=some u:=by
 cases ts with
 | nil=>cases h
 | cons t r=>cases r with
  | nil=>exact⟨t,rfl,h⟩
  | cons _ _=>cases h
noncomputable def l2 {α:Type} (g:T->T->Option α) (ts:List T):Option α:=match ts with
 | []=>none
 | t::r=>l1 (g t) r
theorem jA {α:Type}{g:T->T->Option α}{ts:List T}{u : α}(h:l2 g ts=some u):∃t s,ts=[t,s]/\g t s=some u:=by
 cases ts with
 | nil=>cases h
 | cons t r=>
  obtain⟨s,rfl,e⟩:=dA (show l1 (g t) r=some u from h)
  exact⟨t,s,rfl,e⟩
noncomputable def Bm (i:I):Option T:=match i with
 | .str x=>if x.length<=sizeLine then some (.im (.int x.length))else none
 | .tup is=>some (.im (.int is.length))
 | _=>none
noncomputable def Bl (t:T):Option T:=match t with
 | .im i=>Bm i
 | .li is=>some (.im (.int is.length))
 | .lst ts=>some (.im (.int ts.length))
 | .tup ts=>some (.im (.int ts.length))
 | _=>none
@[irreducible] noncomputable def cH:List T->Option T:=l1 Bl
theorem lJ {t:T}{vs:List V}(h:Rpxs K H [t] vs):∃v,vs=[v]/\Rpx K H t v:=by
 obtain⟨v,r,rfl,h1,h2⟩:=h
 rw[Rpxs]at h2
 subst h2
 exact⟨v,rfl,h1⟩
theorem Ao {t u:T}{vs:List V}(h:Rpxs K H [t,u] vs):∃v w,vs=[v,w]/\Rpx K H t v/\Rpx K H u w:=by
 obtain⟨v,r,rfl,h1,h2⟩:=h
 obtain⟨w,rfl,h3⟩:=lJ h2
 exact⟨v,w,rfl,h1,h3⟩
theorem lI {ts:List T}{v:V}(h:Rpx K H (.tup ts) v):∃a xs F,v=.ref a/\SqT K H a xs/\Rps K H ts xs F:=by
 obtain⟨F,h⟩:=h;rw[Rp]at h;obtain⟨a,xs,h1,h2,h3⟩:=h;exact⟨a,xs,F,h1,h2,h3⟩
theorem sK:fB K (tG K) cH:=by
 intro H vs ts t Q r e q
 unfold cH at e
 have e0:=dA e
 clear e
 obtain⟨x,rfl,e⟩:=e0
 obtain⟨v,rfl,r1⟩:=lJ r
 unfold Bl at e
 split at e
 ·unfold Bm at e
  split at e
  ·obtain⟨h,rfl⟩:=aM e
   rw[cS r1]
   exact .inr ⟨_,rfl,h,q _ H (.sc rfl)⟩
  ·cases e
   obtain⟨p,xs,rfl,h1,h2⟩:=bz r1
   exact .inl ⟨p,xs,rfl,.inr h1,q _ H (.sc (by rw[h2.length];rfl))⟩
  ·cases e
 ·cases e
  obtain⟨p,xs,rfl,h1,h2⟩:=bY r1
  exact .inl ⟨p,xs,rfl,.inl (aQ h1),q _ H (.sc (by rw[h2.length];rfl))⟩
 ·cases e
  obtain⟨p,xs,F,rfl,h1,h2⟩:=fO r1
  exact .inl ⟨p,xs,rfl,.inl (aQ h1),q _ H (.sc (by rw[h2.length];rfl))⟩
 ·cases e
  obtain⟨p,xs,F,rfl,h1,h2⟩:=lI r1
  exact .inl ⟨p,xs,rfl,.inr h1,q _ H (.sc (by rw[h2.length];rfl))⟩
 ·cases e
@[irreducible] noncomputable def l9:List T->Option T:=l2 (i2 λa b=>some (.im (.int (if b<a then b else a))))
theorem sP:fB K (λxs H Q=>∃i j,xs=[.int i,.int j]/\Q (.int (if j<i then j else i)) H) l9:=by
 intro H vs ts t Q r e q
 unfold l9 at e
 have e0:=jA e
 clear e
 obtain⟨x,y,rfl,e⟩:=e0
 obtain⟨a,b,rfl,rfl,e⟩:=gy e
 cases e
 obtain⟨v,w,rfl,r1,r2⟩:=Ao r
 rw[aN r1,aN r2]
 exact⟨_,_,rfl,q _ H (.sc rfl)⟩
@[irreducible] noncomputable def l8:List T->Option T:=l2 (i2 λa b=>some (.im (.int (if b>a then b else a))))
theorem sO:fB K (λxs H Q=>∃i j,xs=[.int i,.int j]/\Q (.int (if j>i then j else i)) H) l8:=by
 intro H vs ts t Q r e q
 unfold l8 at e
 have e0:=jA e
 clear e
 obtain⟨x,y,rfl,e⟩:=e0
 obtain⟨a,b,rfl,rfl,e⟩:=gy e
 cases e
 obtain⟨v,w,rfl,r1,r2⟩:=Ao r
 rw[aN r1,aN r2]
 exact⟨_,_,rfl,q _ H (.sc rfl)⟩
noncomputable def Bf (t:T):Option T:=match t with
 | .im i=>(match i with
  | .int a=>some (.im (.int a))
  | .bl b=>some (.im (.int (if b then 1 else 0)))
  | _=>none)
 | _=>none
@[irreducible] noncomputable def nt:List T->Option T:=l1 Bf
theorem sH:fB K (λxs H Q=>(∃i,xs=[.int i]/\Q (.int i) H) ∨ ∃k,xs=[.bl k]/\Q (.int (if k then 1 else 0)) H) nt:=by
 intro H vs ts t Q r e q
 unfold nt at e
 have e0:=dA e
 clear e
 obtain⟨x,rfl,e⟩:=e0
 obtain⟨v,rfl,r1⟩:=lJ r
 unfold Bf at e
 split at e
 ·split at e
  ·cases e
   rw[aN r1]
   exact .inl ⟨_,rfl,q _ H (.sc rfl)⟩
  ·cases e
   rw[kI r1]
   exact .inr ⟨_,rfl,q _ H (.sc rfl)⟩
  ·cases e
 ·cases e
noncomputable def wQ (g:List I->T) (t:T):Option T:=match t with
 | .im i=>(match i with
  | .tup is=>some (g is)
  | _=>none)
 | .li is=>some (g is)
 | _=>none
@[irreducible] noncomputable def fw:List T->Option T:=l1 (wQ λis=>.im (.tup is))
theorem sW:fB K (tJ K) fw:=by
 intro H vs ts t Q r e q
 unfold fw at e
 have e0:=dA e
 clear e
 obtain⟨x,rfl,e⟩:=e0
 obtain⟨v,rfl,r1⟩:=lJ r
 unfold wQ at e
 split at e
 ·split at e
  ·cases e
   obtain⟨p,xs,rfl,h1,h2⟩:=bz r1
   exact⟨p,xs,rfl,.inr ⟨h1,q _ H (.im (cZ r1))⟩⟩
  ·cases e
 ·cases e
  obtain⟨p,xs,rfl,h1,h2⟩:=bY r1
  exact⟨p,xs,rfl,.inl ⟨aQ h1,λl hl=>q _ _ (.tup hl h2)⟩⟩
 ·cases e
@[irreducible] noncomputable def rS:List T->Option T:=l1 (wQ λis=>.li is)
theorem sM:fB K (tH K) rS:=by
 intro H vs ts t Q r e q
 unfold rS at e
 have e0:=dA e
 clear e
 obtain⟨x,rfl,e⟩:=e0
 obtain⟨v,rfl,r1⟩:=lJ r
 unfold wQ at e
 split at e
 ·split at e
  ·cases e
   obtain⟨p,xs,rfl,h1,h2⟩:=bz r1
   exact⟨p,xs,rfl,.inr h1,λl hl=>q _ _ (.li hl h2)⟩
  ·cases e
 ·cases e
  obtain⟨p,xs,rfl,h1,h2⟩:=bY r1
  exact⟨p,xs,rfl,.inl (aQ h1),λl hl=>q _ _ (.li hl h2)⟩
 ·cases e
noncomputable def bls:List I->Option (List Bool)
 | []=>some []
 | .bl b::is=>(bls is).map (b :: ·)
 | _=>none
theorem x0 {is:List I}{xs:List V}:∀{bs:List Bool},bls is=some bs->RpIs K H is xs->xs=bs.map V.bl:=by
 induction is generalizing xs with
 | nil=>intro bs h r;cases h;exact r.nil_inv
 | cons i is ih=>
  intro bs h r
  cases i with
  | bl b=>
   simp only[bls]at h
   cases e:bls is with
   | none=>rw[e]at h;cases h
   | some cs=>
    rw[e]at h;cases h
    obtain⟨x,r',rfl,h1,h2⟩:=r.cons_inv
    rw[RpI]at h1
    rw[h1,ih e h2];rfl
  | _=>simp[bls]at h
noncomputable def lT:List T->Option T
 | [.li is]=>(bls is).map λbs=>.im (.bl (bs.all id))
 | _=>none
theorem sG:fB K (Cj K) lT:=by
 intro H vs ts t Q r e q
 unfold lT at e
 split at e
 ·rename_i is
  cases h:bls is with
  | none=>rw[h]at e;cases e
  | some bs=>
   rw[h]at e;cases e
   obtain⟨v,rfl,r1⟩:=lJ r
   obtain⟨p,xs,rfl,h1,h2⟩:=bY r1
   have:=x0 h h2
   subst this
   exact⟨p,bs,rfl,aQ h1,q _ H (.sc rfl)⟩
 ·cases e
noncomputable def mR:List I->Option (List Str)
 | []=>some []
 | .str b::is=>(mR is).map (b :: ·)
 | _=>none
theorem wT {is:List I}{xs:List V}:∀{bs:List Str},mR is=some bs->RpIs K H is xs->xs=bs.map V.str:=by
 induction is generalizing xs with
 | nil=>intro bs h r;cases h;exact r.nil_inv
 | cons i is ih=>
  intro bs h r
  cases i with
  | str b=>
   simp only[mR]at h
   cases e:mR is with
   | none=>rw[e]at h;cases h
   | some cs=>
    rw[e]at h;cases h
    obtain⟨x,r',rfl,h1,h2⟩:=r.cons_inv
    rw[RpI]at h1
    rw[h1,ih e h2];rfl
  | _=>simp[mR]at h
noncomputable def jy:T->List T->Option T
 | .im (.str z),[.li is]=>match mR is with
  | some zs=>if(zs.map (·.length)).sum+zs.length*z.length<=16777216 then some (.im (.str (Txt.join z zs)))else none
  | none=>none
 | _,_=>none
theorem qm:qW K "str" (xD K) jy:=by
 intro H x vs tx ts t Q rx r e q
 unfold jy at e
 split at e
 ·rename_i z is
  split at e
  ·rename_i zs hz
   split at e
   ·cases e
    obtain⟨v,rfl,r1⟩:=lJ r
    obtain⟨p,xs,rfl,h1,h2⟩:=bY r1
    have:=wT hz h2
    subst this
    rw[cS rx]
    exact⟨z,p,zs,rfl,rfl,aQ h1,by assumption,q _ H (.sc rfl)⟩
   ·cases e
  ·cases e
 ·cases e
end
section
variable  {Γ:Gm}{H H':Hp}{X:List En}{e:En}{ρ:Rho}{Z:St}{E:List En}{v:V}{t:T}{K:yF}
theorem Sim.partN (S:Sim Γ H ρ Z E)(sm:Same H H'){s:T}(he:e∈E){ro:Option Nat}{p:Option (List Ac)}(ho:e.r.k=.vw ro p){P:V->Prop}(hp:∀F,Rp Γ.K H e.r.t e.v F->∃w G,P w/\Rp Γ.K H' s w G/\∀a∈G,a∈F∨H a=none):∃w,P w/\Sim Γ H' ρ Z (⟨none,w,⟨.vw ro none,s⟩⟩::E):=by
 obtain⟨L,g,hL⟩:=S.sl
 have he':e∈L.map (·.e):=by rw[hL];exact yaL _ he
 obtain⟨h,hh,rfl⟩:=DM.mp he'
 obtain⟨w,G,h1,h2,h3⟩:=hp h.F (g.rp h hh)
 have own:∀a,H a=none->a∉L.flatMap Hd.own:=λa ha z=>by
  obtain⟨o,e,_⟩:=(g.ad a z).1
  rw[ha]at e;cases e
 have g':GW Γ H' L:=by
  have:=g.step (hs:=[]) (L:=L) (H':=H') (by simp) (by simp) (sm.offM _) (by simp) (key:=none) (v:=.non) (r:=⟨.ow,.im .non⟩) (F:=[]) EH (by simp) (fN (by rw[RpI])) (.inl ⟨rfl,by simp⟩) (λj hj=>by cases hj)
  exact this.drop rfl
 refine⟨w,h1,⟨⟨_,g'.push (v:=w) (r:=⟨.vw ro none,s⟩) (F:=G) h2 ?_ (.inl rfl),by rw[DJ,hL];rfl⟩,S.al,S.len,λx hx j hj=>?_⟩⟩
 ·have k:=g'.kd h hh
  unfold KdOk at k⊢
  rw[ho]at k
  cases ro with
  | none=>exact λa ha=>(h3 a ha).elim (k a) (own a)
  | some j=>
   obtain⟨x,x1,x2,x3,x4,x5⟩:=k
   exact⟨x,x1,x2,x3,λa ha=>(h3 a ha).elim (x4 a) (λz=>.inr (own a z)),λq hq=>by cases hq⟩
 ·rcases ycM hx with rfl|hx
  ·cases hj
  ·exact S.hi x hx j hj
theorem ul:∀{ts:List T} {xs:List V} {F:List Addr},Rps K H ts xs F->∃hs:List Hd,hs.map (·.e)=ay xs ts/\hs.flatMap (·.F)=F/\∀h∈hs,Rp K H h.e.r.t h.e.v h.F/\h.e.r.k=.ow/\h.e.key=none/\∀a∈h.F,a∈F
 | [],xs,F,r=>by
  obtain⟨rfl,rfl⟩:=r.nil_inv
  exact⟨[],rfl,rfl,by simp⟩
 | t::ts,xs,F,r=>by
  obtain⟨y,r',F1,F2,rfl,r1,r2,rfl⟩:=r.cons_inv
  obtain⟨hs,h1,h2,h3⟩:=ul r2
  refine⟨⟨⟨none,y,⟨.ow,t⟩⟩,F1⟩::hs,by rw[DJ,h1];rfl,by rw[DL,h2],λh hh=>?_⟩
  rcases ycM hh with rfl|hh
  ·exact⟨r1,rfl,rfl,λa ha=>yaL _ ha⟩
  ·obtain⟨a,b,c,d⟩:=h3 h hh
   exact⟨a,b,c,λx hx=>yaR _ (d x hx)⟩
theorem Sim.split {ts:List T}(S:Sim Γ H ρ Z (⟨none,v,⟨.ow,.tup ts⟩⟩::E)):∃a xs,v=.ref a/\SqT Γ.K H a xs/\xs.length=ts.length/\Sim Γ H ρ Z (ay xs ts++E):=by
 obtain⟨L,g,h⟩:=S.sl
 rw[D8]at h
 obtain⟨x,L',rfl,h1,h2⟩:=aF h
 have rp:=g.rp x ymS
 rw[h1,Rp]at rp
 obtain⟨a,xs,ev,hq,rps⟩:=rp
 have k0:=g.kd x ymS
 unfold KdOk at k0
 rw[h1]at k0
 have eo:x.own=x.F:=by unfold Hd.own;rw[h1];rfl
 obtain⟨hs,e1,e2,e3⟩:=ul rps
 have ho:∀h∈hs,h.e.r.k.isOw=true:=λh hh=>by rw[(e3 h hh).2.1];rfl
 have eown:(hs++L').flatMap Hd.own=(x::L').flatMap Hd.own:=by rw[DO,DL,fL ho,e2,eo]
 refine⟨a,xs,ev,hq,rps.length,⟨⟨hs++L',⟨?_,?_,λy hy=>?_,λy hy=>?_,?_,g.fr,g.iol⟩,?_⟩,S.al,S.len,λy hy j hj=>?_⟩⟩
 ·rw[eown];exact g.nd
 ·rw[eown];exact g.ad
 ·rcases yaM hy with hy|hy
  ·exact(e3 y hy).1
  ·exact g.rp y (ymC _ hy)
 ·rcases yaM hy with hy|hy
  ·unfold KdOk
   rw[(e3 y hy).2.1]
   exact λb hb=>k0 b ((e3 y hy).2.2.2 b hb)
  ·have k:=g.kd y (ymC _ hy)
   unfold KdOk at k⊢
   split at k
   ·exact k
   ·exact k
   ·rw[eown];exact k
   ·obtain⟨z,z1,z2,z3,z4,z5⟩:=k
    rcases ycM z1 with rfl|z1
    ·rw[h1]at z2;cases z2
    ·exact⟨z,yaR _ z1,z2,z3,by rw[eown];exact z4,z5⟩
 ·have ks:=g.ks
  rw[DZ,h1]at ks
  rw[DY,FM.mpr λy hy=>(e3 y hy).2.2.1]
  exact ks
 ·rw[DP,e1,h2,DU]
 ·rcases yaM hy with hy|hy
  ·have:∀{xs:List V} {ts:List T},y∈ay xs ts->y.key=none:=by
    intro xs
    induction xs with
    | nil=>intro ts h;cases ts<;>cases h
    | cons x xs ih=>
     intro ts h
     cases ts with
     | nil=>cases h
     | cons t ts=>
      rcases ycM h with rfl|h
      ·rfl
      ·exact ih h
   rw[this hy]at hj;cases hj
  ·exact S.hi y (ymC _ hy) j hj
noncomputable def partV (ro:Option Nat):T->R
 | .im i=>⟨.ow,.im i⟩
 | t=>⟨.vw ro none,t⟩
noncomputable def parts:R->Option (List R)
 | ⟨_,.im (.tup is)⟩=>some (is.map λi=>⟨.ow,.im i⟩)
 | ⟨.ow,.tup ts⟩=>some (ts.map λt=>⟨.ow,t⟩)
 | ⟨.vw ro _,.tup ts⟩=>some (ts.map (partV ro))
 | _=>none
theorem kO:∀{xs:List V} {ts:List T},ay xs ts=ens xs (ts.map λt=>⟨.ow,t⟩)
 | [],ts=>by cases ts<;>rfl
 | x::xs,[]=>rfl
 | x::xs,t::ts=>by rw[ay,DJ,ens,kO]
theorem Sim.imms:∀{is:List I} {xs:List V} {E:List En},Sim Γ H ρ Z E->RpIs Γ.K H is xs->Sim Γ H ρ Z (ens xs (is.map λi=>⟨.ow,.im i⟩)++E)
 | [],xs,E,S,r=>by obtain rfl:=r.nil_inv;exact S
 | i::is,xs,E,S,r=>by
  obtain⟨x,r',rfl,h1,h2⟩:=r.cons_inv
  rw[DJ,ens,D8]
  exact(Sim.imms S h2).imm h1
theorem Sim.parts {r:R}{rs:List R}(S:Sim Γ H ρ Z (⟨none,v,r⟩::E))(h:L2.parts r=some rs):∃a xs,v=.ref a/\SqT Γ.K H a xs/\xs.length=rs.length/\Sim Γ H ρ Z (ens xs rs++E):=by
 unfold L2.parts at h
 split at h
 ·rename_i k is
  cases h
  obtain⟨F,r⟩:=S.rd ymS
  obtain⟨a,xs,e,hq,hr⟩:=bz ⟨F,r⟩
  exact⟨a,xs,e,hq,by rw[hr.length,DH],(S.drop rfl).imms hr⟩
 ·rename_i ts
  cases h
  obtain⟨a,xs,e,hq,hl,S2⟩:=S.split
  rw[kO]at S2
  exact⟨a,xs,e,hq,by rw[hl,DH],S2⟩
 ·rename_i ro p ts
  cases h
  obtain⟨F,r⟩:=S.rd ymS
  obtain⟨a,xs,G,e,hq,hr⟩:=lI ⟨F,r⟩
  obtain⟨L,g,hL⟩:=S.sl
  rw[D8]at hL
  obtain⟨x,L',rfl,h1,h2⟩:=aF hL
  have rp:=g.rp x ymS
  rw[h1,Rp]at rp
  obtain⟨a',xs',ev,hq',rps⟩:=rp
  have S3:Sim Γ H ρ Z (ens xs' (ts.map (partV ro))++E):=by
   have go:∀(ts:List T) (xs:List V) (G:List Addr),Rps Γ.K H ts xs G->(∀a∈G,a∈x.F)->∃L1,GW Γ H (L1++x::L')/\L1.map (·.e)=ens xs (ts.map (partV ro))/\∀h∈L1,h.e.key=none:=by
    intro ts
    induction ts with
    | nil=>intro xs G r _;obtain⟨rfl,rfl⟩:=r.nil_inv;exact⟨[],g,rfl,by simp⟩
    | cons t ts ih=>
     intro xs G r hG
     obtain⟨y,r',F1,F2,rfl,r1,r2,rfl⟩:=r.cons_inv
     obtain⟨L1,g1,e1,e2⟩:=ih r' F2 r2 λa ha=>hG a (yaR _ ha)
     have kx:=g1.kd x (yaR _ ymS)
     unfold KdOk at kx
     rw[h1]at kx
     have key:∃h:Hd,GW Γ H (h::(L1++x::L'))/\h.e=⟨none,y,partV ro t⟩:=by
      have vw:GW Γ H (⟨⟨none,y,⟨.vw ro none,t⟩⟩,F1⟩::(L1++x::L')):=by
       refine g1.push (v:=y) (r:=⟨.vw ro none,t⟩) (F:=F1) r1 ?_ (.inl rfl)
       unfold KdOk
       cases ro with
       | none=>exact λa ha=>kx a (hG a (yaL _ ha))
       | some j=>
        obtain⟨z,z1,z2,z3,z4,z5⟩:=kx
        exact⟨z,z1,z2,z3,λa ha=>z4 a (hG a (yaL _ ha)),λq hq=>by cases hq⟩
      cases t with
      | im i=>exact⟨_,g1.push (v:=y) (r:=⟨.ow,.im i⟩) (F:=[]) (fN (bj r1).1) (λa ha=>by cases ha) (.inr rfl),rfl⟩
      | _=>exact⟨_,vw,rfl⟩
     obtain⟨h,gh,eh⟩:=key
     refine⟨h::L1,gh,by rw[DJ,eh,e1];rfl,λz hz=>?_⟩
     rcases ycM hz with rfl|hz
     ·rw[eh]
     ·exact e2 z hz
   obtain⟨L1,g1,e1,e2⟩:=go ts xs' x.F rps λa ha=>ha
   have g2:GW Γ H (L1++L'):=by
    have p:(L1++x::L').Perm (x::(L1++L')):=Ea
    exact(g1.perm p).drop (by rw[h1])
   refine⟨⟨_,g2,by rw[DP,e1,h2,DU]⟩,S.al,S.len,λy hy j hj=>?_⟩
   rcases yaM hy with hy|hy
   ·rw[←e1]at hy
    obtain⟨z,hz,rfl⟩:=DM.mp hy
    rw[e2 z hz]at hj;cases hj
   ·exact S.hi y (ymC _ hy) j hj
  exact⟨a',xs',ev,hq',by rw[rps.length,DH],S3⟩
 ·cases h
@[irreducible] noncomputable def mGNil:MGs:=⟨λrs ρ=>match rs with
 | []=>some ρ
 | _=>none,[]⟩
@[irreducible] noncomputable def ax (g:MG)(gs:MGs):MGs:=⟨λrs ρ=>match rs with
 | r::rs=>if rs.all (au g.mu)=true then(match g.run r ρ with
  | some ρ1=>gs.run rs ρ1
  | none=>none)else none
 | []=>none,g.mu++gs.mu⟩
@[irreducible] noncomputable def bC (gs:MGs):MG:=⟨λr ρ=>match parts r with
 | some rs=>gs.run rs ρ
 | none=>none,gs.mu⟩
theorem tT:lS K yj mGNil:=by with_unfolding_all
 intro Γ H ρ Z E Q vs rs ρ' hK hr hl S q
 cases rs with
 | nil=>
  cases hr
  have:vs=[]:=E6.mp hl
  subst this
  exact⟨rfl,q Z H (by rw[show mGNil.mu=[]from rfl,bW];exact S)⟩
 | cons _ _=>cases hr
theorem qC {g:TG}{gs:TGs}{m:MG}{ms:MGs}(h1:iU K g m)(h2:lS K gs ms):lS K (rE g gs) (ax m ms):=by with_unfolding_all
 intro Γ H ρ Z E Q vs rs ρ' hK hr hl S q
 cases rs with
 | nil=>cases hr
 | cons r rs=>
  cases vs with
  | nil=>cases hl
  | cons v vs=>
   simp only[ax]at hr q
   split at hr
   ·rename_i al
    split at hr
    ·rename_i ρ1 e1
     refine⟨v,vs,rfl,?_⟩
     rw[ens,D8]at S
     refine h1 Γ H ρ Z _ _ v r ρ1 hK e1 S λZ1 H1 S1=>?_
     rw[aD,ik al]at S1
     exact h2 Γ H1 ρ1 Z1 _ _ vs rs ρ' hK hr (by simpa using hl) S1 λZ2 H2 S2=>q Z2 H2 (by rw[←ag];exact S2)
    ·cases hr
   ·cases hr
theorem tU {gs:TGs}{ms:MGs}{n:Nat}(h:lS K gs ms)(hn:∀rs ρ ρ',ms.run rs ρ=some ρ'->rs.length=n):iU K (uZ K n gs) (bC ms):=by
 intro Γ H ρ Z E Q v r ρ' hK hr S q
 simp only[bC]at hr q
 split at hr
 ·rename_i rs e1
  obtain⟨a,xs,e,hq,hl,S2⟩:=S.parts e1
  rw[hK]at hq
  exact⟨a,xs,e,hq,by rw[hl];exact hn _ _ _ hr,h Γ H ρ Z _ _ xs rs ρ' hK hr hl S2 q⟩
 ·cases hr
noncomputable def consL (mv:List Nat):List R->Rho->Option (List T×Rho)
 | [],ρ=>some ([],ρ)
 | ⟨.ow,t⟩::rs,ρ=>match consL mv rs ρ with
  | some (ts,ρ')=>some (t::ts,ρ')
  | none=>none
 | ⟨.vw (some i) (some []),t⟩::rs,ρ=>if(mv.contains i&&rs.all (au [i]))=true then(match ρ[i]? with
  | some (some ⟨.ow,_⟩)=>(match consL mv rs ((aq [i] ρ).set i none)with
   | some (ts,ρ')=>some (t::ts,ρ')
   | none=>none)
  | _=>none)else none
 | _,_=>none
theorem Sim.consL {mv:List Nat}:∀{rs:List R} {vs:List V} {ts:List T} {ρ ρ':Rho} {A E:List En},Sim Γ H ρ Z (A++(ens vs rs++E))->vs.length=rs.length->L2.consL mv rs ρ=some (ts,ρ')->(∀e∈A,e.r.k=.ow/\e.key=none)->vs.length=ts.length/\Sim Γ H ρ' Z (A++(ay vs ts++af mv E))
 | [],[],ts,ρ,ρ',A,E,S,_,h,hA=>by
  cases h
  refine⟨rfl,?_⟩
  have:=S.weak mv
  rw[aD]at this
  have ea:af mv A=A:=ET.mpr λe he=>by unfold aE;rw[(hA e he).1];rfl
  rw[ea]at this
  exact this
 | r::rs,v::vs,ts,ρ,ρ',A,E,S,hl,h,hA=>by
  rw[ens,D8]at S
  obtain⟨k,t⟩:=r
  cases k with
  | ow=>
   simp only[L2.consL]at h
   split at h
   ·rename_i ts1 ρ1 e1
    cases h
    obtain⟨h1,S1⟩:=Sim.consL (rs:=rs) (vs:=vs) (A:=A++[⟨none,v,⟨.ow,t⟩⟩]) (E:=E) (by simpa using S) (by simpa using hl) e1 (λe he=>by
     rcases yaM he with he|he
     ·exact hA e he
     ·rw[ysM he];exact⟨rfl,rfl⟩)
    exact⟨by simp[h1],by rw[ay];simpa using S1⟩
   ·cases h
  | io n=>cases h
  | vw a b=>
   cases a with
   | none=>cases h
   | some i=>
    cases b with
    | none=>cases h
    | some p=>
     cases p with
     | cons _ _=>cases h
     | nil=>
      simp only[L2.consL]at h
      split at h
      ·rename_i al
       rw[DD]at al
       split at h
       ·rename_i t1 h1
        split at h
        ·rename_i ts1 ρ1 e1
         cases h
         have S0:Sim Γ H ρ Z (⟨none,v,⟨.vw (some i) (some []),t⟩⟩::(A++(ens vs rs++E))):=S.perm Ea
         have S1:=S0.move h1
         have ea:af [i] A=A:=ET.mpr λe he=>by unfold aE;rw[(hA e he).1];rfl
         rw[aD,ea,aD,ik al.2]at S1
         obtain⟨h2,S2⟩:=Sim.consL (rs:=rs) (vs:=vs) (A:=A++[⟨none,v,⟨.ow,t⟩⟩]) (E:=af [i] E) (S1.perm (by
          rw[DU]
          exact(Ea).symm)) (by simpa using hl) e1 (λe he=>by
          rcases yaM he with he|he
          ·exact hA e he
          ·rw[ysM he];exact⟨rfl,rfl⟩)
         refine⟨by simp[h2],?_⟩
         rw[ay]
         have ek:af mv (af [i] E)=af mv E:=by
          rw[ag]
          unfold af
          congr 1
          funext e
          rw[kj]
          by_cases hk:aE mv e=true
          ·rw[hk,Gz]
           unfold aE at hk⊢
           split
           ·rename_i j hj
            rw[hj]at hk
            have:j≠i:=λz=>by subst z;simp at hk;exact hk (by simpa using al.1)
            simp[this]
           ·rfl
          ·rw[GN]at hk;rw[hk,GX]
         rw[ek]at S2
         simpa using S2
        ·cases h
       ·cases h
      ·cases h
 | [],_::_,_,_,_,_,_,_,h,_,_=>by cases h
 | _::_,[],_,_,_,_,_,_,h,_,_=>by cases h
noncomputable def ims:List T->Option (List I)
 | []=>some []
 | .im i::ts=>(ims ts).map (i :: ·)
 | _=>none
theorem lh:∀{ts:List T} {is:List I},ims ts=some is->ts=is.map T.im
 | [],is,h=>by cases h;rfl
 | .im i::ts,is,h=>by
  simp only[ims]at h
  cases e:ims ts with
  | none=>rw[e]at h;cases h
  | some js=>rw[e]at h;cases h;rw[DJ,←lh e]
 | .tup _::_,_,h=>by cases h
 | .li _::_,_,h=>by cases h
 | .lst _::_,_,h=>by cases h
 | .di _::_,_,h=>by cases h
 | .dc _::_,_,h=>by cases h
 | .ins _ _::_,_,h=>by cases h
noncomputable def mj (ts:List T):T:=match ims ts with
 | some is=>.im (.tup is)
 | none=>.tup ts
noncomputable def bE (ts:List T):T:=match ims ts with
 | some is=>.li is
 | none=>.lst ts
@[irreducible] noncomputable def ar (mv:List Nat)(a:MA):ME:=⟨λρ=>match a.run ρ with
 | some (rs,ρ1)=>if rs.length<=1000 then(match consL mv rs ρ1 with
  | some (ts,ρ2)=>some (⟨.ow,mj ts⟩,ρ2)
  | none=>none)else none
 | none=>none,a.mu++mv⟩
@[irreducible] noncomputable def aL (mv:List Nat)(a:MA):ME:=⟨λρ=>match a.run ρ with
 | some (rs,ρ1)=>if rs.length<=1000 then(match consL mv rs ρ1 with
  | some (ts,ρ2)=>some (⟨.ow,bE ts⟩,ρ2)
  | none=>none)else none
 | none=>none,a.mu++mv⟩
theorem ut {n:Nat}(h:n<=1000):n<=sizeLine:=by rw[sizeLine_eq];omega
theorem uc {ta:TA}{a:MA}{mv:List Nat}(ha:fv K ta a):aU K (CN ta) (ar mv a):=by
 intro Γ H ρ Z E Q r ρ' hK hr S q
 simp only[ar]at hr q
 split at hr
 ·rename_i rs ρ1 e1
  split at hr
  ·rename_i hz
   split at hr
   ·rename_i ts ρ2 e2
    cases hr
    refine ha Γ H ρ Z E _ rs ρ1 hK e1 S λvs H1 hl S1=>⟨by rw[hl];exact ut hz,λp hp=>?_⟩
    obtain⟨hl2,S2⟩:=Sim.consL (A:=[]) (by simpa using S1) hl e2 (by simp)
    rw[Er,ag]at S2
    obtain⟨F,h1,h2,h3,h4⟩:=S2.use hl2
    have sm:=Same.laid (o:=.tup vs) hp
    refine q _ _ (h4 _ (.ref p) (mj ts) F (sm.offM _) (λa ha=>let ⟨o,e,_⟩:=h3 a ha;⟨o,sm a o e⟩) h2 (λa ha=>⟨.inl ha,let ⟨o,e,m⟩:=h3 a ha;⟨o,sm a o e,m⟩⟩) ?_)
    unfold mj
    split
    ·rename_i is hi
     rw[lh hi]at h1
     obtain⟨h5,h6⟩:=Rps.ims.mp h1
     subst h6
     refine fN ?_
     rw[RpI]
     exact⟨p,vs,rfl,SqT.of az,h5.same sm⟩
    ·rw[Rp]
     exact⟨p,vs,rfl,SqT.of az,h1.same sm⟩
   ·cases hr
  ·cases hr
 ·cases hr
theorem tV {ta:TA}{a:MA}{mv:List Nat}(ha:fv K ta a):aU K (CF ta) (aL mv a):=by
 intro Γ H ρ Z E Q r ρ' hK hr S q
 simp only[aL]at hr q
 split at hr
 ·rename_i rs ρ1 e1
  split at hr
  ·rename_i hz
   split at hr
   ·rename_i ts ρ2 e2
    cases hr
    refine ha Γ H ρ Z E _ rs ρ1 hK e1 S λvs H1 hl S1=>⟨by rw[hl];exact ut hz,λp hp=>?_⟩
    obtain⟨hl2,S2⟩:=Sim.consL (A:=[]) (by simpa using S1) hl e2 (by simp)
    rw[Er,ag]at S2
    obtain⟨F,h1,h2,h3,h4⟩:=S2.use hl2
    have sm:=Same.laid (o:=.lst vs) hp
    have np:p∉F:=λz=>by obtain⟨o,e,_⟩:=h3 p z;rw[hp]at e;cases e
    refine q _ _ (h4 _ (.ref p) (bE ts) (p::F) (sm.offM _) (λa ha=>let ⟨o,e,_⟩:=h3 a ha;⟨o,sm a o e⟩) (D9.mpr ⟨np,h2⟩) (λa ha=>?_) ?_)
    ·rcases ycM ha with rfl|ha
     ·exact⟨.inr hp,_,az,rfl⟩
     ·exact⟨.inl ha,let ⟨o,e,m⟩:=h3 a ha;⟨o,sm a o e,m⟩⟩
    ·unfold bE
     split
     ·rename_i is hi
      rw[lh hi]at h1
      obtain⟨h5,h6⟩:=Rps.ims.mp h1
      subst h6
      rw[Rp]
      exact⟨p,vs,rfl,.inl az,h5.same sm,rfl⟩
     ·rw[Rp]
      exact⟨p,vs,F,rfl,.inl az,h1.same sm,rfl⟩
   ·cases hr
  ·cases hr
 ·cases hr
end
section
variable  {Γ:Gm}{H H':Hp}{ρ:Rho}{Z:St}{E:List En}{v x y:V}{t:T}{K:yF}{Q:VK}
noncomputable def ixK:Kd->Option Ac->Option Kd
 | .ow,_=>some .ow
 | .io _,_=>none
 | .vw (some r) (some p),some a=>some (.vw (some r) (some (p++[a])))
 | .vw ro _,_=>some (.vw ro none)
noncomputable def ixP (k:Kd) (a:Option Ac):T->Option R
 | .im i=>some ⟨.ow,.im i⟩
 | t=>match ixK k a with
  | some k'=>some ⟨k',t⟩
  | none=>none
noncomputable def ixI (i:I) (n:Int):Option R:=match i with
 | .tup is=>(atI is n).map λi=>⟨.ow,.im i⟩
 | .str z=>if z.length<=sizeLine then(atI (sL z) n).map λc=>⟨.ow,.im (.str ⟨#[c]⟩)⟩else none
 | _=>none
noncomputable def ixX (k:Kd) (t:T) (n:Int):Option R:=match t with
 | .im i=>ixI i n
 | .li is=>(atI is n).map λi=>⟨.ow,.im i⟩
 | .lst ts=>(match ixN ts.length n with
  | some j=>(ts[j]?).bind (ixP k (some (.ix j)))
  | none=>none)
 | .tup ts=>(match ixN ts.length n with
  | some j=>(ts[j]?).bind (ixP k none)
  | none=>none)
 | _=>none
@[irreducible] noncomputable def ixR (r:R)(t:T):Option R:=match isI t with
 | some n=>ixX r.k r.t n
 | none=>none
@[irreducible] noncomputable def mIx (a b:ME):ME:=⟨λρ=>match a.run ρ with
 | some (ra,ρ1)=>match b.run ρ1 with
  | some (rb,ρ2)=>if au b.mu ra=true then(match ixR ra rb.t with
   | some r=>some (r,ρ2)
   | none=>none)else none
  | none=>none
 | none=>none,a.mu++b.mu⟩
theorem lU {is:List I}{xs:List V}{n:Int}{i:I}(r:RpIs K H is xs)(e:atI is n=some i):∃w,atI xs n=some w/\RpI K H i w:=by
 unfold atI at e⊢
 rw[r.length]
 cases h:ixN is.length n with
 | none=>rw[h]at e;cases e
 | some j=>rw[h]at e;exact r.get e
theorem Sim.takeO {s:T}(S:Sim Γ H ρ Z (⟨none,x,⟨.ow,t⟩⟩::E)){P:V->Prop}(hp:∀F,Rp Γ.K H t x F->∃w A G B,P w/\Rp Γ.K H s w G/\F=A++G++B):∃w,P w/\Sim Γ H ρ Z (⟨none,w,⟨.ow,s⟩⟩::E):=by
 obtain⟨F,h1,h2,h3,h4⟩:=Sim.use (vs:=[x]) (ts:=[t]) S rfl
 obtain⟨y,r',F1,F2,e,r1,r2,rfl⟩:=h1.cons_inv
 cases e
 have:=r2.nil_inv.2
 subst this
 rw[D0]at h2 h3 h4
 obtain⟨w,A,G,B,p,rg,rfl⟩:=hp F1 r1
 have inF:∀a∈G,a∈A++G++B:=λa ha=>yaL _ (yaR _ ha)
 exact⟨w,p,h4 H w s G (OffM.refl _ _) (λa ha=>let ⟨o,e,_⟩:=h3 a ha;⟨o,e⟩) (DF.mp (DF.mp h2).1).2.1 (λa ha=>⟨.inl (inF a ha),h3 a (inF a ha)⟩) rg⟩
theorem ng {α:Type}{xs:List α}{n:Int}{j m:Nat}{w : α}(h:ixN m n=some j)(hl:xs.length=m)(hw:xs[j]?=some w):atI xs n=some w:=by
 unfold atI;rw[hl,h];exact hw
theorem Sim.ixL {k:Kd}{ts:List T}{s:T}{j:Nat}{n:Int}{r:R}(S:Sim Γ H ρ Z (⟨none,x,⟨k,.lst ts⟩⟩::E))(hn:ixN ts.length n=some j)(hj:ts[j]?=some s)(hr:L2.ixP k (some (.ix j)) s=some r) :
  ∃w,(∀Q:VK,Q w H->rIx Γ.K x (.int n) H Q)/\Sim Γ H ρ Z (⟨none,w,r⟩::E):=by
 have gen:∀F,Rp Γ.K H (.lst ts) x F->∃w A G B,(∀Q:VK,Q w H->rIx Γ.K x (.int n) H Q)/\Rp Γ.K H s w G/\F=A++G++B:=λF rp=>by
  rw[Rp]at rp
  obtain⟨a,xs,F',rfl,h2,h3,rfl⟩:=rp
  obtain⟨w,A,G,B,h4,h5,h6,_,_⟩:=h3.at hj
  exact⟨w,a::A,G,B,λQ q=>.inl ⟨a,xs,n,w,rfl,rfl,aQ h2,ng hn h3.length h4,q⟩,h5,by rw[h6];simp⟩
 have hview:∀ro p,k=.vw ro p->∃w,(∀Q:VK,Q w H->rIx Γ.K x (.int n) H Q)/\Sim Γ H ρ Z (⟨none,w,⟨.vw ro none,s⟩⟩::E):=λro p hk=>by
  obtain⟨w,h1,S2⟩:=S.part (e:=⟨none,x,⟨k,.lst ts⟩⟩) ymS hk (P:=λw=>∀Q:VK,Q w H->rIx Γ.K x (.int n) H Q) (s:=s) (λF rp=>by
   obtain⟨w,A,G,B,h1,h2,h3⟩:=gen F rp
   exact⟨w,G,h1,h2,λa ha=>by rw[h3];exact yaL _ (yaR _ ha)⟩)
  exact⟨w,h1,S2.swap.drop rfl⟩
 have main:∀k',ixK k (some (.ix j))=some k'->∃w,(∀Q:VK,Q w H->rIx Γ.K x (.int n) H Q)/\Sim Γ H ρ Z (⟨none,w,⟨k',s⟩⟩::E):=λk' hk'=>by
  cases k with
  | ow=>
   cases hk'
   exact S.takeO gen
  | io m=>cases hk'
  | vw ro p=>
   cases ro with
   | none=>
    cases hk'
    exact hview none p rfl
   | some i=>
    cases p with
    | none=>cases hk';exact hview (some i) none rfl
    | some p=>
     cases hk'
     obtain⟨w,h1,S2⟩:=S.partP (e:=⟨none,x,⟨.vw (some i) (some p),.lst ts⟩⟩) ymS rfl (a:=.ix j) (s:=s) hj
     refine⟨w,λQ q=>?_,S2.swap.drop rfl⟩
     obtain⟨F,rp⟩:=S.rd ymS
     obtain⟨a,xs,G,e1,h2,h3⟩:=fO ⟨F,rp⟩
     obtain⟨a',xs',e2,g1,g2⟩:=h1
     have e1':x=.ref a:=e1
     have e2':x=.ref a':=e2
     rw[e1']at e2'
     cases e2'
     have e3:xs'=xs:=by
      rcases h2 with h2|⟨o,h2⟩
      ·rw[h2]at g1;cases g1;rfl
      ·rw[h2]at g1;cases g1
     subst e3
     rw[e1']
     exact .inl ⟨a,xs',n,w,rfl,rfl,SqL.of g1,ng hn h3.length g2,q⟩
 cases s with
 | im i=>
  cases hr
  obtain⟨F,rp⟩:=S.rd ymS
  obtain⟨w,A,G,B,h1,h2,_⟩:=gen F rp
  exact⟨w,h1,(S.drop rfl).imm (bj h2).1⟩
 | _=>
  simp only[L2.ixP]at hr
  split at hr
  ·rename_i k' e;cases hr;exact main k' e
  ·cases hr
theorem Sim.ixT {k:Kd}{ts:List T}{s:T}{j:Nat}{n:Int}{r:R}(S:Sim Γ H ρ Z (⟨none,x,⟨k,.tup ts⟩⟩::E))(hn:ixN ts.length n=some j)(hj:ts[j]?=some s)(hr:L2.ixP k none s=some r) :
  ∃w,(∀Q:VK,Q w H->rIx Γ.K x (.int n) H Q)/\Sim Γ H ρ Z (⟨none,w,r⟩::E):=by
 have gen:∀F,Rp Γ.K H (.tup ts) x F->∃w A G B,(∀Q:VK,Q w H->rIx Γ.K x (.int n) H Q)/\Rp Γ.K H s w G/\F=A++G++B:=λF rp=>by
  rw[Rp]at rp
  obtain⟨a,xs,rfl,h2,h3⟩:=rp
  obtain⟨w,A,G,B,h4,h5,h6,_,_⟩:=h3.at hj
  exact⟨w,A,G,B,λQ q=>.inr (.inl ⟨a,xs,n,w,rfl,rfl,h2,ng hn h3.length h4,q⟩),h5,h6⟩
 have main:∀k',ixK k none=some k'->∃w,(∀Q:VK,Q w H->rIx Γ.K x (.int n) H Q)/\Sim Γ H ρ Z (⟨none,w,⟨k',s⟩⟩::E):=λk' hk'=>by
  cases k with
  | ow=>
   cases hk'
   exact S.takeO gen
  | io m=>cases hk'
  | vw ro p=>
   have hv:k'=.vw ro none:=by cases ro<;>cases p<;>cases hk'<;>rfl
   subst hv
   obtain⟨w,h1,S2⟩:=S.part (e:=⟨none,x,⟨.vw ro p,.tup ts⟩⟩) ymS rfl (P:=λw=>∀Q:VK,Q w H->rIx Γ.K x (.int n) H Q) (s:=s) (λF rp=>by
    obtain⟨w,A,G,B,h1,h2,h3⟩:=gen F rp
    exact⟨w,G,h1,h2,λa ha=>by rw[h3];exact yaL _ (yaR _ ha)⟩)
   exact⟨w,h1,S2.swap.drop rfl⟩
 cases s with
 | im i=>
  cases hr
  obtain⟨F,rp⟩:=S.rd ymS
  obtain⟨w,A,G,B,h1,h2,_⟩:=gen F rp
  exact⟨w,h1,(S.drop rfl).imm (bj h2).1⟩
 | _=>
  simp only[L2.ixP]at hr
  split at hr
  ·rename_i k' e;cases hr;exact main k' e
  ·cases hr
theorem Sim.ixR {ra r:R}{tb:T}(h:L2.ixR ra tb=some r)(S:Sim Γ H ρ Z (⟨none,x,ra⟩::E))(ry:Rpx Γ.K H tb y):∃w,(∀Q:VK,Q w H->rIx Γ.K x y H Q)/\Sim Γ H ρ Z (⟨none,w,r⟩::E):=by
 have r1:Rpx Γ.K H ra.t x:=S.rd (e:=⟨none,x,ra⟩) ymS
 unfold L2.ixR at h
 split at h
 ·rename_i n en
  cases de en
  obtain⟨k0,t0⟩:=ra
  replace r1:Rpx Γ.K H t0 x:=r1
  rw[aN ry]
  unfold ixX at h
  dsimp only at h
  split at h
  ·unfold ixI at h
   split at h
   ·rename_i is
    cases h0:atI is n with
    | none=>rw[h0]at h;cases h
    | some i=>
     rw[h0]at h;cases h
     obtain⟨p,xs,ex,g1,g2⟩:=bz r1
     obtain⟨w,h3,h4⟩:=lU g2 h0
     exact⟨w,λQ q=>.inr (.inl ⟨p,xs,n,w,ex,rfl,g1,h3,q⟩),(S.drop rfl).imm h4⟩
   ·rename_i z
    split at h
    ·rename_i hz
     cases h0:atI (sL z) n with
     | none=>rw[h0]at h;cases h
     | some c=>
      rw[h0]at h;cases h
      exact⟨_,λQ q=>.inr (.inr ⟨z,n,c,cS r1,rfl,hz,h0,q⟩),(S.drop rfl).imm (iT rfl)⟩
    ·cases h
   ·cases h
  ·rename_i is
   cases h0:atI is n with
   | none=>rw[h0]at h;cases h
   | some i=>
    rw[h0]at h;cases h
    obtain⟨p,xs,ex,g1,g2⟩:=bY r1
    obtain⟨w,h3,h4⟩:=lU g2 h0
    exact⟨w,λQ q=>.inl ⟨p,xs,n,w,ex,rfl,aQ g1,h3,q⟩,(S.drop rfl).imm h4⟩
  ·rename_i ts
   split at h
   ·rename_i j hj
    cases h0:ts[j]? with
    | none=>rw[h0]at h;cases h
    | some s=>
     rw[h0]at h
     exact S.ixL hj h0 h
   ·cases h
  ·rename_i ts
   split at h
   ·rename_i j hj
    cases h0:ts[j]? with
    | none=>rw[h0]at h;cases h
    | some s=>
     rw[h0]at h
     exact S.ixT hj h0 h
   ·cases h
  ·cases h
 ·cases h
theorem Ah {ta tb:TE}{a b:ME}(ha:aU K ta a)(hb:aU K tb b):aU K (tOp (rIx K) ta tb) (mIx a b):=by with_unfolding_all
 intro Γ H ρ Z E Q r ρ' hK hr S q
 simp only[mIx]at hr
 split at hr
 ·rename_i ra ρ1 e1
  split at hr
  ·rename_i rb ρ2 e2
   split at hr
   ·rename_i al
    split at hr
    ·rename_i r0 e3
     cases hr
     refine ha Γ H ρ Z E _ ra ρ1 hK e1 S λx H1 S1=>?_
     refine hb Γ H1 ρ1 Z _ _ rb _ hK e2 S1 λy H2 S2=>?_
     rw[av (bh al),ag]at S2
     have r2:=S2.rd ymS
     obtain⟨w,h1,S4⟩:=Sim.ixR e3 (S2.drop rfl) r2
     rw[←hK]
     exact h1 Q (q w _ S4)
    ·cases hr
   ·cases hr
  ·cases hr
 ·cases hr
structure MO where
 run:Rho->Option (Option Int×Rho)
 mu:List Nat
def qX (K:yF)(to:TO)(m:MO):Prop:=∀(Γ:Gm) (H:Hp) (ρ:Rho) (Z:St) (E:List En) (Q:Option Int->Hp->Prop) (o:Option Int) (ρ':Rho),Γ.K=K->m.run ρ=some (o,ρ')->Sim Γ H ρ Z E->(∀H',Sim Γ H' ρ' Z (af m.mu E)->Q o H')->to Z H Q
@[irreducible] noncomputable def mNoPart:MO:=⟨λρ=>some (none,ρ),[]⟩
@[irreducible] noncomputable def eI (a:ME):MO:=⟨λρ=>match a.run ρ with
 | some (⟨_,.im (.int n)⟩,ρ1)=>some (some n,ρ1)
 | _=>none,a.mu⟩
theorem nR:qX K pc mNoPart:=by with_unfolding_all
 intro Γ H ρ Z E Q o ρ' hK hr S q
 cases hr
 exact q H (by rw[show mNoPart.mu=[]from rfl,bW];exact S)
theorem t3 {ta:TE}{a:ME}(ha:aU K ta a):qX K (pd ta) (eI a):=by with_unfolding_all
 intro Γ H ρ Z E Q o ρ' hK hr S q
 simp only[eI]at hr
 split at hr
 ·rename_i k n ρ1 e1
  cases hr
  exact ha Γ H ρ Z E _ _ _ hK e1 S λx H1 S1=>⟨n,aN (S1.rd ymS),q H1 (S1.drop rfl)⟩
 ·cases hr
theorem RpIs.cut {is:List I}{xs:List V}(r:RpIs K H is xs)(lo hi:Option Int):RpIs K H (cQ is lo hi) (jh xs lo hi):=by
 unfold cQ jh
 rw[r.length]
 exact(r.drop _).take _
theorem Rps.cut {ts:List T}{xs:List V}{F:List Addr}(r:Rps K H ts xs F)(lo hi:Option Int):∃A G B,Rps K H (cQ ts lo hi) (jh xs lo hi) G/\F=A++G++B:=by
 unfold cQ jh
 rw[r.length]
 obtain⟨A,G1,h1,h2,rfl⟩:=r.take (HT.sIx ts.length 0 lo)
 obtain⟨G,B,h3,h4,rfl⟩:=h2.take (HT.sIx ts.length ts.length hi-HT.sIx ts.length 0 lo)
 exact⟨A,G,B,h3,by simp⟩
noncomputable def slI (i:I) (lo hi:Option Int):Option R:=match i with
 | .tup is=>if HT.sIx is.length 0 lo=0/\HT.sIx is.length is.length hi=is.length then none else some ⟨.ow,.im (.tup (cQ is lo hi))⟩
 | .str z=>if z.length<=sizeLine then some ⟨.ow,.im (.str (oL (cQ (sL z) lo hi)))⟩else none
 | _=>none
noncomputable def slX (k:Kd) (t:T) (lo hi:Option Int):Option R:=match t with
 | .li is=>some ⟨.ow,.li (cQ is lo hi)⟩
 | .im i=>slI i lo hi
 | .lst ts=>(match k with
  | .vw ro _=>some ⟨.vw ro none,.lst (cQ ts lo hi)⟩
  | _=>none)
 | _=>none
@[irreducible] noncomputable def slR (r:R)(lo hi:Option Int):Option R:=slX r.k r.t lo hi
@[irreducible] noncomputable def mSl (a:ME)(lo hi:MO):ME:=⟨λρ=>match a.run ρ with
 | some (ra,ρ1)=>match lo.run ρ1 with
  | some (l,ρ2)=>match hi.run ρ2 with
   | some (h,ρ3)=>if au (lo.mu++hi.mu) ra=true then(match slR ra l h with
    | some r=>some (r,ρ3)
    | none=>none)else none
   | none=>none
  | none=>none
 | none=>none,a.mu++(lo.mu++hi.mu)⟩
theorem Aj {ta:TE}{tl th:TO}{a:ME}{lo hi:MO}(ha:aU K ta a)(hl:qX K tl lo)(hh:qX K th hi):aU K (tSl (rSl K) ta tl th) (mSl a lo hi):=by with_unfolding_all
 intro Γ H ρ Z E Q r ρ' hK hr S q
 simp only[mSl]at hr
 split at hr
 ·rename_i ra ρ1 e1
  split at hr
  ·rename_i l ρ2 e2
   split at hr
   ·rename_i h ρ3 e3
    split at hr
    ·rename_i al
     split at hr
     ·rename_i r0 e4
      cases hr
      refine ha Γ H ρ Z E _ ra ρ1 hK e1 S λx H1 S1=>?_
      refine hl Γ H1 ρ1 Z _ _ l _ hK e2 S1 λH2 S2=>?_
      refine hh Γ H2 ρ2 Z _ _ h _ hK e3 S2 λH3 S3=>?_
      rw[ag,av (bh al),ag]at S3
      have r1:=S3.rd ymS
      unfold slR slX at e4
      obtain⟨k0,t0⟩:=ra
      replace r1:Rpx Γ.K H3 t0 x:=r1
      dsimp only at e4
      split at e4
      ·cases e4
       obtain⟨p,xs,ex,g1,g2⟩:=bY r1
       exact .inr (.inl ⟨p,xs,ex,aQ g1,λp hp=>q _ _ ((S3.drop rfl).fresh (.li hp (g2.cut l h)))⟩)
      ·unfold slI at e4
       split at e4
       ·rename_i is
        split at e4
        ·cases e4
        ·rename_i hw
         cases e4
         obtain⟨p,xs,ex,g1,g2⟩:=bz r1
         rw[hK]at g1
         exact .inl ⟨p,xs,ex,g1,by rw[g2.length];exact hw,λp hp=>q _ _ ((S3.drop rfl).fresh (.tup hp (g2.cut l h)))⟩
       ·split at e4
        ·rename_i hz
         cases e4
         exact .inr (.inr ⟨_,cS r1,hz,q _ _ ((S3.drop rfl).imm (iT rfl))⟩)
        ·cases e4
       ·cases e4
      ·rename_i ts
       split at e4
       ·rename_i ro p0
        cases e4
        obtain⟨p,xs,F,ex0,g1,g2⟩:=fO r1
        have ex:x=.ref p:=ex0
        refine .inr (.inl ⟨p,xs,ex,aQ g1,λp' hp=>?_⟩)
        obtain⟨w,hw,S4⟩:=S3.partN (H':=upd H3 p' (.lst (jh xs l h))) (Same.laid hp) (s:=.lst (cQ ts l h)) ymS rfl (P:=λw=>w=.ref p') (λF rp=>by
         have rp':Rp Γ.K H3 (.lst ts) x F:=rp
         rw[Rp]at rp'
         obtain⟨a',xs',F',ex',g1',g2',rfl⟩:=rp'
         rw[ex]at ex'
         cases ex'
         have e3:xs'=xs:=by
          rcases g1 with g1|⟨o,g1⟩<;>rcases g1' with g1'|⟨o',g1'⟩<;>rw[g1]at g1'<;>cases g1'<;>rfl
         subst e3
         obtain⟨A,G,B,g3,rfl⟩:=g2'.cut l h
         refine⟨.ref p',p'::G,rfl,?_,λb hb=>?_⟩
         ·rw[Rp]
          exact⟨p',_,G,rfl,.inl az,g3.same (Same.laid hp),rfl⟩
         ·rcases ycM hb with rfl|hb
          ·exact .inr hp
          ·exact .inl (ymC _ (yaL _ (yaR _ hb))))
        subst hw
        exact q _ _ (S4.swap.drop rfl)
       ·cases e4
      ·cases e4
     ·cases hr
    ·cases hr
   ·cases hr
  ·cases hr
 ·cases hr
@[irreducible] noncomputable def ue:T->Option T
 | .im (.tup is)=>some (.im (.tup is.reverse))
 | _=>none
theorem wI {ta:TE}{a:ME}(ha:aU K ta a):aU K (uw K ta) (mUn ue a):=by with_unfolding_all
 intro Γ H ρ Z E Q r ρ' hK hr S q
 simp only[mUn]at hr
 split at hr
 ·rename_i ra ρ1 e1
  split at hr
  ·rename_i t e2
   cases hr
   refine ha Γ H ρ Z E _ ra _ hK e1 S λx H1 S1=>?_
   have r1:=S1.rd ymS
   obtain⟨k,ta⟩:=ra
   unfold ue at e2
   split at e2
   ·rename_i is e0
    cases e2
    have e0':ta=.im (.tup is):=e0
    subst e0'
    obtain⟨p,xs,ex,g1,g2⟩:=bz r1
    rw[hK]at g1
    exact⟨p,xs,ex,g1,λp hp=>q _ _ ((S1.drop rfl).fresh (.tup hp g2.reverse))⟩
   ·cases e2
  ·cases hr
 ·cases hr
def dN (K:yF)(red:V->List V->Hp->VK->Prop)(f:T->List T->Option (T×I)):Prop:=∀(H:Hp) (w:V) (vs:List V) (s:T) (ts:List T) (s':T) (i:I) (G F:List Addr) (Q:VK),Rp K H s w G->Rps K H ts vs F->(G++F).Nodup->(∀a∈G++F,Mu H a)->f s ts=some (s',i) →
 (∀v H' G',OffM G H H'->(∀a∈G,∃o,H' a=some o)->G'.Nodup->(∀a∈G',(a∈G++F∨H a=none)/\Mu H' a)->Rp K H' s' w G'->RpI K H' i v->Q v H')->red w vs H Q
@[irreducible] noncomputable def mutR (i:Nat)(mv:List Nat)(f:T->List T->Option (T×I))(r0:R)(rs:List R)(ρ1:Rho):Option (R×Rho):=match r0 with
 | ⟨.vw (some j) (some p),s⟩=>if(decide (j=i) && !mv.contains i)=true then(match consL mv rs ρ1 with
  | some (ts,ρ2)=>(match f s ts with
   | some (s',res)=>(match ρ2[i]? with
    | some (some ⟨k,t⟩)=>if k.isOw=true then some (⟨.ow,.im res⟩,(aq [i] ρ2).set i (some ⟨k,t.put p s'⟩))else none
    | _=>none)
   | none=>none)
  | none=>none)else none
 | _=>none
theorem Sim.mutR {i:Nat}{mv:List Nat}{red:V->List V->Hp->VK->Prop}{f:T->List T->Option (T×I)}{r0:R}{rs:List R}{r:R}{ρ1 ρ':Rho}{vs:List V}(hK : Γ.K=K)(hp:dN K red f)(h:L2.mutR i mv f r0 rs ρ1=some (r,ρ'))(hl:vs.length=rs.length)(S:Sim Γ H ρ1 Z (ens vs rs++⟨none,x,r0⟩::E))(q:∀v H',Sim Γ H' ρ' Z (⟨none,v,r⟩::af (mv++[i]) E)->Q v H'):red x vs H Q:=by
 unfold L2.mutR at h
 split at h
 ·rename_i j p s
  split at h
  ·rename_i hc
   rw[DD,decide_eq_true_eq,El]at hc
   obtain⟨rfl,hmv⟩:=hc
   split at h
   ·rename_i ts ρ2 e1
    split at h
    ·rename_i s' res e2
     split at h
     ·rename_i k t e3
      split at h
      ·rename_i ho
       cases h
       obtain⟨hl2,S2⟩:=Sim.consL (A:=[]) (by simpa using S) hl e1 (by simp)
       rw[Er,av (show aE mv ⟨none,x,⟨.vw (some j) (some p),s⟩⟩=true by unfold aE;simp only[Kd.root];rw[hmv];rfl)]at S2
       obtain⟨G,F,h1,h2,h3,h4,h5⟩:=S2.mut hl2 e3 ho
       rw[hK]at h1 h2
       refine hp H x vs s ts s' res G F Q h1 h2 h3 h4 e2 λv H' G' a b c d e g=>q v H' ?_
       rw[←ag]
       rw[←hK]at e g
       exact(h5 H' s' G' a b c d e).imm g
      ·cases h
     ·cases h
    ·cases h
   ·cases h
  ·cases h
 ·cases h
@[irreducible] noncomputable def bT (i:Nat)(mv:List Nat)(f:T->List T->Option (T×I))(o:ME)(a:MA):ME:=⟨λρ=>match o.run ρ with
 | some (r0,ρ0)=>match a.run ρ0 with
  | some (rs,ρ1)=>if au a.mu r0=true then L2.mutR i mv f r0 rs ρ1 else none
  | none=>none
 | none=>none,(o.mu++a.mu)++(mv++[i])⟩
theorem wD {T0:String}{red:V->List V->Hp->VK->Prop}{f:T->List T->Option (T×I)}{i:Nat}{mv:List Nat}{to:TE}{ta:TA}{o:ME}{a:MA}(hp:dN K red f)(hty:∀(H:Hp) (x:V) (tx:T) ts r,Rpx K H tx x->f tx ts=some r->tyV K T0 x H)(ho:aU K to o)(ha:fv K ta a):aU K (tBM K T0 red to ta) (bT i mv f o a):=by
 intro Γ H ρ Z E Q r ρ' hK hr S q
 simp only[bT]at hr q
 split at hr
 ·rename_i r0 ρ0 e0
  split at hr
  ·rename_i rs ρ1 e1
   split at hr
   ·rename_i al
    refine ho Γ H ρ Z E _ r0 _ hK e0 S λx H1 S1=>?_
    have r0':=S1.rd ymS
    rw[hK]at r0'
    refine⟨?_,?_⟩
    ·unfold L2.mutR at hr
     split at hr
     ·split at hr
      ·split at hr
       ·split at hr
        ·rename_i e2;exact hty H1 x _ _ _ r0' e2
        ·cases hr
       ·cases hr
      ·cases hr
     ·cases hr
    ·refine ha Γ H1 ρ0 Z _ _ rs _ hK e1 S1 λvs H2 hl S2=>?_
     rw[av (bh al),ag]at S2
     exact Sim.mutR hK hp hr hl S2 λv H' S3=>q v H' (by rw[←ag];exact S3)
   ·cases hr
  ·cases hr
 ·cases hr
@[irreducible] noncomputable def kw (i:Nat)(f:T->List T->Option (T×I))(o:ME):ME:=⟨λρ=>match o.run ρ with
 | some (r0,ρ0)=>L2.mutR i [] f r0 [] ρ0
 | none=>none,o.mu++[i]⟩
theorem tW {T0:String}{red:V->List V->Hp->VK->Prop}{f:T->List T->Option (T×I)}{i:Nat}{to:TE}{o:ME}(hp:dN K red f)(hty:∀(H:Hp) (x:V) (tx:T) ts r,Rpx K H tx x->f tx ts=some r->tyV K T0 x H)(ho:aU K to o):aU K (Aq K T0 red to) (kw i f o):=by
 intro Γ H ρ Z E Q r ρ' hK hr S q
 simp only[kw]at hr q
 split at hr
 ·rename_i r0 ρ0 e0
  refine ho Γ H ρ Z E _ r0 _ hK e0 S λx H1 S1=>?_
  have r0':=S1.rd ymS
  rw[hK]at r0'
  refine⟨?_,?_⟩
  ·unfold L2.mutR at hr
   split at hr
   ·split at hr
    ·split at hr
     ·split at hr
      ·rename_i e2;exact hty H1 x _ _ _ r0' e2
      ·cases hr
     ·cases hr
    ·cases hr
   ·cases hr
  ·exact Sim.mutR (vs:=[]) (mv:=[]) hK hp hr rfl S1 λv H' S3=>q v H' (by rw[←ag];exact S3)
 ·cases hr
theorem jG {is:List I}{w:V}{G:List Addr}(h:Rp K H (.li is) w G)(mu:∀a∈G,Mu H a):∃a xs,w=.ref a/\H a=some (.lst xs)/\RpIs K H is xs/\G=[a]:=by
 rw[Rp]at h
 obtain⟨a,xs,h1,h2,h3,rfl⟩:=h
 exact⟨a,xs,h1,(mu a ymS).lst h2,h3,rfl⟩
theorem yB {ts:List T}{w:V}{G:List Addr}(h:Rp K H (.lst ts) w G)(mu:∀a∈G,Mu H a):∃a xs F,w=.ref a/\H a=some (.lst xs)/\Rps K H ts xs F/\G=a::F:=by
 rw[Rp]at h
 obtain⟨a,xs,F,h1,h2,h3,rfl⟩:=h
 exact⟨a,xs,F,h1,(mu a ymS).lst h2,h3,rfl⟩
theorem gI {is':List I}{xs xs':List V}{a:Addr}{F:List Addr}{i:I}{v:V}(hH:H a=some (.lst xs))(hr:RpIs K H is' xs')(hi:RpI K H i v)
  (q:∀v H' G',OffM [a] H H'->(∀b∈[a],∃o,H' b=some o)->G'.Nodup->(∀b∈G',(b∈[a]++F∨H b=none)/\Mu H' b)->Rp K H' (.li is') (.ref a) G'->RpI K H' i v->Q v H'):Q v (upd H a (.lst xs')):=by
 have hM:∀b∈[a],Mu H b:=λb hb=>by rw[ysM hb];exact⟨_,hH,rfl⟩
 refine q v _ [a] OffM.upd (λb hb=>by rw[ysM hb];exact⟨_,az⟩) (by simp) (λb hb=>?_) ?_ (hi.off OffM.upd hM)
 ·rw[ysM hb];exact⟨.inl (by simp),_,az,rfl⟩
 ·rw[Rp];exact⟨a,xs',rfl,.inl az,hr.off OffM.upd hM,rfl⟩
theorem ph {ts':List T}{xs xs':List V}{a:Addr}{G F F':List Addr}{i:I}{v:V}(hH:H a=some (.lst xs))(nd:(a::F').Nodup)(mu:∀b∈F',Mu H b)(hF:∀b∈F',b∈(a::G)++F)(hr:Rps K H ts' xs' F')(hi:RpI K H i v)
  (q:∀v H' G',OffM (a::G) H H'->(∀b∈a::G,∃o,H' b=some o)->G'.Nodup->(∀b∈G',(b∈(a::G)++F∨H b=none)/\Mu H' b)->Rp K H' (.lst ts') (.ref a) G'->RpI K H' i v->Q v H') (dG:∀b∈G,∃o,H b=some o):Q v (upd H a (.lst xs')):=by
 have hM:∀b∈[a],Mu H b:=λb hb=>by rw[ysM hb];exact⟨_,hH,rfl⟩
 have na:∀b∈F',b≠a:=λb hb z=>(D9.mp nd).1 (z▸hb)
 refine q v _ (a::F') (OffM.upd.mono λb hb=>by rw[ysM hb];exact ymS) (λb hb=>?_) nd (λb hb=>?_) ?_ (hi.off OffM.upd hM)
 ·by_cases e:b=a
  ·subst e;exact⟨_,az⟩
  ·rcases ycM hb with z|z
   ·exact absurd z e
   ·obtain⟨o,h⟩:=dG b z;exact⟨o,by rw[upd_ne e];exact h⟩
 ·rcases ycM hb with rfl|hb
  ·exact⟨.inl (by simp),_,az,rfl⟩
  ·refine⟨.inl (hF b hb),?_⟩
   obtain⟨o,h,m⟩:=mu b hb
   exact⟨o,by rw[upd_ne (na b hb)];exact h,m⟩
 ·rw[Rp]
  refine⟨a,xs',F',rfl,.inl az,hr.off OffM.upd hM (λb hb z=>na b hb (ysM z)),rfl⟩
noncomputable def ap1 (s t:T):Option (T×I):=match s with
 | .li is=>(match t with
  | .im i=>if is.length<sizeLine then some (.li (is++[i]),.non)else none
  | _=>if is.length<sizeLine then some (.lst (is.map .im++[t]),.non)else none)
 | .lst ts=>if ts.length<sizeLine then some (.lst (ts++[t]),.non)else none
 | _=>none
@[irreducible] noncomputable def apT (s:T)(ts:List T):Option (T×I):=l1 (ap1 s) ts
theorem uk {t:T}{vs:List V}{F:List Addr}(h:Rps K H [t] vs F):∃v,vs=[v]/\Rp K H t v F:=by
 obtain⟨v,r,F1,F2,rfl,h1,h2,rfl⟩:=h.cons_inv
 obtain⟨rfl,rfl⟩:=h2.nil_inv
 exact⟨v,rfl,by rw[D0];exact h1⟩
theorem Du {t u:T}{vs:List V}{F:List Addr}(h:Rps K H [t,u] vs F):∃v w F1 F2,vs=[v,w]/\Rp K H t v F1/\Rp K H u w F2/\F=F1++F2:=by
 obtain⟨v,r,F1,F2,rfl,h1,h2,rfl⟩:=h.cons_inv
 obtain⟨w,rfl,h3⟩:=uk h2
 exact⟨v,w,F1,F2,rfl,h1,h3,rfl⟩
theorem bM:RpI K H .non .non:=by rw[RpI]
theorem mz:dN K lx apT:=by
 intro H w vs s ts s' i G F Q rw0 rs nd mu e q
 unfold apT at e
 have e0:=dA e
 clear e
 obtain⟨tt,rfl,e⟩:=e0
 obtain⟨y,rfl,h3⟩:=uk rs
 unfold ap1 at e
 split at e
 ·rename_i is
  obtain⟨a,xs,rfl,h1,h2,rfl⟩:=jG rw0 λa ha=>mu a (yaL _ ha)
  split at e
  ·obtain⟨hz,e⟩:=aM e
   cases e
   exact⟨a,xs,y,rfl,rfl,h1,by rw[h2.length];exact hz,gI h1 (h2.append (.one (bj h3).1)) bM q⟩
  ·obtain⟨hz,e⟩:=aM e
   cases e
   refine⟨a,xs,y,rfl,rfl,h1,by rw[h2.length];exact hz,ph (G:=[]) (F:=F) (F':=F) h1 nd (λb hb=>mu b (yaR _ hb)) (λb hb=>yaR _ hb) ?_ bM q (by simp)⟩
   have:=Rps.append (Rps.ims.mpr ⟨h2,rfl⟩) (Rps.cons h3 Rps.nil)
   simpa using this
 ·obtain⟨hz,e⟩:=aM e
  cases e
  obtain⟨a,xs,F0,rfl,h1,h2,rfl⟩:=yB rw0 λa ha=>mu a (yaL _ ha)
  have mm:∀b∈F0++F,b∈(a::F0)++F:=λb hb=>(yaM hb).elim (λz=>yaL _ (ymC _ z)) λz=>yaR _ z
  refine⟨a,xs,y,rfl,rfl,h1,by rw[h2.length];exact hz,ph (G:=F0) (F:=F) (F':=F0++F) h1 (by simpa using nd) (λb hb=>mu b (mm b hb)) mm ?_ bM q (λb hb=>h2.dom b hb)⟩
  have:=Rps.append h2 (Rps.cons h3 Rps.nil)
  simpa using this
 ·cases e
theorem pf {is:List I}{x:V}(h:Rpx K H (.li is) x):tyV K "list" x H:=by
 obtain⟨a,xs,rfl,h1,h2⟩:=bY h
 exact .inl ⟨rfl,xs,aQ h1⟩
theorem At {is:List T}{x:V}(h:Rpx K H (.lst is) x):tyV K "list" x H:=by
 obtain⟨a,xs,F,rfl,h1,h2⟩:=fO h
 exact .inl ⟨rfl,xs,aQ h1⟩
theorem qM (H:Hp)(x:V)(tx:T)(ts:List T)(r:T×I)(h:Rpx K H tx x)(e:apT tx ts=some r):tyV K "list" x H:=by
 unfold apT at e
 obtain⟨t,_,e⟩:=dA e
 unfold ap1 at e
 split at e
 ·exact pf h
 ·exact At h
 ·cases e
noncomputable def ye (s t:T):Option (T×I):=match rL s with
 | some is=>(match rL t with
  | some js=>if is.length+js.length<=sizeLine then some (.li (is++js),.non)else none
  | none=>(match rM t with
   | some js=>if is.length+js.length<=sizeLine then some (.li (is++js),.non)else none
   | none=>none))
 | none=>none
@[irreducible] noncomputable def jX (s:T)(ts:List T):Option (T×I):=l1 (ye s) ts
theorem mD:dN K (tF K) jX:=by
 intro H w vs s ts s' i G F Q rw0 rs nd mu e q
 unfold jX at e
 have e0:=dA e
 clear e
 obtain⟨tt,rfl,e⟩:=e0
 obtain⟨y,rfl,h3⟩:=uk rs
 unfold ye at e
 split at e
 ·rename_i is es
  cases eG es
  obtain⟨a,xs,rfl,h1,h2,rfl⟩:=jG rw0 λa ha=>mu a (yaL _ ha)
  split at e
  ·rename_i js ej
   cases eG ej
   obtain⟨hz,e⟩:=aM e
   cases e
   rw[Rp]at h3
   obtain⟨b,ys,rfl,g1,g2,rfl⟩:=h3
   exact .inl ⟨a,b,xs,ys,rfl,rfl,h1,g1,by rw[h2.length,g2.length];exact hz,gI h1 (h2.append g2) bM q⟩
  ·split at e
   ·rename_i js ej
    cases gS ej
    obtain⟨hz,e⟩:=aM e
    cases e
    have h4:=(bj h3).1
    rw[RpI]at h4
    obtain⟨b,ys,rfl,g1,g2⟩:=h4
    exact .inr ⟨a,b,xs,ys,rfl,rfl,h1,g1,by rw[h2.length,g2.length];exact hz,gI h1 (h2.append g2) bM q⟩
   ·cases e
 ·cases e
theorem qN (H:Hp)(x:V)(tx:T)(ts:List T)(r:T×I)(h:Rpx K H tx x)(e:jX tx ts=some r):tyV K "list" x H:=by
 unfold jX at e
 obtain⟨t,_,e⟩:=dA e
 unfold ye at e
 split at e
 ·rename_i is es
  cases eG es
  exact pf h
 ·cases e
@[irreducible] noncomputable def my:T->List T->Option (T×I)
 | .li is,[]=>match is[is.length-1]? with
  | some i=>some (.li is.dropLast,i)
  | none=>none
 | _,_=>none
theorem RpIs.dropLast {is:List I}{xs:List V}(h:RpIs K H is xs):RpIs K H is.dropLast xs.dropLast:=by
 rw[Gg,Gg,h.length]
 exact h.take _
theorem sT:dN K Aa my:=by
 intro H w vs s ts s' i G F Q rw0 rs nd mu e q
 unfold my at e
 split at e
 ·rename_i is
  split at e
  ·rename_i j hj
   cases e
   obtain⟨a,xs,rfl,h1,h2,rfl⟩:=jG rw0 λa ha=>mu a (yaL _ ha)
   obtain⟨rfl,rfl⟩:=rs.nil_inv
   obtain⟨y,hy,r⟩:=h2.get hj
   rw[←h2.length]at hy
   exact⟨a,xs,y,rfl,rfl,h1,hy,gI h1 h2.dropLast r q⟩
  ·cases e
 ·cases e
theorem Au (H:Hp)(x:V)(tx:T)(ts:List T)(r:T×I)(h:Rpx K H tx x)(e:my tx ts=some r):tyV K "list" x H:=by
 unfold my at e
 split at e
 ·exact pf h
 ·cases e
noncomputable def ym (s n t:T):Option (T×I):=match rL s with
 | some is=>(match isI n with
  | some n=>(match t with
   | .im i=>if 0<=n/\n<=is.length/\is.length<sizeLine then some (.li (is.take n.toNat++i::is.drop n.toNat),.non)else none
   | _=>none)
  | none=>none)
 | none=>none
@[irreducible] noncomputable def lj (s:T)(ts:List T):Option (T×I):=l2 (ym s) ts
theorem mE:dN K ly lj:=by
 intro H w vs s ts s' i G F Q rw0 rs nd mu e q
 unfold lj at e
 have e0:=jA e
 clear e
 obtain⟨tn,tt,rfl,e⟩:=e0
 obtain⟨y,z,F1,F2,rfl,g1,g2,rfl⟩:=Du rs
 unfold ym at e
 split at e
 ·rename_i is es
  cases eG es
  obtain⟨a,xs,rfl,h1,h2,rfl⟩:=jG rw0 λa ha=>mu a (yaL _ ha)
  split at e
  ·rename_i n en
   cases de en
   split at e
   ·obtain⟨hz,e⟩:=aM e
    cases e
    have e1:=aN ⟨F1,g1⟩
    subst e1
    exact⟨a,xs,n,z,rfl,rfl,h1,hz.1,by rw[h2.length];exact hz.2.1,by rw[h2.length];exact hz.2.2,gI h1 ((h2.take _).append (.cons (bj g2).1 (h2.drop _))) bM q⟩
   ·cases e
  ·cases e
 ·cases e
theorem qO (H:Hp)(x:V)(tx:T)(ts:List T)(r:T×I)(h:Rpx K H tx x)(e:lj tx ts=some r):tyV K "list" x H:=by
 unfold lj at e
 obtain⟨t,u,_,e⟩:=jA e
 unfold ym at e
 split at e
 ·rename_i is es
  cases eG es
  exact pf h
 ·cases e
@[irreducible] noncomputable def uq (s:T)(n:T)(v:T):Option T:=match s,n,v with
 | .li is,.im (.int n),.im i=>match ixN is.length n with
  | some j=>some (.li (is.set j i))
  | none=>none
 | _,_,_=>none
@[irreducible] noncomputable def nA (j:Nat)(o i:ME):MG:=⟨λr ρ=>match r with
 | ⟨.ow,tv⟩=>match o.run ρ with
  | some (⟨.vw (some j') (some p),s⟩,ρ1)=>match i.run ρ1 with
   | some (ri,ρ2)=>if(decide (j'=j) && !i.mu.contains j)=true then(match uq s ri.t tv with
    | some s'=>(match ρ2[j]? with
     | some (some ⟨k,t⟩)=>if k.isOw=true then some ((aq [j] ρ2).set j (some ⟨k,t.put p s'⟩))else none
     | _=>none)
    | none=>none)else none
   | none=>none
  | _=>none
 | _=>none,(o.mu++i.mu)++[j]⟩
theorem RpIs.set' {is:List I}{xs:List V}{i:I}{w:V}(hx:RpI K H i w)(n:Nat)(h:RpIs K H is xs):RpIs K H (is.set n i) (xs.set n w):=RpIs.set hx n h
theorem wK {to ti:TE}{o i:ME}{j:Nat}(ho:aU K to o)(hi:aU K ti i):iU K (A8 to ti xH) (nA j o i):=by
 intro Γ H ρ Z E Q v r ρ' hK hr S q
 simp only[nA]at hr q
 split at hr
 ·rename_i tv
  split at hr
  ·rename_i j' p s ρ1 e1
   split at hr
   ·rename_i ri ρ2 e2
    split at hr
    ·rename_i hc
     rw[DD,decide_eq_true_eq,El]at hc
     obtain⟨rfl,hmv⟩:=hc
     split at hr
     ·rename_i s' e3
      split at hr
      ·rename_i k t e4
       split at hr
       ·rename_i hw
        cases hr
        refine ho Γ H ρ Z _ _ _ _ hK e1 S λx H1 S1=>?_
        refine hi Γ H1 ρ1 Z _ _ _ _ hK e2 S1 λy H2 S2=>?_
        have k1:aE i.mu ⟨none,x,⟨.vw (some j') (some p),s⟩⟩=true:=by unfold aE;simp only[Kd.root];rw[hmv];rfl
        have k2:∀M:List Nat,aE M ⟨none,v,⟨.ow,tv⟩⟩=true:=λM=>rfl
        rw[av k1,ag,av (k2 _)]at S2
        have ry:=S2.rd ymS
        have S3:=S2.drop rfl
        obtain⟨G,F,h1,h2,h3,h4,h5⟩:=Sim.mut (vs:=[v]) (ts:=[tv]) (S3.perm (List.Perm.swap _ _ _)) rfl e4 hw
        generalize hri:ri.t=tri at e3
        unfold uq at e3
        split at e3
        ·rename_i is n i0
         split at e3
         ·rename_i m hm
          cases e3
          obtain⟨a,xs,rfl,g1,g2,rfl⟩:=jG h1 λa ha=>h4 a (yaL _ ha)
          obtain⟨z,ez,g3⟩:=uk h2
          cases ez
          obtain⟨g4,rfl⟩:=bj g3
          have ry':∃F,Rp Γ.K H2 ri.t y F:=ry
          have ey:y=.int n:=by rw[hri]at ry';exact aN ry'
          subst ey
          refine⟨a,xs,n,m,rfl,rfl,g1,by rw[g2.length];exact hm,?_⟩
          refine gI (Q:=λ_ H'=>Q Z H') (F:=[]) (v:=.non) (i:=.non) g1 (g2.set' g4 m) bM λv' H' G' a1 a2 a3 a4 a5 _=>q Z H' ?_
          have:=h5 H' _ G' a1 a2 a3 a4 a5
          rw[ag]at this
          exact this
         ·cases e3
        ·cases e3
       ·cases hr
      ·cases hr
     ·cases hr
    ·cases hr
   ·cases hr
  ·cases hr
 ·cases hr
end
section
variable  {Γ:Gm}{H H':Hp}{ρ:Rho}{Z:St}{E:List En}{v x y:V}{t:T}{K:yF}{Q:VK}
theorem ii {M N:List Nat}(h:∀j∈N,j∈M){e:En}(k:aE M e=true):aE N e=true:=by
 unfold aE at k⊢
 split at k
 ·rename_i j hj
  simp only[El,EB,decide_eq_false_iff_not]at k⊢
  exact λz=>k (h j z)
 ·rfl
theorem cG {M N:List Nat}(h:∀j∈N,j∈M)(E:List En):af N (af M E)=af M E:=by
 unfold af
 rw[ET]
 intro e he
 exact ii h (DR.mp he).2
noncomputable def itW (c:MT) (b:MS):Nat->Rho->Option (Fl×Rho)
 | 0,_=>none
 | n+1,ρ=>match c.run ρ with
  | some (true,ρ1)=>(match b.run ρ1 with
   | some (.nx,ρ2)=>itW c b n ρ2
   | some (.ct,ρ2)=>itW c b n ρ2
   | some (.bk,ρ2)=>some (.nx,ρ2)
   | some (.rt t,ρ2)=>some (.rt t,ρ2)
   | none=>none)
  | some (false,ρ1)=>some (.nx,ρ1)
  | none=>none
theorem eH {c:MT}{b:MS}:∀{n:Nat} {ρ:Rho} {r:Fl×Rho},itW c b n ρ=some r->∀m,n<=m->itW c b m ρ=some r
 | 0,_,_,h,_,_=>by cases h
 | n+1,ρ,r,h,m,hm=>by
  obtain⟨m',rfl⟩:∃m',m=m'+1:=⟨m-1,by omega⟩
  rw[itW]at h⊢
  split at h
  ·rename_i ρ1 e1
   split at h
   ·rename_i ρ2 e2;exact eH h m' (by omega)
   ·rename_i ρ2 e2;exact eH h m' (by omega)
   ·exact h
   ·exact h
   ·exact h
  ·exact h
  ·exact h
noncomputable def uD (c:MT) (b:MS) (ρ:Rho):Option (Fl×Rho):=@dite _ (∃n,(itW c b n ρ).isSome=true) (Classical.propDecidable _) (λh=>itW c b (Classical.choose h) ρ) (λ_=>none)
@[irreducible] noncomputable def eV (c:MT)(b:MS):MS:=⟨uD c b,c.mu++b.mu⟩
theorem qQ {c:MT}{b:MS}{r:Fl×Rho}{n:Nat}(h:itW c b n ρ=some r):(eV c b).run ρ=some r:=by with_unfolding_all
 have hx:∃n,(itW c b n ρ).isSome=true:=⟨n,by rw[h];rfl⟩
 show uD c b ρ=_
 unfold uD
 rw[dif_pos hx]
 have h2:=Classical.choose_spec hx
 cases e:itW c b (Classical.choose hx) ρ with
 | none=>rw[e]at h2;cases h2
 | some r'=>
  have a:=eH h (max n (Classical.choose hx)) (Gb _ _)
  have b':=eH e (max n (Classical.choose hx)) (FY _ _)
  rw[a]at b'
  exact b'.symm
theorem uN {c:MT}{b:MS}{r:Fl×Rho}(h:(eV c b).run ρ=some r):∃n,itW c b n ρ=some r:=by with_unfolding_all
 have h':uD c b ρ=some r:=h
 unfold uD at h'
 split at h'
 ·exact⟨_,h'⟩
 ·cases h'
theorem qF {tc:TT}{tb:TS}{c:MT}{b:MS}(hc:eA K tc c)(hb:dM K tb b):dM K (ux tc tb) (eV c b):=by with_unfolding_all
 intro Γ H ρ Z E D f ρ' hK hE hr S q
 obtain⟨n,hn⟩:=uN hr
 have qe:(eV c b).mu=c.mu++b.mu:=rfl
 rw[qe]at q
 have kc:af c.mu (af (c.mu++b.mu) E)=af (c.mu++b.mu) E:=cG (λj hj=>yaL _ hj) E
 have kb:af b.mu (af (c.mu++b.mu) E)=af (c.mu++b.mu) E:=cG (λj hj=>yaR _ hj) E
 have hE0:=bL (M:=c.mu++b.mu) hE
 have S0:=S.weak (c.mu++b.mu)
 generalize af (c.mu++b.mu) E=E0 at q kc kb hE0 S0
 refine⟨λm Z H=>∃ρ,itW c b m ρ=some (f,ρ')/\Sim Γ H ρ Z E0,⟨n,ρ,hn,S0⟩,?_⟩
 ·rintro m Z1 H1 ⟨ρ1,h1,S1⟩
  cases m with
  | zero=>cases h1
  | succ m=>
   rw[itW]at h1
   split at h1
   ·rename_i ρ2 e1
    refine hc Γ H1 ρ1 Z1 E0 _ true ρ2 hK e1 S1 λH2 S2=>pN ?_
    rw[kc]at S2
    refine⟨λZ' H'=>∃ρ,itW c b m ρ=some (f,ρ')/\Sim Γ H' ρ Z' E0,λZ' H' ⟨ρ3,h3,S3⟩=>⟨m,GM m,ρ3,h3,S3⟩,?_⟩
    split at h1
    ·rename_i ρ3 e2
     exact hb Γ H2 ρ2 Z1 E0 _ .nx ρ3 hK hE0 e2 S2 λZ' H' S3=>⟨ρ3,h1,by rw[kb]at S3;exact S3⟩
    ·rename_i ρ3 e2
     exact hb Γ H2 ρ2 Z1 E0 _ .ct ρ3 hK hE0 e2 S2 λZ' H' S3=>⟨ρ3,h1,by rw[kb]at S3;exact S3⟩
    ·rename_i ρ3 e2
     cases h1
     exact hb Γ H2 ρ2 Z1 E0 _ .bk _ hK hE0 e2 S2 λZ' H' S3=>q Z' H' (by rw[kb]at S3;exact S3)
    ·rename_i t ρ3 e2
     cases h1
     exact hb Γ H2 ρ2 Z1 E0 _ (.rt t) _ hK hE0 e2 S2 q
    ·cases h1
   ·rename_i ρ2 e1
    cases h1
    exact hc Γ H1 ρ1 Z1 E0 _ false _ hK e1 S1 λH2 S2=>pM (q Z1 H2 (by rw[kc]at S2;exact S2))
   ·cases h1
structure MI where
 run:Rho->Option ((List R×List R)×Rho)
 mu:List Nat
def gq (Γ:Gm)(J:It)(vs:List V)(srcs:List R)(items:List R):Prop:=∀(H:Hp) (ρ:Rho) (Z:St) (E:List En),Sim Γ H ρ Z (ens vs srcs++E)->(∀i,items.length<=i->J.stop i H)/\∀i r,items[i]?=some r->J.go i H/\∀x H',J.yld i H x H'->Sim Γ H' ρ Z (⟨none,x,r⟩::(ens vs srcs++E))
def jc (K:yF)(wi:TI)(m:MI):Prop:=∀(Γ:Gm) (H:Hp) (ρ:Rho) (Z:St) (E:List En) (Rr:It->Hp->Prop) (srcs:List R) (items:List R) (ρ':Rho),Γ.K=K->m.run ρ=some ((srcs,items),ρ')->Sim Γ H ρ Z E->(∀J vs H',vs.length=srcs.length->Sim Γ H' ρ' Z (ens vs srcs++af m.mu E)->gq Γ J vs srcs items->Rr J H')->wi Z H Rr
theorem dv {M:List Nat}:∀{A:List En},(∀e∈A,aE M e=true)->af M A=A
 | [],_=>rfl
 | e::A,h=>by rw[av (h e ymS),dv λx hx=>h x (ymC _ hx)]
theorem jk {M:List Nat}:∀{vs:List V} {rs:List R},rs.all (au M)=true->∀e∈ens vs rs,aE M e=true
 | [],rs,_,e,h=>by cases rs<;>cases h
 | _::_,[],_,e,h=>by cases h
 | v::vs,r::rs,ha,e,h=>by
  rw[EM,DD]at ha
  rcases ycM h with rfl|h
  ·exact ha.1
  ·exact jk ha.2 e h
theorem l4:∀{vs:List V} {rs:List R},∀e∈ens vs rs,e.key=none
 | [],rs,e,h=>by cases rs<;>cases h
 | _::_,[],e,h=>by cases h
 | v::vs,r::rs,e,h=>by
  rcases ycM h with rfl|h
  ·rfl
  ·exact l4 e h
noncomputable def jO (n:Int):R:=⟨.ow,.im (.int n)⟩
noncomputable def nQ:R:=⟨.ow,.im .non⟩
noncomputable def gE (lo:Int) (n:Nat):List R:=(Ee n).map λi:Nat=>jO (lo+(i:Int))
theorem mY {lo:Int}{n:Nat}:gq Γ (Itr lo n) [.non] [nQ] (gE lo n):=λH ρ Z E S=>by
 refine⟨λi hi=>(show n<=i by simpa[gE]using hi),λi r hr=>?_⟩
 unfold gE at hr
 rw[DG]at hr
 cases e:(Ee n)[i]? with
 | none=>rw[e]at hr;cases hr
 | some m=>
  rw[e]at hr;cases hr
  obtain⟨h1,h2⟩:=DB.mp e
  simp at h1 h2
  subst h2
  refine⟨h1,λx H' y=>?_⟩
  obtain⟨rfl,rfl⟩:=y
  exact S.imm (iT rfl)
noncomputable def ii2 (x y:T):Option (Int×Int):=match isI x with
 | some i=>(match isI y with
  | some j=>some (i,j)
  | none=>none)
 | none=>none
theorem u7 {x y:T}{i j:Int}(h:ii2 x y=some (i,j)):x=.im (.int i)/\y=.im (.int j):=by
 unfold ii2 at h
 split at h
 ·rename_i a ea
  split at h
  ·rename_i b eb
   cases h
   exact⟨de ea,de eb⟩
  ·cases h
 ·cases h
@[irreducible] noncomputable def aW (a:MA):MI:=⟨λρ=>match a.run ρ with
 | some (rs,ρ1)=>(match l1 isI (rs.map (·.t))with
  | some j=>if -(2^62)<=j/\j<2^62 then some (([nQ],gE 0 j.toNat),ρ1)else none
  | none=>none)
 | none=>none,a.mu⟩
@[irreducible] noncomputable def ft (a:MA):MI:=⟨λρ=>match a.run ρ with
 | some (rs,ρ1)=>(match l2 ii2 (rs.map (·.t))with
  | some (i,j)=>if -(2^62)<=i/\i<2^62/\-(2^62)<=j/\j<2^62 then some (([nQ],gE i (j-i).toNat),ρ1)else none
  | none=>none)
 | none=>none,a.mu⟩
theorem ua {ta:TA}{a:MA}(ha:fv K ta a):jc K (xq ta) (aW a):=by with_unfolding_all
 intro Γ H ρ Z E Rr src items ρ' hK hr S q
 simp only[aW]at hr
 split at hr
 ·rename_i rs ρ1 e1
  split at hr
  ·rename_i j ej
   obtain⟨hj,e⟩:=aM hr
   cases e
   obtain⟨t,et,ei⟩:=dA ej
   cases de ei
   refine ha Γ H ρ Z E _ _ _ hK e1 S λvs H1 hl S1=>?_
   have r1:=S1.rds hl
   rw[et]at r1
   obtain⟨w,rfl,r2⟩:=lJ r1
   refine⟨j,by rw[aN r2],hj.1,hj.2,q _ [.non] H1 rfl ?_ mY⟩
   exact S1.drops.imm bM
  ·cases hr
 ·cases hr
theorem ub {ta:TA}{a:MA}(ha:fv K ta a):jc K (xr ta) (ft a):=by with_unfolding_all
 intro Γ H ρ Z E Rr src items ρ' hK hr S q
 simp only[ft]at hr
 split at hr
 ·rename_i rs ρ1 e1
  split at hr
  ·rename_i i j ej
   obtain⟨hj,e⟩:=aM hr
   cases e
   obtain⟨t,u,et,ei⟩:=jA ej
   obtain⟨rfl,rfl⟩:=u7 ei
   refine ha Γ H ρ Z E _ _ _ hK e1 S λvs H1 hl S1=>?_
   have r1:=S1.rds hl
   rw[et]at r1
   obtain⟨w,w',rfl,r2,r3⟩:=Ao r1
   refine⟨i,j,by rw[aN r2,aN r3],hj,q _ [.non] H1 rfl ?_ mY⟩
   exact S1.drops.imm bM
  ·cases hr
 ·cases hr
noncomputable def gA:R->Option (List R)
 | ⟨_,.li is⟩=>some (is.map λi=>⟨.ow,.im i⟩)
 | ⟨.vw ro _,.lst ts⟩=>some (ts.map (partV ro))
 | ⟨_,.im (.ls is)⟩=>some (is.map λi=>⟨.ow,.im i⟩)
 | _=>none
noncomputable def jx:R->Option (List R)
 | ⟨_,.im (.tup is)⟩=>some (is.map λi=>⟨.ow,.im i⟩)
 | _=>none
noncomputable def rT (a:ME):MI:=⟨λρ=>match a.run ρ with
 | some (r,ρ1)=>(match gA r with
  | some rs=>some (([r],rs),ρ1)
  | none=>none)
 | none=>none,a.mu⟩
noncomputable def yy (a:ME):MI:=⟨λρ=>match a.run ρ with
 | some (r,ρ1)=>(match jx r with
  | some rs=>some (([r],rs),ρ1)
  | none=>none)
 | none=>none,a.mu⟩
theorem Rd.det {a:Addr}{xs ys:List V}(h:Rd H a (.lst xs))(g:Rd H a (.lst ys)):xs=ys:=by
 rcases h with h|⟨o,h⟩<;>rcases g with g|⟨o',g⟩<;>rw[h]at g<;>cases g<;>rfl
theorem aZ {α β:Type}{f : α->β}{l:List α}{i:Nat}{b : β}(h:(l.map f)[i]?=some b):∃a,l[i]?=some a/\f a=b:=by
 rw[DG]at h
 cases e:l[i]? with
 | none=>rw[e]at h;cases h
 | some a=>rw[e]at h;exact⟨a,rfl,D5.inj h⟩
theorem Sim.partV {ro:Option Nat}{p:Option (List Ac)}{s:T}{e:En}{w:V}(S:Sim Γ H ρ Z E)(he:e∈E)(ho:e.r.k=.vw ro p)(hp:∀F,Rp Γ.K H e.r.t e.v F->∃G,Rp Γ.K H s w G/\∀a∈G,a∈F):Sim Γ H ρ Z (⟨none,w,L2.partV ro s⟩::E):=by
 cases s with
 | im i=>
  obtain⟨F,r⟩:=S.rd he
  obtain⟨G,g,_⟩:=hp F r
  exact S.imm (bj g).1
 | _=>
  obtain⟨w',h1,S2⟩:=S.part he ho (P:=λw'=>w'=w) (s:=_) (λF r=>let ⟨G,g,hG⟩:=hp F r;⟨w,G,rfl,g,hG⟩)
  subst h1
  exact S2
theorem AJ {a:Addr}{src:R}{items:List R}(hi:gA src=some items):gq Γ (Itl Γ.K a) [.ref a] [src] items:=λH ρ Z E S=>by
 replace S:Sim Γ H ρ Z (⟨none,.ref a,src⟩::E):=S
 have r1:Rpx Γ.K H src.t (.ref a):=S.rd (e:=⟨none,.ref a,src⟩) ymS
 unfold gA at hi
 split at hi
 ·cases hi
  obtain⟨a',xs,ea,g1,g2⟩:=bY r1
  cases ea
  refine⟨λi hi=>⟨xs,aQ g1,by rw[g2.length];simpa using hi⟩,λi r hr=>?_⟩
  obtain⟨j,hj,rfl⟩:=aZ hr
  obtain⟨w,hw,rw0⟩:=g2.get hj
  refine⟨⟨xs,w,aQ g1,hw⟩,λx H' y=>?_⟩
  obtain⟨rfl,y⟩:=y
  have:=y xs (aQ g1)
  rw[hw]at this;cases this
  exact S.imm rw0
 ·rename_i ro p ts
  cases hi
  obtain⟨a',xs,F,ea,g1,g2⟩:=fO r1
  cases ea
  refine⟨λi hi=>⟨xs,aQ g1,by rw[g2.length];simpa using hi⟩,λi r hr=>?_⟩
  obtain⟨j,hj,rfl⟩:=aZ hr
  obtain⟨w,A,G,B,hw,rw0,_⟩:=g2.at hj
  refine⟨⟨xs,w,aQ g1,hw⟩,λx H' y=>?_⟩
  obtain⟨rfl,y⟩:=y
  have:=y xs (aQ g1)
  rw[hw]at this;cases this
  refine S.partV (e:=⟨none,.ref a,⟨.vw ro p,.lst ts⟩⟩) ymS rfl λF rp=>?_
  have rp':Rp Γ.K _ (.lst ts) (.ref a) F:=rp
  rw[Rp]at rp'
  obtain⟨a'',xs',F',ea,k1,k2,rfl⟩:=rp'
  cases ea
  have:=k1.det g1
  subst this
  obtain⟨w',A',G',B',hw',rw',e',_⟩:=k2.at hj
  rw[hw]at hw';cases hw'
  exact⟨G',rw',λb hb=>by rw[e'];exact ymC _ (yaL _ (yaR _ hb))⟩
 ·cases hi
  obtain⟨a',xs,ea,g1,g2⟩:=xI r1
  cases ea
  refine⟨λi hi=>⟨xs,aQ g1,by rw[g2.length];simpa using hi⟩,λi r hr=>?_⟩
  obtain⟨j,hj,rfl⟩:=aZ hr
  obtain⟨w,hw,rw0⟩:=g2.get hj
  refine⟨⟨xs,w,aQ g1,hw⟩,λx H' y=>?_⟩
  obtain⟨rfl,y⟩:=y
  have:=y xs (aQ g1)
  rw[hw]at this;cases this
  exact S.imm rw0
 ·cases hi
theorem lE {ta:TE}{a:ME}(ha:aU K ta a):jc K (oQ K ta) (rT a):=by
 intro Γ H ρ Z E Rr srcs items ρ' hK hr S q
 simp only[rT]at hr
 split at hr
 ·rename_i src ρ1 e1
  split at hr
  ·rename_i rs e2
   cases hr
   refine ha Γ H ρ Z E _ _ _ hK e1 S λx H1 S1=>?_
   have r1:Rpx Γ.K H1 src.t x:=S1.rd (e:=⟨none,x,src⟩) ymS
   have hx:∃a xs,x=.ref a/\SqL K H1 a xs:=by
    unfold gA at e2
    split at e2
    ·obtain⟨a,xs,e,g1,g2⟩:=bY r1;exact⟨a,xs,e,aQ g1⟩
    ·obtain⟨a,xs,F,e,g1,g2⟩:=fO r1;exact⟨a,xs,e,aQ g1⟩
    ·obtain⟨a,xs,e,g1,g2⟩:=xI r1;exact⟨a,xs,e,aQ g1⟩
    ·cases e2
   obtain⟨b,xs,rfl,h2⟩:=hx
   exact⟨b,rfl,⟨xs,h2⟩,q _ [.ref b] H1 rfl S1 (by rw[←hK];exact AJ e2)⟩
  ·cases hr
 ·cases hr
theorem AK {a:Addr}{src:R}{items:List R}(hi:jx src=some items):gq Γ (Itt Γ.K a) [.ref a] [src] items:=λH ρ Z E S=>by
 replace S:Sim Γ H ρ Z (⟨none,.ref a,src⟩::E):=S
 have r1:Rpx Γ.K H src.t (.ref a):=S.rd (e:=⟨none,.ref a,src⟩) ymS
 unfold jx at hi
 split at hi
 ·cases hi
  obtain⟨a',xs,ea,g1,g2⟩:=bz r1
  cases ea
  refine⟨λi hi=>⟨xs,g1,by rw[g2.length];simpa using hi⟩,λi r hr=>?_⟩
  obtain⟨j,hj,rfl⟩:=aZ hr
  obtain⟨w,hw,rw0⟩:=g2.get hj
  refine⟨⟨xs,w,g1,hw⟩,λx H' y=>?_⟩
  obtain⟨rfl,y⟩:=y
  have:=y xs g1
  rw[hw]at this;cases this
  exact S.imm rw0
 ·cases hi
theorem wC {ta:TE}{a:ME}(ha:aU K ta a):jc K (u6 K ta) (yy a):=by
 intro Γ H ρ Z E Rr srcs items ρ' hK hr S q
 simp only[yy]at hr
 split at hr
 ·rename_i src ρ1 e1
  split at hr
  ·rename_i rs e2
   cases hr
   refine ha Γ H ρ Z E _ _ _ hK e1 S λx H1 S1=>?_
   have r1:Rpx Γ.K H1 src.t x:=S1.rd (e:=⟨none,x,src⟩) ymS
   have hx:∃a xs,x=.ref a/\SqT K H1 a xs:=by
    unfold jx at e2
    split at e2
    ·obtain⟨a,xs,e,g1,g2⟩:=bz r1;rw[hK]at g1;exact⟨a,xs,e,g1⟩
    ·cases e2
   obtain⟨b,xs,rfl,h2⟩:=hx
   exact⟨b,rfl,⟨xs,h2⟩,q _ [.ref b] H1 rfl S1 (by rw[←hK];exact AK e2)⟩
  ·cases hr
 ·cases hr
noncomputable def eR (g:R->Rho->Option Rho) (b:Rho->Option (Fl×Rho)):List R->Rho->Option (Fl×Rho)
 | [],ρ=>some (.nx,ρ)
 | r::rs,ρ=>match g r ρ with
  | some ρ1=>(match b ρ1 with
   | some (.nx,ρ2)=>eR g b rs ρ2
   | some (.ct,ρ2)=>eR g b rs ρ2
   | some (.bk,ρ2)=>some (.nx,ρ2)
   | some (.rt t,ρ2)=>some (.rt t,ρ2)
   | none=>none)
  | none=>none
@[irreducible] noncomputable def bQ (it:MI)(g:MG)(b:MS):MS:=⟨λρ=>match it.run ρ with
 | some ((srcs,items),ρ1)=>if(srcs.all (au (g.mu++b.mu))&&items.all (au (g.mu++b.mu)))=true then eR g.run b.run items ρ1 else none
 | none=>none,it.mu++(g.mu++b.mu)⟩
theorem wy {wi:TI}{g:TG}{tb:TS}{it:MI}{mg:MG}{b:MS}(hi:jc K wi it)(hg:iU K g mg)(hb:dM K tb b):dM K (CB wi g tb) (bQ it mg b):=by
 intro Γ H ρ Z E D f ρ' hK hE hr S q
 simp only[bQ]at hr q
 split at hr
 ·rename_i srcs items ρ1 e1
  split at hr
  ·rename_i al
   rw[DD]at al
   refine hi Γ H ρ Z E _ srcs items ρ1 hK e1 S λJ vs H1 hlv S1 wk=>?_
   rw[←ag]at q
   have hE1:=bL (M:=it.mu) hE
   generalize af it.mu E=E1 at q S1 hE1
   have ks:∀e∈ens vs srcs,aE (mg.mu++b.mu) e=true:=jk al.1
   have kg:af mg.mu (ens vs srcs++af (mg.mu++b.mu) E1)=ens vs srcs++af (mg.mu++b.mu) E1:=by
    rw[aD,dv (λe he=>ii (λj hj=>yaL _ hj) (ks e he)),cG (λj hj=>yaL _ hj)]
   have kb:af b.mu (ens vs srcs++af (mg.mu++b.mu) E1)=ens vs srcs++af (mg.mu++b.mu) E1:=by
    rw[aD,dv (λe he=>ii (λj hj=>yaR _ hj) (ks e he)),cG (λj hj=>yaR _ hj)]
   have S2:=S1.weak (mg.mu++b.mu)
   rw[aD,dv ks]at S2
   have hE2:=bL (M:=mg.mu++b.mu) hE1
   generalize af (mg.mu++b.mu) E1=E2 at q kg kb S2 hE2
   have hE3:∀e∈ens vs srcs++E2,e.key=none:=λe he=>by
    rcases yaM he with he|he
    ·exact l4 e he
    ·exact hE2 e he
   refine⟨λi m Z H=>m=items.length-i/\i<=items.length/\∃ρ,eR mg.run b.run (items.drop i) ρ=some (f,ρ')/\Sim Γ H ρ Z (ens vs srcs++E2),⟨items.length,by simp,EX _,ρ1,by simpa using hr,S2⟩,?_⟩
   rintro i m Z1 H2 ⟨rfl,hil,ρ2,h2,S3⟩
   obtain⟨w1,w2⟩:=wk H2 ρ2 Z1 E2 S3
   by_cases hlt:i<items.length
   ·have hx:items[i]?=some items[i]:=by simp[hlt]
    obtain⟨w3,w4⟩:=w2 i _ hx
    rw[EK hlt,eR]at h2
    refine .inr ⟨w3,λZ' H'=>∃ρ,eR mg.run b.run (items.drop (i+1)) ρ=some (f,ρ')/\Sim Γ H' ρ Z' (ens vs srcs++E2),λZ' H' ⟨ρ3,h3,S4⟩=>⟨items.length-(i+1),by omega,rfl,hlt,ρ3,h3,S4⟩,λx H3 y=>?_⟩
    have S4:=w4 x H3 y
    split at h2
    ·rename_i ρ3 e3
     refine hg Γ H3 ρ2 Z1 _ _ x _ ρ3 hK e3 S4 λZ2 H4 S5=>?_
     rw[kg]at S5
     split at h2
     ·rename_i ρ4 e4
      exact hb Γ H4 ρ3 Z2 _ _ .nx ρ4 hK hE3 e4 S5 λZ' H' S6=>⟨ρ4,h2,by rw[kb]at S6;exact S6⟩
     ·rename_i ρ4 e4
      exact hb Γ H4 ρ3 Z2 _ _ .ct ρ4 hK hE3 e4 S5 λZ' H' S6=>⟨ρ4,h2,by rw[kb]at S6;exact S6⟩
     ·rename_i ρ4 e4
      cases h2
      exact hb Γ H4 ρ3 Z2 _ _ .bk _ hK hE3 e4 S5 λZ' H' S6=>q Z' H' (by rw[kb]at S6;exact S6.drops)
     ·rename_i t ρ4 e4
      cases h2
      exact hb Γ H4 ρ3 Z2 _ _ (.rt t) _ hK hE3 e4 S5 q
     ·cases h2
    ·cases h2
   ·have e:i=items.length:=by omega
    subst e
    rw[Fu,eR]at h2
    cases h2
    exact .inl ⟨w1 _ (DK _),q Z1 H2 S3.drops⟩
  ·cases hr
 ·cases hr
end
noncomputable def iI (π:Nat->Nat):Kd->Kd
 | .vw (some j) p=>.vw (some (π j)) p
 | k=>k
noncomputable def hC (π:Nat->Nat) (r:R):R:=⟨iI π r.k,r.t⟩
noncomputable def bq (π:Nat->Nat) (e:En):En:=⟨e.key.map π,e.v,hC π e.r⟩
section
variable  {Γ:Gm}{H H':Hp}{ρ:Rho}{Z:St}{E X:List En}{v x y:V}{t:T}{K:yF}{Q:VK}{π:Nat->Nat}
theorem o6 (k:Kd):(iI π k).isOw=k.isOw:=by
 cases k with
 | vw a b=>cases a<;>rfl
 | _=>rfl
theorem kF (k:Kd):(iI π k).root=k.root.map π:=by
 cases k with
 | vw a b=>cases a<;>rfl
 | _=>rfl
theorem SimL.ren (S:SimL Γ H X)(inj:∀e∈X,∀f∈X,∀a b,e.key=some a->f.key=some b->π a=π b->a=b):SimL Γ H (X.map (bq π)):=by
 obtain⟨L,g,rfl⟩:=S
 have own:∀L:List Hd,(L.map λh:Hd=>(⟨bq π h.e,h.F⟩:Hd)).flatMap Hd.own=L.flatMap Hd.own:=by
  intro L
  induction L with
  | nil=>rfl
  | cons h L ih=>
   rw[DJ,DL,DL,ih]
   congr 1
   unfold Hd.own
   show(if(iI π h.e.r.k).isOw=true then h.F else [])=_
   rw[o6]
 refine⟨L.map λh=>⟨bq π h.e,h.F⟩,⟨by rw[own];exact g.nd,by rw[own];exact g.ad,λh hh=>?_,λh hh=>?_,?_,g.fr,g.iol⟩,by rw[Eg,Eg];rfl⟩
 ·obtain⟨h0,h1,rfl⟩:=DM.mp hh
  exact g.rp h0 h1
 ·obtain⟨h0,h1,rfl⟩:=DM.mp hh
  have k:=g.kd h0 h1
  unfold KdOk at k⊢
  show match iI π h0.e.r.k with
   | .ow=>_|.io k=>_|.vw none _=>_|.vw (some j) p=>_
  cases ek:h0.e.r.k with
  | ow=>rw[ek]at k;exact k
  | io n=>rw[ek]at k;exact k
  | vw a p=>
   rw[ek]at k
   cases a with
   | none=>rw[own];exact k
   | some j=>
    obtain⟨x,x1,x2,x3,x4,x5⟩:=k
    refine⟨⟨bq π x.e,x.F⟩,Eb x1,by show x.e.key.map π=_;rw[x2];rfl,by show(iI π x.e.r.k).isOw=true;rw[o6];exact x3,λa ha=>by rw[own];exact x4 a ha,x5⟩
 ·rw[EZ]
  have e:(λh:Hd=>h.e.key)∘(λh:Hd=>(⟨bq π h.e,h.F⟩:Hd))=λh=>h.e.key.map π:=rfl
  rw[e]
  have:∀L':List Hd,(∀h∈L',h∈L)->(L'.filterMap λh=>h.e.key).Nodup->(L'.filterMap λh=>h.e.key.map π).Nodup:=by
   intro L'
   induction L' with
   | nil=>intro _ _;exact EH
   | cons h L' ih=>
    intro hs nd
    rw[DZ]at nd⊢
    cases ek:h.e.key with
    | none=>rw[ek]at nd;exact ih (λx hx=>hs x (ymC _ hx)) nd
    | some a=>
     rw[ek]at nd
     obtain⟨n1,n2⟩:=D9.mp nd
     refine D9.mpr ⟨λhm=>?_,ih (λx hx=>hs x (ymC _ hx)) n2⟩
     obtain⟨y,hy,ey⟩:=Ef.mp hm
     cases eb:y.e.key with
     | none=>rw[eb]at ey;cases ey
     | some b=>
      rw[eb]at ey
      have e2 : π b=π a:=D5.inj ey
      have:=inj y.e (Eb (hs y (ymC _ hy))) h.e (Eb (hs h ymS)) b a eb ek e2
      subst this
      exact n1 (Ef.mpr ⟨y,hy,eb⟩)
  exact this L (λ_ h=>h) g.ks
theorem SimL.filt (S:SimL Γ H X)(p:En->Bool)(hp:∀e∈X,p e=true->∀j,e.r.k.root=some j->∀f∈X,f.key=some j->p f=true):SimL Γ H (X.filter p):=by
 obtain⟨L,g,rfl⟩:=S
 refine⟨L.filter λh=>p h.e,g.sub Ev λh hh j hj x hx hk ho=>?_,by rw[FD];rfl⟩
 obtain⟨h1,h2⟩:=DR.mp hh
 exact DR.mpr ⟨hx,hp h.e (Eb h1) h2 j hj x.e (Eb hx) hk⟩
theorem ents_iff {e:En}:e∈aA 0 Z ρ ↔ ∃i,e.key=some i/\ρ[i]?=some (some e.r)/\Z[i]?=some (some e.v):=by
 constructor
 ·intro h
  obtain⟨i,h1,h2,h3⟩:=cL h
  exact⟨i,by rw[h1,Eo],h2,h3⟩
 ·rintro⟨i,h1,h2,h3⟩
  have:=(bt (k:=0) h3 h2).mem_iff.mpr ymS
  have e':e=⟨some (0+i),e.v,e.r⟩:=by cases e;simp only[En.mk.injEq,and_self,and_true,Eo];exact h1
  rw[e'];exact this
theorem ld:∀{k:Nat} {Z:List (Option V)} {ρ:Rho},(aA k Z ρ).Pairwise λa b=>∃i j,a.key=some i/\b.key=some j/\i<j
 | _,[],_=>List.Pairwise.nil
 | _,x::_,[]=>by cases x<;>exact List.Pairwise.nil
 | k,x::Z,y::ρ=>by
  have ih:=ld (k:=k+1) (Z:=Z) (ρ:=ρ)
  cases x with
  | none=>simpa[aA]using ih
  | some v=>
   cases y with
   | none=>simpa[aA]using ih
   | some r=>
    simp only[aA]
    refine List.Pairwise.cons (λb hb=>?_) ih
    obtain⟨i,h1,_,_⟩:=cL hb
    exact⟨k,k+1+i,rfl,h1,by omega⟩
theorem ents_nodup {k:Nat}:(aA k Z ρ).Nodup:=by
 refine List.Pairwise.imp ?_ ld
 rintro a b ⟨i,j,h1,h2,h3⟩ rfl
 rw[h1]at h2;cases h2;omega
noncomputable def bK (fr:List (Option Nat)) (j:Nat):Bool:=match fr[j]? with
 | some (some i)=>i==j
 | _=>false
noncomputable def piF (fr:List (Option Nat)) (j:Nat):Nat:=if bK fr j=true then j else fr.length+j
noncomputable def psF (fr:List (Option Nat)) (k:Nat):Nat:=if k<fr.length then k else k-fr.length
noncomputable def iW (π:Nat->Nat):Nat->List (Option Nat)->Rho->Rho
 | _,[],_=>[]
 | k,o::fr,r::ρ=>(if o=some k then r.map (hC π)else none)::iW π (k+1) fr ρ
 | k,o::fr,[]=>none::iW π (k+1) fr []
noncomputable def inR (fr:List (Option Nat)) (ρ:Rho):Rho:=iW (piF fr) 0 fr ρ
noncomputable def gp (ψ : Nat->Nat) (tg mu:List Nat):Nat->List (Option Nat)->Rho->Rho->Rho
 | k,o::fr,ri::ρi,r::ρ=>(if o=some k then(ca tg ri).map (hC ψ)else ca mu r)::gp ψ tg mu (k+1) fr ρi ρ
 | _,[],_,ρ=>ρ.map (ca mu)
 | _,_::_,[],ρ=>ρ.map (ca mu)
 | _,_::_,_::_,[]=>[]
noncomputable def tgF (fr:List (Option Nat)):List Nat:=(Ee fr.length).filter λi=>!bK fr i
noncomputable def muF (fr:List (Option Nat)) (mu:List Nat):List Nat:=mu.filter (bK fr)
noncomputable def cI (fr:List (Option Nat)) (mu:List Nat) (ρi ρ:Rho):Rho:=gp (psF fr) (tgF fr) (muF fr mu) 0 fr ρi ρ
theorem capB_iff {fr:List (Option Nat)}{j:Nat}:bK fr j=true↔fr[j]?=some (some j):=by
 unfold bK
 split
 ·rename_i i h;rw[h];simp
 ·rename_i h
  constructor
  ·intro z;cases z
  ·intro z;exact absurd z (h j)
theorem jn:∀{k:Nat} {fr:List (Option Nat)} {ρ:Rho} {i:Nat} {r':R},(iW π k fr ρ)[i]?=some (some r')↔fr[i]?=some (some (k+i))/\∃r,ρ[i]?=some (some r)/\r'=hC π r
 | k,[],ρ,i,r'=>by simp[iW]
 | k,o::fr,[],0,r'=>by simp[iW]
 | k,o::fr,[],i+1,r'=>by
  rw[iW,EC,jn (k:=k+1) (fr:=fr) (ρ:=[]) (i:=i)]
  simp
 | k,o::fr,r::ρ,0,r'=>by
  rw[iW,EQ,EQ,EQ]
  by_cases h:o=some k
  ·subst h
   rw[if_pos rfl]
   cases r with
   | none=>simp
   | some r=>simp[eq_comm]
  ·rw[if_neg h]
   constructor
   ·intro z;cases z
   ·rintro⟨h1,_⟩;exact absurd (by simpa using h1) h
 | k,o::fr,r::ρ,i+1,r'=>by
  rw[iW,EC,EC,EC,jn (k:=k+1) (fr:=fr) (ρ:=ρ) (i:=i),show k+1+i=k+(i+1) by omega]
theorem gQ:∀{k:Nat} {fr:List (Option Nat)} {ρ:Rho},(iW π k fr ρ).length=fr.length
 | k,[],ρ=>rfl
 | k,o::fr,[]=>by rw[iW,DQ,gQ,DQ]
 | k,o::fr,r::ρ=>by rw[iW,DQ,gQ,DQ]
theorem inR_get {fr:List (Option Nat)}{i:Nat}{r':R}:(inR fr ρ)[i]?=some (some r')↔bK fr i=true/\∃r,ρ[i]?=some (some r)/\r'=hC (piF fr) r:=by
 unfold inR;rw[jn,Eo,capB_iff]
theorem gR {fr:List (Option Nat)}{i:Nat}(h:bK fr i=true):(aT fr Z)[i]?=some (Z.getD i none):=by
 unfold aT
 rw[DG,capB_iff.mp h];rfl
theorem getD_some {i:Nat}{v:V}:Z.getD i none=some v↔Z[i]?=some (some v):=by
 rw[D4]
 cases h:Z[i]? with
 | none=>simp
 | some o=>simp
theorem dm {fr:List (Option Nat)}{j:Nat}(h:bK fr j=true):piF fr j=j:=by unfold piF;rw[if_pos h]
theorem cm {fr:List (Option Nat)}{j:Nat}(h:bK fr j=false):piF fr j=fr.length+j:=by unfold piF;rw[if_neg (by rw[h];simp)]
theorem bA {fr:List (Option Nat)}{j:Nat}(h:bK fr j=true):j<fr.length:=(DB.mp (capB_iff.mp h)).1
theorem vJ {fr:List (Option Nat)}{a b:Nat}(h:piF fr a=piF fr b):a=b:=by
 cases ha:bK fr a<;>cases hb:bK fr b
 ·rw[cm ha,cm hb]at h;omega
 ·rw[cm ha,dm hb]at h;have:=bA hb;omega
 ·rw[dm ha,cm hb]at h;have:=bA ha;omega
 ·rw[dm ha,dm hb]at h;exact h
theorem sY {fr:List (Option Nat)}(a:Nat):psF fr (piF fr a)=a:=by
 cases ha:bK fr a
 ·rw[cm ha];unfold psF;rw[if_neg (by omega)];omega
 ·rw[dm ha];unfold psF;rw[if_pos (bA ha)]
theorem lG {fr:List (Option Nat)}(e:En):bq (psF fr) (bq (piF fr) e)=e:=by
 obtain⟨key,v,⟨k,t⟩⟩:=e
 have h1:(key.map (piF fr)).map (psF fr)=key:=by cases key<;>simp[sY]
 have h2:iI (psF fr) (iI (piF fr) k)=k:=by
  cases k with
  | vw a p=>cases a<;>simp[iI,sY]
  | _=>rfl
 show(⟨(key.map (piF fr)).map (psF fr),v,⟨iI (psF fr) (iI (piF fr) k),t⟩⟩:En)=_
 rw[h1,h2]
noncomputable def eB (fr:List (Option Nat)) (e:En):Bool:=match e.key with
 | some j=>bK fr j
 | none=>false
theorem iw {α β:Type}{f : α->β}{l:List α}(h:l.Nodup)(inj:∀a∈l,∀b∈l,f a=f b->a=b):(l.map f).Nodup:=by
 induction l with
 | nil=>exact EH
 | cons a l ih=>
  obtain⟨h1,h2⟩:=D9.mp h
  rw[DJ]
  refine D9.mpr ⟨λhm=>?_,ih h2 λx hx y hy=>inj x (ymC _ hx) y (ymC _ hy)⟩
  obtain⟨b,hb,e⟩:=DM.mp hm
  have:=inj b (ymC _ hb) a ymS e
  subst this
  exact h1 hb
theorem inn_perm {fr:List (Option Nat)}:((aA 0 Z ρ).map (bq (piF fr))).Perm (aA 0 (aT fr Z) (inR fr ρ)++((aA 0 Z ρ).filter λe=>!eB fr e).map (bq (piF fr))):=by
 have inj:∀a∈aA 0 Z ρ,∀b∈aA 0 Z ρ,bq (piF fr) a=bq (piF fr) b->a=b:=λa _ b _ h=>by
  have:=congrArg (bq (psF fr)) h
  rwa [lG,lG]at this
 have nd1:=iw (ents_nodup (k:=0) (Z:=Z) (ρ:=ρ)) inj
 have nd2:(((aA 0 Z ρ).filter λe=>!eB fr e).map (bq (piF fr))).Nodup:=nd1.sublist (Ev.map _)
 refine(FK nd1 (DF.mpr ⟨ents_nodup,nd2,?_⟩)).mpr λe=>?_
 ·rintro a ha b hb rfl
  obtain⟨i,h1,h2,h3⟩:=ents_iff.mp ha
  obtain⟨hc,_⟩:=inR_get.mp h2
  obtain⟨f,hf,rfl⟩:=DM.mp hb
  obtain⟨hf1,hf2⟩:=DR.mp hf
  obtain⟨j,g1,g2,g3⟩:=ents_iff.mp hf1
  have g0:bK fr j=false:=by unfold eB at hf2;rw[g1]at hf2;simpa using hf2
  have h1':(f.key.map (piF fr))=some i:=h1
  rw[g1]at h1'
  have h1'':piF fr j=i:=by simpa using h1'
  rw[cm g0]at h1''
  have:=bA hc
  omega
 ·rw[F9]
  constructor
  ·intro he
   obtain⟨f,hf,rfl⟩:=DM.mp he
   obtain⟨j,g1,g2,g3⟩:=ents_iff.mp hf
   cases hc:bK fr j
   ·exact .inr (DM.mpr ⟨f,DR.mpr ⟨hf,by unfold eB;rw[g1];simp[hc]⟩,rfl⟩)
   ·left
    refine ents_iff.mpr ⟨j,?_,inR_get.mpr ⟨hc,_,g2,rfl⟩,?_⟩
    ·show f.key.map (piF fr)=_
     rw[g1]
     simp[dm hc]
    ·rw[gR hc,getD_some.mpr g3];rfl
  ·rintro(he|he)
   ·obtain⟨i,h1,h2,h3⟩:=ents_iff.mp he
    obtain⟨hc,r,h4,h5⟩:=inR_get.mp h2
    rw[gR hc]at h3
    have h3':=getD_some.mp (D5.inj h3)
    refine DM.mpr ⟨⟨some i,e.v,r⟩,ents_iff.mpr ⟨i,rfl,h4,h3'⟩,?_⟩
    cases e
    simp only at h1 h5
    simp[bq,dm hc,h1,h5]
   ·obtain⟨f,hf,rfl⟩:=DM.mp he
    exact Eb (DR.mp hf).1
noncomputable def cO (fr:List (Option Nat)) (Z:St) (ρ:Rho) (E:List En):List En:=(E++(aA 0 Z ρ).filter λe=>!eB fr e).map (bq (piF fr))
noncomputable def db (fr:List (Option Nat)) (n:Nat):Bool:=decide (n<=fr.length)&&(Ee fr.length).all λi=>!bK fr i||decide (i<n)
theorem lf {fr:List (Option Nat)}{n j:Nat}(h:db fr n=true)(hc:bK fr j=true):j<n:=by
 unfold db at h
 rw[DD]at h
 have:=Et.mp h.2 j (EN.mpr (bA hc))
 rw[hc]at this
 simpa using this
theorem Sim.inn {fr:List (Option Nat)}(S:Sim Γ H ρ Z E)(hf:db fr ρ.length=true):Sim Γ H (inR fr ρ) (aT fr Z) (cO fr Z ρ E):=by
 refine⟨?_,λi r h=>?_,by rw[bS];unfold inR;rw[gQ],λe he j hj=>?_⟩
 ·have:=S.sl.ren (π:=piF fr) λe _ f _ a b _ _ h=>vJ h
  rw[DP]at this
  refine this.perm ?_
  unfold cO
  rw[DP,DU]
  exact(inn_perm.append_left _).trans (List.perm_append_comm.append_left _)
 ·obtain⟨hc,r0,h1,_⟩:=inR_get.mp h
  obtain⟨v,hv⟩:=S.al i r0 h1
  exact⟨v,by rw[gR hc,getD_some.mpr hv]⟩
 ·unfold inR
  rw[gQ]
  unfold cO at he
  obtain⟨f,hf',rfl⟩:=DM.mp he
  have hj':f.key.map (piF fr)=some j:=hj
  cases hk:f.key with
  | none=>rw[hk]at hj';cases hj'
  | some i=>
   rw[hk]at hj'
   have e1:piF fr i=j:=by simpa using hj'
   have hc:bK fr i=false:=by
    rcases yaM hf' with z|z
    ·cases hc:bK fr i with
     | false=>rfl
     | true=>
      have:=lf hf hc
      have:=S.hi f z i hk
      omega
    ·have:=(DR.mp z).2
     unfold eB at this
     rw[hk]at this
     simpa using this
   rw[cm hc]at e1
   omega
theorem kC {ψ : Nat->Nat}{tg mu:List Nat}:∀{k:Nat} {fr:List (Option Nat)} {ρi ρ:Rho} {i:Nat},i < ρ.length->ρ.length<=fr.length->fr.length=ρi.length->(gp ψ tg mu k fr ρi ρ)[i]?=some (if fr[i]?=some (some (k+i))then(ca tg (ρi.getD i none)).map (hC ψ)else ca mu (ρ.getD i none))
 | k,fr,ρi,[],i,h,_,_=>by cases h
 | k,[],ρi,r::ρ,i,_,h,_=>by simp at h
 | k,o::fr,[],r::ρ,i,_,_,h=>by cases h
 | k,o::fr,ri::ρi,r::ρ,0,h,h2,h3=>by
  rw[gp,EQ,EQ]
  simp
 | k,o::fr,ri::ρi,r::ρ,i+1,h,h2,h3=>by
  rw[gp,EC,kC (k:=k+1) (by simpa using h) (by simpa using h2) (by simpa using h3),EC,show k+1+i=k+(i+1) by omega]
  simp
theorem iA {ψ : Nat->Nat}{tg mu:List Nat}:∀{k:Nat} {fr:List (Option Nat)} {ρi ρ:Rho},(gp ψ tg mu k fr ρi ρ).length=ρ.length
 | k,[],ρi,ρ=>by cases ρi<;>simp[gp]
 | k,o::fr,[],ρ=>by simp[gp]
 | k,o::fr,ri::ρi,[]=>by simp[gp]
 | k,o::fr,ri::ρi,r::ρ=>by rw[gp,DQ,iA,DQ]
theorem hJ {fr:List (Option Nat)}{i:Nat}:i∈tgF fr↔i<fr.length/\bK fr i=false:=by
 unfold tgF
 rw[DR,EN]
 simp
theorem killO_iff {M:List Nat}{o:Option R}{r:R}:ca M o=some r↔o=some r/\cX M r=true:=by
 cases o with
 | none=>simp[ca]
 | some x=>
  simp only[ca]
  split
  ·rename_i h
   constructor
   ·intro z;cases z;exact⟨rfl,h⟩
   ·rintro⟨z,_⟩;rw[z]
  ·rename_i h
   constructor
   ·intro z;cases z
   ·rintro⟨z,h2⟩;cases z;exact absurd h2 h
theorem rN {fr:List (Option Nat)}{mu:List Nat}(hmu:∀j∈mu,j<fr.length)(e:En):aE mu (bq (piF fr) e)=aE (muF fr mu) e:=by
 unfold aE
 show(match (iI (piF fr) e.r.k).root with|some j=>!mu.contains j|none=>true)=_
 rw[kF]
 cases e.r.k.root with
 | none=>rfl
 | some j=>
  show(!mu.contains (piF fr j)) = !(muF fr mu).contains j
  congr 1
  rw[EJ]
  simp only[EB,decide_eq_true_eq,muF,DR]
  cases hc:bK fr j
  ·rw[cm hc]
   constructor
   ·intro z;have:=hmu _ z;omega
   ·rintro⟨_,z⟩;cases z
  ·rw[dm hc]
   simp
theorem vc {fr:List (Option Nat)}(e:En):aE (tgF fr) (bq (piF fr) e)=true:=by
 unfold aE
 show(match (iI (piF fr) e.r.k).root with|some j=>!(tgF fr).contains j|none=>true)=_
 rw[kF]
 cases e.r.k.root with
 | none=>rfl
 | some j=>
  show(!(tgF fr).contains (piF fr j))=true
  simp only[EB,El,decide_eq_false_iff_not,hJ]
  rintro⟨h1,h2⟩
  cases hc:bK fr j
  ·rw[cm hc]at h1;omega
  ·rw[dm hc,hc]at h2;cases h2
theorem Sim.outt {fr:List (Option Nat)}{mu:List Nat}{ρi:Rho}{Z2:St}(S:Sim Γ H' ρi Z2 (af mu (cO fr Z ρ E)))(hf:db fr ρ.length=true)(hmu:∀j∈mu,j<fr.length)(hl : ρi.length=fr.length)(kp:Kp fr (aT fr Z) Z2)
  (al:∀(i:Nat) r,ρ[i]?=some (some r)->∃v,Z[i]?=some (some v)) (len:Z.length=ρ.length) (hi:∀e∈E,∀j,e.key=some j->ρ.length<=j):Sim Γ H' (cI fr mu ρi ρ) Z (af (muF fr mu) E):=by
 have hn : ρ.length<=fr.length:=by unfold db at hf;rw[DD,decide_eq_true_eq]at hf;exact hf.1
 have val:∀{i:Nat} {w:V},bK fr i=true->Z2[i]?=some (some w)->Z[i]?=some (some w):=λ{i w} hc h=>by
  rw[kp.2 i i (capB_iff.mp hc),gR hc]at h
  exact getD_some.mp (D5.inj h)
 have eE:af mu (cO fr Z ρ E)=(af (muF fr mu) (E++(aA 0 Z ρ).filter λe=>!eB fr e)).map (bq (piF fr)):=by
  unfold cO af
  rw[FD]
  congr 1
  apply List.filter_congr
  intro e _
  exact rN hmu e
 have s1:=(S.sl.kill (tgF fr))
 rw[aD,eE]at s1
 have e1:af (tgF fr) ((af (muF fr mu) (E++(aA 0 Z ρ).filter λe=>!eB fr e)).map (bq (piF fr)))=(af (muF fr mu) (E++(aA 0 Z ρ).filter λe=>!eB fr e)).map (bq (piF fr)):=by
  unfold af
  rw[ET]
  intro e he
  obtain⟨f,_,rfl⟩:=DM.mp he
  exact vc f
 rw[e1]at s1
 let p:En->Bool:=λe=>match e.key with
  | some k=>!(tgF fr).contains k
  | none=>true
 have kout:∀f∈E++(aA 0 Z ρ).filter λe=>!eB fr e,∀j,f.key=some j->bK fr j=false:=λf hf' j hj=>by
  rcases yaM hf' with z|z
  ·cases hc:bK fr j with
   | false=>rfl
   | true=>have:=lf hf hc;have:=hi f z j hj;omega
  ·have:=(DR.mp z).2
   unfold eB at this
   rw[hj]at this
   simpa using this
 have pO:∀e∈(af (muF fr mu) (E++(aA 0 Z ρ).filter λe=>!eB fr e)).map (bq (piF fr)),p e=true:=λe he=>by
  obtain⟨f,hf',rfl⟩:=DM.mp he
  have hf'':=(DR.mp hf').1
  show(match f.key.map (piF fr)with|some k=>!(tgF fr).contains k|none=>true)=true
  cases hk:f.key with
  | none=>rfl
  | some j=>
   have:=kout f hf'' j hk
   simp only[Fe,EB,El,decide_eq_false_iff_not,hJ]
   rw[cm this]
   omega
 have s2:=s1.filt p λe he _ j hj f hf' hk=>by
  show(match f.key with|some k=>!(tgF fr).contains k|none=>true)=true
  rw[hk]
  have hm:e∈af (tgF fr) (af mu (cO fr Z ρ E)++aA 0 Z2 ρi):=by rw[aD,eE,e1];exact he
  by_cases hj':j∈tgF fr
  ·exact absurd hj (jH (M:=tgF fr) (i:=j) hj' e hm)
  ·simp[hj']
 rw[FI,ET.mpr pO]at s2
 have s3:=s2.ren (π:=psF fr) (λe he f hf' a b ha hb hab=>by
  have key:∀e∈(af (muF fr mu) (E++(aA 0 Z ρ).filter λe=>!eB fr e)).map (bq (piF fr))++(af (tgF fr) (aA 0 Z2 ρi)).filter p,∀a,e.key=some a->(∃j,a=fr.length+j/\bK fr j=false)∨bK fr a=true:=λe he a ha=>by
   rcases yaM he with z|z
   ·left
    obtain⟨g,hg,rfl⟩:=DM.mp z
    have hg':=(DR.mp hg).1
    have ha':g.key.map (piF fr)=some a:=ha
    cases hk:g.key with
    | none=>rw[hk]at ha';cases ha'
    | some j=>
     have hc:=kout g hg' j hk
     rw[hk]at ha'
     have:piF fr j=a:=by simpa using ha'
     exact⟨j,by rw[←this,cm hc],hc⟩
   ·right
    obtain⟨z1,z2⟩:=DR.mp z
    obtain⟨i,h1,h2,h3⟩:=ents_iff.mp (DR.mp z1).1
    rw[ha]at h1
    cases h1
    have z2':(match e.key with|some k=>!(tgF fr).contains k|none=>true)=true:=z2
    rw[ha]at z2'
    have hlt:a<fr.length:=by
     have:=(DB.mp h2).1
     omega
    simp only[EB,El,decide_eq_false_iff_not,hJ]at z2'
    cases hc:bK fr a with
    | true=>rfl
    | false=>exact absurd ⟨hlt,hc⟩ z2'
  rcases key e he a ha with⟨j,rfl,hj⟩|hj<;>rcases key f hf' b hb with⟨j',rfl,hj'⟩|hj'
  ·unfold psF at hab;rw[if_neg (by omega),if_neg (by omega)]at hab;omega
  ·unfold psF at hab
   rw[if_neg (by omega),if_pos (bA hj')]at hab
   have:j=b:=by omega
   subst this
   rw[hj]at hj';cases hj'
  ·unfold psF at hab
   rw[if_pos (bA hj),if_neg (by omega)]at hab
   have:j'=a:=by omega
   subst this
   rw[hj']at hj;cases hj
  ·unfold psF at hab;rw[if_pos (bA hj),if_pos (bA hj')]at hab;exact hab)
 rw[DP,Eg]at s3
 have e2:(af (muF fr mu) (E++(aA 0 Z ρ).filter λe=>!eB fr e)).map (bq (psF fr)∘bq (piF fr))=af (muF fr mu) (E++(aA 0 Z ρ).filter λe=>!eB fr e):=by
  conv=>rhs;rw[←List.map_id (af (muF fr mu) (E++(aA 0 Z ρ).filter λe=>!eB fr e))]
  apply Gw
  intro e _
  exact lG e
 rw[e2,aD,DU]at s3
 have olen:(cI fr mu ρi ρ).length=ρ.length:=by unfold cI;exact iA
 have oget:∀{i:Nat} {r:R},(cI fr mu ρi ρ)[i]?=some (some r)↔i < ρ.length/\((bK fr i=true/\∃r0,ρi[i]?=some (some r0)/\cX (tgF fr) r0=true/\r=hC (psF fr) r0)∨(bK fr i=false/\ρ[i]?=some (some r)/\cX (muF fr mu) r=true)):=λ{i r}=>by
  by_cases hlt:i < ρ.length
  ·unfold cI
   rw[kC hlt hn hl.symm,Eo]
   cases hc:bK fr i
   ·rw[if_neg (λz=>by rw[capB_iff.mpr z]at hc;cases hc)]
    rw[D5.injEq,killO_iff]
    have : ρ.getD i none=some r↔ρ[i]?=some (some r):=by
     rw[D4]
     cases ρ[i]?<;>simp
    rw[this]
    simp[hlt]
   ·rw[if_pos (capB_iff.mp hc)]
    rw[D5.injEq,EV]
    constructor
    ·rintro⟨r0,h1,h2⟩
     obtain⟨h3,h4⟩:=killO_iff.mp h1
     refine⟨hlt,.inl ⟨rfl,r0,?_,h4,h2.symm⟩⟩
     rw[D4]at h3
     cases h5 : ρi[i]? with
     | none=>rw[h5]at h3;cases h3
     | some o=>rw[h5]at h3;have:o=some r0:=h3;rw[this]
    ·rintro⟨_,⟨_,r0,h1,h2,h3⟩|⟨z,_⟩⟩
     ·exact⟨r0,killO_iff.mpr ⟨by rw[D4,h1];rfl,h2⟩,h3.symm⟩
     ·cases z
  ·constructor
   ·intro z
    have:=(DB.mp z).1
    rw[olen]at this
    exact absurd this hlt
   ·rintro⟨z,_⟩;exact absurd z hlt
 refine⟨s3.perm (List.Perm.append_left _ ?_),λi r h=>?_,by rw[olen];exact len,λe he j hj=>by rw[olen];exact hi e (DR.mp he).1 j hj⟩
 ·have ndA:(af (muF fr mu) ((aA 0 Z ρ).filter λe=>!eB fr e)).Nodup:=ents_nodup.sublist (Ev.trans Ev)
  have inB:∀e∈(af (tgF fr) (aA 0 Z2 ρi)).filter p,∃i,e.key=some i/\bK fr i=true/\ρi[i]?=some (some e.r)/\Z2[i]?=some (some e.v)/\cX (tgF fr) e.r=true:=λe he=>by
   obtain⟨z1,z2⟩:=DR.mp he
   obtain⟨z3,z4⟩:=DR.mp z1
   obtain⟨i,h1,h2,h3⟩:=ents_iff.mp z3
   have z2':(match e.key with|some k=>!(tgF fr).contains k|none=>true)=true:=z2
   rw[h1]at z2'
   have hlt:i<fr.length:=by
    have:=(DB.mp h2).1
    omega
   simp only[EB,El,decide_eq_false_iff_not,hJ]at z2'
   refine⟨i,h1,?_,h2,h3,z4⟩
   cases hc:bK fr i with
   | true=>rfl
   | false=>exact absurd ⟨hlt,hc⟩ z2'
  have ndB:(((af (tgF fr) (aA 0 Z2 ρi)).filter p).map (bq (psF fr))).Nodup:=by
   refine iw (ents_nodup.sublist (Ev.trans Ev)) λa ha b hb h=>?_
   obtain⟨i,h1,h2,h3,h4,_⟩:=inB a ha
   obtain⟨j,g1,g2,g3,g4,_⟩:=inB b hb
   have hk:a.key.map (psF fr)=b.key.map (psF fr):=congrArg En.key h
   rw[h1,g1]at hk
   have hk':psF fr i=psF fr j:=by simpa using hk
   unfold psF at hk'
   rw[if_pos (bA h2),if_pos (bA g2)]at hk'
   subst hk'
   rw[h3]at g3;rw[h4]at g4
   cases a;cases b
   simp only at h1 g1 g3 g4
   have e1:=D5.inj (D5.inj g3)
   have e2:=D5.inj (D5.inj g4)
   simp[h1,g1,e1,e2]
  refine(FK (DF.mpr ⟨ndA,ndB,?_⟩) ents_nodup).mpr λe=>?_
  ·rintro a ha b hb rfl
   obtain⟨f,hf',hfe⟩:=DM.mp hb
   obtain⟨i,h1,h2,_⟩:=inB f hf'
   have hk:f.key.map (psF fr)=a.key:=congrArg En.key hfe
   rw[h1]at hk
   have hk':a.key=some i:=by rw[←hk];simp[psF,bA h2]
   obtain⟨y1,y2⟩:=DR.mp (DR.mp ha).1
   unfold eB at y2
   rw[hk']at y2
   simp[h2]at y2
  ·rw[F9,ents_iff]
   constructor
   ·rintro(he|he)
    ·obtain⟨z1,z2⟩:=DR.mp he
     obtain⟨z3,z4⟩:=DR.mp z1
     obtain⟨i,h1,h2,h3⟩:=ents_iff.mp z3
     unfold eB at z4
     rw[h1]at z4
     refine⟨i,h1,oget.mpr ⟨(DB.mp h2).1,.inr ⟨by simpa using z4,h2,z2⟩⟩,h3⟩
    ·obtain⟨f,hf',rfl⟩:=DM.mp he
     obtain⟨i,h1,h2,h3,h4,h5⟩:=inB f hf'
     refine⟨i,?_,oget.mpr ⟨lf hf h2,.inl ⟨h2,f.r,h3,h5,rfl⟩⟩,val h2 h4⟩
     show f.key.map (psF fr)=some i
     rw[h1]
     simp[psF,bA h2]
   ·rintro⟨i,h1,h2,h3⟩
    obtain⟨hlt,⟨hc,r0,g1,g2,g3⟩|⟨hc,g1,g2⟩⟩:=oget.mp h2
    ·right
     obtain⟨w,hw⟩:=S.al i r0 g1
     have hw':=val hc hw
     rw[h3]at hw'
     have ew:e.v=w:=D5.inj (D5.inj hw')
     refine DM.mpr ⟨⟨some i,w,r0⟩,DR.mpr ⟨DR.mpr ⟨ents_iff.mpr ⟨i,rfl,g1,hw⟩,g2⟩,?_⟩,?_⟩
     ·show(!(tgF fr).contains i)=true
      simp only[EB,El,decide_eq_false_iff_not,hJ]
      rintro⟨_,z⟩;rw[hc]at z;cases z
     ·cases e
      simp only at h1 g3 ew
      simp[bq,h1,g3,ew,psF,bA hc]
    ·left
     refine DR.mpr ⟨DR.mpr ⟨ents_iff.mpr ⟨i,h1,g1,h3⟩,?_⟩,g2⟩
     unfold eB;rw[h1];simp[hc]
 ·obtain⟨hlt,⟨hc,r0,g1,g2,g3⟩|⟨hc,g1,g2⟩⟩:=oget.mp h
  ·obtain⟨w,hw⟩:=S.al i r0 g1
   exact⟨w,val hc hw⟩
  ·exact al i r g1
end
section
variable  {Γ:Gm}{H H':Hp}{ρ:Rho}{Z:St}{E X:List En}{v x y:V}{t:T}{K:yF}{Q:VK}
theorem Sim.mkL {vs:List V}{ts:List T}{p:Addr}(S:Sim Γ H ρ Z (ay vs ts++E))(hl:vs.length=ts.length)(hp:H p=none):Sim Γ (upd H p (.lst vs)) ρ Z (⟨none,.ref p,⟨.ow,bE ts⟩⟩::E):=by
 obtain⟨F,h1,h2,h3,h4⟩:=S.use hl
 have sm:=Same.laid (o:=.lst vs) hp
 have np:p∉F:=λz=>by obtain⟨o,e,_⟩:=h3 p z;rw[hp]at e;cases e
 refine h4 _ (.ref p) (bE ts) (p::F) (sm.offM _) (λa ha=>let ⟨o,e,_⟩:=h3 a ha;⟨o,sm a o e⟩) (D9.mpr ⟨np,h2⟩) (λa ha=>?_) ?_
 ·rcases ycM ha with rfl|ha
  ·exact⟨.inr hp,_,az,rfl⟩
  ·exact⟨.inl ha,let ⟨o,e,m⟩:=h3 a ha;⟨o,sm a o e,m⟩⟩
 ·unfold bE
  split
  ·rename_i is hi
   rw[lh hi]at h1
   obtain⟨h5,h6⟩:=Rps.ims.mp h1
   subst h6
   rw[Rp]
   exact⟨p,vs,rfl,.inl az,h5.same sm,rfl⟩
  ·rw[Rp]
   exact⟨p,vs,F,rfl,.inl az,h1.same sm,rfl⟩
theorem kN {t:T}:∀{vs:List V} {ts:List T},vs.length=ts.length->ay (vs++[v]) (ts++[t])=ay vs ts++[⟨none,v,⟨.ow,t⟩⟩]
 | [],[],_=>rfl
 | a::vs,b::ts,h=>by
  rw[D8,D8,ay,ay,kN (by simpa using h),D8]
 | [],_::_,h=>by cases h
 | _::_,[],h=>by cases h
theorem dz {M:List Nat}:∀{vs:List V} {ts:List T},af M (ay vs ts)=ay vs ts
 | [],ts=>by cases ts<;>rfl
 | a::vs,[]=>rfl
 | a::vs,b::ts=>by rw[ay,av rfl,dz]
noncomputable def bm (fr:List (Option Nat)) (M:List Nat) (g:MG) (c:MT) (e:ME):List R->Rho->List T->Option (List T×Rho)
 | [],ρ,acc=>some (acc,ρ)
 | r::rs,ρ,acc=>match g.run (hC (piF fr) r) (inR fr ρ)with
  | some ρ1=>(match c.run ρ1 with
   | some (true,ρ2)=>(match e.run ρ2 with
    | some (⟨.ow,t⟩,ρ3)=>bm fr M g c e rs (cI fr M ρ3 ρ) (acc++[t])
    | _=>none)
   | some (false,ρ2)=>bm fr M g c e rs (cI fr M ρ2 ρ) acc
   | none=>none)
  | none=>none
theorem eM {fr:List (Option Nat)}{e:En}:cO fr Z ρ (e::E)=bq (piF fr) e::cO fr Z ρ E:=rfl
theorem jJ {fr:List (Option Nat)}{M:List Nat}{ρi:Rho}:(cI fr M ρi ρ).length=ρ.length:=iA
theorem ka {J:It}{fr:List (Option Nat)}{g:TG}{tc:TT}{te:TE}{mg:MG}{c:MT}{e:ME}{M:List Nat}{vs:List V}{srcs:List R}{items:List R}{N:List V->Hp->Prop}(hK : Γ.K=K)(wk:gq Γ J vs srcs items)(hgk:dy fr g)(hg:iU K g mg)(hc:eA K tc c)(he:aU K te e)(hM:M=mg.mu++(c.mu++e.mu))
  (hmu:∀j∈M,j<fr.length) (ks:∀e∈ens vs srcs,aE (muF fr M) e=true) {E2:List En} (kE:af (muF fr M) E2=E2) {tsF:List T} {ρF:Rho} {acc0:List V} {ts0:List T} (hl0:acc0.length=ts0.length) (hz:acc0.length+items.length<sizeLine)
  (hf:db fr ρ.length=true) (S:Sim Γ H ρ Z (ens vs srcs++(ay acc0 ts0++E2))) (hr:bm fr M mg c e items ρ ts0=some (tsF,ρF))
  (q:∀acc H',acc.length=tsF.length->acc.length<=acc0.length+items.length->ρF.length=ρ.length->Sim Γ H' ρF Z (ens vs srcs++(ay acc tsF++E2))->N acc H'):qR J (aT fr Z) g tc te acc0 H N:=by
 have kE2:∀acc ts,af (muF fr M) (ens vs srcs++(ay acc ts++E2))=ens vs srcs++(ay acc ts++E2):=λacc ts=>by rw[aD,dv ks,aD,dz,kE]
 refine⟨λi m acc H=>m=items.length-i/\i<=items.length/\acc.length<=acc0.length+i/\∃ρ1 ts,bm fr M mg c e (items.drop i) ρ1 ts=some (tsF,ρF)/\acc.length=ts.length/\ρ1.length=ρ.length/\Sim Γ H ρ1 Z (ens vs srcs++(ay acc ts++E2)),⟨items.length,by simp,EX _,by omega,ρ,ts0,by simpa using hr,hl0,rfl,S⟩,?_⟩
 rintro i m acc H1 ⟨rfl,hil,hal,ρ1,ts,h1,hl,hρ,S1⟩
 refine⟨by omega,?_⟩
 obtain⟨w1,w2⟩:=wk H1 ρ1 Z _ S1
 by_cases hlt:i<items.length
 ·have hx:items[i]?=some items[i]:=by simp[hlt]
  obtain⟨w3,w4⟩:=w2 i _ hx
  rw[EK hlt,bm]at h1
  refine .inr ⟨w3,λacc' H'=>acc'.length<=acc0.length+(i+1)/\∃ρ1 ts,bm fr M mg c e (items.drop (i+1)) ρ1 ts=some (tsF,ρF)/\acc'.length=ts.length/\ρ1.length=ρ.length/\Sim Γ H' ρ1 Z (ens vs srcs++(ay acc' ts++E2)),λacc' H' ⟨ha,ρ3,ts3,h3,hl3,hρ3,S3⟩=>⟨items.length-(i+1),by omega,rfl,hlt,ha,ρ3,ts3,h3,hl3,hρ3,S3⟩,λx H2 y=>?_⟩
  have S2:=w4 x H2 y
  have hf1:db fr ρ1.length=true:=by rw[hρ];exact hf
  have S3:=S2.inn hf1
  rw[eM]at S3
  split at h1
  ·rename_i ρ2 e2
   refine hgk x (aT fr Z) H2 (λZ2 H3=>Kp fr (aT fr Z) Z2->_) _ (λZ2 H3 z kp=>z kp) ?_
   refine hg Γ H2 (inR fr ρ1) (aT fr Z) _ _ x _ ρ2 hK e2 S3 λZ2 H3 S4 kp=>?_
   split at h1
   ·rename_i ρ3 e3
    refine hc Γ H3 ρ2 Z2 _ _ true ρ3 hK e3 S4 λH4 S5=>pN ?_
    split at h1
    ·rename_i t ρ4 e4
     refine he Γ H4 ρ3 Z2 _ _ _ ρ4 hK e4 S5 λw H5 S6=>?_
     rw[ag,ag]at S6
     rw[←hM]at S6
     have S7:Sim Γ H5 ρ4 Z2 (af M (cO fr Z ρ1 (⟨none,w,⟨.ow,t⟩⟩::(ens vs srcs++(ay acc ts++E2))))):=by
      rw[eM,av (show aE M (bq (piF fr) ⟨none,w,⟨.ow,t⟩⟩)=true from rfl)]
      exact S6
     have hl4 : ρ4.length=fr.length:=by rw[←S6.len,kp.1,bS]
     have S8:=S7.outt hf1 hmu hl4 kp S1.al S1.len (λe' he' j hj=>by
      rcases ycM he' with rfl|he'
      ·cases hj
      ·exact S1.hi e' he' j hj)
     rw[av (show aE (muF fr M) ⟨none,w,⟨.ow,t⟩⟩=true from rfl),kE2]at S8
     refine⟨by simp;omega,_,_,h1,by simp[hl],by rw[jJ,hρ],?_⟩
     rw[kN hl,DU]
     refine S8.perm ?_
     have pp:∀(A B C:List En) (x:En),(x::(A++(B++C))).Perm (A++(B++(x::C))):=λA B C x=>by
      rw[←DU,←DU]
      exact Ea.symm
     exact pp _ _ _ _
    ·cases h1
   ·rename_i ρ3 e3
    refine hc Γ H3 ρ2 Z2 _ _ false ρ3 hK e3 S4 λH4 S5=>pM ?_
    have S6:=S5.weak e.mu
    rw[ag,ag]at S6
    rw[←hM]at S6
    have hl4 : ρ3.length=fr.length:=by rw[←S6.len,kp.1,bS]
    have S8:=S6.outt hf1 hmu hl4 kp S1.al S1.len S1.hi
    rw[kE2]at S8
    exact⟨by omega,_,_,h1,hl,by rw[jJ,hρ],S8⟩
   ·cases h1
  ·cases h1
 ·have ei:i=items.length:=by omega
  subst ei
  rw[Fu,bm]at h1
  cases h1
  exact .inl ⟨w1 _ (DK _),q acc H1 hl hal hρ S1⟩
noncomputable def cY (M:List Nat) (n:Nat):Bool:=M.all λj=>decide (j<n)
theorem jB {M:List Nat}{n:Nat}(h:cY M n=true):∀j∈M,j<n:=λj hj=>by
 have:=Et.mp h j hj
 simpa using this
@[irreducible] noncomputable def aR (fr:List (Option Nat))(it:MI)(g:MG)(c:MT)(e:ME):ME:=⟨λρ=>match it.run ρ with
 | some ((srcs,items),ρ1)=>if(db fr ρ1.length&&cY (g.mu++(c.mu++e.mu)) fr.length&&srcs.all (au (muF fr (g.mu++(c.mu++e.mu))))&&decide (items.length<sizeLine))=true then(match bm fr (g.mu++(c.mu++e.mu)) g c e items ρ1 []with
  | some (ts,ρ2)=>some (⟨.ow,bE ts⟩,ρ2)
  | none=>none)else none
 | none=>none,it.mu++muF fr (g.mu++(c.mu++e.mu))⟩
theorem mJ {wi:TI}{fr:List (Option Nat)}{g:TG}{tc:TT}{te:TE}{it:MI}{mg:MG}{c:MT}{e:ME}(hi:jc K wi it)(hgk:dy fr g)(hg:iU K g mg)(hc:eA K tc c)(he:aU K te e):aU K (uu wi fr g tc te) (aR fr it mg c e):=by
 intro Γ H ρ Z E Q r ρ' hK hr S q
 simp only[aR]at hr q
 split at hr
 ·rename_i srcs items ρ1 e1
  split at hr
  ·rename_i hb
   simp only[DD,decide_eq_true_eq]at hb
   obtain⟨⟨⟨b1,b2⟩,b3⟩,b5⟩:=hb
   split at hr
   ·rename_i ts ρ2 e2
    cases hr
    refine hi Γ H ρ Z E _ srcs items ρ1 hK e1 S λJ vs H1 hlv S1 wk=>?_
    rw[←ag]at q
    generalize af it.mu E=E1 at q S1
    have ks:∀e'∈ens vs srcs,aE (muF fr (mg.mu++(c.mu++e.mu))) e'=true:=jk b3
    have S2:=S1.weak (muF fr (mg.mu++(c.mu++e.mu)))
    rw[aD,dv ks]at S2
    have kE:=cG (M:=muF fr (mg.mu++(c.mu++e.mu))) (N:=muF fr (mg.mu++(c.mu++e.mu))) (λj hj=>hj) E1
    generalize af (muF fr (mg.mu++(c.mu++e.mu))) E1=E2 at q S2 kE
    refine ka (acc0:=[]) (ts0:=[]) hK wk hgk hg hc he rfl (jB b2) ks kE rfl (by simpa using b5) b1 S2 e2 λacc H' hl _ _ S3 d hd=>?_
    exact q _ _ (S3.drops.mkL hl hd)
   ·cases hr
  ·cases hr
 ·cases hr
noncomputable def bR (fr fr2:List (Option Nat)) (g:MG) (it2:MI) (g2:MG) (c:MT) (e:ME):List R->Rho->List T->Option (List T×Rho)
 | [],ρ,acc=>some (acc,ρ)
 | r::rs,ρ,acc=>match g.run (hC (piF fr) r) (inR fr ρ)with
  | some ρ1=>(match it2.run ρ1 with
   | some ((srcs2,items2),ρ2)=>if(db fr2 ρ2.length&&(decide (srcs2.length=1)&&srcs2.all (au (muF fr2 (g2.mu++(c.mu++e.mu)))))&&decide (acc.length+items2.length<sizeLine))=true then(match bm fr2 (g2.mu++(c.mu++e.mu)) g2 c e items2 ρ2 acc with
    | some (ts,ρ3)=>bR fr fr2 g it2 g2 c e rs (cI fr (g.mu++(it2.mu++muF fr2 (g2.mu++(c.mu++e.mu)))) ρ3 ρ) ts
    | none=>none)else none
   | none=>none)
  | none=>none
@[irreducible] noncomputable def ir (fr fr2:List (Option Nat))(it:MI)(g:MG)(it2:MI)(g2:MG)(c:MT)(e:ME):ME:=⟨λρ=>match it.run ρ with
 | some ((srcs,items),ρ1)=>if(db fr ρ1.length&&cY (g.mu++(it2.mu++muF fr2 (g2.mu++(c.mu++e.mu)))) fr.length&&cY (g2.mu++(c.mu++e.mu)) fr2.length&&(decide (srcs.length=1)&&srcs.all (au (muF fr (g.mu++(it2.mu++muF fr2 (g2.mu++(c.mu++e.mu))))))))=true then(match bR fr fr2 g it2 g2 c e items ρ1 []with
  | some (ts,ρ2)=>if ts.length<sizeLine then some (⟨.ow,bE ts⟩,ρ2)else none
  | none=>none)else none
 | none=>none,it.mu++muF fr (g.mu++(it2.mu++muF fr2 (g2.mu++(c.mu++e.mu))))⟩
theorem fE {fr:List (Option Nat)}{M:List Nat}{g:MG}{c:MT}{e:ME}:∀{items:List R} {ρ:Rho} {acc ts:List T} {ρ':Rho},bm fr M g c e items ρ acc=some (ts,ρ')->acc.length<=ts.length
 | [],ρ,acc,ts,ρ',h=>by cases h;exact DK _
 | r::rs,ρ,acc,ts,ρ',h=>by
  rw[bm]at h
  split at h
  ·split at h
   ·split at h
    ·have:=fE h;simp at this;omega
    ·cases h
   ·exact fE h
   ·cases h
  ·cases h
theorem gM {fr fr2:List (Option Nat)}{g:MG}{it2:MI}{g2:MG}{c:MT}{e:ME}:∀{items:List R} {ρ:Rho} {acc ts:List T} {ρ':Rho},bR fr fr2 g it2 g2 c e items ρ acc=some (ts,ρ')->acc.length<=ts.length
 | [],ρ,acc,ts,ρ',h=>by cases h;exact DK _
 | r::rs,ρ,acc,ts,ρ',h=>by
  rw[bR]at h
  split at h
  ·split at h
   ·split at h
    ·split at h
     ·rename_i e1;exact Ek (fE e1) (gM h)
     ·cases h
    ·cases h
   ·cases h
  ·cases h
theorem qA {wi wi2:TI}{fr fr2:List (Option Nat)}{g g2:TG}{tc:TT}{te:TE}{it it2:MI}{mg mg2:MG}{c:MT}{e:ME}(hi:jc K wi it)(hgk:dy fr g)(hg:iU K g mg)(hi2:jc K wi2 it2)(hgk2:dy fr2 g2)(hg2:iU K g2 mg2)(hc:eA K tc c)(he:aU K te e):aU K (uv wi fr g wi2 fr2 g2 tc te) (ir fr fr2 it mg it2 mg2 c e):=by
 intro Γ H ρ Z E Q r ρ' hK hr S q
 simp only[ir]at hr q
 split at hr
 ·rename_i srcs items ρ1 e1
  split at hr
  ·rename_i hb
   simp only[DD,decide_eq_true_eq]at hb
   obtain⟨⟨⟨b1,b2⟩,b3⟩,b5,b4⟩:=hb
   obtain⟨src,rfl⟩:=Fb.mp b5
   rw[EM,FF,FR]at b4
   split at hr
   ·rename_i tsF ρF e2
    split at hr
    ·rename_i hz
     cases hr
     refine hi Γ H ρ Z E _ [src] items ρ1 hK e1 S λJ vs H1 hlv S1 wk=>?_
     obtain⟨v,rfl⟩:=Fb.mp hlv
     replace S1:Sim Γ H1 ρ1 Z (⟨none,v,src⟩::af it.mu E):=S1
     rw[←ag]at q
     generalize hM2:mg2.mu++(c.mu++e.mu)=M2 at *
     generalize hM:mg.mu++(it2.mu++muF fr2 M2)=M at *
     generalize af it.mu E=E1 at q S1
     have ks:aE (muF fr M) ⟨none,v,src⟩=true:=b4
     have S2:=S1.weak (muF fr M)
     rw[av ks]at S2
     have kE:=cG (M:=muF fr M) (N:=muF fr M) (λj hj=>hj) E1
     generalize af (muF fr M) E1=E2 at q S2 kE
     have kE2:∀acc ts,af (muF fr M) (⟨none,v,src⟩::(ay acc ts++E2))=⟨none,v,src⟩::(ay acc ts++E2):=λacc ts=>by rw[av ks,aD,dz,kE]
     refine⟨λi m acc H=>m=items.length-i/\i<=items.length/\∃ρ2 ts,bR fr fr2 mg it2 mg2 c e (items.drop i) ρ2 ts=some (tsF,ρ')/\acc.length=ts.length/\ρ2.length=ρ1.length/\Sim Γ H ρ2 Z (⟨none,v,src⟩::(ay acc ts++E2)),⟨items.length,by simp,EX _,ρ1,[],by simpa using e2,rfl,rfl,S2⟩,?_⟩
     rintro i m acc H2 ⟨rfl,hil,ρ2,ts,h1,hl,hρ,S3⟩
     have:=gM h1
     refine⟨by omega,?_⟩
     obtain⟨w1,w2⟩:=wk H2 ρ2 Z _ S3
     by_cases hlt:i<items.length
     ·have hx:items[i]?=some items[i]:=by simp[hlt]
      obtain⟨w3,w4⟩:=w2 i _ hx
      rw[EK hlt,bR]at h1
      refine .inr ⟨w3,λacc' H'=>∃ρ2 ts,bR fr fr2 mg it2 mg2 c e (items.drop (i+1)) ρ2 ts=some (tsF,ρ')/\acc'.length=ts.length/\ρ2.length=ρ1.length/\Sim Γ H' ρ2 Z (⟨none,v,src⟩::(ay acc' ts++E2)),λacc' H' ⟨ρ3,ts3,h3,hl3,hρ3,S3⟩=>⟨items.length-(i+1),by omega,rfl,hlt,ρ3,ts3,h3,hl3,hρ3,S3⟩,λx H3 y=>?_⟩
      have S4:Sim Γ H3 ρ2 Z (⟨none,x,items[i]⟩::⟨none,v,src⟩::(ay acc ts++E2)):=w4 x H3 y
      have hf1:db fr ρ2.length=true:=by rw[hρ];exact b1
      have S5:=S4.inn hf1
      rw[eM]at S5
      split at h1
      ·rename_i ρ3 e3
       refine hgk x (aT fr Z) H3 (λZ2 H4=>Kp fr (aT fr Z) Z2->_) _ (λZ2 H4 z kp=>z kp) ?_
       refine hg Γ H3 (inR fr ρ2) (aT fr Z) _ _ x _ ρ3 hK e3 S5 λZ2 H4 S6 kp=>?_
       split at h1
       ·rename_i srcs2 items2 ρ4 e4
        split at h1
        ·rename_i hb2
         rw[hM2]at hb2
         simp only[DD,decide_eq_true_eq]at hb2
         obtain⟨⟨c1,c4,c2⟩,c3⟩:=hb2
         obtain⟨src2,rfl⟩:=Fb.mp c4
         rw[EM,FF,FR]at c2
         split at h1
         ·rename_i ts3 ρ5 e5
          rw[hM2]at e5 h1
          refine hi2 Γ H4 ρ3 Z2 _ _ [src2] items2 ρ4 hK e4 S6 λJ2 vs2 H5 hlv2 S7 wk2=>?_
          obtain⟨v2,rfl⟩:=Fb.mp hlv2
          rw[show ens [v2] [src2]=[⟨none,v2,src2⟩]from rfl,List.singleton_append]at S7
          rw[ag]at S7
          have ks2:aE (muF fr2 M2) ⟨none,v2,src2⟩=true:=c2
          have eo:af (mg.mu++it2.mu) (cO fr Z ρ2 (⟨none,v,src⟩::(ay acc ts++E2)))=af (mg.mu++it2.mu) (bq (piF fr) ⟨none,v,src⟩::(ay acc ts++cO fr Z ρ2 E2)):=by
           congr 1
           rw[eM]
           congr 1
           unfold cO
           rw[DU,DP]
           congr 1
           have:∀{vs:List V} {ts:List T},(ay vs ts).map (bq (piF fr))=ay vs ts:=by
            intro vs
            induction vs with
            | nil=>intro ts;cases ts<;>rfl
            | cons a vs ih=>
             intro ts
             cases ts with
             | nil=>rfl
             | cons b ts=>rw[ay,DJ,ih];rfl
           exact this
          have S8:=S7.weak (muF fr2 M2)
          rw[av ks2,eo,ag]at S8
          have pm:(⟨none,v2,src2⟩::af (mg.mu++it2.mu++muF fr2 M2) (bq (piF fr) ⟨none,v,src⟩::(ay acc ts++cO fr Z ρ2 E2))).Perm (⟨none,v2,src2⟩::(ay acc ts++af (mg.mu++it2.mu++muF fr2 M2) (bq (piF fr) ⟨none,v,src⟩::cO fr Z ρ2 E2))):=by
           refine List.Perm.cons _ ?_
           have e9:af (mg.mu++it2.mu++muF fr2 M2) (ay acc ts++(bq (piF fr) ⟨none,v,src⟩::cO fr Z ρ2 E2))=ay acc ts++af (mg.mu++it2.mu++muF fr2 M2) (bq (piF fr) ⟨none,v,src⟩::cO fr Z ρ2 E2):=by rw[aD,dz]
           rw[←e9]
           exact List.Perm.filter _ Ea.symm
          have S9:=S8.perm pm
          have kE9:=cG (M:=mg.mu++it2.mu++muF fr2 M2) (N:=muF fr2 M2) (λj hj=>yaR _ hj) (bq (piF fr) ⟨none,v,src⟩::cO fr Z ρ2 E2)
          refine ka (H:=H5) (ρ:=ρ4) (Z:=Z2) (E2:=af (mg.mu++it2.mu++muF fr2 M2) (bq (piF fr) ⟨none,v,src⟩::cO fr Z ρ2 E2)) (acc0:=acc) (ts0:=ts) hK wk2 hgk2 hg2 hc he hM2.symm (jB b3) (λe' he'=>by rcases ysM he' with rfl;exact ks2) kE9 hl (by rw[hl];exact c3) c1 S9 e5 λacc' H6 hl' _ hρ5 S10=>?_
          refine⟨_,ts3,h1,hl',by rw[jJ,hρ],?_⟩
          have S11:=S10.drop rfl
          have em:mg.mu++it2.mu++muF fr2 M2=M:=by rw[←hM,DU]
          have pm2:(ay acc' ts3++af (mg.mu++it2.mu++muF fr2 M2) (bq (piF fr) ⟨none,v,src⟩::cO fr Z ρ2 E2)).Perm (af M (cO fr Z ρ2 (⟨none,v,src⟩::(ay acc' ts3++E2)))):=by
           have e10:cO fr Z ρ2 (⟨none,v,src⟩::(ay acc' ts3++E2))=bq (piF fr) ⟨none,v,src⟩::(ay acc' ts3++cO fr Z ρ2 E2):=by
            rw[eM]
            congr 1
            unfold cO
            rw[DU,DP]
            congr 1
            have:∀{vs:List V} {ts:List T},(ay vs ts).map (bq (piF fr))=ay vs ts:=by
             intro vs
             induction vs with
             | nil=>intro ts;cases ts<;>rfl
             | cons a vs ih=>
              intro ts
              cases ts with
              | nil=>rfl
              | cons b ts=>rw[ay,DJ,ih];rfl
            exact this
           rw[em,e10]
           have e11:af M (ay acc' ts3++(bq (piF fr) ⟨none,v,src⟩::cO fr Z ρ2 E2))=ay acc' ts3++af M (bq (piF fr) ⟨none,v,src⟩::cO fr Z ρ2 E2):=by rw[aD,dz]
           rw[←e11]
           exact List.Perm.filter _ Ea
          have S12:=S11.perm pm2
          have hl5 : ρ5.length=fr.length:=by rw[←S12.len,kp.1,bS]
          have tk:∀{vs:List V} {ts:List T} {e':En},e'∈ay vs ts->e'.key=none:=by
           intro vs
           induction vs with
           | nil=>intro ts e' h;cases ts<;>cases h
           | cons a vs ih=>
            intro ts e' h
            cases ts with
            | nil=>cases h
            | cons b ts=>
             rcases ycM h with rfl|h
             ·rfl
             ·exact ih h
          have S13:=S12.outt hf1 (jB b2) hl5 kp S3.al S3.len (λe' he' j hj=>by
           rcases ycM he' with rfl|he'
           ·cases hj
           ·rcases yaM he' with he'|he'
            ·rw[tk he']at hj;cases hj
            ·exact S3.hi e' (ymC _ (yaR _ he')) j hj)
          rw[kE2]at S13
          rw[hM]
          exact S13
         ·cases h1
        ·cases h1
       ·cases h1
      ·cases h1
     ·have ei:i=items.length:=by omega
      subst ei
      rw[Fu,bR]at h1
      cases h1
      exact .inl ⟨w1 _ (DK _),λd hd=>q _ _ ((S3.drop rfl).mkL hl hd)⟩
    ·cases hr
   ·cases hr
  ·cases hr
 ·cases hr
end
section
variable  {Γ:Gm}{H H':Hp}{L:List Hd}{ρ:Rho}{Z:St}{E X:List En}{v w x y:V}{t s:T}{K:yF}{Q:VK}
theorem GW.stepN {hs ns:List Hd}(G:GW Γ H (hs++L))(ho:∀h∈hs,h.e.r.k.isOw=true)(hr:∀g∈L,∀h∈hs,∀j,h.e.key=some j->g.e.r.k.root≠some j)
  (off:OffM (hs.flatMap (·.F)) H H') (dom:∀a∈hs.flatMap (·.F),∃o,H' a=some o) (nd:(ns.flatMap (·.F)).Nodup) (hF:∀a∈ns.flatMap (·.F),(a∈hs.flatMap (·.F)∨H a=none)/\Mu H' a) (hp:∀n∈ns,Rp Γ.K H' n.e.r.t n.e.v n.F)
  (hk:∀n∈ns,(n.e.r.k=.ow/\∀a∈n.F,H a=none ∨ ∃h∈hs,h.e.r.k=.ow/\a∈h.F) ∨ ∃k,n.e.r.k=.io k/\Γ.iov[k]?=some n.e.v) (hkey:((ns++L).filterMap λh=>h.e.key).Nodup):GW Γ H' (ns++L):=by
 have iow:∀n∈ns,n.e.r.k.isOw=true:=λn hn=>by rcases hk n hn with⟨e,_⟩|⟨k,e,_⟩<;>rw[e]<;>rfl
 have eo:=fL ho
 have en:=fL iow
 have G':=G.nd
 rw[DO,eo]at G'
 have nd1:=(DF.mp G').2.1
 have dj:=(DF.mp G').2.2
 have adL:∀a∈L.flatMap Hd.own,Mu H a/\(Γ.H0 a=none∨a ∈ Γ.io):=λa ha=>G.ad a (by rw[DO];exact yaR _ ha)
 have adM:∀a∈hs.flatMap (·.F),Mu H a/\(Γ.H0 a=none∨a ∈ Γ.io):=λa ha=>G.ad a (by rw[DO,eo];exact yaL _ ha)
 have ap:=G.apart hr ho
 have apM:∀g∈L,∀a∈g.F,a∉hs.flatMap (·.F):=λg hg a ha hm=>by
  obtain⟨h,hh,hah⟩:=Eu.mp hm
  exact ap g hg a ha h hh hah
 refine⟨?_,λa ha=>?_,λx hx=>?_,λx hx=>?_,hkey,λb o e n=>?_,λa ha=>?_⟩
 ·rw[DO,en]
  refine DF.mpr ⟨nd,nd1,λa ha b hb=>?_⟩
  rintro rfl
  rcases(hF a ha).1 with z|z
  ·exact dj a z a hb rfl
  ·obtain⟨o,e,_⟩:=(adL a hb).1
   rw[z]at e;cases e
 ·rw[DO,en]at ha
  rcases yaM ha with ha|ha
  ·refine⟨(hF a ha).2,?_⟩
   rcases(hF a ha).1 with z|z
   ·exact(adM a z).2
   ·exact .inl (G.new0 z)
  ·obtain⟨⟨o,e,m⟩,z⟩:=adL a ha
   exact⟨⟨o,off a o e λhm=>dj a hm a ha rfl,m⟩,z⟩
 ·rcases yaM hx with hx|hx
  ·exact hp x hx
  ·exact(G.rp x (yaR _ hx)).off off (λa ha=>(adM a ha).1) (apM x hx)
 ·rcases yaM hx with hx|hx
  ·unfold KdOk
   rcases hk x hx with⟨e,eh⟩|⟨k,e,ek⟩
   ·simp only[e]
    intro a ha
    rcases eh a ha with z|⟨h,hh,he,hah⟩
    ·exact G.new0 z
    ·have q:=G.kd h (yaL _ hh)
     unfold KdOk at q
     rw[he]at q
     exact q a hah
   ·simp only[e];exact ek
  ·have k:=G.kd x (yaR _ hx)
   have st:∀a∈x.F,a∉(hs++L).flatMap Hd.own->a∉(ns++L).flatMap Hd.own:=λa ha n z=>by
    rw[DO,en]at z
    rcases yaM z with z|z
    ·rcases(hF a z).1 with w|w
     ·exact n (by rw[DO,eo];exact yaL _ w)
     ·obtain⟨o,e⟩:=(G.rp x (yaR _ hx)).dom a ha
      rw[w]at e;cases e
    ·exact n (by rw[DO];exact yaR _ z)
   unfold KdOk at k⊢
   split at k
   ·exact k
   ·exact k
   ·exact λa ha=>st a ha (k a ha)
   ·rename_i j p e
    obtain⟨g,h1,h2,h3,h4,h5⟩:=k
    rcases yaM h1 with hg|hg
    ·exact absurd (by rw[e];rfl) (hr x hx g hg j h2)
    ·refine⟨g,yaR _ hg,h2,h3,λa ha=>(h4 a ha).imp id (st a ha),λq hq=>⟨(h5 q hq).1,?_⟩⟩
     exact kX off (F:=g.F) (apM g hg) (G.muF (yaR _ hg) h3) (λa ha=>ha) (G.ndF (yaR _ hg) h3) (G.rp g (yaR _ hg)) (h5 q hq).1 (h5 q hq).2
 ·refine off b o (G.fr b o e n) λhm=>?_
  rcases(adM b hm).2 with z|z
  ·rw[z]at e;cases e
  ·exact n z
 ·obtain⟨o,e⟩:=G.iol a ha
  by_cases hm:a∈hs.flatMap (·.F)
  ·exact dom a hm
  ·exact⟨o,off a o e hm⟩
theorem GW.uniq (g:GW Γ H L){x z:Hd}{i:Nat}(x1:x∈L)(hz:z∈L)(x2:x.e.key=some i)(z2:z.e.key=some i):x=z:=by
 have nk:=g.ks
 by_cases q:x=z
 ·exact q
 ·exfalso
  obtain⟨A,B,rfl⟩:=Fo x1
  rw[DY,DZ,x2]at nk
  rcases yaM hz with hz|hz
  ·exact(DF.mp nk).2.2 i (Ef.mpr ⟨z,hz,z2⟩) i ymS rfl
  ·rcases ycM hz with hz|hz
   ·exact q hz.symm
   ·exact(D9.mp (DF.mp nk).2.1).1 (Ef.mpr ⟨z,hz,z2⟩)
theorem Sim.place {i:Nat}{p:List Ac}{r:R}{v0:V}(S:Sim Γ H ρ Z E)(he:(⟨none,w,⟨.vw (some i) (some p),s⟩⟩:En)∈E)(h : ρ[i]?=some (some r))(hv:Z[i]?=some (some v0)):r.t.sub p=some s/\atP Γ.K H v0 p w:=by
 obtain⟨v1,hv1,hm⟩:=S.slot h
 rw[hv]at hv1;cases hv1
 obtain⟨L,g,e⟩:=S.sl
 have h1:(⟨none,w,⟨.vw (some i) (some p),s⟩⟩:En)∈L.map (·.e):=by rw[e];exact yaL _ he
 obtain⟨y,hy,ey⟩:=DM.mp h1
 have kd:=g.kd y hy
 unfold KdOk at kd
 rw[ey]at kd
 obtain⟨x,x1,x2,x3,x4,x5⟩:=kd
 have hm':(⟨some i,v0,r⟩:En)∈L.map (·.e):=by rw[e];exact hm
 obtain⟨z,hz,ez⟩:=DM.mp hm'
 have:=g.uniq x1 hz x2 (by rw[ez])
 subst this
 have:=x5 p rfl
 rw[ez]at this
 exact this
theorem SimL.dropsN:∀{A X:List En},SimL Γ H (A++X)->(∀e∈A,e.key=none)->SimL Γ H X
 | [],_,S,_=>S
 | a::A,X,S,h=>SimL.dropsN (SimL.drop S (h a ymS)) λe he=>h e (ymC _ he)
theorem lc:∀{vs:List V} {rs:List R} {m:Nat} {r:R} {x:V},rs[m]?=some r->vs[m]?=some x->(⟨none,x,r⟩:En)∈ens vs rs
 | [],_,m,_,_,_,h=>by simp at h
 | _::_,[],m,_,_,h,_=>by simp at h
 | v::vs,r0::rs,0,r,x,h1,h2=>by simp at h1 h2;subst h1 h2;exact ymS
 | v::vs,r0::rs,m+1,r,x,h1,h2=>ymC _ (lc (by simpa using h1) (by simpa using h2))
theorem oJ:∀{vs:List V} {rs:List R} {e:En},e∈ens vs rs->e.key=none
 | [],rs,e,h=>by cases rs<;>cases h
 | _::_,[],e,h=>by cases h
 | v::vs,r::rs,e,h=>by
  rcases ycM h with rfl|h
  ·rfl
  ·exact oJ h
theorem Sim.io {vs:List V}{rs:List R}{k i:Nat}{p:List Ac}{kd:Kd}{t0:T}(S:Sim Γ H ρ Z (ens vs rs++E))(hk:rs[k]?=some ⟨.vw (some i) (some p),s⟩)(hw:vs[k]?=some w)(hal:∀m r,m≠k->rs[m]?=some r->au [i] r=true)(h : ρ[i]?=some (some ⟨kd,t0⟩))(ho:kd.isOw=true) :
  ∃G,Rp Γ.K H s w G/\G.Nodup/\(∀a∈G,Mu H a)/\(∀m r x,m≠k->rs[m]?=some r->vs[m]?=some x->∃F,Rp Γ.K H r.t x F/\∀a∈F,a∉G) ∧
  ∀H' s' v t F G',OffM G H H'->(∀a∈G,∃o,H' a=some o)->(F++G').Nodup->(∀a∈F,H a=none/\Mu H' a)->(∀a∈G',(a∈G∨H a=none)/\Mu H' a)->Rp Γ.K H' s' w G'->Rp Γ.K H' t v F->Sim Γ H' ((aq [i] ρ).set i (some ⟨kd,t0.put p s'⟩)) Z (⟨none,v,⟨.ow,t⟩⟩::af [i] E):=by
 have hil:i < ρ.length:=(DB.mp h).1
 obtain⟨v0,hv0,h1,h2,h3⟩:=S.out h ho
 have pl:=S.place (yaL _ (lc hk hw)) h hv0
 obtain⟨L,g,eL⟩:=h1
 obtain⟨x,L',rfl,ex,eL'⟩:=aF eL
 have hox:x.e.r.k.isOw=true:=by rw[ex];exact ho
 have nx:=g.ndF ymS hox
 have mx:=g.muF ymS hox
 have hsub:x.e.r.t.sub p=some s:=by rw[ex];exact pl.1
 obtain⟨w',A,G,B,z1,z2,z3,z4⟩:=(g.rp x ymS).atP mx nx hsub
 have ew:w'=w:=by rw[ex]at z1;exact gL z1 pl.2
 subst ew
 have inG:∀a∈G,a∈x.F:=λa ha=>by rw[z3];exact yaL _ (yaR _ ha)
 have ndx:=nx
 rw[z3]at ndx
 have ndA:=DF.mp ndx
 have ndG:=DF.mp ndA.1
 have keyL:∀g∈L',g.e.key≠some i:=λy hy=>h3 y.e (by rw[←eL'];exact Eb hy)
 have rootL:∀g∈L',g.e.r.k.root≠some i:=λy hy=>h2 y.e (by rw[←eL'];exact Eb hy)
 have ap:=GW.apart (hs:=[x]) (L:=L') g (λy hy z hz j hj=>by rw[ysM hz,ex]at hj;cases hj;exact rootL y hy) (λz hz=>by rw[ysM hz];exact hox)
 refine⟨G,z2,ndG.2.1,λa ha=>mx a (inG a ha),λm r y hm hr hy=>?_,λH' s' v t F G' off dom nd hF hG rp' rpt=>?_⟩
 ·have hmem:(⟨none,y,r⟩:En)∈af [i] (ens vs rs++E):=DR.mpr ⟨yaL _ (lc hr hy),hal m r hm hr⟩
  have hmem2:(⟨none,y,r⟩:En)∈L'.map (·.e):=by rw[eL'];exact yaL _ hmem
  obtain⟨z,hz,ez⟩:=DM.mp hmem2
  have rz:=g.rp z (ymC _ hz)
  rw[ez]at rz
  exact⟨z.F,rz,λa ha hg=>ap z hz a ha x ymS (inG a hg)⟩
 ·have apAB:∀a,(a∈A∨a∈B)->a∉G:=λa ha hm=>by
   rcases ha with q|q
   ·exact ndG.2.2 a q a hm rfl
   ·exact ndA.2.2 a (yaR _ hm) a q rfl
  have inAB:∀a,(a∈A∨a∈B)->a∈x.F:=λa ha=>by
   rw[z3]
   rcases ha with q|q
   ·exact yaL _ (yaL _ q)
   ·exact yaR _ q
  have rp2:=z4 H' s' G' off rp'
  have nFG:=DF.mp nd
  have oldAB:∀a,(a∈A∨a∈B)->H a≠none:=λa ha z=>by obtain⟨o,e1,_⟩:=mx a (inAB a ha);rw[z]at e1;cases e1
  have nG':∀a,(a∈A∨a∈B)->a∉G':=λa ha hg=>by
   rcases(hG a hg).1 with z|z
   ·exact apAB a ha z
   ·exact oldAB a ha z
  have ndR:(A++G'++B).Nodup:=by
   refine DF.mpr ⟨DF.mpr ⟨ndG.1,nFG.2.1,λa ha b hb e=>nG' a (.inl ha) (e▸hb)⟩,ndA.2.1,λa ha b hb e=>?_⟩
   subst e
   rcases yaM ha with z|z
   ·exact ndA.2.2 a (yaL _ z) a hb rfl
   ·exact nG' a (.inr hb) z
  have memR:∀a∈A++G'++B,(a∈x.F∨H a=none)/\Mu H' a:=λa ha=>by
   have old:a∈A∨a∈B->(a∈x.F∨H a=none)/\Mu H' a:=λq=>by
    obtain⟨o,e1,m1⟩:=mx a (inAB a q)
    exact⟨.inl (inAB a q),o,off a o e1 (apAB a q),m1⟩
   rcases yaM ha with z|z
   ·rcases yaM z with z|z
    ·exact old (.inl z)
    ·exact⟨(hG a z).1.imp (inG a) id,(hG a z).2⟩
   ·exact old (.inr z)
  have st:=GW.stepN (hs:=[x]) (L:=L') (H':=H') (ns:=[⟨⟨none,v,⟨.ow,t⟩⟩,F⟩,⟨⟨some i,v0,⟨kd,t0.put p s'⟩⟩,A++G'++B⟩]) g (λz hz=>by rw[ysM hz];exact hox) (λy hy z hz j hj=>by rw[ysM hz,ex]at hj;cases hj;exact rootL y hy)
   (by simpa using off.mono inG) (λa ha=>by
    have ha':a∈x.F:=by simpa using ha
    by_cases hg:a∈G
    ·exact dom a hg
    ·obtain⟨o,e1,_⟩:=mx a ha';exact⟨o,off a o e1 hg⟩)
   (by
    simp only[DL,Fv,D0]
    refine DF.mpr ⟨nFG.1,ndR,λa ha b hb e=>?_⟩
    subst e
    rcases yaM hb with z|z
    ·rcases yaM z with z|z
     ·exact oldAB a (.inl z) (hF a ha).1
     ·exact nFG.2.2 a ha a z rfl
    ·exact oldAB a (.inr z) (hF a ha).1)
   (λa ha=>by
    simp only[DL,Fv,D0]at ha⊢
    rcases yaM ha with z|z
    ·exact⟨.inr (hF a z).1,(hF a z).2⟩
    ·exact memR a z)
   (λn hn=>by
    rcases ycM hn with rfl|hn
    ·exact rpt
    ·rw[ysM hn];rw[ex]at rp2;exact rp2)
   (λn hn=>by
    rcases ycM hn with rfl|hn
    ·exact .inl ⟨rfl,λa ha=>.inl (hF a ha).1⟩
    ·rw[ysM hn]
     have kx:=g.kd x ymS
     unfold KdOk at kx
     rw[ex]at kx
     cases kd with
     | ow=>exact .inl ⟨rfl,λa ha=>(memR a ha).1.elim (λz=>.inr ⟨x,ymS,by rw[ex],z⟩) .inl⟩
     | io n=>exact .inr ⟨n,rfl,kx⟩
     | vw a b=>cases ho)
   (by
    have ks:=g.ks
    rw[DZ,ex]at ks
    exact ks)
  have S2:=S.kill [i]
  have SL:SimL Γ H' (⟨none,v,⟨.ow,t⟩⟩::⟨some i,v0,⟨kd,t0.put p s'⟩⟩::(af [i] (ens vs rs++E)++aA 0 Z ((aq [i] ρ).set i none))):=⟨_,st,by rw[DP,eL'];rfl⟩
  have SL2:SimL Γ H' (⟨none,v,⟨.ow,t⟩⟩::⟨some i,v0,⟨kd,t0.put p s'⟩⟩::(af [i] E++aA 0 Z ((aq [i] ρ).set i none))):=by
   rw[aD,DU]at SL
   have pp:(⟨none,v,⟨.ow,t⟩⟩::⟨some i,v0,⟨kd,t0.put p s'⟩⟩::(af [i] (ens vs rs)++(af [i] E++aA 0 Z ((aq [i] ρ).set i none)))).Perm (af [i] (ens vs rs)++(⟨none,v,⟨.ow,t⟩⟩::⟨some i,v0,⟨kd,t0.put p s'⟩⟩::(af [i] E++aA 0 Z ((aq [i] ρ).set i none)))):=by
    refine List.Perm.trans ?_ (Ea.symm)
    refine List.Perm.cons _ ?_
    exact Ea.symm
   exact(SL.perm pp).dropsN λe he=>oJ (DR.mp he).1
  refine S2.back (E':=⟨none,v,⟨.ow,t⟩⟩::af [i] E) (SL2.perm ?_) (by simp[aI]) rfl (λm r' hm=>?_) (λe he j hj=>?_)
  ·have pq:=(fF (k:=0) (Z:=Z) (ρ:=aq [i] ρ) (v:=v0) (r:=⟨kd,t0.put p s'⟩) (by rw[S.len];exact hil) (by rw[aI];exact hil)).append_left (af [i] E)
   rw[Eo]at pq
   have eZ:Z.set i (some v0)=Z:=by
    apply E4
    intro m
    by_cases hm:m=i
    ·subst hm;rw[hv0];simp[S.len,hil]
    ·rw[DW (Ne.symm hm)]
   rw[eZ]at pq
   rw[D8]
   exact List.Perm.cons _ ((Ea.symm).trans pq.symm)
  ·by_cases e:m=i
   ·subst e;exact⟨v0,hv0⟩
   ·rw[DW (Ne.symm e)]at hm;exact S2.al m r' hm
  ·rcases ycM he with rfl|he
   ·cases hj
   ·rw[aD];exact yaR _ he
def spP (K:yF)(run:List T->Option T):Sp:=λvs H Q _=>∃ts t,Rpxs K H ts vs/\run ts=some t/\∀v H',New K H H' t v->Q v H'
def spI (K:yF)(k:Nat)(run:List T->Option (T×T)):Sp:=λvs H Q _=>∃ts s w G t s',vs.length=ts.length/\vs[k]?=some w/\ts[k]?=some s/\Rp K H s w G/\G.Nodup/\(∀a∈G,Mu H a)/\(∀(m:Nat) x u,m≠k->vs[m]?=some x->ts[m]?=some u->∃F,Rp K H u x F/\∀a∈F,a∉G)/\run ts=some (t,s') ∧
 ∀v H' F G',OffM G H H'->(∀a∈G,∃o,H' a=some o)->(F++G').Nodup->(∀a∈F,H a=none/\Mu H' a)->(∀a∈G',(a∈G∨H a=none)/\Mu H' a)->Rp K H' s' w G'->Rp K H' t v F->Q v H'
theorem qz {run:List T->Option T}{ta:TA}{a:MA}(ha:fv K ta a):aU K (kM (spP K run) [] E0 ta) (mB run a):=by
 have e:kM (spP K run) [] E0 ta=tCB (λvs H Q=>spP K run vs H Q E0) ta:=by
  funext Z H Q
  show(ta Z H λvs H1=>spP K run (vs++[]) H1 Q E0)=_
  simp only[D0]
  rfl
 rw[e]
 exact tN (λH vs ts t Q r e q=>⟨ts,t,r,e,q⟩) ha
@[irreducible] noncomputable def ak (k j:Nat)(run:List T->Option (T×T))(a:MA):ME:=⟨λρ=>match a.run ρ with
 | some (rs,ρ1)=>(match rs[k]? with
  | some ⟨.vw (some i) (some p),_⟩=>if(decide (i=j)&&(Ee rs.length).all λm=>decide (m=k)||au [j] (rs.getD m ⟨.ow,.im .non⟩))=true then(match run (rs.map (·.t))with
   | some (t,s')=>(match ρ1[j]? with
    | some (some ⟨kd,t0⟩)=>if kd.isOw=true then some (⟨.ow,t⟩,(aq [j] ρ1).set j (some ⟨kd,t0.put p s'⟩))else none
    | _=>none)
   | none=>none)else none
  | _=>none)
 | none=>none,a.mu++[j]⟩
theorem qx {k j:Nat}{run:List T->Option (T×T)}{ta:TA}{a:MA}(ha:fv K ta a):aU K (kM (spI K k run) [] E0 ta) (ak k j run a):=by
 intro Γ H ρ Z E Q r ρ' hK hr S q
 show ta Z H λvs H1=>spI K k run (vs++[]) H1 Q E0
 simp only[D0]
 simp only[ak]at hr q
 split at hr
 ·rename_i rs ρ1 e1
  split at hr
  ·rename_i i p s e2
   split at hr
   ·rename_i hb
    rw[DD,decide_eq_true_eq]at hb
    obtain⟨rfl,hal⟩:=hb
    split at hr
    ·rename_i t s' e3
     split at hr
     ·rename_i kd t0 e4
      split at hr
      ·rename_i ho
       cases hr
       refine ha Γ H ρ Z E _ rs ρ1 hK e1 S λvs H1 hl S1=>?_
       have hkl:k<rs.length:=(DB.mp e2).1
       obtain⟨w,hw⟩:∃w,vs[k]?=some w:=⟨vs[k],by simp[hl,hkl]⟩
       have hal':∀m r,m≠k->rs[m]?=some r->au [i] r=true:=λm r hm hr=>by
        have hml:=(DB.mp hr).1
        have:=Et.mp hal m (EN.mpr hml)
        rw[D4,hr]at this
        simpa[hm]using this
       obtain⟨G,g1,g2,g3,g4,g5⟩:=S1.io e2 hw hal' e4 ho
       rw[hK]at g1
       refine⟨rs.map (·.t),s,w,G,t,s',by rw[DH,hl],hw,by rw[DG,e2];rfl,g1,g2,g3,λm x u hm hx hu=>?_,e3,λv H' F G' a1 a2 a3 a4 a5 a6 a7=>q v H' ?_⟩
       ·rw[DG]at hu
        cases hr:rs[m]? with
        | none=>rw[hr]at hu;cases hu
        | some r=>
         rw[hr]at hu;cases hu
         have:=g4 m r x hm hr hx
         rw[hK]at this
         exact this
       ·rw[←hK]at a6 a7
        have:=g5 H' s' v t F G' a1 a2 a3 a4 a5 a6 a7
        rw[ag]at this
        exact this
      ·cases hr
     ·cases hr
    ·cases hr
   ·cases hr
  ·cases hr
 ·cases hr
noncomputable def roR:T->R
 | .im i=>⟨.ow,.im i⟩
 | t=>⟨.vw none none,t⟩
noncomputable def cJ (ts:List T) (n:Nat):Rho:=(ts.map λt=>some (roR t))++DE (n-ts.length) none
theorem gt:∀(k n m:Nat),aA k (DE n none) (DE m none)=[]
 | _,0,_=>rfl
 | _,n+1,0=>rfl
 | k,n+1,m+1=>by simp only[Eh,aA];exact gt (k+1) n m
theorem o8 {H0:Hp}{io:List Addr}{iov:List V}(n m:Nat):∀{ts:List T} {vs:List V} {k:Nat},Rpxs K H ts vs->∃L:List Hd,L.map (·.e)=aA k (vs.map some++DE n none) ((ts.map λt=>some (roR t))++DE m none)/\L.flatMap Hd.own=[]/\(∀h∈L,Rp K H h.e.r.t h.e.v h.F)/\(∀h∈L,(h.e.r.k=.ow/\h.F=[])∨h.e.r.k=.vw none none)
 | [],vs,k,r=>by
  rw[Rpxs]at r;subst r
  exact⟨[],by simp[gt],rfl,by simp,by simp⟩
 | t::ts,vs,k,r=>by
  obtain⟨v,vr,rfl,⟨F,r1⟩,r2⟩:=r
  obtain⟨L,h1,h2,h3,h4⟩:=o8 (H0:=H0) (io:=io) (iov:=iov) n m (k:=k+1) r2
  have hroR:∃F',Rp K H (roR t).t v F'/\(((roR t).k=.ow/\F'=[])∨(roR t).k=.vw none none):=by
   cases t with
   | im i=>exact⟨[],fN (bj r1).1,.inl ⟨rfl,rfl⟩⟩
   | _=>exact⟨F,r1,.inr rfl⟩
  obtain⟨F',g1,g2⟩:=hroR
  refine⟨⟨⟨some k,v,roR t⟩,F'⟩::L,by simp[aA,h1],?_,λh hh=>?_,λh hh=>?_⟩
  ·rw[DL,h2,D0]
   unfold Hd.own
   rcases g2 with⟨e,rfl⟩|e
   ·simp
   ·rw[show(⟨⟨some k,v,roR t⟩,F'⟩:Hd).e.r.k=(roR t).k from rfl,e];rfl
  ·rcases ycM hh with rfl|hh
   ·exact g1
   ·exact h3 h hh
  ·rcases ycM hh with rfl|hh
   ·rcases g2 with⟨e,rfl⟩|e
    ·exact .inl ⟨e,rfl⟩
    ·exact .inr e
   ·exact h4 h hh
theorem Rpxs.length:∀{ts:List T} {vs:List V},Rpxs K H ts vs->vs.length=ts.length
 | [],vs,r=>by rw[Rpxs]at r;subst r;rfl
 | t::ts,vs,r=>by obtain⟨v,vr,rfl,_,r2⟩:=r;rw[DQ,DQ,Rpxs.length r2]
theorem mN {ts:List T}{vs:List V}{n m:Nat}(hl:vs.length=ts.length)(i:Nat)(r:R)(h:((ts.map λt=>some (roR t))++DE m none)[i]?=some (some r)):∃v,(vs.map some++DE n none)[i]?=some (some v):=by
 have hi:i<ts.length:=by
  by_cases e:i<ts.length
  ·exact e
  ·rw[EF (by simp;omega),FV]at h
   split at h<;>cases h
 refine⟨vs[i],?_⟩
 rw[Em (by simp;omega),DG]
 simp[hl,hi]
theorem oK {k:Nat}:((aA k Z ρ).filterMap λe=>e.key).Nodup:=by
 have:=ld (k:=k) (Z:=Z) (ρ:=ρ)
 refine List.Pairwise.filterMap (R:=λa b=>∃i j,a.key=some i/\b.key=some j/\i<j) (λe:En=>e.key) (λa a' ⟨i,j,h1,h2,h3⟩ b hb b' hb'=>?_) this
 rw[h1]at hb;rw[h2]at hb'
 cases hb;cases hb'
 omega
theorem wS {ts:List T}{vs:List V}{N:List Str}(r:Rpxs K H ts vs):Sim ⟨K,H,[],[]⟩ H (cJ ts N.length) (bJ N vs) []:=by
 obtain⟨L,h1,h2,h3,h4⟩:=o8 (H0:=H) (io:=[]) (iov:=[]) (N.length-vs.length) (N.length-ts.length) (k:=0) r
 refine⟨⟨L,⟨by rw[h2];exact EH,by rw[h2];simp,h3,λh hh=>?_,?_,λb o e _=>e,by simp⟩,by rw[h1];rfl⟩,λi r' h=>mN r.length i r' h,?_,by simp⟩
 ·unfold KdOk
  rcases h4 h hh with⟨e,eF⟩|e
  ·rw[e,eF];simp
  ·rw[e,h2];simp
 ·have:(L.filterMap λh=>h.e.key)=(L.map (·.e)).filterMap λe=>e.key:=by rw[EZ];rfl
  rw[this,h1]
  exact oK
 ·simp[bJ,cJ,r.length]
noncomputable def dr (m:MS) (n:Nat) (ts:List T):Option T:=match m.run (cJ ts n)with
 | some (.rt t,_)=>some t
 | some (.nx,_)=>some (.im .non)
 | _=>none
theorem xp {H0:Hp}(S:Sim ⟨K,H0,[],[]⟩ H' ρ Z [⟨none,v,⟨.ow,t⟩⟩]):New K H0 H' t v:=by
 obtain⟨L,g,e⟩:=S.sl
 obtain⟨x,L',rfl,ex,_⟩:=aF e
 have rp:=g.rp x ymS
 rw[ex]at rp
 have kd:=g.kd x ymS
 unfold KdOk at kd
 rw[ex]at kd
 have ho:x.e.r.k.isOw=true:=by rw[ex];rfl
 exact⟨λb o h=>g.fr b o h (by simp),x.F,rp,g.ndF ymS ho,λa ha=>⟨kd a ha,g.muF ymS ho a ha⟩⟩
theorem Def.mp {P:Program}{W:World}{mg:Str->Option Value}{base:Heap}{k:Nat}{name:Str}{st:Stmt}{N ps:List Str}(d:Def K mg name st ps)(S:FnScope N ps (aj st)){m:MS}
  (hbody:∀(f:Addr) (cdv:Value) (A:Around) (outer:List Env) (s:Shared) (H:Hp) (E:XK),Room k (A.deeper (envOfC name (aj st) s.heap.objs.size f cdv))->AU (jW CX0 P W K mg base N name (aj st) f cdv A outer s H E).nox (br st) m)
  {run:List T->Option T} (hrun:∀ts,run ts=if ts.length=ps.length then dr m N.length ts else none):Has P W K mg base (k+1) name ps (spP K run):=by
 refine d.has S (λvs H Q E h=>?_) (λf cdv A outer s H vs Q E hr h=>?_)
 ·obtain⟨ts,t,r,e,_⟩:=h
  rw[hrun]at e
  split at e
  ·rename_i hl;rw[r.length,hl]
  ·cases e
 ·obtain⟨ts,t,r,e,q⟩:=h
  rw[hrun]at e
  split at e
  ·obtain⟨tS,p1,p2⟩:=hbody f cdv A outer s H E hr
   refine⟨tS,p1,?_⟩
   have S0:=wS (N:=N) r
   unfold dr at e
   split at e
   ·rename_i t0 ρ' e1
    cases e
    exact p2 ⟨K,H,[],[]⟩ H _ _ [] _ _ ρ' rfl (by simp) e1 S0 λv Z' H' S1=>q v H' (xp S1)
   ·rename_i ρ' e1
    cases e
    exact p2 ⟨K,H,[],[]⟩ H _ _ [] _ .nx ρ' rfl (by simp) e1 S0 λZ' H' S1=>q .non H' (xp (S1.imm bM))
   ·cases e
  ·cases e
noncomputable def eY (k:Nat) (ts:List T) (n:Nat):Rho:=(cJ ts n).set k (some ⟨.io 0,ts.getD k (.im .non)⟩)
noncomputable def eN (m:MS) (k n:Nat) (ts:List T):Option (T×T):=match m.run (eY k ts n)with
 | some (.rt t,ρ')=>(match ρ'[k]? with
  | some (some ⟨.io 0,s'⟩)=>some (t,s')
  | _=>none)
 | some (.nx,ρ')=>(match ρ'[k]? with
  | some (some ⟨.io 0,s'⟩)=>some (.im .non,s')
  | _=>none)
 | _=>none
theorem mL {G:List Addr}(n m:Nat):∀{ts:List T} {vs:List V} {k:Nat},vs.length=ts.length->(∀(i:Nat) x u,vs[i]?=some x->ts[i]?=some u->∃F,Rp K H u x F/\∀a∈F,a∉G)->∃L:List Hd,L.map (·.e)=aA k (vs.map some++DE n none) ((ts.map λt=>some (roR t))++DE m none)/\L.flatMap Hd.own=[]/\(∀h∈L,Rp K H h.e.r.t h.e.v h.F/\∀a∈h.F,a∉G)/\(∀h∈L,(h.e.r.k=.ow/\h.F=[])∨h.e.r.k=.vw none none)
 | [],[],k,_,_=>⟨[],by simp[gt],rfl,by simp,by simp⟩
 | t::ts,v::vs,k,hl,r=>by
  obtain⟨F,r1,r1'⟩:=r 0 v t rfl rfl
  obtain⟨L,h1,h2,h3,h4⟩:=mL (G:=G) n m (ts:=ts) (vs:=vs) (k:=k+1) (by simpa using hl) (λi x u hx hu=>r (i+1) x u (by simpa using hx) (by simpa using hu))
  have hroR:∃F',Rp K H (roR t).t v F'/\(∀a∈F',a∉G)/\(((roR t).k=.ow/\F'=[])∨(roR t).k=.vw none none):=by
   cases t with
   | im i=>exact⟨[],fN (bj r1).1,by simp,.inl ⟨rfl,rfl⟩⟩
   | _=>exact⟨F,r1,r1',.inr rfl⟩
  obtain⟨F',g1,g1',g2⟩:=hroR
  refine⟨⟨⟨some k,v,roR t⟩,F'⟩::L,by simp[aA,h1],?_,λh hh=>?_,λh hh=>?_⟩
  ·rw[DL,h2,D0]
   unfold Hd.own
   rcases g2 with⟨e,rfl⟩|e
   ·simp
   ·rw[show(⟨⟨some k,v,roR t⟩,F'⟩:Hd).e.r.k=(roR t).k from rfl,e];rfl
  ·rcases ycM hh with rfl|hh
   ·exact⟨g1,g1'⟩
   ·exact h3 h hh
  ·rcases ycM hh with rfl|hh
   ·rcases g2 with⟨e,rfl⟩|e
    ·exact .inl ⟨e,rfl⟩
    ·exact .inr e
   ·exact h4 h hh
 | [],_::_,_,h,_=>by cases h
 | _::_,[],_,h,_=>by cases h
theorem wR {ts:List T}{vs:List V}{N:List Str}{k:Nat}{G:List Addr}(hl:vs.length=ts.length)(hw:vs[k]?=some w)(hs:ts[k]?=some s)(rp:Rp K H s w G)(nd:G.Nodup)(mu:∀a∈G,Mu H a)(ro:∀(m:Nat) x u,m≠k->vs[m]?=some x->ts[m]?=some u->∃F,Rp K H u x F/\∀a∈F,a∉G):Sim ⟨K,H,G,[w]⟩ H (eY k ts N.length) (bJ N vs) []:=by
 have hkl:k<ts.length:=(DB.mp hs).1
 have hl':(vs.set k .non).length=(ts.set k (.im .non)).length:=by simp[hl]
 obtain⟨L,h1,h2,h3,h4⟩:=mL (K:=K) (H:=H) (G:=G) (N.length-vs.length) (N.length-ts.length) (ts:=ts.set k (.im .non)) (vs:=vs.set k .non) (k:=0) hl' (λm x u hx hu=>by
  by_cases e:m=k
  ·subst e
   simp[hl,hkl]at hx hu
   subst hx hu
   exact⟨[],fN bM,by simp⟩
  ·rw[DW (Ne.symm e)]at hx hu
   exact ro m x u e hx hu)
 have eZ:(vs.set k .non).map some++DE (N.length-vs.length) none=(bJ N vs).set k (some .non):=by
  unfold bJ
  rw[Gk _ _ (by simp[hl,hkl]),F8]
 have eρ:((ts.set k (.im .non)).map λt=>some (roR t))++DE (N.length-ts.length) none=(cJ ts N.length).set k (some ⟨.ow,.im .non⟩):=by
  unfold cJ
  rw[Gk _ _ (by simp[hkl]),F8]
  rfl
 rw[eZ,eρ]at h1
 have hkρ:k<(cJ ts N.length).length:=by simp[cJ];omega
 have hkZ:k<(bJ N vs).length:=by simp[bJ,hl];omega
 have p1:=fF (k:=0) (Z:=bJ N vs) (ρ:=cJ ts N.length) (v:=.non) (r:=⟨.ow,.im .non⟩) hkZ hkρ
 rw[Eo,←h1]at p1
 obtain⟨L2,pL,eL⟩:=kD p1 L rfl
 obtain⟨x,L3,rfl,ex,e3⟩:=aF eL
 have inL:∀h∈L3,h∈L:=λh hh=>pL.mem_iff.mpr (ymC _ hh)
 have own3:L3.flatMap Hd.own=[]:=by
  rw[FZ]
  intro h hh
  rw[FZ]at h2
  exact h2 h (inL h hh)
 have own1:((⟨⟨some k,w,⟨.io 0,s⟩⟩,G⟩:Hd)::L3).flatMap Hd.own=G:=by rw[DL,own3,D0];rfl
 have ht:ts.getD k (.im .non)=s:=by rw[D4,hs];rfl
 have eZ2:(bJ N vs).set k (some w)=bJ N vs:=by
  apply E4
  intro m
  by_cases hm:m=k
  ·subst hm
   rw[Es hkZ]
   unfold bJ
   rw[Em (by simp[hl,hkl]),DG,hw];rfl
  ·rw[DW (Ne.symm hm)]
 have p2:=fF (k:=0) (Z:=bJ N vs) (ρ:=cJ ts N.length) (v:=w) (r:=⟨.io 0,s⟩) hkZ hkρ
 rw[Eo,eZ2]at p2
 have gw:GW ⟨K,H,G,[w]⟩ H (⟨⟨some k,w,⟨.io 0,s⟩⟩,G⟩::L3):=by
  refine⟨by rw[own1];exact nd,λa ha=>by rw[own1]at ha;exact⟨mu a ha,.inr ha⟩,λh hh=>?_,λh hh=>?_,?_,λb o e _=>e,λa ha=>let ⟨o,e,_⟩:=mu a ha;⟨o,e⟩⟩
  ·rcases ycM hh with rfl|hh
   ·exact rp
   ·exact(h3 h (inL h hh)).1
  ·rcases ycM hh with rfl|hh
   ·rfl
   ·unfold KdOk
    rcases h4 h (inL h hh)with⟨e,eF⟩|e
    ·rw[e,eF];simp
    ·rw[e,own1];exact(h3 h (inL h hh)).2
  ·have e5:((⟨⟨some k,w,⟨.io 0,s⟩⟩,G⟩:Hd)::L3).filterMap (λh=>h.e.key)=(x::L3).filterMap λh=>h.e.key:=by rw[DZ,DZ,ex]
   rw[e5]
   have e6:((x::L3).filterMap λh=>h.e.key)=((x::L3).map (·.e)).filterMap λe=>e.key:=by rw[EZ];rfl
   rw[e6,eL]
   have:=(p1.filterMap (λe:En=>e.key)).nodup_iff.mp (by rw[h1];exact oK)
   exact this
 refine⟨SimL.perm ⟨_,gw,rfl⟩ ?_,λi r' h=>?_,?_,by simp⟩
 ·rw[DJ,e3,Er]
  unfold eY
  rw[ht]
  exact p2.symm
 ·unfold eY at h
  rw[ht]at h
  by_cases e:i=k
  ·subst e
   refine⟨w,?_⟩
   unfold bJ
   rw[Em (by simp[hl,hkl]),DG,hw];rfl
  ·rw[DW (Ne.symm e)]at h
   exact mN hl i r' h
 ·simp[bJ,eY,cJ,hl]
theorem xo {H0:Hp}{G:List Addr}{w0:V}{k:Nat}{s':T}(S:Sim ⟨K,H0,G,[w0]⟩ H' ρ Z [⟨none,v,⟨.ow,t⟩⟩])(h : ρ[k]?=some (some ⟨.io 0,s'⟩)):∃F G',OffM G H0 H'/\(∀a∈G,∃o,H' a=some o)/\(F++G').Nodup/\(∀a∈F,H0 a=none/\Mu H' a)/\(∀a∈G',(a∈G∨H0 a=none)/\Mu H' a)/\Rp K H' s' w0 G'/\Rp K H' t v F:=by
 obtain⟨w,hw,hm⟩:=S.slot h
 obtain⟨L,g,e⟩:=S.sl
 rw[D8]at e hm
 obtain⟨x,L',rfl,ex,e2⟩:=aF e
 have hm':(⟨some k,w,⟨.io 0,s'⟩⟩:En)∈L'.map (·.e):=by
  rw[e2]
  rcases ycM hm with z|z
  ·cases z
  ·exact z
 obtain⟨y,hy,ey⟩:=DM.mp hm'
 have rpx:=g.rp x ymS
 rw[ex]at rpx
 have rpy:=g.rp y (ymC _ hy)
 rw[ey]at rpy
 have kx:=g.kd x ymS
 unfold KdOk at kx
 rw[ex]at kx
 have ky:=g.kd y (ymC _ hy)
 unfold KdOk at ky
 rw[ey]at ky
 have ew:w0=w:=by simpa using ky
 subst ew
 have hox:x.e.r.k.isOw=true:=by rw[ex];rfl
 have hoy:y.e.r.k.isOw=true:=by rw[ey];rfl
 refine⟨x.F,y.F,λb o hb n=>g.fr b o hb n,g.iol,?_,λa ha=>⟨kx a ha,g.muF ymS hox a ha⟩,λa ha=>?_,rpy,rpx⟩
 ·have nd:=g.nd
  rw[DL]at nd
  have nx:x.own=x.F:=by unfold Hd.own;rw[if_pos hox]
  rw[nx]at nd
  have nn:=DF.mp nd
  exact DF.mpr ⟨nn.1,g.ndF (ymC _ hy) hoy,λa ha b hb=>nn.2.2 a ha b (Eu.mpr ⟨y,hy,gY hoy hb⟩)⟩
 ·have:=g.ad a (Eu.mpr ⟨y,ymC _ hy,gY hoy ha⟩)
  exact⟨this.2.symm,this.1⟩
theorem Def.mi {P:Program}{W:World}{mg:Str->Option Value}{base:Heap}{k:Nat}{name:Str}{st:Stmt}{N ps:List Str}{j:Nat}(d:Def K mg name st ps)(S:FnScope N ps (aj st)){m:MS}
  (hbody:∀(f:Addr) (cdv:Value) (A:Around) (outer:List Env) (s:Shared) (H:Hp) (E:XK),Room k (A.deeper (envOfC name (aj st) s.heap.objs.size f cdv))->AU (jW CX0 P W K mg base N name (aj st) f cdv A outer s H E).nox (br st) m)
  {run:List T->Option (T×T)} (hrun:∀ts,run ts=if ts.length=ps.length then eN m j N.length ts else none):Has P W K mg base (k+1) name ps (spI K j run):=by
 refine d.has S (λvs H Q E h=>?_) (λf cdv A outer s H vs Q E hr h=>?_)
 ·obtain⟨ts,s0,w,G,t,s',hl,_,_,_,_,_,_,e,_⟩:=h
  rw[hrun]at e
  split at e
  ·rename_i h2;rw[hl,h2]
  ·cases e
 ·obtain⟨ts,s0,w,G,t,s',hl,hw,hs,rp,nd,mu,ro,e,q⟩:=h
  rw[hrun]at e
  split at e
  ·obtain⟨tS,p1,p2⟩:=hbody f cdv A outer s H E hr
   refine⟨tS,p1,?_⟩
   have S0:=wR (N:=N) hl hw hs rp nd mu ro
   unfold eN at e
   split at e
   ·rename_i t0 ρ' e1
    split at e
    ·rename_i s1 e2
     cases e
     refine p2 ⟨K,H,G,[w]⟩ H _ _ [] _ _ ρ' rfl (by simp) e1 S0 λv Z' H' S1=>?_
     obtain⟨F,G',a1,a2,a3,a4,a5,a6,a7⟩:=xo S1 e2
     exact q v H' F G' a1 a2 a3 a4 a5 a6 a7
    ·cases e
   ·rename_i ρ' e1
    split at e
    ·rename_i s1 e2
     cases e
     refine p2 ⟨K,H,G,[w]⟩ H _ _ [] _ .nx ρ' rfl (by simp) e1 S0 λZ' H' S1=>?_
     obtain⟨F,G',a1,a2,a3,a4,a5,a6,a7⟩:=xo (S1.imm bM) e2
     exact q .non H' F G' a1 a2 a3 a4 a5 a6 a7
    ·cases e
   ·cases e
  ·cases e
end
structure CK {ι : Type}(C:ι->Cx)(P:Program)(W:World)(K:yF)(mg:Str->Option Value)(base:Heap)(k:Nat):Prop where
 prog:∀i,(C i).prog=P
 w:∀i,(C i).w=W
 kk:∀i,(C i).K=K
 mg:∀i,(C i).mg=mg
 base:∀i,(C i).base=base
 calm:∀i,(C i).calm=true
 room:∀i,Room k (C i).A
variable  {ι : Type}{C:ι->Cx}{P:Program}{W:World}{K:yF}{mg:Str->Option Value}{base:Heap}{k:Nat}
noncomputable abbrev iV (C:ι->Cx) (scope:Scope) (N':List Str):ι×Bk->Cx:=λp=>cxB (C p.1) scope N' p.2
theorem CK.blk (ck:CK C P W K mg base k){scope:Scope}{N':List Str}:CK (iV C scope N') P W K mg base k:=
 ⟨λp=>ck.prog p.1,λp=>ck.w p.1,λp=>ck.kk p.1,λp=>ck.mg p.1,λp=>ck.base p.1,λp=>ck.calm p.1,λp=>ck.room p.1⟩
structure QE (C:ι->Cx)(K:yF)(e:Expr)(m:ME):Prop where
 ex:∃te,(∀i,PE (C i) e te)/\aU K te m
structure QT (C:ι->Cx)(K:yF)(e:Expr)(m:MT):Prop where
 ex:∃te,(∀i,PT (C i) e te)/\eA K te m
structure QW (C:ι->Cx)(K:yF)(e:Expr)(m:MT):Prop where
 ex:∃te,(∀i,PW (C i) e te)/\eA K te m
structure QTs (C:ι->Cx)(K:yF)(e:List Expr)(m:MT):Prop where
 ex:∃te,(∀i,PTs (C i) e te)/\eA K te m
structure QA (C:ι->Cx)(K:yF)(es:List Expr)(m:MA):Prop where
 ex:∃ta,(∀i,PA (C i) es ta)/\ba es=true/\fv K ta m
structure QS (C:ι->Cx)(K:yF)(st:Stmt)(m:MS):Prop where
 ex:∃ts,(∀i,PS (C i) st ts)/\dM K ts m
structure QSs (C:ι->Cx)(K:yF)(st:List Stmt)(m:MS):Prop where
 ex:∃ts,(∀i,PSs (C i) st ts)/\dM K ts m
structure QG (C:ι->Cx)(K:yF)(fr:Option (List (Option Nat)))(e:Expr)(m:MG):Prop where
 ex:∃g,(∀i,PG (C i) e g)/\iU K g m/\∀f,fr=some f->dy f g
structure QGs (C:ι->Cx)(K:yF)(fr:Option (List (Option Nat)))(n:Nat)(es:List Expr)(m:MGs):Prop where
 ex:∃g,(∀i,PGs (C i) es g)/\lS K g m/\(∀f,fr=some f->ja f g)/\(∀rs ρ ρ',m.run rs ρ=some ρ'->rs.length=n)
structure QI (C:ι->Cx)(K:yF)(tg e:Expr)(m:MI):Prop where
 ex:∃wi,(∀i,PI (C i) tg e wi)/\jc K wi m
structure QO (C:ι->Cx)(K:yF)(e:Option Expr)(m:MO):Prop where
 ex:∃t,(∀i,PO (C i) e t)/\qX K t m
section
variable  {a b c e o:Expr}{es:List Expr}{ma mb mc m:ME}{ms:MA}{pos:Pos}{mt mt':MT}
theorem B2 {i:Int}{j:Nat}:QE C K (.Constant (.int i) j pos) (mC (.int i)):=⟨_,λ_=>sA,tO rfl⟩
theorem Do {x:Bool}{j:Nat}:QE C K (.Constant (.bool x) j pos) (mC (.bl x)):=⟨_,λ_=>BK,tO rfl⟩
theorem Cd {x:Str}{j:Nat}:QE C K (.Constant (.str x) j pos) (mC (.str x)):=⟨_,λ_=>zk,tO rfl⟩
theorem Cg (n:Nat){x:Str}(hN:∀i,(C i).N[n]?=some x:=by intro _;rfl)(hv:∀i,Vis (C i).env.scope x:=by first|exact λ_=>Or.inl rfl|exact λ_=>Or.inr (Or.inl rfl)|exact λ_=>Or.inr (Or.inr rfl))(hd:(x==("__debug__" : Str))=false:=by decide)(hcd:(x==("__classdict__" : Str))=false:=by decide):QE C K (.Name x pos) (ah n):=⟨_,λi=>nN (hN i) (hv i) hd hcd,wM⟩
theorem zH:QA C K [] mNil:=⟨_,λ_=>lu,rfl,wE⟩
theorem wc (h1:QE C K e m)(h2:QA C K es ms)(hs:bG e=false:=by rfl):QA C K (e::es) (aa m ms):=by
 obtain⟨te,a,b⟩:=h1
 obtain⟨ta,c,n,d⟩:=h2
 exact⟨_,λi=>cP (a i) (c i) hs,by rw[ba,hs,n];rfl,tQ b d⟩
theorem qu {op:Operator}{red:yF->R2}{f:T->T->Option T}(ck:CK C P W K mg base k)(ho:∀X:Cx,OpR X (binaryOp op) (red X.K))(hp:cW K (red K) f)(ha:QE C K a ma)(hb:QE C K b mb):QE C K (.BinOp a op b pos) (mOp f ma mb):=by
 obtain⟨ta,p,r⟩:=ha
 obtain⟨tb,p',r'⟩:=hb
 exact⟨_,λi=>BO (r:=red K) (by have:=ho (C i);rw[ck.kk i]at this;exact this) (p i) (p' i),lF hp r r'⟩
theorem BS (ck:CK C P W K mg base k)(ha:QE C K a ma)(hb:QE C K b mb):QE C K (.BinOp a .Add b pos) (mOp bd ma mb):=qu ck (red:=tD) (λ_=>vq) sF ha hb
theorem Ce (ck:CK C P W K mg base k)(ha:QE C K a ma)(hb:QE C K b mb):QE C K (.BinOp a .Sub b pos) (mOp bZ ma mb):=qu ck (red:=λ_=>rI0 λi j=>.int (i-j)) (λ_=>yR) sV ha hb
theorem B7 (ck:CK C P W K mg base k)(ha:QE C K a ma)(hb:QE C K b mb):QE C K (.BinOp a .Mult b pos) (mOp dl ma mb):=qu ck (red:=tI) (λ_=>vv) sR ha hb
theorem zE (ck:CK C P W K mg base k)(ha:QE C K a ma)(hb:QE C K b mb):QE C K (.BinOp a .FloorDiv b pos) (mOp gn ma mb):=qu ck (red:=λ_=>rI m7 λi j=>.int (i / j)) (λ_=>p8) qk ha hb
theorem B6 (ck:CK C P W K mg base k)(ha:QE C K a ma)(hb:QE C K b mb):QE C K (.BinOp a .Mod b pos) (mOp eX ma mb):=qu ck (red:=λ_=>rI (λ_ j=>0<j) λi j=>.int (i % j)) (λ_=>yM) sQ ha hb
theorem Cb (ck:CK C P W K mg base k)(ha:QE C K a ma)(hb:QE C K b mb):QE C K (.BinOp a .Pow b pos) (mOp qg ma mb):=qu ck (red:=λ_=>rI xT λi j=>.int (i^j.toNat)) (λ_=>yQ) sU ha hb
theorem B9 (ha:QE C K a ma):QE C K (.UnaryOp .Not a pos) (kz ma):=by
 obtain⟨ta,p,r⟩:=ha
 exact⟨_,λi=>zi (p i),tY r⟩
def fA (op:CmpOp)(f:T->T->Option T):Prop:=∃red:yF->R2,(∀X:Cx,X.A.units+64<cLine->OpR X (compareOp op) (red X.K))/\∀K,cW K (red K) f
theorem Dc:fA .Lt (gr λi j=>decide (i<j)):=⟨λ_=>_,λ_ _=>Bt,λ_=>jL⟩
theorem Da:fA .Gt (gr λi j=>decide (j<i)):=⟨λ_=>_,λ_ _=>Bs,λ_=>jL⟩
theorem C9:fA .GtE (gr λi j=>decide (j<=i)):=⟨λ_=>_,λ_ _=>Br,λ_=>jL⟩
theorem C8:fA .Eq eqT:=⟨zY,λ_ hu=>yI hu,λ_=>vP⟩
theorem Dd:fA .NotEq neT:=⟨z9,λ_ hu=>yP hu,λ_=>vR⟩
theorem Db:fA .In inT:=⟨zZ,λ_ hu=>yK hu,λ_=>vQ⟩
theorem A3:fA .NotIn nF:=⟨lA,λ_ hu=>qa hu,λ_=>sS⟩
theorem BV {op:CmpOp}{f:T->T->Option T}(ck:CK C P W K mg base k)(hc:fA op f)(ha:QE C K a ma)(hb:QE C K b mb)(hm:behindInMarks op b=false):QE C K (.Compare a [op] [b] pos) (mOp f ma mb):=by
 obtain⟨red,ho,hp⟩:=hc
 obtain⟨ta,p,r⟩:=ha
 obtain⟨tb,p',r'⟩:=hb
 exact⟨_,λi=>vC (r:=red K) (by have:=ho (C i) (ck.room i).units;rw[ck.kk i]at this;exact this) (p i) (p' i) hm,lF (hp K) r r'⟩
theorem zS {op:CmpOp}{f:T->T->Option T}(ck:CK C P W K mg base k)(hc:fA op f)(ha:QE C K a ma)(hb:QE C K b mb)(hm:behindInMarks op b=false):QT C K (.Compare a [op] [b] pos) (aK (mOp f ma mb)):=by
 obtain⟨red,ho,hp⟩:=hc
 obtain⟨ta,p,r⟩:=ha
 obtain⟨tb,p',r'⟩:=hb
 exact⟨_,λi=>vW (r:=red K) (by have:=ho (C i) (ck.room i).units;rw[ck.kk i]at this;exact this) (p i) (p' i) hm,mK (lF (hp K) r r')⟩
theorem zV (ha:QE C K e m)(he:∀i whole,isTrue e (C i).env whole=(do let v ←whole;standAt e.pos;holding [v] (truthy v)):=by intro _ _;rfl):QT C K e (aK m):=by
 obtain⟨ta,p,r⟩:=ha
 exact⟨_,λi=>zA (p i) (he i),Ak r⟩
theorem zU (ck:CK C P W K mg base k)(ha:QE C K e m)(he:∀i whole,isTrue e (C i).env whole=(do let v ←whole;standAt e.pos;holding [v] (truthy v)):=by intro _ _;rfl):QT C K e (pX m):=by
 obtain⟨ta,p,r⟩:=ha
 exact⟨_,λi=>Dw (ck.kk i) (p i) (he i),wL r⟩
theorem zT (ha:QT C K a mt):QT C K (.UnaryOp .Not a pos) (l7 mt):=by
 obtain⟨ta,p,r⟩:=ha
 exact⟨_,λi=>zz (p i),wF r⟩
theorem wp (ha:QT C K a mt):QW C K (.BoolOp .And [a] pos) mt:=by
 obtain⟨ta,p,r⟩:=ha
 exact⟨_,λi=>wa (p i),r⟩
theorem zX (ha:QT C K a mt):QW C K (.BoolOp .Or [a] pos) mt:=by
 obtain⟨ta,p,r⟩:=ha
 exact⟨_,λi=>zD (p i),r⟩
theorem zW {rest:List Expr}(ha:QT C K a mt)(hb:QW C K (.BoolOp .And (b::rest) pos) mt'):QW C K (.BoolOp .And (a::b::rest) pos) (ln mt mt'):=by
 obtain⟨ta,p,r⟩:=ha
 obtain⟨tb,p',r'⟩:=hb
 exact⟨_,λi=>zC (p i) (p' i),wv r r'⟩
theorem Ci {rest:List Expr}(ha:QT C K a mt)(hb:QW C K (.BoolOp .Or (b::rest) pos) mt'):QW C K (.BoolOp .Or (a::b::rest) pos) (mOr mt mt'):=by
 obtain⟨ta,p,r⟩:=ha
 obtain⟨tb,p',r'⟩:=hb
 exact⟨_,λi=>BR (p i) (p' i),Ai r r'⟩
theorem QW.t (h:QW C K e mt):QT C K e mt:=by
 obtain⟨ta,p,r⟩:=h
 exact⟨_,λi=>(p i).pt,r⟩
theorem Ca {op:BoolOp}(h:QE C K a m):QE C K (.BoolOp op [a] pos) m:=by
 obtain⟨ta,p,r⟩:=h
 exact⟨_,λi=>zj (p i),r⟩
theorem BT {rest:List Expr}(ha:QE C K a ma)(hb:QE C K (.BoolOp .And (b::rest) pos) mb):QE C K (.BoolOp .And (a::b::rest) pos) (iP ma mb):=by
 obtain⟨ta,p,r⟩:=ha
 obtain⟨tb,p',r'⟩:=hb
 exact⟨_,λi=>ze (p i) (p' i),tP r r'⟩
theorem B5 (mv:List Nat)(h:QA C K es ms):QE C K (.List es pos) (aL mv ms):=by
 obtain⟨ta,p,_,r⟩:=h
 exact⟨_,λi=>zh (p i),tV r⟩
theorem Cf (mv:List Nat){x1:Nat}(h:QA C K es ms):QE C K (.Tuple es x1 pos) (ar mv ms):=by
 obtain⟨ta,p,_,r⟩:=h
 exact⟨_,λi=>sC (p i),uc r⟩
theorem Dq (ck:CK C P W K mg base k)(ha:QE C K a ma)(hb:QE C K b mb)(hs:oq b:=by exact λ_ _=>rfl):QE C K (.Subscript a b pos) (mIx ma mb):=by
 obtain⟨ta,p,r⟩:=ha
 obtain⟨tb,p',r'⟩:=hb
 exact⟨_,λi=>BN (Dk (ck.kk i)) (p i) (p' i) hs,Ah r r'⟩
theorem we:QO C K none mNoPart:=⟨_,λ_=>vM,nR⟩
theorem wf (h:QE C K e m):QO C K (some e) (eI m):=by
 obtain⟨ta,p,r⟩:=h
 exact⟨_,λi=>lw (p i),t3 r⟩
theorem Dr {lo hi:Option Expr}{ml mh:MO}{p2:Pos}(ck:CK C P W K mg base k)(ha:QE C K a ma)(hl:QO C K lo ml)(hh:QO C K hi mh):QE C K (.Subscript a (.Slice lo hi none p2) pos) (mSl ma ml mh):=by
 obtain⟨ta,p,r⟩:=ha
 obtain⟨tl,p',r'⟩:=hl
 obtain⟨th,p'',r''⟩:=hh
 exact⟨_,λi=>sB (r:=rSl K) (by have:=Dv (X:=C i);rw[ck.kk i]at this;exact this) (p i) (p' i) (p'' i),Aj r r' r''⟩
theorem Cc {j:Nat}{p1 p2 p3:Pos}(ck:CK C P W K mg base k)(ha:QE C K a ma):QE C K (.Subscript a (.Slice none none (some (.UnaryOp .USub (.Constant (.int 1) j p1) p2)) p3) pos) (mUn ue ma):=by
 obtain⟨ta,p,r⟩:=ha
 exact⟨_,λi=>Dt (ck.kk i) (p i),wI r⟩
theorem BY {x:Str}{p:Pos}{j:Nat}{ps:List Str}{run:List T->Option T}(ck:CK C P W K mg base k)(h:Has P W K mg base j x ps (spP K run))(ha:QA C K (e::es) ms)(hj:j<=k:=by first|decide|omega)(hg:∀i,Gl (C i) x:=by intro _;rfl)(hdb:(x==("__debug__" : Str))=false:=by decide):QE C K (.Call (.Name x p) (e::es) [] pos) (mB run ms):=by
 obtain⟨ta,q,n,r⟩:=ha
 refine⟨_,λi=>sy (by rw[ck.prog i,ck.w i,ck.kk i,ck.mg i,ck.base i];exact h) ((ck.room i).mono hj) (hg i) (q i) n hdb,qz r⟩
theorem BX (l:Nat){x:Str}{p:Pos}{j n0:Nat}{ps:List Str}{run:List T->Option (T×T)}(ck:CK C P W K mg base k)(h:Has P W K mg base j x ps (spI K n0 run))(ha:QA C K (e::es) ms)(hj:j<=k:=by first|decide|omega)(hg:∀i,Gl (C i) x:=by intro _;rfl)(hdb:(x==("__debug__" : Str))=false:=by decide):QE C K (.Call (.Name x p) (e::es) [] pos) (ak n0 l run ms):=by
 obtain⟨ta,q,n,r⟩:=ha
 refine⟨_,λi=>sy (by rw[ck.prog i,ck.w i,ck.kk i,ck.mg i,ck.base i];exact h) ((ck.room i).mono hj) (hg i) (q i) n hdb,qx r⟩
def lR (x:Str)(f:List T->Option T):Prop:=∃(id:String) (red:yF->List V->Hp->VK->Prop),bootBuiltins x=some (.builtin id)/\(∀X:Cx,X.calm=true->CallR X (.builtin id) (red X.K))/\∀K,fB K (red K) f
def qY (x:Str)(f:List T->Option T):Prop:=∃(id:String) (red:yF->List V->Hp->VK->Prop),bootBuiltins x=some (.type id)/\(∀X:Cx,X.calm=true->CallR X (.type id) (red X.K))/\∀K,fB K (red K) f
theorem BU {x:Str}{p:Pos}{f:List T->Option T}(ck:CK C P W K mg base k)(hb:lR x f)(hm:mg x=none)(ha:QA C K (e::es) ms)(hg:∀i,Gl (C i) x:=by intro _;rfl)(hx:x≠("__name__" : Str):=by decide)(hdb:(x==("__debug__" : Str))=false:=by decide):QE C K (.Call (.Name x p) (e::es) [] pos) (mB f ms):=by
 obtain⟨id,red,b1,b2,b3⟩:=hb
 obtain⟨ta,q,n,r⟩:=ha
 exact⟨_,λi=>iB (r:=red K) (by have:=b2 (C i) (ck.calm i);rw[ck.kk i]at this;exact this) (hg i) (by rw[ck.mg i];exact hm) b1 (q i) n hx hdb,tN (b3 K) r⟩
theorem Ds {x:Str}{p:Pos}{f:List T->Option T}(ck:CK C P W K mg base k)(hb:qY x f)(hm:mg x=none)(ha:QA C K (e::es) ms)(hg:∀i,Gl (C i) x:=by intro _;rfl)(hx:x≠("__name__" : Str):=by decide)(hdb:(x==("__debug__" : Str))=false:=by decide):QE C K (.Call (.Name x p) (e::es) [] pos) (mB f ms):=by
 obtain⟨id,red,b1,b2,b3⟩:=hb
 obtain⟨ta,q,n,r⟩:=ha
 exact⟨_,λi=>nM (r:=red K) (by have:=b2 (C i) (ck.calm i);rw[ck.kk i]at this;exact this) (hg i) (by rw[ck.mg i];exact hm) b1 (q i) n hx hdb,tN (b3 K) r⟩
theorem b_len:lR "len" cH:=⟨_,tG,PySem.boot_len,λ_ _=>pA,λ_=>sK⟩
theorem b_min:lR "min" l9:=⟨_,λ_=>_,Hf,λ_ h=>pC h,λ_=>sP⟩
theorem b_max:lR "max" l8:=⟨_,λ_=>_,Hg,λ_ h=>pB h,λ_=>sO⟩
theorem b_all:lR "all" lT:=⟨_,Cj,Hh,λ_ h=>re h,λ_=>sG⟩
theorem b_int:qY "int" nt:=⟨_,λ_=>_,Hi,λ_ _=>pw,λ_=>sH⟩
theorem b_tuple:qY "tuple" fw:=⟨_,tJ,E7,λ_ _=>jV,λ_=>sW⟩
theorem b_list:qY "list" rS:=⟨_,tH,Fc,λ_ _=>k7,λ_=>sM⟩
def qU (T0:String)(name:Str)(f:T->List T->Option T):Prop:=∃(id:String) (red:yF->V->List V->Hp->VK->Prop),PlainAttrs T0/\Slot T0 name id/\typeOf (.builtin id)=pure (.type "method_descriptor")/\(∀X:Cx,MtR X id (red X.K))/\(∀K,qW K T0 (red K) f)/\∀K (H:Hp) (x:V) (tx:T) ts t,Rpx K H tx x->f tx ts=some t->tyV K T0 x H
def j3 (T0:String)(name:Str)(f:T->List T->Option (T×I)):Prop:=∃(id:String) (red:yF->V->List V->Hp->VK->Prop),PlainAttrs T0/\Slot T0 name id/\typeOf (.builtin id)=pure (.type "method_descriptor")/\(∀X:Cx,MtR X id (red X.K))/\(∀K,dN K (red K) f)/\∀K (H:Hp) (x:V) (tx:T) ts r,Rpx K H tx x->f tx ts=some r->tyV K T0 x H
theorem zF {T0:String}{name:Str}{f:T->List T->Option T}{apos:Pos}{mo:ME}(ck:CK C P W K mg base k)(hm:qU T0 name f)(ho:QE C K o mo)(ha:QA C K (e::es) ms)(hlen:decide ((e::es).length<30)=true:=by rfl)
  (hbase:∀i,attributeBase o name (C i).env (eval o (C i).env)=eval o (C i).env:=by intro _;rfl) (hline:(apos.endLine==pos.line)=true:=by rfl):QE C K (.Call (.Attribute o name apos) (e::es) [] pos) (mM f mo ms):=by
 obtain⟨id,red,h1,h2,h3,h4,h5,h6⟩:=hm
 obtain⟨to,q,r⟩:=ho
 obtain⟨ta,q',n,r'⟩:=ha
 exact⟨_,λi=>A1 (r:=red K) (ck.kk i) h1 h2 h3 (by have:=h4 (C i);rw[ck.kk i]at this;exact this) (q i) (q' i) n hlen (hbase i) hline,Cw (h5 K) (h6 K) r r'⟩
theorem B8 (l:Nat)(mv:List Nat){T0:String}{name:Str}{f:T->List T->Option (T×I)}{apos:Pos}{mo:ME}(ck:CK C P W K mg base k)(hm:j3 T0 name f)(ho:QE C K o mo)(ha:QA C K (e::es) ms)(hlen:decide ((e::es).length<30)=true:=by rfl)
  (hbase:∀i,attributeBase o name (C i).env (eval o (C i).env)=eval o (C i).env:=by intro _;rfl) (hline:(apos.endLine==pos.line)=true:=by rfl):QE C K (.Call (.Attribute o name apos) (e::es) [] pos) (bT l mv f mo ms):=by
 obtain⟨id,red,h1,h2,h3,h4,h5,h6⟩:=hm
 obtain⟨to,q,r⟩:=ho
 obtain⟨ta,q',n,r'⟩:=ha
 exact⟨_,λi=>A1 (r:=red K) (ck.kk i) h1 h2 h3 (by have:=h4 (C i);rw[ck.kk i]at this;exact this) (q i) (q' i) n hlen (hbase i) hline,wD (h5 K) (h6 K) r r'⟩
theorem zG (l:Nat){T0:String}{name:Str}{f:T->List T->Option (T×I)}{apos:Pos}{mo:ME}(ck:CK C P W K mg base k)(hm:j3 T0 name f)(ho:QE C K o mo)
  (hbase:∀i,attributeBase o name (C i).env (eval o (C i).env)=eval o (C i).env:=by intro _;rfl) (hline:(apos.endLine==pos.line)=true:=by rfl):QE C K (.Call (.Attribute o name apos) [] [] pos) (kw l f mo):=by
 obtain⟨id,red,h1,h2,h3,h4,h5,h6⟩:=hm
 obtain⟨to,q,r⟩:=ho
 exact⟨_,λi=>C7 (r:=red K) (ck.kk i) h1 h2 h3 (by have:=h4 (C i);rw[ck.kk i]at this;exact this) (q i) (hbase i) hline,tW (h5 K) (h6 K) r⟩
theorem yz:qU "str" "join" jy:=⟨_,xD,PySem.F.plainAttrs_str,PySem.F.slot_str_join,PySem.F.type_str_join,λ_=>vm,λ_=>qm,λK H x tx ts t r e=>by
 unfold jy at e
 split at e
 ·rw[cS r];rfl
 ·cases e⟩
theorem rV:j3 "list" "append" apT:=⟨_,λ_=>lx,PySem.F.plainAttrs_list,PySem.F.slot_list_append,PySem.F.type_list_append,λ_=>pZ,λ_=>mz,λK=>qM⟩
theorem rW:j3 "list" "extend" jX:=⟨_,tF,PySem.F.plainAttrs_list,PySem.F.slot_list_extend,PySem.F.type_list_extend,λ_=>vk,λ_=>mD,λK=>qN⟩
theorem Bn:j3 "list" "pop" my:=⟨_,λ_=>Aa,PySem.F.plainAttrs_list,PySem.F.slot_list_pop,PySem.F.type_list_pop,λ_=>yA,λ_=>sT,λK=>Au⟩
theorem rX:j3 "list" "insert" lj:=⟨_,λ_=>ly,PySem.F.plainAttrs_list,PySem.F.slot_list_insert,PySem.F.type_list_insert,λ_=>p7,λ_=>mE,λK=>qO⟩
end
variable  {ι : Type}{C:ι->Cx}{P:Program}{W:World}{K:yF}{mg:Str->Option Value}{base:Heap}{k:Nat}
section
variable  {a b c e o tg iter:Expr}{es:List Expr}{ma mb mc m mo mi:ME}{ms:MA}{pos:Pos}{mt mt':MT}{s1 s2:MS}{g g':MG}{gs:MGs}{it it2:MI}{fr:Option (List (Option Nat))}
theorem wd (n:Nat){x:Str}(hN:∀i,(C i).N.Nodup)(hi:∀i,(C i).N[n]?=some x:=by intro _;rfl)(hx:∀i,Loc (C i).env.scope x:=by first|exact λ_=>Or.inl rfl|exact λ_=>Or.inr rfl)(hf:∀i,(C i).fn x=true∨(C i).env.scope.names.lookup x=some .local:=by first|exact λ_=>.inl rfl|exact λ_=>.inr rfl)
  (hfr:∀f,fr=some f->f[n]?=some none:=by first|(intro f h;cases h;done)|(intro f h;cases h;rfl)):QG C K fr (.Name x pos) (ae n):=
 ⟨_,λi=>vH (hN i) (hi i) (hx i) (hf i),jP,λf hf'=>u5 (hfr f hf')⟩
theorem o4:QGs C K fr 0 [] mGNil:=by with_unfolding_all exact⟨_,λ_=>vI,tT,λ_ _=>yk,λrs ρ ρ' h=>by cases rs<;>first|rfl|cases h⟩
theorem fM {n:Nat}(h1:QG C K fr e g)(h2:QGs C K fr n es gs)(hs:∀i,(assignEach (e::es) (C i).env).map (·.2)=assign e (C i).env::(assignEach es (C i).env).map (·.2):=by intro _;rfl):QGs C K fr (n+1) (e::es) (ax g gs):=by with_unfolding_all
 obtain⟨g1,p1,r1,k1⟩:=h1
 obtain⟨g2,p2,r2,k2,l2⟩:=h2
 refine⟨_,λi=>sE (p1 i) (p2 i) (hs i),qC r1 r2,λf hf=>u4 (k1 f hf) (k2 f hf),λrs ρ ρ' h=>?_⟩
 cases rs with
 | nil=>cases h
 | cons r rs=>
  simp only[ax]at h
  split at h
  ·split at h
   ·rw[DQ,l2 _ _ _ h]
   ·cases h
  ·cases h
theorem tw {n k0:Nat}(ck:CK C P W K mg base k)(h:QGs C K fr n es gs)(hn:∀i,(assignEach es (C i).env).length=n:=by intro _;rfl)(hst:∀i,(assignEach es (C i).env).findIdx? (·.1)=none:=by intro _;rfl):QG C K fr (.Tuple es k0 pos) (bC gs):=by
 obtain⟨g,p,r,kk,l⟩:=h
 exact⟨_,λi=>tgK (ck.kk i) (ck.calm i) (p i) (hn i) (hst i),tU r l,λf hf=>yl (kk f hf)⟩
theorem zI (j:Nat)(ho:QE C K o mo)(hi:QE C K e mi)
  (ha:∀i v,assign (.Subscript o e pos) (C i).env v=(do
   let ov ←holding [v] (eval o (C i).env)
   let iv ←holding [v,ov] (eval e (C i).env)
   standAt pos
   holding [v,ov,iv] (setItem ov iv v)
   release [v,ov,iv] []):=by intro _ _;rfl):QG C K none (.Subscript o e pos) (nA j mo mi):=by
 obtain⟨to,p,r⟩:=ho
 obtain⟨ti,p',r'⟩:=hi
 exact⟨_,λi=>zm (p i) (p' i) ur (ha i),wK r r',λf h=>by cases h⟩
theorem zN:QSs C K [] mNext:=⟨_,λ_=>vU,tX⟩
theorem zO {st:Stmt}(h1:QS C K st s1):QSs C K [st] s1:=by
 obtain⟨t,p,r⟩:=h1
 exact⟨_,λi=>vV (p i),r⟩
theorem wg {st:Stmt}{rest:List Stmt}(h1:QS C K st s1)(h2:QSs C K rest s2):QSs C K (st::rest) (ao s1 s2):=by
 obtain⟨t,p,r⟩:=h1
 obtain⟨u,p',r'⟩:=h2
 exact⟨_,λi=>tf (p i) (p' i),wJ r r'⟩
theorem Ch {b1 b2:List Stmt}(hc:QT C K c mt)(h1:QSs C K b1 s1)(h2:QSs C K b2 s2):QS C K (.If c b1 b2 pos) (mIf mt s1 s2):=by
 obtain⟨tc,p0,r0⟩:=hc
 obtain⟨t,p,r⟩:=h1
 obtain⟨u,p',r'⟩:=h2
 exact⟨_,λi=>BQ (p0 i) (p i) (p' i),wB r0 r r'⟩
theorem zQ (h:QE C K e m):QS C K (.Return (some e) pos) (bf m):=by
 obtain⟨t,p,r⟩:=h
 exact⟨_,λi=>zx (p i),wH r⟩
theorem wj (h:QE C K e m)(hs:∀i,swapsWith e none pos.line (C i).env=pure false:=by intro _;rfl):QS C K (.Expr e pos) (be m):=by
 obtain⟨t,p,r⟩:=h
 exact⟨_,λi=>vS (p i) (hs i),tR r⟩
theorem zL (h:QE C K e m)(hg:QG C K none tg g)(hs:∀i,swapsWithSole [tg] e pos.line (C i).env=pure false:=by intro _;rfl)(hw:∀i,swappedStores [tg] e (C i).env=pure none:=by intro _;rfl)
  (h1:∀i,(assignEach [tg] (C i).env).map (·.2)=[assign tg (C i).env]:=by intro _;rfl):QS C K (.Assign [tg] e pos) (aB m g):=by
 obtain⟨t,p,r⟩:=h
 obtain⟨u,p',r',_⟩:=hg
 exact⟨_,λi=>zu (p i) (p' i) (hs i) (hw i) (h1 i),lD r r'⟩
theorem zR (n:Nat){x:Str}{pos':Pos}(hN:∀i,(C i).N.Nodup)(he:QE C K e m)(hi:∀i,(C i).N[n]?=some x:=by intro _;rfl)(hx:∀i,Loc (C i).env.scope x:=by first|exact λ_=>Or.inl rfl|exact λ_=>Or.inr rfl)(hs:∀i,swapsWith e (some (.Name x pos')) pos.line (C i).env=pure false:=by intro _;rfl)(hf:∀i,(C i).fn x=true∨(C i).env.scope.names.lookup x=some .local:=by first|exact λ_=>.inl rfl|exact λ_=>.inr rfl) :
  QS C K (.Assign [.Name x pos'] e pos) (aB m (ae n)):=by
 obtain⟨t,p,r⟩:=he
 exact⟨_,λi=>zy (hN i) (hi i) (hx i) (p i) (hs i) (hf i),lD r jP⟩
noncomputable def vg (i j:Nat) (a:MA):MS:=⟨λρ=>match a.run ρ with
 | some ([r1,r2],ρ1)=>if(cN ρ1 i&&au [i] r1&&au [i] r2&&cN ρ1 j&&au [j] r2)=true then some (.nx,(aq [j] ((aq [i] ρ1).set i (some r1))).set j (some r2))else none
 | _=>none,a.mu++[i,j]⟩
theorem gc {ρ:Rho}{i j:Nat}{r:R}(h:cN ρ j=true)(hr:∀n,r.k ≠ .io n):cN ((aq [i] ρ).set i (some r)) j=true:=by
 unfold cN at h⊢
 by_cases e:j=i
 ·subst e
  have hl:j < ρ.length:=by
   cases q : ρ[j]? with
   | none=>rw[q]at h;cases h
   | some o=>exact(DB.mp q).1
  rw[Es (by rw[aI];exact hl)]
  obtain⟨k,t⟩:=r
  cases k with
  | io n=>exact absurd rfl (hr n)
  | _=>rfl
 ·rw[DW (Ne.symm e)]
  unfold aq
  rw[DG]
  cases q : ρ[j]? with
  | none=>rw[q]at h;cases h
  | some o=>
   rw[q]at h
   cases o with
   | none=>rfl
   | some x=>
    show(match some (ca [i] (some x))with|some (some ⟨.io _,_⟩)=>false|some _=>true|none=>false)=true
    cases hk:ca [i] (some x)with
    | none=>rfl
    | some y=>
     obtain⟨e1,_⟩:=killO_iff.mp hk
     cases e1
     exact h
noncomputable def dD (r:R):Bool:=match r.k with
 | .io _=>false
 | _=>true
theorem wG {i j:Nat}{ta:TA}{a:MA}(ha:fv K ta a)(hio:∀ρ rs ρ',a.run ρ=some (rs,ρ')->True):dM K (CI i j ta) (vg i j ⟨λρ=>match a.run ρ with
  | some (rs,ρ1)=>if rs.all dD=true then some (rs,ρ1)else none
  | none=>none,a.mu⟩):=by
 intro Γ H ρ Z E D f ρ' hK hE hr S q
 simp only[vg]at hr q
 split at hr
 ·rename_i r1 r2 ρ1 e1
  split at e1
  ·rename_i rs ρ2 e2
   split at e1
   ·rename_i hall
    cases e1
    split at hr
    ·rename_i hb
     cases hr
     simp only[DD]at hb
     obtain⟨⟨⟨⟨b1,b2⟩,b3⟩,b4⟩,b5⟩:=hb
     refine ha Γ H ρ Z E _ _ _ hK e2 S λvs H1 hl S1=>?_
     obtain⟨v,w,rfl⟩:∃v w,vs=[v,w]:=by
      cases vs with
      | nil=>cases hl
      | cons v r=>cases r with
       | nil=>cases hl
       | cons w r=>cases r with
        | nil=>exact⟨v,w,rfl⟩
        | cons _ _=>cases hl
     have S1:Sim Γ H1 ρ1 Z (⟨none,v,r1⟩::⟨none,w,r2⟩::af a.mu E):=S1
     refine⟨v,w,rfl,q _ H1 ?_⟩
     have S2:=S1.put b1 (cF b2)
     rw[av (bh b3)]at S2
     have hr1:∀n,r1.k ≠ .io n:=λn z=>by
      have:=Et.mp hall r1 ymS
      unfold dD at this
      rw[z]at this
      cases this
     have S3:=S2.put (gc b4 hr1) (cF b5)
     rw[ag,ag]at S3
     have:a.mu++([i]++[j])=a.mu++[i,j]:=rfl
     rw[←DU]at this
     exact S3
    ·cases hr
   ·cases e1
  ·cases e1
 ·cases hr
@[irreducible] noncomputable def jD (i j:Nat)(a:MA):MS:=vg i j ⟨λρ=>match a.run ρ with
  | some (rs,ρ1)=>if rs.all dD=true then some (rs,ρ1)else none
  | none=>none,a.mu⟩
theorem zP (i j:Nat){x y:Str}{px py pt:Pos}{kt k2 pt2}(ck:CK C P W K mg base k)(hN:∀i,(C i).N.Nodup)(ha:QA C K [a,b] ms)(hi:∀n,(C n).N[i]?=some x:=by intro _;rfl)(hj:∀n,(C n).N[j]?=some y:=by intro _;rfl)(hij:i≠j:=by decide)
  (hx:∀n,(C n).env.scope.names.lookup x=some .local:=by intro _;rfl) (hy:∀n,(C n).env.scope.names.lookup y=some .local:=by intro _;rfl)
  (hw:∀n,swappedStores [.Tuple [.Name x px,.Name y py] kt pt] (.Tuple [a,b] k2 pt2) (C n).env=pure (some [x,y]):=by intro _;rfl)
  (hs:∀n,swapsWithSole [.Tuple [.Name x px,.Name y py] kt pt] (.Tuple [a,b] k2 pt2) pos.line (C n).env=pure false:=by intro _;rfl) :
  QS C K (.Assign [.Tuple [.Name x px,.Name y py] kt pt] (.Tuple [a,b] k2 pt2) pos) (jD i j ms):=by with_unfolding_all
 obtain⟨ta,p,_,r⟩:=ha
 exact⟨_,λn=>zw (ck.calm n) (hN n) (hi n) (hj n) hij (hx n) (hy n) (p n) (hw n) (hs n),wG r (λ_ _ _ _=>trivial)⟩
theorem tz {body:List Stmt}(hp:∀i,PassesOwn (model (C i).prog (C i).w) (C i).A (C i).env (C i).xe)(hc:QT C K c mt)(hb:QSs C K body s1):QS C K (.While c body [] pos) (eV mt s1):=by
 obtain⟨tc,p,r⟩:=hc
 obtain⟨tb,p',r'⟩:=hb
 exact⟨_,λi=>sZ (hp i) (p i) (p' i),qF r r'⟩
theorem zM {body:List Stmt}(ck:CK C P W K mg base k)(hp:∀i,PassesOwn (model (C i).prog (C i).w) (C i).A (C i).env (C i).xe)(hi:QI C K tg iter it)(hg:QG C K none tg g)(hb:QSs C K body s1)(hs:∀i x,foldedSetIterable iter (C i).env x=pure x:=by intro _ _;rfl):QS C K (.For tg iter body [] pos) (bQ it g s1):=by
 obtain⟨wi,p,r⟩:=hi
 obtain⟨tg',p1,r1,_⟩:=hg
 obtain⟨tb,p',r'⟩:=hb
 exact⟨_,λi=>zv (hp i) (ck.calm i) (p i) (p1 i) (p' i) (hs i),wy r r1 r'⟩
theorem qv {p:Pos}(ck:CK C P W K mg base k)(T:Bi mg)(ha:QA C K [a] ms)(hg:∀i,Gl (C i) "range" :=by intro _;rfl)(hs:bG a=false:=by rfl):QI C K tg (.Call (.Name "range" p) [a] [] pos) (aW ms):=by
 obtain⟨ta,q,_,r⟩:=ha
 exact⟨_,λi=>qd (hg i) (by rw[ck.mg i];exact T.b_range) (q i) (by rw[bg hs];rfl),ua r⟩
theorem qw {p:Pos}(ck:CK C P W K mg base k)(T:Bi mg)(ha:QA C K [a,b] ms)(hg:∀i,Gl (C i) "range" :=by intro _;rfl)(hs:bG a=false:=by rfl)(hs2:bG b=false:=by rfl):QI C K tg (.Call (.Name "range" p) [a,b] [] pos) (ft ms):=by
 obtain⟨ta,q,_,r⟩:=ha
 exact⟨_,λi=>qf (hg i) (by rw[ck.mg i];exact T.b_range) (q i) (by rw[bg hs,bg hs2];rfl) (by rw[bg hs2];rfl),ub r⟩
theorem PI.or {X:Cx}{w1 w2:TI}(h1:PI X tg iter w1)(h2:PI X tg iter w2):PI X tg iter (λZ H R=>w1 Z H R∨w2 Z H R):=by
 intro pins s Z H R I h
 rcases h with h|h
 ·exact h1 pins s Z H R I h
 ·exact h2 pins s Z H R I h
noncomputable def eT:R->Option (List R)
 | ⟨_,.li is⟩=>some (is.map λi=>⟨.ow,.im i⟩)
 | ⟨.vw ro _,.lst ts⟩=>some (ts.map (partV ro))
 | ⟨_,.im (.tup is)⟩=>some (is.map λi=>⟨.ow,.im i⟩)
 | ⟨_,.im (.str z)⟩=>some ((sL z).map λc=>⟨.ow,.im (.str ⟨#[c]⟩)⟩)
 | ⟨_,.im (.ls is)⟩=>some (is.map λi=>⟨.ow,.im i⟩)
 | _=>none
@[irreducible] noncomputable def mIt (a:ME):MI:=⟨λρ=>match a.run ρ with
 | some (r,ρ1)=>(match eT r with
  | some rs=>some (([r],rs),ρ1)
  | none=>none)
 | none=>none,a.mu⟩
theorem xb {Γ:Gm}{z:Str}{v:V}{src:R}:gq Γ (Its z) [v] [src] ((sL z).map λc=>⟨.ow,.im (.str ⟨#[c]⟩)⟩):=λH ρ Z E S=>by
 refine⟨λi hi=>?_,λi r hr=>?_⟩
 ·show z.cps.size<=i
  simpa[sL]using hi
 ·obtain⟨c,hc,rfl⟩:=aZ hr
  have hc':z.cps[i]?=some c:=by simpa[sL]using hc
  refine⟨?_,λx H' y=>?_⟩
  ·show i<z.cps.size
   exact(Array.getElem?_eq_some_iff.mp hc').1
  ·obtain⟨rfl,c',h1,rfl⟩:=y
   rw[hc']at h1;cases h1
   exact S.imm (iT rfl)
theorem Ag {ta:TE}(ha:aU K ta m):jc K (λZ H R=>oQ K ta Z H R∨(u6 K ta Z H R∨Ba ta Z H R)) (mIt m):=by with_unfolding_all
 intro Γ H ρ Z E Rr src items ρ' hK hr S q
 simp only[mIt]at hr
 split at hr
 ·rename_i r ρ1 e1
  split at hr
  ·rename_i rs e2
   cases hr
   unfold eT at e2
   split at e2
   ·rename_i k0 is
    exact .inl (lE ha Γ H ρ Z E Rr _ items ρ' hK (by simp only[rT,e1,gA];cases e2;rfl) S q)
   ·exact .inl (lE ha Γ H ρ Z E Rr _ items ρ' hK (by simp only[rT,e1,gA];cases e2;rfl) S q)
   ·exact .inr (.inl (wC ha Γ H ρ Z E Rr _ items ρ' hK (by simp only[yy,e1,jx];cases e2;rfl) S q))
   ·rename_i k0 z
    cases e2
    right;right
    refine ha Γ H ρ Z E _ _ _ hK e1 S λx H1 S1=>?_
    exact⟨z,cS (S1.rd ymS),q _ [x] H1 rfl S1 xb⟩
   ·exact .inl (lE ha Γ H ρ Z E Rr _ items ρ' hK (by simp only[rT,e1,gA];cases e2;rfl) S q)
   ·cases e2
  ·cases hr
 ·cases hr
theorem zJ (ck:CK C P W K mg base k)(ha:QE C K iter m):QI C K tg iter (mIt m):=by
 obtain⟨ta,q,r⟩:=ha
 exact⟨_,λi=>PI.or (ilK (ck.kk i) (q i)) (PI.or (itK (ck.kk i) (q i)) (vL (q i))),Ag r⟩
@[irreducible] noncomputable def mYes:MT:=⟨λρ=>some (true,ρ),[]⟩
theorem wN:eA K CO mYes:=by with_unfolding_all
 intro Γ H ρ Z E Q b ρ' hK hr S q
 cases hr
 exact q H (by rw[show mYes.mu=[]from rfl,bW];exact S)
theorem wn:QTs C K [] mYes:=⟨_,λ_=>vX,wN⟩
theorem wo (h:QT C K c mt):QTs C K [c] mt:=by
 obtain⟨t,p,r⟩:=h
 exact⟨_,λi=>vY (p i),r⟩
section
variable  {elt tg2 iter2:Expr}{ifs:List Expr}{scope:Scope}
theorem bv {N':List Str}{f:List (Option Nat)}(ck:CK C P W K mg base k)(hB:∀i,Blk (C i).env.scope scope (C i).N N' f)(hi:QI C K tg iter it)(hg:QG (iV C scope N') K (some f) tg g)(ht:QTs (iV C scope N') K ifs mt)(he:QE (iV C scope N') K elt m)(hs:∀i x,foldedSetIterable iter (C i).env x=pure x:=by intro _ _;rfl) :
  QE C K (.ListComp elt [⟨tg,iter,ifs,0⟩] scope pos) (aR f it g mt m):=by
 obtain⟨wi,p0,r0⟩:=hi
 obtain⟨gg,p1,r1,kk⟩:=hg
 obtain⟨tt,p2,r2⟩:=ht
 obtain⟨te,p3,r3⟩:=he
 exact⟨_,λi=>vD (ck.calm i) (hB i) (p0 i) (λb=>p1 (i,b)) (kk f rfl) (λb=>p2 (i,b)) (λb=>p3 (i,b)) (hs i),mJ r0 (kk f rfl) r1 r2 r3⟩
theorem bV (n:Nat){x:Str}{pos' spos:Pos}{N':List Str}{f:List (Option Nat)}(ck:CK C P W K mg base k)(hN:∀i,(C i).N.Nodup)(hB:∀i,Blk (C i).env.scope scope (C i).N N' f)(hi:QI C K tg iter it)(hg:QG (iV C scope N') K (some f) tg g)(ht:QTs (iV C scope N') K ifs mt)(he:QE (iV C scope N') K elt m)(hn:∀i,(C i).N[n]?=some x:=by intro _;rfl)(hx:∀i,(C i).env.scope.names.lookup x=some .local:=by intro _;rfl)
  (hsw:∀i,swapsWith (.ListComp elt [⟨tg,iter,ifs,0⟩] scope pos) (some (.Name x pos')) spos.line (C i).env=pure true:=by intro _;rfl) (hs:∀i x,foldedSetIterable iter (C i).env x=pure x:=by intro _ _;rfl) :
  QS C K (.Assign [.Name x pos'] (.ListComp elt [⟨tg,iter,ifs,0⟩] scope pos) spos) (aB (aR f it g mt m) (ae n)):=by
 obtain⟨wi,p0,r0⟩:=hi
 obtain⟨gg,p1,r1,kk⟩:=hg
 obtain⟨tt,p2,r2⟩:=ht
 obtain⟨te,p3,r3⟩:=he
 exact⟨_,λi=>nP (ck.calm i) (hN i) (hn i) (hx i) (hB i) (p0 i) (λb=>p1 (i,b)) (kk f rfl) (λb=>p2 (i,b)) (λb=>p3 (i,b)) (hsw i) (hs i),lD (mJ r0 (kk f rfl) r1 r2 r3) jP⟩
theorem wb {N':List Str}{f f2:List (Option Nat)}(ck:CK C P W K mg base k)(hB:∀i,Blk (C i).env.scope scope (C i).N N' f)(hsub:mS f f2=true)(hi:QI C K tg iter it)(hg:QG (iV C scope N') K (some f) tg g)(hi2:QI (iV C scope N') K tg2 iter2 it2)(hg2:QG (iV C scope N') K (some f2) tg2 g')(ht:QTs (iV C scope N') K ifs mt)(he:QE (iV C scope N') K elt m)(hs:∀i x,foldedSetIterable iter (C i).env x=pure x:=by intro _ _;rfl)(hs2:∀i b x,foldedSetIterable iter2 (cxB (C i) scope N' b).env x=pure x:=by intro _ _ _;rfl) :
  QE C K (.ListComp elt [⟨tg,iter,[],0⟩,⟨tg2,iter2,ifs,0⟩] scope pos) (ir f f2 it g it2 g' mt m):=by
 obtain⟨wi,p0,r0⟩:=hi
 obtain⟨gg,p1,r1,kk⟩:=hg
 obtain⟨wi2,p4,r4⟩:=hi2
 obtain⟨gg2,p5,r5,kk2⟩:=hg2
 obtain⟨tt,p2,r2⟩:=ht
 obtain⟨te,p3,r3⟩:=he
 exact⟨_,λi=>sw (ck.calm i) (hB i) hsub (p0 i) (λb=>p1 (i,b)) (kk f rfl) (λb=>p4 (i,b)) (λb=>p5 (i,b)) (kk2 f2 rfl) (λb=>p2 (i,b)) (λb=>p3 (i,b)) (hs i) (hs2 i),qA r0 (kk f rfl) r1 r4 (kk2 f2 rfl) r5 r2 r3⟩
end
end
structure DI (k:Nat)(name:Str)(st:Stmt) where
 f:Addr
 cdv:Value
 A:Around
 outer:List Env
 s:Shared
 H:Hp
 E:XK
 hr:Room k (A.deeper (envOfC name (aj st) s.heap.objs.size f cdv))
noncomputable abbrev dC (P:Program) (W:World) (K:yF) (mg:Str->Option Value) (base:Heap) (k:Nat) (N:List Str) (name:Str) (st:Stmt):DI k name st->Cx:=λd=>(jW CX0 P W K mg base N name (aj st) d.f d.cdv d.A d.outer d.s d.H d.E).nox
theorem rj {N:List Str}{name:Str}{st:Stmt}:CK (dC P W K mg base k N name st) P W K mg base k:=
 ⟨λ_=>rfl,λ_=>rfl,λ_=>rfl,λ_=>rfl,λ_=>rfl,λ_=>rfl,λd=>d.hr⟩
theorem Def.qp {name:Str}{st:Stmt}{N ps:List Str}(d:Def K mg name st ps)(S:FnScope N ps (aj st)){m:MS}(h:QSs (dC P W K mg base k N name st) K (br st) m)
  {run:List T->Option T} (hrun:∀ts,run ts=if ts.length=ps.length then dr m N.length ts else none):Has P W K mg base (k+1) name ps (spP K run):=by
 obtain⟨t,p,r⟩:=h
 exact d.mp S (λf cdv A outer s H E hr=>⟨t,p ⟨f,cdv,A,outer,s,H,E,hr⟩,r⟩) hrun
theorem Def.qi {name:Str}{st:Stmt}{N ps:List Str}{j:Nat}(d:Def K mg name st ps)(S:FnScope N ps (aj st)){m:MS}(h:QSs (dC P W K mg base k N name st) K (br st) m)
  {run:List T->Option (T×T)} (hrun:∀ts,run ts=if ts.length=ps.length then eN m j N.length ts else none):Has P W K mg base (k+1) name ps (spI K j run):=by
 obtain⟨t,p,r⟩:=h
 exact d.mi S (λf cdv A outer s H E hr=>⟨t,p ⟨f,cdv,A,outer,s,H,E,hr⟩,r⟩) hrun
section
variable  {Γ:Gm}{H H':Hp}{L:List Hd}{ρ:Rho}{Z:St}{E X:List En}{v w x y:V}{t s:T}{K:yF}{Q:VK}
@[irreducible] noncomputable def mCallT (k:Nat)(run:List T->Option (T×T))(a:MA):ME:=⟨λρ=>match a.run ρ with
 | some (rs,ρ1)=>(match rs[k]? with
  | some ⟨.ow,_⟩=>(match run (rs.map (·.t))with
   | some (t,_)=>some (⟨.ow,t⟩,ρ1)
   | none=>none)
  | _=>none)
 | none=>none,a.mu⟩
@[irreducible] noncomputable def gC (j:Nat)(o:ME)(lo hi:ME):MG:=⟨λr ρ=>match r with
 | ⟨.ow,.li ys⟩=>match o.run ρ with
  | some (⟨.vw (some j') (some p),.li xs⟩,ρ1)=>match lo.run ρ1 with
   | some (⟨_,.im (.int a)⟩,ρ2)=>match hi.run ρ2 with
    | some (⟨_,.im (.int c)⟩,ρ3)=>if(decide (j'=j) && !(lo.mu++hi.mu).contains j&&decide (0<=a/\a<=c/\c<=xs.length/\xs.length+ys.length<=sizeLine))=true then(match ρ3[j]? with
     | some (some ⟨k,t⟩)=>if k.isOw=true then some ((aq [j] ρ3).set j (some ⟨k,t.put p (.li (xs.take a.toNat++ys++xs.drop c.toNat))⟩))else none
     | _=>none)else none
    | _=>none
   | _=>none
  | _=>none
 | _=>none,(o.mu++(lo.mu++hi.mu))++[j]⟩
theorem qE {to tl th:TE}{o lo hi:ME}{j:Nat}(ho:aU K to o)(hl:aU K tl lo)(hh:aU K th hi):iU K (rF to (pd tl) (pd th)) (gC j o lo hi):=by
 intro Γ H ρ Z E Q v r ρ' hK hr S q
 simp only[gC]at hr q
 split at hr
 ·rename_i ys
  split at hr
  ·rename_i j' p xs ρ1 e1
   split at hr
   ·rename_i k1 a ρ2 e2
    split at hr
    ·rename_i k2 c ρ3 e3
     split at hr
     ·rename_i hc
      rw[DD,DD,decide_eq_true_eq,El,decide_eq_true_eq]at hc
      obtain⟨⟨rfl,hmv⟩,hz⟩:=hc
      split at hr
      ·rename_i k t e4
       split at hr
       ·rename_i hw
        cases hr
        refine ho Γ H ρ Z _ _ _ _ hK e1 S λx H1 S1=>?_
        refine hl Γ H1 ρ1 Z _ _ _ _ hK e2 S1 λya H2 S2=>?_
        refine⟨a,aN (S2.rd ymS),?_⟩
        refine hh Γ H2 ρ2 Z _ _ _ _ hK e3 (S2.drop rfl) λyc H3 S3=>?_
        refine⟨c,aN (S3.rd ymS),?_⟩
        have S4:=S3.drop rfl
        have k1':aE (lo.mu++hi.mu) ⟨none,x,⟨.vw (some j') (some p),.li xs⟩⟩=true:=by unfold aE;simp only[Kd.root];rw[hmv];rfl
        have k2':∀M:List Nat,aE M ⟨none,v,⟨.ow,.li ys⟩⟩=true:=λM=>rfl
        rw[ag,av k1',ag,av (k2' _)]at S4
        obtain⟨G,F,h1,h2,h3,h4,h5⟩:=Sim.mut (vs:=[v]) (ts:=[.li ys]) (S4.perm (List.Perm.swap _ _ _)) rfl e4 hw
        obtain⟨p0,xs',rfl,g1,g2,rfl⟩:=jG h1 λa ha=>h4 a (yaL _ ha)
        obtain⟨z,ez,g3⟩:=uk h2
        cases ez
        obtain⟨b0,ys',rfl,g4,g5,rfl⟩:=jG g3 λa ha=>h4 a (yaR _ ha)
        have hne:p0≠b0:=λz=>by
         have:=h3
         rw[z]at this
         simp at this
        refine⟨p0,b0,xs',ys',a,c,rfl,rfl,rfl,rfl,g1,g4,hne,hz.1,hz.2.1,by rw[g2.length];exact hz.2.2.1,by rw[g2.length,g5.length];exact hz.2.2.2,?_⟩
        refine gI (Q:=λ_ H'=>Q Z H') (F:=[b0]) (v:=.non) (i:=.non) g1 (((g2.take _).append g5).append (g2.drop _)) bM λv' H' G' a1 a2 a3 a4 a5 _=>q Z H' ?_
        have:=h5 H' _ G' a1 a2 a3 a4 a5
        rw[ag]at this
        exact this
       ·cases hr
      ·cases hr
     ·cases hr
    ·cases hr
   ·cases hr
  ·cases hr
 ·cases hr
noncomputable def iu:MS:=⟨λ_=>none,[]⟩
theorem qD {t:TS}:dM K t iu:=by
 intro Γ H ρ Z E D f ρ' hK hE hr S q
 cases hr
end
variable  {ι : Type}{C:ι->Cx}{P:Program}{W:World}{K:yF}{mg:Str->Option Value}{base:Heap}{k:Nat}
section
variable  {a b c e o tg iter:Expr}{es:List Expr}{ma mb mc m mo mi ml mh:ME}{ms:MA}{pos:Pos}{mt mt':MT}{s1 s2:MS}{g g':MG}{gs:MGs}{it it2:MI}{fr:Option (List (Option Nat))}
end
section
variable  {Γ:Gm}{H H':Hp}{ρ:Rho}{Z:St}{E:List En}{v w x y:V}{t s:T}{K:yF}{Q:VK}
@[irreducible] noncomputable def ac (n:Nat)(ms:MA):MA:=⟨λρ=>match ms.run ρ with
 | some (rs,ρ2)=>(match ρ2[n]? with
  | some (some r)=>(match ρ[n]? with
   | some (some _)=>some (rdR n r::rs,ρ2)
   | _=>none)
  | _=>none)
 | none=>none,ms.mu⟩
theorem qB {n:Nat}{ta:TA}{ms:MA}(h2:fv K ta ms):fv K (pb (wW n) ta) (ac n ms):=by with_unfolding_all
 intro Γ H ρ Z E Q rs ρ' hK hr S q
 simp only[ac]at hr
 split at hr
 ·rename_i rs1 ρ2 e2
  split at hr
  ·rename_i r e3
   split at hr
   ·rename_i r0 e4
    cases hr
    obtain⟨v,hv,_⟩:=S.var e4
    refine⟨v,hv,?_⟩
    refine h2 Γ H ρ Z E _ rs1 _ hK e2 S λvs H2 hl S2=>q (v::vs) H2 (by rw[DQ,DQ,hl]) ?_
    obtain⟨v',hv',S3⟩:=S2.var e3
    rw[hv]at hv'
    cases hv'
    exact S3
   ·cases hr
  ·cases hr
 ·cases hr
@[irreducible] noncomputable def kA (i j k:Nat)(a:MA):MS:=⟨λρ=>match a.run ρ with
 | some ([r1,r2,r3],ρ1)=>if(dD r1&&dD r2&&cN ρ1 i&&au [i] r1&&au [i] r2&&au [i] r3&&cN ρ1 j&&au [j] r2&&au [j] r3&&cN ρ1 k&&au [k] r3)=true then some (.nx,(aq [k] ((aq [j] ((aq [i] ρ1).set i (some r1))).set j (some r2))).set k (some r3))else none
 | _=>none,a.mu++[i,j,k]⟩
theorem iz {r:R}(h:dD r=true):∀n,r.k ≠ .io n:=λn z=>by
 unfold dD at h
 rw[z]at h
 cases h
theorem tZ {i j k:Nat}{ta:TA}{a:MA}(ha:fv K ta a):dM K (xP i j k ta) (kA i j k a):=by
 intro Γ H ρ Z E D f ρ' hK hE hr S q
 simp only[kA]at hr q
 split at hr
 ·rename_i r1 r2 r3 ρ1 e1
  split at hr
  ·rename_i hb
   cases hr
   simp only[DD]at hb
   obtain⟨⟨⟨⟨⟨⟨⟨⟨⟨⟨n1,n2⟩,b1⟩,b2⟩,b3⟩,b4⟩,b5⟩,b6⟩,b7⟩,b8⟩,b9⟩:=hb
   refine ha Γ H ρ Z E _ _ _ hK e1 S λvs H1 hl S1=>?_
   obtain⟨v,w,u,rfl⟩:∃v w u,vs=[v,w,u]:=by
    cases vs with
    | nil=>cases hl
    | cons v r=>cases r with
     | nil=>cases hl
     | cons w r=>cases r with
      | nil=>cases hl
      | cons u r=>cases r with
       | nil=>exact⟨v,w,u,rfl⟩
       | cons _ _=>cases hl
   have S1:Sim Γ H1 ρ1 Z (⟨none,v,r1⟩::⟨none,w,r2⟩::⟨none,u,r3⟩::af a.mu E):=S1
   refine⟨v,w,u,rfl,q _ H1 ?_⟩
   have S2:=S1.put b1 (cF b2)
   rw[av (bh b3),av (bh b4)]at S2
   have S3:=S2.put (gc b5 (iz n1)) (cF b6)
   rw[av (bh b7)]at S3
   have S4:=S3.put (gc (gc b8 (iz n1)) (iz n2)) (cF b9)
   rw[ag,ag,ag]at S4
   exact S4
  ·cases hr
 ·cases hr
end
variable  {ι : Type}{C:ι->Cx}{P:Program}{W:World}{K:yF}{mg:Str->Option Value}{base:Heap}{k:Nat}
section
variable  {a b c e o tg iter:Expr}{es:List Expr}{ma mb mc m mo mi ml mh:ME}{ms:MA}{pos:Pos}{mt mt':MT}{s1 s2:MS}{g g':MG}{gs:MGs}{it it2:MI}{fr:Option (List (Option Nat))}
theorem tq (n:Nat){x:Str}{p:Pos}(h2:QA C K es ms)(hN:∀i,(C i).N[n]?=some x:=by intro _;rfl)(hv:∀i,Vis (C i).env.scope x:=by first|exact λ_=>Or.inl rfl|exact λ_=>Or.inr (Or.inl rfl)|exact λ_=>Or.inr (Or.inr rfl))(hd:(x==("__debug__" : Str))=false:=by decide)(hcd:(x==("__classdict__" : Str))=false:=by decide):QA C K (.Name x p::es) (ac n ms):=by
 obtain⟨ta,c,n',d⟩:=h2
 exact⟨_,λi=>cP (nN (hN i) (hv i) hd hcd) (c i) rfl,by rw[ba,n'];rfl,qB d⟩
theorem tu (j:Nat){lo hi:Expr}{p2:Pos}(ho:QE C K o mo)(hl:QE C K lo ml)(hh:QE C K hi mh)
  (ha:∀i v,assign (.Subscript o (.Slice (some lo) (some hi) none p2) pos) (C i).env v=(do
   let ov ←holding [v] (eval o (C i).env)
   let iv ←holding [v,ov] (eval (.Slice (some lo) (some hi) none p2) (C i).env)
   standAt pos
   holding [v,ov,iv] (setItem ov iv v)
   release [iv,v,ov] []):=by intro _ _;rfl):QG C K none (.Subscript o (.Slice (some lo) (some hi) none p2) pos) (gC j mo ml mh):=by
 obtain⟨to,p,r⟩:=ho
 obtain⟨tl,p',r'⟩:=hl
 obtain⟨th,p'',r''⟩:=hh
 exact⟨_,λi=>sD (p i) (lw (p' i)) (lw (p'' i)) (ha i),qE r r' r'',λf h=>by cases h⟩
theorem wl (i j l:Nat){x y z:Str}{px py pz pt:Pos}{kt k2 pt2}(ck:CK C P W K mg base k)(hN:∀i,(C i).N.Nodup)(ha:QA C K [a,b,c] ms)(hi:∀n,(C n).N[i]?=some x:=by intro _;rfl)(hj:∀n,(C n).N[j]?=some y:=by intro _;rfl)(hk:∀n,(C n).N[l]?=some z:=by intro _;rfl)(hij:i≠j:=by decide)(hik:i≠l:=by decide)(hjk:j≠l:=by decide)
  (hx:∀n,(C n).env.scope.names.lookup x=some .local:=by intro _;rfl) (hy:∀n,(C n).env.scope.names.lookup y=some .local:=by intro _;rfl) (hz:∀n,(C n).env.scope.names.lookup z=some .local:=by intro _;rfl)
  (hw:∀n,swappedStores [.Tuple [.Name x px,.Name y py,.Name z pz] kt pt] (.Tuple [a,b,c] k2 pt2) (C n).env=pure (some [x,y,z]):=by intro _;rfl)
  (hs:∀n,swapsWithSole [.Tuple [.Name x px,.Name y py,.Name z pz] kt pt] (.Tuple [a,b,c] k2 pt2) pos.line (C n).env=pure false:=by intro _;rfl) :
  QS C K (.Assign [.Tuple [.Name x px,.Name y py,.Name z pz] kt pt] (.Tuple [a,b,c] k2 pt2) pos) (kA i j l ms):=by
 obtain⟨ta,p,_,r⟩:=ha
 exact⟨_,λn=>vT (ck.calm n) (hN n) (hi n) (hj n) (hk n) hij hik hjk (hx n) (hy n) (hz n) (p n) (hw n) (hs n),tZ r⟩
theorem iC {st:List Stmt}:QSs C K st iu:=⟨λ_ _ _=>False,λ_ _ _ _ _ _ _ h=>h.elim,qD⟩
end
variable  {ι : Type}{C:ι->Cx}{P:Program}{W:World}{K:yF}{mg:Str->Option Value}{base:Heap}{k:Nat}
section
variable  {Γ:Gm}{H:Hp}{ρ:Rho}{Z:St}{E:List En}
noncomputable def fgt (i:Nat) (ρ:Rho):Rho:=(aq [i] ρ).set i none
theorem Sim.fgt (S:Sim Γ H ρ Z E)(i:Nat):Sim Γ H (L2.fgt i ρ) Z (af [i] E):=by
 have S1:=S.kill [i]
 unfold L2.fgt
 cases h:(aq [i] ρ)[i]? with
 | none=>rw[List.set_eq_of_length_le (by simpa using h)];exact S1
 | some o=>
  cases o with
  | none=>
   have:(aq [i] ρ).set i none=aq [i] ρ:=by
    apply E4
    intro j
    by_cases e:i=j
    ·subst e
     have hl:=(DB.mp h).1
     rw[Es hl,h]
    ·rw[DW e]
   rw[this];exact S1
  | some r=>
   obtain⟨v,hv⟩:=S1.al i r h
   have p:=bt (k:=0) hv h
   have SL:SimL Γ H (⟨some (0+i),v,r⟩::(af [i] E++aA 0 Z ((aq [i] ρ).set i none))):=S1.sl.perm ((List.Perm.append_left _ p).trans Ea)
   obtain⟨L,g,e⟩:=SL
   obtain⟨x,L',rfl,ex,eL⟩:=aF e
   have hno:∀y∈af [i] E++aA 0 Z (aq [i] ρ),y.r.k.root≠some i:=by
    rw[eC,←aD]
    exact jH (by simp)
   refine⟨⟨L',g.dropK λy hy j hj hr=>?_,eL⟩,λm r' hm=>?_,by rw[Fm];exact S1.len,λy hy j hj=>by rw[Fm];exact S1.hi y hy j hj⟩
   ·rw[ex]at hj
    have:j=i:=by simpa using hj.symm
    subst this
    have:y.e∈L'.map (·.e):=DM.mpr ⟨y,hy,rfl⟩
    rw[eL]at this
    have hp:=(List.Perm.append_left (af [j] E) p).trans Ea
    exact hno y.e (hp.mem_iff.mpr (ymC _ this)) hr
   ·by_cases e:i=m
    ·subst e
     rw[Es (DB.mp h).1]at hm
     cases hm
    ·rw[DW e]at hm
     exact S1.al m r' hm
noncomputable def fgts:List Nat->Rho->Rho
 | [],ρ=>ρ
 | i::ks,ρ=>fgts ks (fgt i ρ)
theorem Sim.fgts:∀{ks:List Nat} {ρ:Rho} {E:List En},Sim Γ H ρ Z E->Sim Γ H (L2.fgts ks ρ) Z (af ks E)
 | [],ρ,E,S=>by rw[bW];exact S
 | i::ks,ρ,E,S=>by
  have:=Sim.fgts (ks:=ks) (S.fgt i)
  rw[ag]at this
  exact this
@[irreducible] noncomputable def bP (ks:List Nat)(s:MS):MS:=⟨λρ=>match s.run ρ with
 | some (.nx,ρ1)=>some (.nx,fgts ks ρ1)
 | some (.ct,ρ1)=>some (.ct,fgts ks ρ1)
 | some (.rt t,ρ1)=>some (.rt t,ρ1)
 | some (.bk,ρ1)=>some (.bk,ρ1)
 | none=>none,s.mu++ks⟩
theorem wx {ks:List Nat}{ts:TS}{s:MS}(h:dM K ts s):dM K ts (bP ks s):=by
 intro Γ H ρ Z E D f ρ' hK hE hr S q
 simp only[bP]at hr q
 split at hr
 ·rename_i ρ1 e1
  cases hr
  exact h Γ H ρ Z E D _ _ hK hE e1 S λZ' H' S'=>q Z' H' (by rw[←ag];exact S'.fgts)
 ·rename_i ρ1 e1
  cases hr
  exact h Γ H ρ Z E D _ _ hK hE e1 S λZ' H' S'=>q Z' H' (by rw[←ag];exact S'.fgts)
 ·rename_i t ρ1 e1
  cases hr
  exact h Γ H ρ Z E D _ _ hK hE e1 S q.weak
 ·rename_i ρ1 e1
  cases hr
  exact h Γ H ρ Z E D _ _ hK hE e1 S q.weak
 ·cases hr
theorem wm (ks:List Nat){st:List Stmt}{s:MS}(h:QSs C K st s):QSs C K st (bP ks s):=by
 obtain⟨t,p,r⟩:=h
 exact⟨t,p,wx r⟩
end
structure W1 {α:Type}(o:Option α)(Q : α->Prop):Prop where
 ex:∃x,o=some x/\Q x
structure W2 {α β:Type}(o:Option (α × β))(Q : α->β->Prop):Prop where
 ex:∃x y,o=some (x,y)/\Q x y
structure WE (m:ME)(ρ:Rho)(Q:R->Rho->Prop):Prop where
 ex:∃x y,m.run ρ=some (x,y)/\Q x y
structure WT (m:MT)(ρ:Rho)(Q:Bool->Rho->Prop):Prop where
 ex:∃x y,m.run ρ=some (x,y)/\Q x y
structure WA (m:MA)(ρ:Rho)(Q:List R->Rho->Prop):Prop where
 ex:∃x y,m.run ρ=some (x,y)/\Q x y
structure WS (m:MS)(ρ:Rho)(Q:Fl->Rho->Prop):Prop where
 ex:∃x y,m.run ρ=some (x,y)/\Q x y
structure WG (m:MG)(r:R)(ρ:Rho)(Q:Rho->Prop):Prop where
 ex:∃x,m.run r ρ=some x/\Q x
structure WGs (m:MGs)(rs:List R)(ρ:Rho)(Q:Rho->Prop):Prop where
 ex:∃x,m.run rs ρ=some x/\Q x
structure WI (m:MI)(ρ:Rho)(Q:List R->List R->Rho->Prop):Prop where
 ex:∃r rs ρ',m.run ρ=some ((r,rs),ρ')/\Q r rs ρ'
structure WO (m:MO)(ρ:Rho)(Q:Option Int->Rho->Prop):Prop where
 ex:∃x y,m.run ρ=some (x,y)/\Q x y
structure Gu (b:Bool)(P:Prop):Prop where
 ex:b=true/\P
structure IsB (t:T)(Q:Bool->Prop):Prop where
 ex:∃b,t=.im (.bl b)/\Q b
structure IsN (t:T)(Q:Int->Prop):Prop where
 ex:∃n,t=.im (.int n)/\Q n
structure AtV (n:Nat)(ρ:Rho)(Q:R->Prop):Prop where
 ex:∃r,ρ[n]?=some (some r)/\Q r
structure AtC (k j:Nat)(rs:List R)(ρ:Rho)(Q:List Ac->Kd->T->Prop):Prop where
 ex:∃p t1 kd t0,rs[k]?=some ⟨.vw (some j) (some p),t1⟩/\((Ee rs.length).all λm=>decide (m=k)||au [j] (rs.getD m ⟨.ow,.im .non⟩))=true/\ρ[j]?=some (some ⟨kd,t0⟩)/\kd.isOw=true/\Q p kd t0
structure AtT (k:Nat)(rs:List R)(P:Prop):Prop where
 ex:∃t1,rs[k]?=some ⟨.ow,t1⟩/\P
structure AtM (l:Nat)(ρ:Rho)(Q:Kd->T->Prop):Prop where
 ex:∃k t,ρ[l]?=some (some ⟨k,t⟩)/\k.isOw=true/\Q k t
structure AtS (j:Nat)(r:R)(Q:List Ac->T->Prop):Prop where
 ex:∃p s,r=⟨.vw (some j) (some p),s⟩/\Q p s
structure Two (rs:List R)(Q:R->R->Prop):Prop where
 ex:∃r1 r2,rs=[r1,r2]/\Q r1 r2
structure Three (rs:List R)(Q:R->R->R->Prop):Prop where
 ex:∃r1 r2 r3,rs=[r1,r2,r3]/\Q r1 r2 r3
structure Int1 (rs:List R)(Q:Int->Prop):Prop where
 ex:∃n,rs.map (·.t)=[.im (.int n)]/\Q n
structure Int2 (rs:List R)(Q:Int->Int->Prop):Prop where
 ex:∃m n,rs.map (·.t)=[.im (.int m),.im (.int n)]/\Q m n
theorem Di {b:Bool}{Q:Bool->Prop}(q:Q b):IsB (.im (.bl b)) Q:=⟨b,rfl,q⟩
theorem Dj {n:Int}{Q:Int->Prop}(q:Q n):IsN (.im (.int n)) Q:=⟨n,rfl,q⟩
theorem C6 {n:Nat}{ρ:Rho}{r:R}{Q:R->Prop}(h : ρ[n]?=some (some r))(q:Q r):AtV n ρ Q:=⟨r,h,q⟩
theorem C4 {k j:Nat}{rs:List R}{ρ:Rho}{p:List Ac}{t1 t0:T}{kd:Kd}{Q:List Ac->Kd->T->Prop}(h1:rs[k]?=some ⟨.vw (some j) (some p),t1⟩)(h2:((Ee rs.length).all λm=>decide (m=k)||au [j] (rs.getD m ⟨.ow,.im .non⟩))=true)(h3 : ρ[j]?=some (some ⟨kd,t0⟩))(h4:kd.isOw=true)(q:Q p kd t0):AtC k j rs ρ Q:=⟨p,t1,kd,t0,h1,h2,h3,h4,q⟩
theorem xY {l:Nat}{ρ:Rho}{k:Kd}{t:T}{Q:Kd->T->Prop}(h : ρ[l]?=some (some ⟨k,t⟩))(ho:k.isOw=true)(q:Q k t):AtM l ρ Q:=⟨k,t,h,ho,q⟩
theorem C5 {j:Nat}{p:List Ac}{s:T}{Q:List Ac->T->Prop}(q:Q p s):AtS j ⟨.vw (some j) (some p),s⟩ Q:=⟨p,s,rfl,q⟩
theorem As {r1 r2:R}{Q:R->R->Prop}(q:Q r1 r2):Two [r1,r2] Q:=⟨r1,r2,rfl,q⟩
theorem uy {r1 r2 r3:R}{Q:R->R->R->Prop}(q:Q r1 r2 r3):Three [r1,r2,r3] Q:=⟨r1,r2,r3,rfl,q⟩
theorem u8 {rs:List R}{n:Int}{Q:Int->Prop}(h:rs.map (·.t)=[.im (.int n)])(q:Q n):Int1 rs Q:=⟨n,h,q⟩
theorem u9 {rs:List R}{m n:Int}{Q:Int->Int->Prop}(h:rs.map (·.t)=[.im (.int m),.im (.int n)])(q:Q m n):Int2 rs Q:=⟨m,n,h,q⟩
section
variable  {α β:Type}{ρ:Rho}{a b c m:ME}{ms:MA}{ct ct':MT}{s1 s2:MS}{g:MG}{gs:MGs}{it:MI}{QE':R->Rho->Prop}{QT':Bool->Rho->Prop}{QA':List R->Rho->Prop}{Q:Fl->Rho->Prop}{QG':Rho->Prop}{P:Prop}{o:Option α}{x : α}{Q1 : α->Prop}
theorem w1 (h:o=some x)(q:Q1 x):W1 o Q1:=⟨x,h,q⟩
theorem W1.mono {Q2 : α->Prop}(h:W1 o Q1)(k:∀x,Q1 x->Q2 x):W1 o Q2:=by obtain⟨x,e,q⟩:=h;exact⟨x,e,k x q⟩
theorem gu {b:Bool}(h:b=true)(p:P):Gu b P:=⟨h,p⟩
theorem WS.mono {Q2:Fl->Rho->Prop}(h:WS s1 ρ Q)(k:∀f ρ,Q f ρ->Q2 f ρ):WS s1 ρ Q2:=by obtain⟨x,y,e,q⟩:=h;exact⟨x,y,e,k x y q⟩
theorem WG.mono {r:R}{Q1 Q2:Rho->Prop}(h:WG g r ρ Q1)(k:∀ρ,Q1 ρ->Q2 ρ):WG g r ρ Q2:=by obtain⟨x,e,q⟩:=h;exact⟨x,e,k x q⟩
theorem WA.mono {Q1 Q2:List R->Rho->Prop}(h:WA ms ρ Q1)(k:∀rs ρ,Q1 rs ρ->Q2 rs ρ):WA ms ρ Q2:=by obtain⟨x,y,e,q⟩:=h;exact⟨x,y,e,k x y q⟩
theorem WT.mono {Q1 Q2:Bool->Rho->Prop}(h:WT ct ρ Q1)(k:∀b ρ,Q1 b ρ->Q2 b ρ):WT ct ρ Q2:=by obtain⟨x,y,e,q⟩:=h;exact⟨x,y,e,k x y q⟩
theorem WE.mono {Q2:R->Rho->Prop}(h:WE m ρ QE')(k:∀f ρ,QE' f ρ->Q2 f ρ):WE m ρ Q2:=by obtain⟨x,y,e,q⟩:=h;exact⟨x,y,e,k x y q⟩
theorem w_C {i:I}(q:QE' ⟨.ow,.im i⟩ ρ):WE (mC i) ρ QE':=by with_unfolding_all exact⟨_,_,rfl,q⟩
theorem mW {n:Nat}{r:R}(h : ρ[n]?=some (some r))(q:QE' (rdR n r) ρ):WE (ah n) ρ QE':=⟨rdR n r,ρ,by simp only[ah,h],q⟩
theorem Dy {f:T->T->Option T}(h:WE a ρ λra ρ1=>WE b ρ1 λrb ρ2=>Gu (au b.mu ra) (W1 (f ra.t rb.t) λt=>QE' ⟨.ow,t⟩ ρ2)):WE (mOp f a b) ρ QE':=by
 obtain⟨ra,ρ1,e1,rb,ρ2,e2,al,t,e3,q⟩:=h
 exact⟨⟨.ow,t⟩,ρ2,by simp only[mOp,e1,e2,al,if_true,e3],q⟩
theorem DA {f:T->Option T}(h:WE a ρ λra ρ1=>W1 (f ra.t) λt=>QE' ⟨.ow,t⟩ ρ1):WE (mUn f a) ρ QE':=by
 obtain⟨ra,ρ1,e1,t,e3,q⟩:=h
 exact⟨⟨.ow,t⟩,ρ1,by simp only[mUn,e1,e3],q⟩
theorem w_B {f:List T->Option T}(h:WA ms ρ λrs ρ1=>W1 (f (rs.map (·.t))) λt=>QE' ⟨.ow,t⟩ ρ1):WE (mB f ms) ρ QE':=by
 obtain⟨ra,ρ1,e1,t,e3,q⟩:=h
 exact⟨⟨.ow,t⟩,ρ1,by simp only[mB,e1,e3],q⟩
theorem w_M {f:T->List T->Option T}(h:WE a ρ λra ρ1=>WA ms ρ1 λrs ρ2=>Gu (au ms.mu ra) (W1 (f ra.t (rs.map (·.t))) λt=>QE' ⟨.ow,t⟩ ρ2)):WE (mM f a ms) ρ QE':=by
 obtain⟨ra,ρ1,e1,rb,ρ2,e2,al,t,e3,q⟩:=h
 exact⟨⟨.ow,t⟩,ρ2,by simp only[mM,e1,e2,al,if_true,e3],q⟩
theorem AB (h:WE a ρ λra ρ1=>WE b ρ1 λrb ρ2=>Gu (au b.mu ra) (W1 (ixR ra rb.t) λr=>QE' r ρ2)):WE (mIx a b) ρ QE':=by
 obtain⟨ra,ρ1,e1,rb,ρ2,e2,al,r,e3,q⟩:=h
 exact⟨r,ρ2,by simp only[mIx,e1,e2,al,if_true,e3],q⟩
theorem xi {QO':Option Int->Rho->Prop}(q:QO' none ρ):WO mNoPart ρ QO':=by with_unfolding_all exact⟨_,_,rfl,q⟩
theorem xj {QO':Option Int->Rho->Prop}(h:WE a ρ λr ρ1=>IsN r.t λn=>QO' (some n) ρ1):WO (eI a) ρ QO':=by
 obtain⟨⟨k,t⟩,ρ1,e1,n,e2,q⟩:=h
 cases e2
 exact⟨some n,ρ1,by simp only[eI,e1],q⟩
theorem Dz {lo hi:MO}(h:WE a ρ λra ρ1=>WO lo ρ1 λl ρ2=>WO hi ρ2 λu ρ3=>Gu (au (lo.mu++hi.mu) ra) (W1 (slR ra l u) λr=>QE' r ρ3)):WE (mSl a lo hi) ρ QE':=by
 obtain⟨ra,ρ1,e1,l,ρ2,e2,u,ρ3,e3,al,r,e4,q⟩:=h
 exact⟨r,ρ3,by simp only[mSl,e1,e2,e3,al,if_true,e4],q⟩
theorem Aw (h:WE a ρ λr ρ1=>IsB r.t λbb=>(bb=true->WE b ρ1 QE')/\(bb=false->QE' ⟨.ow,.im (.bl false)⟩ ρ1)):WE (iP a b) ρ QE':=by
 obtain⟨⟨k,t⟩,ρ1,e1,bb,e2,q1,q2⟩:=h
 cases e2
 cases bb with
 | true=>obtain⟨p,ρ2,e,q⟩:=q1 rfl;exact⟨p,ρ2,by simp only[iP,e1,e],q⟩
 | false=>exact⟨_,_,by simp only[iP,e1],q2 rfl⟩
theorem AF (h:WE a ρ λr ρ1=>IsB r.t λbb=>QE' ⟨.ow,.im (.bl !bb)⟩ ρ1):WE (kz a) ρ QE':=by
 obtain⟨⟨k,t⟩,ρ1,e1,bb,e2,q⟩:=h
 cases e2
 exact⟨_,_,by simp only[kz,e1],q⟩
theorem AC {mv:List Nat}(h:WA ms ρ λrs ρ1=>Gu (decide (rs.length<=1000)) (W2 (consL mv rs ρ1) λts ρ2=>QE' ⟨.ow,bE ts⟩ ρ2)):WE (aL mv ms) ρ QE':=by
 obtain⟨rs,ρ1,e1,hl,ts,ρ2,e2,q⟩:=h
 exact⟨⟨.ow,bE ts⟩,ρ2,by simp only[aL,e1,if_pos (of_decide_eq_true hl),e2],q⟩
theorem AH {mv:List Nat}(h:WA ms ρ λrs ρ1=>Gu (decide (rs.length<=1000)) (W2 (consL mv rs ρ1) λts ρ2=>QE' ⟨.ow,mj ts⟩ ρ2)):WE (ar mv ms) ρ QE':=by
 obtain⟨rs,ρ1,e1,hl,ts,ρ2,e2,q⟩:=h
 exact⟨⟨.ow,mj ts⟩,ρ2,by simp only[ar,e1,if_pos (of_decide_eq_true hl),e2],q⟩
theorem wX {k j:Nat}{run:List T->Option (T×T)}(h:WA ms ρ λrs ρ1=>AtC k j rs ρ1 λp kd t0=>W2 (run (rs.map (·.t))) λt s'=>QE' ⟨.ow,t⟩ ((aq [j] ρ1).set j (some ⟨kd,t0.put p s'⟩))):WE (ak k j run ms) ρ QE':=by
 obtain⟨rs,ρ1,e1,p,t1,kd,t0,e2,al,e3,ow,t,s',e4,q⟩:=h
 refine⟨⟨.ow,t⟩,(aq [j] ρ1).set j (some ⟨kd,t0.put p s'⟩),?_,q⟩
 simp only[ak,e1]
 simp only[e2]
 rw[if_pos (by rw[DD];exact⟨rfl,al⟩)]
 simp only[e4,e3,ow,if_true]
theorem uI {l:Nat}{mv:List Nat}{f:T->List T->Option (T×I)}(h:WE a ρ λra ρ1=>WA ms ρ1 λrs ρ2=>Gu (au ms.mu ra) (W2 (mutR l mv f ra rs ρ2) QE')):WE (bT l mv f a ms) ρ QE':=by
 obtain⟨ra,ρ1,e1,rs,ρ2,e2,al,p,ρ3,e3,q⟩:=h
 exact⟨p,ρ3,by simp only[bT,e1,e2,al,if_true,e3],q⟩
theorem AD {l:Nat}{f:T->List T->Option (T×I)}(h:WE a ρ λra ρ1=>W2 (mutR l [] f ra [] ρ1) QE'):WE (kw l f a) ρ QE':=by
 obtain⟨ra,ρ1,e1,p,ρ3,e3,q⟩:=h
 exact⟨p,ρ3,by simp only[kw,e1,e3],q⟩
theorem oj {l:Nat}{mv:List Nat}{f:T->List T->Option (T×I)}{p:List Ac}{s:T}{rs:List R}{QQ:R->Rho->Prop}(hm:mv.contains l=false)(h:W2 (consL mv rs ρ) λts ρ2=>AtM l ρ2 λk t=>W2 (f s ts) λs' res=>QQ ⟨.ow,.im res⟩ ((aq [l] ρ2).set l (some ⟨k,t.put p s'⟩))):W2 (mutR l mv f ⟨.vw (some l) (some p),s⟩ rs ρ) QQ:=by
 obtain⟨ts,ρ2,hc,k,t,ho,hk,s',res,e,q⟩:=h
 refine⟨_,_,?_,q⟩
 unfold mutR
 simp only[decide_true,hm,hc,e,ho,hk,G5,Fw,if_true]
theorem AI (q:QA' [] ρ):WA mNil ρ QA':=by with_unfolding_all exact⟨_,_,rfl,q⟩
theorem xa (h:WE m ρ λr ρ1=>WA ms ρ1 λrs ρ2=>Gu (au ms.mu r) (QA' (r::rs) ρ2)):WA (aa m ms) ρ QA':=by
 obtain⟨ra,ρ1,e1,rb,ρ2,e2,al,q⟩:=h
 exact⟨ra::rb,ρ2,by simp only[aa,e1,e2,al,if_true],q⟩
theorem uJ {n:Nat}{r0:R}(h0 : ρ[n]?=some (some r0))(h:WA ms ρ λrs ρ2=>AtV n ρ2 λr=>QA' (rdR n r::rs) ρ2):WA (ac n ms) ρ QA':=by
 obtain⟨rs,ρ2,e1,r,e2,q⟩:=h
 exact⟨rdR n r::rs,ρ2,by simp only[ac,e1,e2,h0],q⟩
theorem xk (h:WE a ρ λr ρ1=>IsB r.t λbb=>QT' bb ρ1):WT (aK a) ρ QT':=by
 obtain⟨⟨k,t⟩,ρ1,e1,bb,e2,q⟩:=h
 cases e2
 exact⟨bb,ρ1,by simp only[aK,e1],q⟩
theorem AS (h:WE a ρ λr ρ1=>W1 (tru r.t) λbb=>QT' bb ρ1):WT (pX a) ρ QT':=by
 obtain⟨r,ρ1,e1,bb,e2,q⟩:=h
 exact⟨bb,ρ1,by simp only[pX,e1,e2],q⟩
theorem AR (h:WT ct ρ λbb ρ1=>QT' (!bb) ρ1):WT (l7 ct) ρ QT':=by
 obtain⟨r,ρ1,e1,q⟩:=h
 exact⟨_,_,by simp only[l7,e1],q⟩
theorem AQ (h:WT ct ρ λbb ρ1=>(bb=true->WT ct' ρ1 QT')/\(bb=false->QT' false ρ1)):WT (ln ct ct') ρ QT':=by
 obtain⟨bb,ρ1,e1,q1,q2⟩:=h
 cases bb with
 | true=>obtain⟨p,ρ2,e,q⟩:=q1 rfl;exact⟨p,ρ2,by simp only[ln,e1,e],q⟩
 | false=>exact⟨_,_,by simp only[ln,e1],q2 rfl⟩
theorem CZ (h:WT ct ρ λbb ρ1=>(bb=true->QT' true ρ1)/\(bb=false->WT ct' ρ1 QT')):WT (mOr ct ct') ρ QT':=by
 obtain⟨bb,ρ1,e1,q1,q2⟩:=h
 cases bb with
 | false=>obtain⟨p,ρ2,e,q⟩:=q2 rfl;exact⟨p,ρ2,by simp only[mOr,e1,e],q⟩
 | true=>exact⟨_,_,by simp only[mOr,e1],q1 rfl⟩
theorem iL (q:QT' true ρ):WT mYes ρ QT':=by with_unfolding_all exact⟨_,_,rfl,q⟩
theorem xc {i:Nat}{r:R}(h:(cN ρ i&&au [i] r)=true)(q:QG' ((aq [i] ρ).set i (some r))):WG (ae i) r ρ QG':=⟨(aq [i] ρ).set i (some r),by simp only[ae,h,if_true],q⟩
theorem xf (q:QG' ρ):WGs mGNil [] ρ QG':=by with_unfolding_all exact⟨_,rfl,q⟩
theorem uM {r:R}{rs:List R}(al:rs.all (au g.mu)=true)(h:WG g r ρ λρ1=>WGs gs rs ρ1 QG'):WGs (ax g gs) (r::rs) ρ QG':=by
 obtain⟨ρ1,e1,ρ2,e2,q⟩:=h
 exact⟨ρ2,by simp only[ax,al,if_true,e1,e2],q⟩
theorem AN {r:R}{rs:List R}(hp:parts r=some rs)(h:WGs gs rs ρ QG'):WG (bC gs) r ρ QG':=by
 obtain⟨ρ2,e2,q⟩:=h
 exact⟨ρ2,by simp only[bC,hp,e2],q⟩
theorem AM {j:Nat}{tv:T}(h:WE a ρ λra ρ1=>WE b ρ1 λrb ρ2=>AtS j ra λp s=>Gu (!b.mu.contains j) (AtM j ρ2 λk t=>W1 (uq s rb.t tv) λs'=>QG' ((aq [j] ρ2).set j (some ⟨k,t.put p s'⟩)))):WG (nA j a b) ⟨.ow,tv⟩ ρ QG':=by
 obtain⟨ra,ρ1,e1,rb,ρ2,e2,p,s,rfl,hm,k,t,e3,ow,s',e4,q⟩:=h
 refine⟨_,?_,q⟩
 simp only[nA,e1,e2,hm,decide_true,Fw,if_true,e4,e3,ow]
theorem uL {j:Nat}{ys:List I}(h:WE a ρ λra ρ1=>WE b ρ1 λrb ρ2=>WE c ρ2 λrc ρ3=>∃p xs k t i n,ra=⟨.vw (some j) (some p),.li xs⟩/\rb.t=.im (.int i)/\rc.t=.im (.int n)/\(b.mu++c.mu).contains j=false/\(0<=i/\i<=n/\n<=xs.length/\xs.length+ys.length<=sizeLine)/\ρ3[j]?=some (some ⟨k,t⟩)/\k.isOw=true/\QG' ((aq [j] ρ3).set j (some ⟨k,t.put p (.li (xs.take i.toNat++ys++xs.drop n.toNat))⟩))):WG (gC j a b c) ⟨.ow,.li ys⟩ ρ QG':=by
 obtain⟨ra,ρ1,e1,⟨_,_⟩,ρ2,e2,⟨_,_⟩,ρ3,e3,p,xs,k,t,i,n,rfl,rfl,rfl,hm,hz,e4,ow,q⟩:=h
 refine⟨_,?_,q⟩
 simp only[gC,e1,e2,e3,hm,decide_true,G5,Gz]
 rw[if_pos (decide_eq_true hz)]
 simp only[e4,ow,if_true]
theorem AE (q:Q .nx ρ):WS mNext ρ Q:=by with_unfolding_all exact⟨_,_,rfl,q⟩
@[irreducible] def yf (b:MS)(Q:Fl->Rho->Prop):Fl->Rho->Prop
 | .nx,ρ=>WS b ρ Q
 | .rt t,ρ=>Q (.rt t) ρ
 | .bk,ρ=>Q .bk ρ
 | .ct,ρ=>Q .ct ρ
theorem xS (h:WS s1 ρ (yf s2 Q)):WS (ao s1 s2) ρ Q:=by with_unfolding_all
 obtain⟨f,ρ1,e1,q⟩:=h
 cases f with
 | nx=>have q:WS s2 ρ1 Q:=q;obtain⟨p,ρ2,e,q⟩:=q;exact⟨p,ρ2,by simp only[ao,e1,e],q⟩
 | rt t=>exact⟨.rt t,ρ1,by simp only[ao,e1],q⟩
 | bk=>exact⟨.bk,ρ1,by simp only[ao,e1],q⟩
 | ct=>exact⟨.ct,ρ1,by simp only[ao,e1],q⟩
theorem bp (h:WT ct ρ λbb ρ1=>(bb=true->WS s1 ρ1 Q)/\(bb=false->WS s2 ρ1 Q)):WS (mIf ct s1 s2) ρ Q:=by
 obtain⟨bb,ρ1,e1,q1,q2⟩:=h
 cases bb with
 | true=>obtain⟨p,ρ2,e,q⟩:=q1 rfl;exact⟨p,ρ2,by simp only[mIf,e1,e],q⟩
 | false=>obtain⟨p,ρ2,e,q⟩:=q2 rfl;exact⟨p,ρ2,by simp only[mIf,e1,e],q⟩
theorem og (h:WE m ρ λ_ ρ1=>Q .nx ρ1):WS (be m) ρ Q:=by
 obtain⟨r,ρ1,e1,q⟩:=h
 exact⟨.nx,ρ1,by simp only[be,e1],q⟩
theorem CQ (h:WE m ρ λr ρ1=>WG g r ρ1 λρ2=>Q .nx ρ2):WS (aB m g) ρ Q:=by
 obtain⟨r,ρ1,e1,ρ2,e2,q⟩:=h
 exact⟨.nx,ρ2,by simp only[aB,e1,e2],q⟩
theorem CY (h:WE m ρ λr ρ1=>W2 (qG r ρ1) λt ρ2=>Q (.rt t) ρ2):WS (bf m) ρ Q:=by
 obtain⟨r,ρ1,e1,t,ρ2,e2,q⟩:=h
 exact⟨.rt t,ρ2,by simp only[bf,e1,e2],q⟩
theorem CW {i j:Nat}(h:WA ms ρ λrs ρ1=>Two rs λr1 r2=>Gu (dD r1&&dD r2) (Gu (cN ρ1 i&&au [i] r1&&au [i] r2&&cN ρ1 j&&au [j] r2) (Q .nx ((aq [j] ((aq [i] ρ1).set i (some r1))).set j (some r2))))):WS (jD i j ms) ρ Q:=by
 obtain⟨rs,ρ1,e1,r1,r2,rfl,hb,hc,q⟩:=h
 refine⟨.nx,(aq [j] ((aq [i] ρ1).set i (some r1))).set j (some r2),?_,q⟩
 rw[DD]at hb
 simp only[jD,vg,e1,EM,FF,hb.1,hb.2,FR,Fw,if_true,hc]
theorem AG {i j k:Nat}(h:WA ms ρ λrs ρ1=>Three rs λr1 r2 r3=>Gu (dD r1&&dD r2&&cN ρ1 i&&au [i] r1&&au [i] r2&&au [i] r3&&cN ρ1 j&&au [j] r2&&au [j] r3&&cN ρ1 k&&au [k] r3) (Q .nx ((aq [k] ((aq [j] ((aq [i] ρ1).set i (some r1))).set j (some r2))).set k (some r3)))):WS (kA i j k ms) ρ Q:=by
 obtain⟨rs,ρ1,e1,r1,r2,r3,rfl,hc,q⟩:=h
 exact⟨_,_,by simp only[kA,e1,hc,if_true],q⟩
@[irreducible] def A4 (ks:List Nat)(Q:Fl->Rho->Prop):Fl->Rho->Prop
 | .nx,ρ=>Q .nx (fgts ks ρ)
 | .ct,ρ=>Q .ct (fgts ks ρ)
 | .rt t,ρ=>Q (.rt t) ρ
 | .bk,ρ=>Q .bk ρ
theorem CS {ks:List Nat}(h:WS s1 ρ (A4 ks Q)):WS (bP ks s1) ρ Q:=by with_unfolding_all
 obtain⟨f,ρ1,e1,q⟩:=h
 cases f with
 | nx=>exact⟨_,_,by simp only[bP,e1],q⟩
 | ct=>exact⟨_,_,by simp only[bP,e1],q⟩
 | rt t=>exact⟨_,_,by simp only[bP,e1],q⟩
 | bk=>exact⟨_,_,by simp only[bP,e1],q⟩
def pG (Inv:Nat->Rho->Prop)(i:Nat)(Q:Fl->Rho->Prop):Fl->Rho->Prop
 | .nx,ρ=>Inv (i+1) ρ
 | .ct,ρ=>Inv (i+1) ρ
 | .bk,ρ=>Q .nx ρ
 | .rt t,ρ=>Q (.rt t) ρ
theorem oN {items:List R}(Inv:Nat->Rho->Prop)(hs:∀i r ρ,items[i]?=some r->Inv i ρ->WG g r ρ λρ1=>WS s1 ρ1 (pG Inv i Q))(he:∀ρ,Inv items.length ρ->Q .nx ρ):∀(l:List R) (i:Nat) (ρ:Rho),items.drop i=l->i<=items.length->Inv i ρ->W2 (eR g.run s1.run l ρ) Q
 | [],i,ρ,hl,hi,hI=>by
  have:i=items.length:=by have:=congrArg EO hl;simp at this;omega
  subst this
  exact⟨_,_,rfl,he ρ hI⟩
 | r::l,i,ρ,hl,hi,hI=>by
  have hr:items[i]?=some r:=by rw[←Gc,hl];rfl
  have hlt:=(DB.mp hr).1
  have hl':items.drop (i+1)=l:=by rw[←Gn,hl];rfl
  obtain⟨ρ1,e1,f,ρ2,e2,q⟩:=hs i r ρ hr hI
  have k:=oN Inv hs he l (i+1) ρ2 hl' hlt
  simp only[eR,e1,e2]
  cases f with
  | nx=>exact k q
  | ct=>exact k q
  | bk=>exact⟨_,_,rfl,q⟩
  | rt t=>exact⟨_,_,rfl,q⟩
theorem uF (h:WI it ρ λsrc items ρ1=>Gu (src.all (au (g.mu++s1.mu))&&items.all (au (g.mu++s1.mu))) (∃Inv:Nat->Rho->Prop,Inv 0 ρ1/\(∀i r ρ,items[i]?=some r->Inv i ρ->WG g r ρ λρ1=>WS s1 ρ1 (pG Inv i Q))/\∀ρ,Inv items.length ρ->Q .nx ρ)):WS (bQ it g s1) ρ Q:=by
 obtain⟨src,items,ρ1,e1,al,Inv,h0,hs,he⟩:=h
 obtain⟨p,ρ2,e,q⟩:=oN (Q:=Q) Inv hs he items 0 ρ1 rfl (EX _) h0
 exact⟨p,ρ2,by simp only[bQ,e1];rw[if_pos al];exact e,q⟩
theorem kU {M:List Nat}{items:List R}(h:∀r∈items,r.k=.ow):items.all (au M)=true:=Et.mpr λr hr=>by unfold au cX;rw[h r hr];rfl
theorem Ay {i:Nat}(h:WA ms ρ λrs ρ1=>∃n:Int,rs.map (·.t)=[.im (.int n)]/\-(2^62)<=n/\n<2^62/\(∃Inv:Nat->Rho->Prop,Inv 0 ρ1/\(∀(j:Nat) ρ,(j:Int)<n->Inv j ρ->WG (ae i) (jO j) ρ λρ1=>WS s1 ρ1 (pG Inv j Q))/\∀ρ,Inv n.toNat ρ->Q .nx ρ)):WS (bQ (aW ms) (ae i) s1) ρ Q:=by
 obtain⟨rs,ρ1,e1,n,e2,h1,h2,Inv,h0,hs,he⟩:=h
 refine uF ⟨[nQ],gE 0 n.toNat,ρ1,by simp only[aW,e1,e2,l1,isI];rw[if_pos ⟨h1,h2⟩],?_,Inv,h0,λj r ρ hr hI=>?_,λρ hI=>he ρ (by simpa[gE]using hI)⟩
 ·rw[DD]
  exact⟨rfl,kU λr hr=>by obtain⟨x,_,rfl⟩:=DM.mp hr;rfl⟩
 ·obtain⟨x,hx,rfl⟩:=aZ hr
  obtain⟨a1,a2⟩:=DB.mp hx
  simp at a1 a2
  subst a2
  have:=hs j ρ (by omega) hI
  rw[Hc]
  exact this
theorem wZ {i:Nat}(h:WA ms ρ λrs ρ1=>∃m n:Int,rs.map (·.t)=[.im (.int m),.im (.int n)]/\(-(2^62)<=m/\m<2^62/\-(2^62)<=n/\n<2^62)/\(∃Inv:Nat->Rho->Prop,Inv 0 ρ1/\(∀(j:Nat) ρ,m+(j:Int)<n->Inv j ρ->WG (ae i) (jO (m+j)) ρ λρ1=>WS s1 ρ1 (pG Inv j Q))/\∀ρ,Inv (n-m).toNat ρ->Q .nx ρ)):WS (bQ (ft ms) (ae i) s1) ρ Q:=by
 obtain⟨rs,ρ1,e1,m,n,e2,h1,Inv,h0,hs,he⟩:=h
 refine uF ⟨[nQ],gE m (n-m).toNat,ρ1,by simp only[ft,e1,e2,l2,l1,ii2,isI];rw[if_pos h1],?_,Inv,h0,λj r ρ hr hI=>?_,λρ hI=>he ρ (by simpa[gE]using hI)⟩
 ·rw[DD]
  exact⟨rfl,kU λr hr=>by obtain⟨x,_,rfl⟩:=DM.mp hr;rfl⟩
 ·obtain⟨x,hx,rfl⟩:=aZ hr
  obtain⟨a1,a2⟩:=DB.mp hx
  simp at a1 a2
  subst a2
  exact hs j ρ (by omega) hI
theorem Ax (h:WE m ρ λr ρ1=>∃is:List I,eT r=some (is.map λi=>⟨.ow,.im i⟩)/\au (g.mu++s1.mu) r=true/\(∃Inv:Nat->Rho->Prop,Inv 0 ρ1/\(∀j x ρ,is[j]?=some x->Inv j ρ->WG g ⟨.ow,.im x⟩ ρ λρ1=>WS s1 ρ1 (pG Inv j Q))/\∀ρ,Inv is.length ρ->Q .nx ρ)):WS (bQ (mIt m) g s1) ρ Q:=by
 obtain⟨r,ρ1,e1,is,e2,al,Inv,h0,hs,he⟩:=h
 refine uF ⟨[r],is.map (λi=>⟨.ow,.im i⟩),ρ1,by simp only[mIt,e1,e2],?_,Inv,h0,λj r ρ hr hI=>?_,λρ hI=>he ρ (by simpa using hI)⟩
 ·rw[DD]
  exact⟨by rw[EM,FF,al];rfl,kU λr hr=>by obtain⟨x,_,rfl⟩:=DM.mp hr;rfl⟩
 ·obtain⟨x,hx,rfl⟩:=aZ hr
  exact hs j x ρ hx hI
theorem w8 (Inv:Nat->Rho->Prop)(n:Nat)(h0:Inv n ρ) (hs:∀n ρ,Inv n ρ->WT ct ρ λbb ρ1=>(bb=false->Q .nx ρ1)/\(bb=true->WS s1 ρ1 λf ρ2=>match f with
  | .nx=>∃m,m<n/\Inv m ρ2
  | .ct=>∃m,m<n/\Inv m ρ2
  | .bk=>Q .nx ρ2
  | .rt t=>Q (.rt t) ρ2)):WS (eV ct s1) ρ Q:=by
 have key:∀n ρ,Inv n ρ->W2 (itW ct s1 (n+1) ρ) Q:=by
  intro n
  induction n using Nat.strongRecOn with
  | _ n ih=>
   intro ρ hI
   obtain⟨bb,ρ1,e1,q1,q2⟩:=hs n ρ hI
   cases bb with
   | false=>exact⟨.nx,ρ1,by simp only[itW,e1],q1 rfl⟩
   | true=>
    obtain⟨f,ρ2,e2,q⟩:=q2 rfl
    cases f with
    | nx=>
     obtain⟨m,hm,hI'⟩:=q
     obtain⟨p,ρ3,e,q⟩:=ih m hm ρ2 hI'
     exact⟨p,ρ3,by simp only[itW,e1,e2];exact eH e _ (by omega),q⟩
    | ct=>
     obtain⟨m,hm,hI'⟩:=q
     obtain⟨p,ρ3,e,q⟩:=ih m hm ρ2 hI'
     exact⟨p,ρ3,by simp only[itW,e1,e2];exact eH e _ (by omega),q⟩
    | bk=>exact⟨.nx,ρ2,by simp only[itW,e1,e2],q⟩
    | rt t=>exact⟨.rt t,ρ2,by simp only[itW,e1,e2],q⟩
 obtain⟨p,ρ3,e,q⟩:=key n ρ h0
 exact⟨p,ρ3,qQ e,q⟩
theorem gN {fr:List (Option Nat)}{M:List Nat}{items:List R}{QC:List T->Rho->Prop}(Inv:Nat->List T->Rho->Prop)
  (hs:∀i r acc ρ,items[i]?=some r->Inv i acc ρ->WG g (hC (piF fr) r) (inR fr ρ) λρ1=>WT ct ρ1 λbb ρ2=>(bb=true->WE m ρ2 λr ρ3=>∃t,r=⟨.ow,t⟩/\Inv (i+1) (acc++[t]) (cI fr M ρ3 ρ))/\(bb=false->Inv (i+1) acc (cI fr M ρ2 ρ)))
  (he:∀acc ρ,Inv items.length acc ρ->QC acc ρ):∀(l:List R) (i:Nat) (acc:List T) (ρ:Rho),items.drop i=l->i<=items.length->Inv i acc ρ->W2 (bm fr M g ct m l ρ acc) QC
 | [],i,acc,ρ,hl,hi,hI=>by
  have:i=items.length:=by have:=congrArg EO hl;simp at this;omega
  subst this
  exact⟨_,_,rfl,he acc ρ hI⟩
 | r::l,i,acc,ρ,hl,hi,hI=>by
  have hr:items[i]?=some r:=by rw[←Gc,hl];rfl
  have hlt:=(DB.mp hr).1
  have hl':items.drop (i+1)=l:=by rw[←Gn,hl];rfl
  obtain⟨ρ1,e1,bb,ρ2,e2,q1,q2⟩:=hs i r acc ρ hr hI
  cases bb with
  | true=>
   obtain⟨r',ρ3,e3,t,rfl,q⟩:=q1 rfl
   simp only[bm,e1,e2,e3]
   exact gN Inv hs he l (i+1) _ _ hl' hlt q
  | false=>
   simp only[bm,e1,e2]
   exact gN Inv hs he l (i+1) _ _ hl' hlt (q2 rfl)
theorem lQ {fr:List (Option Nat)} (h:WI it ρ λsrc items ρ1=>Gu (db fr ρ1.length&&cY (g.mu++(ct.mu++m.mu)) fr.length&&src.all (au (muF fr (g.mu++(ct.mu++m.mu))))) (items.length<sizeLine/\∃Inv:Nat->List T->Rho->Prop,Inv 0 [] ρ1 ∧
  (∀i r acc ρ,items[i]?=some r->Inv i acc ρ->WG g (hC (piF fr) r) (inR fr ρ) λρ1=>WT ct ρ1 λbb ρ2=>(bb=true->WE m ρ2 λr ρ3=>∃t,r=⟨.ow,t⟩/\Inv (i+1) (acc++[t]) (cI fr (g.mu++(ct.mu++m.mu)) ρ3 ρ))/\(bb=false->Inv (i+1) acc (cI fr (g.mu++(ct.mu++m.mu)) ρ2 ρ))) ∧
  ∀acc ρ,Inv items.length acc ρ->QE' ⟨.ow,bE acc⟩ ρ)):WE (aR fr it g ct m) ρ QE':=by
 obtain⟨src,items,ρ1,e1,al,hl,Inv,h0,hs,he⟩:=h
 obtain⟨ts,ρ2,e,q⟩:=gN (QC:=λacc ρ=>QE' ⟨.ow,bE acc⟩ ρ) Inv hs he items 0 [] ρ1 rfl (EX _) h0
 refine⟨⟨.ow,bE ts⟩,ρ2,?_,q⟩
 simp only[aR,e1]
 rw[if_pos (by rw[DD];exact⟨al,decide_eq_true hl⟩)]
 simp only[e]
theorem xg {QI':List R->List R->Rho->Prop}(h:WA ms ρ λrs ρ1=>∃n:Int,rs.map (·.t)=[.im (.int n)]/\(-(2^62)<=n/\n<2^62)/\QI' [nQ] (gE 0 n.toNat) ρ1):WI (aW ms) ρ QI':=by
 obtain⟨rs,ρ1,e1,n,e2,h1,q⟩:=h
 exact⟨_,_,_,by simp only[aW,e1,e2,l1,isI];rw[if_pos h1],q⟩
theorem xh {QI':List R->List R->Rho->Prop}(h:WA ms ρ λrs ρ1=>∃m n:Int,rs.map (·.t)=[.im (.int m),.im (.int n)]/\(-(2^62)<=m/\m<2^62/\-(2^62)<=n/\n<2^62)/\QI' [nQ] (gE m (n-m).toNat) ρ1):WI (ft ms) ρ QI':=by
 obtain⟨rs,ρ1,e1,m,n,e2,h1,q⟩:=h
 exact⟨_,_,_,by simp only[ft,e1,e2,l2,l1,ii2,isI];rw[if_pos h1],q⟩
theorem om {QI':List R->List R->Rho->Prop}(h:WE m ρ λr ρ1=>W1 (eT r) λrs=>QI' [r] rs ρ1):WI (mIt m) ρ QI':=by
 obtain⟨r,ρ1,e1,rs,e2,q⟩:=h
 exact⟨[r],rs,ρ1,by simp only[mIt,e1,e2],q⟩
end
section
variable  {α β:Type}{ρ:Rho}{QT1:T->Prop}{QR:R->Prop}{QI1:T->I->Prop}{m:MS}{n k:Nat}{ts:List T}
@[irreducible] def fP (R:T->Prop):Fl->Rho->Prop
 | .rt t,_=>R t
 | .nx,_=>R (.im .non)
 | _,_=>False
@[irreducible] def fI (k:Nat)(R:T->T->Prop):Fl->Rho->Prop
 | .rt t,ρ=>∃s',ρ[k]?=some (some ⟨.io 0,s'⟩)/\R t s'
 | .nx,ρ=>∃s',ρ[k]?=some (some ⟨.io 0,s'⟩)/\R (.im .non) s'
 | _,_=>False
theorem o7 {run:List T->Option T}{l:Nat}(hrun:run ts=if ts.length=l then dr m n ts else none)(hl:ts.length=l)(h:WS m (cJ ts n) (fP QT1)):W1 (run ts) QT1:=by with_unfolding_all
 rw[hrun,if_pos hl]
 obtain⟨f,ρ,e,q⟩:=h
 cases f with
 | nx=>exact⟨_,by simp only[dr,e],q⟩
 | rt t=>exact⟨_,by simp only[dr,e],q⟩
 | bk=>cases q
 | ct=>cases q
theorem gk {run:List T->Option (T×T)}{l:Nat}{Q2:T->T->Prop}(hrun:run ts=if ts.length=l then eN m k n ts else none)(hl:ts.length=l)(h:WS m (eY k ts n) (fI k Q2)):W2 (run ts) Q2:=by with_unfolding_all
 rw[hrun,if_pos hl]
 obtain⟨f,ρ,e,q⟩:=h
 cases f with
 | nx=>have q:∃s',ρ[k]?=some (some ⟨.io 0,s'⟩)/\Q2 (.im .non) s':=q;obtain⟨s',e2,q⟩:=q;exact⟨_,_,by simp only[eN,e,e2],q⟩
 | rt t=>have q:∃s',ρ[k]?=some (some ⟨.io 0,s'⟩)/\Q2 t s':=q;obtain⟨s',e2,q⟩:=q;exact⟨_,_,by simp only[eN,e,e2],q⟩
 | bk=>cases q
 | ct=>cases q
variable  {a b:Int}{s z:Str}{is js:List I}{i j:I}
theorem yT (q:QT1 (.im (.int (a+b)))):W1 (bd (.im (.int a)) (.im (.int b))) QT1:=by with_unfolding_all exact⟨_,rfl,q⟩
theorem jK (h:s.length+z.length<=sizeLine)(q:QT1 (.im (.str (s++z)))):W1 (bd (.im (.str s)) (.im (.str z))) QT1:=by with_unfolding_all exact⟨_,if_pos h,q⟩
theorem lr (h:is.length+js.length<=sizeLine)(q:QT1 (.li (is++js))):W1 (bd (.li is) (.li js)) QT1:=by with_unfolding_all exact⟨_,if_pos h,q⟩
theorem BI (q:QT1 (.im (.int (a-b)))):W1 (bZ (.im (.int a)) (.im (.int b))) QT1:=by with_unfolding_all exact⟨_,rfl,q⟩
theorem Bp (h1 : -(2^64)<a)(h2:a<2^64):iQ a b=true:=by unfold iQ;simp only[h1,h2,decide_true,Fw,G9]
theorem Dm (h1 : -(2^64)<b)(h2:b<2^64):iQ a b=true:=by unfold iQ;simp only[h1,h2,decide_true,Fw,Bool.or_true]
theorem si (h:iQ a b=true)(q:QT1 (.im (.int (a*b)))):W1 (dl (.im (.int a)) (.im (.int b))) QT1:=by with_unfolding_all exact⟨_,if_pos h,q⟩
theorem sk (h:is≠[]/\is.length<=1000/\1<=b/\b<=1000)(q:QT1 (.im (.tup (DE b.toNat is).flatten))):W1 (dl (.im (.tup is)) (.im (.int b))) QT1:=by with_unfolding_all exact⟨_,if_pos h,q⟩
theorem sj (h : -(2^63)<=b/\b<2^63/\is.length*b.toNat<=sizeLine)(q:QT1 (.li (DE b.toNat is).flatten)):W1 (dl (.li is) (.im (.int b))) QT1:=by with_unfolding_all exact⟨_,if_pos h,q⟩
theorem yW (h:0<b/\b<2^64)(q:QT1 (.im (.int (a / b)))):W1 (gn (.im (.int a)) (.im (.int b))) QT1:=by with_unfolding_all exact⟨_,if_pos h,q⟩
theorem sf (h:0<b)(q:QT1 (.im (.int (a % b)))):W1 (eX (.im (.int a)) (.im (.int b))) QT1:=by with_unfolding_all exact⟨_,if_pos h,q⟩
theorem xz (h:0<=b/\b<=1000000/\a.natAbs<2^64)(q:QT1 (.im (.int (a^b.toNat)))):W1 (qg (.im (.int a)) (.im (.int b))) QT1:=by with_unfolding_all exact⟨_,if_pos h,q⟩
theorem Bv {p:Int->Int->Bool}(q:QT1 (.im (.bl (p a b)))):W1 (gr p (.im (.int a)) (.im (.int b))) QT1:=by with_unfolding_all exact⟨_,rfl,q⟩
theorem Bw (q:QT1 (.im (.bl (decide (a=b))))):W1 (eqT (.im (.int a)) (.im (.int b))) QT1:=by with_unfolding_all exact⟨_,rfl,by simpa using q⟩
theorem BE (q:QT1 (.im (.bl (!decide (a=b))))):W1 (neT (.im (.int a)) (.im (.int b))) QT1:=by with_unfolding_all exact⟨_,rfl,by simpa using q⟩
theorem By (q:QT1 (.im (.bl (decide (s=z))))):W1 (eqT (.im (.str s)) (.im (.str z))) QT1:=by with_unfolding_all exact⟨_,rfl,by simpa using q⟩
theorem Bx (h:I.doks is=true/\I.doks js=true/\I.deps is<=50)(q:QT1 (.im (.bl (decide (is=js))))):W1 (eqT (.li is) (.li js)) QT1:=⟨_,by simp only[eqT,eqB];rw[if_pos h];rfl,q⟩
theorem Be (h:i.dok=true/\I.doks is=true/\I.deps is<=50):inB (.im i) (.im (.tup is))=some (decide (i∈is)):=by cases i<;>exact if_pos h
theorem Bz (h:i.dok=true/\I.doks is=true/\I.deps is<=50)(q:QT1 (.im (.bl (decide (i∈is))))):W1 (inT (.im i) (.im (.tup is))) QT1:=⟨_,by unfold inT;rw[Be h];rfl,q⟩
theorem Bc (h:i.dok=true/\I.doks is=true/\I.deps is<=50):inB (.im i) (.li is)=some (decide (i∈is)):=by cases i<;>exact if_pos h
theorem sn (h:i.dok=true/\I.doks is=true/\I.deps is<=50)(q:QT1 (.im (.bl (!decide (i∈is))))):W1 (nF (.im i) (.li is)) QT1:=⟨_,by unfold nF;rw[Bc h];rfl,q⟩
theorem y3 (h:s.length<=sizeLine)(q:QT1 (.im (.int s.length))):W1 (cH [.im (.str s)]) QT1:=by with_unfolding_all exact⟨_,if_pos h,q⟩
theorem y4 (q:QT1 (.im (.int is.length))):W1 (cH [.im (.tup is)]) QT1:=by with_unfolding_all exact⟨_,rfl,q⟩
theorem y0 (q:QT1 (.im (.int is.length))):W1 (cH [.li is]) QT1:=by with_unfolding_all exact⟨_,rfl,q⟩
theorem vz {us:List T}(q:QT1 (.im (.int us.length))):W1 (cH [.lst us]) QT1:=by with_unfolding_all exact⟨_,rfl,q⟩
theorem BD (q:QT1 (.im (.int (if b<a then b else a)))):W1 (l9 [.im (.int a),.im (.int b)]) QT1:=by with_unfolding_all exact⟨_,rfl,q⟩
theorem BC (q:QT1 (.im (.int (if b>a then b else a)))):W1 (l8 [.im (.int a),.im (.int b)]) QT1:=by with_unfolding_all exact⟨_,rfl,q⟩
theorem yX {c:Bool}(q:QT1 (.im (.int (if c then 1 else 0)))):W1 (nt [.im (.bl c)]) QT1:=by with_unfolding_all exact⟨_,rfl,q⟩
theorem zd (q:QT1 (.im (.tup is))):W1 (fw [.li is]) QT1:=by with_unfolding_all exact⟨_,rfl,q⟩
theorem y6 (q:QT1 (.li is)):W1 (rS [.li is]) QT1:=by with_unfolding_all exact⟨_,rfl,q⟩
theorem BG (q:QT1 (.im (.tup is.reverse))):W1 (ue (.im (.tup is))) QT1:=by with_unfolding_all exact⟨_,rfl,q⟩
theorem xX {xs:List α}{x : α}{n:Nat}{i:Int}(hi:i=n)(h:xs[n]?=some x):atI xs i=some x:=by
 subst hi
 have:=(DB.mp h).1
 unfold atI ixN
 rw[if_pos (by omega),if_pos (by omega)]
 simpa using h
theorem nc {xs:List α}{i:Int}(h0:0<=i)(h1:i<xs.length):∃x,atI xs i=some x/\xs[i.toNat]?=some x:=by
 have:i.toNat<xs.length:=by omega
 exact⟨xs[i.toNat],xX (n:=i.toNat) (by omega) (D6 this),D6 this⟩
theorem xy {kd:Kd}{x:I}(h:atI is a=some x)(q:QR ⟨.ow,.im x⟩):W1 (ixR ⟨kd,.im (.tup is)⟩ (.im (.int a))) QR:=⟨_,by simp only[ixR,isI,ixX,ixI,h,Fe],q⟩
theorem xx {kd:Kd}{x:I}(h:atI is a=some x)(q:QR ⟨.ow,.im x⟩):W1 (ixR ⟨kd,.li is⟩ (.im (.int a))) QR:=⟨_,by simp only[ixR,isI,ixX,ixI,h,Fe],q⟩
theorem se {kd:Kd}(h0:0<=a)(h1:a<is.length)(q:∀x,is[a.toNat]?=some x->QR ⟨.ow,.im x⟩):W1 (ixR ⟨kd,.im (.tup is)⟩ (.im (.int a))) QR:=by
 obtain⟨x,h,h'⟩:=nc h0 h1
 exact xy h (q x h')
theorem sd {kd:Kd}(h0:0<=a)(h1:a<is.length)(q:∀x,is[a.toNat]?=some x->QR ⟨.ow,.im x⟩):W1 (ixR ⟨kd,.li is⟩ (.im (.int a))) QR:=by
 obtain⟨x,h,h'⟩:=nc h0 h1
 exact xx h (q x h')
theorem nL {kd:Kd}(hz:s.length<=sizeLine)(h0:0<=a)(h1:a<(sL s).length)(q:∀c,(sL s)[a.toNat]?=some c->QR ⟨.ow,.im (.str ⟨#[c]⟩)⟩):W1 (ixR ⟨kd,.im (.str s)⟩ (.im (.int a))) QR:=by
 obtain⟨x,h,h'⟩:=nc h0 h1
 exact⟨_,by simp only[ixR,isI,ixX,ixI,if_pos hz,h,Fe],q x h'⟩
theorem nK {ro:Option Nat}{p:Option (List Ac)}{us:List T}{u:T}(h0:0<=a)(h1:us[a.toNat]?=some u)(hu:∀i,u ≠ .im i){kd:Kd}(hk:ixK (.vw ro p) (some (.ix a.toNat))=some kd)(q:QR ⟨kd,u⟩):W1 (ixR ⟨.vw ro p,.lst us⟩ (.im (.int a))) QR:=by
 have hl:=(DB.mp h1).1
 refine⟨⟨kd,u⟩,?_,q⟩
 unfold ixR
 have:ixN us.length a=some a.toNat:=by unfold ixN;rw[if_pos h0,if_pos (by omega)]
 simp only[isI,ixX,this,h1,Option.bind_some]
 cases u with
 | im i=>exact absurd rfl (hu i)
 | _=>simp only[ixP,hk]
theorem so {n:Nat}(ha:a=n)(h:n<is.length)(q:QT1 (.li (is.set n i))):W1 (uq (.li is) (.im (.int a)) (.im i)) QT1:=by
 subst ha
 refine⟨_,?_,q⟩
 unfold uq
 have:ixN is.length (n:Int)=some n:=by unfold ixN;rw[if_pos (by omega),if_pos (by omega)];simp
 simp only[this]
theorem bo (h:is.length<sizeLine)(q:QI1 (.li (is++[i])) .non):W2 (apT (.li is) [.im i]) QI1:=by with_unfolding_all exact⟨_,_,if_pos h,q⟩
theorem nJ (h:is.length+js.length<=sizeLine)(q:QI1 (.li (is++js)) .non):W2 (jX (.li is) [.li js]) QI1:=by with_unfolding_all exact⟨_,_,if_pos h,q⟩
theorem yV (h:is.length+js.length<=sizeLine)(q:QI1 (.li (is++js)) .non):W2 (jX (.li is) [.im (.tup js)]) QI1:=by with_unfolding_all exact⟨_,_,if_pos h,q⟩
theorem BF (q:QI1 (.li is) i):W2 (my (.li (is++[i])) []) QI1:=⟨_,_,by simp[my],q⟩
theorem xw (h:0<=a/\a<=is.length/\is.length<sizeLine)(q:QI1 (.li (is.take a.toNat++i::is.drop a.toNat)) .non):W2 (lj (.li is) [.im (.int a),.im i]) QI1:=by with_unfolding_all exact⟨_,_,if_pos h,q⟩
theorem BH {kd:Kd}{lo hi:Option Int}(q:QR ⟨.ow,.li (cQ is lo hi)⟩):W1 (slR ⟨kd,.li is⟩ lo hi) QR:=⟨_,by simp only[slR,slX,slI,slX],q⟩
theorem oY {kd:Kd}{lo hi:Option Int}(h:¬(HT.sIx is.length 0 lo=0/\HT.sIx is.length is.length hi=is.length))(q:QR ⟨.ow,.im (.tup (cQ is lo hi))⟩):W1 (slR ⟨kd,.im (.tup is)⟩ lo hi) QR:=⟨_,by simp only[slR,slX,slI,slX];rw[if_neg h],q⟩
theorem sr {kd:Kd}{lo hi:Option Int}(h:s.length<=sizeLine)(q:QR ⟨.ow,.im (.str (oL (cQ (sL s) lo hi)))⟩):W1 (slR ⟨kd,.im (.str s)⟩ lo hi) QR:=⟨_,by simp only[slR,slX,slI,slX];rw[if_pos h],q⟩
theorem za {t:T}{Q2:T->Rho->Prop}(q:Q2 t ρ):W2 (qG ⟨.ow,t⟩ ρ) Q2:=by with_unfolding_all exact⟨_,_,rfl,q⟩
theorem zb {t t':T}{n:Nat}{Q2:T->Rho->Prop}(h : ρ[n]?=some (some ⟨.ow,t'⟩))(q:Q2 t ((aq [n] ρ).set n none)):W2 (qG ⟨.vw (some n) (some []),t⟩ ρ) Q2:=⟨_,_,by simp only[qG,h],q⟩
theorem nj {mv:List Nat}{Q2:List T->Rho->Prop}(q:Q2 [] ρ):W2 (consL mv [] ρ) Q2:=⟨_,_,rfl,q⟩
theorem oz {mv:List Nat}{t:T}{rs:List R}{Q2:List T->Rho->Prop}(h:W2 (consL mv rs ρ) λts ρ'=>Q2 (t::ts) ρ'):W2 (consL mv (⟨.ow,t⟩::rs) ρ) Q2:=by
 obtain⟨ts,ρ',e,q⟩:=h
 exact⟨t::ts,ρ',by simp only[consL,e],q⟩
theorem mf {is:List I}:bE (is.map T.im)=.li is:=by
 have:ims (is.map T.im)=some is:=by induction is with
  | nil=>rfl
  | cons i is ih=>simp only[DJ,ims,ih,Fe]
 unfold bE;rw[this]
end
theorem dsp {p:Prop}[Decidable p]{A B:Prop}(h1:p->A)(h2:¬p->B):(decide p=true->A)/\(decide p=false->B):=⟨λh=>h1 (of_decide_eq_true h),λh=>h2 (of_decide_eq_false h)⟩
theorem Dg {p:Prop}[Decidable p]{A B:Prop}(h1:¬p->A)(h2:p->B):((!decide p)=true->A)/\((!decide p)=false->B):=⟨λh=>h1 (by simpa using h),λh=>h2 (by simpa using h)⟩
theorem bsp {b:Bool}{A B:Prop}(h1:b=true->A)(h2:b=false->B):(b=true->A)/\(b=false->B):=⟨h1,h2⟩
theorem spT {A B:Prop}(h:A):(true=true->A)/\(true=false->B):=⟨λ_=>h,λz=>absurd z (by decide)⟩
theorem spF {A B:Prop}(h:B):(false=true->A)/\(false=false->B):=⟨λz=>absurd z (by decide),λ_=>h⟩
section
variable  {ρ:Rho}{m:ME}{ms:MA}{g:MG}{ct:MT}{QE':R->Rho->Prop}
theorem pk {i:Nat}{fr:List (Option Nat)} (h:WA ms ρ λrs ρ1=>∃n:Int,rs.map (·.t)=[.im (.int n)]/\(-(2^62)<=n/\n<16000000)/\Gu (db fr ρ1.length&&cY ([i]++([]++m.mu)) fr.length) (∃Inv:Nat->List T->Rho->Prop,Inv 0 [] ρ1 ∧
  (∀(j:Nat) acc ρ,(j:Int)<n->Inv j acc ρ->WG (ae i) (jO j) (inR fr ρ) λρ1=>WE m ρ1 λr ρ3=>∃t,r=⟨.ow,t⟩/\Inv (j+1) (acc++[t]) (cI fr ([i]++([]++m.mu)) ρ3 ρ)) ∧
  ∀acc ρ,Inv n.toNat acc ρ->QE' ⟨.ow,bE acc⟩ ρ)):WE (aR fr (aW ms) (ae i) mYes m) ρ QE':=by with_unfolding_all
 obtain⟨rs,ρ1,e1,n,e2,h1,al,Inv,h0,hs,he⟩:=h
 refine lQ (xg ⟨rs,ρ1,e1,n,e2,⟨h1.1,by omega⟩,?_,?_,Inv,h0,λj r acc ρ hr hI=>?_,λacc ρ hI=>he acc ρ (by simpa[gE]using hI)⟩)
 ·rw[DD]at al⊢
  rw[DD]
  exact⟨⟨al.1,al.2⟩,rfl⟩
 ·rw[sizeLine_eq];simp[gE];omega
 ·obtain⟨x,hx,rfl⟩:=aZ hr
  obtain⟨a1,a2⟩:=DB.mp hx
  simp at a1 a2
  subst a2
  have:=hs j acc ρ (by omega) hI
  rw[Hc]
  refine WG.mono this λρ1 q=>iL ⟨λ_=>q,λz=>by cases z⟩
theorem uE {i:Nat}{fr:List (Option Nat)} (h:WA ms ρ λrs ρ1=>∃a n:Int,rs.map (·.t)=[.im (.int a),.im (.int n)]/\(-(2^62)<=a/\a<2^62/\-(2^62)<=n/\n<2^62/\n-a<16000000)/\Gu (db fr ρ1.length&&cY ([i]++([]++m.mu)) fr.length) (∃Inv:Nat->List T->Rho->Prop,Inv 0 [] ρ1 ∧
  (∀(j:Nat) acc ρ,a+(j:Int)<n->Inv j acc ρ->WG (ae i) (jO (a+j)) (inR fr ρ) λρ1=>WE m ρ1 λr ρ3=>∃t,r=⟨.ow,t⟩/\Inv (j+1) (acc++[t]) (cI fr ([i]++([]++m.mu)) ρ3 ρ)) ∧
  ∀acc ρ,Inv (n-a).toNat acc ρ->QE' ⟨.ow,bE acc⟩ ρ)):WE (aR fr (ft ms) (ae i) mYes m) ρ QE':=by with_unfolding_all
 obtain⟨rs,ρ1,e1,a,n,e2,h1,al,Inv,h0,hs,he⟩:=h
 refine lQ (xh ⟨rs,ρ1,e1,a,n,e2,⟨h1.1,h1.2.1,h1.2.2.1,h1.2.2.2.1⟩,?_,?_,Inv,h0,λj r acc ρ hr hI=>?_,λacc ρ hI=>he acc ρ (by simpa[gE]using hI)⟩)
 ·rw[DD]at al⊢
  rw[DD]
  exact⟨⟨al.1,al.2⟩,rfl⟩
 ·rw[sizeLine_eq];simp[gE];omega
 ·obtain⟨x,hx,rfl⟩:=aZ hr
  obtain⟨a1,a2⟩:=DB.mp hx
  simp at a1 a2
  subst a2
  have:=hs j acc ρ (by omega) hI
  refine WG.mono this λρ1 q=>iL ⟨λ_=>q,λz=>by cases z⟩
theorem pj {fr:List (Option Nat)}{ma:ME} (h:WE ma ρ λr ρ1=>∃is:List I,eT r=some (is.map λi=>⟨.ow,.im i⟩)/\is.length<sizeLine/\Gu (db fr ρ1.length&&cY (g.mu++(ct.mu++m.mu)) fr.length&&au (muF fr (g.mu++(ct.mu++m.mu))) r) (∃Inv:Nat->List T->Rho->Prop,Inv 0 [] ρ1 ∧
  (∀(j:Nat) x acc ρ,is[j]?=some x->Inv j acc ρ->WG g ⟨.ow,.im x⟩ (inR fr ρ) λρ1=>WT ct ρ1 λbb ρ2=>(bb=true->WE m ρ2 λr ρ3=>∃t,r=⟨.ow,t⟩/\Inv (j+1) (acc++[t]) (cI fr (g.mu++(ct.mu++m.mu)) ρ3 ρ))/\(bb=false->Inv (j+1) acc (cI fr (g.mu++(ct.mu++m.mu)) ρ2 ρ))) ∧
  ∀acc ρ,Inv is.length acc ρ->QE' ⟨.ow,bE acc⟩ ρ)):WE (aR fr (mIt ma) g ct m) ρ QE':=by
 obtain⟨r,ρ1,e1,is,e2,hl,al,Inv,h0,hs,he⟩:=h
 refine lQ (om ⟨r,ρ1,e1,_,e2,(by rw[EM,FF,FR];exact al),by simpa using hl,Inv,h0,λj r acc ρ hr hI=>?_,λacc ρ hI=>he acc ρ (by simpa using hI)⟩)
 obtain⟨x,hx,rfl⟩:=aZ hr
 exact hs j x acc ρ hx hI
end
theorem eK {α:Type}{f : α->I}{l:List α}:bE (l.map λx=>T.im (f x))=.li (l.map f):=by
 have:=mf (is:=l.map f)
 rwa [Eg]at this
section
variable  {S α:Type}{ρ:Rho}{m:ME}{ms:MA}{g:MG}{ct:MT}{s1:MS}{QE':R->Rho->Prop}{Q:Fl->Rho->Prop}{fr:List (Option Nat)}{i:Nat}
theorem cD (st:S->Rho)(emb : α->I)(P:Nat->S->List α->Prop) (h:WA ms ρ λrs ρ1=>Int1 rs λn=>(-(2^62)<=n/\n<16000000)/\(db fr ρ1.length&&cY ([i]++([]++m.mu)) fr.length)=true/\∃s0,ρ1=st s0/\P 0 s0 [] ∧
  (∀(j:Nat) s l,(j:Int)<n->P j s l->WG (ae i) (jO j) (inR fr (st s)) λρ1=>WE m ρ1 λr ρ3=>∃x s',r=⟨.ow,.im (emb x)⟩/\cI fr ([i]++([]++m.mu)) ρ3 (st s)=st s'/\P (j+1) s' (l++[x])) ∧
  ∀s l,P n.toNat s l->QE' ⟨.ow,.li (l.map emb)⟩ (st s)):WE (aR fr (aW ms) (ae i) mYes m) ρ QE':=by
 obtain⟨rs,ρ1,e1,n,e2,h1,al,s0,rfl,h0,hs,he⟩:=h
 refine pk ⟨rs,_,e1,n,e2,h1,al,λj acc ρ=>∃s l,acc=l.map (λx=>T.im (emb x))/\ρ=st s/\P j s l,⟨s0,[],rfl,rfl,h0⟩,?_,?_⟩
 ·rintro j acc ρ hj ⟨s,l,rfl,rfl,hP⟩
  refine(hs j s l hj hP).mono λρ1 q=>q.mono λr ρ3 ⟨x,s',e,e',hP'⟩=>⟨_,e,s',l++[x],by simp,e',hP'⟩
 ·rintro acc ρ ⟨s,l,rfl,rfl,hP⟩
  rw[eK]
  exact he s l hP
theorem qP (st:S->Rho)(emb : α->I)(P:Nat->S->List α->Prop) (h:WA ms ρ λrs ρ1=>Int2 rs λa n=>(-(2^62)<=a/\a<2^62/\-(2^62)<=n/\n<2^62/\n-a<16000000)/\(db fr ρ1.length&&cY ([i]++([]++m.mu)) fr.length)=true/\∃s0,ρ1=st s0/\P 0 s0 [] ∧
  (∀(j:Nat) s l,a+(j:Int)<n->P j s l->WG (ae i) (jO (a+j)) (inR fr (st s)) λρ1=>WE m ρ1 λr ρ3=>∃x s',r=⟨.ow,.im (emb x)⟩/\cI fr ([i]++([]++m.mu)) ρ3 (st s)=st s'/\P (j+1) s' (l++[x])) ∧
  ∀s l,P (n-a).toNat s l->QE' ⟨.ow,.li (l.map emb)⟩ (st s)):WE (aR fr (ft ms) (ae i) mYes m) ρ QE':=by
 obtain⟨rs,ρ1,e1,a,n,e2,h1,al,s0,rfl,h0,hs,he⟩:=h
 refine uE ⟨rs,_,e1,a,n,e2,h1,al,λj acc ρ=>∃s l,acc=l.map (λx=>T.im (emb x))/\ρ=st s/\P j s l,⟨s0,[],rfl,rfl,h0⟩,?_,?_⟩
 ·rintro j acc ρ hj ⟨s,l,rfl,rfl,hP⟩
  refine(hs j s l hj hP).mono λρ1 q=>q.mono λr ρ3 ⟨x,s',e,e',hP'⟩=>⟨_,e,s',l++[x],by simp,e',hP'⟩
 ·rintro acc ρ ⟨s,l,rfl,rfl,hP⟩
  rw[eK]
  exact he s l hP
theorem dL (st:S->Rho)(emb : α->I)(P:Nat->S->List α->Prop){ma:ME} (h:WE ma ρ λr ρ1=>∃is:List I,eT r=some (is.map λi=>⟨.ow,.im i⟩)/\is.length<sizeLine/\(db fr ρ1.length&&cY (g.mu++([]++m.mu)) fr.length&&au (muF fr (g.mu++([]++m.mu))) r)=true/\∃s0,ρ1=st s0/\P 0 s0 [] ∧
  (∀(j:Nat) x s l,is[j]?=some x->P j s l->WG g ⟨.ow,.im x⟩ (inR fr (st s)) λρ1=>WE m ρ1 λr ρ3=>∃x s',r=⟨.ow,.im (emb x)⟩/\cI fr (g.mu++([]++m.mu)) ρ3 (st s)=st s'/\P (j+1) s' (l++[x])) ∧
  ∀s l,P is.length s l->QE' ⟨.ow,.li (l.map emb)⟩ (st s)):WE (aR fr (mIt ma) g mYes m) ρ QE':=by with_unfolding_all
 obtain⟨r,ρ1,e1,is,e2,hl,al,s0,rfl,h0,hs,he⟩:=h
 refine pj ⟨r,_,e1,is,e2,hl,al,λj acc ρ=>∃s l,acc=l.map (λx=>T.im (emb x))/\ρ=st s/\P j s l,⟨s0,[],rfl,rfl,h0⟩,?_,?_⟩
 ·rintro j x acc ρ hj ⟨s,l,rfl,rfl,hP⟩
  refine(hs j x s l hj hP).mono λρ1 q=>iL ⟨λ_=>q.mono λr ρ3 ⟨x,s',e,e',hP'⟩=>⟨_,e,s',l++[x],by simp,e',hP'⟩,λz=>by cases z⟩
 ·rintro acc ρ ⟨s,l,rfl,rfl,hP⟩
  rw[eK]
  exact he s l hP
theorem mV (st:S->Rho)(emb : α->I)(P:Nat->S->List α->Prop){ma:ME} (h:WE ma ρ λr ρ1=>∃is:List I,eT r=some (is.map λi=>⟨.ow,.im i⟩)/\is.length<sizeLine/\(db fr ρ1.length&&cY (g.mu++(ct.mu++m.mu)) fr.length&&au (muF fr (g.mu++(ct.mu++m.mu))) r)=true/\∃s0,ρ1=st s0/\P 0 s0 [] ∧
  (∀(j:Nat) x s l,is[j]?=some x->P j s l->WG g ⟨.ow,.im x⟩ (inR fr (st s)) λρ1=>WT ct ρ1 λbb ρ2=>(bb=true->WE m ρ2 λr ρ3=>∃x s',r=⟨.ow,.im (emb x)⟩/\cI fr (g.mu++(ct.mu++m.mu)) ρ3 (st s)=st s'/\P (j+1) s' (l++[x]))/\(bb=false->∃s',cI fr (g.mu++(ct.mu++m.mu)) ρ2 (st s)=st s'/\P (j+1) s' l)) ∧
  ∀s l,P is.length s l->QE' ⟨.ow,.li (l.map emb)⟩ (st s)):WE (aR fr (mIt ma) g ct m) ρ QE':=by
 obtain⟨r,ρ1,e1,is,e2,hl,al,s0,rfl,h0,hs,he⟩:=h
 refine pj ⟨r,_,e1,is,e2,hl,al,λj acc ρ=>∃s l,acc=l.map (λx=>T.im (emb x))/\ρ=st s/\P j s l,⟨s0,[],rfl,rfl,h0⟩,?_,?_⟩
 ·rintro j x acc ρ hj ⟨s,l,rfl,rfl,hP⟩
  refine(hs j x s l hj hP).mono λρ1 q=>q.mono λbb ρ2 ⟨q1,q2⟩=>⟨λhb=>(q1 hb).mono λr ρ3 ⟨x,s',e,e',hP'⟩=>⟨_,e,s',l++[x],by simp,e',hP'⟩,λhb=>?_⟩
  obtain⟨s',e',hP'⟩:=q2 hb
  exact⟨s',l,rfl,e',hP'⟩
 ·rintro acc ρ ⟨s,l,rfl,rfl,hP⟩
  rw[eK]
  exact he s l hP
@[irreducible] def fFs (st:S->Rho)(P:S->Prop)(Q:Fl->Rho->Prop):Fl->Rho->Prop
 | .nx,ρ=>∃s,ρ=st s/\P s
 | .ct,ρ=>∃s,ρ=st s/\P s
 | .bk,ρ=>Q .nx ρ
 | .rt t,ρ=>Q (.rt t) ρ
theorem le {st:S->Rho}{P:Nat->S->Prop}{j:Nat}{f:Fl}{ρ:Rho}(h:fFs st (P (j+1)) Q f ρ):pG (λj ρ=>∃s,ρ=st s/\P j s) j Q f ρ:=by with_unfolding_all cases f<;>exact h
theorem bO (st:S->Rho)(P:Nat->S->Prop) (h:WA ms ρ λrs ρ1=>Int1 rs λn=>(-(2^62)<=n/\n<2^62)/\∃s0,ρ1=st s0/\P 0 s0 ∧
  (∀(j:Nat) s,(j:Int)<n->P j s->WG (ae i) (jO j) (st s) λρ1=>WS s1 ρ1 (fFs st (P (j+1)) Q))/\∀s,P n.toNat s->Q .nx (st s)):WS (bQ (aW ms) (ae i) s1) ρ Q:=by
 obtain⟨rs,ρ1,e1,n,e2,h1,s0,rfl,h0,hs,he⟩:=h
 refine Ay ⟨rs,_,e1,n,e2,h1.1,h1.2,λj ρ=>∃s,ρ=st s/\P j s,⟨s0,rfl,h0⟩,?_,?_⟩
 ·rintro j ρ hj ⟨s,rfl,hP⟩
  exact(hs j s hj hP).mono λρ1 q=>q.mono λf ρ2 q=>le q
 ·rintro ρ ⟨s,rfl,hP⟩
  exact he s hP
theorem uG (st:S->Rho)(P:Nat->S->Prop) (h:WA ms ρ λrs ρ1=>Int2 rs λa n=>(-(2^62)<=a/\a<2^62/\-(2^62)<=n/\n<2^62)/\∃s0,ρ1=st s0/\P 0 s0 ∧
  (∀(j:Nat) s,a+(j:Int)<n->P j s->WG (ae i) (jO (a+j)) (st s) λρ1=>WS s1 ρ1 (fFs st (P (j+1)) Q))/\∀s,P (n-a).toNat s->Q .nx (st s)):WS (bQ (ft ms) (ae i) s1) ρ Q:=by
 obtain⟨rs,ρ1,e1,a,n,e2,h1,s0,rfl,h0,hs,he⟩:=h
 refine wZ ⟨rs,_,e1,a,n,e2,h1,λj ρ=>∃s,ρ=st s/\P j s,⟨s0,rfl,h0⟩,?_,?_⟩
 ·rintro j ρ hj ⟨s,rfl,hP⟩
  exact(hs j s hj hP).mono λρ1 q=>q.mono λf ρ2 q=>le q
 ·rintro ρ ⟨s,rfl,hP⟩
  exact he s hP
theorem du (st:S->Rho)(P:Nat->S->Prop) (h:WE m ρ λr ρ1=>∃is:List I,eT r=some (is.map λi=>⟨.ow,.im i⟩)/\au (g.mu++s1.mu) r=true/\∃s0,ρ1=st s0/\P 0 s0 ∧
  (∀(j:Nat) x s,is[j]?=some x->P j s->WG g ⟨.ow,.im x⟩ (st s) λρ1=>WS s1 ρ1 (fFs st (P (j+1)) Q))/\∀s,P is.length s->Q .nx (st s)):WS (bQ (mIt m) g s1) ρ Q:=by
 obtain⟨r,ρ1,e1,is,e2,al,s0,rfl,h0,hs,he⟩:=h
 refine Ax ⟨r,_,e1,is,e2,al,λj ρ=>∃s,ρ=st s/\P j s,⟨s0,rfl,h0⟩,?_,?_⟩
 ·rintro j x ρ hj ⟨s,rfl,hP⟩
  exact(hs j x s hj hP).mono λρ1 q=>q.mono λf ρ2 q=>le q
 ·rintro ρ ⟨s,rfl,hP⟩
  exact he s hP
theorem mX (st:S->Rho)(P:S->Prop)(μ : S->Nat)(s0:S)(e0 : ρ=st s0)(h0:P s0)(hs:∀s,P s->WT ct (st s) λbb ρ1=>(bb=true->WS s1 ρ1 (fFs st (λs'=>μ s' < μ s/\P s') Q))/\(bb=false->Q .nx ρ1)):WS (eV ct s1) ρ Q:=by with_unfolding_all
 subst e0
 refine w8 (λn ρ=>∃s,ρ=st s/\P s/\μ s=n) (μ s0) ⟨s0,rfl,h0,rfl⟩ ?_
 rintro n ρ ⟨s,rfl,hP,rfl⟩
 refine(hs s hP).mono λbb ρ1 ⟨q1,q2⟩=>⟨q2,λhb=>(q1 hb).mono λf ρ2 q=>?_⟩
 cases f with
 | nx=>have q:∃s',ρ2=st s'/\μ s' < μ s/\P s':=q;obtain⟨s',e,hl,hP'⟩:=q;exact⟨μ s',hl,s',e,hP',rfl⟩
 | ct=>have q:∃s',ρ2=st s'/\μ s' < μ s/\P s':=q;obtain⟨s',e,hl,hP'⟩:=q;exact⟨μ s',hl,s',e,hP',rfl⟩
 | bk=>exact q
 | rt t=>exact q
end
section
variable  {S α:Type}{ρ:Rho}{m:ME}{ms:MA}{QE':R->Rho->Prop}{fr:List (Option Nat)}{i:Nat}
theorem rY {emb : α->T}(hne:∀x i,emb x ≠ .im i):∀{l:List α},l≠[]->bE (l.map emb)=.lst (l.map emb)
 | [],h=>absurd rfl h
 | x::l,_=>by
  unfold bE
  have:ims ((x::l).map emb)=none:=by
   rw[DJ]
   cases h:emb x with
   | im i=>exact absurd h (hne x i)
   | _=>rfl
  rw[this]
theorem jT (st:S->Rho)(emb : α->T)(hne:∀x i,emb x ≠ .im i)(P:Nat->S->List α->Prop) (h:WA ms ρ λrs ρ1=>Int1 rs λn=>(1<=n/\n<16000000)/\(db fr ρ1.length&&cY ([i]++([]++m.mu)) fr.length)=true/\∃s0,ρ1=st s0/\P 0 s0 [] ∧
  (∀(j:Nat) s l,(j:Int)<n->P j s l->WG (ae i) (jO j) (inR fr (st s)) λρ1=>WE m ρ1 λr ρ3=>∃x s',r=⟨.ow,emb x⟩/\cI fr ([i]++([]++m.mu)) ρ3 (st s)=st s'/\P (j+1) s' (l++[x])) ∧
  ∀s l,P n.toNat s l->l.length=n.toNat->QE' ⟨.ow,.lst (l.map emb)⟩ (st s)):WE (aR fr (aW ms) (ae i) mYes m) ρ QE':=by
 obtain⟨rs,ρ1,e1,n,e2,h1,al,s0,rfl,h0,hs,he⟩:=h
 refine pk ⟨rs,_,e1,n,e2,⟨by omega,h1.2⟩,al,λj acc ρ=>∃s l,acc=l.map emb/\l.length=j/\ρ=st s/\P j s l,⟨s0,[],rfl,rfl,rfl,h0⟩,?_,?_⟩
 ·rintro j acc ρ hj ⟨s,l,rfl,hl,rfl,hP⟩
  refine(hs j s l hj hP).mono λρ1 q=>q.mono λr ρ3 ⟨x,s',e,e',hP'⟩=>⟨_,e,s',l++[x],by simp,by simp[hl],e',hP'⟩
 ·rintro acc ρ ⟨s,l,rfl,hl,rfl,hP⟩
  rw[rY hne (by intro z;rw[z]at hl;simp at hl;omega)]
  exact he s l hP hl
theorem tm {ts:List T}{n:Nat}{u s:T}(h:ts[n]?=some u):T.put (.lst ts) [.ix n] s=.lst (ts.set n s):=by simp only[T.put,iK,h,zB]
end
end L2
namespace L2
end L2
namespace L2
section
variable  {ρ:Rho}{b:MS}{Q:Fl->Rho->Prop}{t s':T}{k:Nat}{ks:List Nat}
theorem A5 {R:T->T->Prop}(h : ρ[k]?=some (some ⟨.io 0,s'⟩))(q:R t s'):fI k R (.rt t) ρ:=by with_unfolding_all exact⟨s',h,q⟩
theorem A7 {R:T->Prop}(q:R t):fP R (.rt t) ρ:=by with_unfolding_all exact q
theorem oO (h:WS b ρ Q):yf b Q .nx ρ:=by with_unfolding_all exact h
theorem uY (h:Q (.rt t) ρ):yf b Q (.rt t) ρ:=by with_unfolding_all exact h
theorem uV (h:Q .nx (fgts ks ρ)):A4 ks Q .nx ρ:=by with_unfolding_all exact h
variable  {S:Type}{st:S->Rho}{P:S->Prop}
theorem yg (h:∃s,ρ=st s/\P s):fFs st P Q .nx ρ:=by with_unfolding_all exact h
end
end L2
namespace L2
section
variable  {M:List Nat}{ρ:Rho}{t s:T}{n i:Nat}{p:Option (List Ac)}{k:Nat}{x:I}
theorem yp:aq M []=[]:=rfl
theorem Bh:aq M (some ⟨.ow,t⟩::ρ)=some ⟨.ow,t⟩::aq M ρ:=rfl
theorem Bg:aq M (some ⟨.io n,t⟩::ρ)=some ⟨.io n,t⟩::aq M ρ:=rfl
theorem vb:aq M (none::ρ)=none::aq M ρ:=rfl
theorem Bj:aq M (some ⟨.vw none p,t⟩::ρ)=some ⟨.vw none p,t⟩::aq M ρ:=rfl
theorem vZ:T.put t [] s=s:=by cases t<;>rfl
theorem wt {j:Int}:jO j=⟨.ow,.im (.int j)⟩:=rfl
theorem Ab:rdR i ⟨.ow,.im x⟩=⟨.ow,.im x⟩:=rfl
theorem Ae {a:Option Nat}:rdR i ⟨.vw a p,t⟩=⟨.vw a p,t⟩:=rfl
theorem Ad {l:List I}:rdR i ⟨.ow,.li l⟩=⟨.vw (some i) (some []),.li l⟩:=rfl
theorem wu {l:List T}:rdR i ⟨.ow,.lst l⟩=⟨.vw (some i) (some []),.lst l⟩:=rfl
theorem rD:fgts [] ρ=ρ:=rfl
theorem pH {ks:List Nat}:fgts (i::ks) ρ=fgts ks ((aq [i] ρ).set i none):=rfl
theorem runP_ok' {run:List T->Option T}{l:Nat}{m:MS}{ts:List T}{QT1:T->Prop}(ρ:Rho)(hrun:run ts=if ts.length=l then dr m n ts else none)(hl:ts.length=l)(he:cJ ts n=ρ)(h:WS m ρ (fP QT1)):W1 (run ts) QT1:=o7 hrun hl (he▸h)
theorem runI_ok' {run:List T->Option (T×T)}{l:Nat}{m:MS}{ts:List T}{Q2:T->T->Prop}(ρ:Rho)(hrun:run ts=if ts.length=l then eN m k n ts else none)(hl:ts.length=l)(he:eY k ts n=ρ)(h:WS m ρ (fI k Q2)):W2 (run ts) Q2:=gk hrun hl (he▸h)
end
end L2
namespace L2
open PySem PySem.Spec PyProof.Rows
section
variable  {ρ:Rho}{g g2:MG}{ct:MT}{m:ME}{it it2:MI}{QE':R->Rho->Prop}{fr fr2:List (Option Nat)}
theorem j9 {items:List R}{QC:List T->Rho->Prop}(Inv:Nat->List T->Rho->Prop)
  (hs:∀i r acc ρ,items[i]?=some r->Inv i acc ρ->WG g (hC (piF fr) r) (inR fr ρ) λρ1=>WI it2 ρ1 λsrc2 items2 ρ2=>Gu (db fr2 ρ2.length&&(decide (src2.length=1)&&src2.all (au (muF fr2 (g2.mu++(ct.mu++m.mu)))))) (acc.length+items2.length<sizeLine/\W2 (bm fr2 (g2.mu++(ct.mu++m.mu)) g2 ct m items2 ρ2 acc) λts ρ3=>Inv (i+1) ts (cI fr (g.mu++(it2.mu++muF fr2 (g2.mu++(ct.mu++m.mu)))) ρ3 ρ)))
  (he:∀acc ρ,Inv items.length acc ρ->QC acc ρ):∀(l:List R) (i:Nat) (acc:List T) (ρ:Rho),items.drop i=l->i<=items.length->Inv i acc ρ->W2 (bR fr fr2 g it2 g2 ct m l ρ acc) QC
 | [],i,acc,ρ,hl,hi,hI=>by
  have:i=items.length:=by have:=congrArg EO hl;simp at this;omega
  subst this
  exact⟨_,_,rfl,he acc ρ hI⟩
 | r::l,i,acc,ρ,hl,hi,hI=>by
  have hr:items[i]?=some r:=by rw[←Gc,hl];rfl
  have hlt:=(DB.mp hr).1
  have hl':items.drop (i+1)=l:=by rw[←Gn,hl];rfl
  obtain⟨ρ1,e1,src2,items2,ρ2,e2,al,hz,ts,ρ3,e3,q⟩:=hs i r acc ρ hr hI
  simp only[bR,e1,e2]
  rw[if_pos (by rw[DD];exact⟨al,decide_eq_true hz⟩)]
  simp only[e3]
  exact j9 Inv hs he l (i+1) _ _ hl' hlt q
theorem wY (h:WI it ρ λsrc items ρ1=>Gu (db fr ρ1.length&&cY (g.mu++(it2.mu++muF fr2 (g2.mu++(ct.mu++m.mu)))) fr.length&&cY (g2.mu++(ct.mu++m.mu)) fr2.length&&(decide (src.length=1)&&src.all (au (muF fr (g.mu++(it2.mu++muF fr2 (g2.mu++(ct.mu++m.mu)))))))) (∃Inv:Nat->List T->Rho->Prop,Inv 0 [] ρ1 ∧
  (∀i r acc ρ,items[i]?=some r->Inv i acc ρ->WG g (hC (piF fr) r) (inR fr ρ) λρ1=>WI it2 ρ1 λsrc2 items2 ρ2=>Gu (db fr2 ρ2.length&&(decide (src2.length=1)&&src2.all (au (muF fr2 (g2.mu++(ct.mu++m.mu)))))) (acc.length+items2.length<sizeLine/\W2 (bm fr2 (g2.mu++(ct.mu++m.mu)) g2 ct m items2 ρ2 acc) λts ρ3=>Inv (i+1) ts (cI fr (g.mu++(it2.mu++muF fr2 (g2.mu++(ct.mu++m.mu)))) ρ3 ρ))) ∧
  ∀acc ρ,Inv items.length acc ρ->acc.length<sizeLine/\QE' ⟨.ow,bE acc⟩ ρ)):WE (ir fr fr2 it g it2 g2 ct m) ρ QE':=by
 obtain⟨src,items,ρ1,e1,al,Inv,h0,hs,he⟩:=h
 obtain⟨ts,ρ2,e,hz,q⟩:=j9 (QC:=λacc ρ=>acc.length<sizeLine/\QE' ⟨.ow,bE acc⟩ ρ) Inv hs he items 0 [] ρ1 rfl (EX _) h0
 refine⟨⟨.ow,bE ts⟩,ρ2,?_,q⟩
 simp only[ir,e1]
 rw[if_pos al]
 simp only[e]
 rw[if_pos hz]
theorem pE {items:List I}{M:List Nat}{QC:List T->Rho->Prop}(st:Rho)(hst:∀x,WG g (hC (piF fr2) ⟨.ow,.im x⟩) (inR fr2 st) λρ1=>WE m ρ1 λr ρ3=>r=⟨.ow,.im x⟩/\cI fr2 M ρ3 st=st)(acc:List T)(q:QC (acc++items.map T.im) st):W2 (bm fr2 M g mYes m (items.map λi=>⟨.ow,.im i⟩) st acc) QC:=by
 refine gN (items:=items.map λi=>⟨.ow,.im i⟩) (λi a ρ=>ρ=st/\a=acc++(items.take i).map T.im) (λi r a ρ hr hI=>?_) (λa ρ hI=>?_) _ 0 acc st rfl (EX _) ⟨rfl,by simp⟩
 ·obtain⟨rfl,rfl⟩:=hI
  obtain⟨x,hx,rfl⟩:=aZ hr
  refine(hst x).mono λρ1 w=>iL ⟨λ_=>w.mono λr ρ3 ⟨e,e'⟩=>⟨_,e,e',?_⟩,λz=>by cases z⟩
  rw[Go,hx]
  simp
 ·obtain⟨rfl,rfl⟩:=hI
  simp at *
  exact q
end
noncomputable def less (K:yF) (a:Addr):yF:=K.filter λp=>!(p.1==a)
theorem gU:∀{K:yF} {a b:Addr},b≠a->(less K a).lookup b=K.lookup b
 | [],_,_,_=>rfl
 | (c,o)::K,a,b,h=>by
  have ih:=gU (K:=K) h
  by_cases e:c=a
  ·subst e
   have:less ((c,o)::K) c=less K c:=by simp[less]
   rw[this,ih]
   show _=match b==c with|true=>some o|false=>Fy b K
   rw[beq_eq_false_iff_ne.mpr h]
  ·have:less ((c,o)::K) a=(c,o)::less K a:=by simp[less,e]
   rw[this]
   show(match b==c with|true=>some o|false=>Fy b (less K a))=match b==c with|true=>some o|false=>Fy b K
   rw[ih]
theorem ip:∀{K:yF} {a:Addr},(less K a).lookup a=none
 | [],_=>rfl
 | (c,o)::K,a=>by
  have ih:=ip (K:=K) (a:=a)
  by_cases e:c=a
  ·subst e
   have:less ((c,o)::K) c=less K c:=by simp[less]
   rw[this,ih]
  ·have:less ((c,o)::K) a=(c,o)::less K a:=by simp[less,e]
   rw[this]
   show(match a==c with|true=>some o|false=>Fy a (less K a))=none
   rw[beq_eq_false_iff_ne.mpr (Ne.symm e)]
   exact ih
theorem vf {K:yF}{a:Addr}{h:Heap}(X:K.In h):(less K a).In h:=λb o e=>by
 by_cases q:b=a
 ·subst q;rw[ip]at e;cases e
 ·rw[gU q]at e;exact X b o e
def Lst (o:Obj):Prop:=∃vs:Array Value,o={cls:=.type "list",data:=.seq vs}
def LsAt (K:yF)(a:Addr):Prop:=∀o,K.lookup a=some o->Lst o
theorem LsAt.get {K:yF}{a b:Addr}{o:Obj}(h:LsAt K a)(e:K.lookup b=some o)(n:¬ Lst o):(less K a).lookup b=some o:=by
 rw[gU (a:=a) λq:b=a=>n (h o (by rw[←q];exact e))];exact e
def Def0 (K:yF)(mg:Str->Option Value)(name:Str)(st:Stmt)(ps:List Str):Prop:=
 ∃(f:Addr) (fd:FuncData),mg name=some (.ref f)/\Fun K name name st f fd/\(∀us:List Value,us.length=ps.length->bindArgs fd ⟨us,[]⟩=pure (ps.zip us))
theorem Def0.to {K:yF}{mg:Str->Option Value}{name:Str}{st:Stmt}{ps:List Str}(d:Def0 K mg name st ps):Def K mg name st ps:=by
 obtain⟨f,fd,h1,h2,h3⟩:=d
 exact⟨f,fd,h1,h2,.all h3⟩
theorem Def0.less {K:yF}{mg:Str->Option Value}{name:Str}{st:Stmt}{ps:List Str}{a:Addr}(d:Def0 K mg name st ps)(h:LsAt K a):Def0 (less K a) mg name st ps:=by
 obtain⟨f,fd,h1,F,h3⟩:=d
 obtain⟨oc,od,kV,doc,pm,an,cdv,ct,osl,e,lk,hcd⟩:=F.ex
 have lk':=h.get lk (by rintro⟨vs,z⟩;cases z)
 refine⟨f,fd,h1,⟨⟨oc,od,kV,doc,pm,an,cdv,ct,osl,e,lk',?_⟩,?_⟩,h3⟩
 ·unfold Fh at hcd⊢
  cases cdv with
  | ref c=>
   dsimp only at hcd⊢
   cases q:Fy c K with
   | none=>rw[q]at hcd;cases hcd
   | some o=>
    by_cases w:c=a
    ·subst w
     obtain⟨vs,rfl⟩:=h o q
     rw[q]at hcd;cases hcd
    ·rw[gU w];exact hcd
  | _=>cases hcd
 ·unfold EY
  dsimp only
  rw[lk']
theorem Def0.mk' {K:yF}{h:Heap}{mg:Str->Option Value}{name:Str}{st:Stmt}{ps:List Str}(X:K.In h)(G:h.Ns mainGlobals mg){f:Addr}{oc:Value}{od an:Option Addr}{osl:Array (Option Value)}{kV doc pm cdv ct:Value}
  (a:GJ K mainGlobals name=some (some (.ref f))) (l:K.lookup f=some ⟨oc,od,.func (EL name name (da st) (br st) (aj st) .none kV doc pm an cdv ct),osl⟩) (c:Fh K cdv name=true) (k:EY K (.ref f)=true)
  (hb:∀(kV doc pm:Value) (an:Option Addr) (cdv ct:Value) (us:List Value),us.length=ps.length->bindArgs (EL name name (da st) (br st) (aj st) .none kV doc pm an cdv ct) ⟨us,[]⟩=pure (ps.zip us)):Def0 K mg name st ps:=
 ⟨f,_,PySem.W.mg_of X G a,yi l c k,hb kV doc pm an cdv ct⟩
theorem walkP {l:PySem.W.OpenLaw}{k:Nat}{q:Program}{loose:List Str}{XP:(Str->Option Value)->Heap->Prop}{YP:World->Heap->Prop}{d:DefRec}{K:Params->yF}{x:Str}{st:Stmt}{run:List T->Option T}{A:(Str->Option Value)->yF->Prop}
  (hn:l.most=some 63) (hdf:d.params.defaults=[]) (hr:Room k callerA)
  (hY:∀(w:World) (h:Heap),YP w h->(K w.params).In h)
  (hA:∀(w:World) (mg:Str->Option Value) (h:Heap),(K w.params).In h->h.Ns mainGlobals mg->A mg (K w.params))
  (hL:∀(mg:Str->Option Value) (K:yF) (a:Addr),A mg K->LsAt K a->A mg (less K a))
  (hd:∀(mg:Str->Option Value) (K:yF),A mg K->Def K mg d.name st [x])
  (hb:∀(kV doc pm:Value) (an:Option Addr) (cdv ct:Value) (s:Shared) (v:Value),BindsTo s (EL d.name d.name (da st) (br st) (aj st) .none kV doc pm an cdv ct) ⟨[v],[]⟩ [(x,v)])
  (F:∀(w:World) (mg:Str->Option Value) (K:yF) (base:Heap),A mg K->Has l.prog w K mg base k d.name [x] (spP K run))
  (law:∀ns:List Int,ns.length<=63->run [.li (ns.map .int)]=some (.im (.bl true))) :
  PySem.W.WalkO q loose XP YP l.row.toRowW d [] (λf vs=>PySem.call f vs):=by
 refine Att.attach_call hn hdf λw s₀ s₁ mg mb fa o pm cd doc a vs ns G Y ho hd' hcd hmg hobj hints hlen hg=>?_
 have KX:=hY w _ Y
 have a0:=hA w mg _ KX G.T.g
 have la:LsAt (K w.params) a:=λo e=>by
  have e2:=KX a o e
  rw[hobj]at e2;cases e2
  exact⟨_,rfl⟩
 have a1:=hL mg _ a a0 la
 obtain⟨fd,hb',hF⟩:=rR hmg (hd mg _ a1) hb λbase _ _=>F w mg (less (K w.params) a) base a1
 refine rQ (vf KX) G.T.g G.T.b G.T.builtins G.T.nolimit hg hobj hints (Ek hlen (by decide)) hr hF hb' (λH hO hS=>?_) (λ_ _ _ z=>z)
 rcases hS with hS|⟨o,its,n,e,_⟩
 ·refine⟨[.li (ns.map .int)],_,?_,law ns hlen,?_⟩
  ·refine⟨_,_,rfl,⟨[a],?_⟩,rfl⟩
   exact⟨a,_,rfl,hS,RpIs.ints ns,rfl⟩
  ·intro v H' z
   obtain⟨_,F,z,_⟩:=z
   rw[Rp]at z
   exact z.1
 ·rw[ip]at e;cases e
noncomputable def vs (x:String) (t:Tok):Value:=.str (Str.ofString x) t
noncomputable def vi (n:Int):Value:=.int n 0
noncomputable def vr (a:Addr):Value:=.ref a
noncomputable def eO (p:Params) (x:String) (t:Tok) (v:Value):DictEntry:=⟨PyData.keyHash p (Str.ofString x),.str (Str.ofString x) t,v⟩
noncomputable def oC (vs:List Value):Obj:={cls:=.type "code",data:=.fields vs.toArray}
noncomputable def oD (es:List DictEntry) (n:Nat):Obj:={cls:=.type "dict",data:=.dict es.toArray n}
noncomputable def oF (x:String) (st:Stmt) (pm:Value) (c:Addr):Obj:={cls:=.type "function",data:=.func (EL (Str.ofString x) (Str.ofString x) (da st) (br st) (aj st) .none .none .none pm none (.ref c) .none)}
noncomputable def oc (x:String) (t l n r:Nat) (v:Option (Nat×Nat)) (d e:Nat):Obj:=oC [vs x t,vs x (t+1),vs "/claim/cut.py" (t+2),vi l,vi n,vi 0,vi 0,vi 3,vr r,.bool true,vi 181,vr (r+1),.none,(match v with|some p=>vr p.1|none=>.none),(match v with|some p=>vr p.2|none=>.none),vr d,vi e,vi l,vs "/claim/cut.py" (e+1)]
theorem Def0.mkO {K:yF}{h:Heap}{mg:Str->Option Value}{x:String}{st:Stmt}{ps:List Str}(X:K.In h)(G:h.Ns mainGlobals mg)(f:Addr)(pm:Value)(c:Addr)
  (hb:∀(kV doc pm:Value) (an:Option Addr) (cdv ct:Value) (us:List Value),us.length=ps.length->bindArgs (EL (Str.ofString x) (Str.ofString x) (da st) (br st) (aj st) .none kV doc pm an cdv ct) ⟨us,[]⟩=pure (ps.zip us))
  (a:GJ K mainGlobals (Str.ofString x)=some (some (.ref f)):=by rfl') (l:K.lookup f=some (oF x st pm c):=by rfl') (cd:Fh K (.ref c) (Str.ofString x)=true:=by rfl'):Def0 K mg (Str.ofString x) st ps:=
 Def0.mk' X G a l cd (by unfold EY;dsimp only;rw[l];rfl) hb
theorem bN {K:yF}{h:Heap}{mg:Str->Option Value}(X:K.In h)(G:h.Ns mainGlobals mg){n:Str}(e:GJ K mainGlobals n=some none:=by rfl'):mg n=none:=PySem.W.mg_none_of X G e
section
variable  {α A B C D E F:Type}{f g:A->B->C->D->E->F->List Value->α}
theorem lenC9 {α:Type}{n:Nat}{l:List α}(h:l.length=n+1):∃a r,l=a::r/\r.length=n:=by
 cases l with
 | nil=>cases h
 | cons a r=>exact⟨a,r,rfl,Nat.succ.inj h⟩
theorem by1 (h:∀x1 x2 x3 x4 x5 x6 a0,f x1 x2 x3 x4 x5 x6 [a0]=g x1 x2 x3 x4 x5 x6 [a0]):∀x1 x2 x3 x4 x5 x6 (us:List Value),us.length=1->f x1 x2 x3 x4 x5 x6 us=g x1 x2 x3 x4 x5 x6 us:=λx1 x2 x3 x4 x5 x6 us e=>by
 obtain⟨a0,u0,rfl,e0⟩:=lenC9 e
 obtain rfl:=E6.mp e0
 exact h x1 x2 x3 x4 x5 x6 a0
theorem by2 (h:∀x1 x2 x3 x4 x5 x6 a0 a1,f x1 x2 x3 x4 x5 x6 [a0,a1]=g x1 x2 x3 x4 x5 x6 [a0,a1]):∀x1 x2 x3 x4 x5 x6 (us:List Value),us.length=2->f x1 x2 x3 x4 x5 x6 us=g x1 x2 x3 x4 x5 x6 us:=λx1 x2 x3 x4 x5 x6 us e=>by
 obtain⟨a0,u0,rfl,e0⟩:=lenC9 e
 obtain⟨a1,u1,rfl,e1⟩:=lenC9 e0
 obtain rfl:=E6.mp e1
 exact h x1 x2 x3 x4 x5 x6 a0 a1
theorem by3 (h:∀x1 x2 x3 x4 x5 x6 a0 a1 a2,f x1 x2 x3 x4 x5 x6 [a0,a1,a2]=g x1 x2 x3 x4 x5 x6 [a0,a1,a2]):∀x1 x2 x3 x4 x5 x6 (us:List Value),us.length=3->f x1 x2 x3 x4 x5 x6 us=g x1 x2 x3 x4 x5 x6 us:=λx1 x2 x3 x4 x5 x6 us e=>by
 obtain⟨a0,u0,rfl,e0⟩:=lenC9 e
 obtain⟨a1,u1,rfl,e1⟩:=lenC9 e0
 obtain⟨a2,u2,rfl,e2⟩:=lenC9 e1
 obtain rfl:=E6.mp e2
 exact h x1 x2 x3 x4 x5 x6 a0 a1 a2
end
end L2
namespace L2
open PySem
noncomputable section
noncomputable def bU:MS:=(ao (mIf (aK (mOp eqT (mIx (ah 0) (mC (.int 0))) (mC (.str "op")))) (bf (mSl (ah 0) (eI (mC (.int 2))) mNoPart)) mNext)
  (ao (mIf (aK (mOp eqT (mIx (ah 0) (mC (.int 0))) (mC (.str "if")))) (bf (mSl (ah 0) (eI (mC (.int 1))) mNoPart)) mNext)
  (bf (ar [] mNil))))
noncomputable def cR (ts:List T):Option T:=if ts.length=1 then dr bU 1 ts else none
noncomputable def dh:MS:=(ao (aB (aL [] mNil) (ae 1))
  (ao (aB (aL [0] (ac 0 mNil)) (ae 2))
  (ao (eV (pX (ah 2))
  (bP [3] (ao (aB (kw 2 my (ah 2)) (ae 3))
  (ao (be (bT 1 [3] apT (ah 1) (ac 3 mNil)))
  (be (bT 2 [] jX (ah 2) (aa (mUn ue (mB cR (ac 3 mNil))) mNil)))))))
  (bf (ah 1)))))
noncomputable def e7 (ts:List T):Option T:=if ts.length=1 then dr dh 4 ts else none
noncomputable def gb:MS:=(bf (mB fw (aa (aR [none,none] (mIt (mB e7 (ac 0 mNil))) (ae 1) (aK (mOp eqT (mIx (ah 1) (mC (.int 0))) (mC (.str "at")))) (ar [] (aa (mIx (ah 1) (mC (.int 1))) (aa (mIx (ah 1) (mC (.int 2))) mNil)))) mNil)))
noncomputable def iH (ts:List T):Option T:=if ts.length=1 then dr gb 1 ts else none
noncomputable def ci:MS:=(ao (aB (aL [] mNil) (ae 2))
  (ao (bQ (mIt (mB iH (ac 1 mNil))) (bC (ax (ae 3) (ax (ae 4) mGNil)))
  (bP [3,4,5] (ao (aB (ar [0,3,4] (ac 0 (ac 3 (ac 4 mNil)))) (ae 5))
  (mIf (aK (mOp nF (ah 5) (ah 2))) (be (bT 2 [5] apT (ah 2) (ac 5 mNil))) mNext))))
  (bf (ah 2))))
noncomputable def cw (ts:List T):Option T:=if ts.length=2 then dr ci 6 ts else none
noncomputable def dk:MS:=(bf (mB fw (aa (ir [none,none,none,none] [some 0,some 1,some 2,none] (mIt (mIx (ah 0) (mC (.int 2)))) (bC (ax (ae 1) (ax (ae 2) mGNil))) (mIt (mB cw (ac 1 (ac 2 mNil)))) (ae 3) mYes (ah 3)) mNil)))
noncomputable def e8 (ts:List T):Option T:=if ts.length=1 then dr dk 1 ts else none
noncomputable def gW:MS:=(ao (aB (mOp bd (mOp dl (mC (.int 7901)) (ah 1)) (mC (.int 24697))) (ae 2))
  (ao (mIf (aK (mOp (gr λi j=>decide (i<j)) (ah 1) (mB cH (ac 0 mNil)))) (aB (mIx (ah 0) (ah 1)) (ae 2)) (mIf (aK (mOp (gr λi j=>decide (j<i)) (mB cH (ac 0 mNil)) (mC (.int 0)))) (aB (mOp bd (mOp dl (mOp eX (mIx (ah 0) (mOp eX (ah 1) (mB cH (ac 0 mNil)))) (mC (.int 2147483629))) (mC (.int 31))) (mOp dl (mC (.int 7901)) (ah 1))) (ae 2)) mNext))
  (ao (aB (mC (.int 0)) (ae 3))
  (ao (mIf (aK (mOp (gr λi j=>decide (j<=i)) (ah 2) (mOp qg (mC (.int 10)) (mC (.int 18))))) (aB (ah 2) (ae 3)) mNext)
  (bf (aL [3] (ac 3 (aa (mOp bd (mOp eX (mOp qg (mOp bd (mOp dl (mOp eX (ah 2) (mC (.int 2147483629))) (mC (.int 48271))) (mOp dl (mC (.int 40692)) (ah 1))) (mC (.int 5))) (mC (.int 2147483629))) (mC (.int 1))) mNil))))))))
noncomputable def g9 (ts:List T):Option T:=if ts.length=2 then dr gW 4 ts else none
noncomputable def gX:MS:=(ao (mIf (aK (mOp (gr λi j=>decide (j<i)) (mIx (ah 0) (mC (.int 0))) (mC (.int 0)))) (ao (aB (mOp eX (mIx (ah 0) (mC (.int 0))) (ah 1)) (ae 2))
  (ao (aB (mOp gn (mIx (ah 0) (mC (.int 0))) (ah 1)) (nA 0 (ah 0) (mC (.int 0))))
  (bf (ah 2)))) mNext)
  (ao (aB (mOp eX (mOp dl (mIx (ah 0) (mC (.int 1))) (mC (.int 48271))) (mC (.int 2147483647))) (ae 3))
  (ao (aB (mOp bd (mOp eX (mOp bd (mOp dl (ah 3) (mC (.int 40692))) (mC (.int 30103))) (mC (.int 2147483399))) (mC (.int 1))) (nA 0 (ah 0) (mC (.int 1))))
  (bf (mOp eX (mOp gn (mOp bd (mOp dl (ah 3) (mC (.int 2147483647))) (mIx (ah 0) (mC (.int 1)))) (mC (.int 8191))) (ah 1))))))
noncomputable def ai (ts:List T):Option (T×T):=if ts.length=2 then eN gX 0 4 ts else none
noncomputable def f6:MS:=(ao (aB (mC (.str "abcdefghijklmnopqrstuvwxyz")) (ae 2))
  (ao (aB (mM jy (mC (.str "")) (aa (aR [some 0,none,some 2,none,none,none,none,none,none] (aW (aa (ak 0 0 ai (ac 0 (aa (mC (.int 6)) mNil))) mNil)) (ae 7) mYes (mIx (ah 2) (ak 0 0 ai (ac 0 (aa (mC (.int 26)) mNil))))) mNil)) (ae 3))
  (ao (jD 4 5 (aa (ak 0 0 ai (ac 0 (aa (mC (.int 26)) mNil))) (aa (ak 0 0 ai (ac 0 (aa (mOp bd (mB cH (ac 3 mNil)) (mC (.int 1))) mNil))) mNil)))
  (ao (aB (aL [] mNil) (ae 6))
  (ao (bQ (aW (ac 1 mNil)) (ae 7)
  (bP [7,8] (ao (aB (mOp bd (mOp bd (mSl (ah 3) mNoPart (eI (ah 5))) (mIx (ah 2) (mOp eX (mOp bd (ah 4) (mOp dl (mC (.int 5)) (ah 7))) (mC (.int 26))))) (mSl (ah 3) (eI (ah 5)) mNoPart)) (ae 8))
  (ao (mIf (aK (mOp eqT (mOp eX (ah 7) (mC (.int 2))) (mC (.int 1)))) (aB (mOp bd (ah 8) (mC (.str "q"))) (ae 8)) mNext)
  (ao (mIf (aK (mOp inT (ah 8) (ar [] (aa (mC (.str "min")) (aa (mC (.str "max")) (aa (mC (.str "rest")) (aa (mC (.str "less")) (aa (mC (.str "if")) mNil)))))))) (aB (mOp bd (ah 8) (mC (.str "w"))) (ae 8)) mNext)
  (be (bT 6 [8] apT (ah 6) (ac 8 mNil))))))))
  (bf (ah 6)))))))
noncomputable def ge (ts:List T):Option (T×T):=if ts.length=2 then eN f6 0 9 ts else none
noncomputable def i5:MS:=(ao (mIf (aK (mOp eqT (ak 0 0 ai (ac 0 (aa (mC (.int 4)) mNil))) (mC (.int 0)))) (bf (mOp dl (ar [] (aa (mC (.int 0)) mNil)) (ah 1))) mNext)
  (bf (mB fw (aa (aR [some 0,none,none] (aW (ac 1 mNil)) (ae 2) mYes (mIx (aL [] (aa (mC (.int 0)) (aa (mC (.int 1)) (aa (mOp bZ (mC (.int 0)) (mC (.int 1))) (aa (mC (.int 2)) (aa (mOp bZ (mC (.int 0)) (mC (.int 2))) mNil)))))) (ak 0 0 ai (ac 0 (aa (mC (.int 5)) mNil))))) mNil))))
noncomputable def i8 (ts:List T):Option (T×T):=if ts.length=2 then eN i5 0 2 ts else none
noncomputable def df:MS:=(ao (aB (ak 0 0 ai (ac 0 (ac 1 mNil))) (ae 2))
  (ao (aB (aR [some 0,none,none,none,none] (ft (aa (mOp bd (ah 2) (mC (.int 1))) (ac 1 mNil))) (ae 4) mYes (mIx (aL [] (aa (mC (.int 0)) (aa (mC (.int 1)) (aa (mOp bZ (mC (.int 0)) (mC (.int 1))) (aa (mC (.int 2)) (aa (mOp bZ (mC (.int 0)) (mC (.int 2))) mNil)))))) (ak 0 0 ai (ac 0 (aa (mC (.int 5)) mNil))))) (ae 3))
  (bf (mB fw (aa (mOp bd (mOp bd (mOp dl (aL [] (aa (mC (.int 0)) mNil)) (ah 2)) (aL [] (aa (mOp bZ (mOp bZ (mC (.int 0)) (mC (.int 1))) (ak 0 0 ai (ac 0 (aa (mC (.int 2)) mNil)))) mNil))) (ah 3)) mNil)))))
noncomputable def dq (ts:List T):Option (T×T):=if ts.length=2 then eN df 0 4 ts else none
noncomputable def cb:MS:=(ao (aB (aR [none,none,none,none,none,none] (aW (ac 2 mNil)) (ae 4) mYes (aL [] mNil)) (ae 3))
  (ao (bQ (aW (ac 2 mNil)) (ae 4)
  (bP [4,5] (bQ (aW (aa (ak 0 0 ai (ac 0 (aa (mC (.int 4)) mNil))) mNil)) (ae 5)
  (bP [5] (be (bT 3 [] apT (mIx (ah 3) (ah 4)) (aa (ar [] (aa (ak 0 0 ai (ac 0 (ac 2 mNil))) (aa (ak 0 0 i8 (ac 0 (ac 1 mNil))) mNil))) mNil)))))))
  (bf (ah 3))))
noncomputable def dF (ts:List T):Option (T×T):=if ts.length=3 then eN cb 0 6 ts else none
noncomputable def cc:MS:=(ao (aB (aR [none,none,none,none,none,none] (aW (ac 2 mNil)) (ae 4) mYes (aL [] mNil)) (ae 3))
  (ao (bQ (aW (ac 2 mNil)) (ae 4)
  (bP [4,5] (bQ (aW (aa (mOp bd (mC (.int 1)) (ak 0 0 ai (ac 0 (aa (mC (.int 3)) mNil)))) mNil)) (ae 5)
  (bP [5] (mIf (ln (aK (mOp (gr λi j=>decide (j<i)) (ah 4) (mC (.int 0)))) (aK (mOp eqT (ak 0 0 ai (ac 0 (aa (mC (.int 4)) mNil))) (mC (.int 0))))) (be (bT 3 [] apT (mIx (ah 3) (ah 4)) (aa (ar [] (aa (ak 0 0 ai (ac 0 (ac 4 mNil))) (aa (mOp dl (ar [] (aa (mC (.int 0)) mNil)) (ah 1)) mNil))) mNil))) (be (bT 3 [] apT (mIx (ah 3) (ah 4)) (aa (ar [] (aa (ak 0 0 ai (ac 0 (ac 2 mNil))) (aa (ak 0 0 dq (ac 0 (ac 1 mNil))) mNil))) mNil))))))))
  (bf (ah 3))))
noncomputable def cq (ts:List T):Option (T×T):=if ts.length=3 then eN cc 0 6 ts else none
noncomputable def cg:MS:=(ao (aB (aL [] mNil) (ae 3))
  (ao (bQ (aW (aa (mB cH (ac 0 mNil)) mNil)) (ae 4)
  (bP [4] (be (bT 3 [] apT (ah 3) (aa (mOp dl (mIx (ah 0) (mOp eX (mOp bd (ah 4) (ah 1)) (mB cH (ac 0 mNil)))) (mIx (ah 2) (ah 4))) mNil)))))
  (bf (mB fw (ac 3 mNil)))))
noncomputable def cv (ts:List T):Option T:=if ts.length=3 then dr cg 5 ts else none
noncomputable def bD:MS:=(ao (aB (mOp bd (mC (.int 1)) (ak 0 0 ai (ac 0 (aa (mC (.int 2)) mNil)))) (ae 3))
  (ao (aB (aL [] (aa (ar [] (aa (mC (.int 0)) (aa (mC (.int 0)) (aa (ar [3] (aa (mC (.int 0)) (ac 3 mNil))) mNil)))) (aa (ar [] (aa (mC (.int 1)) (aa (mC (.int 1)) (aa (ar [] (aa (mC (.int 0)) (aa (mOp bZ (mOp bZ (mC (.int 0)) (mC (.int 1))) (ak 0 0 ai (ac 0 (aa (mC (.int 2)) mNil)))) mNil))) mNil)))) (aa (ar [] (aa (mC (.int 0)) (aa (mC (.int 1)) (aa (ar [] (aa (mOp bZ (mC (.int 0)) (mC (.int 1))) (aa (mOp bZ (ak 0 0 ai (ac 0 (aa (mC (.int 3)) mNil))) (mC (.int 1))) mNil))) mNil)))) mNil)))) (ae 4))
  (ao (be (bT 4 [] apT (ah 4) (aa (ar [] (aa (mC (.int 1)) (aa (mC (.int 0)) (aa (ar [] (aa (mOp bZ (mC (.int 0)) (ak 0 0 ai (ac 0 (aa (mC (.int 2)) mNil)))) (aa (mC (.int 0)) mNil))) mNil)))) mNil)))
  (ao (mIf (aK (mOp eqT (ah 1) (mC (.int 3)))) (ao (aB (aL [] (aa (ar [] (aa (mC (.int 0)) (aa (mC (.int 0)) (aa (ar [3] (aa (mC (.int 0)) (aa (mC (.int 0)) (ac 3 mNil)))) mNil)))) (aa (ar [] (aa (mC (.int 1)) (aa (mC (.int 1)) (aa (ar [] (aa (mC (.int 0)) (aa (mC (.int 0)) (aa (mOp bZ (mC (.int 0)) (mC (.int 1))) mNil)))) mNil)))) (aa (ar [] (aa (mC (.int 0)) (aa (mC (.int 1)) (aa (ar [] (aa (mC (.int 0)) (aa (mOp bZ (mC (.int 0)) (mC (.int 1))) (aa (mC (.int 0)) mNil)))) mNil)))) (aa (ar [] (aa (mC (.int 1)) (aa (mC (.int 0)) (aa (ar [] (aa (mC (.int 0)) (aa (mC (.int 0)) (aa (ak 0 0 ai (ac 0 (aa (mC (.int 2)) mNil))) mNil)))) mNil)))) mNil))))) (ae 4))
  (aB (mOp bd (ah 4) (aL [] (aa (ar [] (aa (mC (.int 2)) (aa (mC (.int 2)) (aa (ar [] (aa (mC (.int 0)) (aa (mOp bd (mC (.int 1)) (ak 0 0 ai (ac 0 (aa (mC (.int 2)) mNil)))) (aa (mC (.int 0)) mNil)))) mNil)))) (aa (ar [] (aa (mC (.int 0)) (aa (mC (.int 2)) (aa (ar [] (aa (mOp bZ (mC (.int 0)) (mC (.int 1))) (aa (mC (.int 0)) (aa (mC (.int 1)) mNil)))) mNil)))) (aa (ar [] (aa (mC (.int 2)) (aa (mC (.int 0)) (aa (ar [] (aa (mC (.int 0)) (aa (mC (.int 0)) (aa (mC (.int 0)) mNil)))) mNil)))) mNil))))) (ae 4))) mNext)
  (ao (jD 5 6 (aa (ak 0 0 ai (ac 0 (ac 1 mNil))) (aa (aR [some 0,none,none,none,none,none,none,none,none,none,none,none] (aW (ac 1 mNil)) (ae 11) mYes (mOp bZ (mC (.int 1)) (mOp dl (mC (.int 2)) (ak 0 0 ai (ac 0 (aa (mC (.int 2)) mNil)))))) mNil)))
  (ao (aB (aR [none,none,none,none,none,none,none,none,none,none,none] (aW (ac 2 mNil)) (ae 8) mYes (aL [] mNil)) (ae 7))
  (ao (bQ (mIt (ah 4)) (bC (ax (ae 8) (ax (ae 9) (ax (ae 10) mGNil))))
  (bP [8,9,10] (be (bT 7 [] apT (mIx (ah 7) (ah 8)) (aa (ar [9] (ac 9 (aa (mB cv (ac 10 (ac 5 (ac 6 mNil)))) mNil))) mNil)))))
  (ao (bQ (ft (aa (mC (.int 3)) (ac 2 mNil))) (ae 8)
  (bP [8] (be (bT 7 [] apT (mIx (ah 7) (ah 8)) (aa (ar [] (aa (ak 0 0 ai (ac 0 (ac 8 mNil))) (aa (ak 0 0 i8 (ac 0 (ac 1 mNil))) mNil))) mNil)))))
  (bf (ah 7))))))))))
noncomputable def cr (ts:List T):Option (T×T):=if ts.length=3 then eN bD 0 11 ts else none
noncomputable def cf:MS:=(ao (aB (ak 0 0 cq (ac 0 (ac 1 (ac 2 mNil)))) (ae 3))
  (ao (aB (mOp bd (mC (.int 1)) (ak 0 0 ai (ac 0 (ac 2 mNil)))) (ae 4))
  (ao (aB (mOp dl (aL [] (aa (mC (.int 0)) mNil)) (ah 1)) (ae 5))
  (ao (bQ (aW (ac 4 mNil)) (ae 6)
  (bP [6,7] (ao (aB (aR [some 0,none,none,none,none,none,none,none,none] (aW (ac 1 mNil)) (ae 8) mYes (mOp bZ (ak 0 0 ai (ac 0 (aa (mC (.int 3)) mNil))) (mC (.int 1)))) (ae 7))
  (ao (aB (aR [none,none,none,none,none,some 5,none,some 7,none] (aW (ac 1 mNil)) (ae 8) mYes (mOp bZ (mB l8 (aa (mOp bZ (mC (.int 0)) (mC (.int 2))) (aa (mB l9 (aa (mC (.int 2)) (aa (mOp bd (mIx (ah 5) (ah 8)) (mIx (ah 7) (ah 8))) mNil))) mNil))) (mIx (ah 5) (ah 8)))) (ae 7))
  (ao (mIf (aK (mOp eqT (mOp bd (ah 6) (mC (.int 1))) (ah 4))) (aB (aR [none,none,none,none,none,none,none,none,none] (mIt (ah 5)) (ae 8) mYes (mOp bZ (mC (.int 0)) (ah 8))) (ae 7)) mNext)
  (ao (aB (aR [none,none,none,none,none,some 5,none,some 7,none] (aW (ac 1 mNil)) (ae 8) mYes (mOp bd (mIx (ah 5) (ah 8)) (mIx (ah 7) (ah 8)))) (ae 5))
  (be (bT 3 [] lj (mIx (ah 3) (ah 6)) (aa (mC (.int 0)) (aa (ar [] (aa (mOp eX (mOp bd (ah 6) (mC (.int 1))) (ah 4)) (aa (mB fw (ac 7 mNil)) mNil))) mNil))))))))))
  (bf (ah 3))))))
noncomputable def dI (ts:List T):Option (T×T):=if ts.length=3 then eN cf 0 8 ts else none
noncomputable def f8:MS:=(ao (jD 1 2 (aa (ak 0 0 ai (ac 0 (aa (mC (.int 8)) mNil))) (aa (ak 0 0 ai (ac 0 (aa (mC (.int 16)) mNil))) mNil)))
  (ao (aB (mIx (aL [] (aa (mC (.int 1)) (aa (mC (.int 2)) (aa (mC (.int 2)) (aa (mC (.int 2)) (aa (mC (.int 2)) (aa (mC (.int 1)) (aa (mC (.int 2)) (aa (mC (.int 3)) mNil))))))))) (mOp eX (ah 2) (mC (.int 8)))) (ae 3))
  (ao (aB (mOp bd (mC (.int 1)) (ak 0 0 ai (ac 0 (aa (mIx (aL [] (aa (mC (.int 3)) (aa (mC (.int 6)) mNil))) (mOp gn (ah 2) (mC (.int 8)))) mNil)))) (ae 4))
  (ao (mIf (aK (mOp (gr λi j=>decide (i<j)) (ah 1) (mC (.int 3)))) (bf (ar [3] (ac 3 (aa (ak 0 0 dF (ac 0 (ac 3 (ac 4 mNil)))) mNil)))) mNext)
  (ao (mIf (aK (mOp (gr λi j=>decide (i<j)) (ah 1) (mC (.int 5)))) (bf (ar [3] (ac 3 (aa (ak 0 0 cq (ac 0 (ac 3 (ac 4 mNil)))) mNil)))) mNext)
  (ao (mIf (aK (mOp eqT (ah 1) (mC (.int 5)))) (bf (ar [3] (ac 3 (aa (ak 0 0 dI (ac 0 (ac 3 (ac 4 mNil)))) mNil)))) mNext)
  (ao (aB (mB l8 (aa (mC (.int 2)) (ac 3 mNil))) (ae 3))
  (bf (ar [3] (ac 3 (aa (ak 0 0 cr (ac 0 (ac 3 (aa (mB l8 (ac 3 (aa (mB l9 (ac 4 (aa (mC (.int 5)) mNil))) mNil))) mNil)))) mNil)))))))))))
noncomputable def iE (ts:List T):Option (T×T):=if ts.length=1 then eN f8 0 5 ts else none
noncomputable def fY:MS:=(ao (aB (mB rS (ac 1 mNil)) (ae 2))
  (ao (eV (aK (mOp (gr λi j=>decide (j<i)) (mB cH (ac 2 mNil)) (mC (.int 1))))
  (bP [3,4] (ao (aB (ak 0 0 ai (ac 0 (aa (mOp bZ (mB cH (ac 2 mNil)) (mC (.int 1))) mNil))) (ae 3))
  (bP [3,4] (mIf (ln (aK (mOp (gr λi j=>decide (j<i)) (mB cH (ac 2 mNil)) (mC (.int 2)))) (aK (mOp eqT (ak 0 0 ai (ac 0 (aa (mC (.int 5)) mNil))) (mC (.int 0))))) (ao (aB (mB l9 (ac 3 (aa (mOp bZ (mB cH (ac 2 mNil)) (mC (.int 3))) mNil))) (ae 3))
  (aB (aL [] (aa (ar [] (aa (mC (.str "if")) (aa (mIx (ah 2) (ah 3)) (aa (mIx (ah 2) (mOp bd (ah 3) (mC (.int 1)))) (aa (mIx (ah 2) (mOp bd (ah 3) (mC (.int 2)))) mNil))))) mNil)) (gC 2 (ah 2) (ah 3) (mOp bd (ah 3) (mC (.int 3)))))) (ao (aB (mIx (aL [] (aa (mC (.str "+")) (aa (mC (.str "-")) (aa (mC (.str "*")) (aa (mC (.str "min")) (aa (mC (.str "max")) (aa (mC (.str "rest")) (aa (mC (.str "less")) mNil)))))))) (ak 0 0 ai (ac 0 (aa (mC (.int 7)) mNil)))) (ae 4))
  (aB (aL [] (aa (ar [4] (aa (mC (.str "op")) (ac 4 (aa (mIx (ah 2) (ah 3)) (aa (mIx (ah 2) (mOp bd (ah 3) (mC (.int 1)))) mNil))))) mNil)) (gC 2 (ah 2) (ah 3) (mOp bd (ah 3) (mC (.int 2)))))))))))
  (bf (mIx (ah 2) (mC (.int 0))))))
noncomputable def gd (ts:List T):Option (T×T):=if ts.length=2 then eN fY 0 5 ts else none
noncomputable def fZ:MS:=(ao (aB (ak 0 0 iE (ac 0 mNil)) (bC (ax (ae 1) (ax (ae 2) mGNil))))
  (ao (aB (mIx (aL [] (aa (mOp bd (mC (.int 2)) (ak 0 0 ai (ac 0 (aa (mC (.int 9)) mNil)))) (aa (mOp bd (mC (.int 2)) (ak 0 0 ai (ac 0 (aa (mC (.int 998)) mNil)))) (aa (mOp bZ (mC (.int 1000000000)) (ak 0 0 ai (ac 0 (aa (mC (.int 9)) mNil)))) mNil)))) (ak 0 0 ai (ac 0 (aa (mC (.int 3)) mNil)))) (ae 3))
  (ao (aB (ak 0 0 ge (ac 0 (aa (mB cH (ac 2 mNil)) mNil))) (ae 4))
  (ao (aB (aL [] mNil) (ae 5))
  (ao (bQ (aW (aa (mB cH (ac 2 mNil)) mNil)) (ae 6)
  (bP [6,7,8,9] (ao (aB (aR [none,none,none,none,some 4,none,none,none,none,none,none,none] (mIt (mSl (mIx (ah 2) (ah 6)) mNoPart (eI (mOp gn (mC (.int 16)) (mB cH (ac 2 mNil)))))) (bC (ax (ae 10) (ax (ae 11) mGNil))) mYes (ar [11] (aa (mC (.str "at")) (aa (mIx (ah 4) (ah 10)) (ac 11 mNil))))) (ae 7))
  (ao (bQ (aW (aa (mOp bd (ak 0 0 ai (ac 0 (aa (mC (.int 2)) mNil))) (mB nt (aa (mOp eqT (ah 7) (aL [] mNil)) mNil))) mNil)) (ae 8)
  (bP [8,9] (ao (aB (ak 0 0 ai (ac 0 (aa (mIx (aL [] (aa (mC (.int 9)) (aa (mC (.int 1000000001)) mNil))) (ak 0 0 ai (ac 0 (aa (mC (.int 2)) mNil)))) mNil))) (ae 9))
  (be (bT 7 [] lj (ah 7) (aa (ak 0 0 ai (ac 0 (aa (mOp bd (mB cH (ac 7 mNil)) (mC (.int 1))) mNil))) (aa (ar [9] (aa (mC (.str "num")) (ac 9 mNil))) mNil)))))))
  (be (bT 5 [] apT (ah 5) (aa (ar [] (aa (mIx (ah 4) (ah 6)) (aa (ak 0 0 gd (ac 0 (ac 7 mNil))) mNil))) mNil)))))))
  (bf (ar [1,3] (ac 1 (ac 3 (aa (mB fw (ac 5 mNil)) mNil))))))))))
noncomputable def iD (ts:List T):Option (T×T):=if ts.length=1 then eN fZ 0 10 ts else none
end
end L2
namespace L2
open PySem PySem.Spec PyProof.Rows
inductive TyB (K:yF) (H:Hp):V->String->Prop where
 | non:TyB K H .non "NoneType"
 | bl (x:Bool):TyB K H (.bl x) "bool"
 | int (i:Int):TyB K H (.int i) "int"
 | str (x:Str):TyB K H (.str x) "str"
 | tup {a:Addr} {xs:List V}:SqT K H a xs->TyB K H (.ref a) "tuple"
 | lst {a:Addr} {xs:List V}:SqL K H a xs->TyB K H (.ref a) "list"
 | dK {a:Addr} {kvs:List (Key×V)}:H a=some (.dK kvs)->TyB K H (.ref a) "dict"
theorem TyB.kit {X:Cx}{pins:List (Addr×Obj)}{Z:St}{H:Hp}{s:Shared}{x:V}{u:Value}{n:String}(I:Inv X pins Z H s)(r:RelV x u)(t:TyB X.K H x n):∃Hq,PySem.W.KitX X.K u (.type n) Hq/\Hq s.heap/\u≠Value.builtin "__main__.__loader__#opaque" :=by
 cases t with
 | non=>cases (show u=Value.none from r);exact⟨_,PySem.W.kitx_none,True.intro,λz=>nomatch z⟩
 | bl y=>cases (show u=Value.bool y from r);exact⟨_,PySem.W.kitx_bool,True.intro,λz=>nomatch z⟩
 | int i=>obtain⟨t,q⟩:=(show∃t,u=Value.int i t from r);cases q;exact⟨_,PySem.W.kitx_int,True.intro,λz=>nomatch z⟩
 | str y=>obtain⟨t,q⟩:=(show∃t,u=Value.str y t from r);cases q;exact⟨_,PySem.W.kitx_str,True.intro,λz=>nomatch z⟩
 | @tup a xs hq=>
  cases r
  obtain⟨its,r,p,_⟩:=I.tuple hq
  obtain⟨o,h1,h2,_⟩:=p
  exact⟨_,PySem.W.kitx_tuple,⟨o,h1,h2⟩,λz=>nomatch z⟩
 | @lst a xs hq=>
  cases r
  obtain⟨its,r,p,_⟩:=I.list hq
  obtain⟨o,n,h1,h2,_⟩:=p
  exact⟨_,PySem.W.kitx_list,⟨o,h1,h2⟩,λz=>nomatch z⟩
 | @dK a kvs e=>
  cases r
  obtain⟨_,_,vs,_,p⟩:=(show ObjOk X.prog X.w H s.heap a (.dK kvs)from I.hok a _ e)
  obtain⟨o,es,ep,h1,h2,_⟩:=p
  exact⟨_,PySem.W.kitx_dict,⟨o,h1,h2.1⟩,λz=>nomatch z⟩
def z6 (K:yF)(n:String):List V->Hp->VK->Prop:=λxs H Q=>∃x t b,xs=[x,.ty n]/\TyB K H x t/\Gp K (.type t) (.type n)=some b/\Q (.bl b) H
theorem rf {X:Cx}(n:String):CallR X (.builtin "isinstance") (z6 X.K n):=by
 intro pins s Z H xs us Q I rv h
 obtain⟨x,t,b,rfl,ty,e,q⟩:=h
 obtain⟨u,w',rfl,r1,r2⟩:=kP rv
 cases r2
 obtain⟨Hq,h1,h2,h3⟩:=ty.kit I r1
 exact PySem.W.kia_one h1 I.kIn h2 e h3 λtk=>⟨.bl b,H,I.tok tk,rfl,q⟩
def z7 (K:yF)(ns:List String):List V->Hp->VK->Prop:=λxs H Q=>∃x t b p,xs=[x,.ref p]/\SqT K H p (ns.map V.ty)/\TyB K H x t/\Gq K (.type t) (ns.map Value.type)=some b/\Q (.bl b) H
theorem pi:∀{ns:List String} {us:List Value},Vals (ns.map V.ty) us->us=ns.map Value.type
 | [],_,.nil=>rfl
 | n::ns,_,.cons h r=>by
  cases (show _=Value.type n from h)
  rw[DJ,pi r]
theorem rh {X:Cx}(ns:List String):CallR X (.builtin "isinstance") (z7 X.K ns):=by
 intro pins s Z H xs us Q I rv h
 obtain⟨x,t,b,p,rfl,hp,ty,e,q⟩:=h
 obtain⟨u,w',rfl,r1,r2⟩:=kP rv
 cases r2
 obtain⟨Hq,h1,h2,h3⟩:=ty.kit I r1
 obtain⟨its,rv2,⟨o,g1,g2,m,g3⟩,_⟩:=I.tuple hp
 rw[pi rv2]at g3
 obtain⟨c,d,dt,sl⟩:=o
 cases g2
 cases g3
 exact PySem.W.kia_tup h1 I.kIn h2 g1 e h3 λtk=>⟨.bl b,H,I.tok tk,rfl,q⟩
noncomputable def tyN:T->Option String
 | .im .non=>some "NoneType"
 | .im (.bl _)=>some "bool"
 | .im (.int _)=>some "int"
 | .im (.str _)=>some "str"
 | .im (.tup _)=>some "tuple"
 | .im (.ls _)=>none
 | .tup _=>some "tuple"
 | .li _=>some "list"
 | .lst _=>some "list"
 | .di _=>some "dict"
 | .dc _=>some "dict"
 | .ins _ _=>none
noncomputable def jw (n m:String):Bool:=n==m||(n == "bool" && m == "int")
@[irreducible] noncomputable def eS (ns:List String)(t:T):Option T:=(tyN t).map λn=>.im (.bl (ns.any (jw n)))
theorem uA {K:yF}{H:Hp}{x:V}{n:String}:∀{t:T},Rpx K H t x->tyN t=some n->TyB K H x n
 | .im i,r,e=>by
  have h:=cZ r
  cases i<;>rw[RpI]at h<;>cases e
  ·rw[h];exact .non
  ·rw[h];exact .bl _
  ·rw[h];exact .int _
  ·rw[h];exact .str _
  ·obtain⟨a,xs,rfl,h,_⟩:=h;exact .tup h
 | .tup ts,r,e=>by cases e;obtain⟨a,xs,F,rfl,h,_⟩:=lI r;exact .tup h
 | .li ts,r,e=>by cases e;obtain⟨a,xs,rfl,h,_⟩:=bY r;exact .lst (.inl h)
 | .lst ts,r,e=>by cases e;obtain⟨a,xs,F,rfl,h,_⟩:=fO r;exact .lst (.inl h)
 | .di ts,r,e=>by cases e;obtain⟨F,r⟩:=r;rw[Rp]at r;obtain⟨a,xs,rfl,⟨ys,h,_⟩,_⟩:=r;exact .dK h
 | .dc ts,r,e=>by cases e;obtain⟨F,r⟩:=r;rw[Rp]at r;obtain⟨a,xs,F',rfl,⟨ys,h,_⟩,_⟩:=r;exact .dK h
 | .ins C ts,r,e=>by cases e
noncomputable def iZ:List String:=["int","bool","str","tuple","list","dict"]
theorem kq {K:yF}{n m:String}{t:T}(e:tyN t=some n)(hm:m∈iZ):Gp K (.type n) (.type m)=some (jw n m):=by
 have hn:n = "NoneType" ∨ n∈iZ:=by
  unfold tyN at e
  split at e<;>cases e<;>first|exact .inl rfl|exact .inr (by decide)
 rcases hn with rfl|hn
 ·rcases ycM hm with rfl|hm
  ·rfl
  rcases ycM hm with rfl|hm
  ·rfl
  rcases ycM hm with rfl|hm
  ·rfl
  rcases ycM hm with rfl|hm
  ·rfl
  rcases ycM hm with rfl|hm
  ·rfl
  rcases ycM hm with rfl|hm
  ·rfl
  cases hm
 ·have key:∀a∈iZ,∀b∈iZ,Gp K (.type a) (.type b)=some (jw a b):=by
   intro a ha b hb
   simp only[iZ,Ed,Ec,or_false]at ha hb
   rcases ha with rfl|rfl|rfl|rfl|rfl|rfl<;>rcases hb with rfl|rfl|rfl|rfl|rfl|rfl<;>rfl
  exact key n hn m hm
theorem ko {K:yF}{n:String}{t:T}(e:tyN t=some n):∀{ms:List String},(∀m∈ms,m∈iZ)->Gq K (.type n) (ms.map Value.type)=some (ms.any (jw n))
 | [],_=>rfl
 | m::ms,h=>by
  rw[DJ,PySem.W.kitAny.eq_2,kq e (h m ymS),FQ,ko e λx hx=>h x (ymC _ hx)]
  cases jw n m<;>rfl
section
variable  {ι : Type}{C:ι->Cx}{P:Program}{W:World}{K:yF}{mg:Str->Option Value}{base:Heap}{k:Nat}{e:Expr}{m:ME}{pos:Pos}
theorem sI {n:String}(hn:n∈iZ):qV K (λx H Q=>z6 K n [x,.ty n] H Q) (eS [n]):=by
 intro H x tx t Q r e q
 unfold eS at e
 cases e1:tyN tx with
 | none=>rw[e1]at e;cases e
 | some n'=>
  rw[e1]at e;cases e
  refine⟨x,n',_,rfl,uA r e1,kq e1 hn,?_⟩
  refine q _ H ⟨Same.refl H,[],?_,EH,λa h=>by cases h⟩
  rw[Rp,RpI]
  exact⟨by simp,rfl⟩
theorem sJ {n1 n2:String}(h1:n1∈iZ)(h2:n2∈iZ):qV K (λx H Q=>[V.ty n1,V.ty n2].length<=sizeLine/\∀p,H p=none->z7 K [n1,n2] [x,.ref p] (upd H p (.tup [.ty n1,.ty n2])) Q) (eS [n1,n2]):=by
 intro H x tx t Q r e q
 unfold eS at e
 cases e1:tyN tx with
 | none=>rw[e1]at e;cases e
 | some n'=>
  rw[e1]at e;cases e
  refine⟨by show 2<=sizeLine;decide,λp hp=>?_⟩
  have sm:Same H (upd H p (.tup [.ty n1,.ty n2])):=(Same.refl H).put hp
  have r':Rpx K (upd H p (.tup [.ty n1,.ty n2])) tx x:=by
   obtain⟨F,r⟩:=r
   exact⟨F,r.same sm⟩
  refine⟨x,n',_,p,rfl,.inl (.inl az),uA r' e1,ko e1 (by simp[h1,h2]),?_⟩
  refine q _ _ ⟨sm,[],?_,EH,λa h=>by cases h⟩
  rw[Rp,RpI]
  exact⟨rfl,rfl⟩
theorem B3 {n:String}{x:Str}{p p1:Pos}(ck:CK C P W K mg base k)(hb:mg "isinstance" = none)(hx:mg x=none)(bx:bootBuiltins x=some (.type n))(hn:n∈iZ)(ha:QE C K e m)(hg:∀i,Gl (C i) "isinstance" :=by intro _;rfl)(hg1:∀i,Gl (C i) x:=by intro _;rfl)
  (hs:bG e=false:=by rfl) (hxn:x≠("__name__" : Str):=by decide) (hdb:(x==("__debug__" : Str))=false:=by decide):QE C K (.Call (.Name "isinstance" p) [e,.Name x p1] [] pos) (mUn (eS [n]) m):=by
 obtain⟨ta,q,r⟩:=ha
 refine⟨_,λi=>iB (r:=z6 K n) (by have:=rf (X:=C i) n;rw[ck.kk i]at this;exact this) (hg i) (by rw[ck.mg i];exact hb) boot_isinstance (cP (hs:=hs) (q i) (cP (lv (hg1 i) (by rw[ck.mg i];exact hx) bx (ug n) hxn hdb) lu)) (by show(!bG e&&true)=true;rw[hs];rfl),?_⟩
 exact ud (sI hn) r
theorem B4 {n1 n2:String}{x1 x2:Str}{p p1 p2 p3:Pos}{j:Nat}(ck:CK C P W K mg base k)(hb:mg "isinstance" = none)(hx1:mg x1=none)(bx1:bootBuiltins x1=some (.type n1))(hn1:n1∈iZ)(hx2:mg x2=none)(bx2:bootBuiltins x2=some (.type n2))(hn2:n2∈iZ)(ha:QE C K e m)(hg:∀i,Gl (C i) "isinstance" :=by intro _;rfl)(hg1:∀i,Gl (C i) x1:=by intro _;rfl)(hg2:∀i,Gl (C i) x2:=by intro _;rfl)
  (hs:bG e=false:=by rfl) (hxn1:x1≠("__name__" : Str):=by decide) (hdb1:(x1==("__debug__" : Str))=false:=by decide) (hxn2:x2≠("__name__" : Str):=by decide) (hdb2:(x2==("__debug__" : Str))=false:=by decide):QE C K (.Call (.Name "isinstance" p) [e,.Tuple [.Name x1 p1,.Name x2 p2] j p3] [] pos) (mUn (eS [n1,n2]) m):=by
 obtain⟨ta,q,r⟩:=ha
 refine⟨_,λi=>iB (r:=z7 K [n1,n2]) (by have:=rh (X:=C i) [n1,n2];rw[ck.kk i]at this;exact this) (hg i) (by rw[ck.mg i];exact hb) boot_isinstance (cP (hs:=hs) (q i) (cP (sC (cP (lv (hg1 i) (by rw[ck.mg i];exact hx1) bx1 (ug n1) hxn1 hdb1) (cP (lv (hg2 i) (by rw[ck.mg i];exact hx2) bx2 (ug n2) hxn2 hdb2) lu))) lu)) (by show(!bG e&&true)=true;rw[hs];rfl),?_⟩
 exact ud (sJ hn1 hn2) r
end
theorem BA {QT1:T->Prop}{ns:List String}{t:T}{n:String}(h:tyN t=some n)(q:QT1 (.im (.bl (ns.any (jw n))))):W1 (eS ns t) QT1:=⟨_,by unfold eS;rw[h];rfl,q⟩
theorem uO {prog:Program}{w:World}{A:Around}{E:Value->Shared->Prop}{s:Shared}{z TI TO i1 i2:Addr}{fp1 fp2:List Addr}{n1 n2 i:Nat}{P1 P2:Nat->Value->Prop}{St1 St2:Nat->Heap->Prop}{a b:Value}{Q:Value->Shared->Prop}
  (D1:Draws prog w A i1 fp1 n1 P1 St1) (D2:Draws prog w A i2 fp2 n2 P2 St2)
  (hz:IsZip s.heap z TI TO .none) (hTI:IsPair s.heap TI (.ref i1) (.ref i2)) (hTO:IsPair s.heap TO a b) (s1:St1 i s.heap) (s2:St2 i s.heap) (l1:i<n1) (l2:i<n2)
  (ap:TI≠z/\TO≠z/\TI≠TO/\TI≠i1/\TI≠i2/\i1≠z/\i2≠z/\i1≠TO/\i2≠TO/\i1≠i2) (f1:z∉fp1/\TO∉fp1/\i2∉fp1) (f2:z∉fp2/\TO∉fp2/\i1∉fp2)
  (k:∀x y h' tk,P1 i x->P2 i y->IsZip h' z TI TO (rawInt s.heap.objs.size)->IsPair h' TO x y->St1 (i+1) h'->St2 (i+1) h'->IsPair h' s.heap.objs.size x y->h'.objs.size=s.heap.objs.size+1 →
   (∀c o,c≠z->c≠TO->c≠i1->c≠i2->s.heap.get? c=some o->h'.get? c=some o)->Q (.ref s.heap.objs.size) {s with heap:=h',toks:=tk}) :
  wpAny (model prog w) A (Builtin.«zip.__next__» ⟨[.ref z],[]⟩) (λfin s'=>∃v,fin=Fin.done (Flow.ret v)/\Q v s') E s:=by
 show wpAny _ _ (field (.ref z) 2 >>= _) _ _ _
 refine wpAny_bind (wpAny_field hz rfl (x:=.bool false) rfl ?_)
 refine wpAny_bind (wpAny_field hz rfl (x:=.ref TI) rfl ?_)
 refine wpAny_bind (wpAny_seqItems hTI rfl ?_)
 show wpAny _ _ (Builtin.SmallTypes.ownedTupleIsFree (.ref z) >>= _) _ _ _
 refine wpAny_bind ?_
 show wpAny _ _ (field (.ref z) 0 >>= _) _ _ _
 refine wpAny_bind (wpAny_field hz rfl (x:=.none) rfl ?_)
 refine wpAny_pure ?_
 show wpAny _ _ (rule _ >>= _) _ _ _
 refine wpAny_bind (wpAny_rule ?_)
 refine wpAny_bind (wpAny_field hz rfl (x:=.ref TO) rfl ?_)
 refine wpAny_bind (wpAny_setField hz rfl (E8 _) ?_)
 have hz1:=Heap.get?_update_self (Obj.mapFields λx_1=>x_1.setIfInBounds 0 Value.ellipsis) hz rfl
 have b1:=Heap.SameBut.update s.heap z (Obj.mapFields λx_1=>x_1.setIfInBounds 0 Value.ellipsis)
 generalize s.heap.update z (Obj.mapFields λx_1=>x_1.setIfInBounds 0 Value.ellipsis)=h1 at hz1 b1⊢
 obtain⟨a1,a2,a3,a4,a5,a6,a7,a8,a9,a10⟩:=ap
 refine wpAny_bind ?_
 show wpAny _ _ (forIn [(Value.ref i1,0),(Value.ref i2,1)] ((none:Option PySem.Fin),()) _) _ _ _
 rw[Fn]
 refine wpAny_bind (wpAny_bind (wpAny_onRaise ?_))
 show wpAny _ _ (Builtin.SmallTypes.nextOf (.ref i1) >>= _) _ _ _
 refine wpAny_bind (D1.item i _ _ _ l1 (D1.frame i _ _ s1 λc hc o e=>(b1.2 c λq=>f1.1 (q▸hc)).trans e) λx h2 t2 px s1' b2=>?_)
 refine wpAny_pure ?_
 have b2':Heap.SameBut i1 h1 h2:=b2
 have hTO2:IsPair h2 TO a b:=((b2'.2 TO (Ne.symm a8)).trans (b1.2 TO a2)).trans hTO
 show wpAny _ _ (seqItems? (.ref TO) >>= _) _ _ _
 refine wpAny_bind (wpAny_seqItems hTO2 rfl ?_)
 refine wpAny_bind (wpAny_updateSeq_pair hTO2 λh3 hTO3 b3=>?_)
 have b3':Heap.SameBut TO h2 h3:=b3
 refine wpAny_bind (wpAny_letGo (wpAny_pure ?_))
 show wpAny _ _ (forIn [(Value.ref i2,1)] ((none:Option PySem.Fin),()) _) _ _ _
 rw[Fn]
 refine wpAny_bind (wpAny_bind (wpAny_onRaise ?_))
 show wpAny _ _ (Builtin.SmallTypes.nextOf (.ref i2) >>= _) _ _ _
 have hTO3':IsPair h3 TO x b:=hTO3
 refine wpAny_bind (D2.item i _ _ _ l2 (D2.frame i _ _ s2 λc hc o e=>(b3'.2 c λq=>f2.2.1 (q▸hc)).trans ((b2'.2 c λq=>f2.2.2 (q▸hc)).trans ((b1.2 c λq=>f2.1 (q▸hc)).trans e))) λy h4 t4 py s2' b4=>?_)
 refine wpAny_pure ?_
 have b4':Heap.SameBut i2 h3 h4:=b4
 have hTO4:IsPair h4 TO x b:=(b4'.2 TO (Ne.symm a9)).trans hTO3'
 show wpAny _ _ (seqItems? (.ref TO) >>= _) _ _ _
 refine wpAny_bind (wpAny_seqItems hTO4 rfl ?_)
 refine wpAny_bind (wpAny_updateSeq_pair hTO4 λh5 hTO5 b5=>?_)
 have b5':Heap.SameBut TO h4 h5:=b5
 refine wpAny_bind (wpAny_letGo (wpAny_pure ?_))
 have hTO5':IsPair h5 TO x y:=hTO5
 show wpAny _ _ (forIn ([]:List (Value×Nat)) ((none:Option PySem.Fin),()) _) _ _ _
 rw[GZ]
 refine wpAny_pure ?_
 show wpAny _ _ (seqItems? (.ref TO) >>= _) _ _ _
 refine wpAny_bind (wpAny_seqItems hTO5' rfl ?_)
 refine wpAny_bind (wpAny_newTuple (items:=[x,y]) ?_ (by show 2<=sizeLine;decide))
 have hz5:h5.get? z=_:=(b5'.2 z (Ne.symm a2)).trans ((b4'.2 z (Ne.symm a7)).trans ((b3'.2 z (Ne.symm a2)).trans ((b2'.2 z (Ne.symm a6)).trans hz1)))
 have sz:h5.objs.size=s.heap.objs.size:=b5'.1.trans (b4'.1.trans (b3'.1.trans (b2'.1.trans b1.1)))
 have hz6:=Heap.get?_push_of_some {cls:=.type "tuple",data:=.seq [x,y].toArray} hz5
 have hn6:=Heap.get?_push_size h5 (o:={cls:=.type "tuple",data:=.seq [x,y].toArray}) rfl
 show wpAny _ _ (Builtin.SmallTypes.ownedTupleHandOut (.ref z) (.ref h5.objs.size) >>= _) _ _ _
 refine wpAny_bind ?_
 show wpAny _ _ (setField (.ref z) 0 (rawInt h5.objs.size) >>= _) _ _ _
 refine wpAny_bind (wpAny_setField hz6 rfl (E8 _) ?_)
 have hz7:=Heap.get?_update_self (Obj.mapFields λx_1=>x_1.setIfInBounds 0 (rawInt h5.objs.size)) hz6 rfl
 have b7:=Heap.SameBut.update (h5.push {cls:=.type "tuple",data:=.seq [x,y].toArray}) z (Obj.mapFields λx_1=>x_1.setIfInBounds 0 (rawInt h5.objs.size))
 generalize (h5.push {cls:=.type "tuple",data:=.seq [x,y].toArray}).update z (Obj.mapFields λx_1=>x_1.setIfInBounds 0 (rawInt h5.objs.size))=h7 at hz7 b7⊢
 refine wpAny_setField hz7 rfl (Nat.succ_lt_succ (E8 _)) ?_
 have hz8:=Heap.get?_update_self (Obj.mapFields λx_1=>x_1.setIfInBounds 1 (Value.bool false)) hz7 rfl
 have b8:=Heap.SameBut.update h7 z (Obj.mapFields λx_1=>x_1.setIfInBounds 1 (Value.bool false))
 generalize h7.update z (Obj.mapFields λx_1=>x_1.setIfInBounds 1 (Value.bool false))=h8 at hz8 b8⊢
 have zl:z<s.heap.objs.size:=Heap.lt_size hz
 have nz:h5.objs.size≠z:=by rw[sz];exact Fi zl
 have all8:∀c o,c≠z->h5.get? c=some o->h8.get? c=some o:=λc o n e=>(b8.2 c n).trans ((b7.2 c n).trans (Heap.get?_push_of_some _ e))
 refine wpAny_pure ⟨_,rfl,?_⟩
 have e9:(s.heap.objs.size)=h5.objs.size:=sz.symm
 rw[←e9]
 refine k x y h8 t4 px py ?_ ?_ ?_ ?_ ?_ ?_ ?_
 ·rw[e9];exact hz8
 ·exact all8 TO _ a2 hTO5'
 ·refine D1.frame _ _ _ s1' λc hc o e=>all8 c o (λq=>f1.1 (q▸hc)) ((b5'.2 c λq=>f1.2.1 (q▸hc)).trans ((b4'.2 c λq=>f1.2.2 (q▸hc)).trans ((b3'.2 c λq=>f1.2.1 (q▸hc)).trans e)))
 ·refine D2.frame _ _ _ s2' λc hc o e=>all8 c o (λq=>f2.1 (q▸hc)) ((b5'.2 c λq=>f2.2.1 (q▸hc)).trans e)
 ·rw[e9];exact(b8.2 _ nz).trans ((b7.2 _ nz).trans hn6)
 ·rw[b8.1,b7.1,Heap.size_push,e9]
 ·intro c o n1 n2 n3 n4 e
  exact all8 c o n1 ((b5'.2 c n2).trans ((b4'.2 c n4).trans ((b3'.2 c n2).trans ((b2'.2 c n3).trans ((b1.2 c n1).trans e)))))
theorem xl {prog:Program}{w:World}{A:Around}{E:Value->Shared->Prop}{s:Shared}{z TI TO i1 i2:Addr}{fp1 fp2:List Addr}{n1 n2 i:Nat}{P1 P2:Nat->Value->Prop}{St1 St2:Nat->Heap->Prop}{a b:Value}{Q:PySem.Fin->Shared->Prop}
  (D1:Draws prog w A i1 fp1 n1 P1 St1) (D2:Draws prog w A i2 fp2 n2 P2 St2)
  (hz:IsZip s.heap z TI TO .none) (hTI:IsPair s.heap TI (.ref i1) (.ref i2)) (hTO:IsPair s.heap TO a b) (s1:St1 i s.heap) (s2:St2 i s.heap) (l:i=n1∨(i<n1/\i=n2))
  (ap:TI≠z/\TO≠z/\TI≠TO/\TI≠i1/\TI≠i2/\i1≠z/\i2≠z/\i1≠TO/\i2≠TO/\i1≠i2) (f1:z∉fp1/\TO∉fp1/\i2∉fp1) (f2:z∉fp2/\TO∉fp2/\i1∉fp2)
  (k:∀h' e tk,(∀c o,c≠z->c≠TO->c≠i1->c≠i2->s.heap.get? c=some o->h'.get? c=some o)->(∃o,h'.get? e=some o/\o.cls=.type "StopIteration")->E (.ref e) {s with heap:=h',toks:=tk}) :
  wpAny (model prog w) A (Builtin.«zip.__next__» ⟨[.ref z],[]⟩) Q E s:=by
 show wpAny _ _ (field (.ref z) 2 >>= _) _ _ _
 refine wpAny_bind (wpAny_field hz rfl (x:=.bool false) rfl ?_)
 refine wpAny_bind (wpAny_field hz rfl (x:=.ref TI) rfl ?_)
 refine wpAny_bind (wpAny_seqItems hTI rfl ?_)
 show wpAny _ _ (Builtin.SmallTypes.ownedTupleIsFree (.ref z) >>= _) _ _ _
 refine wpAny_bind ?_
 show wpAny _ _ (field (.ref z) 0 >>= _) _ _ _
 refine wpAny_bind (wpAny_field hz rfl (x:=.none) rfl ?_)
 refine wpAny_pure ?_
 show wpAny _ _ (rule _ >>= _) _ _ _
 refine wpAny_bind (wpAny_rule ?_)
 refine wpAny_bind (wpAny_field hz rfl (x:=.ref TO) rfl ?_)
 refine wpAny_bind (wpAny_setField hz rfl (E8 _) ?_)
 have hz1:=Heap.get?_update_self (Obj.mapFields λx_1=>x_1.setIfInBounds 0 Value.ellipsis) hz rfl
 have b1:=Heap.SameBut.update s.heap z (Obj.mapFields λx_1=>x_1.setIfInBounds 0 Value.ellipsis)
 generalize s.heap.update z (Obj.mapFields λx_1=>x_1.setIfInBounds 0 Value.ellipsis)=h1 at hz1 b1⊢
 obtain⟨a1,a2,a3,a4,a5,a6,a7,a8,a9,a10⟩:=ap
 refine wpAny_bind ?_
 show wpAny _ _ (forIn [(Value.ref i1,0),(Value.ref i2,1)] ((none:Option PySem.Fin),()) _) _ _ _
 rw[Fn]
 refine wpAny_bind (wpAny_bind (wpAny_onRaise ?_))
 show wpAny _ _ (Builtin.SmallTypes.nextOf (.ref i1) >>= _) _ _ _
 have q1:St1 i h1:=D1.frame i _ _ s1 λc hc o e=>(b1.2 c λq=>f1.1 (q▸hc)).trans e
 have stop:∀(hx:Heap) (e:Addr) (tk:Nat) (zo:Obj),hx.get? z=some zo->(∃vs,zo.data=.fields vs/\0<vs.size)->zo.cls=.type "zip" → (∀c o,c≠z->c≠TO->c≠i1->c≠i2->s.heap.get? c=some o->hx.get? c=some o)->(∃o,hx.get? e=some o/\o.cls=.type "StopIteration") →
   wpAny (model prog w) A (setField (.ref z) 0 Value.none) (λ_ s''=>E (.ref e) s'') E {s with heap:=hx,toks:=tk}:=by
  intro hx e tk zo g1 g2 g3 g4 g5
  obtain⟨vs,d,lz⟩:=g2
  refine wpAny_setField g1 d lz ?_
  have b9:=Heap.SameBut.update hx z (Obj.mapFields λx_1=>x_1.setIfInBounds 0 Value.none)
  obtain⟨o,g6,g7⟩:=g5
  have nez:e≠z:=λq=>by
   subst q
   rw[g1]at g6;cases g6
   rw[g3]at g7
   exact absurd g7 (by decide +kernel)
  exact k _ e tk (λc o n1 n2 n3 n4 h=>(b9.2 c n1).trans (g4 c o n1 n2 n3 n4 h)) ⟨o,(b9.2 e nez).trans g6,g7⟩
 rcases l with rfl|⟨l1,rfl⟩
 ·refine wpAny_bind (D1.done _ _ _ q1 λh2 e x2 st=>?_)
  exact stop h2 e _ _ (x2 z _ (Ne.symm a6) hz1) ⟨_,rfl,E8 _⟩ rfl (λc o n1 n2 n3 n4 h=>x2 c o n3 ((b1.2 c n1).trans h)) st
 ·refine wpAny_bind (D1.item i _ _ _ l1 q1 λx h2 t2 px s1' b2=>?_)
  refine wpAny_pure ?_
  have b2':Heap.SameBut i1 h1 h2:=b2
  have hTO2:IsPair h2 TO a b:=((b2'.2 TO (Ne.symm a8)).trans (b1.2 TO a2)).trans hTO
  show wpAny _ _ (seqItems? (.ref TO) >>= _) _ _ _
  refine wpAny_bind (wpAny_seqItems hTO2 rfl ?_)
  refine wpAny_bind (wpAny_updateSeq_pair hTO2 λh3 hTO3 b3=>?_)
  have b3':Heap.SameBut TO h2 h3:=b3
  refine wpAny_bind (wpAny_letGo (wpAny_pure ?_))
  show wpAny _ _ (forIn [(Value.ref i2,1)] ((none:Option PySem.Fin),()) _) _ _ _
  rw[Fn]
  refine wpAny_bind (wpAny_bind (wpAny_onRaise ?_))
  show wpAny _ _ (Builtin.SmallTypes.nextOf (.ref i2) >>= _) _ _ _
  refine wpAny_bind (D2.done _ _ _ (D2.frame i _ _ s2 λc hc o e=>(b3'.2 c λq=>f2.2.1 (q▸hc)).trans ((b2'.2 c λq=>f2.2.2 (q▸hc)).trans ((b1.2 c λq=>f2.1 (q▸hc)).trans e))) λh4 e x4 st=>?_)
  exact stop h4 e _ _ (x4 z _ (Ne.symm a7) ((b3'.2 z (Ne.symm a2)).trans ((b2'.2 z (Ne.symm a6)).trans hz1))) ⟨_,rfl,E8 _⟩ rfl (λc o n1 n2 n3 n4 h=>x4 c o n4 ((b3'.2 c n2).trans ((b2'.2 c n3).trans ((b1.2 c n1).trans h)))) st
theorem jZ {prog:Program}{w:World}{A:Around}{E:Value->Shared->Prop}{s:Shared}{z TI TO i1 i2:Addr}{fp1 fp2:List Addr}{n1 n2 i:Nat}{P1 P2:Nat->Value->Prop}{St1 St2:Nat->Heap->Prop}{a b:Value}{Q:Option Value->Shared->Prop}
  (D1:Draws prog w A.in1 i1 fp1 n1 P1 St1) (D2:Draws prog w A.in1 i2 fp2 n2 P2 St2)
  (hz:IsZip s.heap z TI TO .none) (hTI:IsPair s.heap TI (.ref i1) (.ref i2)) (hTO:IsPair s.heap TO a b) (s1:St1 i s.heap) (s2:St2 i s.heap) (l1:i<n1) (l2:i<n2)
  (ap:TI≠z/\TO≠z/\TI≠TO/\TI≠i1/\TI≠i2/\i1≠z/\i2≠z/\i1≠TO/\i2≠TO/\i1≠i2) (f1:z∉fp1/\TO∉fp1/\i2∉fp1) (f2:z∉fp2/\TO∉fp2/\i1∉fp2)
  (k:∀x y h' tk,P1 i x->P2 i y->IsZip h' z TI TO (rawInt s.heap.objs.size)->IsPair h' TO x y->St1 (i+1) h'->St2 (i+1) h'->IsPair h' s.heap.objs.size x y->h'.objs.size=s.heap.objs.size+1 →
   (∀c o,c≠z->c≠TO->c≠i1->c≠i2->s.heap.get? c=some o->h'.get? c=some o)->Q (some (.ref s.heap.objs.size)) {s with heap:=h',toks:=tk}) :
  wpAny (model prog w) A (pyNext (.ref z)) Q E s:=by
 have hT:s.TypeIs (.ref z) "zip" :=⟨_,hz,rfl⟩
 unfold pyNext
 refine wpAny_bind (wpAny_attempt (wpAny_callSpecial?_slot (name:=Str.ofString "__next__") hT F.slot_zip_next (wpAny_call_entry F.slot_zip_next hT F.entry_zip_next ?_ (F.args_zip_next_1 _))))
 refine uO D1 D2 hz hTI hTO s1 s2 l1 l2 ap f1 f2 λx y h' tk c1 c2 c3 c4 c5 c6 c7 c8 c9=>?_
 exact wpAny_pure (k x y h' tk c1 c2 c3 c4 c5 c6 c7 c8 c9)
theorem gZ {prog:Program}{w:World}{A:Around}{E:Value->Shared->Prop}{s:Shared}{z TI TO i1 i2:Addr}{fp1 fp2:List Addr}{n1 n2 i:Nat}{P1 P2:Nat->Value->Prop}{St1 St2:Nat->Heap->Prop}{a b:Value}{Q:Option Value->Shared->Prop}
  (D1:Draws prog w A.in1 i1 fp1 n1 P1 St1) (D2:Draws prog w A.in1 i2 fp2 n2 P2 St2)
  (hz:IsZip s.heap z TI TO .none) (hTI:IsPair s.heap TI (.ref i1) (.ref i2)) (hTO:IsPair s.heap TO a b) (s1:St1 i s.heap) (s2:St2 i s.heap) (l:i=n1∨(i<n1/\i=n2))
  (ap:TI≠z/\TO≠z/\TI≠TO/\TI≠i1/\TI≠i2/\i1≠z/\i2≠z/\i1≠TO/\i2≠TO/\i1≠i2) (f1:z∉fp1/\TO∉fp1/\i2∉fp1) (f2:z∉fp2/\TO∉fp2/\i1∉fp2)
  (k:∀h' tk,(∀c o,c≠z->c≠TO->c≠i1->c≠i2->s.heap.get? c=some o->h'.get? c=some o)->Q none {s with heap:=h',toks:=tk}) :
  wpAny (model prog w) A (pyNext (.ref z)) Q E s:=by
 have hT:s.TypeIs (.ref z) "zip" :=⟨_,hz,rfl⟩
 unfold pyNext
 refine wpAny_bind (wpAny_attempt (wpAny_callSpecial?_slot (name:=Str.ofString "__next__") hT F.slot_zip_next (wpAny_call_entry F.slot_zip_next hT F.entry_zip_next ?_ (F.args_zip_next_1 _))))
 refine xl D1 D2 hz hTI hTO s1 s2 l ap f1 f2 λh' e tk kk st=>?_
 obtain⟨o,ho,hc⟩:=st
 refine wpAny_bind (wpAny_isInstance (T:="StopIteration") (b:=true) ⟨o,ho,hc⟩ isSubtype_stop ?_)
 exact wpAny_pure (k _ _ kk)
def SeqK (kd:Bool)(h:Heap)(l:Addr)(els:Array Value):Prop:=match kd with|true=>h.IsList l els|false=>h.IsTuple l els
def IterK (kd:Bool)(h:Heap)(it l:Addr)(k:Nat):Prop:=match kd with|true=>h.IsListIter it l k|false=>h.IsTupleIter it l k
noncomputable def itC (kd:Bool):String:=match kd with|true=>"list_iterator" | false=>"tuple_iterator"
noncomputable abbrev itO (kd:Bool) (l:Addr):Obj:={cls:=.type (itC kd),data:=.fields #[.ref l,.int 0 0]}
theorem o0 {prog:Program}{w:World}{A:Around}{E:Value->Shared->Prop}{s:Shared}{l:Addr}{els:Array Value}{Q:Value->Shared->Prop}(kd:Bool)(h:SeqK kd s.heap l els)(q:Q (.ref s.heap.objs.size) {s with heap:=s.heap.push (itO kd l)}):wpAny (model prog w) A (pyIter (.ref l)) Q E s:=by
 cases kd with
 | true=>exact wpAny_pyIter_list h q
 | false=>exact wpAny_pyIter_tuple h q
theorem SeqK.keep {kd:Bool}{h h':Heap}{l:Addr}{els:Array Value}(x:SeqK kd h l els)(k:∀o,h.get? l=some o->h'.get? l=some o):SeqK kd h' l els:=by
 cases kd with
 | true=>obtain⟨o,e,r⟩:=x;exact⟨o,k o e,r⟩
 | false=>obtain⟨o,e,r⟩:=x;exact⟨o,k o e,r⟩
theorem SeqK.get {kd:Bool}{h:Heap}{l:Addr}{els:Array Value}(x:SeqK kd h l els):∃o,h.get? l=some o:=by
 cases kd with
 | true=>obtain⟨o,e,r⟩:=x;exact⟨o,e⟩
 | false=>obtain⟨o,e,r⟩:=x;exact⟨o,e⟩
noncomputable abbrev zK2 (h:Heap) (k1 k2:Bool) (l1 l2:Addr):Heap:=(h.push (itO k1 l1)).push (itO k2 l2)
noncomputable abbrev zK3 (h:Heap) (k1 k2:Bool) (l1 l2:Addr):Heap:=(zK2 h k1 k2 l1 l2).push {cls:=.type "tuple",data:=.seq #[.ref h.objs.size,.ref (h.push (itO k1 l1)).objs.size]}
noncomputable abbrev zK4 (h:Heap) (k1 k2:Bool) (l1 l2:Addr):Heap:=(zK3 h k1 k2 l1 l2).push {cls:=.type "tuple",data:=.seq #[.none,.none]}
noncomputable abbrev zK5 (h:Heap) (k1 k2:Bool) (l1 l2:Addr):Heap:=(zK4 h k1 k2 l1 l2).push {cls:=.type "zip",data:=.fields #[.none,.bool false,.bool false,.ref (zK2 h k1 k2 l1 l2).objs.size,.ref (zK3 h k1 k2 l1 l2).objs.size]}
theorem nC (k1 k2:Bool)(l1 l2:Addr)(xs ys:Array Value) :
  Meets (Builtin.«zip.__new__» ⟨[.type "zip",.ref l1,.ref l2],[]⟩) (λ_ R s=>SeqK k1 s.heap l1 xs/\SeqK k2 s.heap l2 ys/\R (.ok (.ret (.ref (zK4 s.heap k1 k2 l1 l2).objs.size))) {s with heap:=zK5 s.heap k1 k2 l1 l2}):=
 .of_wp λpr ww AA RR sh hyp=>by
  obtain⟨hp,g,d,tk,os⟩:=sh;obtain⟨h1,h2,hyp⟩:=hyp
  have hsubZ:=sub_zip
  have h2':SeqK k2 (hp.push (itO k1 l1)) l2 ys:=h2.keep λo e=>Heap.get?_push_of_some _ e
  wp_walk using o0 k1 h1,o0 k2 h2'
  exact⟨_,rfl,hyp⟩
theorem pD {prog:Program}{w:World}{A:Around}{E:Value->Shared->Prop}{s:Shared}{k1 k2:Bool}{l1 l2:Addr}{xs ys:Array Value}{Q:Value->Shared->Prop}(h1:SeqK k1 s.heap l1 xs)(h2:SeqK k2 s.heap l2 ys)
  (kk:∀h',IsZip h' (s.heap.objs.size+4) (s.heap.objs.size+2) (s.heap.objs.size+3) .none->IsPair h' (s.heap.objs.size+2) (.ref s.heap.objs.size) (.ref (s.heap.objs.size+1))->IsPair h' (s.heap.objs.size+3) .none .none →
   IterK k1 h' s.heap.objs.size l1 0->IterK k2 h' (s.heap.objs.size+1) l2 0->h'.objs.size=s.heap.objs.size+5->(∀c o,s.heap.get? c=some o->h'.get? c=some o)->Q (.ref (s.heap.objs.size+4)) {s with heap:=h'}) :
  wpAny (model prog w) A (call (.type "zip") [.ref l1,.ref l2]) Q E s:=by
 refine callType_new F.called_zip (by decide) (F.typeCall_zip_2 _ _) (F.newCall_zip_2 _ _) (λobj=>F.args_object_init_3 obj _ _) F.entry_zip_new (nC k1 k2 l1 l2 xs ys) ⟨h1,h2,?_⟩
 have z1:(s.heap.push (itO k1 l1)).objs.size=s.heap.objs.size+1:=Heap.size_push ..
 have z2:(zK2 s.heap k1 k2 l1 l2).objs.size=s.heap.objs.size+2:=by rw[zK2,Heap.size_push,z1]
 have z3:(zK3 s.heap k1 k2 l1 l2).objs.size=s.heap.objs.size+3:=by rw[zK3,Heap.size_push,z2]
 have z4:(zK4 s.heap k1 k2 l1 l2).objs.size=s.heap.objs.size+4:=by rw[zK4,Heap.size_push,z3]
 have g0:(s.heap.push (itO k1 l1)).get? s.heap.objs.size=some (itO k1 l1):=Heap.get?_push_size _ rfl
 have g1:(zK2 s.heap k1 k2 l1 l2).get? (s.heap.objs.size+1)=some (itO k2 l2):=by have:=Heap.get?_push_size (s.heap.push (itO k1 l1)) (o:=itO k2 l2) rfl;rw[z1]at this;exact this
 have g2:=Heap.get?_push_size (zK2 s.heap k1 k2 l1 l2) (o:={cls:=.type "tuple",data:=.seq #[.ref s.heap.objs.size,.ref (s.heap.push (itO k1 l1)).objs.size]}) rfl
 have g3:=Heap.get?_push_size (zK3 s.heap k1 k2 l1 l2) (o:={cls:=.type "tuple",data:=.seq #[.none,.none]}) rfl
 have g4:=Heap.get?_push_size (zK4 s.heap k1 k2 l1 l2) (o:={cls:=.type "zip",data:=.fields #[.none,.bool false,.bool false,.ref (zK2 s.heap k1 k2 l1 l2).objs.size,.ref (zK3 s.heap k1 k2 l1 l2).objs.size]}) rfl
 rw[z2,z1]at g2
 rw[z3]at g3
 rw[z4,z2,z3]at g4
 have up:∀c o,(zK2 s.heap k1 k2 l1 l2).get? c=some o->(zK5 s.heap k1 k2 l1 l2).get? c=some o:=λc o e=>Heap.get?_push_of_some _ (Heap.get?_push_of_some _ (Heap.get?_push_of_some _ e))
 have it:∀(kd:Bool) (h:Heap) (a l:Addr),h.get? a=some (itO kd l)->IterK kd h a l 0:=λkd h a l e=>by
  cases kd
  ·exact⟨_,e,rfl,rfl⟩
  ·exact⟨_,e,rfl,rfl⟩
 show _/\_
 rw[z4]
 have e5:(zK5 s.heap k1 k2 l1 l2).get? (s.heap.objs.size+4)=some {cls:=.type "zip",data:=.fields #[.none,.bool false,.bool false,.ref (s.heap.objs.size+2),.ref (s.heap.objs.size+3)]}:=by
  show(Heap.push _ _).get? _=_
  rw[z2,z3]
  exact g4
 refine⟨⟨_,e5,rfl⟩,kk _ e5 ?_ ?_ (it _ _ _ _ (up _ _ (Heap.get?_push_of_some _ g0))) (it _ _ _ _ (up _ _ g1)) ?_ λc o e=>up c o (Heap.get?_push_of_some _ (Heap.get?_push_of_some _ e))⟩
 ·refine Heap.get?_push_of_some _ (Heap.get?_push_of_some _ ?_)
  show(Heap.push _ _).get? _=_
  rw[z1]
  exact g2
 ·exact Heap.get?_push_of_some _ g3
 ·rw[zK5,Heap.size_push,z4]
theorem k9 {prog:Program}{w:World}{A:Around}(hh:A.handled=none)(kd:Bool)(it l:Addr)(ne:l≠it)(els:Array Value):Draws prog w A it [it,l] els.size (λk v=>els[k]?=some v) (λk h=>IterK kd h it l k/\SeqK kd h l els):=by
 cases kd with
 | true=>exact Draws.list hh it l ne els
 | false=>exact l3 hh it l ne els
theorem rq {prog:Program}{w:World}{A:Around}(hh:A.handled=none)(kd:Bool)(it l:Addr)(els:Array Value)(i:Nat)(hi:els[i]?=none):Draws prog w A it [it,l] i (λk v=>els[k]?=some v) (λk h=>k=i/\IterK kd h it l k/\SeqK kd h l els) where
 live:=λk h st=>by
  obtain⟨_,st,_⟩:=st
  cases kd
  ·obtain⟨o,e,_⟩:=st;exact⟨o,e⟩
  ·obtain⟨o,e,_⟩:=st;exact⟨o,e⟩
 frame:=λk h h' st hk=>by
  obtain⟨e,st,sq⟩:=st
  refine⟨e,?_,sq.keep λo e=>hk l (by simp) o e⟩
  cases kd
  ·obtain⟨o,e,r⟩:=st;exact⟨o,hk it (by simp) o e,r⟩
  ·obtain⟨o,e,r⟩:=st;exact⟨o,hk it (by simp) o e,r⟩
 item:=λk s Q E hlt st _=>by
  have:=st.1
  omega
 done:=λs Q E st kk=>by
  obtain⟨_,st,sq⟩:=st
  cases kd with
  | true=>exact wpAny_nextOf_list_end hh st sq hi kk
  | false=>exact g8 hh st sq hi kk
def SqK (K:yF)(H:Hp)(kd:Bool)(a:Addr)(xs:List V):Prop:=match kd with|true=>SqL K H a xs|false=>SqT K H a xs
theorem Inv.seqK {X:Cx}{pins:List (Addr×Obj)}{Z:St}{H:Hp}{s:Shared}{kd:Bool}{a:Addr}{xs:List V}(I:Inv X pins Z H s)(h:SqK X.K H kd a xs):∃its:List Value,Vals xs its/\SeqK kd s.heap a its.toArray:=by
 cases kd with
 | true=>
  obtain⟨its,rv,p,_⟩:=I.list h
  obtain⟨o,n,h1,h2,h3,h4⟩:=p
  exact⟨its,rv,o,h1,h2,n,h4⟩
 | false=>
  obtain⟨its,rv,p,_⟩:=I.tuple h
  exact⟨its,rv,p⟩
theorem Inv.seqK_inj {X:Cx}{pins:List (Addr×Obj)}{Z:St}{H:Hp}{s:Shared}{kd:Bool}{a:Addr}{xs ys:List V}(I:Inv X pins Z H s)(h:SqK X.K H kd a xs)(h':SqK X.K H kd a ys):xs=ys:=by
 cases kd with
 | true=>exact I.list_inj h h'
 | false=>exact I.tuple_inj h h'
noncomputable def Itz (K:yF) (k1 k2:Bool) (a1 a2:Addr):It:=
 ⟨λi H=>∃xs ys x y,SqK K H k1 a1 xs/\SqK K H k2 a2 ys/\xs[i]?=some x/\ys[i]?=some y,
   λi H v H'=>∃p x y,H p=none/\v=.ref p/\H'=upd H p (.tup [x,y])/\(∀xs,SqK K H k1 a1 xs->xs[i]?=some x)/\∀ys,SqK K H k2 a2 ys->ys[i]?=some y,
   λi H=>∃xs ys,SqK K H k1 a1 xs/\SqK K H k2 a2 ys/\(xs.length<=i∨ys.length<=i)⟩
theorem Inv.turnedL {X:Cx}{pins:List (Addr×Obj)}{Z:St}{H:Hp}{s:Shared}{h':Heap}{t':Nat}{fs:List Addr}(I:Inv X pins Z H s)(k:∀b o,b∉fs->s.heap.get? b=some o->h'.get? b=some o)(f:∀b∈fs,eg X pins H b):Inv X pins Z H {s with heap:=h',toks:=t'}:=by
 have nit:∀b u,H b=some u->b∉fs:=λb u e z=>by rw[(f b z).1]at e;cases e
 have nl:X.env.locals∉fs:=λz=>(f _ z).2.1 rfl
 refine I.step (g':=s.gens) (d':=s.drawn) (ch:=fs) (λb hb=>?_) (λb o _ _ hc e _=>k b o hc e) (λb o _ _ hc e _=>⟨o.slots,k b o hc e⟩) (λ_ _ _ _ n=>n)
  (λb o hc e=>⟨o,k b o hc e⟩) (λ_ _ e=>e) (λ_ _ _ e=>e) (λb ps e=>⟨#[],by rw[e];simp⟩) (λm hm=>?_) (λb u e=>?_) I.bare
 ·obtain⟨_,hL,_,h1,h2,h3⟩:=f b hb
  exact⟨h1,hL,h2,h3⟩
 ·obtain⟨o,es,ep,ho,r⟩:=hm
  exact⟨o,es,ep,k _ o nl ho,r⟩
 ·refine(I.hok b u e).stay (λc v hc q=>k c v ?_ q) (λ_ q=>q) λ_ _ q=>q
  rcases hc with z|z
  ·rw[z];exact nit b u e
  ·exact nit c _ z
theorem IterK.get {kd:Bool}{h:Heap}{it l:Addr}{k:Nat}(x:IterK kd h it l k):∃o,h.get? it=some o/\∀v,o.data ≠ .cell v:=by
 cases kd with
 | true=>obtain⟨o,e,c,d⟩:=x;exact⟨o,e,λv z=>by rw[d]at z;cases z⟩
 | false=>obtain⟨o,e,c,d⟩:=x;exact⟨o,e,λv z=>by rw[d]at z;cases z⟩
theorem IterK.keep {kd:Bool}{h h':Heap}{it l:Addr}{k:Nat}(x:IterK kd h it l k)(kp:∀o,h.get? it=some o->h'.get? it=some o):IterK kd h' it l k:=by
 cases kd with
 | true=>obtain⟨o,e,r⟩:=x;exact⟨o,kp o e,r⟩
 | false=>obtain⟨o,e,r⟩:=x;exact⟨o,kp o e,r⟩
structure ZAp (z TI TO i1 i2 l1 l2:Addr):Prop where
 ap:TI≠z/\TO≠z/\TI≠TO/\TI≠i1/\TI≠i2/\i1≠z/\i2≠z/\i1≠TO/\i2≠TO/\i1≠i2
 f1:z∉[i1,l1]/\TO∉[i1,l1]/\i2∉[i1,l1]
 f2:z∉[i2,l2]/\TO∉[i2,l2]/\i1∉[i2,l2]
 n1:l1≠i1
 n2:l2≠i2
theorem uz {P:Program}{w:World}{K:yF}{elts:List Expr}{k0:Nat}{pos:Pos}(k1 k2:Bool){z TI TO i1 i2 l1 l2:Addr}(A:ZAp z TI TO i1 i2 l1 l2) :
  Turn P w K (.Tuple elts k0 pos) (Itz K k1 k2 l1 l2) [z,TI,TO,i1,i2] z (λi h=>IsZip h z TI TO .none/\IsPair h TI (.ref i1) (.ref i2)/\(∃a b,IsPair h TO a b)/\IterK k1 h i1 l1 i/\IterK k2 h i2 l2 i) where
 mem:=by simp
 obj:=λi h st b hb=>by
  obtain⟨s1,s2,⟨a,c,s3⟩,s4,s5⟩:=st
  simp only[Ed,Ec,or_false]at hb
  rcases hb with rfl|rfl|rfl|rfl|rfl
  ·exact⟨_,s1,λv z=>by cases z⟩
  ·exact⟨_,s2,λv z=>by cases z⟩
  ·exact⟨_,s3,λv z=>by cases z⟩
  ·exact s4.get
  ·exact s5.get
 keep:=λi h h' st k=>by
  obtain⟨s1,s2,⟨a,c,s3⟩,s4,s5⟩:=st
  exact⟨k z (by simp) _ s1,k TI (by simp) _ s2,⟨a,c,k TO (by simp) _ s3⟩,s4.keep λo e=>k i1 (by simp) o e,s5.keep λo e=>k i2 (by simp) o e⟩
 item:=by
  intro X hP hw hK hc i pins s Z H E I hf st hg
  subst hP hw hK
  obtain⟨xs,ys,x,y,hq1,hq2,hx,hy⟩:=hg
  obtain⟨its1,rv1,p1⟩:=I.seqK hq1
  obtain⟨its2,rv2,p2⟩:=I.seqK hq2
  obtain⟨u1,hu1,ru1⟩:=rv1.get hx
  obtain⟨u2,hu2,ru2⟩:=rv2.get hy
  obtain⟨s1,s2,⟨a,c,s3⟩,s4,s5⟩:=st
  have hn1:i<its1.toArray.size:=by rw[DC];exact(DB.mp hu1).1
  have hn2:i<its2.toArray.size:=by rw[DC];exact(DB.mp hu2).1
  have hh:X.A.in1.handled=none:=I.ok.hd hc
  refine jZ (k9 (A:=X.A.in1) hh k1 i1 l1 A.n1 its1.toArray) (k9 (A:=X.A.in1) hh k2 i2 l2 A.n2 its2.toArray) s1 s2 s3 ⟨s4,p1⟩ ⟨s5,p2⟩ hn1 hn2 A.ap A.f1 A.f2 λx' y' h1 tk px py hz1 hTO1 st1 st2 hpr hsz kk=>?_
  have ex:x'=u1:=by
   have e1:its1.toArray[i]?=some x':=px
   have e2:its1.toArray[i]?=some u1:=by simpa using hu1
   rw[e1]at e2
   exact D5.inj e2
  have ey:y'=u2:=by
   have e1:its2.toArray[i]?=some y':=py
   have e2:its2.toArray[i]?=some u2:=by simpa using hu2
   rw[e1]at e2
   exact D5.inj e2
  subst ex ey
  refine⟨_,rfl,wpAny_letOwnedTupleGo_zip hz1 λh2 hz2 sb=>?_⟩
  have sb':Heap.SameBut z h1 h2:=sb
  have hzl:z<s.heap.objs.size:=Heap.lt_size s1
  obtain⟨a1,a2,a3,a4,a5,a6,a7,a8,a9,a10⟩:=A.ap
  have k2':∀b o,b∉[z,TO,i1,i2]->s.heap.get? b=some o->h2.get? b=some o:=λb o n q=>by
   simp only[Ed,Ec,or_false,not_or]at n
   exact(sb'.2 b n.1).trans (kk b o n.1 n.2.1 n.2.2.1 n.2.2.2 q)
  have I1:Inv X pins Z H {s with heap:=h2,toks:=tk}:=I.turnedL k2' λb hb=>hf b (by
   simp only[Ed,Ec,or_false]at hb⊢
   rcases hb with h|h|h|h<;>simp[h])
  have fz:eg X pins H s.heap.objs.size:=I.fpOk (DK _) (I.hok.fresh (DK _))
  have hT2:h2.get? s.heap.objs.size=some {cls:=.type "tuple",data:=.seq #[x',y']}:=(sb'.2 _ (Fi hzl)).trans hpr
  have I2:Inv X pins Z (upd H s.heap.objs.size (.tup [x,y])) {s with heap:=h2,toks:=tk}:=I1.track fz (.inr I.sz) I.sz ⟨by show 2<=sizeLine;decide,[x',y'],.cons ru1 (.cons ru2 .nil),⟨_,hT2,⟨rfl,rfl⟩,_,rfl⟩⟩
  refine⟨.ref s.heap.objs.size,_,I2,rfl,⟨_,x,y,fz.1,rfl,rfl,λys' hy'=>by rw[I.seqK_inj hy' hq1];exact hx,λys' hy'=>by rw[I.seqK_inj hy' hq2];exact hy⟩,⟨hz2,?_,⟨_,_,(sb'.2 TO a2).trans hTO1⟩,st1.1.keep λo e=>(sb'.2 i1 a6).trans e,st2.1.keep λo e=>(sb'.2 i2 a7).trans e⟩,λb hb=>?_⟩
  ·exact(sb'.2 TI a1).trans (kk TI _ a1 a3 a4 a5 s2)
  ·have hbo:∃o,s.heap.get? b=some o:=by
    simp only[Ed,Ec,or_false]at hb
    rcases hb with rfl|rfl|rfl|rfl|rfl
    ·exact⟨_,s1⟩
    ·exact⟨_,s2⟩
    ·exact⟨_,s3⟩
    ·obtain⟨o,e,_⟩:=s4.get;exact⟨o,e⟩
    ·obtain⟨o,e,_⟩:=s5.get;exact⟨o,e⟩
   obtain⟨o,q⟩:=hbo
   rw[upd_ne (DV (Heap.lt_size q))]
   exact(hf b hb).1
 done:=by
  intro X hP hw hK hc i pins s Z H E I hf st hg
  subst hP hw hK
  obtain⟨xs,ys,hq1,hq2,hl⟩:=hg
  obtain⟨its1,rv1,p1⟩:=I.seqK hq1
  obtain⟨its2,rv2,p2⟩:=I.seqK hq2
  obtain⟨s1,s2,⟨a,c,s3⟩,s4,s5⟩:=st
  have hh:X.A.in1.handled=none:=I.ok.hd hc
  have fin:∀h' tk,(∀c o,c≠z->c≠TO->c≠i1->c≠i2->s.heap.get? c=some o->h'.get? c=some o)->(none:Option Value)=none/\Inv X pins Z H {s with heap:=h',toks:=tk}:=λh' tk kk=>
   ⟨rfl,I.turnedL (fs:=[z,TO,i1,i2]) (λb o n q=>by
    simp only[Ed,Ec,or_false,not_or]at n
    exact kk b o n.1 n.2.1 n.2.2.1 n.2.2.2 q) λb hb=>hf b (by
    simp only[Ed,Ec,or_false]at hb⊢
    rcases hb with h|h|h|h<;>simp[h])⟩
  have l1':=rv1.length
  have l2':=rv2.length
  by_cases h1:xs.length<=i
  ·have e1:its1.toArray[i]?=none:=by simp;omega
   exact gZ (rq (A:=X.A.in1) hh k1 i1 l1 its1.toArray i e1) (k9 (A:=X.A.in1) hh k2 i2 l2 A.n2 its2.toArray) s1 s2 s3 ⟨rfl,s4,p1⟩ ⟨s5,p2⟩ (.inl rfl) A.ap A.f1 A.f2 fin
  ·have h2:ys.length<=i:=by omega
   have e2:its2.toArray[i]?=none:=by simp;omega
   have hn1:i<its1.toArray.size:=by rw[DC];omega
   exact gZ (k9 (A:=X.A.in1) hh k1 i1 l1 A.n1 its1.toArray) (rq (A:=X.A.in1) hh k2 i2 l2 its2.toArray i e2) s1 s2 s3 ⟨s4,p1⟩ ⟨rfl,s5,p2⟩ (.inr ⟨hn1,rfl⟩) A.ap A.f1 A.f2 fin
 self:=λ_ _ _ _ _ st h=>wpAny_pyIter_zip st.1 h
def Bb (K:yF)(ta:TA):TI:=λZ H R=>ta Z H λvs H1=>∃k1 k2 a1 a2 xs ys,vs=[.ref a1,.ref a2]/\SqK K H1 k1 a1 xs/\SqK K H1 k2 a2 ys/\R (Itz K k1 k2 a1 a2) H1
theorem zr {X:Cx}{a b:Expr}{ta:TA}{elts:List Expr}{k0:Nat}{p pos pt:Pos}(hg:Gl X "zip")(hm:X.mg "zip" = none)(ha:PA X [a,b] ta)(hn:ba [a,b]=true):PI X (.Tuple elts k0 pt) (.Call (.Name "zip" p) [a,b] [] pos) (Bb X.K ta):=by
 intro pins s Z H R I h
 have hs1:bG a=false:=by
  cases q:bG a with
  | true=>rw[ba,q]at hn;cases hn
  | false=>rfl
 have hs2:bG b=false:=by
  cases q:bG b with
  | true=>rw[ba,hs1,ba,q]at hn;cases hn
  | false=>rfl
 refine Call_ (il I hg hm boot_zip (EU (thn (ha pos pins s Z H _ I h) λus s1 ⟨vs,H1,I1,r1,q1⟩=>?_) (bg hs1) (by rw[bg hs2];rfl)))
 obtain⟨k1,k2,l1,l2,xs,ys,e,hq1,hq2,q⟩:=q1
 subst e
 obtain⟨u,u',rfl,ru,ru'⟩:=kP r1
 cases ru
 cases ru'
 obtain⟨its1,rv1,p1⟩:=I1.seqK hq1
 obtain⟨its2,rv2,p2⟩:=I1.seqK hq2
 have n1:l1<s1.heap.objs.size:=by obtain⟨o,e⟩:=p1.get;exact Heap.lt_size e
 have n2:l2<s1.heap.objs.size:=by obtain⟨o,e⟩:=p2.get;exact Heap.lt_size e
 refine pD p1 p2 λh1 hz hTI hTO it1 it2 hsz kk=>?_
 refine wpAny_pyIter_zip hz ?_
 have m1:∀c:Nat,s1.heap.objs.size+c≠l1:=λc=>Fi (DX n1 (Ez _ c))
 have m2:∀c:Nat,s1.heap.objs.size+c≠l2:=λc=>Fi (DX n2 (Ez _ c))
 have N:∀{c d:Nat},c≠d->s1.heap.objs.size+c≠s1.heap.objs.size+d:=λh z=>h (Nat.add_left_cancel z)
 refine⟨s1.heap.objs.size+4,[s1.heap.objs.size+4,s1.heap.objs.size+2,s1.heap.objs.size+3,s1.heap.objs.size,s1.heap.objs.size+1],_,_,H1,rfl,I1.kept (t':=s1.toks) λb o e=>kk b o e,uz k1 k2 ⟨?_,?_,?_,?_,?_⟩,⟨hz,hTI,⟨_,_,hTO⟩,it1,it2⟩,λb hb=>?_,q⟩
 ·refine⟨?_,?_,?_,?_,?_,?_,?_,?_,?_,?_⟩<;>first|exact m1 _|exact m2 _|exact m1 0|exact m2 0|exact DV n1|exact DV n2|exact λz=>absurd (show(_:Nat)=_ from z) (by omega)
 ·simp only[Ed,Ec,or_false,not_or]
  refine⟨⟨?_,?_⟩,⟨?_,?_⟩,?_,?_⟩<;>first|exact m1 _|exact m2 _|exact m1 0|exact m2 0|exact DV n1|exact DV n2|exact λz=>absurd (show(_:Nat)=_ from z) (by omega)
 ·simp only[Ed,Ec,or_false,not_or]
  refine⟨⟨?_,?_⟩,⟨?_,?_⟩,?_,?_⟩<;>first|exact m1 _|exact m2 _|exact m1 0|exact m2 0|exact DV n1|exact DV n2|exact λz=>absurd (show(_:Nat)=_ from z) (by omega)
 ·first|exact m1 _|exact m2 _|exact m1 0|exact m2 0|exact DV n1|exact DV n2|exact λz=>absurd (show(_:Nat)=_ from z) (by omega)
 ·first|exact Ne.symm (m2 1)|exact m1 _|exact m2 _|exact m1 0|exact m2 0|exact DV n1|exact DV n2|exact λz=>absurd (show(_:Nat)=_ from z) (by omega)
 ·have hb':s1.heap.objs.size<=b:=by
   simp only[Ed,Ec,or_false]at hb
   rcases hb with rfl|rfl|rfl|rfl|rfl<;>first|exact DK _|exact Ez _ _
  exact I1.fpOk hb' (I1.hok.fresh hb')
noncomputable def lM:T->Option (Bool×List I)
 | .im (.tup is)=>some (false,is)
 | .li is=>some (true,is)
 | _=>none
noncomputable def on (is js:List I):List R:=(is.zip js).map λp=>⟨.ow,.im (.tup [p.1,p.2])⟩
@[irreducible] noncomputable def lq (a:MA):MI:=⟨λρ=>match a.run ρ with
 | some ([r1,r2],ρ1)=>(match lM r1.t,lM r2.t with
  | some (_,is),some (_,js)=>some (([r1,r2],on is js),ρ1)
  | _,_=>none)
 | _=>none,a.mu⟩
theorem i9 {K:yF}{H:Hp}{kd:Bool}{is:List I}{v:V}:∀{t:T},Rpx K H t v->lM t=some (kd,is)->∃a xs,v=.ref a/\SqK K H kd a xs/\RpIs K H is xs
 | .im (.tup _),r,e=>by cases e;exact bz r
 | .li _,r,e=>by cases e;obtain⟨a,xs,h1,h2,h3⟩:=bY r;exact⟨a,xs,h1,.inl h2,h3⟩
 | .im .non,_,e=>by cases e
 | .im (.bl _),_,e=>by cases e
 | .im (.int _),_,e=>by cases e
 | .im (.str _),_,e=>by cases e
 | .im (.ls _),_,e=>by cases e
 | .tup _,_,e=>by cases e
 | .lst _,_,e=>by cases e
 | .di _,_,e=>by cases e
 | .dc _,_,e=>by cases e
 | .ins _ _,_,e=>by cases e
theorem AL {Γ:Gm}{k1 k2:Bool}{a1 a2:Addr}{r1 r2:R}{is js:List I}(e1:lM r1.t=some (k1,is))(e2:lM r2.t=some (k2,js)):gq Γ (Itz Γ.K k1 k2 a1 a2) [.ref a1,.ref a2] [r1,r2] (on is js):=λH ρ Z E S=>by
 replace S:Sim Γ H ρ Z (⟨none,.ref a1,r1⟩::⟨none,.ref a2,r2⟩::E):=S
 have R1:Rpx Γ.K H r1.t (.ref a1):=S.rd (e:=⟨none,.ref a1,r1⟩) ymS
 have R2:Rpx Γ.K H r2.t (.ref a2):=S.rd (e:=⟨none,.ref a2,r2⟩) (ymC _ ymS)
 obtain⟨b1,xs,ea,g1,g2⟩:=i9 R1 e1
 cases ea
 obtain⟨b2,ys,ea,h1,h2⟩:=i9 R2 e2
 cases ea
 refine⟨λi hi=>⟨xs,ys,g1,h1,?_⟩,λi r hr=>?_⟩
 ·rw[g2.length,h2.length]
  unfold on at hi
  rw[DH,Gd]at hi
  omega
 ·obtain⟨p,hp,rfl⟩:=aZ hr
  obtain⟨hp1,hp2⟩:=Fj.mp hp
  obtain⟨w1,hw1,rw1⟩:=g2.get hp1
  obtain⟨w2,hw2,rw2⟩:=h2.get hp2
  refine⟨⟨xs,ys,w1,w2,g1,h1,hw1,hw2⟩,λx H' y=>?_⟩
  obtain⟨pp,x',y',hpp,rfl,rfl,hx,hy⟩:=y
  have q1:=hx xs g1
  rw[hw1]at q1
  cases q1
  have q2:=hy ys h1
  rw[hw2]at q2
  cases q2
  exact S.fresh (New.tup hpp (.cons rw1 (.cons rw2 (by rw[RpIs]))))
theorem wO {K:yF}{ta:TA}{a:MA}(ha:fv K ta a):jc K (Bb K ta) (lq a):=by
 intro Γ H ρ Z E Rr srcs items ρ' hK hr S q
 simp only[lq]at hr q
 split at hr
 ·rename_i r1 r2 ρ1 e1
  split at hr
  ·rename_i k1 is k2 js e2 e3
   cases hr
   refine ha Γ H ρ Z E _ _ _ hK e1 S λvs H1 hl S1=>?_
   obtain⟨v1,v2,rfl⟩:∃v1 v2,vs=[v1,v2]:=by
    cases vs with
    | nil=>cases hl
    | cons v r=>cases r with
     | nil=>cases hl
     | cons w r=>cases r with
      | nil=>exact⟨v,w,rfl⟩
      | cons _ _=>cases hl
   have S2:Sim Γ H1 ρ' Z (⟨none,v1,r1⟩::⟨none,v2,r2⟩::af a.mu E):=S1
   have R1:Rpx Γ.K H1 r1.t v1:=S2.rd (e:=⟨none,v1,r1⟩) ymS
   have R2:Rpx Γ.K H1 r2.t v2:=S2.rd (e:=⟨none,v2,r2⟩) (ymC _ ymS)
   obtain⟨a1,xs,rfl,g1,g2⟩:=i9 R1 e2
   obtain⟨a2,ys,rfl,h1,h2⟩:=i9 R2 e3
   subst hK
   exact⟨k1,k2,a1,a2,xs,ys,rfl,g1,h1,q _ [.ref a1,.ref a2] H1 rfl S1 (AL e2 e3)⟩
  ·cases hr
 ·cases hr
section
variable  {ι : Type}{C:ι->Cx}{P:Program}{W:World}{K:yF}{mg:Str->Option Value}{base:Heap}{k:Nat}{a b:Expr}{ms:MA}{pos:Pos}
theorem zK {elts:List Expr}{k0:Nat}{p pt:Pos}(ck:CK C P W K mg base k)(T:Bi mg)(ha:QA C K [a,b] ms)(hg:∀i,Gl (C i) "zip" :=by intro _;rfl):QI C K (.Tuple elts k0 pt) (.Call (.Name "zip" p) [a,b] [] pos) (lq ms):=by
 obtain⟨ta,q,n,r⟩:=ha
 refine⟨_,λi=>by have:=zr (X:=C i) (elts:=elts) (k0:=k0) (p:=p) (pos:=pos) (pt:=pt) (hg i) (by rw[ck.mg i];exact T.b_zip) (q i) n;rw[ck.kk i]at this;exact this,wO r⟩
end
theorem AO {ms:MA}{ρ:Rho}{QI':List R->List R->Rho->Prop}(h:WA ms ρ λrs ρ1=>∃r1 r2 k1 k2 is js,rs=[r1,r2]/\lM r1.t=some (k1,is)/\lM r2.t=some (k2,js)/\QI' [r1,r2] (on is js) ρ1):WI (lq ms) ρ QI':=by
 obtain⟨rs,ρ1,e1,r1,r2,k1,k2,is,js,rfl,e2,e3,q⟩:=h
 exact⟨_,_,_,by simp only[lq,e1,e2,e3],q⟩
section
variable  {S α:Type}{ρ:Rho}{m:ME}{ms:MA}{g:MG}{s1:MS}{QE':R->Rho->Prop}{Q:Fl->Rho->Prop}{fr:List (Option Nat)}
theorem hW (st:S->Rho)(emb : α->I)(P:Nat->S->List α->Prop) (h:WA ms ρ λrs ρ1=>∃r1 r2 k1 k2 is js,rs=[r1,r2]/\lM r1.t=some (k1,is)/\lM r2.t=some (k2,js)/\min is.length js.length<sizeLine/\(db fr ρ1.length&&cY (g.mu++([]++m.mu)) fr.length&&[r1,r2].all (au (muF fr (g.mu++([]++m.mu)))))=true/\∃s0,ρ1=st s0/\P 0 s0 [] ∧
  (∀(j:Nat) x y s l,is[j]?=some x->js[j]?=some y->P j s l->WG g ⟨.ow,.im (.tup [x,y])⟩ (inR fr (st s)) λρ1=>WE m ρ1 λr ρ3=>∃x s',r=⟨.ow,.im (emb x)⟩/\cI fr (g.mu++([]++m.mu)) ρ3 (st s)=st s'/\P (j+1) s' (l++[x])) ∧
  ∀s l,P (min is.length js.length) s l->QE' ⟨.ow,.li (l.map emb)⟩ (st s)):WE (aR fr (lq ms) g mYes m) ρ QE':=by with_unfolding_all
 obtain⟨rs,ρ1,e1,r1,r2,k1,k2,is,js,rfl,e2,e3,hl,al,s0,rfl,h0,hs,he⟩:=h
 refine lQ (AO ⟨_,_,e1,r1,r2,k1,k2,is,js,rfl,e2,e3,al,by unfold on;rw[DH,Gd];exact hl,λj acc ρ=>∃s l,acc=l.map (λx=>T.im (emb x))/\ρ=st s/\P j s l,⟨s0,[],rfl,rfl,h0⟩,?_,?_⟩)
 ·rintro j r acc ρ hj ⟨s,l,rfl,rfl,hP⟩
  obtain⟨p,hp,rfl⟩:=aZ hj
  obtain⟨hp1,hp2⟩:=Fj.mp hp
  refine WG.mono (hs j p.1 p.2 s l hp1 hp2 hP) λρ1 q=>iL ⟨λ_=>q.mono λr ρ3 ⟨x,s',e,e',hP'⟩=>⟨_,e,s',l++[x],by simp,e',hP'⟩,λz=>by cases z⟩
 ·rintro acc ρ ⟨s,l,rfl,rfl,hP⟩
  rw[eK]
  refine he s l ?_
  have:(on is js).length=min is.length js.length:=by unfold on;rw[DH,Gd]
  rw[←this]
  exact hP
end
theorem r9 {QT1:T->Prop}{ns:List String}{t:T}{n:String}{b:Bool}(h:tyN t=some n)(hb:ns.any (jw n)=b)(q:QT1 (.im (.bl b))):W1 (eS ns t) QT1:=BA h (by rw[hb];exact q)
theorem y9 {a:Bool}{QT1:T->Prop}(q:QT1 (.im (.bl false))):W1 (neT (.im (.bl a)) (.im (.bl a))) QT1:=w1 (x:=.im (.bl false)) (by with_unfolding_all (cases a<;>rfl)) q
end L2
namespace L2
open PySem
noncomputable section
noncomputable def eJ (rec:List T->Option T):MS:=(ao (mIf (aK (mUn (eS ["tuple","list"]) (ah 1))) (ao (mIf (mOr (aK (mOp neT (mUn (eS ["tuple"]) (ah 0)) (mUn (eS ["tuple"]) (ah 1)))) (aK (mOp neT (mUn (eS ["list"]) (ah 0)) (mUn (eS ["list"]) (ah 1))))) (bf (mC (.bl false))) mNext)
  (bf (iP (mOp eqT (mB cH (ac 0 mNil)) (mB cH (ac 1 mNil))) (mB lT (aa (aR [none,none,none,none] (lq (ac 0 (ac 1 mNil))) (bC (ax (ae 2) (ax (ae 3) mGNil))) mYes (mB rec (ac 2 (ac 3 mNil)))) mNil))))) mNext)
  (ao (mIf (mOr (aK (mOp neT (mUn (eS ["bool"]) (ah 0)) (mUn (eS ["bool"]) (ah 1)))) (aK (mOp neT (mUn (eS ["str"]) (ah 0)) (mUn (eS ["str"]) (ah 1))))) (bf (mC (.bl false))) mNext)
  (bf (iP (kz (mUn (eS ["tuple","list"]) (ah 0))) (mOp eqT (ah 0) (ah 1))))))
noncomputable def bX:Nat->List T->Option T
 | 0=>λts=>if ts.length=2 then dr iu 2 ts else none
 | n+1=>λts=>if ts.length=2 then dr (eJ (bX n)) 2 ts else none
end
end L2
namespace L2
open PySem PySem.Spec PyProof.Rows
section
variable  {κ : Type}[DecidableEq κ]
noncomputable def lP (kvs:List (κ×V)) (k : κ):Option V:=(kvs.find? λkv=>decide (kv.1=k)).map (·.2)
theorem mU {p : κ×V}{r:List (κ×V)}{k : κ}(e:p.1=k):lP (p::r) k=some p.2:=by simp[lP,FE,e]
theorem mT {p : κ×V}{r:List (κ×V)}{k : κ}(e:¬ p.1=k):lP (p::r) k=lP r k:=by simp[lP,FE,e]
theorem KV.val {kvs:List (κ×V)}{vs:List (κ×Value)}(r:KV kvs vs)(k : κ):RelO (lP kvs k) (valueAt vs k):=by
 unfold KV at r
 induction r with
 | nil=>exact True.intro
 | @cons p q ps qs h t ih=>
  obtain⟨h1,h2⟩:=h
  by_cases e:p.1=k
  ·have e':q.1=k:=h1.symm.trans e
   have b:valueAt (q::qs) k=some q.2:=by simp[valueAt,FE,e']
   rw[mU e,b];exact h2
  ·have e':¬ q.1=k:=λz=>e (h1.trans z)
   have b:valueAt (q::qs) k=valueAt qs k:=by simp[valueAt,FE,e']
   rw[mT e,b];exact ih
end
theorem xt {P:Program}{w:World}{k:Key}{u:Value}(r:RelV (kV k) u):(cj P w).is k u=true:=by
 cases k with
 | inl i=>obtain⟨t,e⟩:=(show∃t,u=Value.int i t from r);subst e;exact md P w i t
 | inr x=>obtain⟨t,e⟩:=(show∃t,u=Value.str x t from r);subst e;exact me P w x t
section
variable  {P:Program}{w:World}{H:Hp}{h:Heap}{a:Addr}
theorem Cv {u:HO}(ok:HOk P w H h)(e:Rd H a u):ObjOk P w H h a u:=e.ok ok
theorem xn {kvs:List (Key×V)}(ok:HOk P w H h)(e:Rd H a (.dK kvs)):kvs.length<=sizeLine/\(a==sysModules)=false/\∃vs,KV kvs vs/\h.DictOf (cj P w) a vs:=
 show ObjOk P w H h a (.dK kvs)from Cv ok e
end
def DGet (H:Hp)(a:Addr)(y:V)(r:Option V):Prop:=∃kvs k,Rd H a (.dK kvs)/\y=kV k/\r=lP kvs k
theorem DGet.k {H:Hp}{a:Addr}{kvs:List (Key×V)}{k:Key}(e:H a=some (.dK kvs)):DGet H a (kV k) (lP kvs k):=⟨kvs,k,.inl e,rfl,rfl⟩
section
variable  {X:Cx}{pins:List (Addr×Obj)}{Z:St}{H:Hp}{s:Shared}{a:Addr}{y v:V}{u r:Value}{o:Option V}{A:Around}{E:Value->Shared->Prop}
theorem Inv.big (I:Inv X pins Z H s):sysModules<s.heap.objs.size:=by
 have h:mainGlobals<s.heap.objs.size:=(I.mod.glob.keeps I.bk).lt
 exact GK (by decide) h
theorem pF {Q:Value->Shared->Prop}(hu:A.units+1<cLine)(I:Inv X pins Z H s)(g:DGet H a y (some v))(ry:RelV y u)(h:∀w' s',Inv X pins Z H s'->RelV v w'->Q w' s') :
  wpAny (model X.prog X.w) A (getItem (.ref a) u) Q E s:=by
 obtain⟨kvs,k,e,ey,l⟩:=g
 subst ey
 obtain⟨z,hd,vs,rel,dd⟩:=xn I.hok e
 obtain⟨w',hw,rw'⟩:=RelO.some_of (v:=v) (o:=valueAt vs k) (by rw[l];exact rel.val k)
 exact wpAny_getItem_of (xt ry) dd.mapOf hw (h w' _ (I.tok _) rw')
end
def xU (i:Expr):Prop:=∀ov iv,subscripted i false ov iv=operate [ov,iv] (getItem ov iv)
theorem wU {prog:Program}{w:World}{A:Around}{E:Value->Shared->Prop}{s:Shared}{env:Env}{value slice:Expr}{pos:Pos}{T id:String}{Q:Value->Shared->Prop}
  (hl:typeLookup (.type T) "__getitem__" = pure (some (.builtin id))) (hs:xU slice)
  (h:wpAny (model prog w) A (eval value env) (λo s₁=>wpAny (model prog w) A (eval slice env) (λi s₂=>s₂.TypeIs o T/\wpAny (model prog w) A (getItem o i) Q E s₂) E s₁) E s) :
  wpAny (model prog w) A (eval (.Subscript value slice pos) env) Q E s:=by
 refine Subscript_ (wpAny_mono h (λo s₁ h₁=>wpAny_mono h₁ (λi s₂ h₂=>?_) λ_ _ x=>x) λ_ _ x=>x)
 obtain⟨hT,h₂⟩:=h₂
 unfold subscriptTail
 refine wpAny_bind ?_
 rw[getitemInPython_of_ne hT.not_modules]
 refine wpAny_bind (wpAny_specialOf hT hl ?_)
 have fin:wpAny (model prog w) A (subscripted slice false o i) (λr s₃=>wpAny (model prog w) A (letTemporaryGo value o r >>= λ_=>pure r) Q E s₃) E s₂:=by
  rw[hs o i]
  exact wpAny_operating (wpAny_mono h₂ (λr s₃ h₃=>wpAny_bind (wpAny_letTemporaryGo (wpAny_pure h₃))) λ_ _ x=>x)
 first
  | exact wpAny_pure (wpAny_bind fin)
  | exact wpAny_bind (wpAny_pure (wpAny_bind fin))
  | exact wpAny_bind fin
theorem lZ {X:Cx}{pins:List (Addr×Obj)}{Z:St}{H:Hp}{s:Shared}{a:Addr}{y:V}{o:Option V}(I:Inv X pins Z H s)(g:DGet H a y o):s.TypeIs (.ref a) "dict" :=by
 obtain⟨kvs,k,e,_,_⟩:=g
 obtain⟨_,_,vs,_,dd⟩:=xn I.hok e
 exact dd.typeIs
def CA (td ty:TE):TE:=λZ H Q=>td Z H λx H1=>ty Z H1 λy H2=>∃a v,x=.ref a/\DGet H2 a y (some v)/\Q v H2
section
variable  {X:Cx}{o i e value:Expr}{pos pos' tpos:Pos}{td ty tv:TE}
theorem vE (hu:X.A.units+1<cLine)(ho:PE X o td)(hi:PE X i ty)(hs:xU i):PE X (.Subscript o i pos) (CA td ty):=by
 intro pins s Z H Q I h
 refine wU PySem.F.slot_dict_getitem.lookup hs (thn (ho pins s Z H _ I h) λu s1 ⟨x,H1,I1,rx,q1⟩=>thn (hi pins s1 Z H1 _ I1 q1) λiv s2 ⟨y,H2,I2,ry,a,v,ex,g,q2⟩=>?_)
 subst ex
 obtain rfl:u=Value.ref a:=rx
 exact⟨lZ I2 g,pF hu I2 g ry λw' s3 I3 rw'=>⟨v,H2,I3,rw',q2⟩⟩
end
theorem jY:typeLookup (.type "tuple") "keys" = pure none:=am_miss_of_fast (by decide +kernel)
theorem lm:typeLookup (.type "list") "keys" = pure none:=am_miss_of_fast (by decide +kernel)
section
variable  {prog:Program}{w:World}{A:Around}{E:Value->Shared->Prop}{s:Shared}
theorem iX {a:Addr}{o:Obj}{xs:Array Value}{k:Nat}{Q:Option Value->Shared->Prop}(hx:s.heap.get? a=some o)(hc:o.cls=.type "tuple" ∧ o.dict=none)(hdat:o.data=.seq xs k)(hA:A.handled=none)
  (h:∀h' tk,(∀b ob,s.heap.get? b=some ob->h'.get? b=some ob)->Q none {s with heap:=h',toks:=tk}):wpAny (model prog w) A (getAttr? (.ref a) "keys") Q E s:=by
 obtain⟨c,dct,dat,sl⟩:=o
 obtain⟨hc,hd⟩:=hc
 simp only at hc hdat hd
 subst hc hdat hd
 obtain⟨hp,g,d,tk,os⟩:=s
 have hT:∀tk',(⟨hp,g,d,tk',os⟩:Shared).TypeIs (.ref a) "tuple" :=λ_=>⟨_,hx,rfl⟩
 have f1:=sub_AttributeError
 have f3:=F.slot_tuple_getattribute.lookup
 have f4:=F.slot_tuple_getattribute.bind (.ref a)
 have f5:=am_tuple_getattr_none
 unfold getAttr? getAttrBy? getAttrBy
 repeat (any_goals (first|assumption|exact hT _|((with_reducible show wpAny _ _ (call (Value.builtin "tuple.__getattribute__") _ _) _ _ _);refine call_meets F.slot_tuple_getattribute (hT _) am_entry_tuple_getattribute (F.args_tuple_getattribute_2 _ _) (meets_getattribute_miss_tuple a xs k sl (Str.ofString "keys") _ jY (by decide +kernel)) ⟨hx,hA,λh' tk' e hx'=>?_⟩)|wp_step))
 obtain⟨t',u',he⟩:=hx'.there
 show wpAny _ _ (getattributeRaised _ _ _ _ _ _ _) _ _ _
 unfold getattributeRaised
 repeat (any_goals (first|assumption|wp_step))
 all_goals (try exact h _ _ hx'.keeps)
theorem jz {a:Addr}{o:Obj}{xs:Array Value}{k:Nat}{Q:Option Value->Shared->Prop}(hx:s.heap.get? a=some o)(hc:o.cls=.type "list" ∧ o.dict=none)(hdat:o.data=.seq xs k)(hA:A.handled=none)
  (h:∀h' tk,(∀b ob,s.heap.get? b=some ob->h'.get? b=some ob)->Q none {s with heap:=h',toks:=tk}):wpAny (model prog w) A (getAttr? (.ref a) "keys") Q E s:=by
 obtain⟨c,dct,dat,sl⟩:=o
 obtain⟨hc,hd⟩:=hc
 simp only at hc hdat hd
 subst hc hdat hd
 obtain⟨hp,g,d,tk,os⟩:=s
 have hT:∀tk',(⟨hp,g,d,tk',os⟩:Shared).TypeIs (.ref a) "list" :=λ_=>⟨_,hx,rfl⟩
 have f1:=sub_AttributeError
 have f3:=F.slot_list_getattribute.lookup
 have f4:=F.slot_list_getattribute.bind (.ref a)
 have f5:=am_list_getattr_none
 unfold getAttr? getAttrBy? getAttrBy
 repeat (any_goals (first|assumption|exact hT _|((with_reducible show wpAny _ _ (call (Value.builtin "list.__getattribute__") _ _) _ _ _);refine call_meets F.slot_list_getattribute (hT _) am_entry_list_getattribute (F.args_list_getattribute_2 _ _) (meets_getattribute_miss_list a xs k sl (Str.ofString "keys") _ lm (by decide +kernel)) ⟨hx,hA,λh' tk' e hx'=>?_⟩)|wp_step))
 obtain⟨t',u',he⟩:=hx'.there
 show wpAny _ _ (getattributeRaised _ _ _ _ _ _ _) _ _ _
 unfold getattributeRaised
 repeat (any_goals (first|assumption|wp_step))
 all_goals (try exact h _ _ hx'.keeps)
end
theorem dO:entryFor table "dict.update.loop" = some Builtin.«dict.update.loop»:=entryFor_of_tree (by rfl')
theorem dU:plainId "dict.update.loop" = true:=by decide +kernel
def ItK (kd:Bool)(h:Heap)(it l:Addr)(k:Nat):Prop:=match kd with|true=>h.IsListIter it l k|false=>h.IsTupleIter it l k
def SeK (kd:Bool)(h:Heap)(l:Addr)(els:Array Value):Prop:=match kd with|true=>h.IsList l els|false=>h.IsTuple l els
noncomputable def sto (ps:List (Key×Value)) (kvs:List (Key×Value)):List (Key×Value):=ps.foldl (λd p=>stored d p.1 p.2) kvs
theorem nU {kvs:List (Key×Value)}{k:Key}{v:Value}:(stored kvs k v).length<=kvs.length+1:=by
 unfold stored
 split
 ·rw[DH];omega
 ·simp
section
variable  {prog:Program}{w:World}
def AW (w:World)(prog:Program)(G:Heap)(d it:Addr)(x:Value)(p:Key×Value):Prop:=∃q key,x=.ref q/\q≠d/\q≠it/\(cj prog w).is p.1 key=true/\∃o n,G.get? q=some o/\o.cls=.type "tuple" ∧ o.data=.seq #[key,p.2] n
theorem uC {kd:Bool}{d it l:Addr}{els:List Value}{G:Heap}{R:Result->Shared->Prop}(n1:d≠it)(n2:d≠l)(n3:it≠l)(hl:SeK kd G l els.toArray) :
  ∀(m:Nat) {A:Around} (i:Nat) (ps:List (Key×Value)) (kvs:List (Key×Value)) (s:Shared),A.handled=none->m+i=els.length->Paired (AW w prog G d it) (els.drop i) ps->ItK kd s.heap it l i->s.heap.DictOf (cj prog w) d kvs->kvs.length+m<=sizeLine →
   (∀b o,b≠d->b≠it->G.get? b=some o->s.heap.get? b=some o) →
   (∀h' tk,(∀b o,b≠d->b≠it->G.get? b=some o->h'.get? b=some o)->h'.DictOf (cj prog w) d (sto ps kvs)->R (.ok (.ret .none)) {s with heap:=h',toks:=tk}) →
   codeAny (model prog w) A (.builtin "dict.update.loop" ⟨[.ref d,.ref it,rawInt i,.none],[]⟩) R s:=by
 intro m
 induction m with
 | zero=>
  intro A i ps kvs s hA hm hp hit hd hz hk q
  rw[Eo]at hm
  subst hm
  rw[Fu]at hp
  cases hp
  refine codeAny_builtin dO ?_
  rw[Around.under_plainId dU _]
  show wpAny _ _ (pyNext (.ref it) >>= _) _ _ _
  have fin:∀h',Heap.ExtBut it s.heap h'->R (.ok (.ret .none)) {s with heap:=h'}:=λh' eb=>
   q h' s.toks (λb o nb1 nb2 e=>eb b o nb2 (hk b o nb1 nb2 e)) (hd.extBut eb n1)
  cases kd with
  | true=>
   obtain⟨ol,e1,e2⟩:=hl
   exact wpAny_bind (wpAny_pyNext_list_end hA hit ⟨ol,hk _ _ (Ne.symm n2) (Ne.symm n3) e1,e2⟩ (by simp) λh' eb=>wpAny_bind (wpAny_pure (wpAny_pure (fin h' eb))))
  | false=>
   obtain⟨ol,e1,e2⟩:=hl
   exact wpAny_bind (wpAny_pyNext_tuple_end hA hit ⟨ol,hk _ _ (Ne.symm n2) (Ne.symm n3) e1,e2⟩ (by simp) λh' eb=>wpAny_bind (wpAny_pure (wpAny_pure (fin h' eb))))
 | succ m ih=>
  intro A i ps kvs s hA hm hp hit hd hz hk q
  have hi:i<els.length:=by omega
  rw[EK hi]at hp
  cases hp with
  | @cons x p _ ps' hx hp'=>
  obtain⟨a,key,ex,na1,na2,hkey,o,n,ho,hc,hdat⟩:=hx
  have hx':els[i]?=some (.ref a):=by rw[D6 hi,ex]
  refine codeAny_builtin dO ?_
  rw[Around.under_plainId dU _]
  show wpAny _ _ (pyNext (.ref it) >>= _) _ _ _
  have go:∀h',ItK kd h' it l (i+1)->Heap.SameBut it s.heap h'->wpAny (model prog w) A.in1 (holding [Value.ref a] (do
    let pair ←(Builtin.Dict.pairItems (.ref a)).tryCatch λe=>do
     if !(←isInstance e (.type "TypeError"))then throw e
     rule "dict.update.element-no-sequence"
     raiseError "TypeError" s!"cannot convert dictionary update sequence element #{(i : Int)} to a sequence"
    match pair with
    | [k,v]=>holding [k,v] (dictSet d k v)
    | l=>
     rule "dict.update.element-length"
     raiseError "ValueError" s!"dictionary update sequence element #{(i : Int)} has length {l.length}; 2 is required") >>= λ_=>again (.builtin "dict.update.loop" ⟨[.ref d,.ref it,rawInt ((i:Int)+1),.none],[]⟩))
    (λfin s'=>match fin with|.done f=>R (.ok f) s'|.again c'=>c'.quiet=true/\codeAny (model prog w) A c' R s') (λe s'=>R (.error e) s') {s with heap:=h'}:=λh' hit' sb=>by
   have ho':h'.get? a=some o:=(sb.2 a na2).trans (hk a o na1 na2 ho)
   refine wpAny_bind (wpAny_holding (wpAny_bind (wpAny_tryCatch ?_)))
   unfold Builtin.Dict.pairItems
   refine wpAny_bind (wpAny_typeOf (T:="tuple") ⟨o,ho',hc⟩ ?_)
   rw[if_pos (by rfl)]
   refine wpAny_bind (wpAny_seqItems ho' hdat (wpAny_pure ?_))
   show wpAny _ _ (holding [key,p.2] (dictSet d key p.2)) _ _ _
   refine wpAny_holding (wpAny_dictSet_pairs (hsz:=by omega) hkey (hd.sameBut sb n1) λh2 hd2 sb2=>?_)
   refine wpAny_pure ⟨Code.quiet_builtin _ (by decide +kernel),?_⟩
   have hit2:ItK kd h2 it l (i+1):=by
    cases kd with
    | true=>obtain⟨oi,e1,e2⟩:=hit';exact⟨oi,(sb2.2 it (Ne.symm n1)).trans e1,e2⟩
    | false=>obtain⟨oi,e1,e2⟩:=hit';exact⟨oi,(sb2.2 it (Ne.symm n1)).trans e1,e2⟩
   have:=ih (A:=A) (i+1) ps' _ {s with heap:=h2,toks:=s.toks+1} hA (by omega) hp' hit2 hd2 (by have:=nU (kvs:=kvs) (k:=p.1) (v:=p.2);omega) (λb ob nb1 nb2 e=>(sb2.2 b nb1).trans ((sb.2 b nb2).trans (hk b ob nb1 nb2 e))) λh3 tk k3 d3=>q h3 tk k3 d3
   exact this
  cases kd with
  | true=>
   obtain⟨ol,e1,e2⟩:=hl
   exact wpAny_bind (wpAny_pyNext_list_item hit ⟨ol,hk _ _ (Ne.symm n2) (Ne.symm n3) e1,e2⟩ (x:=.ref a) (by simpa using hx') λh' hit' sb=>go h' hit' sb)
  | false=>
   obtain⟨ol,e1,e2⟩:=hl
   exact wpAny_bind (wpAny_pyNext_tuple_item hit ⟨ol,hk _ _ (Ne.symm n2) (Ne.symm n3) e1,e2⟩ (x:=.ref a) (by simpa using hx') λh' hit' sb=>go h' hit' sb)
end
theorem kJ:∀(ps kvs:List (Key×Value)),((kvs++ps).map (·.1)).Nodup->sto ps kvs=kvs++ps
 | [],kvs,_=>by simp[sto]
 | p::ps,kvs,h=>by
  have hn:kvs.any (λkv=>decide (kv.1=p.1))=false:=by
   rw[List.any_eq_false]
   intro kv hkv
   rw[DP,DF]at h
   have:=h.2.2 kv.1 (DM.mpr ⟨kv,hkv,rfl⟩) p.1 (by simp)
   simpa using this
  have e:stored kvs p.1 p.2=kvs++[p]:=by unfold stored;rw[hn];rfl
  have:=kJ ps (kvs++[p]) (by rw[DU];exact h)
  rw[show sto (p::ps) kvs=sto ps (stored kvs p.1 p.2)from rfl,e,this,DU];rfl
section
variable  {X:Cx}{pins:List (Addr×Obj)}{Z:St}{H:Hp}{s:Shared}{a:Addr}{xs:List V}
theorem Inv.tupleN (I:Inv X pins Z H s)(h:SqT X.K H a xs):∃its:List Value,Vals xs its/\IsTupN s.heap a its.toArray/\xs.length<=sizeLine:=by
 rcases h with h|⟨o,its,n,hk,hc,hs,hz,r⟩
 ·obtain⟨z,its,r,p⟩:=h.ok I.hok
  exact⟨its,r,p,z⟩
 ·refine⟨its.toList,r,⟨o,I.kIn a o hk,hc,n,by simpa using hs⟩,?_⟩
  have e:=r.length
  simp only[EI]at e
  omega
end
def PrV (K:yF)(H:Hp)(y:V)(q:Key×V):Prop:=∃t,y=.ref t/\SqT K H t [kV q.1,q.2]
def o5 (K:yF):List V->Hp->VK->Prop:=λxs H Q=>∃p ys ps,xs=[.ref p]/\(SqL K H p ys∨SqT K H p ys)/\Paired (PrV K H) ys ps/\(ps.map (·.1)).Nodup/\∀l,H l=none->Q (.ref l) (upd H l (.dK ps))
section
variable  {X:Cx}{pins:List (Addr×Obj)}{Z:St}{H:Hp}{s:Shared}
theorem sX (I:Inv X pins Z H s){G:Heap}(hG:∀b o,s.heap.get? b=some o->G.get? b=some o){d it:Addr}(hd:s.heap.objs.size<=d)(hi:s.heap.objs.size<=it):∀{ys:List V} {ps:List (Key×V)} {us:List Value},Paired (PrV X.K H) ys ps->Vals ys us →
  ∃qs:List (Key×Value),Paired (AW X.w X.prog G d it) us qs/\KV ps qs
 | _,_,_,.nil,.nil=>⟨[],.nil,.nil⟩
 | _,_,_,.cons (b:=p) ⟨t,e,h⟩ hp,.cons (b:=u) r rs=>by
  obtain⟨qs,h1,h2⟩:=sX I hG hd hi hp rs
  subst e
  have eu:u=Value.ref t:=r
  obtain⟨its,r1,⟨o,e1,e2,n,e3⟩,_⟩:=I.tupleN h
  cases r1 with
  | cons r1 r2=>cases r2 with
   | cons r2 r3=>
    cases r3
    have lt:=Heap.lt_size e1
    exact⟨(p.1,_)::qs,.cons ⟨t,_,eu,DV (DX lt hd),DV (DX lt hi),xt r1,o,n,hG _ _ e1,e2.1,e3⟩ h1,.cons ⟨rfl,r2⟩ h2⟩
theorem yw {ps:List (Key×V)}{qs:List (Key×Value)}(h:KV ps qs):ps.map (·.1)=qs.map (·.1):=by
 induction h with
 | nil=>rfl
 | cons h _ ih=>rw[DJ,DJ,h.1,ih]
theorem kY (hc:X.calm=true):CallR X (.type "dict") (o5 X.K):=by
 intro pins s Z H xs us Q I r h
 obtain⟨p,ys,ps,rfl,hq,hp,hn,q⟩:=h
 obtain⟨u,rfl,rx⟩:=hV r
 cases rx
 have hA:=I.ok.hd hc
 have src:∃(kd:Bool) (els:List Value) (o:Obj) (n:Nat),s.heap.get? p=some o/\(o.cls=.type (if kd then "list" else "tuple")/\o.dict=none)/\o.data=.seq els.toArray n/\Vals ys els/\ys.length<=sizeLine:=by
  rcases hq with hq|hq
  ·obtain⟨its,r',⟨o,n,e1,e2,e3,e4⟩,hz⟩:=I.list hq
   exact⟨true,its,o,n,e1,⟨e2,e3⟩,e4,r',hz⟩
  ·obtain⟨its,r',⟨o,e1,e2,n,e3⟩,hz⟩:=I.tupleN hq
   exact⟨false,its,o,n,e1,e2,e3,r',hz⟩
 obtain⟨kd,els,o,n,e1,e2,e3,rv,hz⟩:=src
 have hlen:ys.length=els.length:=rv.length
 refine callType_codes (Q₁:=λobj s₁=>obj=.ref s.heap.objs.size/\s₁={s with heap:=s.heap.push {cls:=.type "dict",data:=.dict #[]}}) F.kt_called_dict (F.kt_typeCall_dict_1 _) F.entry_dict_init (kt_code_dict_new _ ⟨rfl,rfl⟩) ?_
 rintro obj s₁ ⟨rfl,rfl⟩
 have hnew:(s.heap.push {cls:=.type "dict",data:=.dict #[]}).DictOf (cj X.prog X.w) s.heap.objs.size []:=Heap.DictOf.new s.heap
 have k1:∀b ob,s.heap.get? b=some ob->(s.heap.push {cls:=.type "dict",data:=.dict #[]}).get? b=some ob:=λb ob e=>Heap.get?_push_of_some _ e
 have sz1:(s.heap.push {cls:=.type "dict",data:=.dict #[]}).objs.size=s.heap.objs.size+1:=Heap.size_push _ _
 generalize s.heap.push {cls:=.type "dict",data:=.dict #[]}=h1 at hnew k1 sz1⊢
 refine⟨hnew.typeIs,F.args_dict_init_2 _ _,?_⟩
 unfold Builtin.«dict.__init__»
 refine wpAny_bind ?_
 unfold Builtin.Dict.selfAndRest
 refine wpAny_bind (wpAny_notOrdered_dict hnew.typeIs ?_)
 show wpAny _ _ (pure (s.heap.objs.size,[Value.ref p])) _ _ _
 refine wpAny_pure ?_
 show wpAny _ _ (Builtin.Dict.updateFrom "dict.__init__" s.heap.objs.size (.ref p) [] .none) _ _ _
 unfold Builtin.Dict.updateFrom
 have hh:X.A.in1.in1.handled=none:=hA
 have last:∀(h2:Heap) (tk:Nat) (it:Addr),(∀b ob,h1.get? b=some ob->h2.get? b=some ob)->s.heap.objs.size<it->ItK kd h2 it p 0 →
   codeAny (model X.prog X.w) X.A.in1 (.builtin "dict.update.loop" ⟨[.ref s.heap.objs.size,.ref it,rawInt 0,.none],[]⟩) (wants (λr s₂=>r=.none/\EP X pins Z Q (.ref s.heap.objs.size) s₂) X.xe) {s with heap:=h2,toks:=tk}:=by
  intro h2 tk it k2 hit hI
  obtain⟨qs,p1,p2⟩:=sX I (G:=h2) (λb ob e=>k2 b ob (k1 b ob e)) (d:=s.heap.objs.size) (it:=it) (DK _) (F4 hit) hp rv
  have lp:=Heap.lt_size e1
  have sl:SeK kd h2 p els.toArray:=by
   cases kd with
   | true=>exact⟨o,k2 _ _ (k1 _ _ e1),e2.1,n,e3⟩
   | false=>exact⟨o,k2 _ _ (k1 _ _ e1),e2.1,n,e3⟩
  refine uC (G:=h2) (kd:=kd) (els:=els) (l:=p) (DV hit) (Fi lp) (Fi (GK lp hit)) sl els.length 0 qs [] _ hh (by omega) (by simpa using p1) hI ?_ (by simp;omega) (λ_ _ _ _ e=>e) λh3 tk3 k3 d3=>?_
  ·obtain⟨od,es,ep,f1,f2⟩:=hnew
   exact⟨od,es,ep,k2 _ _ f1,f2⟩
  ·rw[kJ _ _ (by rw[Er,←yw p2];exact hn),Er]at d3
   refine⟨rfl,.ref s.heap.objs.size,_,I.laid (t':=tk3) (λb ob e=>?_) (DK _) (show ObjOk X.prog X.w _ h3 _ (.dK ps)from⟨?_,?_,qs,p2,d3⟩),rfl,q _ (I.hok.fresh (DK _))⟩
   ·have lb:=Heap.lt_size e
    exact k3 b ob (DV lb) (DV (GK lb hit)) (k2 b ob (k1 b ob e))
   ·have:=hp.length;omega
   ·exact beq_eq_false_iff_ne.mpr (Ne.symm (DV I.big))
 cases kd with
 | true=>
  refine wpAny_bind (wpAny_typeOf (T:="list") ⟨o,k1 _ _ e1,e2.1⟩ ?_)
  rw[if_pos (by decide)]
  refine wpAny_bind (jz (k1 _ _ e1) e2 e3 hh λh2 tk k2=>?_)
  rw[if_pos (by rfl)]
  refine wpAny_bind (wpAny_rule (wpAny_bind (wpAny_pyIter_list ⟨o,k2 _ _ (k1 _ _ e1),e2.1,n,e3⟩ ?_)))
  refine wpAny_pure ⟨Code.quiet_builtin _ (by decide +kernel),?_⟩
  exact last _ tk _ (λb ob e=>Heap.get?_push_of_some _ (k2 b ob e)) (by obtain⟨_,_,_,f1,_⟩:=hnew;exact Heap.lt_size (k2 _ _ f1)) ⟨_,Heap.get?_push_size _ rfl,rfl,rfl⟩
 | false=>
  refine wpAny_bind (wpAny_typeOf (T:="tuple") ⟨o,k1 _ _ e1,e2.1⟩ ?_)
  rw[if_pos (by decide)]
  refine wpAny_bind (iX (k1 _ _ e1) e2 e3 hh λh2 tk k2=>?_)
  rw[if_pos (by rfl)]
  refine wpAny_bind (wpAny_rule (wpAny_bind (wpAny_pyIter_tuple ⟨o,k2 _ _ (k1 _ _ e1),e2.1,n,e3⟩ ?_)))
  refine wpAny_pure ⟨Code.quiet_builtin _ (by decide +kernel),?_⟩
  exact last _ tk _ (λb ob e=>Heap.get?_push_of_some _ (k2 b ob e)) (by obtain⟨_,_,_,f1,_⟩:=hnew;exact Heap.lt_size (k2 _ _ f1)) ⟨_,Heap.get?_push_size _ rfl,rfl,rfl⟩
end
noncomputable def pQ (i:I):Option Key:=match i with
 | .int n=>some (.inl n)
 | .str x=>some (.inr x)
 | _=>none
noncomputable def pr1 (i:I):Option (Key×I):=match i with
 | .tup is=>(match is with
  | []=>none
  | k::r=>(match r with
   | []=>none
   | v::r2=>(match r2 with
    | []=>(pQ k).map λq=>(q,v)
    | _::_=>none)))
 | _=>none
noncomputable def qq:List I->Option (List (Key×I))
 | []=>some []
 | i::is=>match pr1 i with
  | some p=>(qq is).map (p :: ·)
  | none=>none
noncomputable def rn (is:List I):Option T:=match qq is with
 | some l=>if(l.map (·.1)).Nodup then some (.di (l.map λp=>(ij p.1,p.2)))else none
 | none=>none
noncomputable def Cy (g:List I->Option T) (t:T):Option T:=match t with
 | .im i=>(match i with
  | .tup is=>g is
  | _=>none)
 | .li is=>g is
 | _=>none
@[irreducible] noncomputable def lY:List T->Option T:=l1 (Cy rn)
section
variable  {K:yF}{H:Hp}
theorem oT {i:I}{q:Key}(e:pQ i=some q):i=ij q:=by
 unfold pQ at e
 split at e<;>cases e<;>rfl
theorem oU {i:I}{q:Key}{x:V}(e:pQ i=some q)(r:RpI K H i x):x=kV q:=by
 rw[oT e]at r
 cases q<;>(rw[ij,RpI]at r;exact r)
theorem zt {i:I}{p:Key×I}{x:V}(e:pr1 i=some p)(r:RpI K H i x):∃w,PrV K H x (p.1,w)/\RpI K H p.2 w:=by
 unfold pr1 at e
 split at e
 ·split at e
  ·cases e
  ·split at e
   ·cases e
   ·split at e
    ·rename_i k _ v _ _
     obtain⟨q,e1,e2⟩:=EV.mp e
     cases e2
     rw[RpI]at r
     obtain⟨a,xs,rfl,h1,h2⟩:=r
     rw[RpIs]at h2
     obtain⟨y,r2,rfl,g1,h2⟩:=h2
     rw[RpIs]at h2
     obtain⟨z,r3,rfl,g2,h2⟩:=h2
     rw[RpIs]at h2
     subst h2
     rw[oU e1 g1]at h1
     exact⟨z,⟨a,rfl,h1⟩,g2⟩
    ·cases e
 ·cases e
theorem oZ:∀{is:List I} {l:List (Key×I)} {xs:List V},qq is=some l->RpIs K H is xs->∃ps:List (Key×V),Paired (PrV K H) xs ps/\ps.map (·.1)=l.map (·.1)/\RpIs K H (l.map (·.2)) (ps.map (·.2))
 | [],_,_,e,r=>by
  cases e
  rw[RpIs]at r
  subst r
  exact⟨[],.nil,rfl,by rw[Fa,RpIs];rfl⟩
 | i::is,l,xs,e,r=>by
  rw[RpIs]at r
  obtain⟨x,xs,rfl,r1,r2⟩:=r
  rw[qq]at e
  split at e
  ·rename_i p e1
   obtain⟨l',e2,rfl⟩:=EV.mp e
   obtain⟨w,h1,h2⟩:=zt e1 r1
   obtain⟨ps,h3,h4,h5⟩:=oZ e2 r2
   refine⟨(p.1,w)::ps,.cons h1 h3,by rw[DJ,DJ,h4],?_⟩
   rw[DJ,DJ,RpIs]
   exact⟨w,_,rfl,h2,h5⟩
  ·cases e
theorem New.di {ps:List (Key×V)}{kvs:List (I×I)}{p:Addr}(hp:H p=none)(hk:ps.map (λq=>ij q.1)=kvs.map (·.1))(h:RpIs K H (kvs.map (·.2)) (ps.map (·.2))):New K H (upd H p (.dK ps)) (.di kvs) (.ref p):=by
 refine⟨Same.laid hp,[p],?_,by simp,λa ha=>?_⟩
 ·rw[Rp]
  refine⟨p,ps.map (λq=>(ij q.1,q.2)),rfl,⟨ps,az,rfl⟩,?_,?_,rfl⟩
  ·have:(ps.map (λq=>(ij q.1,q.2))).map (·.2)=ps.map (·.2):=by rw[Eg];rfl
   rw[this]
   exact h.same (Same.laid hp)
  ·rw[Eg,←hk];rfl
 ·cases ysM ha
  exact⟨hp,_,az,rfl⟩
theorem oH {is:List I}{t:T}{xs:List V}{p:Addr}{Q:VK}(e:rn is=some t)(r:RpIs K H is xs)(hs:SqL K H p xs∨SqT K H p xs)(q:∀v H',New K H H' t v->Q v H'):o5 K [.ref p] H Q:=by
 unfold rn at e
 split at e
 ·rename_i l e1
  split at e
  ·rename_i hn
   cases e
   obtain⟨ps,h1,h2,h3⟩:=oZ e1 r
   refine⟨p,xs,ps,rfl,hs,h1,by rw[h2];exact hn,λl' hl=>q _ _ (.di hl ?_ ?_)⟩
   ·rw[Eg]
    have:=congrArg (List.map ij) h2
    rw[Eg,Eg]at this
    exact this
   ·rw[Eg];exact h3
  ·cases e
 ·cases e
theorem qj:fB K (o5 K) lY:=by
 intro H vs ts t Q r e q
 unfold lY at e
 have e0:=dA e
 clear e
 obtain⟨x,rfl,e⟩:=e0
 obtain⟨v,rfl,r1⟩:=lJ r
 unfold Cy at e
 split at e
 ·split at e
  ·obtain⟨p,xs,rfl,h1,h2⟩:=bz r1
   exact oH e h2 (.inr h1) q
  ·cases e
 ·obtain⟨p,xs,rfl,h1,h2⟩:=bY r1
  exact oH e h2 (.inl (aQ h1)) q
 ·cases e
theorem b_dict:qY "dict" lY:=⟨_,o5,He,λ_ h=>kY h,λ_=>qj⟩
noncomputable def jj:List (I×I)->I->Option I
 | [],_=>none
 | p::r,k=>if p.1=k then some p.2 else jj r k
noncomputable def dg1 (kvs:List (I×I)) (k:I):Option T:=match pQ k with
 | some _=>(jj kvs k).map T.im
 | none=>none
@[irreducible] noncomputable def dgT (t u:T):Option T:=match t with
 | .di kvs=>(match u with
  | .im k=>dg1 kvs k
  | _=>none)
 | _=>none
def dgR:R2:=λx y H Q=>∃a v,x=.ref a/\DGet H a y (some v)/\Q v H
theorem rO {a b:Key}(h:ij a=ij b):a=b:=by cases a<;>cases b<;>(unfold ij at h;cases h)<;>rfl
theorem l0 {q:Key}{v:I}:∀{kvs:List (I×I)} {zs:List (Key×V)},jj kvs (ij q)=some v->zs.map (λz=>ij z.1)=kvs.map (·.1)->RpIs K H (kvs.map (·.2)) (zs.map (·.2))->∃w,lP zs q=some w/\RpI K H v w
 | [],_,e,_,_=>by cases e
 | p::r,zs,e,h1,h2=>by
  cases zs with
  | nil=>cases h1
  | cons z zs=>
   rw[DJ,DJ,E3.injEq]at h1
   rw[DJ,DJ,RpIs]at h2
   obtain⟨x,xs,e1,g1,g2⟩:=h2
   rw[E3.injEq]at e1
   obtain⟨rfl,rfl⟩:=e1
   rw[jj]at e
   split at e
   ·rename_i hk
    cases e
    exact⟨z.2,mU (rO (h1.1.trans hk)),g1⟩
   ·rename_i hk
    obtain⟨w,g3,g4⟩:=l0 e h1.2 g2
    exact⟨w,by rw[mT λe=>hk (by rw[←h1.1,e])];exact g3,g4⟩
theorem vO:cW K dgR dgT:=by
 intro H x y tx ty t Q r1 r2 e q
 unfold dgT at e
 split at e
 ·split at e
  ·unfold dg1 at e
   split at e
   ·rename_i kvs k _ q0 e1
    obtain⟨v,e2,rfl⟩:=EV.mp e
    obtain⟨F,r1⟩:=r1
    rw[Rp]at r1
    obtain⟨a,ys,rfl,⟨zs,hz,rfl⟩,h1,h2,_⟩:=r1
    rw[Eg]at h1 h2
    rw[oU e1 (cZ r2)]
    rw[oT e1]at e2
    obtain⟨w,g1,g2⟩:=l0 e2 h2 h1
    refine⟨a,w,rfl,?_,q _ _ (.im g2)⟩
    rw[←g1]
    exact DGet.k hz
   ·cases e
  ·cases e
 ·cases e
end
section
variable  {ι : Type}{C:ι->Cx}{P:Program}{W:World}{K:yF}{mg:Str->Option Value}{base:Heap}{k:Nat}{a b:Expr}{ma mb:ME}{pos:Pos}
theorem BW (ck:CK C P W K mg base k)(ha:QE C K a ma)(hb:QE C K b mb)(hs:xU b:=by intro _ _;rfl):QE C K (.Subscript a b pos) (mOp dgT ma mb):=by
 obtain⟨ta,p,r⟩:=ha
 obtain⟨tb,p',r'⟩:=hb
 exact⟨_,λi=>vE (A9 (ck.room i)) (p i) (p' i) hs,lF (red:=dgR) vO r r'⟩
end
section
variable  {X:Cx}{pins:List (Addr×Obj)}{Z:St}{H:Hp}{s:Shared}
theorem Inv.frz {a:Addr}{xs:List V}(I:Inv X pins Z H s)(h:H a=some (.lst xs)):∃o,Inv X pins Z (upd H a (.frz o (.lst xs))) s:=by
 obtain⟨z,its,n,r,e⟩:=(show ObjOk X.prog X.w H s.heap a (.lst xs)from I.hok a _ h)
 exact⟨_,I.write (t':=s.toks) (h':=s.heap) (by rw[h];exact True.intro) (.inl rfl) (λb u _ q=>q) ⟨_,e⟩ ⟨e,z,its,n,r,e⟩⟩
def CC (t:TE):TE:=λZ H Q=>t Z H λv H1=>∃a xs,v=.ref a/\H1 a=some (.lst xs)/\∀o,Q v (upd H1 a (.frz o (.lst xs)))
theorem zg {e:Expr}{t:TE}(h:PE X e t):PE X e (CC t):=by
 intro pins s Z H Q I q
 refine thn (h pins s Z H _ I q) λu s1 ⟨v,H1,I1,rv,a,xs,ev,hl,q1⟩=>?_
 obtain⟨o,I2⟩:=I1.frz hl
 exact⟨v,_,I2,rv,q1 o⟩
def xR (i:Nat):TE:=λZ H Q=>∃v,Z[i]?=some (some v)/\((∃a xs,v=.ref a/\H a=some (.lst xs)/\∀o,Q v (upd H a (.frz o (.lst xs))))∨Q v H)
theorem vG {i:Nat}{e:Expr}(h:PE X e (wW i)):PE X e (xR i):=by
 intro pins s Z H Q I q
 obtain⟨v,hv,q⟩:=q
 refine thn (h pins s Z H (λw H1=>w=v/\H1=H) I ⟨v,hv,rfl,rfl⟩) λu s1 ⟨w,H1,I1,rv,e1,e2⟩=>?_
 subst e1 e2
 rcases q with⟨a,xs,ev,hl,q⟩|q
 ·obtain⟨o,I2⟩:=I1.frz hl
  exact⟨w,_,I2,rv,q o⟩
 ·exact⟨w,_,I1,rv,q⟩
end
noncomputable def uX (r:R):Option I:=match r.k with
 | .ow=>(match r.t with
  | .li is=>some (.ls is)
  | _=>none)
 | _=>none
theorem l5 {r:R}{i:I}(h:uX r=some i):∃is,r=⟨.ow,.li is⟩/\i=.ls is:=by
 obtain⟨k,t⟩:=r
 unfold uX at h
 dsimp only at h
 split at h
 ·split at h
  ·cases h;exact⟨_,rfl,rfl⟩
  ·cases h
 ·cases h
@[irreducible] noncomputable def pW (a:ME):ME:=⟨λρ=>match a.run ρ with
 | some (r,ρ1)=>(match uX r with
  | some i=>some (⟨.ow,.im i⟩,ρ1)
  | none=>none)
 | none=>none,a.mu⟩
section
variable  {K:yF}
theorem xu {H:Hp}{a:Addr}{xs:List V}(h:Rd H a (.lst xs))(m:Mu H a):H a=some (.lst xs):=by
 rcases h with h|⟨o,h⟩
 ·exact h
 ·obtain⟨u,e,z⟩:=m
  rw[h]at e;cases e;cases z
theorem wz {ta:TE}{a:ME}(ha:aU K ta a):aU K (CC ta) (pW a):=by with_unfolding_all
 intro Γ H ρ Z E Q r ρ' hK hr S q
 simp only[pW]at hr
 split at hr
 ·rename_i ra ρ1 e1
  split at hr
  ·rename_i i e2
   cases hr
   obtain⟨is,rfl,rfl⟩:=l5 e2
   refine ha Γ H ρ Z E _ _ _ hK e1 S λx H1 S1=>?_
   obtain⟨F,r0,nd,mu,k⟩:=Sim.use (vs:=[x]) (ts:=[.li is]) S1 rfl
   rw[Rps]at r0
   obtain⟨y,r,F1,F2,e3,h1,h2,rfl⟩:=r0
   cases e3
   rw[Rps]at h2
   obtain⟨_,rfl⟩:=h2
   rw[Rp]at h1
   obtain⟨b,xs,rfl,g1,g2,rfl⟩:=h1
   have hb:=xu g1 (mu b (by simp))
   refine⟨b,xs,rfl,hb,λo=>q _ _ (k _ _ _ [] ?_ ?_ EH (by simp) (fN ?_))⟩
   ·exact OffM.upd.mono (by simp)
   ·intro c hc
    have:c=b:=by simpa using hc
    subst this
    exact⟨_,az⟩
   ·rw[RpI]
    refine⟨b,o,xs,rfl,az,?_⟩
    exact RpIs.off (M:=[b]) OffM.upd (λc hc=>by rw[ysM hc];exact mu _ (by simp)) g2
  ·cases hr
 ·cases hr
@[irreducible] noncomputable def jC (i:Nat):ME:=⟨λρ=>match ρ[i]? with
 | some (some r)=>(match uX r with
  | some j=>some (⟨.ow,.im j⟩,(aq [i] ρ).set i (some ⟨.ow,.im j⟩))
  | none=>(match r.t with
   | .im j=>some (⟨.ow,.im j⟩,ρ)
   | _=>none))
 | _=>none,[i]⟩
theorem wA {i:Nat}:aU K (xR i) (jC i):=by with_unfolding_all
 intro Γ H ρ Z E Q r ρ' hK hr S q
 simp only[jC]at hr
 split at hr
 ·rename_i r0 h0
  split at hr
  ·rename_i j e2
   cases hr
   obtain⟨is,rfl,rfl⟩:=l5 e2
   obtain⟨v,hv,S2⟩:=S.var h0
   obtain⟨G,F,g1,g2,nd,mu,k⟩:=Sim.mut (vs:=[]) (ts:=[]) (p:=[]) S2 rfl h0 rfl
   have:=g2.nil_inv.2
   subst this
   rw[Rp]at g1
   obtain⟨b,xs,rfl,g3,g4,rfl⟩:=g1
   have hb:=xu g3 (mu b (by simp))
   refine⟨_,hv,.inl ⟨b,xs,rfl,hb,λo=>?_⟩⟩
   have rp:RpI Γ.K (upd H b (.frz o (.lst xs))) (.ls is) (.ref b):=by
    rw[RpI]
    refine⟨b,o,xs,rfl,az,?_⟩
    exact RpIs.off (M:=[b]) OffM.upd (λc hc=>by rw[ysM hc];exact mu _ (by simp)) g4
   have S3:=k (upd H b (.frz o (.lst xs))) (.im (.ls is)) [] OffM.upd (λc hc=>by
    have:c=b:=by simpa using hc
    subst this
    exact⟨_,az⟩) EH (by simp) (fN rp)
   exact q _ _ (S3.imm rp)
  ·split at hr
   ·rename_i j e3
    cases hr
    obtain⟨v,hv,S2⟩:=S.var h0
    obtain⟨k0,t0⟩:=r0
    replace e3:t0=.im j:=e3
    subst e3
    have R0:Rpx Γ.K H (.im j) v:=by
     have:=S2.rd (e:=⟨none,v,rdR i ⟨k0,.im j⟩⟩) ymS
     cases k0<;>exact this
    exact⟨v,hv,.inr (q _ _ ((S.weak [i]).imm (cZ R0)))⟩
   ·cases hr
 ·cases hr
end
section
variable  {ι : Type}{C:ι->Cx}{P:Program}{W:World}{K:yF}{mg:Str->Option Value}{base:Heap}{k:Nat}{a b:Expr}{ma mb:ME}{pos:Pos}
theorem BZ (ha:QE C K a ma):QE C K a (pW ma):=by
 obtain⟨ta,p,r⟩:=ha
 exact⟨_,λi=>zg (p i),wz r⟩
theorem B1 (i:Nat){x:Str}(hN:∀j,(C j).N[i]?=some x:=by intro _;rfl)(hv:∀j,Vis (C j).env.scope x:=by intro _;first|exact Or.inl rfl|exact Or.inr (Or.inl rfl)|exact Or.inr (Or.inr rfl))(hd:(x==("__debug__" : Str))=false:=by decide)(hcd:(x==("__classdict__" : Str))=false:=by decide):QE C K (.Name x pos) (jC i):=
 ⟨_,λj=>vG (nN (hN j) (hv j) hd hcd),wA⟩
end
noncomputable def jq:List I->Option (List Int)
 | []=>some []
 | i::is=>match i with
  | .int n=>(jq is).map (n :: ·)
  | _=>none
theorem jr {K:yF}{H:Hp}:∀{is:List I} {ns:List Int} {xs:List V},jq is=some ns->RpIs K H is xs->xs=ns.map V.int
 | [],_,_,e,r=>by cases e;rw[RpIs]at r;exact r
 | i::is,ns,xs,e,r=>by
  rw[RpIs]at r
  obtain⟨x,xs,rfl,r1,r2⟩:=r
  cases i with
  | int n=>
   obtain⟨ms,e2,rfl⟩:=EV.mp (show(jq is).map (n :: ·)=some ns from e)
   rw[RpI]at r1
   rw[r1,jr e2 r2];rfl
  | _=>cases e
noncomputable def ltB (is js:List I):Option T:=match jq is with
 | some ns=>(match jq js with
  | some ms=>some (.im (.bl (HT.lexLt ns ms)))
  | none=>none)
 | none=>none
@[irreducible] noncomputable def ltT (x y:T):Option T:=match rM x with
 | some is=>(match rM y with
  | some js=>ltB is js
  | none=>none)
 | none=>none
theorem sN {K:yF}:cW K (z8 K) ltT:=by
 intro H x y tx ty t Q r1 r2 e q
 unfold ltT at e
 split at e
 ·rename_i is e1
  split at e
  ·rename_i js e2
   cases gS e1
   cases gS e2
   unfold ltB at e
   split at e
   ·rename_i ns e3
    split at e
    ·rename_i ms e4
     cases e
     obtain⟨a,xs,rfl,g1,g2⟩:=bz r1
     obtain⟨b,ys,rfl,h1,h2⟩:=bz r2
     rw[jr e3 g2]at g1
     rw[jr e4 h2]at h1
     exact⟨a,b,ns,ms,rfl,rfl,g1,h1,q _ H (.sc rfl)⟩
    ·cases e
   ·cases e
  ·cases e
 ·cases e
theorem A2:fA .Lt ltT:=⟨z8,λ_ hu=>yL (by omega),λ_=>sN⟩
end L2
namespace L2
open PySem
noncomputable section
noncomputable def dP:MS:=(bf (mOp dgT (mB lY (aa (mIx (ah 0) (mC (.int 2))) mNil)) (ah 1)))
noncomputable def dW (ts:List T):Option T:=if ts.length=2 then dr dP 2 ts else none
noncomputable def i6:MS:=(bf (mB fw (aa (aR [none,none,none,none] (lq (ac 0 (ac 1 mNil))) (bC (ax (ae 2) (ax (ae 3) mGNil))) mYes (mOp bd (ah 2) (ah 3))) mNil)))
noncomputable def lB (ts:List T):Option T:=if ts.length=2 then dr i6 2 ts else none
noncomputable def cK:MS:=(ao (aB (ah 1) (bC (ax (ae 2) (ax (ae 3) mGNil))))
  (bf (aR [none,none,none,some 3,none,none,none] (mIt (mB cw (ac 2 (aa (mB dW (ac 0 (ac 2 mNil))) mNil)))) (bC (ax (ae 4) (ax (ae 5) (ax (ae 6) mGNil)))) mYes (ar [5] (ac 5 (aa (mB lB (ac 3 (ac 6 mNil))) mNil))))))
noncomputable def ee (ts:List T):Option T:=if ts.length=2 then dr cK 4 ts else none
noncomputable def ce:MS:=(ao (kA 1 2 3 (aa (mIx (aL [] (aa (mC (.int 1)) (aa (mC (.int 2)) (aa (mC (.int 6)) mNil)))) (ak 0 0 ai (ac 0 (aa (mC (.int 3)) mNil)))) (aa (ak 0 0 ai (ac 0 (aa (mC (.int 2)) mNil))) (aa (ak 0 0 ai (ac 0 (aa (mC (.int 2)) mNil))) mNil))))
  (ao (aB (ar [] (aa (ak 0 0 ge (ac 0 (ac 1 mNil))) (aa (ak 0 0 ai (ac 0 (ac 1 mNil))) mNil))) (bC (ax (ae 4) (ax (ae 5) mGNil))))
  (ao (mIf (aK (mOp eqT (ah 3) (mC (.int 1)))) (aB (aR [none,none,none,none,some 4,none,none,none,none,none,none,none,none] (aW (ac 1 mNil)) (ae 12) mYes (mOp bd (mSl (mOp dl (mIx (ah 4) (mC (.int 0))) (mC (.int 7))) mNoPart (eI (mC (.int 7)))) (mIx (mC (.str "abcdef")) (ah 12)))) (ae 4)) mNext)
  (ao (aB (aR [none,none,none,none,none,none,none,none,none,none,none,none,none] (aW (aa (mC (.int 25)) mNil)) (ae 12) mYes (ar [] (aa (mOp bZ (mOp eX (ah 12) (mC (.int 5))) (mC (.int 2))) (aa (mOp bZ (mOp gn (ah 12) (mC (.int 5))) (mC (.int 2))) mNil)))) (ae 6))
  (ao (mIf (aK (mOp eqT (ah 2) (mC (.int 1)))) (aB (aR [none,none,none,none,none,none,none,none,none,none,none,none,none,none] (mIt (ah 6)) (ae 13) (aK (mOp ltT (ah 13) (ar [] (aa (mC (.int 0)) (aa (mC (.int 0)) mNil))))) (ah 13)) (ae 6)) mNext)
  (ao (aB (aL [] mNil) (ae 7))
  (ao (bQ (aW (ac 1 mNil)) (ae 8)
  (bP [8,9,10,11,12] (ao (jD 9 10 (aa (ak 0 0 ai (ac 0 (aa (mB cH (ac 6 mNil)) mNil))) (aa (mOp bZ (mIx (aL [] (aa (mC (.int 11)) (aa (mC (.int 8)) mNil))) (mB nt (aa (mOp eqT (ah 1) (mC (.int 2))) mNil))) (ak 0 0 ai (ac 0 (aa (mC (.int 3)) mNil)))) mNil)))
  (ao (mIf (ln (aK (mOp eqT (ah 1) (mC (.int 6)))) (aK (mOp neT (ah 8) (ah 5)))) (aB (mC (.int 1)) (ae 10)) mNext)
  (ao (aB (aL [] mNil) (ae 11))
  (ao (bQ (aW (ac 10 mNil)) (ae 12)
  (bP [12] (be (bT 11 [] apT (ah 11) (aa (ar [] (aa (mC (.str "at")) (aa (mIx (ah 4) (ak 0 0 ai (ac 0 (ac 1 mNil)))) (aa (mIx (ah 6) (mOp eX (mOp bd (ah 9) (ah 12)) (mB cH (ac 6 mNil)))) mNil)))) mNil)))))
  (be (bT 7 [] apT (ah 7) (aa (ar [] (aa (mIx (ah 4) (ah 8)) (aa (ak 0 0 gd (ac 0 (ac 11 mNil))) mNil))) mNil)))))))))
  (bf (ar [] (aa (mC (.int 2)) (aa (mOp bd (mC (.int 2)) (ak 0 0 ai (ac 0 (aa (mC (.int 50)) mNil)))) (aa (mB fw (ac 7 mNil)) mNil))))))))))))
noncomputable def dH (ts:List T):Option (T×T):=if ts.length=1 then eN ce 0 13 ts else none
noncomputable def dg (rec:List T->Option T):MS:=(ao (mIf (aK (mOp eqT (mIx (ah 0) (mC (.int 0))) (mC (.str "num")))) (bf (aL [] mNil)) mNext)
  (ao (mIf (aK (mOp eqT (mIx (ah 0) (mC (.int 0))) (mC (.str "at")))) (bf (aL [] (aa (ar [] (aa (mIx (ah 0) (mC (.int 1))) (aa (mIx (ah 0) (mC (.int 2))) mNil))) mNil))) mNext)
  (ao (aB (aL [] mNil) (ae 1))
  (ao (bQ (mIt (mSl (ah 0) (eI (mOp bd (mC (.int 1)) (mB nt (aa (mOp eqT (mIx (ah 0) (mC (.int 0))) (mC (.str "op"))) mNil)))) mNoPart)) (ae 2)
  (bP [2] (be (bT 1 [] jX (ah 1) (aa (mB rec (ac 2 mNil)) mNil)))))
  (bf (ah 1))))))
noncomputable def cu:Nat->List T->Option T
 | 0=>λts=>if ts.length=1 then dr iu 3 ts else none
 | n+1=>λts=>if ts.length=1 then dr (dg (cu n)) 3 ts else none
noncomputable def ga:MS:=(ao (aB (aL [] mNil) (ae 1))
  (ao (bQ (mIt (mIx (ah 0) (mC (.int 2)))) (bC (ax (ae 2) (ax (ae 3) mGNil)))
  (bP [2,3,4,5] (bQ (mIt (mB (cu 24) (ac 3 mNil))) (bC (ax (ae 4) (ax (ae 5) mGNil)))
  (bP [4,5] (mIf (aK (mOp nF (ar [2,4,5] (ac 2 (ac 4 (ac 5 mNil)))) (ah 1))) (be (bT 1 [] apT (ah 1) (aa (ar [2,4,5] (ac 2 (ac 4 (ac 5 mNil)))) mNil))) mNext)))))
  (bf (ah 1))))
noncomputable def iG (ts:List T):Option T:=if ts.length=1 then dr ga 6 ts else none
noncomputable def f7:MS:=(ao (aB (mIx (aL [] (aa (mC (.int 4)) (aa (mC (.int 2001)) mNil))) (ak 0 0 ai (ac 0 (aa (mC (.int 2)) mNil)))) (ae 2))
  (bf (mB fw (aa (aR [some 0,none,some 2,none] (aW (ac 1 mNil)) (ae 3) mYes (mOp bZ (ak 0 0 ai (ac 0 (ac 2 mNil))) (mOp gn (ah 2) (mC (.int 2))))) mNil))))
noncomputable def gf (ts:List T):Option (T×T):=if ts.length=2 then eN f7 0 3 ts else none
noncomputable def f9:MS:=(ao (aB (mB iG (ac 0 mNil)) (ae 2))
  (ao (mIf (l7 (aK (mB (bX 24) (aa (mB e8 (ac 0 mNil)) (aa (mB fw (ac 2 mNil)) mNil))))) (bf (mC (.bl false))) mNext)
  (ao (bQ (mIt (mIx (ah 0) (mC (.int 2)))) (bC (ax (ae 3) (ax (ae 4) mGNil)))
  (bP [3,4] (mIf (l7 (aK (mB (bX 24) (aa (mB dW (ac 0 (ac 3 mNil))) (ac 4 mNil))))) (bf (mC (.bl false))) mNext)))
  (ao (bQ (mIt (ah 1)) (ae 5)
  (bP [3,5,6,7,8,9] (ao (aB (aL [] mNil) (ae 6))
  (ao (bQ (mIt (ah 2)) (bC (ax (ae 3) (ax (ae 7) (ax (ae 8) mGNil))))
  (bP [3,7,8] (mIf (aK (mOp eqT (ah 3) (mIx (ah 5) (mC (.int 0))))) (be (bT 6 [] apT (ah 6) (aa (ar [7] (ac 7 (aa (mB fw (aa (aR [none,none,none,none,none,none,none,none,none,none,none,none] (lq (aa (mIx (ah 5) (mC (.int 1))) (ac 8 mNil))) (bC (ax (ae 10) (ax (ae 11) mGNil))) mYes (mOp bd (ah 10) (ah 11))) mNil)) mNil))) mNil))) mNext)))
  (ao (aB (mB ee (ac 0 (ac 5 mNil))) (ae 9))
  (ao (mIf (l7 (aK (mB (bX 24) (ac 9 (ac 6 mNil))))) (bf (mC (.bl false))) mNext)
  (be (bT 9 [5] apT (ah 9) (ac 5 mNil)))))))))
  (bf (mC (.bl true)))))))
noncomputable def iF (ts:List T):Option T:=if ts.length=2 then dr f9 10 ts else none
noncomputable def eW:MS:=(ao (aB (aL [] mNil) (ae 1))
  (ao (bQ (aW (aa (mB l8 (aa (mC (.int 2)) (aa (mB l9 (aa (mB cH (ac 0 mNil)) (aa (mC (.int 7)) mNil))) mNil))) mNil)) (ae 2)
  (bP [2,3,4,5,6,7,8] (ao (aB (mB g9 (ac 0 (ac 2 mNil))) (ae 3))
  (ao (aB (ak 0 3 iD (ac 3 mNil)) (ae 4))
  (ao (aB (aL [] mNil) (ae 5))
  (ao (bQ (aW (aa (mOp bd (mC (.int 1)) (ak 0 3 ai (ac 3 (aa (mC (.int 4)) mNil)))) mNil)) (ae 6)
  (bP [6] (be (bT 5 [] apT (ah 5) (aa (ar [] (aa (mIx (mIx (mIx (ah 4) (mC (.int 2))) (ak 0 3 ai (ac 3 (aa (mB cH (aa (mIx (ah 4) (mC (.int 2))) mNil)) mNil)))) (mC (.int 0))) (aa (ak 0 3 gf (ac 3 (aa (mIx (ah 4) (mC (.int 0))) mNil))) mNil))) mNil)))))
  (ao (aB (ar [] (aa (mIx (ah 4) (mC (.int 0))) (aa (mIx (ah 4) (mC (.int 1))) (aa (mB fw (aa (aR [none,none,none,none,none,none,none,none,none,none,none] (mIt (mIx (ah 4) (mC (.int 2)))) (bC (ax (ae 9) (ax (ae 10) mGNil))) mYes (ar [9] (ac 9 (aa (ar [10,10] (aa (mC (.str "op")) (aa (mC (.str "max")) (ac 10 (ac 10 mNil))))) mNil)))) mNil)) mNil)))) (ae 7))
  (ao (aB (ar [] (aa (mIx (ah 4) (mC (.int 0))) (aa (mIx (ah 4) (mC (.int 1))) (aa (mB fw (aa (aR [none,none,none,none,none,none,none,none,none,none,none] (mIt (mIx (ah 4) (mC (.int 2)))) (bC (ax (ae 9) (ax (ae 10) mGNil))) mYes (ar [9] (ac 9 (aa (ar [] (aa (mC (.str "num")) (aa (mC (.int 1)) mNil))) mNil)))) mNil)) mNil)))) (ae 8))
  (be (bT 1 [] jX (ah 1) (aa (aL [] (aa (ar [4] (ac 4 (aa (jC 5) mNil))) (aa (ar [7] (ac 7 (aa (jC 5) mNil))) (aa (ar [8] (ac 8 (aa (jC 5) mNil))) (aa (ar [4] (ac 4 (aa (jC 5) mNil))) mNil))))) mNil)))))))))))
  (ao (aB (mB g9 (ac 0 (aa (mC (.int 8)) mNil))) (ae 3))
  (ao (aB (ak 0 3 dH (ac 3 mNil)) (ae 4))
  (ao (be (bT 1 [] apT (ah 1) (aa (ar [4] (ac 4 (aa (pW (aR [none,none,none,some 3,none,none,none,none,none,none,none] (mIt (mIx (ah 4) (mC (.int 2)))) (bC (ax (ae 9) (ax (ae 10) mGNil))) mYes (ar [9] (ac 9 (aa (ak 0 3 gf (ac 3 (aa (mC (.int 2)) mNil))) mNil))))) mNil))) mNil)))
  (bf (mB lT (aa (aR [none,none,none,none,none,none,none,none,none] (mIt (mOp bd (ah 1) (mSl (ah 1) mNoPart (eI (mC (.int 1)))))) (bC (ax (ae 4) (ax (ae 5) mGNil))) mYes (mB iF (ac 4 (ac 5 mNil)))) mNil))))))))
noncomputable def r_l_law_v3 (ts:List T):Option T:=if ts.length=1 then dr eW 9 ts else none
end
end L2
namespace K06
open PySem PySem.Spec PyProof.Rows L2
noncomputable def top (i:Nat):Stmt:=PySem.Challenge.pw_clockhouse_k06_steps_and_waits.main.body.getD i (.Pass ⟨0,0,0,0⟩)
noncomputable abbrev ef:Stmt:=top 1
noncomputable abbrev gG:Stmt:=top 2
noncomputable abbrev lL:Stmt:=top 3
noncomputable abbrev fm:Stmt:=top 5
noncomputable abbrev gH:Stmt:=top 6
noncomputable abbrev iJ:Stmt:=top 7
noncomputable abbrev um:Stmt:=top 8
noncomputable abbrev fS:Stmt:=top 9
noncomputable abbrev fQ:Stmt:=top 11
noncomputable abbrev fR:Stmt:=top 12
noncomputable abbrev ff:Stmt:=top 13
noncomputable abbrev gF:Stmt:=top 14
noncomputable abbrev cU:Stmt:=top 15
noncomputable abbrev cy:Stmt:=top 16
noncomputable abbrev cz:Stmt:=top 17
noncomputable abbrev cC:Stmt:=top 18
noncomputable abbrev bI:Stmt:=top 19
noncomputable abbrev cB:Stmt:=top 20
noncomputable abbrev fh:Stmt:=top 21
noncomputable abbrev fc:Stmt:=top 22
noncomputable abbrev fe:Stmt:=top 23
noncomputable abbrev cA:Stmt:=top 24
noncomputable abbrev cV:Stmt:=top 25
noncomputable abbrev fk:Stmt:=top 26
noncomputable abbrev fb:Stmt:=top 27
noncomputable abbrev fg:Stmt:=top 28
noncomputable abbrev fj:Stmt:=top 29
noncomputable abbrev s_law:Stmt:=top 30
structure GT (K:yF)(mg:Str->Option Value):Prop where
 triv:True
end K06
namespace L2
open PySem PySem.Spec PyProof.Rows
local macro_rules|`(tactic| ac_nf)=>`(tactic| try simp only[yp,Bh,Bg,vb,Bj,List.set_cons_zero,GC,vZ,wt,Ab,Ae,Ad,wu,rD,pH])
local macro_rules|`(tactic| infer_instance)=>`(tactic| first
 | refine oO ?_|refine uY ?_|(refine uV ?_;try ac_nf)|refine yg ?_|refine A5 rfl ?_|refine A7 ?_
 | refine xS ?_|refine CQ ?_|refine CY ?_|refine og ?_|refine AE ?_|refine CS ?_|refine CW ?_|refine AG ?_
 | refine w_C ?_|refine mW rfl ?_|refine Dy ?_|refine DA ?_|refine w_B ?_|refine w_M ?_|refine AB ?_|refine Dz ?_|refine AC ?_|refine AH ?_|refine Aw ?_|refine AF ?_|refine wX ?_|refine uI ?_|refine AD ?_
 | refine xi ?_|refine xj ?_
 | refine AI ?_|refine xa ?_|refine uJ rfl ?_
 | refine xk ?_|refine AS ?_|refine AR ?_|refine AQ ?_|refine CZ ?_|refine iL ?_
 | (refine xc (by with_unfolding_all rfl) ?_;try ac_nf)|refine AN rfl ?_|refine uM (by with_unfolding_all rfl) ?_|refine xf ?_|refine AM ?_|refine uL ?_
 | refine gu (by with_unfolding_all rfl) ?_
 | refine yT ?_|refine BI ?_|refine Bv ?_|refine Bw ?_|refine BE ?_|refine By ?_|refine y4 ?_|refine y0 ?_|refine vz ?_|refine BD ?_|refine BC ?_|refine yX ?_|refine zd ?_|refine y6 ?_|refine BG ?_|refine BH ?_|refine za ?_|refine zb rfl ?_
 | refine xx rfl ?_|refine xy rfl ?_|refine so (n:=0) rfl (Gh rfl) ?_|refine so (n:=1) rfl (Gh rfl) ?_
 | refine si (Dm (by decide) (by decide)) ?_|refine si (Bp (by decide) (by decide)) ?_|refine sf (by omega) ?_|refine yW (by omega) ?_
 | refine oj (by rfl) ?_|refine nj ?_|refine oz ?_
 | refine r9 (b:=true) rfl (by decide) ?_|refine r9 (b:=false) rfl (by decide) ?_|refine y9 ?_
 | refine Di ?_|refine Dj ?_|refine C6 rfl ?_|refine C4 rfl (by with_unfolding_all rfl) rfl rfl ?_|refine xY rfl rfl ?_|refine C5 ?_|refine As ?_|refine uy ?_|refine u8 rfl ?_|refine u9 rfl ?_)
local macro_rules|`(tactic| omega)=>`(tactic| decide)
local macro_rules|`(tactic| lia)=>`(tactic| repeat infer_instance)
local macro_rules|`(tactic| cbv)=>`(tactic| with_unfolding_all rfl)
local macro_rules|`(tactic| clear_value $h:ident)=>`(tactic| first|refine dsp (fun $h=>?_) (fun $h=>?_)|refine Dg (fun $h=>?_) (fun $h=>?_)|refine bsp (fun $h=>?_) (fun $h=>?_))
theorem aY {ns:List Int}{kd:Kd}{a:Int}{QR:R->Prop}(h0:0<=a)(h1:a<ns.length)(q:∀y,y∈ns->ns[a.toNat]?=some y->QR ⟨.ow,.im (.int y)⟩):W1 (ixR ⟨kd,.li (ns.map .int)⟩ (.im (.int a))) QR:=by
 refine sd h0 (by simpa using h1) λx hx=>?_
 rw[DG]at hx
 cases e:ns[a.toNat]? with
 | none=>rw[e]at hx;cases hx
 | some y=>rw[e]at hx;cases hx;exact q y (ymG e) e
theorem qb {ns:List Int}{kd:Kd}{a:Int}{QR:R->Prop}(h0:0<=a)(h1:a<ns.length)(q:∀y,y∈ns->ns[a.toNat]?=some y->QR ⟨.ow,.im (.int y)⟩):W1 (ixR ⟨kd,.im (.tup (ns.map .int))⟩ (.im (.int a))) QR:=by
 refine se h0 (by simpa using h1) λx hx=>?_
 rw[DG]at hx
 cases e:ns[a.toNat]? with
 | none=>rw[e]at hx;cases hx
 | some y=>rw[e]at hx;cases hx;exact q y (ymG e) e
theorem aP {α:Type}{P : α->Prop}{l:List α}{y : α}(h:∀x∈l,P x)(hy:P y):∀x∈l++[y],P x:=λx hx=>(yaM hx).elim (h x) λz=>by rw[ysM z];exact hy
noncomputable def fT (f:Int×Int):T:=.li [.int f.1,.int f.2]
theorem am {f:Int×Int}{n:Int}(h1:0<n)(h2:n<2^64){Q:T->T->Prop}(q:∀d f',0<=d->d<n->Q (.im (.int d)) (fT f')):W2 (ai [fT f,.im (.int n)]) Q:=by
 refine gk rfl rfl ?_
 unfold gX
 lia
 (refine bp ?_;lia;clear_value h)
 ·lia
  exact q _ (f.1 / n,f.2) (ER _ (by omega)) (Ex _ h1)
 ·lia
  exact q _ (f.1,(f.2*48271 % 2147483647*40692+30103) % 2147483399+1) (ER _ (by omega)) (Ex _ h1)
noncomputable def nW (is:List Int):T:=.im (.tup (is.map .int))
theorem ui {f:Int×Int}{n:Int}(h1:1<=n)(h2:n<=3){Q:T->T->Prop}(q:∀is f',is.length=n.toNat->(∀x∈is,-2<=x/\x<=2)->Q (nW is) (fT f')):W2 (i8 [fT f,.im (.int n)]) Q:=by
 refine gk rfl rfl ?_
 unfold i5
 lia
 refine bp ?_
 lia
 refine am (by omega) (by omega) λd f hd0 hd1=>?_
 ac_nf
 lia
 clear_value h
 ·lia
  refine sk (is:=[.int 0]) ⟨by simp,by decide,by omega,by omega⟩ ?_
  lia
  have:(DE n.toNat [I.int 0]).flatten=(DE n.toNat (0:Int)).map .int:=by simp
  rw[this]
  exact q _ f (by simp) (by intro x hx;rw[(Fd.mp hx).2];decide)
 ·lia
  refine cD (λf:Int×Int=>[some ⟨.io 0,fT f⟩,some ⟨.ow,.im (.int n)⟩]) I.int (λj _ is=>is.length=j/\∀x∈is,-2<=x/\x<=2) ?_
  lia
  refine⟨⟨by omega,by omega⟩,by cbv,f,by cbv,⟨rfl,by simp⟩,λj f is hj ⟨hl,hx⟩=>?_,λf is ⟨hl,hx⟩=>?_⟩
  ·lia
   refine am (by omega) (by omega) λd f hd0 hd1=>?_
   ac_nf
   lia
   refine aY (ns:=[0,1,0-1,2,0-2]) hd0 hd1 λy hy _=>⟨y,f,rfl,by cbv,by simp[hl],aP hx (by simp at hy;omega)⟩
  ·lia
   exact q is f hl hx
theorem uT {f:Int×Int}{n:Int}(h1:1<=n)(h2:n<=3){Q:T->T->Prop}(q:∀is f',is.length=n.toNat->(∀x∈is,-2<=x/\x<=2)->(∃(k:Nat) (y:Int) (m:List Int),is=DE k 0++y::m/\y<0)->Q (nW is) (fT f')):W2 (dq [fT f,.im (.int n)]) Q:=by
 refine gk rfl rfl ?_
 unfold df
 lia
 refine am (by omega) (by omega) λd f hd0 hd1=>?_
 ac_nf
 lia
 refine qP (λf:Int×Int=>[some ⟨.io 0,fT f⟩,some ⟨.ow,.im (.int n)⟩,some ⟨.ow,.im (.int d)⟩,none]) I.int (λj _ is=>is.length=j/\∀x∈is,-2<=x/\x<=2) ?_
 lia
 refine⟨⟨by omega,by omega,by omega,by omega,by omega⟩,by cbv,f,by cbv,⟨rfl,by simp⟩,λj f is hj ⟨hl,hx⟩=>?_,λf is ⟨hl,hx⟩=>?_⟩
 ·lia
  refine am (by omega) (by omega) λd f hd0 hd1=>?_
  ac_nf
  lia
  refine aY (ns:=[0,1,0-1,2,0-2]) hd0 hd1 λy hy _=>⟨y,f,rfl,by cbv,by simp[hl],aP hx (by simp at hy;omega)⟩
 ·lia
  refine sj (is:=[.int 0]) ⟨by omega,by omega,by simp;rw[sizeLine_eq];omega⟩ ?_
  lia
  refine am (by omega) (by omega) λd2 f hd20 hd21=>?_
  ac_nf
  lia
  refine lr (is:=(DE d.toNat [I.int 0]).flatten) (js:=[.int (0-1-d2)]) (by simp;rw[sizeLine_eq];omega) ?_
  lia
  refine lr (is:=(DE d.toNat [I.int 0]).flatten++[.int (0-1-d2)]) (js:=is.map I.int) (by simp;rw[sizeLine_eq];omega) ?_
  lia
  have:(DE d.toNat [I.int 0]).flatten++[.int (0-1-d2)]++is.map I.int=(DE d.toNat 0++(0-1-d2)::is).map I.int:=by simp
  rw[this]
  exact q _ f (by simp;omega) (λx hx'=>by
   rcases yaM hx' with hx'|hx'
   ·rw[(Fd.mp hx').2];decide
   ·rcases ycM hx' with rfl|hx'
    ·omega
    ·exact hx x hx') ⟨d.toNat,_,is,rfl,by omega⟩
theorem qL {row signs:List Int}{way:Int}(h1:1<=row.length)(h2:row.length<=1000)(hw:0<=way)(hs:signs.length=row.length)(hm:∀x∈row,-(2^64)<x/\x<2^64){Q:T->Prop}(q:∀is:List Int,is.length=row.length->(∀(k:Nat) x s,row[(k+way.toNat) % row.length]?=some x->signs[k]?=some s->is[k]?=some (x*s))->Q (nW is)):W1 (cv [nW row,.im (.int way),.li (signs.map .int)]) Q:=by
 refine o7 rfl rfl ?_
 unfold cg
 lia
 refine bO (λp:List Int=>[some ⟨.ow,nW row⟩,some ⟨.ow,.im (.int way)⟩,some ⟨.vw none none,.li (signs.map .int)⟩,some ⟨.ow,.li (p.map .int)⟩,none]) (λj p=>p.length=j/\∀(k:Nat),k<j->∀x s,row[(k+way.toNat) % row.length]?=some x->signs[k]?=some s->p[k]?=some (x*s)) ?_
 lia
 rw[DH]
 refine⟨⟨by omega,by omega⟩,[],by cbv,⟨rfl,λk hk=>absurd hk (GS _)⟩,λj is hj ⟨hl,hx⟩=>?_,λis ⟨hl,hx⟩=>?_⟩
 ·lia
  refine sf (by simp;omega) ?_
  lia
  rw[DH]
  have e1:((j:Int)+way) % (row.length:Int)=(((j+way.toNat) % row.length:Nat):Int):=by
   rw[Int.natCast_emod,Int.natCast_add];congr 1;omega
  rw[e1]
  have hlt:(j+way.toNat) % row.length<row.length:=FL _ (by omega)
  refine qb (ns:=row) (by omega) (by omega) λy hy ey=>?_
  lia
  refine aY (ns:=signs) (by omega) (by omega) λz hz ez=>?_
  lia
  refine si (Bp (hm y hy).1 (hm y hy).2) ?_
  lia
  refine bo (by simp[hl];rw[sizeLine_eq];omega) ?_
  lia
  refine⟨is++[y*z],?_,by simp[hl],λk hk x s h1 h2=>?_⟩
  ·show _=[_,_,_,_,_]
   rw[DP]
   cbv
  ·rcases Nat.lt_succ_iff_lt_or_eq.mp hk with hk|rfl
   ·rw[Em (by omega)];exact hx k hk x s h1 h2
   ·rw[D7]at ey ez
    rw[ey]at h1;rw[ez]at h2
    cases h1;cases h2
    rw[EF (by omega),hl];simp
 ·lia
  exact q is (by omega) λk x s h1 h2=>hx k (by have:=(DB.mp h2).1;omega) x s h1 h2
inductive Ru where
 | num (n:Int)|rd (x:Str) (row:List Int)|op (s:Str) (a b:Ru)|cond (a b c:Ru)
noncomputable def tRu:Ru->I
 | .num n=>.tup [.str "num",.int n]
 | .rd x row=>.tup [.str "at",.str x,.tup (row.map .int)]
 | .op s a b=>.tup [.str "op",.str s,tRu a,tRu b]
 | .cond a b c=>.tup [.str "if",tRu a,tRu b,tRu c]
noncomputable def Ru.leaves:Ru->List Ru
 | .op _ a b=>a.leaves++b.leaves
 | .cond a b c=>a.leaves++(b.leaves++c.leaves)
 | r=>[r]
noncomputable def Ru.depth:Ru->Nat
 | .op _ a b=>max a.depth b.depth+1
 | .cond a b c=>max a.depth (max b.depth c.depth)+1
 | _=>0
noncomputable def nS:List Str:=["+","-","*","min","max","rest","less"]
def Ru.ok:Ru->Prop
 | .op s a b=>s∈nS/\a.ok/\b.ok
 | .cond a b c=>a.ok/\b.ok/\c.ok
 | _=>True
theorem Ru.depth_lt:∀r:Ru,r.depth<r.leaves.length
 | .num _=>GU
 | .rd _ _=>GU
 | .op _ a b=>by have:=a.depth_lt;have:=b.depth_lt;simp only[Ru.depth,Ru.leaves,DS];omega
 | .cond a b c=>by have:=a.depth_lt;have:=b.depth_lt;have:=c.depth_lt;simp only[Ru.depth,Ru.leaves,DS];omega
theorem fu {α:Type}{emb : α->I}{ns:List α}{kd:Kd}{a:Int}{QR:R->Prop}(h0:0<=a)(h1:a<ns.length)(q:∀y,ns[a.toNat]?=some y->QR ⟨.ow,.im (emb y)⟩):W1 (ixR ⟨kd,.li (ns.map emb)⟩ (.im (.int a))) QR:=by
 refine sd h0 (by simpa using h1) λx hx=>?_
 rw[DG]at hx
 cases e:ns[a.toNat]? with
 | none=>rw[e]at hx;cases hx
 | some y=>rw[e]at hx;cases hx;exact q y e
theorem yY {α:Type}{emb : α->I}{ns:List α}{kd:Kd}{a:Int}{QR:R->Prop}(h0:0<=a)(h1:a<ns.length)(q:∀y,ns[a.toNat]?=some y->QR ⟨.ow,.im (emb y)⟩):W1 (ixR ⟨kd,.im (.tup (ns.map emb))⟩ (.im (.int a))) QR:=by
 refine se h0 (by simpa using h1) λx hx=>?_
 rw[DG]at hx
 cases e:ns[a.toNat]? with
 | none=>rw[e]at hx;cases hx
 | some y=>rw[e]at hx;cases hx;exact q y e
theorem CU {ct:MT}{s1 s2:MS}{ρ:Rho}{Q:Fl->Rho->Prop}(M:Bool->Rho->Prop)(h:WT ct ρ M)(h1:∀ρ,M true ρ->WS s1 ρ Q)(h2:∀ρ,M false ρ->WS s2 ρ Q):WS (mIf ct s1 s2) ρ Q:=bp (WT.mono h λb ρ m=>⟨λe=>h1 ρ (e▸m),λe=>h2 ρ (e▸m)⟩)
theorem De {α:Type}{l:List α}{n:Nat}{a b : α}(ha:l[n]?=some a)(hb:l[n+1]?=some b):l=l.take n++a::b::l.drop (n+2):=by
 obtain⟨h1,e1⟩:=DB.mp ha
 obtain⟨h2,e2⟩:=DB.mp hb
 rw[←e1,←e2,EW,EW,Fs]
theorem Df {α:Type}{l:List α}{n:Nat}{a b c : α}(ha:l[n]?=some a)(hb:l[n+1]?=some b)(hc:l[n+2]?=some c):l=l.take n++a::b::c::l.drop (n+3):=by
 obtain⟨h1,e1⟩:=DB.mp ha
 obtain⟨h2,e2⟩:=DB.mp hb
 obtain⟨h3,e3⟩:=DB.mp hc
 rw[←e1,←e2,←e3,EW,EW,EW,Fs]
theorem l6 {f:Int×Int}{rs:List Ru}(hne:rs≠[])(hl:rs.length<=1000)(hok:∀r∈rs,r.ok){Q:T->T->Prop}(q:∀r f',r.leaves=rs.flatMap Ru.leaves->r.ok->Q (.im (tRu r)) (fT f')):W2 (gd [fT f,.li (rs.map tRu)]) Q:=by
 refine runI_ok' [some ⟨.io 0,fT f⟩,some ⟨.vw none none,.li (rs.map tRu)⟩,none,none,none] rfl rfl rfl ?_
 unfold fY
 lia
 refine mX (λs:(Int×Int)×List Ru=>[some ⟨.io 0,fT s.1⟩,some ⟨.vw none none,.li (rs.map tRu)⟩,some ⟨.ow,.li (s.2.map tRu)⟩,none,none]) (λs=>s.2≠[]/\s.2.length<=1000/\(∀r∈s.2,r.ok)/\s.2.flatMap Ru.leaves=rs.flatMap Ru.leaves) (λs=>s.2.length) (f,rs) (by cbv) ⟨hne,hl,hok,rfl⟩ λs ⟨hne,hl,hok,hfl⟩=>?_
 obtain⟨f,cs⟩:=s
 dsimp only at hne hl hok hfl⊢
 lia
 rw[DH]
 clear_value hlen
 ·lia
  rw[DH]
  refine am (by omega) (by omega) λat0 f ha0 ha1=>?_
  ac_nf
  lia
  refine CU (λb ρ=>∃f:Int×Int,ρ=[some ⟨.io 0,fT f⟩,some ⟨.vw none none,.li (rs.map tRu)⟩,some ⟨.ow,.li (cs.map tRu)⟩,some ⟨.ow,.im (.int at0)⟩,none]/\(b=true->2<cs.length)) ?_ ?_ ?_
  ·lia
   rw[DH]
   clear_value h2
   ·lia
    refine am (by omega) (by omega) λd f hd0 hd1=>?_
    ac_nf
    lia
    exact⟨f,rfl,λ_=>by omega⟩
   ·exact⟨f,rfl,λz=>absurd z (by decide)⟩
  ·rintro ρ ⟨f,rfl,h2⟩
   have h2:=h2 rfl
   lia
   rw[DH]
   generalize hat:(if(cs.length:Int)-3<at0 then(cs.length:Int)-3 else at0)=at1
   have ha:0<=at1/\at1+3<=cs.length:=by subst hat;split<;>omega
   refine fu (ns:=cs) ha.1 (by omega) λa ea=>?_
   lia
   refine fu (ns:=cs) (by omega) (by omega) λb eb=>?_
   lia
   refine fu (ns:=cs) (by omega) (by omega) λc ec=>?_
   lia
   rw[show(at1+1).toNat=at1.toNat+1 by omega]at eb
   rw[show(at1+2).toNat=at1.toNat+2 by omega]at ec
   have ecut:=Df ea eb ec
   refine⟨[],cs.map tRu,_,_,at1,at1+3,rfl,rfl,rfl,by cbv,⟨ha.1,by omega,by simp;omega,by simp;rw[sizeLine_eq];omega⟩,rfl,rfl,?_⟩
   ac_nf
   lia
   refine⟨(f,cs.take at1.toNat++Ru.cond a b c::cs.drop (at1.toNat+3)),?_,?_,by simp,?_,?_,?_⟩
   ·rw[DP,DJ,Fx,GA,show(at1+3).toNat=at1.toNat+3 by omega,DU]
    cbv
   ·simp;omega
   ·simp;omega
   ·intro r hr
    rcases yaM hr with hr|hr
    ·exact hok r (Ep hr)
    ·rcases ycM hr with rfl|hr
     ·exact⟨hok a (ymG ea),hok b (ymG eb),hok c (ymG ec)⟩
     ·exact hok r (E5 hr)
   ·rw[←hfl]
    conv=>rhs;rw[ecut]
    simp[Ru.leaves]
  ·rintro ρ ⟨f,rfl,_⟩
   lia
   refine am (by omega) (by omega) λd f hd0 hd1=>?_
   ac_nf
   lia
   refine fu (emb:=I.str) (ns:=nS) hd0 (by simpa[nS]using hd1) λsg esg=>?_
   lia
   refine fu (ns:=cs) ha0 (by omega) λa ea=>?_
   lia
   refine fu (ns:=cs) (by omega) (by omega) λb eb=>?_
   lia
   rw[show(at0+1).toNat=at0.toNat+1 by omega]at eb
   have ecut:=De ea eb
   refine⟨[],cs.map tRu,_,_,at0,at0+2,rfl,rfl,rfl,by cbv,⟨ha0,by omega,by simp;omega,by simp;rw[sizeLine_eq];omega⟩,rfl,rfl,?_⟩
   ac_nf
   lia
   refine⟨(f,cs.take at0.toNat++Ru.op sg a b::cs.drop (at0.toNat+2)),?_,?_,by simp,?_,?_,?_⟩
   ·rw[DP,DJ,Fx,GA,show(at0+2).toNat=at0.toNat+2 by omega,DU]
    cbv
   ·simp;omega
   ·simp;omega
   ·intro r hr
    rcases yaM hr with hr|hr
    ·exact hok r (Ep hr)
    ·rcases ycM hr with rfl|hr
     ·exact⟨ymG esg,hok a (ymG ea),hok b (ymG eb)⟩
     ·exact hok r (E5 hr)
   ·rw[←hfl]
    conv=>rhs;rw[ecut]
    simp[Ru.leaves]
 ·lia
  obtain⟨r,rfl⟩:∃r,cs=[r]:=by
   match cs,hne,hlen with
   | [r],_,_=>exact⟨r,rfl⟩
   | _::_::_,_,h=>simp at h;omega
  lia
  exact q r f (by simpa using hfl) (hok r (by simp))
noncomputable def Ru.kids:Ru->List Ru
 | .op _ a b=>[a,b]
 | .cond a b c=>[a,b,c]
 | _=>[]
noncomputable def Ru.pre:Ru->List Ru
 | .num n=>[.num n]
 | .rd x row=>[.rd x row]
 | .op s a b=>.op s a b::(a.pre++b.pre)
 | .cond a b c=>.cond a b c::(a.pre++(b.pre++c.pre))
theorem nO (r:Ru):r.pre=r::r.kids.flatMap Ru.pre:=by cases r<;>simp[Ru.pre,Ru.kids]
theorem vN (r:Ru):1<=r.pre.length:=by rw[nO];simp
theorem gD:∀r:Ru,r.pre.length<2*r.leaves.length
 | .num _=>by simp[Ru.pre,Ru.leaves]
 | .rd _ _=>by simp[Ru.pre,Ru.leaves]
 | .op _ a b=>by have:=gD a;have:=gD b;simp only[Ru.pre,Ru.leaves,DQ,DS];omega
 | .cond a b c=>by have:=gD a;have:=gD b;have:=gD c;simp only[Ru.pre,Ru.leaves,DQ,DS];omega
theorem rP (r:Ru):r.kids.length<=3:=by cases r<;>simp[Ru.kids]
theorem rK {r:Ru}{Q:T->Prop}(q:Q (.im (.tup (r.kids.map tRu)))):W1 (cR [.im (tRu r)]) Q:=by
 refine runP_ok' [some ⟨.ow,.im (tRu r)⟩] rfl rfl rfl ?_
 unfold bU
 cases r with
 | num k=>
  rw[tRu]
  lia
  (refine bp ?_;lia;clear_value h)
  ·exact absurd h (by decide +kernel)
  lia
  (refine bp ?_;lia;clear_value h')
  ·exact absurd h' (by decide +kernel)
  lia
  exact q
 | rd x row=>
  rw[tRu]
  lia
  (refine bp ?_;lia;clear_value h)
  ·exact absurd h (by decide +kernel)
  lia
  (refine bp ?_;lia;clear_value h')
  ·exact absurd h' (by decide +kernel)
  lia
  exact q
 | op s a b=>
  rw[tRu]
  lia
  (refine bp ?_;lia;clear_value h)
  ·lia
   refine oY (is:=[.str "op",.str s,tRu a,tRu b]) (show ¬((2:Nat)=0/\4=4) by decide) ?_
   lia
   exact q
  ·exact absurd rfl h
 | cond a b c=>
  rw[tRu]
  lia
  (refine bp ?_;lia;clear_value h)
  ·exact absurd h (by decide +kernel)
  lia
  (refine bp ?_;lia;clear_value h')
  ·lia
   refine oY (is:=[.str "if",tRu a,tRu b,tRu c]) (show ¬((1:Nat)=0/\4=4) by decide) ?_
   lia
   exact q
  ·exact absurd rfl h'
theorem zc {is:List I}{Q:Bool->Prop}(q:Q (!is.isEmpty)):W1 (tru (.li is)) Q:=w1 rfl q
theorem su {r:Ru}(hl:r.leaves.length<=1000){Q:T->Prop}(q:Q (.li (r.pre.map tRu))):W1 (e7 [.im (tRu r)]) Q:=by
 have hpre:=gD r
 refine runP_ok' [some ⟨.ow,.im (tRu r)⟩,none,none,none] rfl rfl rfl ?_
 unfold dh
 lia
 refine mX (λs:List Ru×List Ru=>[some ⟨.ow,.im (tRu r)⟩,some ⟨.ow,.li (s.1.map tRu)⟩,some ⟨.ow,.li (s.2.map tRu)⟩,none]) (λs=>s.1++s.2.reverse.flatMap Ru.pre=r.pre) (λs=>(s.2.flatMap Ru.pre).length) ([],[r]) (by cbv) (by simp) λs hs=>?_
 obtain⟨ps,st⟩:=s
 dsimp only at hs⊢
 lia
 refine zc ?_
 refine bsp (λhne=>?_) (λhe=>?_)
 ·obtain⟨st',p,rfl⟩:∃st' p,st=st'++[p]:=by
   rcases List.eq_nil_or_concat st with z|⟨a,b,z⟩
   ·rw[z]at hne;cases hne
   ·exact⟨a,b,by simpa using z⟩
  rw[DP]at *
  lia
  refine BF ?_
  ac_nf
  lia
  have hlen:=congrArg EO hs
  simp only[Gx,Fg,List.reverse_nil,Er,DO,DL,Fv,D0,DS,D8]at hlen hs
  have hk:(st'.reverse.flatMap Ru.pre).length=(st'.flatMap Ru.pre).length:=by simp[Gy,F3,GQ]
  have hst:st'.length<=(st'.flatMap Ru.pre).length:=by
   clear hs hne hlen hk
   induction st' with
   | nil=>simp
   | cons a l ih=>rw[DL,DQ,DS];have:=vN a;omega
  refine bo (is:=ps.map tRu) (by simp;rw[sizeLine_eq];omega) ?_
  ac_nf
  lia
  refine rK ?_
  lia
  have hkid:=rP p
  refine yV (is:=st'.map tRu) (js:=(p.kids.map tRu).reverse) (by simp;rw[sizeLine_eq];omega) ?_
  ac_nf
  lia
  refine⟨(ps++[p],st'++p.kids.reverse),?_,?_,?_⟩
  ·rw[DP,DP,F3]
   cbv
  ·rw[DO,DO,DS,DS,DL,Fv,D0,nO p,DQ]
   have:(p.kids.reverse.flatMap Ru.pre).length=(p.kids.flatMap Ru.pre).length:=by simp[Gy,F3,GQ]
   omega
  ·rw[←hs,Gx,List.reverse_reverse,DO,nO p]
   simp
 ·have:st=[]:=by cases st<;>first|rfl|cases he
  subst this
  lia
  simp at hs
  subst hs
  exact q
noncomputable def tRd (p:Int×List Int):I:=.tup [.int p.1,.tup (p.2.map .int)]
noncomputable def aC (l:List (Int×List Int)):T:=.li (l.map tRd)
theorem eP (l:List (Int×List Int))(i:I):aC l ≠ .im i:=by unfold aC;intro z;cases z
theorem tp {ls:List (List (Int×List Int))}{n:Nat}{l:List (Int×List Int)}{p:Int×List Int}(h:ls[n]?=some l):T.put (.lst (ls.map aC)) [.ix n] (.li (l.map tRd++[tRd p]))=.lst ((ls.set n (l++[p])).map aC):=by
 rw[tm (u:=aC l) (by rw[DG,h];rfl),F8]
 simp[aC]
theorem uH {ρ:Rho}{Q:Fl->Rho->Prop}{L X:Nat}{args:MA}{ls:List (List (Int×List Int))}{i:Int}(n:Nat){l:List (Int×List Int)}(hL : ρ[L]?=some (some ⟨.ow,.lst (ls.map aC)⟩))(hX : ρ[X]?=some (some ⟨.ow,.im (.int i)⟩))(hi:i=(n:Int))(hl:ls[n]?=some l)(hz:l.length<1000)(hm:args.mu.contains L=false)
  (ha:WA args ρ λrs ρ1=>∃p,rs=[⟨.ow,.im (tRd p)⟩]/\ρ1[L]?=some (some ⟨.ow,.lst (ls.map aC)⟩)/\Q .nx ((aq [L] ρ1).set L (some ⟨.ow,.lst ((ls.set n (l++[p])).map aC)⟩))):WS (be (bT L [] apT (mIx (ah L) (ah X)) args)) ρ Q:=by
 subst hi
 refine og (uI (AB (mW hL (mW hX (gu (by cbv) ?_)))))
 have hl':(ls.map aC)[(n:Int).toNat]?=some (aC l):=by rw[D7,DG,hl];rfl
 refine nK (u:=aC l) (kd:=.vw (some L) (some [.ix (n:Int).toNat])) (by omega) hl' (eP l) rfl ?_
 rw[D7]
 refine WA.mono ha λrs ρ1 ⟨p,e,hL',q⟩=>?_
 subst e
 refine gu ?_ (oj rfl (oz (nj (xY hL' rfl ?_))))
 ·show cX args.mu ⟨.vw (some L) (some [.ix n]),aC l⟩=true
  unfold cX
  simp only[Kd.root]
  rw[hm];rfl
 ·refine bo (is:=l.map tRd) (by simp;rw[sizeLine_eq];omega) ?_
  rw[tp hl]
  exact q
def Looks (P:Nat->Int×List Int->Prop)(c:Nat)(m:Nat)(ls:List (List (Int×List Int))):Prop:=ls.length=m/\∀x l,ls[x]?=some l->l.length<=c/\∀p∈l,P x p
theorem Looks.get {P:Nat->Int×List Int->Prop}{c m:Nat}{ls:List (List (Int×List Int))}(h:Looks P c m ls){n:Nat}(hn:n<m):∃l,ls[n]?=some l/\l.length<=c/\∀p∈l,P n p:=by
 have:n<ls.length:=by rw[h.1];exact hn
 exact⟨ls[n],D6 this,h.2 n _ (D6 this)⟩
theorem dX {α:Type}{l:List α}{n x:Nat}{a b : α}(h:(l.set n a)[x]?=some b):(n=x/\b=a)∨(n≠x/\l[x]?=some b):=by
 by_cases e:n=x
 ·subst e
  have:=(DB.mp h).1
  rw[Es (by simpa using this)]at h
  cases h;exact .inl ⟨rfl,rfl⟩
 ·rw[DW e]at h;exact .inr ⟨e,h⟩
theorem Looks.set {P:Nat->Int×List Int->Prop}{c m:Nat}{ls:List (List (Int×List Int))}{n:Nat}{l l':List (Int×List Int)}(h:Looks P c m ls)(hl:ls[n]?=some l)(hn:l'.length<=c)(hp:∀p∈l',P n p):Looks P c m (ls.set n l'):=by
 refine⟨by rw[Fm];exact h.1,λx l' hx=>?_⟩
 rcases dX hx with⟨rfl,rfl⟩|⟨_,hx⟩
 ·exact⟨hn,hp⟩
 ·exact h.2 x l' hx
def jU (w m:Int)(p:Int×List Int):Prop:=0<=p.1/\p.1<m/\p.2.length=w.toNat/\∀x∈p.2,-2<=x/\x<=2
theorem uW {f:Int×Int}{w m:Int}(h1:1<=w)(h2:w<=3)(h3:1<=m)(h4:m<=6){Q:T->T->Prop}(q:∀ls f',Looks (λ_ p=>jU w m p) 3 m.toNat ls->Q (.lst (ls.map aC)) (fT f')):W2 (dF [fT f,.im (.int w),.im (.int m)]) Q:=by
 refine gk rfl rfl ?_
 unfold cb
 lia
 refine jT (λ_:Unit=>[some ⟨.io 0,fT f⟩,some ⟨.ow,.im (.int w)⟩,some ⟨.ow,.im (.int m)⟩,none,none,none]) aC eP (λ_ _ l=>∀x∈l,x=[]) ?_
 lia
 refine⟨⟨by omega,by omega⟩,by cbv,(),by cbv,by simp,λj _ l hj hl=>?_,λ_ l hl hn=>?_⟩
 ·lia
  exact⟨[],(),rfl,by cbv,aP hl rfl⟩
 lia
 refine bO (λs:(Int×Int)×List (List (Int×List Int))=>[some ⟨.io 0,fT s.1⟩,some ⟨.ow,.im (.int w)⟩,some ⟨.ow,.im (.int m)⟩,some ⟨.ow,.lst (s.2.map aC)⟩,none,none]) (λj s=>Looks (λ_ p=>jU w m p) 3 m.toNat s.2/\∀y l,j<=y->s.2[y]?=some l->l=[]) ?_
 lia
 refine⟨⟨by omega,by omega⟩,(f,l),by cbv,⟨⟨hn,λx l' hx=>by rw[hl l' (ymG hx)];simp⟩,λy l' _ hx=>hl l' (ymG hx)⟩,λx s hx ⟨hL,hE⟩=>?_,λs ⟨hL,_⟩=>?_⟩
 ·lia
  refine bO (λt:(Int×Int)×List (List (Int×List Int))=>[some ⟨.io 0,fT t.1⟩,some ⟨.ow,.im (.int w)⟩,some ⟨.ow,.im (.int m)⟩,some ⟨.ow,.lst (t.2.map aC)⟩,some ⟨.ow,.im (.int x)⟩,none]) (λj t=>Looks (λ_ p=>jU w m p) 3 m.toNat t.2/\(∀l,t.2[x]?=some l->l.length<=j)/\∀y l,x+1<=y->t.2[y]?=some l->l=[]) ?_
  lia
  refine am (by omega) (by omega) λd f hd0 hd1=>?_
  ac_nf
  lia
  refine⟨⟨by omega,by omega⟩,(f,s.2),by cbv,⟨hL,λl hl=>by rw[hE x l (DK _) hl];simp,λy l hy hl=>hE y l (by omega) hl⟩,λj t hj ⟨hL,hc,hE⟩=>?_,λt ⟨hL,_,hE⟩=>by lia;exact⟨t,by cbv,hL,hE⟩⟩
  obtain⟨l,hl,hl3,hlP⟩:=hL.get (n:=x) (by omega)
  iterate 2 infer_instance
  refine uH (ls:=t.2) x rfl rfl rfl hl (by omega) (by cbv) ?_
  lia
  refine am (by omega) (by omega) λe f he0 he1=>?_
  ac_nf
  lia
  refine ui h1 h2 λis f hil hib=>?_
  ac_nf
  lia
  have:=hc l hl
  refine⟨(e,is),rfl,rfl,?_⟩
  lia
  refine⟨(f,t.2.set x (l++[(e,is)])),by cbv,hL.set hl (by simp;omega) (aP hlP ⟨he0,he1,hil,hib⟩),λl' hl'=>?_,λy l' hy hl'=>?_⟩
  ·rcases dX hl' with⟨_,rfl⟩|⟨z,_⟩
   ·simp;omega
   ·exact absurd rfl z
  ·rcases dX hl' with⟨z,_⟩|⟨_,hl'⟩
   ·omega
   ·exact hE y l' hy hl'
 ·lia
  exact q s.2 s.1 hL
def m8 (w m:Int)(x:Nat)(p:Int×List Int):Prop:=jU w m p/\((p.1<x/\∀e∈p.2,e=0) ∨ ∃(k:Nat) (y:Int) (r:List Int),p.2=DE k 0++y::r/\y<0)
theorem oV {f:Int×Int}{w m:Int}(h1:1<=w)(h2:w<=3)(h3:1<=m)(h4:m<=6){Q:T->T->Prop}(q:∀ls f',Looks (m8 w m) 3 m.toNat ls->Q (.lst (ls.map aC)) (fT f')):W2 (cq [fT f,.im (.int w),.im (.int m)]) Q:=by
 refine gk rfl rfl ?_
 unfold cc
 lia
 refine jT (λ_:Unit=>[some ⟨.io 0,fT f⟩,some ⟨.ow,.im (.int w)⟩,some ⟨.ow,.im (.int m)⟩,none,none,none]) aC eP (λ_ _ l=>∀x∈l,x=[]) ?_
 lia
 refine⟨⟨by omega,by omega⟩,by cbv,(),by cbv,by simp,λj _ l hj hl=>?_,λ_ l hl hn=>?_⟩
 ·lia
  exact⟨[],(),rfl,by cbv,aP hl rfl⟩
 lia
 refine bO (λs:(Int×Int)×List (List (Int×List Int))=>[some ⟨.io 0,fT s.1⟩,some ⟨.ow,.im (.int w)⟩,some ⟨.ow,.im (.int m)⟩,some ⟨.ow,.lst (s.2.map aC)⟩,none,none]) (λj s=>Looks (m8 w m) 3 m.toNat s.2/\∀y l,j<=y->s.2[y]?=some l->l=[]) ?_
 lia
 refine⟨⟨by omega,by omega⟩,(f,l),by cbv,⟨⟨hn,λx l' hx=>by rw[hl l' (ymG hx)];simp⟩,λy l' _ hx=>hl l' (ymG hx)⟩,λx s hx ⟨hL,hE⟩=>?_,λs ⟨hL,_⟩=>?_⟩
 ·lia
  refine bO (λt:(Int×Int)×List (List (Int×List Int))=>[some ⟨.io 0,fT t.1⟩,some ⟨.ow,.im (.int w)⟩,some ⟨.ow,.im (.int m)⟩,some ⟨.ow,.lst (t.2.map aC)⟩,some ⟨.ow,.im (.int x)⟩,none]) (λj t=>Looks (m8 w m) 3 m.toNat t.2/\(∀l,t.2[x]?=some l->l.length<=j)/\∀y l,x+1<=y->t.2[y]?=some l->l=[]) ?_
  lia
  refine am (by omega) (by omega) λd f hd0 hd1=>?_
  ac_nf
  lia
  refine⟨⟨by omega,by omega⟩,(f,s.2),by cbv,⟨hL,λl hl=>by rw[hE x l (DK _) hl];simp,λy l hy hl=>hE y l (by omega) hl⟩,λj t hj ⟨hL,hc,hE⟩=>?_,λt ⟨hL,_,hE⟩=>by lia;exact⟨t,by cbv,hL,hE⟩⟩
  obtain⟨l,hl,hl3,hlP⟩:=hL.get (n:=x) (by omega)
  have hcl:=hc l hl
  have fin:∀(e:Int) (is:List Int) (f:Int×Int),m8 w m x (e,is)->Looks (m8 w m) 3 m.toNat (t.2.set x (l++[(e,is)]))/\(∀l',(t.2.set x (l++[(e,is)]))[x]?=some l'->l'.length<=j+1)/\∀y l',x+1<=y->(t.2.set x (l++[(e,is)]))[y]?=some l'->l'=[]:=λe is f hP=>by
   refine⟨hL.set hl (by simp;omega) (aP hlP hP),λl' hl'=>?_,λy l' hy hl'=>?_⟩
   ·rcases dX hl' with⟨_,rfl⟩|⟨z,_⟩
    ·simp;omega
    ·exact absurd rfl z
   ·rcases dX hl' with⟨z,_⟩|⟨_,hl'⟩
    ·omega
    ·exact hE y l' hy hl'
  have hback:∀f,WS (be (bT 3 [] apT (mIx (ah 3) (ah 4)) (aa (ar [] (aa (ak 0 0 ai (ac 0 (ac 2 mNil))) (aa (ak 0 0 dq (ac 0 (ac 1 mNil))) mNil))) mNil))) [some ⟨.io 0,fT f⟩,some ⟨.ow,.im (.int w)⟩,some ⟨.ow,.im (.int m)⟩,some ⟨.ow,.lst (t.2.map aC)⟩,some ⟨.ow,.im (.int x)⟩,some ⟨.ow,.im (.int j)⟩] λfl ρ=>fl=.nx/\∃e is f,ρ=[some ⟨.io 0,fT f⟩,some ⟨.ow,.im (.int w)⟩,some ⟨.ow,.im (.int m)⟩,some ⟨.ow,.lst ((t.2.set x (l++[(e,is)])).map aC)⟩,some ⟨.ow,.im (.int x)⟩,some ⟨.ow,.im (.int j)⟩]/\m8 w m x (e,is):=λf=>by
   refine uH (ls:=t.2) x rfl rfl rfl hl (by omega) (by cbv) ?_
   lia
   refine am (by omega) (by omega) λe f he0 he1=>?_
   ac_nf
   lia
   refine uT h1 h2 λis f hil hib hb=>?_
   ac_nf
   lia
   exact⟨(e,is),rfl,rfl,by trivial,e,is,f,by cbv,⟨he0,he1,hil,hib⟩,.inr hb⟩
  have hzero:∀f,(0:Int)<x->WS (be (bT 3 [] apT (mIx (ah 3) (ah 4)) (aa (ar [] (aa (ak 0 0 ai (ac 0 (ac 4 mNil))) (aa (mOp dl (ar [] (aa (mC (.int 0)) mNil)) (ah 1)) mNil))) mNil))) [some ⟨.io 0,fT f⟩,some ⟨.ow,.im (.int w)⟩,some ⟨.ow,.im (.int m)⟩,some ⟨.ow,.lst (t.2.map aC)⟩,some ⟨.ow,.im (.int x)⟩,some ⟨.ow,.im (.int j)⟩] λfl ρ=>fl=.nx/\∃e is f,ρ=[some ⟨.io 0,fT f⟩,some ⟨.ow,.im (.int w)⟩,some ⟨.ow,.im (.int m)⟩,some ⟨.ow,.lst ((t.2.set x (l++[(e,is)])).map aC)⟩,some ⟨.ow,.im (.int x)⟩,some ⟨.ow,.im (.int j)⟩]/\m8 w m x (e,is):=λf hx0=>by
   refine uH (ls:=t.2) x rfl rfl rfl hl (by omega) (by cbv) ?_
   lia
   refine am (by omega) (by omega) λe f he0 he1=>?_
   ac_nf
   lia
   refine sk (is:=[.int 0]) ⟨by simp,by decide,by omega,by omega⟩ ?_
   have er:(DE w.toNat [I.int 0]).flatten=(DE w.toNat (0:Int)).map .int:=by simp
   rw[er]
   lia
   refine⟨(e,DE w.toNat 0),rfl,rfl,by trivial,e,_,f,by cbv,⟨he0,by omega,by simp,λy hy=>?_⟩,.inl ⟨he1,λy hy=>(Fd.mp hy).2⟩⟩
   rw[(Fd.mp hy).2];decide
  lia
  (refine bp ?_;lia;clear_value hx0)
  ·lia
   refine am (by omega) (by omega) λz f hz0 hz1=>?_
   ac_nf
   lia
   clear_value hz
   ·refine WS.mono (hzero f hx0) ?_
    rintro fl ρ ⟨rfl,e,is,f,rfl,hP⟩
    lia
    exact⟨(f,_),by cbv,fin e is f hP⟩
   ·refine WS.mono (hback f) ?_
    rintro fl ρ ⟨rfl,e,is,f,rfl,hP⟩
    lia
    exact⟨(f,_),by cbv,fin e is f hP⟩
  ·refine⟨λz=>absurd z (by decide),λ_=>?_⟩
   refine WS.mono (hback _) ?_
   rintro fl ρ ⟨rfl,e,is,f,rfl,hP⟩
   lia
   exact⟨(f,_),by cbv,fin e is f hP⟩
 ·lia
  exact q s.2 s.1 hL
theorem Looks.mono {P:Nat->Int×List Int->Prop}{c c' m:Nat}{ls:List (List (Int×List Int))}(h:Looks P c m ls)(hc:c<=c'):Looks P c' m ls:=⟨h.1,λx l hx=>⟨Ek (h.2 x l hx).1 hc,(h.2 x l hx).2⟩⟩
noncomputable def tTr (p:Int×Int×List Int):I:=.tup [.int p.1,.int p.2.1,.tup (p.2.2.map .int)]
def C1 (w:Int)(p:Int×Int×List Int):Prop:=0<=p.1/\p.1<w/\0<=p.2.1/\p.2.1<w/\p.2.2.length=w.toNat/\∀x∈p.2.2,-2<=x/\x<=2
theorem oe {row signs:List Int}{way:Int}(h1:1<=row.length)(h2:row.length<=1000)(hw:0<=way)(hs:signs.length=row.length)(hr:∀x∈row,-2<=x/\x<=2)(hg:∀x∈signs,x=1∨x = -1){Q:T->Prop}(q:∀is:List Int,is.length=row.length->(∀x∈is,-2<=x/\x<=2)->(∀(k:Nat) x s,row[(k+way.toNat) % row.length]?=some x->signs[k]?=some s->is[k]?=some (x*s))->Q (nW is)):W1 (cv [nW row,.im (.int way),.li (signs.map .int)]) Q:=by
 refine qL h1 h2 hw hs (λx hx=>by have:=hr x hx;omega) λis hl hi=>q is hl (λy hy=>?_) hi
 obtain⟨k,hk⟩:=Ff.mp hy
 have hkl:=(DB.mp hk).1
 have hm:(k+way.toNat) % row.length<row.length:=FL _ (by omega)
 have e1:row[(k+way.toNat) % row.length]?=some row[(k+way.toNat) % row.length]:=D6 hm
 have e2:signs[k]?=some signs[k]:=D6 (by omega)
 have e3:=hi k _ _ e1 e2
 rw[hk]at e3
 have b1:=hr _ (ymG e1)
 have b2:=hg _ (ymG e2)
 have:y=row[(k+way.toNat) % row.length]*signs[k]:=by simpa using e3
 rw[this]
 rcases b2 with z|z<;>rw[z]<;>omega
theorem yS {f:Int×Int}{w m:Int}(h1:2<=w)(h2:w<=3)(h3:w<=m)(h4:m<=6){Q:T->T->Prop}(q:∀ls f',Looks (λ_ p=>jU w m p) 7 m.toNat ls->Q (.lst (ls.map aC)) (fT f')):W2 (cr [fT f,.im (.int w),.im (.int m)]) Q:=by
 refine runI_ok' [some ⟨.io 0,fT f⟩,some ⟨.ow,.im (.int w)⟩,some ⟨.ow,.im (.int m)⟩,none,none,none,none,none,none,none,none] rfl rfl rfl ?_
 unfold bD
 lia
 refine am (by omega) (by omega) λd1 f a1 b1=>?_
 ac_nf
 lia
 refine am (by omega) (by omega) λd2 f a2 b2=>?_
 ac_nf
 lia
 refine am (by omega) (by omega) λd3 f a3 b3=>?_
 ac_nf
 lia
 refine am (by omega) (by omega) λd4 f a4 b4=>?_
 ac_nf
 lia
 refine bo (by simp;rw[sizeLine_eq];omega) ?_
 refine oO (xS ?_)
 refine WS.mono (Q:=λfl ρ=>fl=.nx/\∃(f:Int×Int) (es:List (Int×Int×List Int)),ρ=[some ⟨.io 0,fT f⟩,some ⟨.ow,.im (.int w)⟩,some ⟨.ow,.im (.int m)⟩,some ⟨.ow,.im (.int (1+d1))⟩,some ⟨.ow,.li (es.map tTr)⟩,none,none,none,none,none,none]/\(∀p∈es,C1 w p)/\es.length<=7) ?_ ?_
 ·lia
  (refine bp ?_;lia;clear_value hw)
  ·subst hw
   lia
   refine am (by omega) (by omega) λd5 f a5 b5=>?_
   ac_nf
   lia
   refine am (by omega) (by omega) λd6 f a6 b6=>?_
   ac_nf
   lia
   refine lr (by simp;rw[sizeLine_eq];omega) ?_
   lia
   refine⟨by trivial,f,[(0,0,[0,0,1+d1]),(1,1,[0,0,0-1]),(0,1,[0,0-1,0]),(1,0,[0,0,d5]),(2,2,[0,1+d6,0]),(0,2,[0-1,0,1]),(2,0,[0,0,0])],by cbv,?_,by simp⟩
   simp only[Ed,Ec,or_false]
   rintro p (rfl|rfl|rfl|rfl|rfl|rfl|rfl)<;>(refine⟨by simp,by simp,by simp,by simp,rfl,?_⟩;simp only[Ed,Ec,or_false];omega)
  ·have hw2:w=2:=by omega
   subst hw2
   lia
   refine⟨by trivial,f,[(0,0,[0,1+d1]),(1,1,[0,0-1-d2]),(0,1,[0-1,d3-1]),(1,0,[0-d4,0])],by cbv,?_,by simp⟩
   simp only[Ed,Ec,or_false]
   rintro p (rfl|rfl|rfl|rfl)<;>(refine⟨by simp,by simp,by simp,by simp,rfl,?_⟩;simp only[Ed,Ec,or_false];omega)
 rintro fl ρ ⟨rfl,f,es,rfl,hes,hel⟩
 lia
 refine am (by omega) (by omega) λway f aw bw=>?_
 ac_nf
 lia
 refine cD (λf:Int×Int=>[some ⟨.io 0,fT f⟩,some ⟨.ow,.im (.int w)⟩,some ⟨.ow,.im (.int m)⟩,some ⟨.ow,.im (.int (1+d1))⟩,some ⟨.ow,.li (es.map tTr)⟩,none,none,none,none,none,none]) I.int (λj _ l=>l.length=j/\∀x∈l,x=1∨x = -1) ?_
 lia
 refine⟨⟨by omega,by omega⟩,by cbv,f,by cbv,⟨rfl,by simp⟩,λj f l hj ⟨hl,hx⟩=>?_,λf signs ⟨hsl,hsx⟩=>?_⟩
 ·lia
  refine am (by omega) (by omega) λd f hd0 hd1=>?_
  ac_nf
  lia
  exact⟨1-2*d,f,rfl,by cbv,by simp[hl],aP hx (by omega)⟩
 lia
 refine jT (λ_:Unit=>[some ⟨.io 0,fT f⟩,some ⟨.ow,.im (.int w)⟩,some ⟨.ow,.im (.int m)⟩,some ⟨.ow,.im (.int (1+d1))⟩,some ⟨.ow,.li (es.map tTr)⟩,some ⟨.ow,.im (.int way)⟩,some ⟨.ow,.li (signs.map .int)⟩,none,none,none,none]) aC eP (λ_ _ l=>∀x∈l,x=[]) ?_
 lia
 refine⟨⟨by omega,by omega⟩,by cbv,(),by cbv,by simp,λj _ l hj hl=>?_,λ_ l hl hn=>?_⟩
 ·lia
  exact⟨[],(),rfl,by cbv,aP hl rfl⟩
 lia
 refine du (λt:List (List (Int×List Int))=>[some ⟨.io 0,fT f⟩,some ⟨.ow,.im (.int w)⟩,some ⟨.ow,.im (.int m)⟩,some ⟨.ow,.im (.int (1+d1))⟩,some ⟨.ow,.li (es.map tTr)⟩,some ⟨.ow,.im (.int way)⟩,some ⟨.ow,.li (signs.map .int)⟩,some ⟨.ow,.lst (t.map aC)⟩,none,none,none]) (λj t=>Looks (λ_ p=>jU w m p) j m.toNat t/\∀y l,3<=y->t[y]?=some l->l=[]) ?_
 lia
 refine⟨_,(show eT _=some ((es.map tTr).map _)from rfl),by cbv,l,by cbv,⟨⟨hn,λx l' hx=>by rw[hl l' (ymG hx)];simp⟩,λy l' _ hx=>hl l' (ymG hx)⟩,λj x t hx ⟨hL,hE⟩=>?_,λt ⟨hL,hE⟩=>?_⟩
 ·rw[DG]at hx
  cases e:es[j]? with
  | none=>rw[e]at hx;cases hx
  | some p=>
   rw[e]at hx;cases hx
   obtain⟨x,o,row⟩:=p
   have hp:=hes _ (ymG e)
   obtain⟨p1,p2,p3,p4,p5,p6⟩:=hp
   simp only at p1 p2 p3 p4 p5 p6
   have hj:=(DB.mp e).1
   obtain⟨l,hl,hl3,hlP⟩:=hL.get (n:=x.toNat) (by omega)
   iterate 9 infer_instance
   refine uH (ls:=t) x.toNat rfl rfl (by omega) hl (by omega) (by cbv) ?_
   lia
   refine oe (row:=row) (signs:=signs) (by omega) (by omega) aw (by omega) p6 hsx λis hil hib _=>?_
   lia
   refine⟨(o,is),rfl,rfl,?_⟩
   lia
   refine⟨t.set x.toNat (l++[(o,is)]),by cbv,(hL.mono (Hj j)).set hl (by simp;omega) (aP hlP ⟨p3,(by omega:o<m),hil.trans p5,hib⟩),λy l' hy hl'=>?_⟩
   rcases dX hl' with⟨z,_⟩|⟨_,hl'⟩
   ·omega
   ·exact hE y l' hy hl'
 ·lia
  refine uG (λs:(Int×Int)×List (List (Int×List Int))=>[some ⟨.io 0,fT s.1⟩,some ⟨.ow,.im (.int w)⟩,some ⟨.ow,.im (.int m)⟩,some ⟨.ow,.im (.int (1+d1))⟩,some ⟨.ow,.li (es.map tTr)⟩,some ⟨.ow,.im (.int way)⟩,some ⟨.ow,.li (signs.map .int)⟩,some ⟨.ow,.lst (s.2.map aC)⟩,none,none,none]) (λj s=>Looks (λ_ p=>jU w m p) 7 m.toNat s.2/\∀y l,3+j<=y->s.2[y]?=some l->l=[]) ?_
  lia
  rw[DH]at hL
  refine⟨⟨by omega,by omega,by omega,by omega⟩,(f,t),by cbv,⟨hL.mono hel,λy l' hy hl'=>hE y l' (by omega) hl'⟩,λj s hj ⟨hL,hE⟩=>?_,λs ⟨hL,_⟩=>?_⟩
  ·obtain⟨l,hl,hl3,hlP⟩:=hL.get (n:=3+j) (by omega)
   have hl0:=hE _ l (DK _) hl
   iterate 2 infer_instance
   refine uH (ls:=s.2) (3+j) rfl rfl (by omega) hl (by omega) (by cbv) ?_
   lia
   refine am (by omega) (by omega) λe f he0 he1=>?_
   ac_nf
   lia
   refine ui (by omega) h2 λis f hil hib=>?_
   ac_nf
   lia
   refine⟨(e,is),rfl,rfl,?_⟩
   lia
   refine⟨(f,s.2.set (3+j) (l++[(e,is)])),by cbv,hL.set hl (by simp[hl0]) (aP hlP ⟨he0,(by omega:e<m),hil,hib⟩),λy l' hy hl'=>?_⟩
   rcases dX hl' with⟨z,_⟩|⟨_,hl'⟩
   ·omega
   ·exact hE y l' (by omega) hl'
  ·lia
   exact q s.2 s.1 hL
theorem qr {ls:List (List (Int×List Int))}{n:Nat}{l:List (Int×List Int)}{p:Int×List Int}(h:ls[n]?=some l):T.put (.lst (ls.map aC)) [.ix n] (.li (tRd p::l.map tRd))=.lst ((ls.set n (p::l)).map aC):=by
 rw[tm (u:=aC l) (by rw[DG,h];rfl),F8]
 simp[aC]
theorem CV {ρ:Rho}{Q:Fl->Rho->Prop}{L X:Nat}{args:MA}{ls:List (List (Int×List Int))}{i:Int}(n:Nat){l:List (Int×List Int)}(hL : ρ[L]?=some (some ⟨.ow,.lst (ls.map aC)⟩))(hX : ρ[X]?=some (some ⟨.ow,.im (.int i)⟩))(hi:i=(n:Int))(hl:ls[n]?=some l)(hz:l.length<1000)(hm:args.mu.contains L=false)
  (ha:WA args ρ λrs ρ1=>∃p,rs=[⟨.ow,.im (.int 0)⟩,⟨.ow,.im (tRd p)⟩]/\ρ1[L]?=some (some ⟨.ow,.lst (ls.map aC)⟩)/\Q .nx ((aq [L] ρ1).set L (some ⟨.ow,.lst ((ls.set n (p::l)).map aC)⟩))):WS (be (bT L [] lj (mIx (ah L) (ah X)) args)) ρ Q:=by
 subst hi
 refine og (uI (AB (mW hL (mW hX (gu (by cbv) ?_)))))
 have hl':(ls.map aC)[(n:Int).toNat]?=some (aC l):=by rw[D7,DG,hl];rfl
 refine nK (u:=aC l) (kd:=.vw (some L) (some [.ix (n:Int).toNat])) (by omega) hl' (eP l) rfl ?_
 rw[D7]
 refine WA.mono ha λrs ρ1 ⟨p,e,hL',q⟩=>?_
 subst e
 refine gu ?_ (oj rfl (oz (oz (nj (xY hL' rfl ?_)))))
 ·show cX args.mu ⟨.vw (some L) (some [.ix n]),aC l⟩=true
  unfold cX
  simp only[Kd.root]
  rw[hm];rfl
 ·refine xw (is:=l.map tRd) ⟨by omega,by simp,by simp;rw[sizeLine_eq];omega⟩ ?_
  show Q _ (List.set _ _ (some ⟨_,T.put _ _ (.li (tRd p::l.map tRd))⟩))
  rw[qr hl]
  exact q
def RR (rest row:List Int):Prop:=row.length=rest.length/\∀(i:Nat) y r,row[i]?=some y->rest[i]?=some r->-2<=y/\y<=2/\-2<=r+y/\r+y<=2
theorem wP {f:Int×Int}{w m:Int}(h1:1<=w)(h2:w<=3)(h3:1<=m)(h4:m<=6){Q:T->T->Prop}(q:∀ls f',Looks (λ_ p=>jU w m p) 4 m.toNat ls->Q (.lst (ls.map aC)) (fT f')):W2 (dI [fT f,.im (.int w),.im (.int m)]) Q:=by
 refine runI_ok' [some ⟨.io 0,fT f⟩,some ⟨.ow,.im (.int w)⟩,some ⟨.ow,.im (.int m)⟩,none,none,none,none,none] rfl rfl rfl ?_
 unfold cf
 lia
 refine oV h1 h2 h3 h4 λls f hLs=>?_
 ac_nf
 lia
 refine am (by omega) (by omega) λd f hd0 hd1=>?_
 ac_nf
 lia
 refine sj (is:=[.int 0]) ⟨by omega,by omega,by simp;rw[sizeLine_eq];omega⟩ ?_
 have er:(DE w.toNat [I.int 0]).flatten=(DE w.toNat (0:Int)).map .int:=by simp
 rw[er]
 lia
 refine bO (λs:(Int×Int)×List (List (Int×List Int))×List Int=>[some ⟨.io 0,fT s.1⟩,some ⟨.ow,.im (.int w)⟩,some ⟨.ow,.im (.int m)⟩,some ⟨.ow,.lst (s.2.1.map aC)⟩,some ⟨.ow,.im (.int (1+d))⟩,some ⟨.ow,.li (s.2.2.map .int)⟩,none,none]) (λj s=>Looks (λ_ p=>jU w m p) 4 m.toNat s.2.1/\(∀y l,j<=y->s.2.1[y]?=some l->l.length<=3)/\s.2.2.length=w.toNat/\∀x∈s.2.2,-2<=x/\x<=2) ?_
 lia
 refine⟨⟨by omega,by omega⟩,(f,ls,DE w.toNat 0),by cbv,⟨⟨hLs.1,λx l hx=>⟨by have:=(hLs.2 x l hx).1;omega,λp hp=>((hLs.2 x l hx).2 p hp).1⟩⟩,λy l _ hx=>(hLs.2 y l hx).1,by simp,λx hx=>by rw[(Fd.mp hx).2];decide⟩,λk s hk ⟨hL,hE,hrl,hrb⟩=>?_,λs ⟨hL,_⟩=>?_⟩
 ·obtain⟨f,ls,rest⟩:=s
  simp only at hL hE hrl hrb
  obtain⟨l,hl,hl4,hlP⟩:=hL.get (n:=k) (by omega)
  have hl3:=hE k l (DK _) hl
  lia
  refine cD (λf:Int×Int=>[some ⟨.io 0,fT f⟩,some ⟨.ow,.im (.int w)⟩,some ⟨.ow,.im (.int m)⟩,some ⟨.ow,.lst (ls.map aC)⟩,some ⟨.ow,.im (.int (1+d))⟩,some ⟨.ow,.li (rest.map .int)⟩,some ⟨.ow,.im (.int k)⟩,none]) I.int (λj _ l=>l.length=j/\∀x∈l,-1<=x/\x<=1) ?_
  lia
  refine⟨⟨by omega,by omega⟩,by cbv,f,by cbv,⟨rfl,by simp⟩,λj f l hj ⟨hl,hx⟩=>?_,λf r1 ⟨hl1,hx1⟩=>?_⟩
  ·lia
   refine am (by omega) (by omega) λd f hd0 hd1=>?_
   ac_nf
   lia
   exact⟨d-1,f,rfl,by cbv,by simp[hl],aP hx (by omega)⟩
  lia
  refine cD (λ_:Unit=>[some ⟨.io 0,fT f⟩,some ⟨.ow,.im (.int w)⟩,some ⟨.ow,.im (.int m)⟩,some ⟨.ow,.lst (ls.map aC)⟩,some ⟨.ow,.im (.int (1+d))⟩,some ⟨.ow,.li (rest.map .int)⟩,some ⟨.ow,.im (.int k)⟩,some ⟨.ow,.li (r1.map .int)⟩]) I.int (λj _ l=>l.length=j/\∀(i:Nat) y r,l[i]?=some y->rest[i]?=some r->-2<=y/\y<=2/\-2<=r+y/\r+y<=2) ?_
  lia
  refine⟨⟨by omega,by omega⟩,by cbv,(),by cbv,⟨rfl,by simp⟩,λj _ l hj ⟨hl,hx⟩=>?_,λ_ r2 ⟨hl2,hx2⟩=>?_⟩
  ·lia
   refine aY (ns:=rest) (by omega) (by omega) λr hr er=>?_
   lia
   refine aY (ns:=r1) (by omega) (by omega) λy hy ey=>?_
   lia
   refine aY (ns:=rest) (by omega) (by omega) λr' hr' er'=>?_
   rw[er]at er'
   cases er'
   lia
   have b1:=hrb r hr
   have b2:=hx1 y hy
   refine⟨_,(),rfl,by cbv,by simp[hl],λi y' r' hy' hr'=>?_⟩
   by_cases hij:i<l.length
   ·rw[Em hij]at hy'
    exact hx i y' r' hy' hr'
   ·have:=(DB.mp hy').1
    simp at this
    have hie:i=j:=by omega
    subst hie
    rw[EF (by omega)]at hy'
    simp[hl]at hy'
    rw[D7]at er
    rw[er]at hr'
    cases hr'
    subst hy'
    split<;>split<;>omega
  lia
  refine WS.mono (Q:=λfl ρ=>fl=.nx/\∃r3:List Int,ρ=[some ⟨.io 0,fT f⟩,some ⟨.ow,.im (.int w)⟩,some ⟨.ow,.im (.int m)⟩,some ⟨.ow,.lst (ls.map aC)⟩,some ⟨.ow,.im (.int (1+d))⟩,some ⟨.ow,.li (rest.map .int)⟩,some ⟨.ow,.im (.int k)⟩,some ⟨.ow,.li (List.map .int r3)⟩]/\RR rest r3) ?_ ?_
  ·(refine bp ?_;lia;clear_value hlast)
   ·lia
    refine dL (λ_:Unit=>[some ⟨.io 0,fT f⟩,some ⟨.ow,.im (.int w)⟩,some ⟨.ow,.im (.int m)⟩,some ⟨.ow,.lst (ls.map aC)⟩,some ⟨.ow,.im (.int (1+d))⟩,some ⟨.ow,.li (rest.map .int)⟩,some ⟨.ow,.im (.int k)⟩,some ⟨.ow,.li (r2.map .int)⟩]) I.int (λj _ l=>l.length=j/\∀(i:Nat) y r,l[i]?=some y->rest[i]?=some r->y = -r) ?_
    lia
    refine⟨rest.map .int,rfl,by simp;rw[sizeLine_eq];omega,by cbv,(),by cbv,⟨rfl,by simp⟩,λj x _ l hx ⟨hl,hq⟩=>?_,λ_ r3 ⟨hl3',hq3⟩=>?_⟩
    ·rw[DG]at hx
     cases e:rest[j]? with
     | none=>rw[e]at hx;cases hx
     | some r=>
      rw[e]at hx;cases hx
      lia
      refine⟨0-r,(),rfl,by cbv,by simp[hl],λi y' r' hy' hr'=>?_⟩
      by_cases hij:i<l.length
      ·rw[Em hij]at hy'
       exact hq i y' r' hy' hr'
      ·have:=(DB.mp hy').1
       simp at this
       have hie:i=j:=by omega
       subst hie
       rw[EF (by omega)]at hy'
       simp[hl]at hy'
       rw[e]at hr'
       cases hr'
       omega
    ·lia
     refine⟨by trivial,r3,by cbv,by simpa using hl3',λi y r hy hr=>?_⟩
     have:=hq3 i y r hy hr
     have:=hrb r (ymG hr)
     omega
   ·lia
    exact⟨by trivial,r2,by cbv,by omega,hx2⟩
  ·rintro fl ρ ⟨rfl,r3,rfl,hr3l,hr3⟩
   lia
   refine cD (λ_:Unit=>[some ⟨.io 0,fT f⟩,some ⟨.ow,.im (.int w)⟩,some ⟨.ow,.im (.int m)⟩,some ⟨.ow,.lst (ls.map aC)⟩,some ⟨.ow,.im (.int (1+d))⟩,some ⟨.ow,.li (rest.map .int)⟩,some ⟨.ow,.im (.int k)⟩,some ⟨.ow,.li (r3.map .int)⟩]) I.int (λj _ l=>l.length=j/\∀x∈l,-2<=x/\x<=2) ?_
   lia
   refine⟨⟨by omega,by omega⟩,by cbv,(),by cbv,⟨rfl,by simp⟩,λj _ l hj ⟨hl,hx⟩=>?_,λ_ r4 ⟨hl4,hx4⟩=>?_⟩
   ·lia
    refine aY (ns:=rest) (by omega) (by omega) λr hr er=>?_
    lia
    refine aY (ns:=r3) (by omega) (by omega) λy hy ey=>?_
    lia
    have:=hr3 _ y r ey er
    exact⟨r+y,(),rfl,by cbv,by simp[hl],aP hx (by omega)⟩
   iterate 2 infer_instance
   refine CV (ls:=ls) k rfl rfl rfl hl (by omega) (by cbv) ?_
   lia
   have hkm:((k:Int)+1) % (1+d)<m:=by have:=Ex ((k:Int)+1) (show 0<1+d by omega);omega
   have hk0:0<=((k:Int)+1) % (1+d):=ER _ (by omega)
   refine⟨(((k:Int)+1) % (1+d),r3),rfl,rfl,?_⟩
   lia
   refine⟨(f,ls.set k ((((k:Int)+1) % (1+d),r3)::l),r4),by cbv,hL.set hl (by simp;omega) (λp hp=>?_),λy l' hy hl'=>?_,by omega,hx4⟩
   ·rcases ycM hp with rfl|hp
    ·refine⟨hk0,hkm,by simpa[hrl]using hr3l,λx hx=>?_⟩
     obtain⟨i,hi⟩:=Ff.mp hx
     have hil:=(DB.mp hi).1
     have:i<rest.length:=by simp only at hil;omega
     have:=hr3 i x _ hi (D6 this)
     omega
    ·exact hlP p hp
   ·rcases dX hl' with⟨z,_⟩|⟨_,hl'⟩
    ·omega
    ·exact hE y l' (by omega) hl'
 ·lia
  exact q s.2.1 s.1 hL
theorem Looks.imp {P P':Nat->Int×List Int->Prop}{c c' m:Nat}{ls:List (List (Int×List Int))}(h:Looks P c m ls)(hc:c<=c')(hp:∀x p,P x p->P' x p):Looks P' c' m ls:=⟨h.1,λx l hx=>⟨Ek (h.2 x l hx).1 hc,λp hm=>hp x p ((h.2 x l hx).2 p hm)⟩⟩
theorem tM {f:Int×Int}{Q:T->T->Prop}(q:∀(w m:Int) ls f',1<=w->w<=3->1<=m->m<=6->Looks (λ_ p=>jU w m p) 7 m.toNat ls->Q (.tup [.im (.int w),.lst (ls.map aC)]) (fT f')):W2 (iE [fT f]) Q:=by
 refine runI_ok' [some ⟨.io 0,fT f⟩,none,none,none,none] rfl rfl rfl ?_
 unfold f8
 lia
 refine am (by omega) (by omega) λform f hf0 hf1=>?_
 ac_nf
 lia
 refine am (by omega) (by omega) λwide f hw0 hw1=>?_
 ac_nf
 lia
 try ac_nf
 refine aY (ns:=[1,2,2,2,2,1,2,3]) (ER _ (by omega)) (by have:=Ex wide (show(0:Int)<8 by omega);simpa using this) λw hw _=>?_
 have hw13:1<=w/\w<=3:=by simp at hw;omega
 lia
 refine aY (ns:=[3,6]) (by omega) (by simp;omega) λmm hmm _=>?_
 have hmm':3<=mm/\mm<=6:=by simp at hmm;omega
 lia
 refine am (by omega) (by omega) λd f hd0 hd1=>?_
 ac_nf
 lia
 (refine bp ?_;lia;clear_value h1)
 ·lia
  refine uW hw13.1 hw13.2 (by omega) (by omega) λls f hL=>?_
  ac_nf
  lia
  exact q w (1+d) ls f hw13.1 hw13.2 (by omega) (by omega) (hL.mono (by omega))
 lia
 (refine bp ?_;lia;clear_value h2)
 ·lia
  refine oV hw13.1 hw13.2 (by omega) (by omega) λls f hL=>?_
  ac_nf
  lia
  exact q w (1+d) ls f hw13.1 hw13.2 (by omega) (by omega) (hL.imp (by omega) λx p hp=>hp.1)
 lia
 (refine bp ?_;lia;clear_value h3)
 ·lia
  refine wP hw13.1 hw13.2 (by omega) (by omega) λls f hL=>?_
  ac_nf
  lia
  exact q w (1+d) ls f hw13.1 hw13.2 (by omega) (by omega) (hL.mono (by omega))
 lia
 try ac_nf
 refine yS (by split<;>omega) (by split<;>omega) (by split<;>split<;>split<;>omega) (by split<;>split<;>split<;>omega) λls f hL=>?_
 ac_nf
 lia
 exact q _ _ ls f (by split<;>omega) (by split<;>omega) (by split<;>split<;>split<;>omega) (by split<;>split<;>split<;>omega) hL
noncomputable def fiveS:List Str:=["min","max","rest","less","if"]
noncomputable def nmB (S:List Nat) (a:Nat) (ch k:Nat):List Nat:=S.take a++ch::S.drop a++(if k % 2=1 then [113]else [])
noncomputable def nmS (S:List Nat) (a:Nat) (ch k:Nat):Str:=if oL (nmB S a ch k)∈fiveS then oL (nmB S a ch k++[119])else oL (nmB S a ch k)
theorem Dp:113∈sL LET:=by decide +kernel
theorem Dx:119∈sL LET:=by decide +kernel
theorem uP:∀i<26,∀j<26,(sL LET).getD i 0=(sL LET).getD j 0->i=j:=by decide +kernel
theorem yh:∀z∈fiveS,oL (sL z++[119])∉fiveS:=by decide +kernel
theorem dR {S:List Nat}{a ch k:Nat}:(nmB S a ch k).length=S.length+1+k % 2:=by
 unfold nmB
 have h:k % 2=0∨k % 2=1:=by omega
 rw[DS,DS,DQ,D3,Ey]
 rcases h with h|h<;>simp[h]<;>omega
theorem yC {S:List Nat}{a ch k:Nat}(hS:∀c∈S,c∈sL LET)(hc:ch∈sL LET):∀c∈nmB S a ch k,c∈sL LET:=λc h=>by
 unfold nmB at h
 rcases yaM h with h|h
 ·rcases yaM h with h|h
  ·exact hS c (Ep h)
  ·rcases ycM h with rfl|h
   ·exact hc
   ·exact hS c (E5 h)
 ·split at h
  ·rw[ysM h];exact Dp
  ·cases h
theorem oX {S:List Nat}{a ch ch' k k':Nat}(h:nmB S a ch k=nmB S a ch' k'):ch=ch'/\k % 2=k' % 2:=by
 have hl:=congrArg EO h
 rw[dR,dR]at hl
 have hk:k % 2=k' % 2:=by omega
 refine⟨?_,hk⟩
 unfold nmB at h
 rw[hk]at h
 have h2:=FS h
 have h3:=List.append_cancel_left h2
 exact(E3.inj h3).1
theorem mq {S:List Nat}{a ch k:Nat}(hk:k % 2=1):(nmB S a ch k).getLast?=some 113:=by
 unfold nmB
 rw[if_pos hk,Fz]
 rfl
theorem jI {x y:List Nat}(h:oL x=oL y):x=y:=congrArg sL h
theorem vo {S:List Nat}{a ch ch' k k':Nat}(h:nmS S a ch k=nmS S a ch' k'):ch=ch'/\k % 2=k' % 2:=by
 unfold nmS at h
 split at h<;>split at h
 ·exact oX (FS (jI h))
 ·have h':=jI h
  have hl:=congrArg EO h'
  rw[DS,dR,dR]at hl
  have hk:k' % 2=1:=by simp at hl;omega
  have:=mq (S:=S) (a:=a) (ch:=ch') hk
  rw[←h',Fz]at this
  cases this
 ·have h':=jI h
  have hl:=congrArg EO h'
  rw[DS,dR,dR]at hl
  have hk:k % 2=1:=by simp at hl;omega
  have:=mq (S:=S) (a:=a) (ch:=ch) hk
  rw[h',Fz]at this
  cases this
 ·exact oX (jI h)
def jb (z:Str):Prop:=1<=z.length/\z.length<=8/\z∉fiveS/\∀c∈sL z,c∈sL LET
theorem yD {S:List Nat}{a ch k:Nat}(hS:∀c∈S,c∈sL LET)(hc:ch∈sL LET)(hl:S.length<=5):jb (nmS S a ch k):=by
 have hb:=yC (a:=a) (k:=k) hS hc
 have hlen:=dR (S:=S) (a:=a) (ch:=ch) (k:=k)
 unfold jb nmS
 split
 ·rename_i c
  have h1:(oL (nmB S a ch k++[119])).length=S.length+1+k % 2+1:=by rw[cT,cE,DS,hlen];rfl
  refine⟨by omega,by omega,yh _ c,λx hx=>?_⟩
  rw[cE]at hx
  rcases yaM hx with h|h
  ·exact hb x h
  ·rw[ysM h];exact Dx
 ·rename_i c
  have h1:(oL (nmB S a ch k)).length=S.length+1+k % 2:=by rw[cT,cE,hlen]
  exact⟨by omega,by omega,c,λx hx=>hb x (by rwa [cE]at hx)⟩
theorem rl {α:Type}{xs:List α}{n:Nat}(h:n<=xs.length):cQ xs none (some (n:Int))=xs.take n:=by
 unfold cQ
 rw[HT.sIx_none,HT.sIx_nat,Ge h]
 simp
theorem rk {α:Type}{xs:List α}{n:Nat}(h:n<=xs.length):cQ xs (some (n:Int)) none=xs.drop n:=by
 unfold cQ
 rw[HT.sIx_none,HT.sIx_nat,Ge h]
 exact DT (by rw[Ey];exact DK _)
theorem kL:∀{zs:List Str},mR (zs.map I.str)=some zs
 | []=>rfl
 | z::zs=>by rw[DJ,mR,kL];rfl
theorem yZ {z:Str}{zs:List Str}{QT1:T->Prop}(h:(zs.map (·.length)).sum+zs.length*z.length<=16777216)(q:QT1 (.im (.str (Txt.join z zs)))):W1 (jy (.im (.str z)) [.li (zs.map .str)]) QT1:=w1 (by simp only[jy,kL];rw[if_pos h]) q
theorem nH {β:Type}{g:Nat->β}{n:Nat}(hf:∀x<n,∀y<n,g x=g y->x=y):((Ee n).map g).Nodup:=iw List.nodup_range λx hx y hy e=>hf x (EN.mp hx) y (EN.mp hy) e
noncomputable def fK (S:List Nat) (a fn m:Nat):List Str:=(Ee m).map λk=>nmS S a ((sL LET).getD ((fn+5*k) % 26) 0) k
theorem oo {i:Nat}(h:i<26):(sL LET)[i]?=some ((sL LET).getD i 0):=by
 rw[D4,D6 (by rw[kS];exact h)];rfl
theorem rZ {S:List Nat}{a fn m:Nat}(hS:∀c∈S,c∈sL LET)(hl:S.length<=5)(hm:m<=6):(fK S a fn m).length=m/\(fK S a fn m).Nodup/\∀z∈fK S a fn m,jb z:=by
 refine⟨by simp[fK],nH λx hx y hy e=>?_,λz hz=>?_⟩
 ·have:=uP _ (FL _ (by decide)) _ (FL _ (by decide)) (vo e).1
  omega
 ·obtain⟨k,hk,rfl⟩:=DM.mp hz
  exact yD hS (ymG (oo (FL _ (by decide)))) hl
theorem mn {f:Int×Int}{m:Int}(h1:0<=m)(h2:m<=6){Q:T->T->Prop}(q:∀(zs:List Str) f',zs.length=m.toNat->zs.Nodup->(∀z∈zs,jb z)->Q (.li (zs.map .str)) (fT f')):W2 (ge [fT f,.im (.int m)]) Q:=by
 refine runI_ok' [some ⟨.io 0,fT f⟩,some ⟨.ow,.im (.int m)⟩,none,none,none,none,none,none,none] rfl rfl rfl ?_
 unfold f6
 lia
 refine cD (λf:Int×Int=>[some ⟨.io 0,fT f⟩,some ⟨.ow,.im (.int m)⟩,some ⟨.ow,.im (.str LET)⟩,none,none,none,none,none,none]) I.str (λj _ l=>l.length=j/\∀z∈l,∃ch,ch∈sL LET/\z=⟨#[ch]⟩) ?_
 lia
 refine am (by omega) (by omega) λd f hd0 hd1=>?_
 ac_nf
 lia
 refine⟨⟨by omega,by omega⟩,by cbv,f,by cbv,⟨rfl,by simp⟩,λj f l hj ⟨hl,hx⟩=>?_,λf zs ⟨hl,hx⟩=>?_⟩
 ·lia
  refine am (by omega) (by omega) λd f hd0 hd1=>?_
  ac_nf
  lia
  refine nL (s:=LET) (by rw[LET_len',sizeLine_eq];omega) hd0 (by rw[kS];exact hd1) λc hc=>?_
  exact⟨⟨#[c]⟩,f,rfl,by cbv,by simp[hl],aP hx ⟨c,ymG hc,rfl⟩⟩
 lia
 have sum1:∀zs:List Str,(∀z∈zs,∃ch,ch∈sL LET/\z=⟨#[ch]⟩)->(zs.map (·.length)).sum=zs.length:=λzs h=>by
  induction zs with
  | nil=>rfl
  | cons z zs ih=>
   obtain⟨ch,_,e⟩:=h z ymS
   rw[DJ,List.sum_cons,ih λy hy=>h y (ymC _ hy),DQ,e]
   show 1+zs.length=_
   omega
 have e0:("" : Str)=oL []:=by decide +kernel
 have e1:(("" : Str)).length=0:=by decide +kernel
 refine yZ (zs:=zs) (by rw[sum1 zs hx,e1];omega) ?_
 have hst:sL (Txt.join "" zs)=(zs.map sL).flatten:=by rw[e0];exact pI zs
 have hSl:(sL (Txt.join "" zs)).length<=5:=by
  rw[hst,List.length_flatten,Eg]
  have:(zs.map (EO∘sL)).sum=zs.length:=by rw[←sum1 zs hx];congr 1
  omega
 have hS:∀c∈sL (Txt.join "" zs),c∈sL LET:=λc hc=>by
  rw[hst]at hc
  obtain⟨l,hl',hc⟩:=GO.mp hc
  obtain⟨z,hz,rfl⟩:=DM.mp hl'
  obtain⟨ch,hch,rfl⟩:=hx z hz
  have:c=ch:=by simpa using hc
  rw[this];exact hch
 generalize Txt.join "" zs=stem at *
 have hst5:stem.length<=5:=by rw[cT];exact hSl
 have hlc:∀l:List Nat,(oL l).length=l.length:=λl=>by rw[cT,cE]
 lia
 refine am (by omega) (by omega) λfi f hf0 hf1=>?_
 ac_nf
 lia
 refine y3 (by rw[sizeLine_eq];omega) ?_
 lia
 refine am (by omega) (by omega) λat0 f ha0 ha1=>?_
 ac_nf
 lia
 obtain⟨a,rfl⟩:∃a:Nat,at0=(a:Int):=⟨at0.toNat,by omega⟩
 obtain⟨fn,rfl⟩:∃a:Nat,fi=(a:Int):=⟨fi.toNat,by omega⟩
 have ha5:a<=(sL stem).length:=by rw[←cT];omega
 try ac_nf
 lia
 refine bO (λk:Nat=>[some ⟨.io 0,fT f⟩,some ⟨.ow,.im (.int m)⟩,some ⟨.ow,.im (.str LET)⟩,some ⟨.ow,.im (.str stem)⟩,some ⟨.ow,.im (.int fn)⟩,some ⟨.ow,.im (.int a)⟩,some ⟨.ow,.li ((fK (sL stem) a fn k).map .str)⟩,none,none]) (λj k=>k=j) ?_
 lia
 refine⟨⟨by omega,by omega⟩,0,by cbv,rfl,λi k hi hk=>?_,λk hk=>?_⟩
 ·subst hk
  have hidx:((fn:Int)+5*(k:Int)) % 26=(((fn+5*k) % 26:Nat):Int):=by omega
  have hilt:(fn+5*k) % 26<26:=FL _ (by decide)
  have hche:=oo hilt
  have hne:fK (sL stem) a fn (k+1)=fK (sL stem) a fn k++[nmS (sL stem) a ((sL LET).getD ((fn+5*k) % 26) 0) k]:=by simp[fK,GV]
  generalize (sL LET).getD ((fn+5*k) % 26) 0=ch at hche hne
  lia
  refine sr (by rw[sizeLine_eq];omega) ?_
  rw[rl ha5]
  lia
  rw[hidx]
  refine nL (s:=LET) (by rw[LET_len',sizeLine_eq];omega) (by omega) (by rw[kS];omega) λc hc=>?_
  rw[D7,hche]at hc
  cases hc
  lia
  refine jK (by rw[hlc,D3,sizeLine_eq];show _+1<=_;omega) ?_
  lia
  refine sr (by rw[sizeLine_eq];omega) ?_
  rw[rk ha5]
  lia
  refine jK (by rw[cT,jR,cE,hlc,sizeLine_eq,DS,D3,Ey];show _+1+_<=_;omega) ?_
  have en:(oL ((sL stem).take a)++(⟨#[ch]⟩:Str))++oL ((sL stem).drop a)=oL ((sL stem).take a++ch::(sL stem).drop a):=by
   apply lK
   rw[jR,jR,cE,cE,cE]
   simp
  rw[en]
  lia
  refine WS.mono (Q:=λfl ρ=>fl=.nx/\ρ=[some ⟨.io 0,fT f⟩,some ⟨.ow,.im (.int m)⟩,some ⟨.ow,.im (.str LET)⟩,some ⟨.ow,.im (.str stem)⟩,some ⟨.ow,.im (.int fn)⟩,some ⟨.ow,.im (.int a)⟩,some ⟨.ow,.li ((fK (sL stem) a fn k).map .str)⟩,some ⟨.ow,.im (.int k)⟩,some ⟨.ow,.im (.str (oL (nmB (sL stem) a ch k)))⟩]) ?_ ?_
  ·(refine bp ?_;lia;clear_value hk2)
   ·lia
    refine jK (by rw[hlc,DS,DQ,D3,Ey,sizeLine_eq];show _+1<=_;omega) ?_
    have eq:oL ((sL stem).take a++ch::(sL stem).drop a)++("q" : Str)=oL (nmB (sL stem) a ch k):=by
     apply lK
     rw[jR,cE,cE]
     unfold nmB
     rw[if_pos (by omega)]
     rfl
    rw[eq]
    lia
    exact⟨by trivial,by first|trivial|cbv⟩
   ·lia
    have eq:(sL stem).take a++ch::(sL stem).drop a=nmB (sL stem) a ch k:=by
     unfold nmB
     rw[if_neg (by omega)]
     simp
    rw[eq]
    exact⟨by trivial,by first|trivial|cbv⟩
  rintro fl ρ ⟨rfl,rfl⟩
  have hnl:(oL (nmB (sL stem) a ch k)).length<=7:=by rw[hlc,dR];omega
  lia
  refine WS.mono (Q:=λfl ρ=>fl=.nx/\ρ=[some ⟨.io 0,fT f⟩,some ⟨.ow,.im (.int m)⟩,some ⟨.ow,.im (.str LET)⟩,some ⟨.ow,.im (.str stem)⟩,some ⟨.ow,.im (.int fn)⟩,some ⟨.ow,.im (.int a)⟩,some ⟨.ow,.li ((fK (sL stem) a fn k).map .str)⟩,some ⟨.ow,.im (.int k)⟩,some ⟨.ow,.im (.str (nmS (sL stem) a ch k))⟩]) ?_ ?_
  ·refine bp ?_
   lia
   refine Bz (is:=fiveS.map .str) ⟨rfl,by decide +kernel,by decide +kernel⟩ ?_
   lia
   clear_value hw
   ·have hw':oL (nmB (sL stem) a ch k)∈fiveS:=by simpa using hw
    lia
    have hw1:(("w" : Str)).length=1:=by decide +kernel
    refine jK (by rw[sizeLine_eq];omega) ?_
    have eq:oL (nmB (sL stem) a ch k)++("w" : Str)=nmS (sL stem) a ch k:=by
     unfold nmS
     rw[if_pos hw']
     apply lK
     rw[jR,cE,cE]
     rfl
    rw[eq]
    lia
    exact⟨by trivial,by first|trivial|cbv⟩
   ·have hw':oL (nmB (sL stem) a ch k)∉fiveS:=by simpa using hw
    have eq:oL (nmB (sL stem) a ch k)=nmS (sL stem) a ch k:=by unfold nmS;rw[if_neg hw']
    rw[eq]
    lia
    exact⟨by trivial,by first|trivial|cbv⟩
  rintro fl ρ ⟨rfl,rfl⟩
  lia
  refine bo (by simp[fK];rw[sizeLine_eq];omega) ?_
  ac_nf
  lia
  refine⟨k+1,?_,rfl⟩
  rw[hne,DP]
  cbv
 ·subst hk
  lia
  obtain⟨n1,n2,n3⟩:=rZ (S:=sL stem) (a:=a) (fn:=fn) (m:=m.toNat) hS hSl (by omega)
  exact q _ f n1 n2 n3
noncomputable def bF (p:Str×Ru):I:=.tup [.str p.1,tRu p.2]
noncomputable def aH (w wh:Int) (ds:List (Str×Ru)):I:=.tup [.int w,.int wh,.tup (ds.map bF)]
def ll:Ru->Prop
 | .num _=>True
 | .rd _ _=>True
 | _=>False
theorem pU {r:Ru}(h:ll r):r.leaves=[r]:=by cases r<;>first|rfl|cases h
theorem kr:∀{rs:List Ru},(∀r∈rs,ll r)->rs.flatMap Ru.leaves=rs
 | [],_=>rfl
 | r::rs,h=>by rw[DL,pU (h r ymS),kr λx hx=>h x (ymC _ hx)];rfl
def LeafOk (ns:List Str)(w:Int):Ru->Prop
 | .num n=>0<=n/\n<=1000000000
 | .rd x row=>x∈ns/\row.length=w.toNat
 | _=>False
theorem LeafOk.leaf {ns:List Str}{w:Int}{r:Ru}(h:LeafOk ns w r):ll r:=by cases r<;>first|trivial|cases h
theorem ve {r:Ru}(h:ll r):r.ok:=by cases r<;>first|trivial|cases h
def Cov (n:Nat)(rs:List Ru):Prop:=∃L:List (Str×List Int),L.length<=n/\∀x row,Ru.rd x row∈rs->(x,row)∈L
def qT (c:Nat)(ns:List Str)(w:Int)(n:Nat)(r:Ru):Prop:=r.ok/\r.leaves.length<=c/\(∀l∈r.leaves,LeafOk ns w l)/\Cov n r.leaves
def HouseOk (c:Nat)(w wh:Int)(ds:List (Str×Ru)):Prop:=1<=w/\w<=3/\2<=wh/\wh<=1000000000/\1<=ds.length/\ds.length<=6/\(ds.map (·.1)).Nodup/\(∀z∈ds.map (·.1),jb z)/\∃n,n*ds.length<=16/\∀p∈ds,qT c (ds.map (·.1)) w n p.2
theorem lC:∀{l:List (Str×List Int)},I.doks (l.map λp=>tRu (.rd p.1 p.2))=true/\I.deps (l.map λp=>tRu (.rd p.1 p.2))<=50
 | []=>⟨rfl,by decide⟩
 | p::l=>by
  have ih:=lC (l:=l)
  have hi:∀row:List Int,I.doks (row.map I.int)=true/\I.deps (row.map I.int)=0:=λrow=>by
   induction row with
   | nil=>exact⟨rfl,rfl⟩
   | cons x row ih=>exact⟨by rw[DJ,I.doks,ih.1];rfl,by rw[DJ,I.deps,ih.2];rfl⟩
  refine⟨?_,?_⟩
  ·rw[DJ,I.doks,ih.1]
   simp only[tRu,I.dok,I.doks,(hi p.2).1]
   rfl
  ·rw[DJ,I.deps]
   have h1:I.dep (tRu (.rd p.1 p.2))<=50:=by simp only[tRu,I.dep,I.deps,(hi p.2).2];decide
   have:=ih.2
   omega
theorem ie {α:Type}{xs:List α}{v:Int}(h:0<=v):cQ xs none (some v)=xs.take v.toNat:=by
 obtain⟨n,rfl⟩:∃n:Nat,v=n:=⟨v.toNat,by omega⟩
 unfold cQ
 rw[HT.sIx_none,HT.sIx_nat,D7,G3,Nat.sub_zero]
 rcases Nat.le_total n xs.length with h|h
 ·rw[Ge h]
 ·rw[Nat.min_eq_right h,DT h,DT (DK _)]
theorem rH {f:Int×Int}{Q:T->T->Prop}(q:∀w wh ds f',HouseOk 10 w wh ds->Q (.im (aH w wh ds)) (fT f')):W2 (iD [fT f]) Q:=by
 refine runI_ok' [some ⟨.io 0,fT f⟩,none,none,none,none,none,none,none,none,none] rfl rfl rfl ?_
 unfold fZ
 lia
 refine tM λw m ls f hw1 hw2 hm1 hm2 hL=>?_
 ac_nf
 lia
 refine am (by omega) (by omega) λd1 f a1 b1=>?_
 ac_nf
 lia
 refine am (by omega) (by omega) λd2 f a2 b2=>?_
 ac_nf
 lia
 refine am (by omega) (by omega) λd3 f a3 b3=>?_
 ac_nf
 lia
 refine am (by omega) (by omega) λd4 f a4 b4=>?_
 ac_nf
 lia
 refine aY (ns:=[2+d1,2+d2,1000000000-d3]) a4 (by simpa using b4) λwh hwh _=>?_
 have hwh':2<=wh/\wh<=1000000000:=by simp at hwh;omega
 lia
 have hlm:((ls.map aC).length:Int)=m:=by rw[DH,hL.1];omega
 rw[hlm]
 refine mn (by omega) hm2 λzs f hzl hzn hzo=>?_
 ac_nf
 lia
 refine bO (λs:(Int×Int)×List (Str×Ru)=>[some ⟨.io 0,fT s.1⟩,some ⟨.ow,.im (.int w)⟩,some ⟨.ow,.lst (ls.map aC)⟩,some ⟨.ow,.im (.int wh)⟩,some ⟨.ow,.li (zs.map .str)⟩,some ⟨.ow,.li (s.2.map bF)⟩,none,none,none,none]) (λj s=>s.2.map (·.1)=zs.take j/\∀p∈s.2,qT 10 zs w (16 / m.toNat) p.2) ?_
 lia
 rw[hlm]
 refine⟨⟨by omega,by omega⟩,(f,[]),by cbv,⟨rfl,by simp⟩,λx s hx ⟨hd1,hd2⟩=>?_,λs ⟨hd1,hd2⟩=>?_⟩
 ·obtain⟨f,ds⟩:=s
  dsimp only at hd1 hd2⊢
  obtain⟨l,hl,hl7,hlP⟩:=hL.get (n:=x) (by omega)
  lia
  refine dL (λ_:Unit=>[some ⟨.io 0,fT f⟩,some ⟨.ow,.im (.int w)⟩,some ⟨.ow,.lst (ls.map aC)⟩,some ⟨.ow,.im (.int wh)⟩,some ⟨.ow,.li (zs.map .str)⟩,some ⟨.ow,.li (ds.map bF)⟩,some ⟨.ow,.im (.int x)⟩,none,none,none]) (λp:Str×List Int=>tRu (.rd p.1 p.2)) (λj _ L=>L.length=j/\∀p∈L,p.1∈zs/\p.2.length=w.toNat) ?_
  lia
  refine nK (u:=aC l) (kd:=.vw (some 2) (some [.ix x])) (by omega) (by rw[D7,DG,hl];rfl) (eP l) rfl ?_
  lia
  rw[hlm]
  rw[ie (Int.ediv_nonneg (by omega) (by omega)),←Fx]
  refine⟨(l.take (16 / m).toNat).map tRd,rfl,by simp;rw[sizeLine_eq];omega,by cbv,(),by cbv,⟨rfl,by simp⟩,λj x' _ L hx' ⟨hLl,hLx⟩=>?_,λ_ L ⟨hLl,hLx⟩=>?_⟩
  ·rw[DG]at hx'
   cases e:(l.take (16 / m).toNat)[j]? with
   | none=>rw[e]at hx';cases hx'
   | some p=>
    rw[e]at hx';cases hx'
    have hp:=hlP p (Ep (ymG e))
    obtain⟨p0,p1,p2,p3⟩:=hp
    lia
    refine fu (emb:=I.str) (ns:=zs) p0 (by omega) λz hz=>?_
    lia
    exact⟨(z,p.2),(),rfl,by cbv,by simp[hLl],aP hLx ⟨ymG hz,p2⟩⟩
  rw[DH]at hLl
  have hLn:L.length<=16 / m.toNat:=by
   rw[hLl,D3]
   have:(16 / m).toNat=16 / m.toNat:=by
    obtain⟨n,rfl⟩:∃n:Nat,m=n:=⟨m.toNat,by omega⟩
    rw[D7];exact congrArg Int.toNat (Int.natCast_ediv 16 n).symm
   omega
  have hL7:L.length<=7:=by rw[hLl,D3];omega
  lia
  refine bO (λs:(Int×Int)×List Ru=>[some ⟨.io 0,fT s.1⟩,some ⟨.ow,.im (.int w)⟩,some ⟨.ow,.lst (ls.map aC)⟩,some ⟨.ow,.im (.int wh)⟩,some ⟨.ow,.li (zs.map .str)⟩,some ⟨.ow,.li (ds.map bF)⟩,some ⟨.ow,.im (.int x)⟩,some ⟨.ow,.li (s.2.map tRu)⟩,none,none]) (λj s=>s.2.length=L.length+j/\(∀r∈s.2,LeafOk zs w r)/\∀y row,Ru.rd y row∈s.2->(y,row)∈L) ?_
  lia
  refine am (by omega) (by omega) λd f hd0 hd1'=>?_
  ac_nf
  lia
  refine Bx (js:=[]) ⟨lC.1,rfl,lC.2⟩ ?_
  lia
  have hk:∀b:Bool,0<=(if b then 1 else 0:Int)/\(if b then 1 else 0:Int)<=1:=λb=>by cases b<;>decide
  have hk':=hk (decide (L.map (λp=>tRu (.rd p.1 p.2))=[]))
  have hk0:L=[]->(if(decide (L.map (λp=>tRu (.rd p.1 p.2))=[]))=true then 1 else 0:Int)=1:=λz=>by rw[z];rfl
  generalize (if(decide (L.map (λp=>tRu (.rd p.1 p.2))=[]))=true then 1 else 0:Int)=kk at *
  refine⟨⟨by omega,by omega⟩,(f,L.map λp=>.rd p.1 p.2),by rw[Eg];cbv,⟨by simp,λr hr=>?_,λy row hr=>?_⟩,λj s hj ⟨hs1,hs2,hs3⟩=>?_,λs ⟨hs1,hs2,hs3⟩=>?_⟩
  ·obtain⟨p,hp,rfl⟩:=DM.mp hr
   exact hLx p hp
  ·obtain⟨p,hp,e⟩:=DM.mp hr
   cases e;exact hp
  ·obtain⟨f,rs⟩:=s
   dsimp only at hs1 hs2 hs3⊢
   lia
   refine am (by omega) (by omega) λe1 f he0 he1=>?_
   ac_nf
   lia
   refine aY (ns:=[9,1000000001]) he0 (by simpa using he1) λtop htop _=>?_
   have htop':1<=top/\top<=1000000001:=by simp at htop;omega
   lia
   refine am (by omega) (by omega) λnum f hn0 hn1=>?_
   ac_nf
   lia
   rw[DH]
   refine am (by omega) (by omega) λat0 f ha0 ha1=>?_
   ac_nf
   lia
   refine xw (is:=rs.map tRu) ⟨ha0,by simp;omega,by simp;rw[sizeLine_eq];omega⟩ ?_
   ac_nf
   lia
   refine⟨(f,rs.take at0.toNat++Ru.num num::rs.drop at0.toNat),?_,by simp;omega,λr hr=>?_,λy row hr=>?_⟩
   ·rw[DP,DJ,Fx,GA]
    cbv
   ·rcases yaM hr with hr|hr
    ·exact hs2 r (Ep hr)
    ·rcases ycM hr with rfl|hr
     ·exact⟨hn0,by omega⟩
     ·exact hs2 r (E5 hr)
   ·rcases yaM hr with hr|hr
    ·exact hs3 y row (Ep hr)
    ·rcases ycM hr with hr|hr
     ·cases hr
     ·exact hs3 y row (E5 hr)
  ·obtain⟨f,rs⟩:=s
   dsimp only at hs1 hs2 hs3⊢
   lia
   refine fu (emb:=I.str) (ns:=zs) (by omega) (by omega) λz hz=>?_
   lia
   refine l6 (rs:=rs) (λh0=>?_) (by omega) (λr hr=>ve (hs2 r hr).leaf) λr f hrl hro=>?_
   ·rw[h0]at hs1
    have hL0:L=[]:=E9 (by simp at hs1;omega)
    have:=hk0 hL0
    simp at hs1
    omega
   rw[kr λr hr=>(hs2 r hr).leaf]at hrl
   ac_nf
   lia
   refine bo (is:=ds.map bF) (by
    have:ds.length<=zs.length:=by rw[←DH (f:=λp:Str×Ru=>p.1),hd1];simp;omega
    simp;rw[sizeLine_eq];omega) ?_
   ac_nf
   lia
   refine⟨(f,ds++[(z,r)]),?_,?_,aP hd2 ⟨hro,by rw[hrl];omega,by rw[hrl];exact hs2,L,hLn,by rw[hrl];exact hs3⟩⟩
   ·rw[DP]
    cbv
   ·rw[DP,hd1,Go]
    rw[D7]at hz
    rw[hz];rfl
 ·obtain⟨f,ds⟩:=s
  dsimp only at hd1 hd2⊢
  lia
  rw[DT (by omega)]at hd1
  have hlen:ds.length=m.toNat:=by rw[←hzl,←hd1,DH]
  refine q w wh ds f ⟨hw1,hw2,hwh'.1,hwh'.2,by omega,by omega,by rw[hd1];exact hzn,by rw[hd1];exact hzo,16 / m.toNat,?_,by rw[hd1];exact hd2⟩
  rw[hlen];exact Nat.div_mul_le_self 16 m.toNat
noncomputable def tR2 (p:Str×List Int):I:=.tup [.str p.1,.tup (p.2.map .int)]
theorem q5:∀{bs:List Bool},bls (bs.map I.bl)=some bs
 | []=>rfl
 | b::bs=>by rw[DJ,bls,q5];rfl
theorem Bu {bs:List Bool}{Q:T->Prop}(q:Q (.im (.bl (bs.all id)))):W1 (lT [.li (bs.map I.bl)]) Q:=w1 (by simp only[lT,q5,Fe]) q
noncomputable def aX (z:Str) (p:Str×List Int):I:=.tup [.str z,.str p.1,.tup (p.2.map .int)]
theorem dw {z:Str}:∀{L:List (Str×List Int)},I.doks (L.map (aX z))=true/\I.deps (L.map (aX z))<=50
 | []=>⟨rfl,EX _⟩
 | p::l=>by
  have ih:=dw (z:=z) (L:=l)
  have hi:∀row:List Int,I.doks (row.map I.int)=true/\I.deps (row.map I.int)=0:=λrow=>by
   induction row with
   | nil=>exact⟨rfl,rfl⟩
   | cons x row ih=>exact⟨by rw[DJ,I.doks,ih.1];rfl,by rw[DJ,I.deps,ih.2];rfl⟩
  refine⟨?_,?_⟩
  ·rw[DJ,I.doks,ih.1]
   simp only[aX,I.dok,I.doks,(hi p.2).1]
   rfl
  ·rw[DJ,I.deps]
   have h1:I.dep (aX z p)<=50:=by simp only[aX,I.dep,I.deps,(hi p.2).2];decide
   have:=ih.2
   omega
theorem mP {z:Str}{p:Str×List Int}:(aX z p).dok=true:=by
 have:=(dw (z:=z) (L:=[p])).1
 rw[DJ,Fa,I.doks,DD]at this
 exact this.1
noncomputable def tK:Ru->Option (Str×List Int)
 | .rd x row=>some (x,row)
 | _=>none
noncomputable def rds (r:Ru):List (Str×List Int):=r.leaves.filterMap tK
theorem gi:∀r:Ru,r.pre.filterMap tK=rds r
 | .num _=>rfl
 | .rd _ _=>rfl
 | .op s a b=>by
  have h1:=gi a
  have h2:=gi b
  unfold rds at h1 h2⊢
  rw[Ru.pre,Ru.leaves,FT rfl,DY,DY,h1,h2]
 | .cond a b c=>by
  have h1:=gi a
  have h2:=gi b
  have h3:=gi c
  unfold rds at h1 h2 h3⊢
  rw[Ru.pre,Ru.leaves,FT rfl,DY,DY,DY,DY,h1,h2,h3]
theorem cx (r:Ru):(rds r).length<=r.leaves.length:=FU _ _
noncomputable def gO (acc:List (Str×List Int)) (p:Str×List Int):List (Str×List Int):=if p∈acc then acc else acc++[p]
noncomputable def ded (L:List (Str×List Int)):List (Str×List Int):=L.foldl gO []
theorem lX (L:List (Str×List Int))(p:Str×List Int):ded (L++[p])=gO (ded L) p:=by unfold ded;rw[List.foldl_append];rfl
theorem oG:∀(L acc:List (Str×List Int)),(L.foldl gO acc).length<=acc.length+L.length
 | [],acc=>by simp
 | p::L,acc=>by
  have h:=oG L (gO acc p)
  have h2:(gO acc p).length<=acc.length+1:=by unfold gO;split<;>simp
  simp only[FB,DQ]at h⊢
  omega
theorem ig (L:List (Str×List Int)):(ded L).length<=L.length:=by have:=oG L [];unfold ded;simpa using this
theorem aS {α:Type}{L:List α}{j:Nat}{x : α}(e:L[j]?=some x):L.take (j+1)=L.take j++[x]:=by rw[Go,e];rfl
theorem qh {r:Ru}(hl:r.leaves.length<=1000){Q:T->Prop}(q:Q (.im (.tup ((rds r).map tR2)))):W1 (iH [.im (tRu r)]) Q:=by
 have hpre:=gD r
 refine runP_ok' [some ⟨.ow,.im (tRu r)⟩] rfl rfl rfl ?_
 unfold gb
 lia
 refine mV (λ_:Unit=>[some ⟨.ow,.im (tRu r)⟩]) tR2 (λj _ L=>L=(r.pre.take j).filterMap tK) ?_
 lia
 refine su hl ?_
 refine⟨r.pre.map tRu,rfl,by simp;rw[sizeLine_eq];omega,by cbv,(),by cbv,rfl,λj x' _ L hx' hL=>?_,λ_ L hL=>?_⟩
 ·rw[DG]at hx'
  cases e:r.pre[j]? with
  | none=>rw[e]at hx';cases hx'
  | some y=>
   rw[e]at hx';cases hx'
   have ht:(r.pre.take (j+1)).filterMap tK=L++(tK y).toList:=by
    rw[aS e,DY,←hL]
    cases y<;>rfl
   cases y with
   | num k=>
    rw[tRu]
    lia
    clear_value h
    ·exact absurd h (by decide +kernel)
    ·exact⟨(),by cbv,by rw[ht];exact(D0 _).symm⟩
   | rd x row=>
    rw[tRu]
    lia
    clear_value h
    ·lia
     exact⟨(x,row),(),rfl,by cbv,by rw[ht];rfl⟩
    ·exact absurd rfl h
   | op s a b=>
    rw[tRu]
    lia
    clear_value h
    ·exact absurd h (by decide +kernel)
    ·exact⟨(),by cbv,by rw[ht];exact(D0 _).symm⟩
   | cond a b c=>
    rw[tRu]
    lia
    clear_value h
    ·exact absurd h (by decide +kernel)
    ·exact⟨(),by cbv,by rw[ht];exact(D0 _).symm⟩
 ·rw[DH,DT (DK _),gi]at hL
  subst hL
  lia
  exact q
theorem kf {z:Str}{r:Ru}(hl:r.leaves.length<=1000){Q:T->Prop}(q:Q (.li ((ded (rds r)).map (aX z)))):W1 (cw [.im (.str z),.im (tRu r)]) Q:=by
 have hrl:=cx r
 refine runP_ok' [some ⟨.ow,.im (.str z)⟩,some ⟨.ow,.im (tRu r)⟩,none,none,none,none] rfl rfl rfl ?_
 unfold ci
 lia
 refine du (λL:List (Str×List Int)=>[some ⟨.ow,.im (.str z)⟩,some ⟨.ow,.im (tRu r)⟩,some ⟨.ow,.li (L.map (aX z))⟩,none,none,none]) (λj L=>L=ded ((rds r).take j)) ?_
 lia
 refine qh hl ?_
 refine⟨(rds r).map tR2,rfl,by cbv,[],by cbv,rfl,λj x' L hx' hL=>?_,λL hL=>?_⟩
 ·rw[DG]at hx'
  cases e:(rds r)[j]? with
  | none=>rw[e]at hx';cases hx'
  | some p=>
   rw[e]at hx';cases hx'
   have hj:=(DB.mp e).1
   have hLl:L.length<=1000:=by rw[hL];have:=ig ((rds r).take j);rw[D3]at this;omega
   have hs:ded ((rds r).take (j+1))=gO L p:=by rw[aS e,lX,hL]
   lia
   refine bp ?_
   lia
   refine sn (i:=aX z p) (is:=L.map (aX z)) ⟨mP,dw.1,dw.2⟩ ?_
   lia
   clear_value h
   ·lia
    refine bo (is:=L.map (aX z)) (i:=aX z p) (by simp;rw[sizeLine_eq];omega) ?_
    ac_nf
    lia
    have hp:p∉L:=λm=>h (DM.mpr ⟨_,m,rfl⟩)
    refine⟨L++[p],?_,?_⟩
    ·rw[DP]
     cbv
    ·rw[hs,gO,if_neg hp]
   ·lia
    have hp:p∈L:=by
     obtain⟨p',m,e'⟩:=DM.mp h
     have:p'=p:=by
      unfold aX at e'
      simp only[I.tup.injEq,E3.injEq,I.str.injEq,and_true,true_and]at e'
      obtain⟨e1,e2⟩:=e'
      exact GY e1 (GD (λa b h=>by cases h;rfl) |>.mp e2)
     exact this▸m
    exact⟨L,by cbv,by rw[hs,gO,if_pos hp]⟩
 ·rw[DH,DT (DK _)]at hL
  subst hL
  lia
  exact q
noncomputable def aV (ds:List (Str×Ru)):List I:=ds.flatMap λd=>(ded (rds d.2)).map (aX d.1)
theorem nT {w wh:Int}{ds:List (Str×Ru)}(hd:ds.length<=6)(h:∀p∈ds,p.2.leaves.length<=40){Q:T->Prop}(q:Q (.im (.tup (aV ds)))):W1 (e8 [.im (aH w wh ds)]) Q:=by
 refine runP_ok' [some ⟨.ow,.im (aH w wh ds)⟩] rfl rfl rfl ?_
 unfold dk
 lia
 refine wY (om ?_)
 rw[aH]
 lia
 refine w1 (x:=(ds.map bF).map λi=>⟨.ow,.im i⟩) rfl (gu (by cbv) ⟨λj acc ρ=>ρ=[some ⟨.ow,.im (aH w wh ds)⟩]/\acc=(aV (ds.take j)).map T.im/\(aV (ds.take j)).length<=40*j,⟨rfl,rfl,EX _⟩,?_,?_⟩)
 ·rintro j r acc ρ hr ⟨rfl,rfl,hil⟩
  obtain⟨x,hx,rfl⟩:=aZ hr
  obtain⟨p,hp,rfl⟩:=aZ hx
  have hj:=(DB.mp hp).1
  have hpl:=h p (ymG hp)
  have hL:(ded (rds p.2)).length<=40:=by have:=ig (rds p.2);have:=cx p.2;omega
  have ht:aV (ds.take (j+1))=aV (ds.take j)++(ded (rds p.2)).map (aX p.1):=by unfold aV;rw[aS hp,DO];simp
  lia
  refine om ?_
  lia
  refine kf (by omega) ?_
  refine w1 (x:=((ded (rds p.2)).map (aX p.1)).map λi=>⟨.ow,.im i⟩) rfl (gu (by cbv) ⟨by simp;rw[sizeLine_eq];omega,?_⟩)
  refine pE _ (λx=>?_) _ ⟨by cbv,by rw[ht,DP],by rw[ht];simp;omega⟩
  lia
  exact⟨rfl,by cbv⟩
 ·rintro acc ρ ⟨rfl,rfl,hil⟩
  simp only[DH,List.take_length]at hil⊢
  refine⟨by rw[sizeLine_eq];omega,?_⟩
  rw[mf]
  lia
  exact q
theorem jM:∀ds:List (Str×Ru),qq (ds.map bF)=some (ds.map λd=>(Sum.inr d.1,tRu d.2))
 | []=>rfl
 | d::ds=>by rw[DJ,qq,jM ds];rfl
theorem yU {ds:List (Str×Ru)}(hn:(ds.map (·.1)).Nodup){Q:T->Prop}(q:Q (.di (ds.map λd=>(.str d.1,tRu d.2)))):W1 (lY [.im (.tup (ds.map bF))]) Q:=by with_unfolding_all
 refine w1 (x:=.di (ds.map λd=>(.str d.1,tRu d.2))) ?_ q
 show rn (ds.map bF)=_
 unfold rn
 rw[jM]
 dsimp only
 rw[if_pos ?_,Eg]
 ·rfl
 ·rw[Eg]
  have:(ds.map λd=>(Sum.inr d.1:Key))=(ds.map (·.1)).map Sum.inr:=by rw[Eg];rfl
  show(ds.map λd=>(Sum.inr d.1:Key)).Nodup
  rw[this]
  exact List.Pairwise.map _ (λa b h e=>h (Sum.inr.inj e)) hn
theorem iN {z:Str}{r:Ru}:∀{ds:List (Str×Ru)},(ds.map (·.1)).Nodup->(z,r)∈ds->jj (ds.map λd=>(.str d.1,tRu d.2)) (.str z)=some (tRu r)
 | d::ds,hn,hm=>by
  rw[DJ,D9]at hn
  rw[DJ,jj]
  rcases ycM hm with rfl|hm
  ·rw[if_pos rfl]
  ·have:d.1≠z:=λe=>hn.1 (e▸DM.mpr ⟨_,hm,rfl⟩)
   rw[if_neg (λe=>this (I.str.inj e))]
   exact iN hn.2 hm
theorem Dn {kvs:List (I×I)}{z:Str}{v:I}(h:jj kvs (.str z)=some v){Q:T->Prop}(q:Q (.im v)):W1 (dgT (.di kvs) (.im (.str z))) Q:=by with_unfolding_all
 refine w1 (x:=.im v) ?_ q
 show dg1 kvs (.str z)=_
 unfold dg1 pQ
 dsimp only
 rw[h];rfl
theorem kH {w wh:Int}{ds:List (Str×Ru)}{z:Str}{r:Ru}(hn:(ds.map (·.1)).Nodup)(hm:(z,r)∈ds){Q:T->Prop}(q:Q (.im (tRu r))):W1 (dW [.im (aH w wh ds),.im (.str z)]) Q:=by
 refine runP_ok' [some ⟨.ow,.im (aH w wh ds)⟩,some ⟨.ow,.im (.str z)⟩] rfl rfl rfl ?_
 unfold dP
 rw[aH]
 lia
 refine yU hn ?_
 lia
 refine Dn (iN hn hm) ?_
 lia
 exact q
theorem Af {s:Str}{a b:Ru}:rds (.op s a b)=rds a++rds b:=by simp[rds,Ru.leaves,DY]
theorem tL {a b c:Ru}:rds (.cond a b c)=rds a++(rds b++rds c):=by simp[rds,Ru.leaves,DY]
theorem iq:∀(n:Nat) (r:Ru),r.depth<n->r.leaves.length<=1000->∀{Q:T->Prop},Q (.li ((rds r).map tR2))->W1 (cu n [.im (tRu r)]) Q
 | 0,r,hd,_,Q,q=>absurd hd (GS _)
 | n+1,r,hd,hl,Q,q=>by
  refine runP_ok' [some ⟨.ow,.im (tRu r)⟩,none,none] rfl rfl rfl ?_
  unfold dg
  cases r with
  | num k=>
   rw[tRu]
   lia
   (refine bp ?_;lia;clear_value h)
   ·lia
    exact q
   ·exact absurd rfl h
  | rd x row=>
   rw[tRu]
   lia
   (refine bp ?_;lia;clear_value h)
   ·exact absurd h (by decide +kernel)
   lia
   (refine bp ?_;lia;clear_value h')
   ·lia
    exact q
   ·exact absurd rfl h'
  | op s a b=>
   have ha:a.depth<n/\b.depth<n:=by simp only[Ru.depth]at hd;omega
   have hal:a.leaves.length+b.leaves.length<=1000:=by simpa[Ru.leaves]using hl
   have ra:=cx a
   have rb:=cx b
   rw[tRu]
   lia
   (refine bp ?_;lia;clear_value h)
   ·exact absurd h (by decide +kernel)
   lia
   (refine bp ?_;lia;clear_value h')
   ·exact absurd h' (by decide +kernel)
   lia
   refine du (λL:List (Str×List Int)=>[some ⟨.ow,.im (.tup [.str "op",.str s,tRu a,tRu b])⟩,some ⟨.ow,.li (L.map tR2)⟩,none]) (λj L=>L=([a,b].take j).flatMap rds) ?_
   lia
   simp only[decide_true,if_true,Int.reduceAdd]
   refine oY (is:=[.str "op",.str s,tRu a,tRu b]) (show ¬((2:Nat)=0/\4=4) by decide) ?_
   refine⟨[a,b].map tRu,rfl,by cbv,[],by cbv,rfl,λj x' L hx' hL=>?_,λL hL=>?_⟩
   ·rw[DG]at hx'
    cases e:([a,b]:List Ru)[j]? with
    | none=>rw[e]at hx';cases hx'
    | some y=>
     rw[e]at hx';cases hx'
     have hy:y=a∨y=b:=by have:=ymG e;simpa using this
     have hyl:(rds y).length<=1000:=by rcases hy with rfl|rfl<;>omega
     have hLl:L.length<=1000:=by
      rw[hL]
      match j with
      | 0=>simp
      | 1=>simp;omega
      | _+2=>simp;omega
     lia
     refine iq n y (by rcases hy with rfl|rfl<;>omega) (by rcases hy with rfl|rfl<;>omega) ?_
     lia
     refine nJ (is:=L.map tR2) (js:=(rds y).map tR2) (by simp;rw[sizeLine_eq];omega) ?_
     ac_nf
     lia
     refine⟨L++rds y,?_,by rw[hL,aS e,DO];simp⟩
     rw[DP]
     try cbv
   ·rw[DH,DT (DK _)]at hL
    subst hL
    lia
    rw[Af]at q
    simpa using q
  | cond a b c=>
   have ha:a.depth<n/\b.depth<n/\c.depth<n:=by simp only[Ru.depth]at hd;omega
   have hal:a.leaves.length+(b.leaves.length+c.leaves.length)<=1000:=by simpa[Ru.leaves]using hl
   have ra:=cx a
   have rb:=cx b
   have rc:=cx c
   rw[tRu]
   lia
   (refine bp ?_;lia;clear_value h)
   ·exact absurd h (by decide +kernel)
   lia
   (refine bp ?_;lia;clear_value h')
   ·exact absurd h' (by decide +kernel)
   lia
   refine du (λL:List (Str×List Int)=>[some ⟨.ow,.im (.tup [.str "if",tRu a,tRu b,tRu c])⟩,some ⟨.ow,.li (L.map tR2)⟩,none]) (λj L=>L=([a,b,c].take j).flatMap rds) ?_
   lia
   rw[show(1+if decide (("if" : Str) = "op")=true then 1 else 0:Int)=1 by decide +kernel]
   refine oY (is:=[.str "if",tRu a,tRu b,tRu c]) (show ¬((1:Nat)=0/\4=4) by decide) ?_
   refine⟨[a,b,c].map tRu,rfl,by cbv,[],by cbv,rfl,λj x' L hx' hL=>?_,λL hL=>?_⟩
   ·rw[DG]at hx'
    cases e:([a,b,c]:List Ru)[j]? with
    | none=>rw[e]at hx';cases hx'
    | some y=>
     rw[e]at hx';cases hx'
     have hy:y=a∨y=b∨y=c:=by have:=ymG e;simpa using this
     have hyl:(rds y).length<=1000:=by rcases hy with rfl|rfl|rfl<;>omega
     have hLl:L.length<=1000:=by
      rw[hL]
      match j with
      | 0=>simp
      | 1=>simp;omega
      | 2=>simp;omega
      | _+3=>simp;omega
     lia
     refine iq n y (by rcases hy with rfl|rfl|rfl<;>omega) (by rcases hy with rfl|rfl|rfl<;>omega) ?_
     lia
     refine nJ (is:=L.map tR2) (js:=(rds y).map tR2) (by simp;rw[sizeLine_eq];omega) ?_
     ac_nf
     lia
     refine⟨L++rds y,?_,by rw[hL,aS e,DO];simp⟩
     rw[DP]
     try cbv
   ·rw[DH,DT (DK _)]at hL
    subst hL
    lia
    rw[tL]at q
    simpa using q
theorem qJ {z:Str}{p p':Str×List Int}(e':aX z p'=aX z p):p'=p:=by
 unfold aX at e'
 simp only[I.tup.injEq,E3.injEq,I.str.injEq,and_true,true_and]at e'
 obtain⟨e1,e2⟩:=e'
 exact GY e1 (GD (λa b h=>by cases h;rfl) |>.mp e2)
theorem nX {z z':Str}{p p':Str×List Int}(e:aX z p=aX z' p'):z=z':=by
 unfold aX at e
 simp only[I.tup.injEq,E3.injEq,I.str.injEq]at e
 exact e.1
theorem oI {a b:List I}(ha:I.doks a=true/\I.deps a<=50)(hb:I.doks b=true/\I.deps b<=50):I.doks (a++b)=true/\I.deps (a++b)<=50:=by
 induction a with
 | nil=>exact hb
 | cons x a ih=>
  rw[I.doks,DD,I.deps]at ha
  have:=ih ⟨ha.1.2,by omega⟩
  rw[D8,I.doks,I.deps,ha.1.1,this.1]
  exact⟨rfl,by omega⟩
theorem jm:∀{ds:List (Str×Ru)},I.doks (aV ds)=true/\I.deps (aV ds)<=50
 | []=>⟨rfl,by decide⟩
 | d::ds=>by
  have ih:=jm (ds:=ds)
  unfold aV at ih⊢
  rw[DL]
  exact oI dw ih
theorem jE {ds:List (Str×Ru)}{i:I}(h:i∈aV ds):∃d∈ds,∃p∈ded (rds d.2),i=aX d.1 p:=by
 unfold aV at h
 obtain⟨d,hd,h⟩:=Eu.mp h
 obtain⟨p,hp,rfl⟩:=DM.mp h
 exact⟨d,hd,p,hp,rfl⟩
mutual
noncomputable def I.fit:I->Bool
 | .tup is=>decide (is.length<=1000000)&&I.fits is
 | .ls _=>false
 | _=>true
noncomputable def I.fits:List I->Bool
 | []=>true
 | i::is=>i.fit&&I.fits is
end
theorem jl:∀{is:List I} {i:I},I.fits is=true->i∈is->i.fit=true
 | a::is,i,h,hm=>by
  rw[I.fits,DD]at h
  rcases ycM hm with rfl|hm
  ·exact h.1
  ·exact jl h.2 hm
theorem i4:∀{is:List I},(∀i∈is,i.fit=true)->I.fits is=true
 | [],_=>rfl
 | a::is,h=>by rw[I.fits,h a ymS,i4 λi hi=>h i (ymC _ hi)];rfl
theorem ji:∀{is:List I} {i:I},i∈is->i.dep<=I.deps is
 | a::is,i,hm=>by
  rw[I.deps]
  rcases ycM hm with rfl|hm
  ·omega
  ·have:=ji hm;omega
theorem i3 {n:Nat}:∀{is:List I},(∀i∈is,i.dep<=n)->I.deps is<=n
 | [],_=>EX _
 | a::is,h=>by
  have h1:=h a ymS
  have h2:=i3 λi hi=>h i (ymC _ hi)
  rw[I.deps];omega
theorem nI {l:List Unit}{Q:T->Prop}(q:Q (.im (.bl true))):W1 (lT [.li (l.map λ_=>I.bl true)]) Q:=by
 have e:(l.map λ_=>I.bl true)=(l.map λ_=>true).map I.bl:=by rw[Eg];rfl
 rw[e]
 refine Bu ?_
 have:(l.map λ_=>true).all id=true:=by simp
 rw[this]
 exact q
theorem jd:∀(n:Nat) (i:I),i.dep<n->i.fit=true->W1 (bX n [.im i,.im i]) λt=>t=.im (.bl true):=by
 intro n
 induction n with
 | zero=>intro i h;omega
 | succ n ih=>
  intro i h hf
  refine runP_ok' [some ⟨.ow,.im i⟩,some ⟨.ow,.im i⟩] rfl rfl rfl ?_
  unfold eJ
  cases i with
  | tup is=>
   rw[I.fit,DD,decide_eq_true_eq]at hf
   rw[I.dep]at h
   (repeat first|infer_instance|refine spT ?_|refine spF ?_|refine bp ?_)
   clear_value hl
   ·lia
    refine hW (λ_:Unit=>[some ⟨.ow,.im (.tup is)⟩,some ⟨.ow,.im (.tup is)⟩]) (λ_:Unit=>I.bl true) (λj _ l=>l.length=j) ?_
    lia
    refine⟨_,_,false,false,is,is,rfl,rfl,rfl,by rw[sizeLine_eq];omega,by cbv,(),by cbv,rfl,λj x y _ l hx hy hP=>?_,λ_ l hP=>?_⟩
    ·rw[hx]at hy;cases hy
     have hm:=ymG hx
     lia
     refine W1.mono (ih x (by have:=ji hm;omega) (jl hf.2 hm)) λt ht=>?_
     subst ht
     exact⟨(),(),rfl,by cbv,by simp[hP]⟩
    ·lia
     refine nI ?_
     lia
     try rfl
   ·exact absurd rfl hl
  | non=>
   (repeat first|infer_instance|refine spT ?_|refine spF ?_|refine bp ?_)
   refine w1 (x:=.im (.bl true)) (by cbv) ?_
   lia
   try rfl
  | bl b=>
   (repeat first|infer_instance|refine spT ?_|refine spF ?_|refine bp ?_)
   refine w1 (x:=.im (.bl true)) (by with_unfolding_all (cases b<;>rfl)) ?_
   lia
   try rfl
  | int z=>(repeat first|infer_instance|refine spT ?_|refine spF ?_|refine bp ?_);simp
  | str z=>(repeat first|infer_instance|refine spT ?_|refine spF ?_|refine bp ?_);simp
  | ls is=>rw[I.fit]at hf;cases hf
theorem qZ {n:Nat}{is:List I}(h:I.deps is<n)(hf:I.fits is=true)(hl':is.length<=1000000){Q:T->Prop}(q:Q (.im (.bl true))):W1 (bX (n+1) [.li is,.li is]) Q:=by
 refine runP_ok' [some ⟨.vw none none,.li is⟩,some ⟨.vw none none,.li is⟩] rfl rfl rfl ?_
 unfold eJ
 (repeat first|infer_instance|refine spT ?_|refine spF ?_|refine bp ?_)
 clear_value hl
 ·lia
  refine hW (λ_:Unit=>[some ⟨.vw none none,.li is⟩,some ⟨.vw none none,.li is⟩]) (λ_:Unit=>I.bl true) (λj _ l=>l.length=j) ?_
  lia
  refine⟨_,_,true,true,is,is,rfl,rfl,rfl,by rw[sizeLine_eq];omega,by cbv,(),by cbv,rfl,λj x y _ l hx hy hP=>?_,λ_ l hP=>?_⟩
  ·rw[hx]at hy;cases hy
   have hm:=ymG hx
   lia
   refine W1.mono (jd n x (by have:=ji hm;omega) (jl hf hm)) λt ht=>?_
   subst ht
   exact⟨(),(),rfl,by cbv,by simp[hP]⟩
  ·lia
   refine nI ?_
   lia
   exact q
 ·exact absurd rfl hl
theorem gx:∀{ds:List (Str×Ru)},(∀p∈ds,p.2.leaves.length<=22)->(aV ds).length<=22*ds.length
 | [],_=>by simp[aV]
 | d::ds,h=>by
  have ih:=gx (ds:=ds) λp hp=>h p (ymC _ hp)
  have h1:=h d ymS
  have h2:=ig (rds d.2)
  have h3:=cx d.2
  unfold aV at ih⊢
  rw[DL,DS,DH,DQ]
  omega
theorem pV {w wh:Int}{ds:List (Str×Ru)}(hd:ds.length<=6)(hn:(ds.map (·.1)).Nodup)(h:∀p∈ds,p.2.leaves.length<=22){Q:T->Prop}(q:Q (.li (aV ds))):W1 (iG [.im (aH w wh ds)]) Q:=by
 refine runP_ok' [some ⟨.ow,.im (aH w wh ds)⟩,none,none,none,none,none] rfl rfl rfl ?_
 unfold ga
 lia
 refine du (λL:List I=>[some ⟨.ow,.im (aH w wh ds)⟩,some ⟨.ow,.li L⟩,none,none,none,none]) (λj L=>L=aV (ds.take j)) ?_
 rw[aH]
 lia
 refine⟨ds.map bF,rfl,by cbv,[],by cbv,rfl,λj x' L hx' hL=>?_,λL hL=>?_⟩
 ·rw[DG]at hx'
  cases e:ds[j]? with
  | none=>rw[e]at hx';cases hx'
  | some p=>
   rw[e]at hx';cases hx'
   have hp:=h p (ymG e)
   have hj:=(DB.mp e).1
   have hdp:=Ru.depth_lt p.2
   have hrl:=cx p.2
   have hLl:L.length<=22*6:=by
    rw[hL]
    have:=gx (ds:=ds.take j) λp hp=>h p (Ep hp)
    rw[D3]at this
    omega
   have hLd:I.doks L=true/\I.deps L<=50:=by rw[hL];exact jm
   have hLz:∀pr,aX p.1 pr∉L:=by
    intro pr hm
    rw[hL]at hm
    obtain⟨d,hdm,pr',_,e2⟩:=jE hm
    obtain⟨k,hk⟩:=Ff.mp hdm
    have hkj:k<j:=by have:=(DB.mp hk).1;simp at this;omega
    rw[FP hkj]at hk
    have h2:(ds.map (·.1))[j]?=some p.1:=by rw[DG,e];rfl
    have h1:(ds.map (·.1))[k]?=some d.1:=by rw[DG,hk];rfl
    have h3:=DB.mp h1
    have h4:=DB.mp h2
    exact(List.pairwise_iff_getElem.mp hn k j h3.1 h4.1 hkj) (h3.2.trans ((nX e2).symm.trans h4.2.symm))
   rw[bF]
   lia
   refine du (λL2:List (Str×List Int)=>[some ⟨.ow,.im (aH w wh ds)⟩,some ⟨.ow,.li (L++L2.map (aX p.1))⟩,some ⟨.ow,.im (.str p.1)⟩,some ⟨.ow,.im (tRu p.2)⟩,none,none]) (λi L2=>L2=ded ((rds p.2).take i)) ?_
   lia
   refine iq 24 p.2 (by omega) (by omega) ?_
   refine⟨(rds p.2).map tR2,rfl,by cbv,[],by simp only[Fa,D0];cbv,rfl,λi y' L2 hy' hL2=>?_,λL2 hL2=>?_⟩
   ·rw[DG]at hy'
    cases e2:(rds p.2)[i]? with
    | none=>rw[e2]at hy';cases hy'
    | some pr=>
     rw[e2]at hy';cases hy'
     have hs:ded ((rds p.2).take (i+1))=gO L2 pr:=by rw[aS e2,lX,hL2]
     have hL2l:L2.length<=1000:=by rw[hL2];have:=ig ((rds p.2).take i);rw[D3]at this;omega
     have hdk:I.doks (L++L2.map (aX p.1))=true/\I.deps (L++L2.map (aX p.1))<=50:=oI hLd dw
     rw[tR2]
     lia
     refine bp ?_
     lia
     refine sn (i:=aX p.1 pr) (is:=L++L2.map (aX p.1)) ⟨mP,hdk.1,hdk.2⟩ ?_
     lia
     clear_value c
     ·lia
      refine bo (is:=L++L2.map (aX p.1)) (i:=aX p.1 pr) (by simp;rw[sizeLine_eq];omega) ?_
      ac_nf
      lia
      have hp':pr∉L2:=λm=>c (yaR _ (DM.mpr ⟨_,m,rfl⟩))
      refine⟨L2++[pr],?_,by rw[hs,gO,if_neg hp']⟩
      rw[DP,←DU]
      cbv
     ·lia
      have hp':pr∈L2:=by
       rcases yaM c with m|m
       ·exact absurd m (hLz pr)
       ·obtain⟨p',m,e'⟩:=DM.mp m
        exact qJ e'▸m
      exact⟨L2,by cbv,by rw[hs,gO,if_pos hp']⟩
   ·rw[DH,DT (DK _)]at hL2
    subst hL2
    lia
    refine⟨L++(ded (rds p.2)).map (aX p.1),by cbv,?_⟩
    rw[hL,aS e]
    unfold aV
    rw[DO]
    simp
 ·rw[DH,DT (DK _)]at hL
  subst hL
  lia
  exact q
noncomputable def fo (a b:List Int):List Int:=List.zipWith (· + ·) a b
noncomputable def tPl (a:List Int):I:=.tup (a.map .int)
noncomputable def bi (c:Str×List Int):I:=.tup [.str c.1,tPl c.2]
theorem kR {a b:List Int}{j:Nat}{x y:Int}(ha:a[j]?=some x)(hb:b[j]?=some y):fo (a.take (j+1)) (b.take (j+1))=fo (a.take j) (b.take j)++[x+y]:=by
 unfold fo
 rw[aS ha,aS hb,List.zipWith_append]
 ·rfl
 ·have h1:=(DB.mp ha).1
  have h2:=(DB.mp hb).1
  rw[D3,D3];omega
theorem mZ {a b:List Int}:fo (a.take (min a.length b.length)) (b.take (min a.length b.length))=fo a b:=by
 unfold fo
 rw[←List.take_zipWith]
 rw[DT (by simp)]
theorem yx {a b:List Int}(ha:a.length<=1000){Q:T->Prop}(q:Q (.im (tPl (fo a b)))):W1 (lB [.im (tPl a),.im (tPl b)]) Q:=by
 refine runP_ok' [some ⟨.ow,.im (tPl a)⟩,some ⟨.ow,.im (tPl b)⟩] rfl rfl rfl ?_
 unfold i6
 lia
 refine hW (λ_:Unit=>[some ⟨.ow,.im (tPl a)⟩,some ⟨.ow,.im (tPl b)⟩]) I.int (λj _ l=>l=fo (a.take j) (b.take j)) ?_
 lia
 refine⟨_,_,false,false,a.map .int,b.map .int,rfl,rfl,rfl,by simp;rw[sizeLine_eq];omega,by cbv,(),by cbv,rfl,λj x y _ l hx hy hP=>?_,λ_ l hP=>?_⟩
 ·obtain⟨x',hx',rfl⟩:=aZ hx
  obtain⟨y',hy',rfl⟩:=aZ hy
  lia
  exact⟨x'+y',(),rfl,by cbv,by rw[hP,kR hx' hy']⟩
 ·rw[DH,DH]at hP
  rw[mZ]at hP
  subst hP
  lia
  exact q
theorem uK {w wh:Int}{ds:List (Str×Ru)}{z:Str}{r:Ru}{pl:List Int}(hn:(ds.map (·.1)).Nodup)(hm:(z,r)∈ds)(hl:r.leaves.length<=22)(hpl:pl.length<=1000){Q:T->Prop}(q:Q (.li ((ded (rds r)).map λp=>bi (p.1,fo pl p.2)))):W1 (ee [.im (aH w wh ds),.im (bi (z,pl))]) Q:=by
 have hrl:=cx r
 have hdl:=ig (rds r)
 refine runP_ok' [some ⟨.ow,.im (aH w wh ds)⟩,some ⟨.ow,.im (bi (z,pl))⟩,none,none] rfl rfl rfl ?_
 unfold cK
 lia
 refine dL (λ_:Unit=>[some ⟨.ow,.im (aH w wh ds)⟩,some ⟨.ow,.im (bi (z,pl))⟩,some ⟨.ow,.im (.str z)⟩,some ⟨.ow,.im (tPl pl)⟩]) (λp:Str×List Int=>bi (p.1,fo pl p.2)) (λj _ L=>L=(ded (rds r)).take j) ?_
 lia
 refine kH hn hm ?_
 lia
 refine kf (by omega) ?_
 refine⟨(ded (rds r)).map (aX z),rfl,by simp;rw[sizeLine_eq];omega,by cbv,(),by cbv,rfl,λj x' _ L hx' hL=>?_,λ_ L hL=>?_⟩
 ·rw[DG]at hx'
  cases e:(ded (rds r))[j]? with
  | none=>rw[e]at hx';cases hx'
  | some p=>
   rw[e]at hx';cases hx'
   lia
   refine yx hpl ?_
   lia
   exact⟨p,(),rfl,by cbv,by rw[hL,aS e]⟩
 ·rw[DH,DT (DK _)]at hL
  subst hL
  lia
  exact q
theorem mw {f:Int×Int}{w:Int}(h1:1<=w)(h2:w<=3){Q:T->T->Prop}(q:∀pl f',pl.length=w.toNat->Q (.im (tPl pl)) (fT f')):W2 (gf [fT f,.im (.int w)]) Q:=by
 refine runI_ok' [some ⟨.io 0,fT f⟩,some ⟨.ow,.im (.int w)⟩,none] rfl rfl rfl ?_
 unfold f7
 lia
 refine am (by omega) (by omega) λd f hd0 hd1=>?_
 ac_nf
 lia
 refine aY (ns:=[4,2001]) hd0 hd1 λy hy _=>?_
 have hy':y=4∨y=2001:=by simpa using hy
 lia
 refine cD (λf:Int×Int=>[some ⟨.io 0,fT f⟩,some ⟨.ow,.im (.int w)⟩,some ⟨.ow,.im (.int y)⟩]) I.int (λj _ is=>is.length=j) ?_
 lia
 refine⟨⟨by omega,by omega⟩,by cbv,f,by cbv,rfl,λj f is hj hl=>?_,λf is hl=>?_⟩
 ·lia
  refine am (by omega) (by omega) λd f hd0 hd1=>?_
  ac_nf
  lia
  exact⟨_,f,rfl,by cbv,by simp[hl]⟩
 ·lia
  exact q is f hl
theorem vh {L:List (Str×List Int)}{p:Str×List Int}(h:p∈ded L):p∈L:=by
 have:∀(L acc:List (Str×List Int)),p∈L.foldl gO acc->p∈acc∨p∈L:=by
  intro L
  induction L with
  | nil=>intro acc h;exact .inl h
  | cons x L ih=>
   intro acc h
   rcases ih _ h with h|h
   ·unfold gO at h
    split at h
    ·exact .inl h
    ·rcases yaM h with h|h
     ·exact .inl h
     ·exact .inr (ysM h▸ymS)
   ·exact .inr (ymC _ h)
 rcases this L [] h with h|h
 ·cases h
 ·exact h
theorem vj {r:Ru}{p:Str×List Int}(h:p∈rds r):Ru.rd p.1 p.2∈r.leaves:=by
 obtain⟨l,hl,e⟩:=Ef.mp h
 cases l with
 | rd x row=>cases e;exact hl
 | _=>cases e
def RuL (r:Ru):Prop:=r.leaves.length<=22/\∀x row,Ru.rd x row∈r.leaves->row.length<=1000
def H6 (ds:List (Str×Ru)):Prop:=ds.length<=6/\(ds.map (·.1)).Nodup/\∀p∈ds,RuL p.2
theorem ju (row:List Int)(h:row.length<=1000000):(I.tup (row.map I.int)).fit=true/\(I.tup (row.map I.int)).dep=1:=by
 have h1:I.fits (row.map I.int)=true:=i4 λi hi=>by obtain⟨x,_,rfl⟩:=DM.mp hi;rfl
 have h2:I.deps (row.map I.int)=0:=Nat.le_zero.mp (i3 λi hi=>by obtain⟨x,_,rfl⟩:=DM.mp hi;exact DK _)
 rw[I.fit,I.dep,h1,h2]
 exact⟨by simpa using h,rfl⟩
theorem gl:∀{r:Ru},(∀x row,Ru.rd x row∈r.leaves->row.length<=1000)->(tRu r).fit=true/\(tRu r).dep<=r.depth+2
 | .num _,_=>⟨rfl,by simp[tRu,I.dep,I.deps,Ru.depth]⟩
 | .rd x row,h=>by
  have h1:=h x row (by simp[Ru.leaves])
  have h2:=ju row (by omega)
  simp only[tRu,I.fit,I.fits,I.dep,I.deps]at h2⊢
  rw[h2.1]
  exact⟨by simp,by omega⟩
 | .op s a b,h=>by
  have ha:=gl (r:=a) λx row hm=>h x row (by rw[Ru.leaves];exact yaL _ hm)
  have hb:=gl (r:=b) λx row hm=>h x row (by rw[Ru.leaves];exact yaR _ hm)
  simp only[tRu,I.fit,I.fits,I.dep,I.deps,Ru.depth,ha.1,hb.1]
  exact⟨by simp,by omega⟩
 | .cond a b c,h=>by
  have ha:=gl (r:=a) λx row hm=>h x row (by rw[Ru.leaves];exact yaL _ hm)
  have hb:=gl (r:=b) λx row hm=>h x row (by rw[Ru.leaves];exact yaR _ (yaL _ hm))
  have hc:=gl (r:=c) λx row hm=>h x row (by rw[Ru.leaves];exact yaR _ (yaR _ hm))
  simp only[tRu,I.fit,I.fits,I.dep,I.deps,Ru.depth,ha.1,hb.1,hc.1]
  exact⟨by simp,by omega⟩
theorem nr {ds:List (Str×Ru)}(h:H6 ds):I.fits (aV ds)=true/\I.deps (aV ds)<=2:=by
 have key:∀i∈aV ds,i.fit=true/\i.dep<=2:=by
  intro i hi
  obtain⟨d,hd,p,hp,rfl⟩:=jE hi
  have h1:=(h.2.2 d hd).2 p.1 p.2 (vj (vh hp))
  have h2:=ju p.2 (by omega)
  simp only[aX,I.fit,I.fits,I.dep,I.deps]at h2⊢
  rw[h2.1]
  exact⟨by simp,by omega⟩
 exact⟨i4 λi hi=>(key i hi).1,i3 λi hi=>(key i hi).2⟩
noncomputable def SL (ds:List (Str×Ru)):List (Str×Str×List Int):=ds.flatMap λd=>(ded (rds d.2)).map λp=>(d.1,p)
theorem xm (ds:List (Str×Ru)):aV ds=(SL ds).map λq=>aX q.1 q.2:=by
 unfold aV SL
 rw[List.map_flatMap]
 congr 1
 funext d
 rw[Eg];rfl
noncomputable def ofN (z:Str) (q:Str×Str×List Int):Option (Str×List Int):=if q.1=z then some q.2 else none
theorem AX {z:Str}{r:Ru}:∀{ds:List (Str×Ru)},(ds.map (·.1)).Nodup->(z,r)∈ds->(SL ds).filterMap (ofN z)=ded (rds r):=by
 have no:∀{d:Str×Ru},d.1≠z->((ded (rds d.2)).map λp=>(d.1,p)).filterMap (ofN z)=[]:=by
  intro d h
  rw[EZ]
  refine FM.mpr λp _=>?_
  show ofN z (d.1,p)=none
  unfold ofN
  rw[if_neg h]
 have yes:∀{r:Ru},((ded (rds r)).map λp=>(z,p)).filterMap (ofN z)=ded (rds r):=by
  intro r
  rw[EZ]
  have:(ofN z∘λp=>(z,p))=some:=by funext p;show ofN z (z,p)=_;unfold ofN;rw[if_pos rfl]
  rw[this,List.filterMap_some]
 have none':∀{ds:List (Str×Ru)},(∀d∈ds,d.1≠z)->(SL ds).filterMap (ofN z)=[]:=by
  intro ds
  induction ds with
  | nil=>intro _;rfl
  | cons d ds ih=>
   intro h
   unfold SL at ih⊢
   rw[DL,DY,no (h d ymS),ih λd hd=>h d (ymC _ hd)]
   rfl
 intro ds
 induction ds with
 | nil=>intro _ h;cases h
 | cons d ds ih=>
  intro hn hm
  rw[DJ,D9]at hn
  unfold SL at ih⊢
  rw[DL,DY]
  rcases ycM hm with rfl|hm
  ·rw[yes]
   have:=none' (ds:=ds) λd hd e=>hn.1 (DM.mpr ⟨d,hd,e⟩)
   unfold SL at this
   rw[this,D0]
  ·have:d.1≠z:=λe=>hn.1 (DM.mpr ⟨_,hm,e.symm⟩)
   rw[no this,Er]
   exact ih hn.2 hm
theorem uh {w wh:Int}{ds:List (Str×Ru)}{cs:List (Str×List Int)}(h6:H6 ds)(hcs:cs.length<=1000)(hc:∀c∈cs,(∃r,(c.1,r)∈ds)/\c.2.length<=1000){Q:T->Prop}(q:Q (.im (.bl true))):W1 (iF [.im (aH w wh ds),.im (.ls (cs.map bi))]) Q:=by
 obtain⟨hd,hn,hr⟩:=id h6
 have hl:∀p∈ds,p.2.leaves.length<=22:=λp hp=>(hr p hp).1
 have hsf:=nr h6
 have hsl:=gx hl
 refine runP_ok' [some ⟨.ow,.im (aH w wh ds)⟩,some ⟨.ow,.im (.ls (cs.map bi))⟩,none,none,none,none,none,none,none,none] rfl rfl rfl ?_
 unfold f9
 lia
 refine pV hd hn hl ?_
 lia
 refine bp ?_
 lia
 refine nT hd (λp hp=>by have:=hl p hp;omega) ?_
 lia
 refine W1.mono (jd 24 (.tup (aV ds)) (by rw[I.dep];omega) (by rw[I.fit,hsf.1];simp;omega)) λt ht=>?_
 subst ht
 lia
 refine spF ?_
 lia
 refine du (λ_:Unit=>[some ⟨.ow,.im (aH w wh ds)⟩,some ⟨.ow,.im (.ls (cs.map bi))⟩,some ⟨.ow,.li (aV ds)⟩,none,none,none,none,none,none,none]) (λ_ _=>True) ?_
 rw[aH]
 lia
 refine⟨ds.map bF,rfl,by cbv,(),by cbv,trivial,λj x' _ hx' _=>?_,λ_ _=>?_⟩
 ·rw[DG]at hx'
  cases e:ds[j]? with
  | none=>rw[e]at hx';cases hx'
  | some p=>
   rw[e]at hx';cases hx'
   have hp:=ymG e
   have hpr:=hr p hp
   have hpf:=gl hpr.2
   have hdp:=Ru.depth_lt p.2
   have hp1:=hpr.1
   rw[bF]
   lia
   refine bp ?_
   lia
   refine kH (w:=w) (wh:=wh) hn (show(p.1,p.2)∈ds from hp) ?_
   lia
   refine W1.mono (jd 24 (tRu p.2) (by omega) hpf.1) λt ht=>?_
   subst ht
   lia
   refine spF ?_
   lia
   exact⟨(),by cbv,trivial⟩
 lia
 refine du (λ_:Unit=>[some ⟨.ow,.im (aH w wh ds)⟩,some ⟨.ow,.im (.ls (cs.map bi))⟩,some ⟨.ow,.li (aV ds)⟩,none,none,none,none,none,none,none]) (λ_ _=>True) ?_
 lia
 refine⟨cs.map bi,rfl,by cbv,(),by cbv,trivial,λj x' _ hx' _=>?_,λ_ _=>?_⟩
 ·rw[DG]at hx'
  cases e:cs[j]? with
  | none=>rw[e]at hx';cases hx'
  | some c=>
   rw[e]at hx';cases hx'
   obtain⟨⟨r,hrm⟩,hcl⟩:=hc c (ymG e)
   have hrr:=hr _ hrm
   have hrl:=cx r
   have hdl:=ig (rds r)
   have hr1:r.leaves.length<=22:=hrr.1
   have hSl:(SL ds).length<=22*6:=by have:=congrArg EO (xm ds);rw[DH]at this;omega
   lia
   refine du (λD:List (Str×List Int)=>[some ⟨.ow,.im (aH w wh ds)⟩,some ⟨.ow,.im (.ls (cs.map bi))⟩,some ⟨.ow,.li (aV ds)⟩,none,none,some ⟨.ow,.im (bi c)⟩,some ⟨.ow,.li (D.map λp=>bi (p.1,fo c.2 p.2))⟩,none,none,none]) (λi D=>D=((SL ds).take i).filterMap (ofN c.1)) ?_
   lia
   refine⟨(SL ds).map (λq=>aX q.1 q.2),by rw[xm];rfl,by cbv,[],by cbv,rfl,λi y' D hy' hD=>?_,λD hD=>?_⟩
   ·rw[DG]at hy'
    cases e2:(SL ds)[i]? with
    | none=>rw[e2]at hy';cases hy'
    | some s=>
     rw[e2]at hy';cases hy'
     have hDl:D.length<=1000:=by
      rw[hD]
      have:=FU (ofN c.1) ((SL ds).take i)
      rw[D3]at this
      omega
     have hs:((SL ds).take (i+1)).filterMap (ofN c.1)=D++(ofN c.1 s).toList:=by
      rw[aS e2,DY,←hD]
      simp[DZ,List.filterMap_nil]
      cases ofN c.1 s<;>rfl
     lia
     (refine bp ?_;lia;clear_value hz)
     ·lia
      refine hW (λ_:Unit=>[some ⟨.ow,.im (aH w wh ds)⟩,some ⟨.ow,.im (.ls (cs.map bi))⟩,some ⟨.ow,.li (aV ds)⟩,some ⟨.ow,.im (.str s.1)⟩,none,some ⟨.ow,.im (bi c)⟩,some ⟨.ow,.li (D.map λp=>bi (p.1,fo c.2 p.2))⟩,some ⟨.ow,.im (.str s.2.1)⟩,some ⟨.ow,.im (tPl s.2.2)⟩,none]) I.int (λj _ l=>l=fo (c.2.take j) (s.2.2.take j)) ?_
      lia
      refine⟨_,_,false,false,c.2.map .int,s.2.2.map .int,rfl,rfl,rfl,by simp;rw[sizeLine_eq];omega,by cbv,(),by cbv,rfl,λj x y _ l hx hy hP=>?_,λ_ l hP=>?_⟩
      ·obtain⟨x',hx',rfl⟩:=aZ hx
       obtain⟨y',hy',rfl⟩:=aZ hy
       lia
       exact⟨x'+y',(),rfl,by cbv,by rw[hP,kR hx' hy']⟩
      ·rw[DH,DH]at hP
       rw[mZ]at hP
       subst hP
       lia
       refine bo (is:=D.map λp=>bi (p.1,fo c.2 p.2)) (i:=bi (s.2.1,fo c.2 s.2.2)) (by simp;rw[sizeLine_eq];omega) ?_
       ac_nf
       lia
       refine⟨D++[s.2],?_,by rw[hs];unfold ofN;rw[if_pos hz];rfl⟩
       rw[DP]
       try cbv
     ·lia
      exact⟨D,by cbv,by rw[hs];unfold ofN;rw[if_neg hz];simp⟩
   ·rw[DH,DT (DK _),AX hn hrm]at hD
    subst hD
    have hcf:∀i∈(ded (rds r)).map (λp=>bi (p.1,fo c.2 p.2)),i.fit=true/\i.dep<=2:=by
     intro i hi
     obtain⟨p,hp,rfl⟩:=DM.mp hi
     have h2:=ju (fo c.2 p.2) (by unfold fo;rw[List.length_zipWith];omega)
     simp only[bi,tPl,I.fit,I.fits,I.dep,I.deps]at h2⊢
     rw[h2.1]
     exact⟨by simp,by omega⟩
    lia
    refine uK (w:=w) (wh:=wh) hn hrm hr1 hcl ?_
    lia
    refine bp ?_
    lia
    refine qZ (n:=23) (Ew (i3 λi hi=>(hcf i hi).2) (by decide)) (i4 λi hi=>(hcf i hi).1) (by simp;omega) ?_
    lia
    refine spF ?_
    lia
    refine bo (is:=(ded (rds r)).map λp=>bi (p.1,fo c.2 p.2)) (i:=bi c) (by simp;rw[sizeLine_eq];omega) ?_
    ac_nf
    lia
    exact⟨(),by cbv,trivial⟩
 ·lia
  exact q
section
variable  {m:ME}{ρ:Rho}{QF:R->Rho->Prop}{i:Nat}{is:List I}{j:I}{k:Kd}
theorem CT (h:WE m ρ λr ρ1=>∃is,r=⟨.ow,.li is⟩/\QF ⟨.ow,.im (.ls is)⟩ ρ1):WE (pW m) ρ QF:=by with_unfolding_all
 obtain⟨r,ρ1,e,is,rfl,q⟩:=h
 exact⟨_,_,by simp only[pW,e];rfl,q⟩
theorem Az (h : ρ[i]?=some (some ⟨.ow,.li is⟩))(q:QF ⟨.ow,.im (.ls is)⟩ ((aq [i] ρ).set i (some ⟨.ow,.im (.ls is)⟩))):WE (jC i) ρ QF:=by with_unfolding_all
 exact⟨_,_,by simp only[jC,h];rfl,q⟩
theorem oh (h : ρ[i]?=some (some ⟨k,.im j⟩))(q:QF ⟨.ow,.im j⟩ ρ):WE (jC i) ρ QF:=by with_unfolding_all
 exact⟨_,_,by simp only[jC,h];cases k<;>rfl,q⟩
end
theorem y8 {s:Str}{b:Int}(h:1<=b/\b<=1000/\s.length<=1000){Q:T->Prop}(q:Q (.im (.str (oL (DE b.toNat (sL s)).flatten)))):W1 (dl (.im (.str s)) (.im (.int b))) Q:=by with_unfolding_all exact⟨_,if_pos h,q⟩
theorem gz:∀ns:List Int,jq (ns.map .int)=some ns
 | []=>rfl
 | n::ns=>by rw[DJ,jq,gz ns];rfl
theorem BB {a b:List Int}{Q:T->Prop}(q:Q (.im (.bl (HT.lexLt a b)))):W1 (ltT (.im (tPl a)) (.im (tPl b))) Q:=by with_unfolding_all
 refine w1 (x:=.im (.bl (HT.lexLt a b))) ?_ q
 show ltB (a.map .int) (b.map .int)=_
 unfold ltB
 rw[gz,gz]
noncomputable def abc:Str:="abcdef"
theorem ot:(sL abc).length=6:=by decide +kernel
theorem abc_len':abc.length=6:=by decide +kernel
theorem abc_nd:(sL abc).Nodup:=by decide +kernel
theorem uS {a:List Nat}{c:Nat}:oL a++(⟨#[c]⟩:Str)=oL (a++[c]):=by
 show Str.mk _=Str.mk _
 congr 1
 simp[oL]
noncomputable def eig (z:Str) (c:Nat):Str:=oL ((DE 7 (sL z)).flatten.take 7++[c])
noncomputable def Am (k:Nat):List Int:=[(k:Int) % 5-2,(k:Int) / 5-2]
noncomputable def rows25:List (List Int):=(Ee 25).map Am
noncomputable def rowsB:List (List Int):=rows25.filter λr=>HT.lexLt r [0,0]
theorem kG:rowsB.length=12:=by decide +kernel
theorem uj:∀r∈rows25,r.length=2:=by decide +kernel
theorem pY {f:Int×Int}{Q:T->T->Prop}(q:∀wh ds f',1<=ds.length->H6 ds->Q (.im (aH 2 wh ds)) (fT f')):W2 (dH [fT f]) Q:=by
 refine runI_ok' [some ⟨.io 0,fT f⟩,none,none,none,none,none,none,none,none,none,none,none,none] rfl rfl rfl ?_
 unfold ce
 lia
 refine am (by omega) (by omega) λd1 f a1 b1=>?_
 ac_nf
 lia
 refine aY (ns:=[1,2,6]) a1 b1 λm hm _=>?_
 have hm':m=1∨m=2∨m=6:=by simpa using hm
 lia
 refine am (by omega) (by omega) λbw f a2 b2=>?_
 ac_nf
 lia
 refine am (by omega) (by omega) λei f a3 b3=>?_
 ac_nf
 lia
 refine mn (by omega) (by omega) λzs f hzl hzn hzo=>?_
 ac_nf
 lia
 refine am (by omega) (by omega) λwi f a4 b4=>?_
 ac_nf
 lia
 refine WS.mono (Q:=λfl ρ=>fl=.nx/\∃zs':List Str,zs'.length=m.toNat/\zs'.Nodup/\ρ=[some ⟨.io 0,fT f⟩,some ⟨.ow,.im (.int m)⟩,some ⟨.ow,.im (.int bw)⟩,some ⟨.ow,.im (.int ei)⟩,some ⟨.ow,.li (zs'.map .str)⟩,some ⟨.ow,.im (.int wi)⟩,none,none,none,none,none,none,none]) ?_ ?_
 ·(refine bp ?_;lia;clear_value h)
  ·lia
   obtain⟨z0,hz0⟩:∃z0,zs[0]?=some z0:=⟨_,D6 (by omega)⟩
   have hzok:=hzo z0 (ymG hz0)
   refine cD (λ_:Unit=>[some ⟨.io 0,fT f⟩,some ⟨.ow,.im (.int m)⟩,some ⟨.ow,.im (.int bw)⟩,some ⟨.ow,.im (.int ei)⟩,some ⟨.ow,.li (zs.map .str)⟩,some ⟨.ow,.im (.int wi)⟩,none,none,none,none,none,none,none]) I.str (λj _ L=>L=((sL abc).take j).map (eig z0)) ?_
   lia
   refine⟨⟨by omega,by omega⟩,by cbv,(),by cbv,rfl,λj _ L hj hL=>?_,λ_ L hL=>?_⟩
   ·lia
    refine fu (emb:=I.str) (ns:=zs) (by omega) (by simp;omega) λz hz=>?_
    have:z=z0:=by simp at hz hz0;rw[hz0]at hz;exact(D5.inj hz).symm
    subst this
    lia
    refine y8 ⟨by omega,by omega,by have:=hzok.2.1;omega⟩ ?_
    lia
    refine sr (by rw[show∀l:List Nat,(oL l).length=l.length from λl=>by rw[cT,cE]];simp;have h8:z.cps.size<=8:=hzok.2.1;rw[sizeLine_eq];omega) ?_
    lia
    refine nL (s:=abc) (by rw[abc_len',sizeLine_eq];omega) (by omega) (by rw[ot];omega) λc hc=>?_
    lia
    rw[cE,ie (by omega)]
    refine jK (by rw[show∀l:List Nat,(oL l).length=l.length from λl=>by rw[cT,cE]];simp;rw[sizeLine_eq];show _+1<=_;omega) ?_
    refine⟨eig z c,(),?_,by cbv,?_⟩
    ·exact congrArg (λz=>(⟨.ow,.im (.str z)⟩:R)) uS
    ·rw[hL,aS (by simpa using hc),DP];rfl
   ·lia
    refine⟨trivial,L,?_,?_,by cbv⟩
    ·rw[hL,DH,D3,ot];omega
    ·rw[hL]
     refine List.Pairwise.map _ (λa b hab e=>hab ?_) (abc_nd.sublist (GF _ _))
     have:=jI e
     simpa using this
  ·lia
   exact⟨rfl,zs,hzl,hzn,by cbv⟩
 rintro fl ρ ⟨rfl,zs',hzl',hzn',rfl⟩
 lia
 refine cD (λ_:Unit=>[some ⟨.io 0,fT f⟩,some ⟨.ow,.im (.int m)⟩,some ⟨.ow,.im (.int bw)⟩,some ⟨.ow,.im (.int ei)⟩,some ⟨.ow,.li (zs'.map .str)⟩,some ⟨.ow,.im (.int wi)⟩,none,none,none,none,none,none,none]) tPl (λj _ L=>L=(Ee j).map Am) ?_
 lia
 refine⟨⟨by omega,by omega⟩,by cbv,(),by cbv,rfl,λj _ L hj hL=>?_,λ_ L hL=>?_⟩
 ·lia
  exact⟨Am j,(),by cbv,by cbv,by rw[hL,GV,DP];rfl⟩
 have hL':L=rows25:=hL
 subst hL'
 clear hL
 lia
 refine WS.mono (Q:=λfl ρ=>fl=.nx/\∃rows:List (List Int),1<=rows.length/\rows.length<=25/\(∀r∈rows,r.length=2)/\ρ=[some ⟨.io 0,fT f⟩,some ⟨.ow,.im (.int m)⟩,some ⟨.ow,.im (.int bw)⟩,some ⟨.ow,.im (.int ei)⟩,some ⟨.ow,.li (zs'.map .str)⟩,some ⟨.ow,.im (.int wi)⟩,some ⟨.ow,.li (rows.map tPl)⟩,none,none,none,none,none,none]) ?_ ?_
 ·(refine bp ?_;lia;clear_value h)
  ·lia
   refine mV (λ_:Unit=>[some ⟨.io 0,fT f⟩,some ⟨.ow,.im (.int m)⟩,some ⟨.ow,.im (.int bw)⟩,some ⟨.ow,.im (.int ei)⟩,some ⟨.ow,.li (zs'.map .str)⟩,some ⟨.ow,.im (.int wi)⟩,some ⟨.ow,.li (rows25.map tPl)⟩,none,none,none,none,none,none]) tPl (λj _ L=>L=(rows25.take j).filter λr=>HT.lexLt r [0,0]) ?_
   lia
   refine⟨rows25.map tPl,rfl,by rw[DH,sizeLine_eq];decide,by cbv,(),by cbv,rfl,λj x' _ L hx' hL=>?_,λ_ L hL=>?_⟩
   ·rw[DG]at hx'
    cases e:rows25[j]? with
    | none=>rw[e]at hx';cases hx'
    | some y=>
     rw[e]at hx';cases hx'
     lia
     refine BB (a:=y) (b:=[0,0]) ?_
     have ht:(rows25.take (j+1)).filter (λr=>HT.lexLt r [0,0])=L++[y].filter (λr=>HT.lexLt r [0,0]):=by rw[aS e,FI,←hL]
     lia
     clear_value c
     ·lia
      exact⟨y,(),rfl,by cbv,by rw[ht,EA,if_pos c];rfl⟩
     ·exact⟨(),by cbv,by rw[ht,EA,c];simp⟩
   ·rw[DH,DT (DK _)]at hL
    lia
    refine⟨trivial,rowsB,by rw[kG];omega,by rw[kG];omega,λr hr=>uj r (DR.mp hr).1,?_⟩
    rw[show rowsB=L from hL.symm]
    try cbv
  ·lia
   exact⟨rfl,rows25,by decide,by decide,uj,by cbv⟩
 rintro fl ρ ⟨rfl,rows,hr1,hr25,hr2,rfl⟩
 lia
 have hzm:(zs'.length:Int)=m:=by omega
 refine bO (λs:(Int×Int)×List (Str×Ru)=>[some ⟨.io 0,fT s.1⟩,some ⟨.ow,.im (.int m)⟩,some ⟨.ow,.im (.int bw)⟩,some ⟨.ow,.im (.int ei)⟩,some ⟨.ow,.li (zs'.map .str)⟩,some ⟨.ow,.im (.int wi)⟩,some ⟨.ow,.li (rows.map tPl)⟩,some ⟨.ow,.li (s.2.map bF)⟩,none,none,none,none,none]) (λj s=>s.2.map (·.1)=zs'.take j/\∀p∈s.2,RuL p.2) ?_
 lia
 refine⟨⟨by omega,by omega⟩,(f,[]),by cbv,⟨rfl,by simp⟩,λx s hx ⟨hd1,hd2⟩=>?_,λs ⟨hd1,hd2⟩=>?_⟩
 ·obtain⟨f,ds⟩:=s
  dsimp only at hd1 hd2⊢
  have hdl:ds.length=x:=by
   have:=congrArg EO hd1
   rw[DH,D3]at this
   omega
  lia
  refine am (by simp;omega) (by simp;omega) λfi f hf0 hf1=>?_
  ac_nf
  lia
  refine aY (ns:=[11,8]) (by split<;>omega) (by split<;>(simp;try omega)) λy hy _=>?_
  have hy':y=11∨y=8:=by simpa using hy
  lia
  refine am (by omega) (by omega) λc3 f hc0 hc1=>?_
  ac_nf
  lia
  refine WS.mono (Q:=λfl ρ=>fl=.nx/\∃cn:Int,1<=cn/\cn<=11/\ρ=[some ⟨.io 0,fT f⟩,some ⟨.ow,.im (.int m)⟩,some ⟨.ow,.im (.int bw)⟩,some ⟨.ow,.im (.int ei)⟩,some ⟨.ow,.li (zs'.map .str)⟩,some ⟨.ow,.im (.int wi)⟩,some ⟨.ow,.li (rows.map tPl)⟩,some ⟨.ow,.li (ds.map bF)⟩,some ⟨.ow,.im (.int x)⟩,some ⟨.ow,.im (.int fi)⟩,some ⟨.ow,.im (.int cn)⟩,none,none]) ?_ ?_
  ·refine bp ?_
   lia
   clear_value c1
   ·lia
    clear_value c2
    ·lia
     exact⟨trivial,1,by omega,by omega,by cbv⟩
    ·lia
     exact⟨rfl,y-c3,by omega,by omega,by cbv⟩
   ·lia
    refine spF ?_
    lia
    exact⟨rfl,y-c3,by omega,by omega,by cbv⟩
  rintro fl ρ ⟨rfl,cn,hcn1,hcn2,rfl⟩
  lia
  refine bO (λs:(Int×Int)×List Ru=>[some ⟨.io 0,fT s.1⟩,some ⟨.ow,.im (.int m)⟩,some ⟨.ow,.im (.int bw)⟩,some ⟨.ow,.im (.int ei)⟩,some ⟨.ow,.li (zs'.map .str)⟩,some ⟨.ow,.im (.int wi)⟩,some ⟨.ow,.li (rows.map tPl)⟩,some ⟨.ow,.li (ds.map bF)⟩,some ⟨.ow,.im (.int x)⟩,some ⟨.ow,.im (.int fi)⟩,some ⟨.ow,.im (.int cn)⟩,some ⟨.ow,.li (s.2.map tRu)⟩,none]) (λj s=>s.2.length=j/\∀r∈s.2,∃y row,r=Ru.rd y row/\row.length=2) ?_
  lia
  refine⟨⟨by omega,by omega⟩,(f,[]),by cbv,⟨rfl,by simp⟩,λk s hk ⟨hl1,hl2⟩=>?_,λs ⟨hl1,hl2⟩=>?_⟩
  ·obtain⟨f,ls⟩:=s
   dsimp only at hl1 hl2⊢
   lia
   refine am (by omega) (by omega) λdn f hn0 hn1=>?_
   ac_nf
   lia
   refine fu (emb:=I.str) (ns:=zs') hn0 (by omega) λz hz=>?_
   lia
   refine fu (emb:=tPl) (ns:=rows) (ER _ (by first|omega|(simp;omega))) (by have:=Ex (fi+k) (show(0:Int)<(rows.length:Int) by omega);simpa using this) λrow hrow=>?_
   lia
   refine bo (is:=ls.map tRu) (i:=tRu (.rd z row)) (by simp;rw[sizeLine_eq];omega) ?_
   ac_nf
   lia
   refine⟨(f,ls++[Ru.rd z row]),?_,by simp;omega,aP hl2 ⟨z,row,rfl,hr2 row (ymG hrow)⟩⟩
   dsimp only
   rw[DP]
   try cbv
  obtain⟨f,ls⟩:=s
  dsimp only at hl1 hl2⊢
  have hfl:∀l:List Ru,(∀r∈l,∃y row,r=Ru.rd y row/\row.length=2)->l.flatMap Ru.leaves=l:=λl h=>by
   induction l with
   | nil=>rfl
   | cons r l ih=>
    obtain⟨y,row,rfl,_⟩:=h r ymS
    rw[DL,ih λr hr=>h r (ymC _ hr)];rfl
  lia
  refine fu (emb:=I.str) (ns:=zs') (by omega) (by omega) λz hz=>?_
  lia
  refine l6 (rs:=ls) (λe=>by rw[e]at hl1;simp at hl1;omega) (by omega) (λr hr=>by obtain⟨y,row,rfl,_⟩:=hl2 r hr;trivial) λr f hlv hok=>?_
  rw[hfl ls hl2]at hlv
  ac_nf
  lia
  refine bo (is:=ds.map bF) (i:=bF (z,r)) (by simp;rw[sizeLine_eq];omega) ?_
  ac_nf
  lia
  refine⟨(f,ds++[(z,r)]),?_,?_,aP hd2 ⟨by rw[hlv];omega,λy row hm=>?_⟩⟩
  ·dsimp only
   rw[DP]
   try cbv
  ·dsimp only
   rw[DP,hd1,aS (by simpa using hz)];rfl
  ·rw[hlv]at hm
   obtain⟨y',row',e,h2⟩:=hl2 _ hm
   cases e
   omega
 ·obtain⟨f,ds⟩:=s
  dsimp only at hd1 hd2⊢
  rw[DT (by omega)]at hd1
  have hdl:ds.length=zs'.length:=by have:=congrArg EO hd1;rwa [DH]at this
  lia
  refine am (by omega) (by omega) λwh f hw0 hw1=>?_
  ac_nf
  lia
  exact q _ ds f (by omega) ⟨by omega,by rw[hd1];exact hzn',hd2⟩
theorem oM {ns:List Int}{k:Int}(hn:ns.length<=1000)(h1:0<=k)(h2:k<=1000000){Q:T->Prop}(q:∀f,Q (fT f)):W1 (g9 [.li (ns.map .int),.im (.int k)]) Q:=by
 refine runP_ok' [some ⟨.vw none none,.li (ns.map .int)⟩,some ⟨.ow,.im (.int k)⟩,none,none] rfl rfl rfl ?_
 unfold gW
 lia
 refine WS.mono (Q:=λfl ρ=>fl=.nx/\∃cell:Int,ρ=[some ⟨.vw none none,.li (ns.map .int)⟩,some ⟨.ow,.im (.int k)⟩,some ⟨.ow,.im (.int cell)⟩,none]) ?_ ?_
 ·(refine bp ?_;lia;clear_value hk)
  ·rw[DH]at hk
   lia
   refine aY (ns:=ns) h1 hk λy hy _=>?_
   lia
   exact⟨by trivial,y,by first|trivial|cbv⟩
  ·(refine bp ?_;lia;clear_value hl)
   ·rw[DH]at hl
    lia
    rw[DH]
    refine sf (by omega) ?_
    lia
    refine aY (ns:=ns) (ER _ (by omega)) (Ex _ (by omega)) λy hy _=>?_
    lia
    exact⟨by trivial,_,by first|trivial|cbv⟩
   ·lia
    exact⟨by trivial,_,by first|trivial|cbv⟩
 rintro fl ρ ⟨rfl,cell,rfl⟩
 lia
 refine WS.mono (Q:=λfl ρ=>fl=.nx/\∃own:Int,ρ=[some ⟨.vw none none,.li (ns.map .int)⟩,some ⟨.ow,.im (.int k)⟩,some ⟨.ow,.im (.int cell)⟩,some ⟨.ow,.im (.int own)⟩]) ?_ ?_
 ·refine bp ?_
  lia
  refine xz ⟨by omega,by omega,by decide⟩ ?_
  lia
  clear_value hc
  ·lia
   exact⟨by trivial,_,by first|trivial|cbv⟩
  ·lia
   exact⟨by trivial,_,by first|trivial|cbv⟩
 rintro fl ρ ⟨rfl,own,rfl⟩
 lia
 have m0:=ER cell (show(2147483629:Int)≠0 by omega)
 have m1:=Ex cell (show(0:Int)<2147483629 by omega)
 refine xz ⟨by omega,by omega,by omega⟩ ?_
 lia
 exact q (own,_)
structure Ask where
 w:Int
 wh:Int
 ds:List (Str×Ru)
 cs:List (Str×List Int)
noncomputable def gm (a:Ask):I:=.tup [aH a.w a.wh a.ds,.ls (a.cs.map bi)]
def AOk (a:Ask):Prop:=H6 a.ds/\a.cs.length<=1000/\∀c∈a.cs,(∃r,(c.1,r)∈a.ds)/\c.2.length<=1000
theorem HouseOk.h6 {w wh:Int}{ds:List (Str×Ru)}(h:HouseOk 10 w wh ds):H6 ds/\∀p∈ds,p.2.leaves.length<=10:=by
 obtain⟨a1,a2,a3,a4,a5,a6,a7,a8,n,a9,a10⟩:=h
 refine⟨⟨a6,a7,λp hp=>⟨by have:=(a10 p hp).2.1;omega,λx row hm=>?_⟩⟩,λp hp=>(a10 p hp).2.1⟩
 have:=(a10 p hp).2.2.1 _ hm
 have h2:row.length=w.toNat:=this.2
 omega
noncomputable def twi (d:Str×Ru):Str×Ru:=(d.1,.op "max" d.2 d.2)
noncomputable def les (d:Str×Ru):Str×Ru:=(d.1,.num 1)
theorem oW {f:Str×Ru->Str×Ru}(h:∀d,(f d).1=d.1)(ds:List (Str×Ru)):(ds.map f).map (·.1)=ds.map (·.1):=by
 rw[Eg];exact Gw λd _=>h d
theorem j8 {f:Str×Ru->Str×Ru}(h:∀d,(f d).1=d.1){ds:List (Str×Ru)}{c:Str×List Int}(hc:∃r,(c.1,r)∈ds):∃r,(c.1,r)∈ds.map f:=by
 obtain⟨r,hr⟩:=hc
 have e:f (c.1,r)=(c.1,(f (c.1,r)).2):=GY (h _) rfl
 exact⟨(f (c.1,r)).2,e▸DM.mpr ⟨_,hr,rfl⟩⟩
theorem k06_law {ns:List Int}(hn:ns.length<=63):W1 (r_l_law_v3 [.li (ns.map .int)]) λt=>t=.im (.bl true):=by
 refine runP_ok' [some ⟨.vw none none,.li (ns.map .int)⟩,none,none,none,none,none,none,none,none] rfl rfl rfl ?_
 unfold eW
 lia
 refine bO (λas:List Ask=>[some ⟨.vw none none,.li (ns.map .int)⟩,some ⟨.ow,.li (as.map gm)⟩,none,none,none,none,none,none,none]) (λj as=>as.length=4*j/\∀a∈as,AOk a) ?_
 lia
 rw[DH]
 generalize hc:(if(if(7:Int)<(ns.length:Int)then 7 else(ns.length:Int))>2 then(if(7:Int)<(ns.length:Int)then 7 else(ns.length:Int))else 2)=c
 have hc7:2<=c/\c<=7:=by subst hc;split<;>split<;>omega
 refine⟨⟨by omega,by omega⟩,[],by cbv,⟨rfl,by simp⟩,λj as hj ⟨hl,hh⟩=>?_,λas ⟨hl,hh⟩=>?_⟩
 ·lia
  refine oM (ns:=ns) (by omega) (by omega) (by omega) λf=>?_
  lia
  refine rH λw wh ds f hH=>?_
  have h6:=hH.h6
  have hw:1<=w/\w<=3:=⟨hH.1,hH.2.1⟩
  have hd6:1<=ds.length/\ds.length<=6:=⟨hH.2.2.2.2.1,h6.1.1⟩
  ac_nf
  lia
  refine bO (λs:(Int×Int)×List (Str×List Int)=>[some ⟨.vw none none,.li (ns.map .int)⟩,some ⟨.ow,.li (as.map gm)⟩,some ⟨.ow,.im (.int j)⟩,some ⟨.ow,fT s.1⟩,some ⟨.ow,.im (aH w wh ds)⟩,some ⟨.ow,.li (s.2.map bi)⟩,none,none,none]) (λi s=>s.2.length=i/\∀c∈s.2,(∃r,(c.1,r)∈ds)/\c.2.length<=1000) ?_
  lia
  refine am (by omega) (by omega) λtn f ht0 ht1=>?_
  ac_nf
  lia
  refine⟨⟨by omega,by omega⟩,(f,[]),by cbv,⟨rfl,by simp⟩,λi s hi ⟨hl1,hl2⟩=>?_,λs ⟨hl1,hl2⟩=>?_⟩
  ·obtain⟨f,cs⟩:=s
   dsimp only at hl1 hl2⊢
   rw[aH]
   lia
   refine am (by simp;omega) (by simp;omega) λdn f hn0 hn1=>?_
   ac_nf
   lia
   refine yY (emb:=bF) (ns:=ds) hn0 (by simpa using hn1) λd hd=>?_
   lia
   refine mw hw.1 hw.2 λpl f hpl=>?_
   ac_nf
   lia
   refine bo (is:=cs.map bi) (i:=bi (d.1,pl)) (by simp;rw[sizeLine_eq];omega) ?_
   ac_nf
   lia
   refine⟨(f,cs++[(d.1,pl)]),?_,by simp;omega,aP hl2 ⟨⟨d.2,ymG hd⟩,by show pl.length<=1000;omega⟩⟩
   dsimp only
   rw[DP]
   try cbv
  obtain⟨f,cs⟩:=s
  dsimp only at hl1 hl2⊢
  have hcl:cs.length<=1000:=by omega
  rw[aH]
  lia
  refine dL (λ_:Unit=>[some ⟨.vw none none,.li (ns.map .int)⟩,some ⟨.ow,.li (as.map gm)⟩,some ⟨.ow,.im (.int j)⟩,some ⟨.ow,fT f⟩,some ⟨.ow,.im (aH w wh ds)⟩,some ⟨.ow,.li (cs.map bi)⟩,none,none,none]) bF (λk _ L=>L=(ds.take k).map twi) ?_
  rw[aH]
  lia
  refine⟨ds.map bF,rfl,by simp;rw[sizeLine_eq];omega,by cbv,(),by cbv,rfl,λk x' _ L hx' hL=>?_,λ_ L hL=>?_⟩
  ·rw[DG]at hx'
   cases e:ds[k]? with
   | none=>rw[e]at hx';cases hx'
   | some p=>
    rw[e]at hx';cases hx'
    lia
    exact⟨twi p,(),by cbv,by cbv,by rw[hL,aS e,DP];rfl⟩
  rw[DH,DT (DK _)]at hL
  subst hL
  lia
  refine dL (λ_:Unit=>[some ⟨.vw none none,.li (ns.map .int)⟩,some ⟨.ow,.li (as.map gm)⟩,some ⟨.ow,.im (.int j)⟩,some ⟨.ow,fT f⟩,some ⟨.ow,.im (aH w wh ds)⟩,some ⟨.ow,.li (cs.map bi)⟩,none,some ⟨.ow,.im (aH w wh (ds.map twi))⟩,none]) bF (λk _ L=>L=(ds.take k).map les) ?_
  rw[aH]
  lia
  refine⟨ds.map bF,rfl,by simp;rw[sizeLine_eq];omega,by cbv,(),by cbv,rfl,λk x' _ L hx' hL=>?_,λ_ L hL=>?_⟩
  ·rw[DG]at hx'
   cases e:ds[k]? with
   | none=>rw[e]at hx';cases hx'
   | some p=>
    rw[e]at hx';cases hx'
    lia
    exact⟨les p,(),by cbv,by cbv,by rw[hL,aS e,DP];rfl⟩
  rw[DH,DT (DK _)]at hL
  subst hL
  lia
  refine Az rfl ?_
  ac_nf
  lia
  refine oh rfl ?_
  lia
  refine oh rfl ?_
  lia
  refine oh rfl ?_
  lia
  have o1:AOk ⟨w,wh,ds,cs⟩:=⟨h6.1,hcl,hl2⟩
  have o2:AOk ⟨w,wh,ds.map twi,cs⟩:=by
   refine⟨⟨by rw[DH];exact hd6.2,(oW (f:=twi) (λ_=>rfl) ds).symm▸h6.1.2.1,λp hp=>?_⟩,hcl,λc hc=>⟨j8 (f:=twi) (λ_=>rfl) (hl2 c hc).1,(hl2 c hc).2⟩⟩
   obtain⟨d,hd,rfl⟩:=DM.mp hp
   have e:(twi d).2.leaves=d.2.leaves++d.2.leaves:=rfl
   refine⟨by rw[e,DS];have:=h6.2 d hd;omega,λx row hm=>?_⟩
   rw[e]at hm
   exact(h6.1.2.2 d hd).2 x row ((yaM hm).elim id id)
  have o3:AOk ⟨w,wh,ds.map les,cs⟩:=by
   refine⟨⟨by rw[DH];exact hd6.2,(oW (f:=les) (λ_=>rfl) ds).symm▸h6.1.2.1,λp hp=>?_⟩,hcl,λc hc=>⟨j8 (f:=les) (λ_=>rfl) (hl2 c hc).1,(hl2 c hc).2⟩⟩
   obtain⟨d,hd,rfl⟩:=DM.mp hp
   have e:(les d).2.leaves=[.num 1]:=rfl
   refine⟨by rw[e];simp,λx row hm=>?_⟩
   rw[e]at hm
   simp at hm
  refine nJ (is:=as.map gm) (js:=[(⟨w,wh,ds,cs⟩:Ask),⟨w,wh,ds.map twi,cs⟩,⟨w,wh,ds.map les,cs⟩,⟨w,wh,ds,cs⟩].map gm) (by simp;rw[sizeLine_eq];omega) ?_
  ac_nf
  lia
  refine⟨as++[⟨w,wh,ds,cs⟩,⟨w,wh,ds.map twi,cs⟩,⟨w,wh,ds.map les,cs⟩,⟨w,wh,ds,cs⟩],?_,by simp;omega,λa ha=>?_⟩
  ·rw[DP]
   try cbv
  ·rcases yaM ha with ha|ha
   ·exact hh a ha
   ·simp only[Ed,Ec,or_false]at ha
    rcases ha with rfl|rfl|rfl|rfl
    ·exact o1
    ·exact o2
    ·exact o3
    ·exact o1
 lia
 refine oM (ns:=ns) (by omega) (by omega) (by omega) λf=>?_
 lia
 refine pY λwh ds f hd1 h6=>?_
 have hd6:=h6.1
 ac_nf
 lia
 refine CT ?_
 refine dL (λf:Int×Int=>[some ⟨.vw none none,.li (ns.map .int)⟩,some ⟨.ow,.li (as.map gm)⟩,none,some ⟨.ow,fT f⟩,some ⟨.ow,.im (aH 2 wh ds)⟩,none,none,none,none]) bi (λk _ L=>L.length=k/\∀c∈L,(∃r,(c.1,r)∈ds)/\c.2.length<=1000) ?_
 rw[aH]
 lia
 refine⟨ds.map bF,rfl,by simp;rw[sizeLine_eq];omega,by cbv,f,by cbv,⟨rfl,by simp⟩,λk x' f L hx' ⟨hL1,hL2⟩=>?_,λf L ⟨hL1,hL2⟩=>?_⟩
 ·rw[DG]at hx'
  cases e:ds[k]? with
  | none=>rw[e]at hx';cases hx'
  | some p=>
   rw[e]at hx';cases hx'
   lia
   refine mw (by omega) (by omega) λpl f hpl=>?_
   ac_nf
   lia
   exact⟨(p.1,pl),f,by cbv,by cbv,by simp[hL1],aP hL2 ⟨⟨p.2,ymG e⟩,by show pl.length<=1000;omega⟩⟩
 rw[DH]at hL1
 refine⟨L.map bi,rfl,?_⟩
 lia
 refine bo (is:=as.map gm) (i:=gm ⟨2,wh,ds,L⟩) (by simp;rw[sizeLine_eq];omega) ?_
 ac_nf
 lia
 have hh':∀a∈as++[⟨2,wh,ds,L⟩],AOk a:=aP hh ⟨h6,by show L.length<=1000;omega,hL2⟩
 have hll:(as++[(⟨2,wh,ds,L⟩:Ask)]).length<=30:=by simp;omega
 rw[show as.map gm++[gm ⟨2,wh,ds,L⟩]=(as++[(⟨2,wh,ds,L⟩:Ask)]).map gm by rw[DP];rfl]
 generalize as++[(⟨2,wh,ds,L⟩:Ask)]=bs at hh' hll
 refine dL (λ_:Unit=>[some ⟨.vw none none,.li (ns.map .int)⟩,some ⟨.ow,.li (bs.map gm)⟩,none,some ⟨.ow,fT f⟩,some ⟨.ow,.im (aH 2 wh ds)⟩,none,none,none,none]) (λ_:Unit=>I.bl true) (λj _ l=>l.length=j) ?_
 lia
 rw[ie (by omega),←Fx]
 refine lr (is:=bs.map gm) (js:=(bs.take (1:Int).toNat).map gm) (by simp;rw[sizeLine_eq];omega) ?_
 rw[←DP]
 refine⟨(bs++bs.take (1:Int).toNat).map gm,rfl,by simp;rw[sizeLine_eq];omega,by cbv,(),by cbv,rfl,λj x' _ l hx' hl'=>?_,λ_ l hl'=>?_⟩
 ·rw[DG]at hx'
  cases e:(bs++bs.take (1:Int).toNat)[j]? with
  | none=>rw[e]at hx';cases hx'
  | some a=>
   rw[e]at hx';cases hx'
   have hm:a∈bs:=(yaM (ymG e)).elim id λz=>Ep z
   obtain⟨p1,p2,p3⟩:=hh' a hm
   lia
   refine uh p1 p2 p3 ?_
   exact⟨(),(),rfl,by cbv,by simp[hl']⟩
 ·lia
  refine nI ?_
  lia
  try rfl
end L2
namespace K06
open PySem PySem.Spec PyProof.Rows L2
local macro_rules|`(tactic| exfalso)=>`(tactic| exact⟨rfl,rfl,rfl,by decide +kernel,rfl,by decide +kernel,by decide +kernel⟩)
structure Adr (mg:Str->Option Value)(K:yF):Prop where
 d0:Def0 K mg "_law_feed" fQ ["_law_script","_law_k"]
 d1:Def0 K mg "_law_take" fR ["_law_feed_here","_law_many"]
 d2:Def0 K mg "_law_names" ff ["_law_feed_here","_law_many"]
 d3:Def0 K mg "_law_grown" fc ["_law_feed_here","_law_leaves"]
 d4:Def0 K mg "_law_many_house" cA ["_law_feed_here"]
 d5:Def0 K mg "_law_turned_row" cC ["_law_row_here","_law_way","_law_signs"]
 d6:Def0 K mg "_law_row" gF ["_law_feed_here","_law_ways"]
 d7:Def0 K mg "_law_opposed_reads" bI ["_law_feed_here","_law_ways","_law_many"]
 d8:Def0 K mg "_law_free_reads" cy ["_law_feed_here","_law_ways","_law_many"]
 d9:Def0 K mg "_law_back_row" cU ["_law_feed_here","_law_ways"]
 d10:Def0 K mg "_law_late_reads" cz ["_law_feed_here","_law_ways","_law_many"]
 d11:Def0 K mg "_law_ring_reads" cB ["_law_feed_here","_law_ways","_law_many"]
 d12:Def0 K mg "_law_reads" fh ["_law_feed_here"]
 d13:Def0 K mg "_law_house" fe ["_law_feed_here"]
 d14:Def0 K mg "_law_reads_of" cV ["_law_rule"]
 d15:Def0 K mg "_law_steps" fk ["_law_house_here"]
 d16:Def0 K mg "_law_alike" fb ["_law_found","_law_due"]
 d17:Def0 K mg "led" um ["place","row"]
 d18:Def0 K mg "inner_parts" ef ["part"]
 d19:Def0 K mg "parts_of" gG ["rule"]
 d20:Def0 K mg "reads" lL ["rule"]
 d21:Def0 K mg "desk_steps" fm ["name","rule"]
 d22:Def0 K mg "rule_of" iJ ["house","name"]
 d23:Def0 K mg "waits_for" fS ["house","cell"]
 d24:Def0 K mg "steps_of" gH ["house"]
 d25:Def0 K mg "_law_right" fj ["_law_house_here","_law_cells"]
 d26:Def0 K mg "_law_place" fg ["_law_feed_here","_law_ways"]
 d27:Def0 K mg "law" s_law ["_law_script"]
 T:Bi mg
 G:GT K mg
theorem adr_less (mg:Str->Option Value)(K:yF)(a:Addr)(A:Adr mg K)(l:LsAt K a):Adr mg (less K a):=
 ⟨A.d0.less l,A.d1.less l,A.d2.less l,A.d3.less l,A.d4.less l,A.d5.less l,A.d6.less l,A.d7.less l,A.d8.less l,A.d9.less l,A.d10.less l,A.d11.less l,A.d12.less l,A.d13.less l,A.d14.less l,A.d15.less l,A.d16.less l,A.d17.less l,A.d18.less l,A.d19.less l,A.d20.less l,A.d21.less l,A.d22.less l,A.d23.less l,A.d24.less l,A.d25.less l,A.d26.less l,A.d27.less l,A.T,⟨trivial⟩⟩
noncomputable abbrev pm0:Value:=(vs "law_clockhouse_k06_steps_and_waits" 252)
noncomputable abbrev pm1:Value:=(vs "clockhouse.houses" 212)
noncomputable abbrev pm2:Value:=(vs "clockhouse.rules" 187)
noncomputable def KF (P:Params):yF:=[(3,oD [(eO P "__name__" 165 (vs "law_clockhouse_k06_steps_and_waits" 252)),(eO P "__doc__" 166 .none),(eO P "__package__" 167 .none),(eO P "__loader__" 168 (Value.builtin "__main__.__loader__#opaque")),(eO P "__spec__" 169 .none),(eO P "__annotations__" 170 (vr 6)),(eO P "__builtins__" 171 (vr 4)),(eO P "__file__" 173 (vs "/claim/cut.py" 172)),(eO P "__cached__" 174 .none),(eO P "inner_parts" 195 (vr 21)),(eO P "parts_of" 205 (vr 28)),(eO P "reads" 211 (vr 33)),(eO P "desk_steps" 225 (vr 40)),(eO P "steps_of" 231 (vr 45)),(eO P "rule_of" 239 (vr 52)),(eO P "led" 245 (vr 57)),(eO P "waits_for" 251 (vr 62)),(eO P "_law_feed" 263 (vr 69)),(eO P "_law_take" 273 (vr 76)),(eO P "_law_names" 279 (vr 81)),(eO P "_law_row" 285 (vr 86)),(eO P "_law_back_row" 291 (vr 91)),(eO P "_law_free_reads" 297 (vr 96)),(eO P "_law_late_reads" 303 (vr 101)),(eO P "_law_turned_row" 314 (vr 108)),(eO P "_law_opposed_reads" 320 (vr 113)),(eO P "_law_ring_reads" 326 (vr 118)),(eO P "_law_reads" 337 (vr 125)),(eO P "_law_grown" 348 (vr 132)),(eO P "_law_house" 354 (vr 137)),(eO P "_law_many_house" 360 (vr 142)),(eO P "_law_reads_of" 369 (vr 149)),(eO P "_law_steps" 381 (vr 156)),(eO P "_law_alike" 387 (vr 161)),(eO P "_law_place" 393 (vr 166)),(eO P "_law_right" 399 (vr 171)),(eO P "law" 405 (vr 176))] 37),
 (69,oF "_law_feed" fQ pm0 68),
 (68,oc "_law_feed" 254 36 2 63 (some (65,66)) 67 261),
 (76,oF "_law_take" fR pm0 75),
 (75,oc "_law_take" 264 46 2 70 (some (72,73)) 74 271),
 (81,oF "_law_names" ff pm0 80),
 (80,oc "_law_names" 274 54 2 77 none 79 277),
 (132,oF "_law_grown" fc pm0 131),
 (131,oc "_law_grown" 338 133 2 126 (some (128,129)) 130 346),
 (142,oF "_law_many_house" cA pm0 141),
 (141,oc "_law_many_house" 355 156 1 138 none 140 358),
 (108,oF "_law_turned_row" cC pm0 107),
 (107,oc "_law_turned_row" 304 90 3 102 (some (104,105)) 106 312),
 (86,oF "_law_row" gF pm0 85),
 (85,oc "_law_row" 280 67 2 82 none 84 283),
 (113,oF "_law_opposed_reads" bI pm0 112),
 (112,oc "_law_opposed_reads" 315 95 3 109 none 111 318),
 (96,oF "_law_free_reads" cy pm0 95),
 (95,oc "_law_free_reads" 292 75 3 92 none 94 295),
 (91,oF "_law_back_row" cU pm0 90),
 (90,oc "_law_back_row" 286 71 2 87 none 89 289),
 (101,oF "_law_late_reads" cz pm0 100),
 (100,oc "_law_late_reads" 298 81 3 97 none 99 301),
 (118,oF "_law_ring_reads" cB pm0 117),
 (117,oc "_law_ring_reads" 321 109 3 114 none 116 324),
 (125,oF "_law_reads" fh pm0 124),
 (124,oc "_law_reads" 327 121 1 119 (some (121,122)) 123 335),
 (137,oF "_law_house" fe pm0 136),
 (136,oc "_law_house" 349 144 1 133 none 135 352),
 (149,oF "_law_reads_of" cV pm0 148),
 (148,oc "_law_reads_of" 361 174 1 143 (some (145,146)) 147 367),
 (156,oF "_law_steps" fk pm0 155),
 (155,oc "_law_steps" 370 183 1 150 (some (152,153)) 154 379),
 (161,oF "_law_alike" fb pm0 160),
 (160,oc "_law_alike" 382 190 2 157 none 159 385),
 (57,oF "led" um pm1 56),
 (56,oc "led" 240 30 2 53 none 55 243),
 (21,oF "inner_parts" ef pm2 20),
 (20,oc "inner_parts" 189 2 1 15 (some (17,18)) 19 193),
 (28,oF "parts_of" gG pm2 27),
 (27,oc "parts_of" 196 8 1 22 (some (24,25)) 26 203),
 (33,oF "reads" lL pm2 32),
 (32,oc "reads" 206 16 1 29 none 31 209),
 (40,oF "desk_steps" fm pm1 39),
 (39,oc "desk_steps" 214 19 2 34 (some (36,37)) 38 223),
 (52,oF "rule_of" iJ pm1 51),
 (51,oc "rule_of" 232 28 2 46 (some (48,49)) 50 237),
 (62,oF "waits_for" fS pm1 61),
 (61,oc "waits_for" 246 32 2 58 none 60 249),
 (45,oF "steps_of" gH pm1 44),
 (44,oc "steps_of" 226 26 1 41 none 43 229),
 (171,oF "_law_right" fj pm0 170),
 (170,oc "_law_right" 394 201 2 167 none 169 397),
 (166,oF "_law_place" fg pm0 165),
 (165,oc "_law_place" 388 198 2 162 none 164 391),
 (176,oF "law" s_law pm0 175),
 (175,oc "law" 400 218 1 172 none 174 403)]
noncomputable def KL:List Str:=["inner_parts","parts_of","reads","desk_steps","steps_of","rule_of","led","waits_for","_law_feed","_law_take","_law_names","_law_row","_law_back_row","_law_free_reads","_law_late_reads","_law_turned_row","_law_opposed_reads","_law_ring_reads","_law_reads","_law_grown","_law_house","_law_many_house","_law_reads_of","_law_steps","_law_alike","_law_place","_law_right"].map Str.ofString
noncomputable def KH:PySem.W.Hook:=PySem.W.kHook KF [3,69,68,76,75,81,80,132,131,142,141,108,107,86,85,113,112,96,95,91,90,101,100,118,117,125,124,137,136,149,148,156,155,161,160,57,56,21,20,28,27,33,32,40,39,52,51,62,61,45,44,171,170,166,165,176,175] (λ_=>rfl)
noncomputable def KQ:Program:=PySem.W.view PySem.Challenge.pw_clockhouse_k06_steps_and_waits [30]
theorem left:PySem.W.LeftO PySem.Challenge.pw_clockhouse_k06_steps_and_waits KQ KL (λs=>PySem.W.xlAt KQ [] s&&PySem.W.recOk [] s) KH.obs KH.val 4000:=λw=>by rfl'
theorem adr0 (w:World)(mg:Str->Option Value)(h:Heap)(X:(KF w.params).In h)(G:h.Ns mainGlobals mg):Adr mg (KF w.params):=
 ⟨Def0.mkO X G 69 pm0 68 (by2 λ_ _ _ _ _ _ _ _=>rfl),
   Def0.mkO X G 76 pm0 75 (by2 λ_ _ _ _ _ _ _ _=>rfl),
   Def0.mkO X G 81 pm0 80 (by2 λ_ _ _ _ _ _ _ _=>rfl),
   Def0.mkO X G 132 pm0 131 (by2 λ_ _ _ _ _ _ _ _=>rfl),
   Def0.mkO X G 142 pm0 141 (by1 λ_ _ _ _ _ _ _=>rfl),
   Def0.mkO X G 108 pm0 107 (by3 λ_ _ _ _ _ _ _ _ _=>rfl),
   Def0.mkO X G 86 pm0 85 (by2 λ_ _ _ _ _ _ _ _=>rfl),
   Def0.mkO X G 113 pm0 112 (by3 λ_ _ _ _ _ _ _ _ _=>rfl),
   Def0.mkO X G 96 pm0 95 (by3 λ_ _ _ _ _ _ _ _ _=>rfl),
   Def0.mkO X G 91 pm0 90 (by2 λ_ _ _ _ _ _ _ _=>rfl),
   Def0.mkO X G 101 pm0 100 (by3 λ_ _ _ _ _ _ _ _ _=>rfl),
   Def0.mkO X G 118 pm0 117 (by3 λ_ _ _ _ _ _ _ _ _=>rfl),
   Def0.mkO X G 125 pm0 124 (by1 λ_ _ _ _ _ _ _=>rfl),
   Def0.mkO X G 137 pm0 136 (by1 λ_ _ _ _ _ _ _=>rfl),
   Def0.mkO X G 149 pm0 148 (by1 λ_ _ _ _ _ _ _=>rfl),
   Def0.mkO X G 156 pm0 155 (by1 λ_ _ _ _ _ _ _=>rfl),
   Def0.mkO X G 161 pm0 160 (by2 λ_ _ _ _ _ _ _ _=>rfl),
   Def0.mkO X G 57 pm1 56 (by2 λ_ _ _ _ _ _ _ _=>rfl),
   Def0.mkO X G 21 pm2 20 (by1 λ_ _ _ _ _ _ _=>rfl),
   Def0.mkO X G 28 pm2 27 (by1 λ_ _ _ _ _ _ _=>rfl),
   Def0.mkO X G 33 pm2 32 (by1 λ_ _ _ _ _ _ _=>rfl),
   Def0.mkO X G 40 pm1 39 (by2 λ_ _ _ _ _ _ _ _=>rfl),
   Def0.mkO X G 52 pm1 51 (by2 λ_ _ _ _ _ _ _ _=>rfl),
   Def0.mkO X G 62 pm1 61 (by2 λ_ _ _ _ _ _ _ _=>rfl),
   Def0.mkO X G 45 pm1 44 (by1 λ_ _ _ _ _ _ _=>rfl),
   Def0.mkO X G 171 pm0 170 (by2 λ_ _ _ _ _ _ _ _=>rfl),
   Def0.mkO X G 166 pm0 165 (by2 λ_ _ _ _ _ _ _ _=>rfl),
   Def0.mkO X G 176 pm0 175 (by1 λ_ _ _ _ _ _ _=>rfl),
   ⟨bN X G,bN X G,bN X G,bN X G,bN X G,bN X G,bN X G,bN X G,bN X G,bN X G,bN X G,bN X G,bN X G,bN X G,bN X G,bN X G,bN X G,bN X G,bN X G,bN X G,bN X G⟩,⟨trivial⟩⟩
theorem c0:FnScope ["_law_script","_law_k","_law_cell","_law_own"] ["_law_script","_law_k"] (aj fQ):=by exfalso
theorem c1:FnScope ["_law_feed_here","_law_many","_law_digit","_law_one"] ["_law_feed_here","_law_many"] (aj fR):=by exfalso
theorem c2:FnScope ["_law_feed_here","_law_many","_law_letters","_law_stem","_law_first","_law_at","_law_found","_law_k","_law_name"] ["_law_feed_here","_law_many"] (aj ff):=by exfalso
theorem c3:FnScope ["_law_feed_here","_law_leaves","_law_found","_law_at","_law_sign"] ["_law_feed_here","_law_leaves"] (aj fc):=by exfalso
theorem c4:FnScope ["_law_feed_here","_law_many","_law_backward","_law_eights","_law_names_here","_law_wide","_law_rows","_law_desks","_law_x","_law_first","_law_count","_law_leaves","_law_k"] ["_law_feed_here"] (aj cA):=by exfalso
theorem c5:FnScope ["_law_row_here","_law_way","_law_signs","_law_found","_law_k"] ["_law_row_here","_law_way","_law_signs"] (aj cC):=by exfalso
theorem c6:FnScope ["_law_feed_here","_law_ways"] ["_law_feed_here","_law_ways"] (aj gF):=by exfalso
theorem c7:FnScope ["_law_feed_here","_law_ways","_law_many","_law_far","_law_some","_law_way","_law_signs","_law_looks","_law_x","_law_other","_law_row_here"] ["_law_feed_here","_law_ways","_law_many"] (aj bI):=by exfalso
theorem c8:FnScope ["_law_feed_here","_law_ways","_law_many","_law_looks","_law_x","_law_k"] ["_law_feed_here","_law_ways","_law_many"] (aj cy):=by exfalso
theorem c9:FnScope ["_law_feed_here","_law_ways","_law_at","_law_more"] ["_law_feed_here","_law_ways"] (aj cU):=by exfalso
theorem c10:FnScope ["_law_feed_here","_law_ways","_law_many","_law_looks","_law_x","_law_k"] ["_law_feed_here","_law_ways","_law_many"] (aj cz):=by exfalso
theorem c11:FnScope ["_law_feed_here","_law_ways","_law_many","_law_looks","_law_long","_law_rest","_law_k","_law_row_here"] ["_law_feed_here","_law_ways","_law_many"] (aj cB):=by exfalso
theorem c12:FnScope ["_law_feed_here","_law_form","_law_wide","_law_ways","_law_many"] ["_law_feed_here"] (aj fh):=by exfalso
theorem c13:FnScope ["_law_feed_here","_law_ways","_law_looks","_law_wheel","_law_names_here","_law_desks","_law_x","_law_leaves","_law_k","_law_number"] ["_law_feed_here"] (aj fe):=by exfalso
theorem c14:FnScope ["_law_rule","_law_found","_law_part"] ["_law_rule"] (aj cV):=by exfalso
theorem c15:FnScope ["_law_house_here","_law_found","_law_name","_law_rule","_law_other","_law_row_here"] ["_law_house_here"] (aj fk):=by exfalso
theorem c16:FnScope ["_law_found","_law_due"] ["_law_found","_law_due"] (aj fb):=by exfalso
theorem c17:FnScope ["place","row"] ["place","row"] (aj um):=by exfalso
theorem c18:FnScope ["part"] ["part"] (aj ef):=by exfalso
theorem c19:FnScope ["rule","parts","due","part"] ["rule"] (aj gG):=by exfalso
theorem c20:FnScope ["rule"] ["rule"] (aj lL):=by exfalso
theorem c21:FnScope ["name","rule","steps","other","row","step"] ["name","rule"] (aj fm):=by exfalso
theorem c22:FnScope ["house","name"] ["house","name"] (aj iJ):=by exfalso
theorem c23:FnScope ["house","cell","name","place"] ["house","cell"] (aj fS):=by exfalso
theorem c24:FnScope ["house"] ["house"] (aj gH):=by exfalso
theorem c25:FnScope ["_law_house_here","_law_cells","_law_steps_here","_law_name","_law_rule","_law_cell","_law_due","_law_other","_law_row_here","_law_found"] ["_law_house_here","_law_cells"] (aj fj):=by exfalso
theorem c26:FnScope ["_law_feed_here","_law_ways","_law_far"] ["_law_feed_here","_law_ways"] (aj fg):=by exfalso
theorem c27:FnScope ["_law_script","_law_asked","_law_k","_law_feed_here","_law_house_here","_law_cells","_law_turn","_law_twice","_law_less"] ["_law_script"] (aj s_law):=by exfalso
local macro_rules|`(tactic| ac_nf)=>`(tactic| first|exact rj|exact CK.blk rj)
local macro_rules|`(tactic| infer_instance)=>`(tactic| first
 | ((with_reducible show QE _ _ _ _);first|exact B2|exact Cg _|exact Cd|exact Do|exact B1 _|refine Dq (by ac_nf) ?_ ?_|refine Cf _ ?_|refine B5 _ ?_|refine BS (by ac_nf) ?_ ?_|refine Ce (by ac_nf) ?_ ?_|refine B7 (by ac_nf) ?_ ?_|refine B6 (by ac_nf) ?_ ?_|refine zE (by ac_nf) ?_ ?_|refine Cb (by ac_nf) ?_ ?_|refine BX _ (by ac_nf) (by with_reducible assumption) ?_|refine BU (by ac_nf) (by with_reducible first|exact b_len|exact b_max|exact b_min|exact b_all) ?_ ?_|refine Ds (by ac_nf) (by with_reducible first|exact b_tuple|exact b_int|exact b_list|exact b_dict) ?_ ?_|refine BY (by ac_nf) (by with_reducible assumption) ?_|refine Dr (by ac_nf) ?_ ?_ ?_|refine Cc (by ac_nf) ?_|refine B8 _ _ (by ac_nf) (by with_reducible first|exact rV|exact rW|exact rX) ?_ ?_|refine zG _ (by ac_nf) Bn ?_|refine zF (by ac_nf) yz ?_ ?_|refine BV (by ac_nf) ?_ ?_ ?_ (by with_unfolding_all rfl)|refine B3 (by ac_nf) (Bi.b_isinstance (by assumption)) (by with_reducible first|exact Bi.b_bool (by assumption)|exact Bi.b_list (by assumption)|exact Bi.b_str (by assumption)|exact Bi.b_tuple (by assumption)) (by with_reducible first|exact Fq|exact Fc|exact Ft|exact E7) (by decide) ?_|refine B4 (by ac_nf) (Bi.b_isinstance (by assumption)) (by with_reducible first|exact Bi.b_bool (by assumption)|exact Bi.b_list (by assumption)|exact Bi.b_str (by assumption)|exact Bi.b_tuple (by assumption)) (by with_reducible first|exact Fq|exact Fc|exact Ft|exact E7) (by decide) (by with_reducible first|exact Bi.b_bool (by assumption)|exact Bi.b_list (by assumption)|exact Bi.b_str (by assumption)|exact Bi.b_tuple (by assumption)) (by with_reducible first|exact Fq|exact Fc|exact Ft|exact E7) (by decide) ?_|refine BW (by ac_nf) ?_ ?_|refine BZ ?_|refine B9 ?_|refine BT ?_ ?_|refine Ca ?_)
 | ((with_reducible show QA _ _ _ _);first|exact zH|refine tq _ ?_|refine wc ?_ ?_)
 | ((with_reducible show QSs _ _ _ _);first|exact zN|exact iC|refine wm _ ?_|refine wg ?_ ?_|refine zO ?_)
 | ((with_reducible show QS _ _ _ _);first|refine zR _ ?_ ?_|refine zQ ?_|refine wj ?_|refine zL ?_ ?_|refine zP _ _ (by ac_nf) ?_ ?_|refine wl _ _ _ (by ac_nf) ?_ ?_|refine Ch ?_ ?_ ?_|refine zM (by ac_nf) (λ_=>PassesOwn.never) ?_ ?_ ?_|refine tz (λ_=>PassesOwn.never) ?_ ?_|refine qs_fgt _ ?_)
 | ((with_reducible show QT _ _ _ _);first|refine zS (by ac_nf) ?_ ?_ ?_ (by with_unfolding_all rfl)|refine zT ?_|refine zU (by ac_nf) ?_|refine zV ?_|refine QW.t ?_)
 | ((with_reducible show QW _ _ _ _);first|refine zW ?_ ?_|refine Ci ?_ ?_|refine wp ?_|refine zX ?_)
 | ((with_reducible show QG _ _ _ _ _);first|refine wd _ ?_|refine tw (by ac_nf) (fM ?_ (fM ?_ o4))|refine tw (by ac_nf) (fM ?_ (fM ?_ (fM ?_ o4)))|refine zI _ ?_ ?_|refine tu _ ?_ ?_ ?_)
 | ((with_reducible show QI _ _ _ _ _);first|refine qv (by ac_nf) ?_ ?_|refine qw (by ac_nf) ?_ ?_|refine zK (by ac_nf) ?_ ?_|refine zJ (by ac_nf) ?_)
 | ((with_reducible show QO _ _ _ _);first|exact we|refine wf ?_)
 | ((with_reducible show QTs _ _ _ _);first|exact wn|refine wo ?_)
 | ((with_reducible show fA _ _);first|exact C8|exact C9|exact Da|exact Db|exact Dc|exact A2|exact Dd|exact A3)
 | ((with_reducible show∀_,List.Nodup _);intro _;first|assumption|exact iR (by rfl'))
 | with_reducible first|assumption|exact Bi.b_all (by assumption)|exact Bi.b_bool (by assumption)|exact Bi.b_dict (by assumption)|exact Bi.b_int (by assumption)|exact Bi.b_isinstance (by assumption)|exact Bi.b_len (by assumption)|exact Bi.b_list (by assumption)|exact Bi.b_max (by assumption)|exact Bi.b_min (by assumption)|exact Bi.b_str (by assumption)|exact Bi.b_tuple (by assumption))
local macro_rules|`(tactic| lia)=>`(tactic| repeat' (first|infer_instance|fail))
section
variable  {P:Program}{W:World}{K:yF}{mg:Str->Option Value}{base:Heap}(A:Adr mg K)
include A
theorem v0:Has P W K mg base 1 "_law_feed" ["_law_script","_law_k"] (spP K g9):=by
 have:=c0.nd;have:=A.T
 refine Def.qp A.d0.to c0 (m:=gW) ?_ (λ_=>rfl)
 unfold gW
 lia
theorem v1:Has P W K mg base 1 "_law_take" ["_law_feed_here","_law_many"] (spI K 0 ai):=by
 have:=c1.nd;have:=A.T
 refine Def.qi A.d1.to c1 (m:=gX) ?_ (λ_=>rfl)
 unfold gX
 lia
theorem v2:Has P W K mg base 2 "_law_names" ["_law_feed_here","_law_many"] (spI K 0 ge):=by
 have:=@v1 P W K mg base A
 have:=c2.nd;have:=A.T
 refine Def.qi A.d2.to c2 (m:=f6) ?_ (λ_=>rfl)
 unfold f6
 lia
 ·refine bv (N':=["_law_feed_here","_law_many","_law_letters","_law_stem","_law_first","_law_at","_law_found","_law_k","_law_name"]) (by ac_nf) (λ_=>Blk.of (by rfl')) ?_ ?_ ?_ ?_<;>lia
theorem v3:Has P W K mg base 2 "_law_grown" ["_law_feed_here","_law_leaves"] (spI K 0 gd):=by
 have:=@v1 P W K mg base A
 have:=c3.nd;have:=A.T
 refine Def.qi A.d3.to c3 (m:=fY) ?_ (λ_=>rfl)
 unfold fY
 lia
theorem v4:Has P W K mg base 3 "_law_many_house" ["_law_feed_here"] (spI K 0 dH):=by
 have:=@v1 P W K mg base A
 have:=@v2 P W K mg base A
 have:=@v3 P W K mg base A
 have:=c4.nd;have:=A.T
 refine Def.qi A.d4.to c4 (m:=ce) ?_ (λ_=>rfl)
 unfold ce
 lia
 ·refine bv (N':=["_law_feed_here","_law_many","_law_backward","_law_eights","_law_names_here","_law_wide","_law_rows","_law_desks","_law_x","_law_first","_law_count","_law_leaves","_law_k"]) (by ac_nf) (λ_=>Blk.of (by rfl')) ?_ ?_ ?_ ?_<;>lia
 ·refine bV _ (N':=["_law_feed_here","_law_many","_law_backward","_law_eights","_law_names_here","_law_wide","_law_rows","_law_desks","_law_x","_law_first","_law_count","_law_leaves","_law_k"]) (by ac_nf) (λ_=>(by first|assumption|exact iR (by rfl'))) (λ_=>Blk.of (by rfl')) ?_ ?_ ?_ ?_<;>lia
 ·refine bV _ (N':=["_law_feed_here","_law_many","_law_backward","_law_eights","_law_names_here","_law_wide","_law_rows","_law_desks","_law_x","_law_first","_law_count","_law_leaves","_law_k","_law_row_here"]) (by ac_nf) (λ_=>(by first|assumption|exact iR (by rfl'))) (λ_=>Blk.of (by rfl')) ?_ ?_ ?_ ?_<;>lia
theorem v5:Has P W K mg base 1 "_law_turned_row" ["_law_row_here","_law_way","_law_signs"] (spP K cv):=by
 have:=c5.nd;have:=A.T
 refine Def.qp A.d5.to c5 (m:=cg) ?_ (λ_=>rfl)
 unfold cg
 lia
theorem v6:Has P W K mg base 2 "_law_row" ["_law_feed_here","_law_ways"] (spI K 0 i8):=by
 have:=@v1 P W K mg base A
 have:=c6.nd;have:=A.T
 refine Def.qi A.d6.to c6 (m:=i5) ?_ (λ_=>rfl)
 unfold i5
 lia
 ·refine bv (N':=["_law_feed_here","_law_ways","_law_k"]) (by ac_nf) (λ_=>Blk.of (by rfl')) ?_ ?_ ?_ ?_<;>lia
theorem v7:Has P W K mg base 3 "_law_opposed_reads" ["_law_feed_here","_law_ways","_law_many"] (spI K 0 cr):=by
 have:=@v1 P W K mg base A
 have:=@v5 P W K mg base A
 have:=@v6 P W K mg base A
 have:=c7.nd;have:=A.T
 refine Def.qi A.d7.to c7 (m:=bD) ?_ (λ_=>rfl)
 unfold bD
 lia
 ·refine bv (N':=["_law_feed_here","_law_ways","_law_many","_law_far","_law_some","_law_way","_law_signs","_law_looks","_law_x","_law_other","_law_row_here","_law_k"]) (by ac_nf) (λ_=>Blk.of (by rfl')) ?_ ?_ ?_ ?_<;>lia
 ·refine bV _ (N':=["_law_feed_here","_law_ways","_law_many","_law_far","_law_some","_law_way","_law_signs","_law_looks","_law_x","_law_other","_law_row_here"]) (by ac_nf) (λ_=>(by first|assumption|exact iR (by rfl'))) (λ_=>Blk.of (by rfl')) ?_ ?_ ?_ ?_<;>lia
theorem v8:Has P W K mg base 3 "_law_free_reads" ["_law_feed_here","_law_ways","_law_many"] (spI K 0 dF):=by
 have:=@v1 P W K mg base A
 have:=@v6 P W K mg base A
 have:=c8.nd;have:=A.T
 refine Def.qi A.d8.to c8 (m:=cb) ?_ (λ_=>rfl)
 unfold cb
 lia
 ·refine bV _ (N':=["_law_feed_here","_law_ways","_law_many","_law_looks","_law_x","_law_k"]) (by ac_nf) (λ_=>(by first|assumption|exact iR (by rfl'))) (λ_=>Blk.of (by rfl')) ?_ ?_ ?_ ?_<;>lia
theorem v9:Has P W K mg base 2 "_law_back_row" ["_law_feed_here","_law_ways"] (spI K 0 dq):=by
 have:=@v1 P W K mg base A
 have:=c9.nd;have:=A.T
 refine Def.qi A.d9.to c9 (m:=df) ?_ (λ_=>rfl)
 unfold df
 lia
 ·refine bV _ (N':=["_law_feed_here","_law_ways","_law_at","_law_more","_law_k"]) (by ac_nf) (λ_=>(by first|assumption|exact iR (by rfl'))) (λ_=>Blk.of (by rfl')) ?_ ?_ ?_ ?_<;>lia
theorem v10:Has P W K mg base 3 "_law_late_reads" ["_law_feed_here","_law_ways","_law_many"] (spI K 0 cq):=by
 have:=@v1 P W K mg base A
 have:=@v9 P W K mg base A
 have:=c10.nd;have:=A.T
 refine Def.qi A.d10.to c10 (m:=cc) ?_ (λ_=>rfl)
 unfold cc
 lia
 ·refine bV _ (N':=["_law_feed_here","_law_ways","_law_many","_law_looks","_law_x","_law_k"]) (by ac_nf) (λ_=>(by first|assumption|exact iR (by rfl'))) (λ_=>Blk.of (by rfl')) ?_ ?_ ?_ ?_<;>lia
theorem v11:Has P W K mg base 4 "_law_ring_reads" ["_law_feed_here","_law_ways","_law_many"] (spI K 0 dI):=by
 have:=@v10 P W K mg base A
 have:=@v1 P W K mg base A
 have:=c11.nd;have:=A.T
 refine Def.qi A.d11.to c11 (m:=cf) ?_ (λ_=>rfl)
 unfold cf
 lia
 ·refine bv (N':=["_law_feed_here","_law_ways","_law_many","_law_looks","_law_long","_law_rest","_law_k","_law_row_here","_law_j"]) (by ac_nf) (λ_=>Blk.of (by rfl')) ?_ ?_ ?_ ?_<;>lia
 ·refine bv (N':=["_law_feed_here","_law_ways","_law_many","_law_looks","_law_long","_law_rest","_law_k","_law_row_here","_law_j"]) (by ac_nf) (λ_=>Blk.of (by rfl')) ?_ ?_ ?_ ?_<;>lia
 ·refine bv (N':=["_law_feed_here","_law_ways","_law_many","_law_looks","_law_long","_law_rest","_law_k","_law_row_here","_law_number"]) (by ac_nf) (λ_=>Blk.of (by rfl')) ?_ ?_ ?_ ?_<;>lia
 ·refine bv (N':=["_law_feed_here","_law_ways","_law_many","_law_looks","_law_long","_law_rest","_law_k","_law_row_here","_law_j"]) (by ac_nf) (λ_=>Blk.of (by rfl')) ?_ ?_ ?_ ?_<;>lia
theorem v12:Has P W K mg base 5 "_law_reads" ["_law_feed_here"] (spI K 0 iE):=by
 have:=@v1 P W K mg base A
 have:=@v8 P W K mg base A
 have:=@v10 P W K mg base A
 have:=@v11 P W K mg base A
 have:=@v7 P W K mg base A
 have:=c12.nd;have:=A.T
 refine Def.qi A.d12.to c12 (m:=f8) ?_ (λ_=>rfl)
 unfold f8
 lia
theorem v13:Has P W K mg base 6 "_law_house" ["_law_feed_here"] (spI K 0 iD):=by
 have:=@v12 P W K mg base A
 have:=@v1 P W K mg base A
 have:=@v2 P W K mg base A
 have:=@v3 P W K mg base A
 have:=c13.nd;have:=A.T
 refine Def.qi A.d13.to c13 (m:=fZ) ?_ (λ_=>rfl)
 unfold fZ
 lia
 ·refine bV _ (N':=["_law_feed_here","_law_ways","_law_looks","_law_wheel","_law_names_here","_law_desks","_law_x","_law_leaves","_law_k","_law_number","_law_other","_law_row_here"]) (by ac_nf) (λ_=>(by first|assumption|exact iR (by rfl'))) (λ_=>Blk.of (by rfl')) ?_ ?_ ?_ ?_<;>lia
theorem v14:∀n,Has P W K mg base (1+n) "_law_reads_of" ["_law_rule"] (spP K (cu n))
 | 0=>Def.qp A.d14.to c14 (m:=iu) iC (λ_=>rfl)
 | n+1=>by
  have h_l_reads_of:=v14 n
  have:=c14.nd;have:=A.T
  refine Def.qp (k:=1+n) A.d14.to c14 (m:=dg (cu n)) ?_ (λ_=>rfl)
  unfold dg
  lia
theorem v15:Has P W K mg base 26 "_law_steps" ["_law_house_here"] (spP K iG):=by
 have:=@v14 P W K mg base A 24
 have:=c15.nd;have:=A.T
 refine Def.qp A.d15.to c15 (m:=ga) ?_ (λ_=>rfl)
 unfold ga
 lia
theorem v16:∀n,Has P W K mg base (1+n) "_law_alike" ["_law_found","_law_due"] (spP K (bX n))
 | 0=>Def.qp A.d16.to c16 (m:=iu) iC (λ_=>rfl)
 | n+1=>by
  have h_l_alike:=v16 n
  have:=c16.nd;have:=A.T
  refine Def.qp (k:=1+n) A.d16.to c16 (m:=eJ (bX n)) ?_ (λ_=>rfl)
  unfold eJ
  lia
  ·refine bv (N':=["_law_found","_law_due","_law_one","_law_other"]) (by ac_nf) (λ_=>Blk.of (by rfl')) ?_ ?_ ?_ ?_<;>lia
theorem v17:Has P W K mg base 1 "led" ["place","row"] (spP K lB):=by
 have:=c17.nd;have:=A.T
 refine Def.qp A.d17.to c17 (m:=i6) ?_ (λ_=>rfl)
 unfold i6
 lia
 ·refine bv (N':=["place","row","number","more"]) (by ac_nf) (λ_=>Blk.of (by rfl')) ?_ ?_ ?_ ?_<;>lia
theorem v18:Has P W K mg base 1 "inner_parts" ["part"] (spP K cR):=by
 have:=c18.nd;have:=A.T
 refine Def.qp A.d18.to c18 (m:=bU) ?_ (λ_=>rfl)
 unfold bU
 lia
theorem v19:Has P W K mg base 2 "parts_of" ["rule"] (spP K e7):=by
 have:=@v18 P W K mg base A
 have:=c19.nd;have:=A.T
 refine Def.qp A.d19.to c19 (m:=dh) ?_ (λ_=>rfl)
 unfold dh
 lia
theorem v20:Has P W K mg base 3 "reads" ["rule"] (spP K iH):=by
 have:=@v19 P W K mg base A
 have:=c20.nd;have:=A.T
 refine Def.qp A.d20.to c20 (m:=gb) ?_ (λ_=>rfl)
 unfold gb
 lia
 ·refine bv (N':=["rule","part"]) (by ac_nf) (λ_=>Blk.of (by rfl')) ?_ ?_ ?_ ?_<;>lia
theorem v21:Has P W K mg base 4 "desk_steps" ["name","rule"] (spP K cw):=by
 have:=@v20 P W K mg base A
 have:=c21.nd;have:=A.T
 refine Def.qp A.d21.to c21 (m:=ci) ?_ (λ_=>rfl)
 unfold ci
 lia
theorem v22:Has P W K mg base 1 "rule_of" ["house","name"] (spP K dW):=by
 have:=c22.nd;have:=A.T
 refine Def.qp A.d22.to c22 (m:=dP) ?_ (λ_=>rfl)
 unfold dP
 lia
theorem v23:Has P W K mg base 5 "waits_for" ["house","cell"] (spP K ee):=by
 have:=@v21 P W K mg base A
 have:=@v22 P W K mg base A
 have:=@v17 P W K mg base A
 have:=c23.nd;have:=A.T
 refine Def.qp A.d23.to c23 (m:=cK) ?_ (λ_=>rfl)
 unfold cK
 lia
 ·refine bv (N':=["house","cell","name","place","own","other","row"]) (by ac_nf) (λ_=>Blk.of (by rfl')) ?_ ?_ ?_ ?_<;>lia
theorem v24:Has P W K mg base 5 "steps_of" ["house"] (spP K e8):=by
 have:=@v21 P W K mg base A
 have:=c24.nd;have:=A.T
 refine Def.qp A.d24.to c24 (m:=dk) ?_ (λ_=>rfl)
 unfold dk
 lia
 ·refine wb (N':=["house","name","rule","step"]) (by ac_nf) (λ_=>Blk.of (by rfl')) rfl ?_ ?_ ?_ ?_ ?_ ?_<;>lia
theorem v25:Has P W K mg base 27 "_law_right" ["_law_house_here","_law_cells"] (spP K iF):=by
 have:=@v15 P W K mg base A
 have:=@v16 P W K mg base A 24
 have:=@v24 P W K mg base A
 have:=@v22 P W K mg base A
 have:=@v23 P W K mg base A
 have:=c25.nd;have:=A.T
 refine Def.qp A.d25.to c25 (m:=f9) ?_ (λ_=>rfl)
 unfold f9
 lia
 ·refine bv (N':=["_law_house_here","_law_cells","_law_steps_here","_law_name","_law_rule","_law_cell","_law_due","_law_other","_law_row_here","_law_found","_law_one","_law_more"]) (by ac_nf) (λ_=>Blk.of (by rfl')) ?_ ?_ ?_ ?_<;>lia
theorem v26:Has P W K mg base 2 "_law_place" ["_law_feed_here","_law_ways"] (spI K 0 gf):=by
 have:=@v1 P W K mg base A
 have:=c26.nd;have:=A.T
 refine Def.qi A.d26.to c26 (m:=f7) ?_ (λ_=>rfl)
 unfold f7
 lia
 ·refine bv (N':=["_law_feed_here","_law_ways","_law_far","_law_k"]) (by ac_nf) (λ_=>Blk.of (by rfl')) ?_ ?_ ?_ ?_<;>lia
theorem v27:Has P W K mg base 28 "law" ["_law_script"] (spP K r_l_law_v3):=by
 have:=@v0 P W K mg base A
 have:=@v13 P W K mg base A
 have:=@v1 P W K mg base A
 have:=@v26 P W K mg base A
 have:=@v4 P W K mg base A
 have:=@v25 P W K mg base A
 have:=c27.nd;have:=A.T
 refine Def.qp A.d27.to c27 (m:=eW) ?_ (λ_=>rfl)
 unfold eW
 lia
 ·refine bv (N':=["_law_script","_law_asked","_law_k","_law_feed_here","_law_house_here","_law_cells","_law_turn","_law_twice","_law_less","_law_name","_law_rule"]) (by ac_nf) (λ_=>Blk.of (by rfl')) ?_ ?_ ?_ ?_<;>lia
 ·refine bv (N':=["_law_script","_law_asked","_law_k","_law_feed_here","_law_house_here","_law_cells","_law_turn","_law_twice","_law_less","_law_name","_law_rule"]) (by ac_nf) (λ_=>Blk.of (by rfl')) ?_ ?_ ?_ ?_<;>lia
 ·refine bv (N':=["_law_script","_law_asked","_law_k","_law_feed_here","_law_house_here","_law_cells","_law_turn","_law_twice","_law_less","_law_name","_law_rule"]) (by ac_nf) (λ_=>Blk.of (by rfl')) ?_ ?_ ?_ ?_<;>lia
 ·refine bv (N':=["_law_script","_law_asked","_law_k","_law_feed_here","_law_house_here","_law_cells","_law_turn","_law_twice","_law_less"]) (by ac_nf) (λ_=>Blk.of (by rfl')) ?_ ?_ ?_ ?_<;>lia
end
end K06
open PySem PySem.W PyProof.Rows
set_option maxRecDepth 100000 in
set_option maxHeartbeats 0 in
theorem PySem.Challenge.cw_clockhouse_k06_steps_and_waits_holds : PySem.Challenge.rw_clockhouse_k06_steps_and_waits.Holds := by
 refine holds_law K06.ws λsaid=>?_
 refine holds_open (q:=K06.KQ) (loose:=K06.KL) (XP:=XL K06.KQ []) (YP:=K06.KH.says) K06.left K06.KH.of K06.KH.keeps (λs e=>xl_of s (Gr.mp e).1) XL.keeps (by rfl) (by rfl) (by rfl) (λs e=>recFacts_of (Gr.mp e).2) (by rfl) said (by rfl') ⟨rfl,rfl,rfl,rfl,rfl,by decide +kernel⟩ ?hw ?hc
 case hw=>w_witness2
 exact L2.walkP (l:=PySem.Challenge.rw_clockhouse_k06_steps_and_waits) (k:=28) (x:="_law_script") (st:=K06.s_law) (run:=L2.r_l_law_v3) (A:=K06.Adr) (K:=K06.KF) rfl rfl ⟨rfl,by decide,by decide⟩ (λw h Y=>Y) K06.adr0 K06.adr_less (λmg K A=>A.d27.to) (λ_ _ _ _ _ _ s v=>.of_eq rfl) (λw mg K base A=>K06.v27 A) (λns hn=>by obtain⟨t,h1,h2⟩:=L2.k06_law (ns:=ns) hn;rw[h1,h2])
