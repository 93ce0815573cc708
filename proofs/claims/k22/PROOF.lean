import PyProof.Rows.All
import Wide.All
import OpenK.AllK
import Wide.FinOn
import Lean
import PyProof.EqAt
import PyProof.EqKinds
import PyProof.TupleCall
import PyProof.CompFree
import PyProof.ConsumeWalk
import PyProof.StrWalks
import PyProof.SliceStr2
import PyProof.Rows.StrJoin2
import PyProof.StrOps2
import PyProof.ListMulRoad
import PyProof.TupleOps
import PyProof.NeKinds
import KE.KRevIter
import PyProof.Rows.SortWalk
import PyProof.Draws
import PyProof.EnumMake
import PyProof.AutoListH
import PyProof.ZipIter
import KE.KDictOf
import PyProof.AttrMissHeap
import KE.KDictList
import PyProof.SumWalkG
import PyProof.ReprRoads
import PySem.Challenge.RW_clockhouse_k22_gains_of_steps
set_option Elab.async false
set_option linter.all false
set_option maxRecDepth 100000
set_option maxHeartbeats 4000000
set_option genSizeOf false
set_option compiler.extract_closed false
open List renaming getElem?_eq_some_iff → DR,map_cons → DS,size_toArray → DT,replicate → DV,nodup_append → DW,length_map → DX,getElem?_map → DZ,flatMap_cons → D3,mem_map → D4,length_cons → D5,flatMap_append → D6,mem_filter → D7,length_append → D8,map_append → D9,append_assoc → Ea,getD_eq_getElem?_getD → Eb,getElem?_set_ne → Ef,take_of_length_le → Eg,getElem?_eq_getElem → Eh,filterMap_cons → Ei,cons_append → Ej,filterMap_append → Ek,append_nil → El,map_map → Eo,nodup_cons → Ep,mem_cons → Er,range → Es,perm_middle → Et,mem_map_of_mem → Eu,length_take → Ew,not_mem_nil → Ex,mem_filterMap → Ey,replicate_succ → Ez,lookup_cons → EA,getElem?_append_left → EF,all_eq_true → EH,length_eq_zero_iff → EI,mem_of_mem_take → EJ,nil_append → EK,getElem?_set_self → EL,length_drop → EM,mem_flatMap → EN,filter_sublist → EQ,cons → ES,contains_eq_mem → ET,getElem?_cons_succ → EU,getElem?_append_right → EW,flatten_cons → EX,drop_eq_getElem_cons → EZ,all_cons → E6,map_nil → E7,mem_range → E8,length → E9,getElem?_cons_zero → Fa,filter_eq_self → Fc,getElem_cons_drop → Fe,filter_cons → Fg,nodup_nil → Fi,mem_iff_getElem? → Fj,getElem?_zip_eq_some → Fk,ext_getElem? → Fn,mem_of_mem_drop → Fo,eq_nil_of_length_eq_zero → Fq,length_eq_one_iff → Fs,mem_replicate → Ft,map_take → Fu,take_append_drop → Fv,reverse_cons → Fw,take_length → FA,getElem?_take_of_lt → FC,length_set → FE,forIn_cons → FF,filterMap_map → FH,append_of_mem → FI,take_add_one → FK,drop_length → FL,flatMap_nil → FM,map_drop → FN,lookup → FO,getLast?_append → FP,mem_append → FQ,foldl_cons → FR,filter_map → FT,length_zip → FU,find?_cons → FV,sum_append → FW,range_succ → FY,all_nil → F3,filter_filter → F6,perm_ext_iff_of_nodup → F7,any_cons → Gb,append_cancel_right → Gd,sum_cons → Ge,filterMap_cons_none → Gf,getElem?_replicate → Gg,flatMap_eq_nil_iff → Gn,map_reverse → Go,foldl → Gp,toArray → Gq,range_succ_eq_map → Gr,sublist_cons_self → Gs,map_set → Gv,of_mem_zip → Gx,head?_drop → Gz,getElem?_eq_none → GB,dropLast_eq_take → GC,perm_append_comm → GD,set_append_left → GI,drop_drop → GJ,take_succ → GK,getElem?_range → GN,length_reverse → GO,reverse_append → GP,length_flatMap → GQ,filter_append → GU,set_cons_succ → GV,zip_cons_cons → GX,map_inj_right → GY,map_singleton → GZ,mem_flatten → Hb,sum_reverse → He,forIn_nil → Hj,drop_zero → Hk,take_zero → Hl
open Bool renaming and_eq_true → DU,false_ne_true → D0,not_eq_true' → EB,eq_iff_iff → EY,and_eq_true_iff → Fy,and_self → FD,or_eq_true → FS,false_eq_true → F5,and_true → Gc,and_false → GG,false_or → GR,true_and → GS,not_eq_true → Ha,false_and → Hi,not_false → Hm,true_or → Hs
open Nat renaming le_refl → DY,lt_of_lt_of_le → Ec,ne_of_lt → Ed,le_trans → Ev,zero_add → EG,le_add_right → ER,lt_irrefl → EV,lt_of_le_of_lt → E3,zero_le → Ff,zero_lt_succ → Fp,ne_of_gt → Fz,min_eq_left → FX,le_of_lt → FZ,mod_lt → F8,lt_succ_of_lt → Ga,lt_succ_self → Gj,le_max_right → Gk,le_max_left → Gy,le_of_ble_eq_true → GF,mul_le_mul → GH,add_le_add_left → GM,succ_mul → G4,mul_comm → G5,lt_trans → G8,not_lt_zero → Hg,zero_lt_one → Hh,min_self → Ht,le_succ → HD,log2_lt → HE
open Int renaming toNat_natCast → Ee,emod_lt_of_pos → E4,emod_nonneg → Fm,eq_ofNat_of_zero_le → Gi,ediv_one → Hr,zero_add → Hu
open Option renaming some → Em,map_eq_some_iff → EC,isSome_iff_exists → FB,map_some → FG,getD_none → Gh
open PyProof.Rows renaming slot_tuple_getitem → ED,callWith_type1 → Fd,boot_list → Gw,boot_int → GE,callWith_builtin1 → G9,boot_tuple → Hn,boot_dict → Hv,boot_repr → Hw,boot_bool → Hy,boot_min → Hz,boot_max → HA,boot_sum → HB
open Array renaming length_toList → EO,getElem?_toList → GA,size_append → G6,toList → Ho
open PySem.W renaming fnOf → E5,keepIn → Fh,codeIn → Fx,cellsFrom_some → FJ,findIn → F4,methodObj → F9,kitOne → GL,specialIn → G3,nsIn → G7,instObj → Hf
open PySem renaming mem_of_lookup → Fb,seqSlot_of → Hc
open Prod renaming ext → HC
local macro_rules|`(tactic| rfl')=>`(tactic| kernel_rfl)
theorem K22.ws:PySem.Challenge.rw_clockhouse_k22_gains_of_steps.wellSaid=true:=by rfl'
theorem yaR {α:Type}{b : α}(x:List α){y:List α}(h:b∈y):b∈x++y:=List.mem_append_right x h
theorem yaL {α:Type}{b : α}{x:List α}(y:List α)(h:b∈x):b∈x++y:=List.mem_append_left y h
theorem ymS {α:Type}{b : α}{x:List α}:b∈b::x:=List.mem_cons_self
theorem ymC {α:Type}{b : α}(y : α){x:List α}(h:b∈x):b∈y::x:=List.mem_cons_of_mem y h
theorem yaM {α:Type}{b : α}{x y:List α}(h:b∈x++y):b∈x∨b∈y:=FQ.mp h
theorem ycM {α:Type}{b a : α}{x:List α}(h:b∈a::x):b=a∨b∈x:=Er.mp h
theorem ysM {α:Type}{b a : α}(h:b∈[a]):b=a:=List.mem_singleton.mp h
theorem ymG {α:Type}{x:List α}{i:Nat}{a : α}(h:x[i]?=some a):a∈x:=List.mem_of_getElem? h
abbrev yF:=PySem.W.Frag
namespace L2
open PySem PySem.Spec PyProof.Rows
abbrev Key:=Sum Int Str
noncomputable def jg:Key->Value->Bool
 | .inl k,v=>Value.isInt k v
 | .inr x,v=>Value.isStrOf x v
noncomputable def Dz (w:World):Key->Int
 | .inl k=>hashInt k
 | .inr x=>hashStr w x
theorem aT:∀{k:Key} {v:Value},jg k v=true->(∃i t,k=Sum.inl i/\v=Value.int i t)∨(∃x t,k=Sum.inr x/\v=Value.str x t)
 | .inl i,v,h=>by
  obtain⟨t,e⟩:=Value.isInt_shape (k:=i) (v:=v) h
  exact .inl ⟨i,t,rfl,e⟩
 | .inr x,v,h=>by
  obtain⟨t,e⟩:=Value.isStrOf_shape (x:=x) (v:=v) h
  exact .inr ⟨x,t,rfl,e⟩
theorem pT (i:Int)(t:Tok):jg (.inl i) (.int i t)=true:=by simp[jg,Value.isInt]
theorem pU (x:Str)(t:Tok):jg (.inr x) (.str x t)=true:=by simp[jg,Value.isStrOf]
theorem yV (a b:Int):decide ((Sum.inl a:Key)=Sum.inl b)=(a==b):=by
 by_cases e:a=b
 ·subst e;simp
 ·have h:¬ (Sum.inl a:Key)=Sum.inl b:=λq=>e (Sum.inl.inj q)
  rw[decide_eq_false h]
  exact(beq_eq_false_iff_ne.mpr e).symm
theorem yY (a b:Str):decide ((Sum.inr a:Key)=Sum.inr b)=decide (a=b):=by
 by_cases e:a=b
 ·subst e;simp
 ·have h:¬ (Sum.inr a:Key)=Sum.inr b:=λq=>e (Sum.inr.inj q)
  rw[decide_eq_false h,decide_eq_false e]
theorem yW (a:Int)(b:Str):decide ((Sum.inl a:Key)=Sum.inr b)=false:=decide_eq_false (λq=>nomatch q)
theorem yX (a:Str)(b:Int):decide ((Sum.inr a:Key)=Sum.inl b)=false:=decide_eq_false (λq=>nomatch q)
noncomputable def bM (prog:Program) (w:World):PySem.KeyKind prog w Key where
 is:=jg
 hash:=Dz w
 inj:=λv a b ha hb=>by
  rcases aT ha with⟨i,t,rfl,rfl⟩|⟨x,t,rfl,rfl⟩
  ·rcases aT hb with⟨j,u,rfl,e⟩|⟨y,u,rfl,e⟩
   ·injection e with e1 _;rw[e1]
   ·exact nomatch e
  ·rcases aT hb with⟨j,u,rfl,e⟩|⟨y,u,rfl,e⟩
   ·exact nomatch e
   ·injection e with e1 _;rw[e1]
 byValue:=λk v h=>by
  rcases aT h with⟨i,t,rfl,rfl⟩|⟨x,t,rfl,rfl⟩<;>rfl
 pyHash:=λhv h=>by
  rcases aT hv with⟨i,t,rfl,rfl⟩|⟨x,t,rfl,rfl⟩
  ·exact wpAny_pyHash_int h
  ·exact wpAny_pyHash_str h
 eqBool:=λhu hv h=>by
  rcases aT hu with⟨i,t,rfl,rfl⟩|⟨x,t,rfl,rfl⟩
  ·rcases aT hv with⟨j,u,rfl,rfl⟩|⟨y,u,rfl,rfl⟩
   ·rw[yV]at h;exact wpAny_eqBool_int h
   ·rw[yW]at h;exact SeqAt.EqAt.int_str i t y u _ _ _ _ h
  ·rcases aT hv with⟨j,u,rfl,rfl⟩|⟨y,u,rfl,rfl⟩
   ·rw[yX]at h;exact SeqAt.EqAt.str_int x t j u _ _ _ _ h
   ·rw[yY]at h;exact wpAny_eqBool_str h
 «strs»:=λk x t v h=>by
  rcases aT h with⟨i,u,rfl,e⟩|⟨y,u,rfl,e⟩
  ·exact nomatch e
  ·injection e with e1 _
   subst e1
   cases v<;>rfl
theorem l9 (prog:Program)(w:World)(i:Int)(t:Tok):(bM prog w).is (.inl i) (.int i t)=true:=pT i t
theorem md (prog:Program)(w:World)(x:Str)(t:Tok):(bM prog w).is (.inr x) (.str x t)=true:=pU x t
inductive V where
 | non|bl (b:Bool)|int (i:Int)|str (x:Str)|byt (b:Array UInt8)|flt (b:UInt64)|ref (a:Addr)|ty (n:String)
 deriving DecidableEq
def RelV:V->Value->Prop
 | .non,u=>u=Value.none
 | .bl b,u=>u=Value.bool b
 | .int i,u=>∃t,u=Value.int i t
 | .str x,u=>∃t,u=Value.str x t
 | .byt b,u=>∃t,u=Value.bytes b t
 | .flt b,u=>∃t,u=Value.float b t
 | .ref a,u=>u=Value.ref a
 | .ty n,u=>u=Value.type n
abbrev Vals:List V->List Value->Prop:=Paired RelV
theorem Vals.length {xs:List V}{us:List Value}(r:Vals xs us):xs.length=us.length:=Paired.length r
theorem Vals.get:∀{xs:List V} {us:List Value} {i:Nat} {x:V},Vals xs us->xs[i]?=some x->∃u,us[i]?=some u/\RelV x u
 | _,_,_,_,.nil,e=>by simp at e
 | _,_,0,_,.cons r _,e=>by simp at e;subst e;exact⟨_,rfl,r⟩
 | _,_,i+1,x,.cons _ t,e=>by
  obtain⟨u,h1,h2⟩:=Vals.get (i:=i) (x:=x) t (by simpa using e)
  exact⟨u,by simpa using h1,h2⟩
theorem Vals.set {x:V}{u:Value}(r:RelV x u):∀{xs:List V} {us:List Value} (i:Nat),Vals xs us->Vals (xs.set i x) (us.set i u)
 | _,_,_,.nil=>.nil
 | _,_,0,.cons _ t=>.cons r t
 | _,_,i+1,.cons q t=>.cons q (Vals.set r i t)
theorem Vals.append:∀{xs ys:List V} {us ws:List Value},Vals xs us->Vals ys ws->Vals (xs++ys) (us++ws)
 | _,_,_,_,.nil,s=>s
 | _,_,_,_,.cons r t,s=>.cons r (Vals.append t s)
theorem Vals.take:∀{xs:List V} {us:List Value} (n:Nat),Vals xs us->Vals (xs.take n) (us.take n)
 | _,_,0,_=>.nil
 | _,_,_+1,.nil=>.nil
 | _,_,n+1,.cons r t=>.cons r (Vals.take n t)
theorem Vals.drop:∀{xs:List V} {us:List Value} (n:Nat),Vals xs us->Vals (xs.drop n) (us.drop n)
 | _,_,0,r=>r
 | _,_,_+1,.nil=>.nil
 | _,_,n+1,.cons _ t=>Vals.drop n t
def RelO:Option V->Option Value->Prop
 | some v,some u=>RelV v u
 | none,none=>True
 | _,_=>False
def KV {κ : Type}:List (κ×V)->List (κ×Value)->Prop:=Paired λ(p : κ×V) (q : κ×Value)=>p.1=q.1/\RelV p.2 q.2
noncomputable def kV:Key->V
 | .inl i=>.int i
 | .inr x=>.str x
inductive HO where
 | lst (xs:List V)
 | tup (xs:List V)
 | dK (kvs:List (Key×V))|dT (kvs:List (List Key×V))
 | set (S:Int->Bool) (n:Nat)
 | ins (C dx:Addr) (fs:List (Str×V))
 | own (x:Addr)
 | xd (fs:List (Str×V))
 | met (f x:Addr)
 | rng (lo hi:Int)
 | frz (o:Obj) (u:HO)
 | tbl (ps:Array Value)
 | ext (φ : Heap->Prop)
abbrev Hp:=Addr->Option HO
noncomputable def upd (H:Hp) (a:Addr) (o:HO):Hp:=λb=>if b=a then some o else H b
theorem ax {H:Hp}{a:Addr}{o:HO}:upd H a o a=some o:=by unfold upd;rw[if_pos rfl]
theorem upd_ne {H:Hp}{a b:Addr}{o:HO}(h:b≠a):upd H a o b=H b:=by unfold upd;rw[if_neg h]
theorem aX {H:Hp}{a b:Addr}{o:HO}(h:H a=some o)(h':H b=none):a≠b:=by
 intro e;subst e;rw[h]at h';cases h'
def IsTupN (h:Heap)(a:Addr)(items:Array Value):Prop:=∃o,h.get? a=some o/\(o.cls=.type "tuple" ∧ o.dict=none)/\∃n,o.data=.seq items n
theorem IsTupN.to {h:Heap}{a:Addr}{items:Array Value}(x:IsTupN h a items):IsTup h a items:=let ⟨o,e,c,d⟩:=x;⟨o,e,c.1,d⟩
theorem IsTupN.new (h:Heap)(items:Array Value):IsTupN (h.push {cls:=.type "tuple",data:=.seq items}) h.objs.size items:=⟨_,Heap.get?_push_size _ rfl,⟨rfl,rfl⟩,_,rfl⟩
section
variable  (P:Program)(w:World)
def ObjOk (H:Hp)(h:Heap)(a:Addr):HO->Prop
 | .lst xs=>xs.length<=sizeLine/\∃(its:List Value) (n:Nat),Vals xs its/\h.get? a=some {cls:=.type "list",data:=.seq its.toArray n}
 | .tup xs=>xs.length<=sizeLine/\∃its:List Value,Vals xs its/\IsTupN h a its.toArray
 | .dK kvs=>kvs.length<=sizeLine/\(a==sysModules)=false/\∃vs,KV kvs vs/\h.DictOf (bM P w) a vs
 | .dT kvs=>kvs.length<=sizeLine/\(a==sysModules)=false/\∃xs:List (List Key×Addr×Value),
   Paired (λ(p:List Key×V) (q:List Key×Addr×Value)=>p.1=q.1/\H q.2.1=some (.tup (p.1.map kV))/\RelV p.2 q.2.2) kvs xs ∧
   ∃o es ep,h.get? a=some o/\o.ExactDict/\o.data=.dict es ep/\es.toList=xs.map (entryOfKey (tupleKind (bM P w)))/\(xs.map (·.1)).Nodup
 | .set S n=>h.SetOf (intKind P w) a S n
 | .ins C dx fs=>H dx=some (.own a)/\fs.length<=1000/\dx≠a/\h.get? a=some (Hf C dx) ∧
   ∃mA,h.Ns1 dx mA/\(∀f,RelO (fs.lookup f) (mA f))/\PySem.Within mA (fs.map (·.1))
 | .own _=>∃o,h.get? a=some o
 | .xd fs=>∃mA,h.Ns1 a mA/\∀f,RelO (fs.lookup f) (mA f)
 | .rng lo hi=>∃t u v,h.get? a=some {cls:=.type "range",data:=.fields #[.int lo t,.int hi u,.int 1 v]}
 | .frz o u=>h.get? a=some o/\ObjOk H h a u
 | .tbl ps=>h.get? a=some {cls:=.none,data:=.fields ps}
 | .met f x=>h.get? a=some (F9 (.ref f) (.ref x))
 | .ext φ=>φ h/\(∃o,h.get? a=some o)/\∀h1 h2:Heap,φ h1->(∀o,h1.get? a=some o->h2.get? a=some o)->φ h2
def HOk (H:Hp)(h:Heap):Prop:=∀a o,H a=some o->ObjOk P w H h a o
end
section
variable  {P:Program}{w:World}{H H':Hp}{h h':Heap}{a:Addr}{o:HO}
theorem ObjOk.lt (x:ObjOk P w H h a o):a<h.objs.size:=by
 cases o with
 | lst xs=>obtain⟨_,_,_,_,e⟩:=x;exact Heap.lt_size e
 | tup xs=>obtain⟨_,_,_,p⟩:=x;exact p.to.lt
 | dK kvs=>obtain⟨_,_,_,_,o,_,_,e,_⟩:=x;exact Heap.lt_size e
 | dT kvs=>obtain⟨_,_,_,_,o,_,_,e,_⟩:=x;exact Heap.lt_size e
 | set S n=>obtain⟨o,_,_,_,e,_⟩:=x;exact Heap.lt_size e
 | ins C dx fs=>obtain⟨_,_,_,e,_⟩:=x;exact Heap.lt_size e
 | own y=>obtain⟨_,e⟩:=x;exact Heap.lt_size e
 | xd fs=>obtain⟨_,⟨_,_,_,e,_⟩,_⟩:=x;exact Heap.lt_size e
 | rng lo hi=>obtain⟨_,_,_,e⟩:=x;exact Heap.lt_size e
 | frz ob u=>obtain⟨e,_⟩:=x;exact Heap.lt_size e
 | tbl ps=>exact Heap.lt_size (show h.get? a=some _ from x)
 | met f y=>exact Heap.lt_size (show h.get? a=some _ from x)
 | ext φ=>obtain⟨_,⟨_,e⟩,_⟩:=x;exact Heap.lt_size e
theorem Paired.mapP {α β:Type}{F G : α->β->Prop}:∀{l₁ : List α} {l₂ : List β},Paired F l₁ l₂->(∀a b,F a b->G a b)->Paired G l₁ l₂
 | _,_,.nil,_=>.nil
 | _,_,.cons r t,f=>.cons (f _ _ r) (Paired.mapP t f)
theorem ObjOk.stay (x:ObjOk P w H h a o)(k:∀b u,(b=a∨H b=some (.own a))->h.get? b=some u->h'.get? b=some u)
  (ho:∀b,H b=some (.own a)->H' b=some (.own a)) (ht:∀b xs,H b=some (.tup xs)->H' b=some (.tup xs)):ObjOk P w H' h' a o:=by
 induction o with
 | lst xs=>obtain⟨z,its,n,r,e⟩:=x;exact⟨z,its,n,r,k _ _ (.inl rfl) e⟩
 | tup xs=>obtain⟨z,its,r,ob,e,c⟩:=x;exact⟨z,its,r,ob,k _ _ (.inl rfl) e,c⟩
 | dK kvs=>obtain⟨z,y,vs,r,ob,es,ep,e,c⟩:=x;exact⟨z,y,vs,r,ob,es,ep,k _ _ (.inl rfl) e,c⟩
 | dT kvs=>
  obtain⟨z,y,xs,r,ob,es,ep,e,c⟩:=x
  exact⟨z,y,xs,Paired.mapP r λp q z=>⟨z.1,ht _ _ z.2.1,z.2.2⟩,ob,es,ep,k _ _ (.inl rfl) e,c⟩
 | set S n=>obtain⟨ob,es,ep,t,e,c⟩:=x;exact⟨ob,es,ep,t,k _ _ (.inl rfl) e,c⟩
 | ins C dx fs=>
  obtain⟨d,z,ne,e,mA,⟨od,es,ep,e2,c⟩,r⟩:=x
  exact⟨ho _ d,z,ne,k _ _ (.inl rfl) e,mA,⟨od,es,ep,k _ _ (.inr d) e2,c⟩,r⟩
 | own y=>obtain⟨ob,e⟩:=x;exact⟨ob,k _ _ (.inl rfl) e⟩
 | xd fs=>obtain⟨mA,⟨od,es,ep,e,c⟩,r⟩:=x;exact⟨mA,⟨od,es,ep,k _ _ (.inl rfl) e,c⟩,r⟩
 | rng lo hi=>obtain⟨t,u,v,e⟩:=x;exact⟨t,u,v,k _ _ (.inl rfl) e⟩
 | frz ob u ih=>obtain⟨e,q⟩:=x;exact⟨k _ _ (.inl rfl) e,ih q⟩
 | tbl ps=>
  have e:h.get? a=some {cls:=.none,data:=.fields ps}:=x
  show h'.get? a=some {cls:=.none,data:=.fields ps}
  exact k a _ (.inl rfl) e
 | met f y=>
  have e:h.get? a=some (F9 (.ref f) (.ref y)):=x
  show h'.get? a=some (F9 (.ref f) (.ref y))
  exact k a _ (.inl rfl) e
 | ext φ=>obtain⟨p,⟨o,e⟩,st⟩:=x;exact⟨st _ _ p λo q=>k _ _ (.inl rfl) q,⟨o,k _ _ (.inl rfl) e⟩,st⟩
theorem HOk.lt (x:HOk P w H h)(e:H a=some o):a<h.objs.size:=(x a o e).lt
theorem HOk.fresh (x:HOk P w H h)(e:h.objs.size<=a):H a=none:=by
 cases q:H a with
 | none=>rfl
 | some u=>exact absurd (Ec (x.lt q) e) (EV _)
theorem HOk.kept (x:HOk P w H h)(k:∀b u,h.get? b=some u->h'.get? b=some u):HOk P w H h':=λa o e=>
 (x a o e).stay (λb u _ q=>k b u q) (λ_ q=>q) λ_ _ q=>q
theorem HOk.laid (x:HOk P w H h)(k:∀b u,h.get? b=some u->h'.get? b=some u)(hp:h.objs.size<=a)(new:ObjOk P w (upd H a o) h' a o):HOk P w (upd H a o) h':=λb u e=>by
 have hn:=x.fresh hp
 by_cases hb:b=a
 ·subst hb;rw[ax]at e;cases e;exact new
 ·rw[upd_ne hb]at e
  exact(x b u e).stay (λc v _ q=>k c v q) (λc q=>by rw[upd_ne (aX q hn)];exact q) λc xs q=>by rw[upd_ne (aX q hn)];exact q
end
def Rd (H:Hp)(a:Addr)(u:HO):Prop:=H a=some u ∨ ∃o,H a=some (.frz o u)
theorem Rd.ok {P:Program}{w:World}{H:Hp}{h:Heap}{a:Addr}{u:HO}(r:Rd H a u)(x:HOk P w H h):ObjOk P w H h a u:=by
 rcases r with r|⟨o,r⟩
 ·exact x a u r
 ·obtain⟨_,q⟩:=x a _ r
  exact q
def Mut:Option HO->Prop
 | some (.lst _)=>True
 | some (.dK _)=>True
 | some (.dT _)=>True
 | some (.set _ _)=>True
 | some (.ins _ _ _)=>True
 | some (.ext _)=>True
 | _=>False
section
variable  {P:Program}{w:World}{H:Hp}{h h':Heap}{x e:Addr}{o':HO}
theorem HOk.write (ok:HOk P w H h)(mu:Mut (H x))(he:e=x∨H e=some (.own x))(k:∀b u,b≠e->h.get? b=some u->h'.get? b=some u)(heo:∃u,h'.get? e=some u)
  (new:ObjOk P w (upd H x o') h' x o'):HOk P w (upd H x o') h':=λb u q=>by
 have nown:∀c y,H c=some (.own y)->c≠x:=λc y r z=>by subst z;rw[r]at mu;exact mu
 have ntup:∀c xs,H c=some (.tup xs)->c≠x:=λc xs r z=>by subst z;rw[r]at mu;exact mu
 by_cases hb:b=x
 ·subst hb;rw[ax]at q;cases q;exact new
 ·rw[upd_ne hb]at q
  by_cases hbe:b=e
  ·have q':H b=some (.own x):=by
    rcases he with z|z
    ·exact absurd (hbe.trans z) hb
    ·rw[hbe];exact z
   rw[q]at q';cases q'
   obtain⟨v,hv⟩:=heo
   exact⟨v,by rw[hbe];exact hv⟩
  ·refine(ok b u q).stay (λc v hc r=>k c v ?_ r) (λc r=>by rw[upd_ne (nown c b r)];exact r) λc xs r=>by rw[upd_ne (ntup c xs r)];exact r
   rcases hc with rfl|hc
   ·exact hbe
   ·rintro rfl
    rcases he with z|z
    ·exact nown c b hc z
    ·rw[hc]at z;cases z;exact hb rfl
end
structure Un (fs ex:List Addr)(H H':Hp)(h h':Heap):Prop where
 keep:∀b o,h.get? b=some o->H b=none->b∉fs->b∉ex->h'.get? b=some o
 slot:∀b o,h.get? b=some o->H b=none->b∈fs->b∉ex->∃sl,h'.get? b=some {o with slots:=sl}
 free:∀b o,h.get? b=some o->H b=none->b∉ex->H' b=none
 there:∀b o,h.get? b=some o->b∉ex->∃o',h'.get? b=some o'
 tups:∀b xs,H b=some (.tup xs)->H' b=some (.tup xs)
 frzs:∀b o u,H b=some (.frz o u)->H' b=some (.frz o u)
 tbls:∀b ps,H b=some (.tbl ps)->∃more,H' b=some (.tbl (ps++more))
section
variable  {fs fs' ex ex':List Addr}{H H1 H2:Hp}{h h1 h2 h':Heap}{a x e:Addr}{o:HO}
theorem Un.any (u:Un fs ex H H1 h h1){b:Addr}{ob:Obj}(q:h.get? b=some ob)(n:H b=none)(hx:b∉ex):∃sl,h1.get? b=some {ob with slots:=sl}:=by
 by_cases hb:b∈fs
 ·exact u.slot b ob q n hb hx
 ·exact⟨ob.slots,u.keep b ob q n hb hx⟩
theorem Un.kept (k:∀b u,h.get? b=some u->h'.get? b=some u):Un fs ex H H h h':=
 ⟨λb ob q _ _ _=>k b ob q,λb ob q _ _ _=>⟨ob.slots,k b ob q⟩,λ_ _ _ n _=>n,λb ob q _=>⟨ob,k b ob q⟩,λ_ _ q=>q,λ_ _ _ q=>q,λ_ ps q=>⟨#[],by rw[q];simp⟩⟩
theorem Un.refl:Un fs ex H H h h:=Un.kept λ_ _ q=>q
theorem Un.laid (k:∀b u,h.get? b=some u->h'.get? b=some u)(hp:h.objs.size<=a)(hn:H a=none):Un fs ex H (upd H a o) h h' where
 keep:=λb u q _ _ _=>k b u q
 slot:=λb u q _ _ _=>⟨u.slots,k b u q⟩
 free:=λb u q n _=>by rw[upd_ne (Ed (Ec (Heap.lt_size q) hp))];exact n
 there:=λb u q _=>⟨u,k b u q⟩
 tups:=λb xs q=>by rw[upd_ne (aX q hn)];exact q
 frzs:=λb u xs q=>by rw[upd_ne (aX q hn)];exact q
 tbls:=λb ps q=>⟨#[],by rw[upd_ne (aX q hn),q];simp⟩
theorem Un.write (mu:Mut (H x))(he:e=x∨H e=some (.own x))(k:∀b u,b≠e->h.get? b=some u->h'.get? b=some u)(heo:∃u,h'.get? e=some u):Un fs ex H (upd H x o) h h':=by
 have hx:∀b,H b=none->b≠x:=λb n z=>by subst z;rw[n]at mu;exact mu
 have hb:∀b,H b=none->b≠e:=λb n z=>by
  subst z
  rcases he with r|r
  ·exact hx b n r
  ·rw[n]at r;cases r
 have hm:∀b u,H b=some u->¬ Mut (some u)->b≠x:=λb u q nm z=>by subst z;rw[q]at mu;exact nm mu
 refine⟨λb u q n _ _=>k b u (hb b n) q,λb u q n _ _=>⟨u.slots,k b u (hb b n) q⟩,λb u q n _=>by rw[upd_ne (hx b n)];exact n,λb u q _=>?_,
  λb xs q=>by rw[upd_ne (hm b _ q λz=>z)];exact q,λb u xs q=>by rw[upd_ne (hm b _ q λz=>z)];exact q,λb ps q=>⟨#[],by rw[upd_ne (hm b _ q λz=>z),q];simp⟩⟩
 by_cases hbe:b=e
 ·subst hbe;exact heo
 ·exact⟨u,k b u hbe q⟩
end
noncomputable def trk (h:Heap) (H:Hp):List Addr:=(Es h.objs.size).filter λa=>(H a).isSome
noncomputable def k8 (h:Heap) (H:Hp):Heap:=PySem.W.hideAll h (trk h H)
theorem pP (h:Heap)(H:Hp):(k8 h H).objs.size=h.objs.size:=PySem.W.hideAll_size _ _
theorem rO {h:Heap}{H:Hp}{b:Addr}{o:Obj}(e:h.get? b=some o)(n:H b=none):(k8 h H).get? b=some o:=
 PySem.W.hideAll_get _ e λhm=>by
  have q:(H b).isSome=true:=(D7.mp hm).2
  rw[n]at q;simp at q
theorem vM {h:Heap}{H:Hp}{b:Addr}{o:Obj}(e:(k8 h H).get? b=some o):h.get? b=some o/\H b=none:=by
 have e':h.get? b=some o:=PySem.W.of_hideAll (trk h H) e
 refine⟨e',?_⟩
 cases q:H b with
 | none=>rfl
 | some x=>
  have hm:b∈trk h H:=D7.mpr ⟨E8.mpr (Heap.lt_size e'),by simp[q]⟩
  have z:(k8 h H).get? b=none:=PySem.W.hideAll_none (trk h H) hm
  rw[z]at e;cases e
noncomputable def va (g h:Heap) (L:Addr):List (Addr×Obj):=(Es h.objs.size).filterMap λa=>if a=L∨(g.get? a).isSome=true then none else(h.get? a).map λo=>(a,o)
noncomputable def rest (g h:Heap) (L d:Addr):List (Addr×Obj):=(va g h L).filter λp=>decide (p.1≠d)
structure Mod (K:yF)(mg:Str->Option Value)(base:Heap):Prop where
 kin:K.In base
 glob:base.Ns mainGlobals mg
 blt:∃mb,base.Ns builtinsNs mb/\∀x:Str,x ≠ "__name__" → mb x=bootBuiltins x
 nolimit:base.NoLimit
structure Cx where
 prog:Program
 w:World
 K:yF
 mg:Str->Option Value
 base:Heap
 A:Around
 N:List Str
 s₀ : Shared
 H₀ : Hp
 env:Env
 outer:List Env
 stack:List Env
 ex:List Addr
 fn:Str->Bool
 calm:Bool
 pn:List (Addr×Obj)
 xe:Value->Shared->Prop
def frs (l:List Env):List Addr:=l.filterMap (·.frame)
noncomputable abbrev Cx.fs (X:Cx):List Addr:=frs X.outer
def Vis (sc:Scope)(x:Str):Prop:=sc.names.lookup x=some .local∨sc.names.lookup x=some .cell∨sc.names.lookup x=some .free
def Loc (sc:Scope)(x:Str):Prop:=sc.names.lookup x=some .local∨sc.names.lookup x=some .cell
def De (env:Env)(h:Heap)(m:Str->Option Value)(x:Str)(u:Value):Prop:=
 (env.kindOf x=some .local/\m x=some u)∨((env.kindOf x=some .cell∨env.kindOf x=some .free)/\∃c,env.cells.lookup x=some c/\h.IsCell c (some u))
structure Cx.Ok (X:Cx):Prop where
 mod:Mod X.K X.mg X.base
 kind:X.env.scope.kind=.function
 glob:X.env.globals=mainGlobals
 blt:X.env.builtins=builtinsNs
 above:X.s₀.heap.objs.size<=X.env.locals
 inj:∀x y c,X.env.cells.lookup x=some c->X.env.cells.lookup y=some c->x=y
 has:∀x,(X.env.kindOf x=some .cell∨X.env.kindOf x=some .free)->∃c,X.env.cells.lookup x=some c
 cab:∀x c,X.fn x=true->X.env.cells.lookup x=some c->X.s₀.heap.objs.size<=c
 hd:X.calm=true->X.A.handled=none
 gd:X.calm=true->X.A.guards=some []
 frames:X.A.frames=some X.stack
 stk:X.stack=X.outer∨(X.stack=X.env::X.outer/\X.env.frame=some X.env.locals)
 exf:∀b∈X.ex,b≠X.env.locals/\∀x c,X.env.cells.lookup x=some c->c≠b
 bs:∀b o,X.base.get? b=some o->X.s₀.heap.get? b=some o/\X.H₀ b=none
 bsz:X.base.objs.size<=X.s₀.heap.objs.size
 noex:∀b o,X.base.get? b=some o->b∉X.ex
 exfs:∀b∈X.ex,b∉X.fs
 funs:X.s₀.heap.FunFrames X.base X.outer
 frf:∀b∈X.fs,X.H₀ b=none
structure Inv (X:Cx)(pins:List (Addr×Obj))(Z:List (Option V))(H:Hp)(s:Shared):Prop where
 ok:X.Ok
 os:s.os=X.s₀.os
 bare:AllBare s.gens
 base:Un X.fs X.ex X.H₀ H X.s₀.heap s.heap
 loc:∃m,s.heap.Ns X.env.locals m/\∀(i:Nat) (x:Str) (v:V),X.N[i]?=some x->Z[i]?=some (some v)->Vis X.env.scope x->∃u,RelV v u/\De X.env s.heap m x u
 cell:∀x c,X.env.cells.lookup x=some c->∃v,s.heap.IsCell c v
 free:H X.env.locals=none
 freeC:∀x c,X.env.cells.lookup x=some c->H c=none
 pin:∀p∈X.pn++pins,s.heap.get? p.1=some p.2/\H p.1=none/\p.1≠X.env.locals/\p.1∉X.fs/\∀v,p.2.data ≠ .cell v
 hok:HOk X.prog X.w H s.heap
 len:Z.length=X.N.length
section
variable  {X:Cx}{pins:List (Addr×Obj)}{Z:List (Option V)}{H H':Hp}{s:Shared}{h':Heap}
theorem Cx.Ok.nofr (ok:X.Ok){b:Addr}{o:Obj}(e:X.base.get? b=some o):b∉X.fs:=λhb=>by
 have:=(ok.funs.mem hb).1
 rw[e]at this;cases this
theorem Inv.bs (I:Inv X pins Z H s):∀b o,X.base.get? b=some o->s.heap.get? b=some o/\H b=none:=λb o e=>
 ⟨I.base.keep b o (I.ok.bs b o e).1 (I.ok.bs b o e).2 (I.ok.nofr e) (I.ok.noex b o e),I.base.free b o (I.ok.bs b o e).1 (I.ok.bs b o e).2 (I.ok.noex b o e)⟩
theorem Inv.bk (I:Inv X pins Z H s):∀b o,X.base.get? b=some o->s.heap.get? b=some o:=λb o e=>(I.bs b o e).1
theorem Inv.mod (I:Inv X pins Z H s):Mod X.K X.mg X.base:=I.ok.mod
theorem Inv.kIn (I:Inv X pins Z H s):X.K.In s.heap:=I.ok.mod.kin.keeps I.bk
theorem Inv.fr (I:Inv X pins Z H s):∃m,Fr X.base X.env.locals s.heap m:=
 let ⟨m,hn,_⟩:=I.loc
 ⟨m,hn,I.bk,Ev I.ok.bsz I.ok.above⟩
theorem Inv.lt (I:Inv X pins Z H s):X.env.locals<s.heap.objs.size:=let ⟨_,hn,_⟩:=I.loc;hn.lt
theorem Inv.sz (I:Inv X pins Z H s):X.s₀.heap.objs.size<=s.heap.objs.size:=Ev I.ok.above (FZ I.lt)
theorem Inv.nofs (I:Inv X pins Z H s){a:Addr}(h:s.heap.objs.size<=a):a∉X.fs:=λhb=>by
 obtain⟨_,o,ho,_⟩:=I.ok.funs.mem hb
 exact absurd (Ec (Heap.lt_size ho) (Ev I.sz h)) (EV _)
theorem Inv.cne (I:Inv X pins Z H s):∀x c,X.env.cells.lookup x=some c->c≠X.env.locals:=λx c e z=>by
 obtain⟨v,o,ho,hd⟩:=I.cell x c e
 obtain⟨m,⟨o',es,ep,ho',hd',_⟩,_⟩:=I.loc
 rw[z,ho']at ho;cases ho;rw[hd']at hd;cases hd
theorem Inv.funs (I:Inv X pins Z H s):s.heap.FunFrames X.base X.outer:=by
 have all:∀(l:List Env),(∀b∈frs l,b∈X.fs)->X.s₀.heap.FunFrames X.base l->s.heap.FunFrames X.base l:=by
  intro l
  induction l with
  | nil=>intro _ _;trivial
  | cons env r ih=>
   intro hs hl
   obtain⟨hk,⟨L,o,hf,hn,ho,hd⟩,hr⟩:=hl
   have hL:L∈X.fs:=hs L (by unfold frs;rw[Ei,hf];exact ymS)
   obtain⟨sl,e⟩:=I.base.slot L o ho (I.ok.frf L hL) hL λz=>I.ok.exfs L z hL
   exact⟨hk,⟨L,_,hf,hn,e,hd⟩,ih (λb hb=>hs b (by unfold frs;rw[Ei,hf];exact ymC _ hb)) hr⟩
 exact all X.outer (λ_ hb=>hb) I.ok.funs
theorem Inv.stack (I:Inv X pins Z H s):s.heap.FunFrames X.base X.stack:=by
 rcases I.ok.stk with e|⟨e,hf⟩
 ·rw[e];exact I.funs
 ·rw[e]
  obtain⟨m,hn,_⟩:=I.loc
  refine .cons (by rw[I.ok.kind];decide) hf hn ?_ I.funs
  exact Heap.get?_none_of_le (Ev I.ok.bsz I.ok.above)
theorem Inv.stkSub (I:Inv X pins Z H s):∀b∈frs X.stack,b∈X.env.locals::X.fs:=λb hb=>by
 rcases I.ok.stk with e|⟨e,hf⟩
 ·rw[e]at hb;exact ymC _ hb
 ·rw[e]at hb
  unfold frs at hb
  rw[Ei,hf]at hb
  exact hb
theorem Inv.stkFree (I:Inv X pins Z H s):∀b∈frs X.stack,H b=none:=λb hb=>by
 rcases ycM (I.stkSub b hb)with e|hb
 ·rw[e];exact I.free
 ·obtain⟨_,o,ho,_⟩:=I.ok.funs.mem hb
  exact I.base.free b o ho (I.ok.frf b hb) λz=>I.ok.exfs b z hb
theorem Inv.step {g':Array GenState}{t':Nat}{d':Drawn}{ch:List Addr}(I:Inv X pins Z H s)
  (hch:∀b∈ch,(b∈X.ex∨X.s₀.heap.objs.size<=b)/\b≠X.env.locals/\(∀x c,X.env.cells.lookup x=some c->c≠b)/\∀p∈X.pn++pins,p.1≠b)
  (keep:∀b o,b≠X.env.locals->b∉X.fs->b∉ch->s.heap.get? b=some o->H b=none->h'.get? b=some o)
  (slot:∀b o,b≠X.env.locals->b∈X.fs->b∉ch->s.heap.get? b=some o->H b=none->∃sl,h'.get? b=some {o with slots:=sl}) (free:∀b o,b∉ch->s.heap.get? b=some o->H b=none->H' b=none)
  (there:∀b o,b∉ch->s.heap.get? b=some o->∃o',h'.get? b=some o')
  (tups:∀b xs,H b=some (.tup xs)->H' b=some (.tup xs)) (frzs:∀b o u,H b=some (.frz o u)->H' b=some (.frz o u)) (tbls:∀b ps,H b=some (.tbl ps)->∃more,H' b=some (.tbl (ps++more)))
  (ns:∀m,s.heap.Ns X.env.locals m->h'.Ns X.env.locals m) (hok:HOk X.prog X.w H' h') (hg:AllBare g') :
  Inv X pins Z H' {s with heap:=h',gens:=g',drawn:=d',toks:=t'}:=by
 have neL:∀b o,X.s₀.heap.get? b=some o->b≠X.env.locals:=λb o e=>Ed (Ec (Heap.lt_size e) I.ok.above)
 have neC:∀b o,X.s₀.heap.get? b=some o->b∉X.ex->b∉ch:=λb o e hx hb=>by
  rcases(hch b hb).1 with z|z
  ·exact hx z
  ·exact absurd (Ec (Heap.lt_size e) z) (EV _)
 have cellK:∀x c,X.env.cells.lookup x=some c->∀v,s.heap.IsCell c v->h'.IsCell c v:=λx c e v ⟨o,ho,hd⟩=>by
  have nch:c∉ch:=λz=>(hch c z).2.2.1 x c e rfl
  by_cases hc:c∈X.fs
  ·obtain⟨sl,q⟩:=slot c o (I.cne x c e) hc nch ho (I.freeC x c e)
   exact⟨_,q,hd⟩
  ·exact⟨o,keep c o (I.cne x c e) hc nch ho (I.freeC x c e),hd⟩
 refine⟨I.ok,I.os,hg,⟨λb o e n hb hx=>?_,λb o e n hb hx=>?_,λb o e n hx=>?_,λb o e hx=>?_,λb xs e=>tups b xs (I.base.tups b xs e),λb o xs e=>frzs b o xs (I.base.frzs b o xs e),λb ps e=>?_⟩,?_,λx c e=>?_,?_,λx c e=>?_,λp hp=>?_,hok,I.len⟩
 ·exact keep b o (neL b o e) hb (neC b o e hx) (I.base.keep b o e n hb hx) (I.base.free b o e n hx)
 ·obtain⟨sl,e1⟩:=I.base.slot b o e n hb hx
  obtain⟨sl',e2⟩:=slot b _ (neL b o e) hb (neC b o e hx) e1 (I.base.free b o e n hx)
  exact⟨sl',e2⟩
 ·obtain⟨o',e1⟩:=I.base.there b o e hx
  exact free b o' (neC b o e hx) e1 (I.base.free b o e n hx)
 ·obtain⟨o',e1⟩:=I.base.there b o e hx
  exact there b o' (neC b o e hx) e1
 ·obtain⟨m1,e1⟩:=I.base.tbls b ps e
  obtain⟨m2,e2⟩:=tbls b _ e1
  exact⟨m1++m2,by rw[e2,Array.append_assoc]⟩
 ·obtain⟨m,hn,hl⟩:=I.loc
  refine⟨m,ns m hn,λi x v e1 e2 e3=>?_⟩
  obtain⟨u,r,l⟩:=hl i x v e1 e2 e3
  refine⟨u,r,?_⟩
  rcases l with l|⟨k,c,e,z⟩
  ·exact .inl l
  ·exact .inr ⟨k,c,e,cellK x c e _ z⟩
 ·obtain⟨v,z⟩:=I.cell x c e
  exact⟨v,cellK x c e v z⟩
 ·obtain⟨m,⟨o,_,_,ho,_⟩,_⟩:=I.loc
  exact free _ o (λz=>(hch _ z).2.1 rfl) ho I.free
 ·obtain⟨v,o,ho,hd⟩:=I.cell x c e
  exact free c o (λz=>(hch c z).2.2.1 x c e rfl) ho (I.freeC x c e)
 ·obtain⟨e,n,ne,nf,d⟩:=I.pin p hp
  have nch:p.1∉ch:=λz=>(hch p.1 z).2.2.2 p hp rfl
  exact⟨keep p.1 p.2 ne nf nch e n,free p.1 p.2 nch e n,ne,nf,d⟩
theorem Inv.un {t':Nat}(I:Inv X pins Z H s)(u:Un X.fs [] H H' s.heap h')(hok:HOk X.prog X.w H' h'):Inv X pins Z H' {s with heap:=h',toks:=t'}:=by
 obtain⟨m,⟨o,es,ep,ho,r⟩,_⟩:=id I.loc
 obtain⟨sl,hL⟩:=u.any ho I.free (by simp)
 exact I.step (g':=s.gens) (d':=s.drawn) (ch:=[]) (λ_ z=>nomatch z) (λb o _ hb _ e n=>u.keep b o e n hb (by simp)) (λb o _ hb _ e n=>u.slot b o e n hb (by simp)) (λb o _ e n=>u.free b o e n (by simp)) (λb o _ e=>u.there b o e (by simp)) u.tups u.frzs u.tbls (λm' hm=>by
  obtain⟨o',es',ep',ho',r'⟩:=hm
  rw[ho]at ho';cases ho'
  exact⟨_,es',ep',hL,r'⟩) hok I.bare
theorem Inv.call {g':Array GenState}{t':Nat}{d':Drawn}{ch:List Addr}(I:Inv X pins Z H s)(u:Un (frs X.stack) ch H H' s.heap h')(hok:HOk X.prog X.w H' h')(hg:AllBare g')
  (hch:∀b∈ch,(b∈X.ex∨X.s₀.heap.objs.size<=b)/\b≠X.env.locals/\(∀x c,X.env.cells.lookup x=some c->c≠b)/\∀p∈X.pn++pins,p.1≠b) :
  Inv X pins Z H' {s with heap:=h',gens:=g',drawn:=d',toks:=t'}:=by
 obtain⟨m,⟨o,es,ep,ho,r⟩,_⟩:=id I.loc
 obtain⟨sl,hL⟩:=u.any ho I.free λz=>(hch _ z).2.1 rfl
 exact I.step (ch:=ch) hch (λb o hL hb hc e n=>u.keep b o e n (λz=>(ycM (I.stkSub b z)).elim hL hb) hc) (λb o _ _ hc e n=>u.any e n hc) (λb o hc e n=>u.free b o e n hc) (λb o hc e=>u.there b o e hc) u.tups u.frzs u.tbls (λm' hm=>by
  obtain⟨o',es',ep',ho',r'⟩:=hm
  rw[ho]at ho';cases ho'
  exact⟨_,es',ep',hL,r'⟩) hok hg
theorem Inv.turned {t':Nat}{it:Addr}(I:Inv X pins Z H s)(k:∀b o,b≠it->s.heap.get? b=some o->h'.get? b=some o)(hn:H it=none)(hL:it≠X.env.locals)
  (h1:it∈X.ex∨X.s₀.heap.objs.size<=it) (h2:∀x c,X.env.cells.lookup x=some c->c≠it) (h3:∀p∈X.pn++pins,p.1≠it):Inv X pins Z H {s with heap:=h',toks:=t'}:=by
 have nit:∀b u,H b=some u->b≠it:=λb u e z=>by rw[z,hn]at e;cases e
 refine I.step (g':=s.gens) (d':=s.drawn) (ch:=[it]) (λb hb=>?_) (λb o _ _ hc e _=>k b o (λz=>hc (by simp[z])) e) (λb o _ _ hc e _=>⟨o.slots,k b o (λz=>hc (by simp[z])) e⟩) (λ_ _ _ _ n=>n)
  (λb o hc e=>⟨o,k b o (λz=>hc (by simp[z])) e⟩) (λ_ _ e=>e) (λ_ _ _ e=>e) (λb ps e=>⟨#[],by rw[e];simp⟩) (λm hm=>?_) (λb u e=>?_) I.bare
 ·have e:b=it:=by simpa using hb
  subst e
  exact⟨h1,hL,h2,h3⟩
 ·obtain⟨o,es,ep,ho,r⟩:=hm
  exact⟨o,es,ep,k _ o (Ne.symm hL) ho,r⟩
 ·refine(I.hok b u e).stay (λc v hc q=>k c v ?_ q) (λ_ q=>q) λ_ _ q=>q
  rcases hc with z|z
  ·rw[z];exact nit b u e
  ·exact nit c _ z
theorem Inv.tok (I:Inv X pins Z H s)(t:Nat):Inv X pins Z H {s with toks:=t}:=I.un (h':=s.heap) (t':=t) Un.refl I.hok
theorem Inv.kept {t':Nat}(I:Inv X pins Z H s)(k:∀b u,s.heap.get? b=some u->h'.get? b=some u):Inv X pins Z H {s with heap:=h',toks:=t'}:=I.un (Un.kept k) (I.hok.kept k)
theorem Inv.laid {a:Addr}{o:HO}{t':Nat}(I:Inv X pins Z H s)(k:∀b u,s.heap.get? b=some u->h'.get? b=some u)(hp:s.heap.objs.size<=a)(new:ObjOk X.prog X.w (upd H a o) h' a o) :
  Inv X pins Z (upd H a o) {s with heap:=h',toks:=t'}:=I.un (Un.laid k hp (I.hok.fresh hp)) (I.hok.laid k hp new)
theorem Inv.write {x e:Addr}{o:HO}{t':Nat}(I:Inv X pins Z H s)(mu:Mut (H x))(he:e=x∨H e=some (.own x))(k:∀b u,b≠e->s.heap.get? b=some u->h'.get? b=some u)(heo:∃u,h'.get? e=some u)
  (new:ObjOk X.prog X.w (upd H x o) h' x o):Inv X pins Z (upd H x o) {s with heap:=h',toks:=t'}:=I.un (Un.write mu he k heo) (I.hok.write mu he k heo new)
theorem Inv.weak {Z':List (Option V)}(I:Inv X pins Z H s)(hl:Z'.length=Z.length)(w:∀(i:Nat) v,Z'[i]?=some (some v)->Z[i]?=some (some v)):Inv X pins Z' H s:=
 ⟨I.ok,I.os,I.bare,I.base,let ⟨m,hn,hl'⟩:=I.loc;⟨m,hn,λi x v e1 e2 e3=>hl' i x v e1 (w i v e2) e3⟩,I.cell,I.free,I.freeC,I.pin,I.hok,hl.trans I.len⟩
theorem Inv.pins_of {pins':List (Addr×Obj)}(I:Inv X pins Z H s)(h:∀p∈pins',s.heap.get? p.1=some p.2/\H p.1=none/\p.1≠X.env.locals/\p.1∉X.fs/\∀v,p.2.data ≠ .cell v):Inv X pins' Z H s:=
 ⟨I.ok,I.os,I.bare,I.base,I.loc,I.cell,I.free,I.freeC,λp hp=>(yaM hp).elim (λz=>I.pin p (yaL _ z)) (h p),I.hok,I.len⟩
theorem mn {N:List Str}(hN:N.Nodup){i j:Nat}{x:Str}(a:N[i]?=some x)(b:N[j]?=some x):i=j:=by
 obtain⟨h1,e1⟩:=DR.mp a
 obtain⟨h2,e2⟩:=DR.mp b
 exact(List.getElem_inj hN).mp (e1.trans e2.symm)
theorem kC {M:Model}{A:Around}{E:Value->Shared->Prop}{i:Nat}{x:Str}{v:V}{u:Value}{Q:Unit->Shared->Prop}(I:Inv X pins Z H s)(hN:X.N.Nodup)(hi:X.N[i]?=some x)(hx:Loc X.env.scope x)(r:RelV v u)
  (h:∀s',Inv X pins (Z.set i (some v)) H s'->(∃a,Heap.SameBut a s.heap s'.heap/\(a=X.env.locals∨X.env.cells.lookup x=some a))->Q () s') (hf:X.fn x=true∨X.env.scope.names.lookup x=some .local:=by first|exact .inl rfl|exact .inr rfl|assumption):wpAny M A (storeName X.env x u) Q E s:=by
 obtain⟨m,hn,hl⟩:=id I.loc
 have hcls:(X.env.scope.kind == .class||(X.env.scope.kind == .module&&X.env.locals != X.env.globals))=false:=by rw[I.ok.kind];rfl
 have hiZ:i<Z.length:=by rw[I.len];exact(DR.mp hi).1
 have cne:=I.cne
 have tracked:∀{a:Addr} {h':Heap},(∃o,s.heap.get? a=some o/\H a=none)->Heap.SameBut a s.heap h'->HOk X.prog X.w H h':=λ{a h'} ha hs b ob e=>by
  obtain⟨_,_,hfree⟩:=ha
  refine(I.hok b ob e).stay (λc w' hc q=>(hs.2 c ?_).trans q) (λ_ q=>q) λ_ _ q=>q
  rintro rfl
  rcases hc with rfl|hc
  ·rw[hfree]at e;cases e
  ·rw[hfree]at hc;cases hc
 rcases hx with hk|hk
 ·refine wpAny_storeName_local hk hn (λh' hn' hs=>?_) hcls
  obtain⟨oL,_,_,hoL,_⟩:=id hn
  refine h _ ⟨I.ok,I.os,I.bare,⟨λb o e n hb hx=>?_,λb o e n hb hx=>?_,I.base.free,λb o e hx=>?_,I.base.tups,I.base.frzs,I.base.tbls⟩,⟨_,hn',λj y v' e1 e2 e3=>?_⟩,λy c e=>?_,I.free,I.freeC,λp hp=>?_,tracked ⟨oL,hoL,I.free⟩ hs,by simpa using I.len⟩ ⟨_,hs,.inl rfl⟩
  ·exact(hs.2 b (Ed (Ec (Heap.lt_size e) I.ok.above))).trans (I.base.keep b o e n hb hx)
  ·obtain⟨sl,e1⟩:=I.base.slot b o e n hb hx
   exact⟨sl,(hs.2 b (Ed (Ec (Heap.lt_size e) I.ok.above))).trans e1⟩
  ·obtain⟨o',e1⟩:=I.base.there b o e hx
   exact⟨o',(hs.2 b (Ed (Ec (Heap.lt_size e) I.ok.above))).trans e1⟩
  ·by_cases hj:j=i
   ·subst hj
    rw[hi]at e1;cases e1
    rw[EL hiZ]at e2
    cases e2
    exact⟨u,r,.inl ⟨hk,by simp⟩⟩
   ·rw[Ef (Ne.symm hj)]at e2
    obtain⟨u',r',q⟩:=hl j y v' e1 e2 e3
    refine⟨u',r',?_⟩
    rcases q with⟨k,e⟩|⟨k,c,e,z⟩
    ·refine .inl ⟨k,?_⟩
     have:y≠x:=λe=>hj (mn hN e1 (e▸hi))
     simp[this,e]
    ·exact .inr ⟨k,c,e,z.sameBut hs (cne y c e)⟩
  ·obtain⟨w',z⟩:=I.cell y c e
   exact⟨w',z.sameBut hs (cne y c e)⟩
  ·obtain⟨e,n,ne,nf,d⟩:=I.pin p hp
   exact⟨(hs.2 p.1 ne).trans e,n,ne,nf,d⟩
 ·have hfn:X.fn x=true:=by
   rcases hf with z|z
   ·exact z
   ·rw[z]at hk;cases hk
  obtain⟨c,hc⟩:=I.ok.has x (.inl hk)
  obtain⟨w',z⟩:=I.cell x c hc
  refine wpAny_storeName_cell I.ok.kind hk hc z (λh' hc' hs=>?_)
  obtain⟨oc,hoc,hocd⟩:=id z
  refine h {s with heap:=h'} ⟨I.ok,I.os,I.bare,⟨λb o e n hb hx=>?_,λb o e n hb hx=>?_,I.base.free,λb o e hx=>?_,I.base.tups,I.base.frzs,I.base.tbls⟩,⟨m,hn.sameBut hs (Ne.symm (cne x c hc)),λj y v' e1 e2 e3=>?_⟩,λy c' e=>?_,I.free,I.freeC,λp hp=>?_,tracked ⟨oc,hoc,I.freeC x c hc⟩ hs,by simpa using I.len⟩ ⟨c,hs,.inr hc⟩
  ·exact(hs.2 b (Ed (Ec (Heap.lt_size e) (I.ok.cab x c hfn hc)))).trans (I.base.keep b o e n hb hx)
  ·obtain⟨sl,e1⟩:=I.base.slot b o e n hb hx
   exact⟨sl,(hs.2 b (Ed (Ec (Heap.lt_size e) (I.ok.cab x c hfn hc)))).trans e1⟩
  ·obtain⟨o',e1⟩:=I.base.there b o e hx
   exact⟨o',(hs.2 b (Ed (Ec (Heap.lt_size e) (I.ok.cab x c hfn hc)))).trans e1⟩
  ·by_cases hj:j=i
   ·subst hj
    rw[hi]at e1;cases e1
    rw[EL hiZ]at e2
    cases e2
    exact⟨u,r,.inr ⟨.inl hk,c,hc,hc'⟩⟩
   ·rw[Ef (Ne.symm hj)]at e2
    obtain⟨u',r',q⟩:=hl j y v' e1 e2 e3
    refine⟨u',r',?_⟩
    rcases q with q|⟨k,c',e,z'⟩
    ·exact .inl q
    ·refine .inr ⟨k,c',e,z'.sameBut hs ?_⟩
     rintro rfl
     exact hj (mn hN e1 (I.ok.inj _ _ _ e hc▸hi))
  ·by_cases hcc:c'=c
   ·subst hcc;exact⟨_,hc'⟩
   ·obtain⟨w2,z2⟩:=I.cell y c' e
    exact⟨w2,z2.sameBut hs hcc⟩
  ·obtain⟨e,n,ne,nf,d⟩:=I.pin p hp
   refine⟨(hs.2 p.1 ?_).trans e,n,ne,nf,d⟩
   intro q
   rw[q,hoc]at e
   have q':oc=p.2:=Em.inj e
   exact d w' (by rw[←q'];exact hocd)
theorem gX {M:Model}{A:Around}{E:Value->Shared->Prop}{i:Nat}{x:Str}{v:V}{u:Value}{Q:Unit->Shared->Prop}(I:Inv X pins Z H s)(hN:X.N.Nodup)(hi:X.N[i]?=some x)(hx:Loc X.env.scope x)(r:RelV v u)
  (h:∀s',Inv X pins (Z.set i (some v)) H s'->Q () s') (hf:X.fn x=true∨X.env.scope.names.lookup x=some .local:=by first|exact .inl rfl|exact .inr rfl|assumption):wpAny M A (storeName X.env x u) Q E s:=
 kC I hN hi hx r (λs' I' _=>h s' I') hf
theorem Inv.call' {s':Shared}{ch:List Addr}(I:Inv X pins Z H s)(ho:s'.os=s.os)(u:Un (frs X.stack) ch H H' s.heap s'.heap)(hok:HOk X.prog X.w H' s'.heap)(hg:AllBare s'.gens)
  (hch:∀b∈ch,(b∈X.ex∨X.s₀.heap.objs.size<=b)/\b≠X.env.locals/\(∀x c,X.env.cells.lookup x=some c->c≠b)/\∀p∈X.pn++pins,p.1≠b):Inv X pins Z H' s':=by
 obtain⟨h',g',d',t',o'⟩:=s'
 have e:o'=s.os:=ho
 subst e
 exact I.call (g':=g') (t':=t') (d':=d') u hok hg hch
end
abbrev XK:=Value->Option Addr->Hp->Prop
abbrev St:=List (Option V)
abbrev VK:=V->Hp->Prop
abbrev TE:=St->Hp->VK->Prop
abbrev TT:=St->Hp->(Bool->Hp->Prop)->Prop
abbrev TA:=St->Hp->(List V->Hp->Prop)->Prop
structure Ends where
 nx:St->Hp->Prop
 rt:VK
 bk:St->Hp->Prop:=λ_ _=>False
 ct:St->Hp->Prop:=λ_ _=>False
abbrev TS:=Ends->St->Hp->Prop
def EP (X:Cx)(pins:List (Addr×Obj))(Z:St)(Q:VK)(u:Value)(s':Shared):Prop:=∃v H',Inv X pins Z H' s'/\RelV v u/\Q v H'
def TP (X:Cx)(pins:List (Addr×Obj))(Z:St)(Q:Bool->Hp->Prop)(b:Bool)(s':Shared):Prop:=∃H',Inv X pins Z H' s'/\Q b H'
def AP (X:Cx)(pins:List (Addr×Obj))(Z:St)(Q:List V->Hp->Prop)(us:List Value)(s':Shared):Prop:=∃vs H',Inv X pins Z H' s'/\Vals vs us/\Q vs H'
def SP (X:Cx)(pins:List (Addr×Obj))(D:Ends)(f:Flow)(s':Shared):Prop:=
 match f with
 | .next=>∃Z' H',Inv X pins Z' H' s'/\D.nx Z' H'
 | .brk=>∃Z' H',Inv X pins Z' H' s'/\D.bk Z' H'
 | .cont=>∃Z' H',Inv X pins Z' H' s'/\D.ct Z' H'
 | .ret u=>∃v Z' H',Inv X pins Z' H' s'/\RelV v u/\D.rt v H'
def PE (X:Cx)(e:Expr)(t:TE):Prop:=
 ∀(pins:List (Addr×Obj)) (s:Shared) (Z:St) (H:Hp) (Q:VK),Inv X pins Z H s->t Z H Q->wpAny (model X.prog X.w) X.A (eval e X.env) (EP X pins Z Q) X.xe s
def PT (X:Cx)(e:Expr)(t:TT):Prop:=
 ∀(pins:List (Addr×Obj)) (s:Shared) (Z:St) (H:Hp) (Q:Bool->Hp->Prop),Inv X pins Z H s->t Z H Q->wpAny (model X.prog X.w) X.A (isTrue e X.env (eval e X.env)) (TP X pins Z Q) X.xe s
def PW (X:Cx)(e:Expr)(t:TT):Prop:=
 ∀(whole:Sem Value) (pins:List (Addr×Obj)) (s:Shared) (Z:St) (H:Hp) (Q:Bool->Hp->Prop),Inv X pins Z H s->t Z H Q->wpAny (model X.prog X.w) X.A (isTrue e X.env whole) (TP X pins Z Q) X.xe s
theorem PW.pt {X:Cx}{e:Expr}{t:TT}(h:PW X e t):PT X e t:=h _
def PA (X:Cx)(es:List Expr)(t:TA):Prop:=
 ∀(pos:Pos) (pins:List (Addr×Obj)) (s:Shared) (Z:St) (H:Hp) (Q:List V->Hp->Prop),Inv X pins Z H s->t Z H Q->wpAny (model X.prog X.w) X.A (spliced (backTo pos (starEach es X.env))) (AP X pins Z Q) X.xe s
def PS (X:Cx)(st:Stmt)(t:TS):Prop:=
 ∀(pins:List (Addr×Obj)) (s:Shared) (Z:St) (H:Hp) (D:Ends),Inv X pins Z H s->t D Z H->wpAny (model X.prog X.w) X.A (exec st X.env) (SP X pins D) X.xe s
def PSs (X:Cx)(st:List Stmt)(t:TS):Prop:=
 ∀(pins:List (Addr×Obj)) (s:Shared) (Z:St) (H:Hp) (D:Ends),Inv X pins Z H s->t D Z H->wpAny (model X.prog X.w) X.A (execs st X.env) (SP X pins D) X.xe s
theorem thn {α:Type}{t:Sem α}{Q Q' : α->Shared->Prop}{M:Model}{A:Around}{E:Value->Shared->Prop}{s:Shared}(h:wpAny M A t Q E s)(hQ:∀a s,Q a s->Q' a s):wpAny M A t Q' E s:=wpAny_mono h hQ λ_ _ x=>x
section
variable  {X:Cx}
theorem bin {a b:Expr}{ta tb:TE}(ha:PE X a ta)(hb:PE X b tb){pins:List (Addr×Obj)}{s:Shared}{Z:St}{H:Hp}{R:V->V->Hp->Prop}(I:Inv X pins Z H s)(h:ta Z H λx H1=>tb Z H1 λy H2=>R x y H2)
  {α:Type} {Q : α->Shared->Prop} {f:Value->Value->Sem α}
  (hf:∀v u s2 x y H2,Inv X pins Z H2 s2->RelV x v->RelV y u->R x y H2->wpAny (model X.prog X.w) X.A (f v u) Q X.xe s2) :
  wpAny (model X.prog X.w) X.A (eval a X.env) (λv s₁=>wpAny (model X.prog X.w) X.A (eval b X.env) (λu s₂=>wpAny (model X.prog X.w) X.A (f v u) Q X.xe s₂) X.xe s₁) X.xe s:=by
 refine thn (ha pins s Z H _ I h) λv s1 ⟨x,H1,I1,r1,q1⟩=>?_
 refine thn (hb pins s1 Z H1 _ I1 q1) λu s2 ⟨y,H2,I2,r2,q2⟩=>?_
 exact hf v u s2 x y H2 I2 r1 r2 q2
def AU (i:Nat):TE:=λZ H Q=>∃v,Z[i]?=some (some v)/\Q v H
def tC (v:V):TE:=λ_ H Q=>Q v H
theorem sO {i:Nat}{x:Str}{pos:Pos}(hN:X.N[i]?=some x)(hv:Vis X.env.scope x)(hd:(x==("__debug__" : Str))=false:=by decide)(hcd:(x==("__classdict__" : Str))=false:=by decide):PE X (.Name x pos) (AU i):=by
 intro pins s Z H Q I h
 obtain⟨v,e,h⟩:=h
 obtain⟨m,hn,hl⟩:=I.loc
 obtain⟨u,r,l⟩:=hl i x v hN e hv
 have fin:EP X pins Z Q u s:=⟨v,H,I,r,h⟩
 rcases l with⟨hk,hm⟩|⟨hk,c,hc,hcell⟩
 ·exact wpAny_Name (wpAny_loadName_local I.ok.kind hk hn hm fin) hd
 ·rcases hk with hk|hk
  ·exact wpAny_Name (wpAny_loadName_cell I.ok.kind hk hc hcell fin) hd
  ·exact wpAny_Name (wpAny_loadName_free I.ok.kind hk hc hcell fin hcd) hd
theorem sM {i j pos}:PE X (.Constant (.int i) j pos) (tC (.int i)):=λ_ _ _ H _ I h=>wpAny_Constant_int ⟨.int i,H,I.tok _,⟨_,rfl⟩,h⟩
theorem B7 {b j pos}:PE X (.Constant (.bool b) j pos) (tC (.bl b)):=λ_ _ _ H _ I h=>Constant_bool ⟨.bl b,H,I,rfl,h⟩
theorem zN {x j pos}:PE X (.Constant (.str x) j pos) (tC (.str x)):=λ_ _ _ H _ I h=>Calls.Constant_str ⟨.str x,H,I.tok _,⟨_,rfl⟩,h⟩
def Gl (X:Cx)(x:Str):Prop:=X.env.kindOf x=some .globalImplicit
theorem vB {E:Value->Shared->Prop}{pins:List (Addr×Obj)}{s:Shared}{Z:St}{H:Hp}{x:Str}{u:Value}{pos:Pos}{Q:Value->Shared->Prop}(I:Inv X pins Z H s)(hg:Gl X x)(hm:X.mg x=some u)(h:Q u s)
  (hd:(x==("__debug__" : Str))=false:=by decide):wpAny (model X.prog X.w) X.A (eval (.Name x pos) X.env) Q E s:=
 Calls.Name_function_global I.ok.kind hg (Calls.loadGlobal_global (by rw[I.ok.glob];exact I.mod.glob.keeps I.bk) hm h) hd
theorem ib {E:Value->Shared->Prop}{pins:List (Addr×Obj)}{s:Shared}{Z:St}{H:Hp}{x:Str}{u:Value}{pos:Pos}{Q:Value->Shared->Prop}(I:Inv X pins Z H s)(hg:Gl X x)(hm:X.mg x=none)(hv:bootBuiltins x=some u)(h:Q u s)
  (hn:x ≠ "__name__" :=by decide) (hd:(x==("__debug__" : Str))=false:=by decide):wpAny (model X.prog X.w) X.A (eval (.Name x pos) X.env) Q E s:=by
 obtain⟨mb,h1,h2⟩:=I.mod.blt
 exact Calls.Name_function_global I.ok.kind hg (Calls.loadGlobal_builtin (by rw[I.ok.glob];exact I.mod.glob.keeps I.bk) hm (by rw[I.ok.blt];exact h1.keeps I.bk) ((h2 x hn).trans hv) h) hd
theorem vV {x:Str}{v:V}{u:Value}{pos:Pos}(hg:Gl X x)(hm:X.mg x=none)(hv:bootBuiltins x=some u)(r:RelV v u)(hn:x ≠ "__name__" :=by decide)(hd:(x==("__debug__" : Str))=false:=by decide):PE X (.Name x pos) (tC v):=
 λ_ _ _ H _ I h=>ib I hg hm hv ⟨v,H,I,r,h⟩ hn hd
variable  {a b:Expr}{ta tb:TE}{pos:Pos}
def PC (X:Cx)(op:CmpOp)(a b:Expr)(t:TE):Prop:=
 ∀(pins:List (Addr×Obj)) (s:Shared) (Z:St) (H:Hp) (Q:VK),Inv X pins Z H s->t Z H Q →
  wpAny (model X.prog X.w) X.A (eval a X.env) (λv s₁=>wpAny (model X.prog X.w) X.A (eval b X.env) (λu s₂=>wpAny (model X.prog X.w) X.A (compareOp op v u) (EP X pins Z Q) X.xe s₂) X.xe s₁) X.xe s
def tB (t:TE):TT:=λZ H Q=>t Z H λx H1=>∃c,x=.bl c/\Q c H1
theorem pt_cmp {op:CmpOp}{t:TE}(h:PC X op a b t)(h1:behindInMarks op b=false:=by first|exact nobehind _ (by decide) (by decide)|rfl):PT X (.Compare a [op] [b] pos) (tB t):=by
 intro pins s Z H Q I hw
 refine wpAny_isTrue_Compare1 (thn (h pins s Z H _ I hw) λv s1 h1=>thn h1 λu s2 h2=>thn h2 λc s3 ⟨x,H1,I1,r1,q1⟩=>?_) h1
 obtain⟨d,rfl,q⟩:=q1
 cases r1
 exact wpAny_truthy_bool ⟨H1,I1,q⟩
theorem z0 {e:Expr}{t:TE}(h:PE X e t)(he:∀whole,isTrue e X.env whole=(do let v ←whole;standAt e.pos;holding [v] (truthy v)):=by intro _;rfl):PT X e (tB t):=by
 intro pins s Z H Q I hw
 refine isTrue_plain (thn (h pins s Z H _ I hw) λv s1 ⟨x,H1,I1,r1,q1⟩=>?_) (he _)
 obtain⟨d,rfl,q⟩:=q1
 cases r1
 exact wpAny_truthy_bool ⟨H1,I1,q⟩
variable  {tA tB':TT}{rest:List Expr}
def CU (t u:TT):TT:=λZ H Q=>t Z H λc H1=>if c=true then u Z H1 Q else Q false H1
def C1 (t:TT):TT:=λZ H Q=>t Z H λc H1=>Q (!c) H1
theorem wz (ha:PT X a tA):PW X (.BoolOp .And [a] pos) tA:=by
 intro wh pins s Z H Q I h
 refine isTrue_and (thn (ha pins s Z H Q I h) λc s1 e=>?_)
 cases c with
 | true=>exact isTrue_and_nil e
 | false=>exact e
theorem z7 (ha:PT X a tA)(hb:PW X (.BoolOp .And (b::rest) pos) tB'):PW X (.BoolOp .And (a::b::rest) pos) (CU tA tB'):=by
 intro wh pins s Z H Q I h
 refine isTrue_and (thn (ha pins s Z H _ I h) λc s1 ⟨H1,I1,q1⟩=>?_)
 cases c with
 | true=>exact hb wh pins s1 Z H1 Q I1 q1
 | false=>exact⟨H1,I1,q1⟩
theorem zZ (ha:PT X a tA):PT X (.UnaryOp .Not a pos) (C1 tA):=by
 intro pins s Z H Q I h
 exact isTrue_not (ha pins s Z H (λc H1=>Q (!c) H1) I h)
def ym (ta tb:TE):TE:=λZ H Q=>ta Z H λx H1=>∃c,x=.bl c/\if c=true then tb Z H1 Q else Q (.bl false) H1
def yr (ta:TE):TE:=λZ H Q=>ta Z H λx H1=>∃c,x=.bl c/\Q (.bl (!c)) H1
theorem zM {op}{t:TE}(h:PE X a t):PE X (.BoolOp op [a] pos) t:=λpins s Z H Q I hw=>BoolOp_one (h pins s Z H Q I hw)
theorem zI (ha:PE X a ta)(hb:PE X (.BoolOp .And (b::rest) pos) tb):PE X (.BoolOp .And (a::b::rest) pos) (ym ta tb):=by
 intro pins s Z H Q I h
 refine BoolOp_and (thn (ha pins s Z H _ I h) λv s1 ⟨x,H1,I1,r1,q1⟩=>?_)
 obtain⟨c,rfl,q1⟩:=q1
 cases r1
 refine wpAny_truthy_bool ?_
 cases c with
 | true=>exact hb pins s1 Z H1 Q I1 q1
 | false=>exact⟨.bl false,H1,I1,rfl,q1⟩
theorem zL (ha:PE X a ta):PE X (.UnaryOp .Not a pos) (yr ta):=by
 intro pins s Z H Q I h
 refine UnaryOp_ (thn (ha pins s Z H _ I h) λv s1 ⟨x,H1,I1,r1,q1⟩=>?_)
 obtain⟨c,rfl,q1⟩:=q1
 cases r1
 exact not_of (wpAny_truthy_bool ⟨.bl (!c),H1,I1,rfl,q1⟩)
end
def SqL (K:yF)(H:Hp)(a:Addr)(xs:List V):Prop:=
 Rd H a (.lst xs) ∨
  ∃(o:Obj) (its:Array Value) (n:Nat),K.lookup a=some o/\o.cls=.type "list" ∧ o.dict=none/\o.data=.seq its n/\its.size<=sizeLine/\Vals xs its.toList
def SqT (K:yF)(H:Hp)(a:Addr)(xs:List V):Prop:=
 Rd H a (.tup xs) ∨
  ∃(o:Obj) (its:Array Value) (n:Nat),K.lookup a=some o/\(o.cls=.type "tuple" ∧ o.dict=none)/\o.data=.seq its n/\its.size<=sizeLine/\Vals xs its.toList
noncomputable def Dh:Value->Option V
 | .none=>some .non
 | .bool b=>some (.bl b)
 | .int i _=>some (.int i)
 | .str x _=>some (.str x)
 | .bytes b _=>some (.byt b)
 | .float b _=>some (.flt b)
 | .ref a=>some (.ref a)
 | .type n=>some (.ty n)
 | _=>none
theorem RelV.abs {x:V}{u:Value}(r:RelV x u):Dh u=some x:=by
 cases x with
 | non=>cases r;rfl
 | bl _=>cases r;rfl
 | int _=>obtain⟨t,rfl⟩:=r;rfl
 | str _=>obtain⟨t,rfl⟩:=r;rfl
 | byt _=>obtain⟨t,rfl⟩:=r;rfl
 | flt _=>obtain⟨t,rfl⟩:=r;rfl
 | ref _=>cases r;rfl
 | ty _=>cases r;rfl
theorem RelV.inj {x y:V}{u:Value}(r:RelV x u)(q:RelV y u):x=y:=Em.inj (r.abs.symm.trans q.abs)
theorem Vals.inj:∀{xs ys:List V} {us:List Value},Vals xs us->Vals ys us->xs=ys
 | _,_,_,.nil,.nil=>rfl
 | _,_,_,.cons r t,.cons r' t'=>by rw[r.inj r',Vals.inj t t']
section
variable  {X:Cx}{pins:List (Addr×Obj)}{Z:St}{H:Hp}{s:Shared}{a:Addr}{xs ys:List V}
theorem SqL.of {K:yF}(h:H a=some (.lst xs)):SqL K H a xs:=.inl (.inl h)
theorem SqT.of {K:yF}(h:H a=some (.tup xs)):SqT K H a xs:=.inl (.inl h)
theorem Inv.list (I:Inv X pins Z H s)(h:SqL X.K H a xs):∃its:List Value,Vals xs its/\PlainL s.heap a its.toArray/\xs.length<=sizeLine:=by
 rcases h with h|⟨o,its,n,hk,hc,hd,hs,hz,r⟩
 ·obtain⟨z,its,n,r,e⟩:=h.ok I.hok
  exact⟨its,r,⟨_,n,e,rfl,rfl,rfl⟩,z⟩
 ·refine⟨its.toList,r,⟨o,n,I.kIn a o hk,hc,hd,by simpa using hs⟩,?_⟩
  have e:=r.length
  simp only[EO]at e
  omega
theorem Inv.tuple (I:Inv X pins Z H s)(h:SqT X.K H a xs):∃its:List Value,Vals xs its/\IsTup s.heap a its.toArray/\xs.length<=sizeLine:=by
 rcases h with h|⟨o,its,n,hk,hc,hs,hz,r⟩
 ·obtain⟨z,its,r,p⟩:=h.ok I.hok
  exact⟨its,r,p.to,z⟩
 ·refine⟨its.toList,r,⟨o,I.kIn a o hk,hc.1,n,by simpa using hs⟩,?_⟩
  have e:=r.length
  simp only[EO]at e
  omega
theorem Inv.list_inj (I:Inv X pins Z H s)(h:SqL X.K H a xs)(h':SqL X.K H a ys):xs=ys:=by
 obtain⟨its,r,⟨o,n,e,_,_,d⟩,_⟩:=I.list h
 obtain⟨its',r',⟨o',n',e',_,_,d'⟩,_⟩:=I.list h'
 rw[e]at e';cases e'
 rw[d]at d'
 injection d' with d1 _
 have:its=its':=by simpa using congrArg Ho d1
 subst this
 exact r.inj r'
theorem Inv.tuple_inj (I:Inv X pins Z H s)(h:SqT X.K H a xs)(h':SqT X.K H a ys):xs=ys:=by
 obtain⟨its,r,⟨o,e,_,n,d⟩,_⟩:=I.tuple h
 obtain⟨its',r',⟨o',e',_,n',d'⟩,_⟩:=I.tuple h'
 rw[e]at e';cases e'
 rw[d]at d'
 injection d' with d1 _
 have:its=its':=by simpa using congrArg Ho d1
 subst this
 exact r.inj r'
end
noncomputable abbrev Cx.wish (X:Cx) (E:Value->Shared->Prop):Cx:={X with xe:=E}
noncomputable abbrev Cx.nox (X:Cx):Cx:=X.wish λ_ _=>False
theorem Cx.Ok.wish {X:Cx}(ok:X.Ok)(E:Value->Shared->Prop):(X.wish E).Ok:=
 ⟨ok.mod,ok.kind,ok.glob,ok.blt,ok.above,ok.inj,ok.has,ok.cab,ok.hd,ok.gd,ok.frames,ok.stk,ok.exf,ok.bs,ok.bsz,ok.noex,ok.exfs,ok.funs,ok.frf⟩
theorem Cx.Ok.unwish {X:Cx}{E:Value->Shared->Prop}(ok:(X.wish E).Ok):X.Ok:=
 ⟨ok.mod,ok.kind,ok.glob,ok.blt,ok.above,ok.inj,ok.has,ok.cab,ok.hd,ok.gd,ok.frames,ok.stk,ok.exf,ok.bs,ok.bsz,ok.noex,ok.exfs,ok.funs,ok.frf⟩
section
variable  {X:Cx}{pins:List (Addr×Obj)}{Z:St}{H:Hp}{s:Shared}{E:Value->Shared->Prop}
theorem Inv.wish (I:Inv X pins Z H s)(E:Value->Shared->Prop):Inv (X.wish E) pins Z H s:=⟨I.ok.wish E,I.os,I.bare,I.base,I.loc,I.cell,I.free,I.freeC,I.pin,I.hok,I.len⟩
theorem Inv.unwish (I:Inv (X.wish E) pins Z H s):Inv X pins Z H s:=⟨I.ok.unwish,I.os,I.bare,I.base,I.loc,I.cell,I.free,I.freeC,I.pin,I.hok,I.len⟩
theorem SP.unwish {D:Ends}{f:Flow}{s':Shared}(h:SP (X.wish E) pins D f s'):SP X pins D f s':=by
 cases f with
 | next=>obtain⟨Z',H',I,q⟩:=h;exact⟨Z',H',I.unwish,q⟩
 | brk=>obtain⟨Z',H',I,q⟩:=h;exact⟨Z',H',I.unwish,q⟩
 | cont=>obtain⟨Z',H',I,q⟩:=h;exact⟨Z',H',I.unwish,q⟩
 | ret u=>obtain⟨v,Z',H',I,r,q⟩:=h;exact⟨v,Z',H',I.unwish,r,q⟩
theorem PSs.nox {st:List Stmt}{t:TS}(h:PSs X.nox st t):PSs X st t:=λpins s Z H D I hw=>
 wpAny_mono (h pins s Z H D (I.wish _) hw) (λ_ _ q=>q.unwish) λ_ _ z=>False.elim z
end
section
variable  {X:Cx}{st:Stmt}{rest:List Stmt}{t u:TS}{e:Expr}{te:TE}{pos:Pos}
def yq:TS:=λD Z H=>D.nx Z H
def C4 (t u:TS):TS:=λD Z H=>t {D with nx:=u D} Z H
theorem wr:PSs X [] yq:=λ_ _ Z H _ I h=>wpAny_execs_nil ⟨Z,H,I,h⟩
theorem tG (h1:PS X st t)(h2:PSs X rest u):PSs X (st::rest) (C4 t u):=by
 intro pins s Z H D I h
 refine wpAny_execs_cons (thn (h1 pins s Z H {D with nx:=u D} I h) λf s1 q=>?_)
 cases f with
 | next=>
  obtain⟨Z',H',I',q⟩:=q
  exact h2 pins s1 Z' H' D I' q
 | ret v=>exact q
 | brk=>exact q
 | cont=>exact q
theorem wt (h1:PS X st t):PSs X [st] t:=by
 intro pins s Z H D I h
 refine wpAny_execs_cons (thn (h1 pins s Z H D I h) λf s1 q=>?_)
 cases f with
 | next=>exact wpAny_execs_nil q
 | ret v=>exact q
 | brk=>exact q
 | cont=>exact q
theorem Inv.quiet {pins:List (Addr×Obj)}{Z:St}{H:Hp}{s:Shared}(I:Inv X pins Z H s):interactive X.env=false:=by simp[interactive,I.ok.kind]
def yo (te:TE):TS:=λD Z H=>te Z H λ_ H1=>D.nx Z H1
theorem wq (he:PE X e te)(hs:swapsWith e none pos.line X.env=pure false:=by rfl):PS X (.Expr e pos) (yo te):=by
 intro pins s Z H D I h
 exact wpAny_Expr_any (thn (he pins s Z H _ I h) λv s1 ⟨x,H1,I1,r1,q1⟩=>⟨Z,H1,I1,q1⟩) I.quiet hs
def C3 (te:TE):TS:=λD Z H=>te Z H D.rt
theorem zX (he:PE X e te):PS X (.Return (some e) pos) (C3 te):=by
 intro pins s Z H D I h
 exact wpAny_Return_some (thn (he pins s Z H _ I h) λv s1 ⟨x,H1,I1,r1,q1⟩=>⟨x,Z,H1,I1,r1,q1⟩)
def CY (c:TT)(t u:TS):TS:=λD Z H=>c Z H λb H1=>if b=true then t D Z H1 else u D Z H1
theorem Cd {c:Expr}{a b:List Stmt}{tc:TT}(hc:PT X c tc)(ha:PSs X a t)(hb:PSs X b u):PS X (.If c a b pos) (CY tc t u):=by
 intro pins s Z H D I h
 refine wpAny_If (thn (hc pins s Z H _ I h) λd s1 ⟨H1,I1,q1⟩=>?_)
 cases d with
 | true=>exact ha pins s1 Z H1 D I1 q1
 | false=>exact hb pins s1 Z H1 D I1 q1
end
abbrev TG:=V->St->Hp->(St->Hp->Prop)->Prop
abbrev TGs:=List V->St->Hp->(St->Hp->Prop)->Prop
def PG (X:Cx)(target:Expr)(t:TG):Prop:=
 ∀(pins:List (Addr×Obj)) (s:Shared) (Z:St) (H:Hp) (v:V) (u:Value) (Q:St->Hp->Prop),Inv X pins Z H s->RelV v u->t v Z H Q →
  wpAny (model X.prog X.w) X.A (assign target X.env u) (λ_ s'=>∃Z' H',Inv X pins Z' H' s'/\Q Z' H') X.xe s
def PGs (X:Cx)(ts:List Expr)(t:TGs):Prop:=
 ∀(pins:List (Addr×Obj)) (s:Shared) (Z:St) (H:Hp) (vs:List V) (us:List Value) (Q:St->Hp->Prop),Inv X pins Z H s->Vals vs us->t vs Z H Q →
  wpAny (model X.prog X.w) X.A (assignInOrder ((assignEach ts X.env).map (·.2)) us) (λ_ s'=>∃Z' H',Inv X pins Z' H' s'/\Q Z' H') X.xe s
abbrev u8:=V->V->V->Hp->(Hp->Prop)->Prop
def yw (X:Cx)(t:u8):Prop:=
 ∀(pins:List (Addr×Obj)) (s:Shared) (Z:St) (H:Hp) (o i v:V) (ov iv u:Value) (Q:Hp->Prop),Inv X pins Z H s->RelV o ov->RelV i iv->RelV v u->t o i v H Q →
  wpAny (model X.prog X.w) X.A (setItem ov iv u) (λ_ s'=>∃H',Inv X pins Z H' s'/\Q H') X.xe s
section
variable  {X:Cx}{pos:Pos}
def j3 (i:Nat):TG:=λv Z H Q=>Q (Z.set i (some v)) H
theorem wc {i:Nat}{x:Str}(hN:X.N.Nodup)(hi:X.N[i]?=some x)(hx:Loc X.env.scope x)(hf:X.fn x=true∨X.env.scope.names.lookup x=some .local:=by first|exact .inl rfl|exact .inr rfl|assumption):PG X (.Name x pos) (j3 i):=by
 intro pins s Z H v u Q I r h
 exact wpAny_assign_Name (gX I hN hi hx r (λs' I'=>⟨_,H,I',h⟩) hf)
def yL:TGs:=λvs Z H Q=>vs=[]/\Q Z H
def rL (t:TG)(u:TGs):TGs:=λvs Z H Q=>∃v r,vs=v::r/\t v Z H λZ' H'=>u r Z' H' Q
theorem wd:PGs X [] yL:=by
 intro pins s Z H vs us Q I r h
 obtain⟨e,h⟩:=h
 subst e
 cases r
 exact assignInOrder_nil ⟨Z,H,I,h⟩
theorem sR {e:Expr}{es:List Expr}{t:TG}{u:TGs}(h1:PG X e t)(h2:PGs X es u)
  (hs:(assignEach (e::es) X.env).map (·.2)=assign e X.env::(assignEach es X.env).map (·.2):=by rfl):PGs X (e::es) (rL t u):=by
 intro pins s Z H vs us Q I r h
 obtain⟨v,vr,e1,h⟩:=h
 subst e1
 cases r with
 | cons r rr=>
  rw[hs]
  refine assignInOrder_cons (thn (h1 pins s Z H _ _ _ I r h) λ_ s1 ⟨Z1,H1,I1,q1⟩=>?_)
  exact h2 pins s1 Z1 H1 _ _ Q I1 rr q1
def vk (K:yF)(n:Nat)(t:TGs):TG:=λv Z H Q=>∃a xs,v=.ref a/\SqT K H a xs/\xs.length=n/\t xs Z H Q
theorem zP {es:List Expr}{k:Nat}{t:TGs}{n:Nat}(hc:X.calm=true)(h:PGs X es t)
  (hn:(assignEach es X.env).length=n:=by rfl) (hst:(assignEach es X.env).findIdx? (·.1)=none:=by rfl):PG X (.Tuple es k pos) (vk X.K n t):=by
 intro pins s Z H v u Q I r hw
 obtain⟨a,xs,e1,hq,hl,hw⟩:=hw
 subst e1
 cases r
 obtain⟨its,rv,ht,hz⟩:=I.tuple hq
 refine assign_Tuple_tuple (I.ok.hd hc) ht (by simp[hn,←hl,rv.length]) hst λh' hx=>?_
 have I1:Inv X pins Z H {s with heap:=h'}:=I.kept (t':=s.toks) λb o e=>hx b o (Ed (Heap.lt_size e)) e
 exact h pins _ Z H xs _ Q I1 (by simpa using rv) hw
def yM (to ti:TE)(t:u8):TG:=λv Z H Q=>to Z H λo H1=>ti Z H1 λi H2=>t o i v H2 λH3=>Q Z H3
theorem sP {o i:Expr}{to ti:TE}{t:u8}(ho:PE X o to)(hi:PE X i ti)(hs:yw X t)
  (ha:∀v,assign (.Subscript o i pos) X.env v=(do
   let ov ←holding [v] (eval o X.env)
   let iv ←holding [v,ov] (eval i X.env)
   standAt pos
   holding [v,ov,iv] (setItem ov iv v)
   release [v,ov,iv] []):=by intro _;rfl):PG X (.Subscript o i pos) (yM to ti t):=by
 intro pins s Z H v u Q I r h
 rw[ha]
 refine wpAny_bind (wpAny_holding (thn (ho pins s Z H _ I h) λov s1 ⟨x,H1,I1,r1,q1⟩=>?_))
 refine wpAny_bind (wpAny_holding (thn (hi pins s1 Z H1 _ I1 q1) λiv s2 ⟨y,H2,I2,r2,q2⟩=>?_))
 refine wpAny_bind (wpAny_standAt (wpAny_bind (wpAny_holding (thn (hs pins s2 Z H2 x y v ov iv u _ I2 r1 r2 r q2) λ_ s3 ⟨H3,I3,q3⟩=>?_))))
 exact wpAny_release ⟨Z,H3,I3,q3⟩
def xr (te:TE)(g:TG):TS:=λD Z H=>te Z H λx H1=>g x Z H1 D.nx
theorem zU {tg e:Expr}{te:TE}{g:TG}(he:PE X e te)(hg:PG X tg g)(hs:swapsWithSole [tg] e pos.line X.env=pure false:=by rfl)(hw:swappedStores [tg] e X.env=pure none:=by rfl)
  (h1:(assignEach [tg] X.env).map (·.2)=[assign tg X.env]:=by rfl):PS X (.Assign [tg] e pos) (xr te g):=by
 intro pins s Z H D I h
 refine wpAny_Assign_stores (thn (he pins s Z H _ I h) λv s1 ⟨x,H1,I1,r1,q1⟩=>?_) hs hw
 rw[h1]
 exact thn (hg pins s1 Z H1 x v _ I1 r1 q1) λ_ s2 q=>q
theorem zY {i:Nat}{x:Str}{e:Expr}{te:TE}{pos':Pos}(hN:X.N.Nodup)(hi:X.N[i]?=some x)(hx:Loc X.env.scope x)(he:PE X e te)(hs:swapsWith e (some (.Name x pos')) pos.line X.env=pure false:=by rfl)(hf:X.fn x=true∨X.env.scope.names.lookup x=some .local:=by first|exact .inl rfl|exact .inr rfl|assumption) :
  PS X (.Assign [.Name x pos'] e pos) (xr te (j3 i)):=by
 intro pins s Z H D I h
 refine wpAny_Assign_Name (thn (he pins s Z H _ I h) λv s1 ⟨y,H1,I1,r1,q1⟩=>?_) hs
 exact gX I1 hN hi hx r1 (λs2 I2=>⟨_,H1,I2,q1⟩) hf
def C2 (i j:Nat)(ta:TA):TS:=λD Z H=>ta Z H λvs H1=>∃v w,vs=[v,w]/\D.nx ((Z.set i (some v)).set j (some w)) H1
theorem zW {i j:Nat}{x y:Str}{a b:Expr}{ta:TA}{px py pt:Pos}{kt k2 pt2}(hc:X.calm=true)(hN:X.N.Nodup)(hi:X.N[i]?=some x)(hj:X.N[j]?=some y)(hij:i≠j)
  (hx:X.env.scope.names.lookup x=some .local) (hy:X.env.scope.names.lookup y=some .local) (ha:PA X [a,b] ta)
  (hw:swappedStores [.Tuple [.Name x px,.Name y py] kt pt] (.Tuple [a,b] k2 pt2) X.env=pure (some [x,y]))
  (hs:swapsWithSole [.Tuple [.Name x px,.Name y py] kt pt] (.Tuple [a,b] k2 pt2) pos.line X.env=pure false:=by rfl) :
  PS X (.Assign [.Tuple [.Name x px,.Name y py] kt pt] (.Tuple [a,b] k2 pt2) pos) (C2 i j ta):=by
 intro pins s Z H D I h
 rw[exec_Assign_arm]
 refine wpAny_bind (wpAny_standAt ?_)
 rw[hs]
 refine wpAny_bind (wpAny_pure ?_)
 rw[if_neg (by decide)]
 refine wpAny_bind (Tuple_ (thn (ha _ pins s Z H _ I h) λus s1 ⟨vs,H1,I1,r1,q1⟩=>?_))
 obtain⟨v,w,e1,q1⟩:=q1
 subst e1
 obtain⟨u1,u2,rfl,rv,rw'⟩:∃u1 u2,us=[u1,u2]/\RelV v u1/\RelV w u2:=by
  cases r1 with
  | cons p q=>
   cases q with
   | cons p' q'=>
    cases q'
    exact⟨_,_,rfl,p,p'⟩
 refine wpAny_newObj_type ?_ (by show 2<=sizeLine;decide)
 have I2:Inv X pins Z H1 {s1 with heap:=s1.heap.push {cls:=.type "tuple",data:=.seq [u1,u2].toArray}}:=I1.kept (t':=s1.toks) λb o e=>Heap.get?_push_of_some _ e
 rw[hw]
 refine wpAny_bind (wpAny_pure ?_)
 show wpAny (model X.prog X.w) X.A (do rule "assign.swapped-stores";let items ←unpackItems (.ref s1.heap.objs.size) 2 none;assignInOrder [λv=>bindName X.env y v,λv=>bindName X.env x v] items.reverse;pure Flow.next) _ _ _
 refine wpAny_bind (wpAny_rule (wpAny_bind (unpackItems_tuple (items:=#[u1,u2]) (I.ok.hd hc) (IsTup.new s1.heap _) λh' hx'=>?_)))
 have I3:=I2.kept (h':=h') (t':=s1.toks) λb o e=>hx' b o (Ed (Heap.lt_size e)) e
 show wpAny _ _ (assignInOrder [λv=>bindName X.env y v,λv=>bindName X.env x v] [u2,u1] >>= λ_=>pure Flow.next) _ _ _
 refine wpAny_bind (assignInOrder_cons (wpAny_bindName (gX I3 hN hj (.inl hy) rw' (λs2 I4=>?_) (.inr hy))))
 refine assignInOrder_cons (wpAny_bindName (gX I4 hN hi (.inl hx) rv (λs3 I5=>assignInOrder_nil (wpAny_pure ?_)) (.inr hx)))
 rw[List.set_comm _ _ (Ne.symm hij)]at I5
 exact⟨_,H1,I5,q1⟩
end
section
variable  {X:Cx}{pos:Pos}
def uH (c:TT)(tb:TS):TS:=λD Z H=>∃W:Nat->St->Hp->Prop,(∃m,W m Z H)/\∀m Z H,W m Z H →
 c Z H λb H1=>if b=true then∃N:St->Hp->Prop,(∀Z' H',N Z' H'->∃m',m'<m/\W m' Z' H')/\tb {D with nx:=N,ct:=N,bk:=D.nx} Z H1 else D.nx Z H1
theorem tF {c:Expr}{body:List Stmt}{tc:TT}{tb:TS}(hp:PassesOwn (model X.prog X.w) X.A X.env X.xe)(hc:PT X c tc)(hb:PSs X body tb):PS X (.While c body [] pos) (uH tc tb):=by
 intro pins s Z H D I h
 obtain⟨W,⟨m0,w0⟩,turn⟩:=h
 refine wpAny_While (codeAny_whileLoop (λn s'=>∃Z' H',Inv X pins Z' H' s'/\W n Z' H') ?_ m0 ⟨Z,H,I,w0⟩)
 rintro n s1 ⟨Z1,H1,I1,w1⟩
 refine wpAny_passesOwn hp (thn (hc pins s1 Z1 H1 _ I1 (turn n Z1 H1 w1)) λb s2 ⟨H2,I2,q2⟩=>?_)
 cases b with
 | true=>
  obtain⟨N,hN,q2⟩:=q2
  rw[if_pos rfl]
  refine wpAny_passesOwn hp (thn (hb pins s2 Z1 H2 _ I2 q2) λf s3 q3=>?_)
  cases f with
  | next=>
   obtain⟨Z3,H3,I3,n3⟩:=q3
   obtain⟨m',hm,w3⟩:=hN Z3 H3 n3
   exact⟨m',hm,Z3,H3,I3,w3⟩
  | cont=>
   obtain⟨Z3,H3,I3,n3⟩:=q3
   obtain⟨m',hm,w3⟩:=hN Z3 H3 n3
   exact⟨m',hm,Z3,H3,I3,w3⟩
  | brk=>exact q3
  | ret v=>exact q3
 | false=>
  rw[if_neg D0]
  exact wpAny_execs_nil ⟨Z1,H2,I2,q2⟩
end
structure It where
 go:Nat->Hp->Prop
 yld:Nat->Hp->V->Hp->Prop
 stop:Nat->Hp->Prop
def dQ (X:Cx)(pins:List (Addr×Obj))(H:Hp)(b:Addr):Prop:=
 H b=none/\b≠X.env.locals/\b∉X.fs/\(b∈X.ex∨X.s₀.heap.objs.size<=b)/\(∀x c,X.env.cells.lookup x=some c->c≠b)/\∀p∈X.pn++pins,p.1≠b
theorem Inv.fpOk {X:Cx}{pins:List (Addr×Obj)}{Z:St}{H H':Hp}{s:Shared}{b:Addr}(I:Inv X pins Z H s)(hb:s.heap.objs.size<=b)(hn:H' b=none):dQ X pins H' b:=by
 refine⟨hn,Fz (Ec I.lt hb),I.nofs hb,.inr (Ev I.sz hb),λx c e z=>?_,λp hp z=>?_⟩
 ·obtain⟨v,q⟩:=I.cell x c e
  exact absurd (Ec q.lt (by rw[z];exact hb)) (EV _)
 ·exact absurd (Ec (Heap.lt_size (I.pin p hp).1) (by rw[z];exact hb)) (EV _)
structure Turn (P:Program)(w:World)(K:yF)(tg:Expr)(J:It)(fp:List Addr)(it:Addr)(tn:Nat->Heap->Prop):Prop where
 mem:it∈fp
 obj:∀i h,tn i h->∀b∈fp,∃o,h.get? b=some o/\∀v,o.data ≠ .cell v
 keep:∀i h h',tn i h->(∀b∈fp,∀o,h.get? b=some o->h'.get? b=some o)->tn i h'
 item:∀(X:Cx),X.prog=P->X.w=w->X.K=K->X.calm=true->∀(i:Nat) (pins:List (Addr×Obj)) (s:Shared) (Z:St) (H:Hp) (E:Value->Shared->Prop),Inv X pins Z H s->(∀b∈fp,dQ X pins H b)->tn i s.heap->J.go i H →
  wpAny (model P w) X.A (pyNext (.ref it)) (λr s1=>∃u,r=some u ∧
   wpAny (model P w) X.A (letOwnedTupleGo tg (.ref it) u) (λ_ s2=>∃x H',Inv X pins Z H' s2/\RelV x u/\J.yld i H x H'/\tn (i+1) s2.heap/\∀b∈fp,H' b=none) E s1) E s
 done:∀(X:Cx),X.prog=P->X.w=w->X.K=K->X.calm=true->∀(i:Nat) (pins:List (Addr×Obj)) (s:Shared) (Z:St) (H:Hp) (E:Value->Shared->Prop),Inv X pins Z H s->(∀b∈fp,dQ X pins H b)->tn i s.heap->J.stop i H →
  wpAny (model P w) X.A (pyNext (.ref it)) (λr s1=>r=none/\Inv X pins Z H s1) E s
 self:∀(A:Around) (i:Nat) (s:Shared) (Q:Value->Shared->Prop) (E:Value->Shared->Prop),tn i s.heap->Q (.ref it) s->wpAny (model P w) A (pyIter (.ref it)) Q E s
abbrev TI:=St->Hp->(It->Hp->Prop)->Prop
def PIE (X:Cx)(pins:List (Addr×Obj))(Z:St)(tg:Expr)(R:It->Hp->Prop)(itv:Value)(s2:Shared):Prop:=
 ∃(it:Addr) (fp:List Addr) (tn:Nat->Heap->Prop) (J:It) (H':Hp),itv=.ref it/\Inv X pins Z H' s2/\Turn X.prog X.w X.K tg J fp it tn/\tn 0 s2.heap/\(∀b∈fp,dQ X pins H' b)/\R J H'
def PI (X:Cx)(tg iter:Expr)(wi:TI):Prop:=
 ∀(pins:List (Addr×Obj)) (s:Shared) (Z:St) (H:Hp) (R:It->Hp->Prop),Inv X pins Z H s->wi Z H R →
  wpAny (model X.prog X.w) X.A (eval iter X.env) (λv s1=>wpAny (model X.prog X.w) X.A (pyIter v) (PIE X pins Z tg R) X.xe s1) X.xe s
theorem oK {M:Model}{A:Around}{E:Value->Shared->Prop}{s:Shared}{tg:Expr}{it:Addr}{u:Value}{o:Obj}{n:String}{vs:Array Value}{Q:Unit->Shared->Prop}(ho:s.heap.get? it=some o)(hc:o.cls=.type n)(hd:o.data=.fields vs)
  (hn:["enumerate","zip","dict_itemiterator","dict_reverseitemiterator","odict_iterator","itertools.zip_longest","itertools.pairwise"].contains n=false) (hQ:Q () s):wpAny M A (letOwnedTupleGo tg (.ref it) u) Q E s:=by
 unfold letOwnedTupleGo
 cases tg<;>first
  | exact wpAny_pure hQ
  | (cases u<;>first
    | exact wpAny_pure hQ
    | (refine wpAny_bind (wpAny_load ho ?_)
       rw[hc,hd]
       show wpAny M A (if(["enumerate","zip","dict_itemiterator","dict_reverseitemiterator","odict_iterator","itertools.zip_longest","itertools.pairwise"].contains n&&vs[0]? == some (rawInt _))=true then _ else _) Q E s
       rw[if_neg (by intro h;rw[hn,Hi]at h;cases h)]
       exact wpAny_pure hQ))
noncomputable def Itl (K:yF) (a:Addr):It:=
 ⟨λi H=>∃xs x,SqL K H a xs/\xs[i]?=some x,λi H x H'=>H'=H/\∀xs,SqL K H a xs->xs[i]?=some x,λi H=>∃xs,SqL K H a xs/\xs.length<=i⟩
noncomputable def Itt (K:yF) (a:Addr):It:=
 ⟨λi H=>∃xs x,SqT K H a xs/\xs[i]?=some x,λi H x H'=>H'=H/\∀xs,SqT K H a xs->xs[i]?=some x,λi H=>∃xs,SqT K H a xs/\xs.length<=i⟩
noncomputable def Itr (lo:Int) (n:Nat):It:=⟨λi _=>i<n,λi H x H'=>H'=H/\x=.int (lo+i),λi _=>n<=i⟩
theorem qR {P:Program}{w:World}{K:yF}{tg:Expr}(a it:Addr):Turn P w K tg (Itl K a) [it] it (λi h=>h.IsListIter it a i) where
 mem:=by simp
 obj:=λi h st b hb=>by
  have e:b=it:=by simpa using hb
  subst e
  obtain⟨o,e,c,d⟩:=st
  exact⟨o,e,λv z=>by rw[d]at z;cases z⟩
 keep:=λi h h' st k=>st.at λo e=>k it (by simp) o e
 item:=by
  intro X hP hw hK hc i pins s Z H E I hf st hg
  subst hP hw hK
  obtain⟨xs,x,hq,hx⟩:=hg
  obtain⟨its,rv,p,hz⟩:=I.list hq
  obtain⟨u,hu,ru⟩:=rv.get hx
  obtain⟨f0,f1,f2,f3,f4,f5⟩:=hf it (by simp)
  refine wpAny_pyNext_list_item st p.isList (x:=u) (by simpa using hu) λh' st' sb=>?_
  have I1:Inv X pins Z H {s with heap:=h'}:=I.turned (t':=s.toks) (λb o hb e=>(sb.2 b hb).trans e) f0 f1 f3 f4 f5
  obtain⟨o,e,c,d⟩:=id st'
  exact⟨u,rfl,oK (s:={s with heap:=h'}) e c d (by decide) ⟨x,H,I1,ru,⟨rfl,λys hy=>by rw[I.list_inj hy hq];exact hx⟩,st',λb hb=>(hf b hb).1⟩⟩
 done:=by
  intro X hP hw hK hc i pins s Z H E I hf st hg
  subst hP hw hK
  obtain⟨xs,hq,hx⟩:=hg
  obtain⟨its,rv,p,hz⟩:=I.list hq
  obtain⟨f0,f1,f2,f3,f4,f5⟩:=hf it (by simp)
  have hl:=rv.length
  exact wpAny_pyNext_list_end (I.ok.hd hc) st p.isList (by simp;omega) λh' eb=>⟨rfl,I.turned (t':=s.toks) (λb o hb e=>eb b o hb e) f0 f1 f3 f4 f5⟩
 self:=λ_ _ _ _ _ st h=>wpAny_pyIter_listiter st h
theorem nX {P:Program}{w:World}{K:yF}{tg:Expr}(a it:Addr):Turn P w K tg (Itt K a) [it] it (λi h=>h.IsTupleIter it a i) where
 mem:=by simp
 obj:=λi h st b hb=>by
  have e:b=it:=by simpa using hb
  subst e
  obtain⟨o,e,c,d⟩:=st
  exact⟨o,e,λv z=>by rw[d]at z;cases z⟩
 keep:=λi h h' st k=>st.at λo e=>k it (by simp) o e
 item:=by
  intro X hP hw hK hc i pins s Z H E I hf st hg
  subst hP hw hK
  obtain⟨xs,x,hq,hx⟩:=hg
  obtain⟨its,rv,p,hz⟩:=I.tuple hq
  obtain⟨u,hu,ru⟩:=rv.get hx
  obtain⟨f0,f1,f2,f3,f4,f5⟩:=hf it (by simp)
  refine wpAny_pyNext_tuple_item st (show s.heap.IsTuple a its.toArray from p) (x:=u) (by simpa using hu) λh' st' sb=>?_
  have I1:Inv X pins Z H {s with heap:=h'}:=I.turned (t':=s.toks) (λb o hb e=>(sb.2 b hb).trans e) f0 f1 f3 f4 f5
  obtain⟨o,e,c,d⟩:=id st'
  exact⟨u,rfl,oK (s:={s with heap:=h'}) e c d (by decide) ⟨x,H,I1,ru,⟨rfl,λys hy=>by rw[I.tuple_inj hy hq];exact hx⟩,st',λb hb=>(hf b hb).1⟩⟩
 done:=by
  intro X hP hw hK hc i pins s Z H E I hf st hg
  subst hP hw hK
  obtain⟨xs,hq,hx⟩:=hg
  obtain⟨its,rv,p,hz⟩:=I.tuple hq
  obtain⟨f0,f1,f2,f3,f4,f5⟩:=hf it (by simp)
  have hl:=rv.length
  exact wpAny_pyNext_tuple_end (I.ok.hd hc) st (show s.heap.IsTuple a its.toArray from p) (by simp;omega) λh' eb=>⟨rfl,I.turned (t':=s.toks) (λb o hb e=>eb b o hb e) f0 f1 f3 f4 f5⟩
 self:=λ_ _ _ _ _ st h=>wpAny_pyIter_tupleiter st h
theorem nW {P:Program}{w:World}{K:yF}{tg:Expr}(it:Addr)(lo:Int)(n:Nat):Turn P w K tg (Itr lo n) [it] it (λi h=>IsRangeIter h it (lo+(i:Nat)*1) ((n:Int)-(i:Nat)) 1) where
 mem:=by simp
 obj:=λi h st b hb=>by
  have e:b=it:=by simpa using hb
  subst e
  exact⟨_,st,λv z=>by
   have z':Data.fields _=Data.cell v:=z
   cases z'⟩
 keep:=λi h h' st k=>k it (by simp) _ st
 item:=by
  intro X hP hw hK hc i pins s Z H E I hf st hg
  subst hP hw hK
  obtain⟨f0,f1,f2,f3,f4,f5⟩:=hf it (by simp)
  have W:=Walks.range (prog:=X.prog) (w:=X.w) (I.ok.hd hc) it lo 1 n
  refine W.item i s _ _ hg st λv h' tk hv st' kk=>?_
  obtain⟨t,rfl⟩:=hv
  have I1:Inv X pins Z H {s with heap:=h',toks:=tk}:=I.turned (λb o hb e=>kk b o (by simpa using hb) e) f0 f1 f3 f4 f5
  refine⟨_,rfl,oK (s:={s with heap:=h',toks:=tk}) (n:="range_iterator") st' rfl rfl (by decide) ⟨.int (lo+i),H,I1,⟨t,?_⟩,⟨rfl,rfl⟩,st',λb hb=>(hf b hb).1⟩⟩
  rw[Int.mul_one]
 done:=by
  intro X hP hw hK hc i pins s Z H E I hf st hg
  subst hP hw hK
  obtain⟨f0,f1,f2,f3,f4,f5⟩:=hf it (by simp)
  exact wpAny_pyNext_range_end (I.ok.hd hc) st (by have:n<=i:=hg;omega) λh' eb=>⟨rfl,I.turned (t':=s.toks) (λb o hb e=>eb b o hb e) f0 f1 f3 f4 f5⟩
 self:=λ_ _ _ _ _ st h=>wpAny_pyIter_rangeiter st h
section
variable  {X:Cx}{tg:Expr}
def oN (K:yF)(tl:TE):TI:=λZ H R=>tl Z H λx H1=>∃a,x=.ref a/\(∃xs,SqL K H1 a xs)/\R (Itl K a) H1
def vp (K:yF)(tl:TE):TI:=λZ H R=>tl Z H λx H1=>∃a,x=.ref a/\(∃xs,SqT K H1 a xs)/\R (Itt K a) H1
theorem wf {l:Expr}{tl:TE}(hl:PE X l tl):PI X tg l (oN X.K tl):=by
 intro pins s Z H R I h
 refine thn (hl pins s Z H _ I h) λv s1 ⟨x,H1,I1,r1,q1⟩=>?_
 obtain⟨a,e,⟨xs,hq⟩,q⟩:=q1
 subst e
 cases r1
 obtain⟨its,rv,p,hz⟩:=I1.list hq
 refine wpAny_pyIter_list p.isList ?_
 refine⟨s1.heap.objs.size,[s1.heap.objs.size],_,_,H1,rfl,I1.kept (t':=s1.toks) λb o e=>Heap.get?_push_of_some _ e,qR a _,⟨_,Heap.get?_push_size _ rfl,rfl,rfl⟩,λb hb=>?_,q⟩
 have e:b=s1.heap.objs.size:=by simpa using hb
 subst e
 exact I1.fpOk (DY _) (I1.hok.fresh (DY _))
theorem zR {l:Expr}{tl:TE}(hl:PE X l tl):PI X tg l (vp X.K tl):=by
 intro pins s Z H R I h
 refine thn (hl pins s Z H _ I h) λv s1 ⟨x,H1,I1,r1,q1⟩=>?_
 obtain⟨a,e,⟨xs,hq⟩,q⟩:=q1
 subst e
 cases r1
 obtain⟨its,rv,p,hz⟩:=I1.tuple hq
 refine wpAny_pyIter_tuple (show s1.heap.IsTuple a its.toArray from p) ?_
 refine⟨s1.heap.objs.size,[s1.heap.objs.size],_,_,H1,rfl,I1.kept (t':=s1.toks) λb o e=>Heap.get?_push_of_some _ e,nX a _,⟨_,Heap.get?_push_size _ rfl,rfl,rfl⟩,λb hb=>?_,q⟩
 have e:b=s1.heap.objs.size:=by simpa using hb
 subst e
 exact I1.fpOk (DY _) (I1.hok.fresh (DY _))
theorem mI {pins:List (Addr×Obj)}{Z:St}{H:Hp}{s:Shared}{R:It->Hp->Prop}{E:Value->Shared->Prop}{lo hi:Int}{t u v:Tok}{tk:Nat}(I:Inv X pins Z H s)(h1 : -(2^62)<=lo)(h2:lo<2^62)(h3 : -(2^62)<=hi)(h4:hi<2^62)
  (q:R (Itr lo (hi-lo).toNat) H):wpAny (model X.prog X.w) X.A (pyIter (.ref s.heap.objs.size)) (PIE X pins Z tg R) E {s with heap:=s.heap.push {cls:=.type "range",data:=.fields #[.int lo t,.int hi u,.int 1 v]},toks:=tk}:=by
 refine wpAny_pyIter_range (IsRange.new ..) (small_one h1 h2 h3 h4) ?_
 have I1:Inv X pins Z H {s with heap:=s.heap.push {cls:=.type "range",data:=.fields #[.int lo t,.int hi u,.int 1 v]},toks:=tk}:=I.kept λb o e=>Heap.get?_push_of_some _ e
 refine⟨(s.heap.push {cls:=.type "range",data:=.fields #[.int lo t,.int hi u,.int 1 v]}).objs.size,[(s.heap.push {cls:=.type "range",data:=.fields #[.int lo t,.int hi u,.int 1 v]}).objs.size],_,_,H,rfl,
  I1.kept (t':=tk) λb o e=>Heap.get?_push_of_some _ e,nW _ lo (hi-lo).toNat,?_,λb hb=>?_,q⟩
 ·have e1:lo+((0:Nat):Int)*1=lo:=by simp
  have e2:(((hi-lo).toNat:Nat):Int)-((0:Nat):Int)=Builtin.Range.rangeSize lo hi 1:=by rw[rangeSize_one];split<;>omega
  show IsRangeIter _ _ (lo+((0:Nat):Int)*1) ((((hi-lo).toNat:Nat):Int)-((0:Nat):Int)) 1
  rw[e1,e2]
  exact Heap.get?_push_size _ rfl
 ·have e:b=(s.heap.push {cls:=.type "range",data:=.fields #[.int lo t,.int hi u,.int 1 v]}).objs.size:=by simpa using hb
  subst e
  exact I1.fpOk (DY _) (I1.hok.fresh (DY _))
def xP (ta:TA):TI:=λZ H R=>ta Z H λvs H1=>∃j:Int,vs=[.int j]/\-(2^62)<=j/\j<2^62/\R (Itr 0 j.toNat) H1
def xQ (ta:TA):TI:=λZ H R=>ta Z H λvs H1=>∃i j:Int,vs=[.int i,.int j]/\(-(2^62)<=i/\i<2^62/\-(2^62)<=j/\j<2^62)/\R (Itr i (j-i).toNat) H1
theorem qg {a:Expr}{ta:TA}{p pos:Pos}(hg:Gl X "range")(hm:X.mg "range" = none)(ha:PA X [a] ta)(hs:starEach [a] X.env=[(false,eval a X.env)]:=by rfl):PI X tg (.Call (.Name "range" p) [a] [] pos) (xP ta):=by
 intro pins s Z H R I h
 refine Call_ (ib I hg hm boot_range (Fd (thn (ha pos pins s Z H _ I h) λus s1 ⟨vs,H1,I1,r1,q1⟩=>?_) hs rfl))
 obtain⟨j,e,q1,q2,q⟩:=q1
 subst e
 cases r1 with
 | cons r rr=>
  cases rr
  obtain⟨t,rfl⟩:=r
  exact call_range_1 (mI I1 (by omega) (by omega) q1 q2 (by simpa using q))
theorem qh {a b:Expr}{ta:TA}{p pos:Pos}(hg:Gl X "range")(hm:X.mg "range" = none)(ha:PA X [a,b] ta)(hs:starEach [a,b] X.env=[(false,eval a X.env),(false,eval b X.env)]:=by rfl)(hs2:starEach [b] X.env=[(false,eval b X.env)]:=by rfl) :
  PI X tg (.Call (.Name "range" p) [a,b] [] pos) (xQ ta):=by
 intro pins s Z H R I h
 refine Call_ (ib I hg hm boot_range (Fd (thn (ha pos pins s Z H _ I h) λus s1 ⟨vs,H1,I1,r1,q1⟩=>?_) (by rw[hs,hs2]) (by rw[hs2];rfl)))
 obtain⟨i,j,e,⟨q1,q2,q3,q4⟩,q⟩:=q1
 subst e
 cases r1 with
 | cons r rr=>
  cases rr with
  | cons r' rr=>
   cases rr
   obtain⟨t,rfl⟩:=r
   obtain⟨t',rfl⟩:=r'
   exact call_range_2 (mI I1 q1 q2 q3 q4 q)
def CW (wi:TI)(g:TG)(tb:TS):TS:=λD Z H=>wi Z H λJ H1=>∃W:Nat->Nat->St->Hp->Prop,(∃m,W 0 m Z H1)/\∀i m Z H,W i m Z H →
 (J.stop i H/\D.nx Z H)∨(J.go i H/\∃N:St->Hp->Prop,(∀Z' H',N Z' H'->∃m',m'<m/\W (i+1) m' Z' H')/\∀x H',J.yld i H x H'->g x Z H' λZ2 H2=>tb {D with nx:=N,ct:=N,bk:=D.nx} Z2 H2)
noncomputable def bn (fp:List Addr) (h:Heap):List (Addr×Obj):=fp.filterMap λb=>(h.get? b).map λo=>(b,o)
theorem bz {fp:List Addr}{h:Heap}{b:Addr}{o:Obj}(hb:b∈fp)(e:h.get? b=some o):(b,o)∈bn fp h:=Ey.mpr ⟨b,hb,by rw[e];rfl⟩
theorem ko {fp:List Addr}{h:Heap}{p:Addr×Obj}(hp:p∈bn fp h):p.1∈fp/\h.get? p.1=some p.2:=by
 obtain⟨b,hb,e⟩:=Ey.mp hp
 cases q:h.get? b with
 | none=>rw[q]at e;cases e
 | some o=>
  rw[q]at e
  have e':(b,o)=p:=Em.inj e
  subst e'
  exact⟨hb,q⟩
theorem Inv.pinned {pins:List (Addr×Obj)}{Z:St}{H:Hp}{s:Shared}{fp:List Addr}(I:Inv X pins Z H s)(hf:∀b∈fp,dQ X pins H b)(ho:∀b∈fp,∃o,s.heap.get? b=some o/\∀v,o.data ≠ .cell v):Inv X (pins++bn fp s.heap) Z H s:=
 I.pins_of λp hp=>(yaM hp).elim (λz=>I.pin p (yaR _ z)) λz=>by
  obtain⟨hb,e⟩:=ko z
  obtain⟨f0,f1,f2,_⟩:=hf p.1 hb
  obtain⟨o,e',d⟩:=ho p.1 hb
  rw[e]at e';cases e'
  exact⟨e,f0,f1,f2,d⟩
theorem Inv.unpinned {pins pl:List (Addr×Obj)}{Z:St}{H:Hp}{s:Shared}(I:Inv X (pins++pl) Z H s):Inv X pins Z H s:=I.pins_of λp hp=>I.pin p (yaR _ (yaL _ hp))
theorem zV {iter:Expr}{body:List Stmt}{wi:TI}{g:TG}{tb:TS}{pos:Pos}(hp:PassesOwn (model X.prog X.w) X.A X.env X.xe)(hc:X.calm=true)(hi:PI X tg iter wi)(hg:PG X tg g)(hb:PSs X body tb)
  (hs:∀x,foldedSetIterable iter X.env x=pure x:=by intro _;rfl):PS X (.For tg iter body [] pos) (CW wi g tb):=by
 intro pins s Z H D I h
 refine wpAny_For (thn (hi pins s Z H _ I h) λv s1 h1=>thn h1 λitv s2 h2=>?_) hs
 obtain⟨it,fp,tn,J,H2,e,I2,T,st2,f2,W,⟨m0,w0⟩,turn⟩:=h2
 subst e
 have stat:∀{H':Hp},(∀b∈fp,H' b=none)->∀b∈fp,dQ X pins H' b:=λhn b hb=>⟨hn b hb,(f2 b hb).2⟩
 refine codeAny_forLoop_any (λn s'=>∃i Z' H',Inv X pins Z' H' s'/\tn i s'.heap/\(∀b∈fp,H' b=none)/\W i n Z' H') ?_ m0 ⟨0,Z,H2,I2,st2,λb hb=>(f2 b hb).1,w0⟩
 rintro n s3 ⟨i,Z3,H3,I3,st3,fr3,w3⟩
 rcases turn i n Z3 H3 w3 with⟨stop,qn⟩|⟨go,N,hN,step⟩
 ·refine wpAny_passesOwn hp (thn (T.done X rfl rfl rfl hc i pins s3 Z3 H3 X.xe I3 (stat fr3) st3 stop) λr s4 ⟨hr,I4⟩=>?_)
  subst hr
  exact wpAny_execs_nil ⟨Z3,H3,I4,qn⟩
 ·refine wpAny_passesOwn hp (thn (T.item X rfl rfl rfl hc i pins s3 Z3 H3 X.xe I3 (stat fr3) st3 go) λr s4 ⟨u,hr,h4⟩=>?_)
  subst hr
  refine wpAny_passesOwn hp (thn h4 λ_ s5 ⟨x,H5,I5,r5,y5,st5,fr5⟩=>?_)
  have I5':=I5.pinned (stat fr5) (T.obj _ _ st5)
  refine wpAny_passesOwn hp (thn (hg _ s5 Z3 H5 x u _ I5' r5 (step x H5 y5)) λ_ s6 ⟨Z6,H6,I6,q6⟩=>?_)
  refine wpAny_passesOwn hp (thn (hb _ s6 Z6 H6 _ I6 q6) λf s7 q7=>?_)
  have again:∀{Z7:St} {H7:Hp},Inv X (pins++bn fp s5.heap) Z7 H7 s7->N Z7 H7->∃m,m<n/\∃i Z' H',Inv X pins Z' H' s7/\tn i s7.heap/\(∀b∈fp,H' b=none)/\W i m Z' H':=λ{Z7 H7} I7 n7=>by
   obtain⟨m',hm,w7⟩:=hN Z7 H7 n7
   refine⟨m',hm,i+1,Z7,H7,I7.unpinned,T.keep _ _ _ st5 λb hb o e=>(I7.pin (b,o) (yaR _ (yaR _ (bz hb e)))).1,λb hb=>?_,w7⟩
   obtain⟨o,e,d⟩:=T.obj _ _ st5 b hb
   exact(I7.pin (b,o) (yaR _ (yaR _ (bz hb e)))).2.1
  cases f with
  | next=>obtain⟨Z7,H7,I7,n7⟩:=q7;exact again I7 n7
  | cont=>obtain⟨Z7,H7,I7,n7⟩:=q7;exact again I7 n7
  | brk=>obtain⟨Z7,H7,I7,q7⟩:=q7;exact⟨Z7,H7,I7.unpinned,q7⟩
  | ret v=>obtain⟨x7,Z7,H7,I7,r7,q7⟩:=q7;exact⟨x7,Z7,H7,I7.unpinned,r7,q7⟩
end
abbrev R2:=V->V->Hp->VK->Prop
def OpR (X:Cx)(f:Value->Value->Sem Value)(r:R2):Prop:=
 ∀(pins:List (Addr×Obj)) (s:Shared) (Z:St) (H:Hp) (x y:V) (v u:Value) (Q:VK),Inv X pins Z H s->RelV x v->RelV y u->r x y H Q →
  wpAny (model X.prog X.w) X.A (f v u) (EP X pins Z Q) X.xe s
def UnR (X:Cx)(f:Value->Sem Value)(r:V->Hp->VK->Prop):Prop:=
 ∀(pins:List (Addr×Obj)) (s:Shared) (Z:St) (H:Hp) (x:V) (v:Value) (Q:VK),Inv X pins Z H s->RelV x v->r x H Q →
  wpAny (model X.prog X.w) X.A (f v) (EP X pins Z Q) X.xe s
def CallR (X:Cx)(f:Value)(r:List V->Hp->VK->Prop):Prop:=
 ∀(pins:List (Addr×Obj)) (s:Shared) (Z:St) (H:Hp) (xs:List V) (us:List Value) (Q:VK),Inv X pins Z H s->Vals xs us->r xs H Q →
  wpAny (model X.prog X.w) X.A (call f us) (EP X pins Z Q) X.xe s
def Dg (X:Cx)(r:V->Hp->(Bool->Hp->Prop)->Prop):Prop:=
 ∀(pins:List (Addr×Obj)) (s:Shared) (Z:St) (H:Hp) (x:V) (v:Value) (Q:Bool->Hp->Prop),Inv X pins Z H s->RelV x v->r x H Q →
  wpAny (model X.prog X.w) X.A (truthy v) (TP X pins Z Q) X.xe s
def tOp (r:R2)(ta tb:TE):TE:=λZ H Q=>ta Z H λx H1=>tb Z H1 λy H2=>r x y H2 Q
def tUn (r:V->Hp->VK->Prop)(ta:TE):TE:=λZ H Q=>ta Z H λx H1=>r x H1 Q
def rI (C:Int->Int->Prop)(g:Int->Int->V):R2:=λx y H Q=>∃i j,x=.int i/\y=.int j/\C i j/\Q (g i j) H
def rI0 (g:Int->Int->V):R2:=λx y H Q=>∃i j,x=.int i/\y=.int j/\Q (g i j) H
def rU (g:Int->V):V->Hp->VK->Prop:=λx H Q=>∃i,x=.int i/\Q (g i) H
section
variable  {X:Cx}{a b c:Expr}{ta tb tc:TE}{pos:Pos}
theorem yA (ha:PE X a ta)(hb:PE X b tb){pins:List (Addr×Obj)}{s:Shared}{Z:St}{H:Hp}{R:V->V->Hp->Prop}(I:Inv X pins Z H s)
  (h:ta Z H λx H1=>tb Z H1 λy H2=>R x y H2) {Q:Value->Shared->Prop} {f:Value->Value->Sem Value}
  (hf:∀v u s2 x y H2,Inv X pins Z H2 s2->RelV x v->RelV y u->R x y H2->wpAny (model X.prog X.w) X.A (f v u) Q X.xe s2) :
  wpAny (model X.prog X.w) X.A (eval a X.env) (λv s₁=>wpAny (model X.prog X.w) X.A (eval b X.env) (λu s₂=>wpAny (model X.prog X.w) X.A (f v u) Q X.xe s₂) X.xe s₁) X.xe s:=by
 refine thn (ha pins s Z H _ I h) λv s1 ⟨x,H1,I1,r1,q1⟩=>?_
 refine thn (hb pins s1 Z H1 _ I1 q1) λu s2 ⟨y,H2,I2,r2,q2⟩=>?_
 exact hf v u s2 x y H2 I2 r1 r2 q2
theorem Cb {op:Operator}{r:R2}(ho:OpR X (binaryOp op) r)(ha:PE X a ta)(hb:PE X b tb):PE X (.BinOp a op b pos) (tOp r ta tb):=by
 intro pins s Z H Q I h
 exact wpAny_BinOp (yA ha hb I h λv u s2 x y H2 I2 rx ry q=>ho pins s2 Z H2 x y v u Q I2 rx ry q)
theorem Cc {op:UnaryOp}{r:V->Hp->VK->Prop}(ho:UnR X (unaryOp op) r)(ha:PE X a ta):PE X (.UnaryOp op a pos) (tUn r ta):=by
 intro pins s Z H Q I h
 exact UnaryOp_ (thn (ha pins s Z H _ I h) λv s1 ⟨x,H1,I1,r1,q1⟩=>ho pins s1 Z H1 x v Q I1 r1 q1)
theorem opI {f:Value->Value->Sem Value}{C:Int->Int->Prop}{g:Int->Int->Int}
  (rule:∀(i j:Int) (t u:Tok) (s:Shared) (Q:Value->Shared->Prop) (E:Value->Shared->Prop),C i j->Q (.int (g i j) s.toks) {s with toks:=s.toks+1}->wpAny (model X.prog X.w) X.A (f (.int i t) (.int j u)) Q E s) :
  OpR X f (rI C λi j=>.int (g i j)):=by
 intro pins s Z H x y v u Q I rx ry h
 obtain⟨i,j,rfl,rfl,hc,q⟩:=h
 obtain⟨t,rfl⟩:=rx
 obtain⟨t',rfl⟩:=ry
 exact rule i j t t' s _ _ hc ⟨.int (g i j),H,I.tok _,⟨_,rfl⟩,q⟩
theorem BN {f:Value->Value->Sem Value}{g:Int->Int->Int}
  (rule:∀(i j:Int) (t u:Tok) (s:Shared) (Q:Value->Shared->Prop) (E:Value->Shared->Prop),Q (.int (g i j) s.toks) {s with toks:=s.toks+1}->wpAny (model X.prog X.w) X.A (f (.int i t) (.int j u)) Q E s) :
  OpR X f (rI0 λi j=>.int (g i j)):=by
 intro pins s Z H x y v u Q I rx ry h
 obtain⟨i,j,rfl,rfl,q⟩:=h
 obtain⟨t,rfl⟩:=rx
 obtain⟨t',rfl⟩:=ry
 exact rule i j t t' s _ _ ⟨.int (g i j),H,I.tok _,⟨_,rfl⟩,q⟩
theorem zd {f:Value->Value->Sem Value}{g:Int->Int->Bool}
  (rule:∀(i j:Int) (t u:Tok) (s:Shared) (Q:Value->Shared->Prop) (E:Value->Shared->Prop),Q (.bool (g i j)) s->wpAny (model X.prog X.w) X.A (f (.int i t) (.int j u)) Q E s) :
  OpR X f (rI0 λi j=>.bl (g i j)):=by
 intro pins s Z H x y v u Q I rx ry h
 obtain⟨i,j,rfl,rfl,q⟩:=h
 obtain⟨t,rfl⟩:=rx
 obtain⟨t',rfl⟩:=ry
 exact rule i j t t' s _ _ ⟨.bl (g i j),H,I,rfl,q⟩
def yv (i j:Int):Prop:=0<=j/\j<=1000000/\i.natAbs<2^64
def CMul (i j:Int):Prop:=(-(2^64)<i/\i<2^64)∨(-(2^64)<j/\j<2^64)
theorem CMul.ok {i j:Int}(h:CMul i j):IntMulOk i j:=by
 rcases h with⟨h1,h2⟩|⟨h1,h2⟩
 ·exact .of_left (intBits_le_64 h1 h2)
 ·exact .of_right (intBits_le_64 h1 h2)
theorem op_add:OpR X (binaryOp .Add) (rI0 λi j=>.int (i+j)):=BN λ_ _ _ _ _ _ _ q=>add_int q
theorem zq:OpR X (binaryOp .Sub) (rI0 λi j=>.int (i-j)):=BN λ_ _ _ _ _ _ _ q=>sub_int q
theorem op_mul:OpR X (binaryOp .Mult) (rI CMul λi j=>.int (i*j)):=opI λ_ _ _ _ _ _ _ hc q=>mul_int q hc.ok
theorem zj:OpR X (binaryOp .Mod) (rI (λ_ j=>0<j) λi j=>.int (i % j)):=opI λi j _ _ _ _ _ hc q=>by
 have h1:(0:Int)<j:=hc
 exact mod_int' (by omega) (by rw[Int.fmod_eq_emod_of_nonneg i (by omega)];exact q)
theorem zp:OpR X (binaryOp .Pow) (rI yv λi j=>.int (i^j.toNat)):=opI λ_ _ _ _ _ _ _ hc q=>pow_int_small hc.1 hc.2.1 hc.2.2 q
theorem unI {f:Value->Sem Value}{g:Int->Int}
  (rule:∀(i:Int) (t:Tok) (s:Shared) (Q:Value->Shared->Prop) (E:Value->Shared->Prop),Q (.int (g i) s.toks) {s with toks:=s.toks+1}->wpAny (model X.prog X.w) X.A (f (.int i t)) Q E s) :
  UnR X f (rU λi=>.int (g i)):=by
 intro pins s Z H x v Q I rx h
 obtain⟨i,rfl,q⟩:=h
 obtain⟨t,rfl⟩:=rx
 exact rule i t s _ _ ⟨.int (g i),H,I.tok _,⟨_,rfl⟩,q⟩
theorem A1:UnR X (unaryOp .USub) (rU λi=>.int (-i)):=unI λ_ _ _ _ _ q=>neg_int q
end
noncomputable def uv:V->V->Bool
 | .non,.non=>true|.non,.int _=>true|.int _,.non=>true|.non,.bl _=>true|.bl _,.non=>true|.non,.str _=>true|.str _,.non=>true
 | .int _,.int _=>true|.bl _,.bl _=>true|.str _,.str _=>true|.byt _,.byt _=>true
 | .int _,.str _=>true|.str _,.int _=>true|.bl _,.str _=>true|.str _,.bl _=>true
 | _,_=>false
def rEq:R2:=λx y H Q=>uv x y=true/\Q (.bl (decide (x=y))) H
def rNe:R2:=λx y H Q=>uv x y=true/\Q (.bl (!decide (x=y))) H
theorem ot {i j:Int}:decide (V.int i=V.int j)=(i==j):=by
 rw[EY]
 simp
theorem rA {i j:Bool}:decide (V.bl i=V.bl j)=(i==j):=by
 rw[EY]
 simp
theorem ou {i j:Str}:decide (V.str i=V.str j)=(i==j):=by
 rw[EY]
 simp
theorem oq {i j:Array UInt8}:decide (V.byt i=V.byt j)=(i.toList==j.toList):=by
 rw[EY]
 cases i
 cases j
 simp
section
variable  {X:Cx}{a b c:Expr}{ta tb tc:TE}{pos:Pos}
theorem aL {pins:List (Addr×Obj)}{Z:St}{H:Hp}{s:Shared}{Q:VK}{k k':Bool}(I:Inv X pins Z H s)(q:Q (.bl k) H)(e:k=k'):EP X pins Z Q (.bool k') s:=by
 subst e
 exact⟨.bl k,H,I,rfl,q⟩
theorem op_eq:OpR X (compareOp .Eq) rEq:=by
 intro pins s Z H x y v u Q I rx ry h
 obtain⟨hs,q⟩:=h
 cases x with
 | non=>
  cases rx
  cases y with
  | non=>cases ry;exact PySem.EqNone.eq_none_none (aL I q (by simp))
  | bl j=>cases ry;exact PySem.EqNone.eq_none_bool (aL I q (by simp))
  | int j=>obtain⟨t',rfl⟩:=ry;exact PySem.EqNone.eq_none_int (aL I q (by simp))
  | str j=>obtain⟨t',rfl⟩:=ry;exact PySem.EqNone.eq_none_str (aL I q (by simp))
  | _=>exact absurd (show false=true from hs) D0
 | bl i=>
  cases rx
  cases y with
  | non=>cases ry;exact PySem.EqNone.eq_bool_none (aL I q (by simp))
  | bl j=>cases ry;exact eq_bool (aL I q rA)
  | str j=>obtain⟨t',rfl⟩:=ry;exact PySem.EqMixed.eq_bool_str (aL I q (by simp))
  | _=>exact absurd (show false=true from hs) D0
 | int i=>
  obtain⟨t,rfl⟩:=rx
  cases y with
  | non=>cases ry;exact PySem.EqNone.eq_int_none (aL I q (by simp))
  | int j=>obtain⟨t',rfl⟩:=ry;exact eq_int (aL I q ot)
  | str j=>obtain⟨t',rfl⟩:=ry;exact PySem.EqMixed.eq_int_str (aL I q (by simp))
  | _=>exact absurd (show false=true from hs) D0
 | str i=>
  obtain⟨t,rfl⟩:=rx
  cases y with
  | non=>cases ry;exact PySem.EqNone.eq_str_none (aL I q (by simp))
  | bl j=>cases ry;exact PySem.EqMixed.eq_str_bool (aL I q (by simp))
  | int j=>obtain⟨t',rfl⟩:=ry;exact PySem.EqMixed.eq_str_int (aL I q (by simp))
  | str j=>obtain⟨t',rfl⟩:=ry;exact eq_str (aL I q ou)
  | _=>exact absurd (show false=true from hs) D0
 | byt i=>
  obtain⟨t,rfl⟩:=rx
  cases y with
  | byt j=>obtain⟨t',rfl⟩:=ry;exact PySem.W.eq_bytes (aL I q oq)
  | _=>exact absurd (show false=true from hs) D0
 | _=>cases y<;>exact absurd (show false=true from hs) D0
theorem op_ne:OpR X (compareOp .NotEq) rNe:=by
 intro pins s Z H x y v u Q I rx ry h
 obtain⟨hs,q⟩:=h
 cases x with
 | non=>
  cases rx
  cases y with
  | non=>cases ry;exact PySem.EqNone.ne_none_none (aL I q (by simp))
  | bl j=>cases ry;exact PySem.EqNone.ne_none_bool (aL I q (by simp))
  | int j=>obtain⟨t',rfl⟩:=ry;exact PySem.EqNone.ne_none_int (aL I q (by simp))
  | str j=>obtain⟨t',rfl⟩:=ry;exact PySem.EqNone.ne_none_str (aL I q (by simp))
  | _=>exact absurd (show false=true from hs) D0
 | bl i=>
  cases rx
  cases y with
  | non=>cases ry;exact PySem.EqNone.ne_bool_none (aL I q (by simp))
  | bl j=>cases ry;exact ne_bool (aL I q (congrArg not rA))
  | str j=>obtain⟨t',rfl⟩:=ry;exact PySem.EqMixed.ne_bool_str (aL I q (by simp))
  | _=>exact absurd (show false=true from hs) D0
 | int i=>
  obtain⟨t,rfl⟩:=rx
  cases y with
  | non=>cases ry;exact PySem.EqNone.ne_int_none (aL I q (by simp))
  | int j=>obtain⟨t',rfl⟩:=ry;exact ne_int (aL I q (congrArg not ot))
  | str j=>obtain⟨t',rfl⟩:=ry;exact PySem.EqMixed.ne_int_str (aL I q (by simp))
  | _=>exact absurd (show false=true from hs) D0
 | str i=>
  obtain⟨t,rfl⟩:=rx
  cases y with
  | non=>cases ry;exact PySem.EqNone.ne_str_none (aL I q (by simp))
  | bl j=>cases ry;exact PySem.EqMixed.ne_str_bool (aL I q (by simp))
  | int j=>obtain⟨t',rfl⟩:=ry;exact PySem.EqMixed.ne_str_int (aL I q (by simp))
  | str j=>obtain⟨t',rfl⟩:=ry;exact ne_str (aL I q (congrArg not ou))
  | _=>exact absurd (show false=true from hs) D0
 | byt i=>
  obtain⟨t,rfl⟩:=rx
  cases y with
  | byt j=>obtain⟨t',rfl⟩:=ry;exact PySem.W.ne_bytes (aL I q (congrArg not oq))
  | _=>exact absurd (show false=true from hs) D0
 | _=>cases y<;>exact absurd (show false=true from hs) D0
theorem BQ:OpR X (compareOp .Lt) (rI0 λi j=>.bl (decide (i<j))):=zd λ_ _ _ _ _ _ _ q=>lt_int q
theorem BP:OpR X (compareOp .Gt) (rI0 λi j=>.bl (decide (j<i))):=zd λ_ _ _ _ _ _ _ q=>gt_int q
theorem BO:OpR X (compareOp .GtE) (rI0 λi j=>.bl (decide (j<=i))):=zd λ_ _ _ _ _ _ _ q=>ge_int q
theorem op_in_str:OpR X (compareOp .In) (λx y H Q=>∃i j,x=.str i/\y=.str j/\Q (.bl (!(Builtin.Str.occurrences j i 0 j.length 1).isEmpty)) H):=by
 intro pins s Z H x y v u Q I rx ry h
 obtain⟨i,j,rfl,rfl,q⟩:=h
 obtain⟨t,rfl⟩:=rx
 obtain⟨t',rfl⟩:=ry
 exact in_str (aL I q rfl)
theorem OpR.or {f:Value->Value->Sem Value}{r r':R2}(h:OpR X f r)(h':OpR X f r'):OpR X f (λx y H Q=>r x y H Q∨r' x y H Q):=by
 intro pins s Z H x y v u Q I rx ry q
 rcases q with q|q
 ·exact h pins s Z H x y v u Q I rx ry q
 ·exact h' pins s Z H x y v u Q I rx ry q
theorem vX {op:CmpOp}{r:R2}(ho:OpR X (compareOp op) r)(ha:PE X a ta)(hb:PE X b tb)(hm:behindInMarks op b=false):PE X (.Compare a [op] [b] pos) (tOp r ta tb):=by
 intro pins s Z H Q I h
 exact wpAny_Compare1 (yA ha hb I h λv u s2 x y H2 I2 rx ry q=>ho pins s2 Z H2 x y v u Q I2 rx ry q) hm
def yt (t:TE):TT:=λZ H Q=>t Z H λx H'=>∃k,x=.bl k/\Q k H'
theorem wu {op:CmpOp}{r:R2}(ho:OpR X (compareOp op) r)(ha:PE X a ta)(hb:PE X b tb)(hm:behindInMarks op b=false):PT X (.Compare a [op] [b] pos) (yt (tOp r ta tb)):=by
 intro pins s Z H Q I h
 refine wpAny_isTrue_Compare1 (thn (ha pins s Z H _ I h) λv s1 ⟨x,H1,I1,r1,q1⟩=>thn (hb pins s1 Z H1 _ I1 q1) λu s2 ⟨y,H2,I2,r2,q2⟩=>
  thn (ho pins s2 Z H2 x y v u _ I2 r1 r2 q2) λc s3 ⟨z,H3,I3,r3,k,e,q3⟩=>?_) hm
 subst e
 cases r3
 exact wpAny_truthy_bool ⟨H3,I3,q3⟩
def u9 (K:yF)(x:V)(H:Hp)(k:Bool):Prop:=
 match x with
 | .non=>k=false
 | .bl b=>k=b
 | .int i=>k=(i != 0)
 | .str y=>y.length<=sizeLine/\k=((y.length:Int) != 0)
 | .byt y=>y.size<=sizeLine/\k=((y.size:Int) != 0)
 | .ref p=>(∃xs,SqL K H p xs/\k = !xs.isEmpty)∨(∃xs,SqT K H p xs/\k = !xs.isEmpty) ∨ ∃kvs,H p=some (.dK kvs)/\k = !kvs.isEmpty
 | _=>False
theorem nj {κ : Type}{kvs:List (κ×V)}{vs:List (κ×Value)}(r:KV kvs vs):(!vs.isEmpty) = !kvs.isEmpty:=by
 cases r<;>rfl
theorem jd {xs:List V}{its:List Value}(r:Vals xs its):(!its.toArray.isEmpty) = !xs.isEmpty:=by
 cases r<;>simp
theorem gm:(sizeLine:Nat)<2^63:=by rw[sizeLine_eq];decide
theorem AV:Dg X (λx H Q=>∃k,u9 X.K x H k/\Q k H):=by
 intro pins s Z H x v Q I rx h
 obtain⟨k,e,q⟩:=h
 have hl:=gm
 have hs:sizeLine=16777216:=sizeLine_eq
 cases x with
 | non=>
  cases rx
  have e':k=false:=e
  subst e'
  exact truthy_none ⟨H,I,q⟩
 | bl b=>
  cases rx
  have e':k=b:=e
  subst e'
  exact wpAny_truthy_bool ⟨H,I,q⟩
 | int i=>
  obtain⟨t,rfl⟩:=rx
  have e':k=(i != 0):=e
  subst e'
  exact PySem.P.truthy_int ⟨H,I,q⟩
 | str y=>
  obtain⟨t,rfl⟩:=rx
  obtain⟨hy,e'⟩:y.length<=sizeLine/\k=((y.length:Int) != 0):=e
  subst e'
  exact PySem.P.truthy_str (by omega) ⟨H,I.tok _,q⟩
 | byt y=>
  obtain⟨t,rfl⟩:=rx
  obtain⟨hy,e'⟩:y.size<=sizeLine/\k=((y.size:Int) != 0):=e
  subst e'
  exact PySem.W.truthy_bytes (by omega) ⟨H,I.tok _,q⟩
 | ref p=>
  cases rx
  have e':(∃xs,SqL X.K H p xs/\k = !xs.isEmpty)∨(∃xs,SqT X.K H p xs/\k = !xs.isEmpty) ∨ ∃kvs,H p=some (.dK kvs)/\k = !kvs.isEmpty:=e
  rcases e' with⟨xs,hx,e'⟩|⟨xs,hx,e'⟩|⟨kvs,hx,e'⟩
  ·subst e'
   obtain⟨its,r,pl,hz⟩:=I.list hx
   have hlen:=r.length
   exact wpAny_truthy_list pl.isList (by simp only[DT];omega) ⟨H,I.tok _,by rw[jd r];exact q⟩
  ·subst e'
   obtain⟨its,r,pl,hz⟩:=I.tuple hx
   have hlen:=r.length
   exact truthy_tuple pl (by simp only[DT];omega) ⟨H,I.tok _,by rw[jd r];exact q⟩
  ·subst e'
   obtain⟨hz,hS,vs,r,m⟩:kvs.length<=sizeLine/\(p==sysModules)=false/\∃vs,KV kvs vs/\s.heap.DictOf (bM X.prog X.w) p vs:=I.hok p _ hx
   have hlen:kvs.length=vs.length:=Paired.length r
   exact wpAny_truthy_dict hS m (by omega) ⟨H,I.tok _,by rw[nj r];exact q⟩
 | _=>exact(show False from e).elim
theorem tH (ha:PE X a ta)(he:∀whole,isTrue a X.env whole=(do let v ←whole;standAt a.pos;holding [v] (truthy v))) :
  PT X a (λZ H Q=>ta Z H λx H'=>∃k,u9 X.K x H' k/\Q k H'):=by
 intro pins s Z H Q I h
 exact isTrue_plain (thn (ha pins s Z H _ I h) λv s1 ⟨x,H1,I1,r1,q1⟩=>AV pins s1 Z H1 x v Q I1 r1 q1) (he _)
theorem op_add_str:OpR X (binaryOp .Add) (λx y H Q=>∃i j,x=.str i/\y=.str j/\i.length+j.length<=sizeLine/\Q (.str (i++j)) H):=by
 intro pins s Z H x y v u Q I rx ry h
 obtain⟨i,j,rfl,rfl,hz,q⟩:=h
 obtain⟨t,rfl⟩:=rx
 obtain⟨t',rfl⟩:=ry
 exact add_str (λt' tk=>⟨.str (i++j),H,I.tok _,⟨_,rfl⟩,q⟩) hz
theorem fF {x:V}{us:List Value}(r:Vals [x] us):∃u,us=[u]/\RelV x u:=by
 cases r with
 | cons r1 r2=>cases r2;exact⟨_,rfl,r1⟩
theorem mT {x y:V}{us:List Value}(r:Vals [x,y] us):∃u w',us=[u,w']/\RelV x u/\RelV y w':=by
 cases r with
 | cons r1 r2=>
  cases r2 with
  | cons r3 r4=>cases r4;exact⟨_,_,rfl,r1,r3⟩
theorem pC (hc:X.calm=true):CallR X (.builtin "max") (λxs H Q=>∃i j,xs=[.int i,.int j]/\Q (.int (if j>i then j else i)) H):=by
 intro pins s Z H xs us Q I r h
 obtain⟨i,j,rfl,q⟩:=h
 obtain⟨u,w',rfl,⟨t,rfl⟩,⟨t',rfl⟩⟩:=mT r
 refine max_two_ints (I.ok.hd hc) λh' tk k=>⟨_,H,I.kept k,?_,q⟩
 by_cases hj:j>i
 ·rw[if_pos hj,if_pos hj];exact⟨_,rfl⟩
 ·rw[if_neg hj,if_neg hj];exact⟨_,rfl⟩
theorem pD (hc:X.calm=true):CallR X (.builtin "min") (λxs H Q=>∃i j,xs=[.int i,.int j]/\Q (.int (if j<i then j else i)) H):=by
 intro pins s Z H xs us Q I r h
 obtain⟨i,j,rfl,q⟩:=h
 obtain⟨u,w',rfl,⟨t,rfl⟩,⟨t',rfl⟩⟩:=mT r
 refine min_two_ints (I.ok.hd hc) λh' tk k=>⟨_,H,I.kept k,?_,q⟩
 by_cases hj:j<i
 ·rw[if_pos hj,if_pos hj];exact⟨_,rfl⟩
 ·rw[if_neg hj,if_neg hj];exact⟨_,rfl⟩
theorem pA:CallR X (.type "int") (λxs H Q=>(∃i,xs=[.int i]/\Q (.int i) H) ∨ ∃k,xs=[.bl k]/\Q (.int (if k then 1 else 0)) H):=by
 intro pins s Z H xs us Q I r h
 rcases h with⟨i,rfl,q⟩|⟨k,rfl,q⟩
 ·obtain⟨u,rfl,t,rfl⟩:=fF r
  exact call_int_int ⟨.int i,H,I,⟨_,rfl⟩,q⟩
 ·obtain⟨u,rfl,r1⟩:=fF r
  cases r1
  exact call_int_bool ⟨.int (if k then 1 else 0),H,I.tok _,⟨_,rfl⟩,q⟩
end
structure ObjM (h:Heap)(x dx C:Addr)(mA:Str->Option Value):Prop where
 obj:h.get? x=some (Hf C dx)
 ns:h.Ns1 dx mA
 ne:dx≠x
section
variable  {prog:Program}{w:World}{A:Around}{E:Value->Shared->Prop}{s:Shared}{K:yF}{x dx C f:Addr}{mA:Str->Option Value}{name:Str}{v:Value}
end
theorem RelO.some_of {v:V}{o:Option Value}(r:RelO (some v) o):∃u,o=some u/\RelV v u:=by
 cases o with
 | none=>exact(show False from r).elim
 | some u=>exact⟨u,rfl,r⟩
section
variable  {P:Program}{w:World}{H H':Hp}{h h':Heap}{a C dx:Addr}{fs fs':List (Str×V)}
end
structure Cls (K:yF)(C:Addr):Prop where
 pg:PySem.W.plainGet K C Str.empty=true
 hd:PySem.W.hasDictIn K C=true
 po:PySem.W.plainOver K C=true
 sa:F4 K (.ref C) "__setattr__" = some (some (.builtin "object.__setattr__"))
structure Con (K:yF)(C:Addr)(f:Str)(v:V)(u:Value):Prop where
 at_:F4 K (.ref C) f=some (some u)
 rel:RelV v u
 get:G3 K u "__get__" = some none
 cp:PySem.W.copiedNames.contains f=false
structure Meth (K:yF)(C:Addr)(m:Str)(f:Addr):Prop where
 at_:F4 K (.ref C) m=some (some (.ref f))
 fn:PySem.W.isFn K (.ref f)=true
 kp:Fh K (.ref f)=true
section
variable  {X:Cx}{pins:List (Addr×Obj)}{Z:St}{H:Hp}{s:Shared}{a C dx:Addr}{fs:List (Str×V)}{f:Str}{v:V}{A:Around}{E:Value->Shared->Prop}
end
section
variable  {X:Cx}{o e value:Expr}{f:Str}{pos pos' tpos:Pos}{ta tv:TE}
end
section
variable  {X:Cx}{pins:List (Addr×Obj)}{Z:St}{H:Hp}{s:Shared}{A:Around}{E:Value->Shared->Prop}{Q:Value->Shared->Prop}{c:Value}{b:Bool}
inductive TyOf (K:yF) (H:Hp):V->Value->Prop where
 | non:TyOf K H .non (.type "NoneType")
 | bl (x:Bool):TyOf K H (.bl x) (.type "bool")
 | int (i:Int):TyOf K H (.int i) (.type "int")
 | str (x:Str):TyOf K H (.str x) (.type "str")
 | flt (x:UInt64):TyOf K H (.flt x) (.type "float")
 | lst {a:Addr} {xs:List V} (e:H a=some (.lst xs)):TyOf K H (.ref a) (.type "list")
 | frz {a:Addr} {o:Obj} {xs:List V} (e:H a=some (.frz o (.lst xs))):TyOf K H (.ref a) (.type "list")
 | tup {a:Addr} {xs:List V} (e:H a=some (.tup xs)):TyOf K H (.ref a) (.type "tuple")
 | dK {a:Addr} {kvs:List (Key×V)} (e:H a=some (.dK kvs)):TyOf K H (.ref a) (.type "dict")
 | dT {a:Addr} {kvs:List (List Key×V)} (e:H a=some (.dT kvs)):TyOf K H (.ref a) (.type "dict")
 | ins {a C dx:Addr} {fs:List (Str×V)} (e:H a=some (.ins C dx fs)) (cl:Cls K C) (ha:F4 K (.ref C) "__class__" = some (some (.builtin "object.__class__")))
   (hn:G3 K (.builtin "object.__class__") "__get__" = some (some (.builtin "getset_descriptor.__get__"))) (htk:PySem.W.takesIn K (.builtin "object.__class__")=some true)
   (hm:PySem.W.mroIn K C (.type "object")=some true):TyOf K H (.ref a) (.ref C)
end
structure Room (k:Nat)(A:Around):Prop where
 hd:A.handled=none
 gd:A.guards=some []
 dp:A.depth+3*k+5<recursionLimit
 un:A.units+16*k+200<cLine
theorem Room.mono {j k:Nat}{A:Around}(r:Room k A)(h:j<=k):Room j A:=⟨r.hd,r.gd,by have:=r.dp;omega,by have:=r.un;omega⟩
theorem Room.deeper {k:Nat}{A:Around}(r:Room (k+1) A)(env:Env):Room k (A.deeper env):=
 ⟨r.hd,r.gd,by have:=r.dp;show A.depth+1+3*k+5<_;omega,by have:=r.un;show A.units+3+16*k+200<_;omega⟩
theorem Room.in1 {k:Nat}{A:Around}(r:Room (k+1) A):Room k A.in1:=
 ⟨r.hd,r.gd,by have:=r.dp;show A.depth+3*k+5<_;omega,by have:=r.un;show A.units+1+16*k+200<_;omega⟩
theorem Room.depth {k:Nat}{A:Around}(r:Room k A):A.depth<recursionLimit:=by have:=r.dp;omega
theorem Room.units {k:Nat}{A:Around}(r:Room k A):A.units+64<cLine:=by have:=r.un;omega
def C0:TA:=λ_ H Q=>Q [] H
def pb (ta:TE)(tr:TA):TA:=λZ H Q=>ta Z H λx H1=>tr Z H1 λxs H2=>Q (x::xs) H2
section
variable  {X:Cx}{e:Expr}{es:List Expr}{te:TE}{t:TA}{pos:Pos}
theorem sG:PA X [] C0:=λ_ _ _ _ H Q I h=>Calls.spliced_nil ⟨[],H,I,.nil,h⟩
theorem vU (ha:PE X e te)(hr:PA X es t)(hs:starEach (e::es) X.env=(false,eval e X.env)::starEach es X.env:=by rfl):PA X (e::es) (pb te t):=by
 intro pos pins s Z H Q I h
 rw[hs]
 show wpAny _ _ (spliced ((false,eval e X.env)::backTo pos (starEach es X.env))) _ _ s
 refine Calls.spliced_cons (thn (ha pins s Z H _ I h) λu s1 ⟨x,H1,I1,r1,q1⟩=>?_)
 exact thn (hr pos pins s1 Z H1 _ I1 q1) λus s2 ⟨xs,H2,I2,r2,q2⟩=>⟨x::xs,H2,I2,.cons r1 r2,q2⟩
def C6 (t:TA):TE:=λZ H Q=>t Z H λxs H1=>xs.length<=sizeLine/\∀p,H1 p=none->Q (.ref p) (upd H1 p (.tup xs))
def CZ (t:TA):TE:=λZ H Q=>t Z H λxs H1=>xs.length<=sizeLine/\∀p,H1 p=none->Q (.ref p) (upd H1 p (.lst xs))
theorem zO {x1}(h:PA X es t):PE X (.Tuple es x1 pos) (C6 t):=by
 intro pins s Z H Q I hq
 refine wpAny_Tuple_spliced (thn (h pos pins s Z H _ I hq) λus s1 ⟨xs,H1,I1,r,z,q⟩=>⟨by rw[←r.length];exact z,?_⟩)
 have hf:H1 s1.heap.objs.size=none:=I1.hok.fresh (DY _)
 refine⟨.ref s1.heap.objs.size,upd H1 s1.heap.objs.size (.tup xs),I1.laid (t':=s1.toks) (λb u e=>Heap.get?_push_of_some _ e) (DY _) ?_,rfl,q _ hf⟩
 exact⟨z,us,r,⟨_,Heap.get?_push_size _ rfl,⟨rfl,rfl⟩,_,rfl⟩⟩
theorem zK (h:PA X es t):PE X (.List es pos) (CZ t):=by
 intro pins s Z H Q I hq
 refine wpAny_List_spliced (thn (h pos pins s Z H _ I hq) λus s1 ⟨xs,H1,I1,r,z,q⟩=>⟨by rw[←r.length];exact z,?_⟩)
 have hf:H1 s1.heap.objs.size=none:=I1.hok.fresh (DY _)
 refine⟨.ref s1.heap.objs.size,upd H1 s1.heap.objs.size (.lst xs),I1.laid (t':=s1.toks) (λb u e=>Heap.get?_push_of_some _ e) (DY _) ?_,rfl,q _ hf⟩
 exact⟨z,us,0,r,Heap.get?_push_size _ rfl⟩
end
abbrev Sp:=List V->Hp->VK->XK->Prop
abbrev CXT:=List Env->Hp->Shared->XK->Value->Shared->Prop
structure Env0 (P:Program)(w:World)(K:yF)(mg:Str->Option Value)(base:Heap)(A:Around)(outer:List Env)(s:Shared)(H:Hp):Prop where
 frames:A.frames=some outer
 mod:Mod K mg base
 bs:∀b o,base.get? b=some o->s.heap.get? b=some o/\H b=none
 bsz:base.objs.size<=s.heap.objs.size
 funs:s.heap.FunFrames base outer
 frf:∀b∈frs outer,H b=none
 hok:HOk P w H s.heap
 bare:AllBare s.gens
def CE (outer:List Env)(P:Program)(w:World)(H:Hp)(s:Shared)(Q:VK)(u:Value)(s':Shared):Prop:=
 ∃v H',s'.os=s.os/\AllBare s'.gens/\Un (frs outer) [] H H' s.heap s'.heap/\HOk P w H' s'.heap/\RelV v u/\Q v H'
def CR (CX:CXT)(outer:List Env)(P:Program)(w:World)(H:Hp)(s:Shared)(Q:VK)(E:XK)(r:Result)(s':Shared):Prop:=
 match r with
 | .ok (.ret u)=>CE outer P w H s Q u s'
 | .ok _=>False
 | .error e=>CX outer H s E e s'
structure FnOk (P:Program)(w:World)(K:yF)(mg:Str->Option Value)(base:Heap)(CX:CXT)(k:Nat)(f:Addr)(fd:FuncData)(ps:List Str)(sp:Sp):Prop where
 len:∀vs H Q E,sp vs H Q E->vs.length=ps.length
 run:∀(A:Around) (outer:List Env) (s:Shared) (H:Hp) (args:Args) (us:List Value) (vs:List V) (Q:VK) (E:XK),Room k A->Env0 P w K mg base A outer s H->BindsTo s fd args (ps.zip us)->Vals vs us->sp vs H Q E →
  codeAny (model P w) A (.call (.ref f) args) (CR CX outer P w H s Q E) s
theorem Env0.in1 {P:Program}{w:World}{K:yF}{mg:Str->Option Value}{base:Heap}{A:Around}{outer:List Env}{s:Shared}{H:Hp}(e:Env0 P w K mg base A outer s H) :
  Env0 P w K mg base A.in1 outer s H:=⟨e.frames,e.mod,e.bs,e.bsz,e.funs,e.frf,e.hok,e.bare⟩
section
variable  {X:Cx}{pins:List (Addr×Obj)}{Z:St}{H:Hp}{s s':Shared}
theorem Inv.env0 (I:Inv X pins Z H s):Env0 X.prog X.w X.K X.mg X.base X.A X.stack s H:=
 ⟨I.ok.frames,I.ok.mod,I.bs,Ev I.ok.bsz I.sz,I.stack,I.stkFree,I.hok,I.bare⟩
theorem Inv.after {Q:VK}{u:Value}(I:Inv X pins Z H s)(h:CE X.stack X.prog X.w H s Q u s'):EP X pins Z Q u s':=by
 obtain⟨v,H',os,bare,un,hok,r,q⟩:=h
 obtain⟨hh,g,d,t,os'⟩:=s'
 obtain rfl:os'=s.os:=os
 exact⟨v,H',I.call (h':=hh) (g':=g) (d':=d) (t':=t) (ch:=[]) un hok bare (λb z=>absurd z (by simp)),r,q⟩
end
def kG (sp:Sp)(dvs:List V)(E:XK)(t:TA):TE:=λZ H Q=>t Z H λvs H1=>sp (vs++dvs) H1 Q E
def Binds (K:yF)(fd:FuncData)(ps:List Str)(ds:List Value):Prop:=
 ∀(s:Shared) (us:List Value),K.In s.heap->(us++ds).length=ps.length->BindsTo s fd ⟨us,[]⟩ (ps.zip (us++ds))
theorem Binds.all {K:yF}{fd:FuncData}{ps:List Str}(h:∀us:List Value,us.length=ps.length->bindArgs fd ⟨us,[]⟩=pure (ps.zip us)):Binds K fd ps []:=λs us _ hl=>by
 rw[El]at hl⊢
 exact .of_eq (h us hl)
def mZ (CX:CXT)(X:Cx)(E:XK):Prop:=∀(pins:List (Addr×Obj)) (Z:St) (H:Hp) (s:Shared) (e:Value) (s':Shared),Inv X pins Z H s->CX X.stack H s E e s'->X.xe e s'
section
variable  {X:Cx}{CX:CXT}{k:Nat}{f C:Addr}{fd:FuncData}{ps:List Str}{sp:Sp}{dvs:List V}{ds:List Value}{E:XK}{x m:Str}{p pos apos:Pos}{e o:Expr}{es:List Expr}{ta:TE}{t:TA}
theorem AL {pins:List (Addr×Obj)}{Z:St}{H:Hp}{s:Shared}{Q:VK}{us:List Value}{vs:List V}(F:FnOk X.prog X.w X.K X.mg X.base CX k f fd ps sp)(hr:Room k X.A)(hb:Binds X.K fd ps ds)(hd:Vals dvs ds)(hx:mZ CX X E)
  (I:Inv X pins Z H s) (r:Vals vs us) (h:sp (vs++dvs) H Q E):wpAny (model X.prog X.w) X.A (call (.ref f) us) (EP X pins Z Q) X.xe s:=by
 have r2:Vals (vs++dvs) (us++ds):=r.append hd
 have hl:(us++ds).length=ps.length:=by rw[←r2.length];exact F.len _ _ _ _ h
 refine wpAny_call (codeAny_mono (F.run X.A X.stack s H ⟨us,[]⟩ (us++ds) (vs++dvs) Q E hr I.env0 (hb s us I.kIn hl) r2 h) λr s' hq=>?_)
 cases r with
 | error e=>exact hx pins Z H s e s' I hq
 | ok fl=>
  cases fl with
  | ret u=>exact I.after hq
  | next=>exact False.elim hq
  | brk=>exact False.elim hq
  | cont=>exact False.elim hq
theorem vW (F:FnOk X.prog X.w X.K X.mg X.base CX k f fd ps sp)(hr:Room k X.A)(hg:Gl X x)(hm:X.mg x=some (.ref f))(hk:Fh X.K (.ref f)=true)(hb:Binds X.K fd ps ds)(hd:Vals dvs ds)(hx:mZ CX X E)
  (ha:PA X (e::es) t) (hdb:(x==("__debug__" : Str))=false:=by decide) (he:starEach (e::es) X.env=(false,eval e X.env)::starEach es X.env:=by rfl) (hpl:(backTo pos (starEach es X.env)).any (·.1)=false:=by rfl) :
  PE X (.Call (.Name x p) (e::es) [] pos) (kG sp dvs E t):=by
 intro pins s Z H Q I h
 refine wpAny_Call_Name_kw (vB I hg hm ?_ hdb)
 refine PySem.W.callWith_K (h₀:=X.base) I.ok.mod.kin hk (thn (ha pos pins s Z H _ I h) λus s1 ⟨vs,H1,I1,r,q⟩=>⟨I1.kIn,?_⟩) he hpl
 exact AL F hr hb hd hx I1 r q
end
section
variable  {X:Cx}{CX:CXT}{k:Nat}{f C:Addr}{fd:FuncData}{ps ks:List Str}{sp:Sp}{E:XK}{x m:Str}{p pos apos kpos:Pos}{e o:Expr}{es:List Expr}{kws:List Keyword}{te ta:TE}{t tk:TA}{nm:Option Str}
structure KBinds (K:yF)(fd:FuncData)(ps ks:List Str)(g:List Value->List Value->List Value)(gV:List V->List V->List V):Prop where
 to:∀(s:Shared) (us ws:List Value),K.In s.heap->(g us ws).length=ps.length->BindsTo s fd ⟨us,ks.zip ws⟩ (ps.zip (g us ws))
 rel:∀{vs:List V} {us:List Value} {zs:List V} {ws:List Value},Vals vs us->Vals zs ws->Vals (gV vs zs) (g us ws)
variable  {g:List Value->List Value->List Value}{gV:List V->List V->List V}
end
structure FnScope (N P:List Str)(sc:Scope):Prop where
 kind:sc.kind=.function
 co:sc.isCoroutine=false
 gen:sc.isGenerator=false
 nd:N.Nodup
 pre:N.take P.length=P
 par:∀x∈P,sc.names.lookup x=some .local∨sc.names.lookup x=some .cell
 nofree:∀y∈sc.names,y.2 ≠ .free
theorem jX {kindOf:Str->Option NameKind}{x:Str}:∀{binds:List (Str×Value)} {m:Str->Option Value},(∀v,(x,v)∉binds)->bindL kindOf binds m x=m x
 | [],_,_=>rfl
 | (n,v)::r,m,h=>by
  unfold bindL
  rw[jX λw hw=>h w (ymC _ hw)]
  split
  ·have:x≠n:=by rintro rfl;exact h v ymS
   simp[this]
  ·rfl
theorem jV {kindOf:Str->Option NameKind}{x:Str}:∀{binds:List (Str×Value)} {m:Str->Option Value},(∀v,(x,v)∉binds)->bindC kindOf binds m x=m x
 | [],_,_=>rfl
 | (n,v)::r,m,h=>by
  unfold bindC
  rw[jV λw hw=>h w (ymC _ hw)]
  split
  ·rfl
  ·have:x≠n:=by rintro rfl;exact h v ymS
   simp[this]
theorem jW {kindOf:Str->Option NameKind}{x:Str}{v:Value}:∀{P:List Str} {vs:List Value} {i:Nat} {m:Str->Option Value},P.Nodup->P[i]?=some x->vs[i]?=some v->kindOf x=some .local →
  bindL kindOf (P.zip vs) m x=some v
 | [],_,_,_,_,h,_,_=>by simp at h
 | _::_,[],_,_,_,_,h,_=>by simp at h
 | p::P,w::vs,0,m,nd,h1,h2,hk=>by
  simp at h1 h2;subst h1;subst h2
  show bindL kindOf ((p,w)::P.zip vs) m p=_
  unfold bindL
  rw[jX λv hv=>(Ep.mp nd).1 (Gx hv).1,if_pos hk]
  simp
 | p::P,w::vs,i+1,m,nd,h1,h2,hk=>by
  show bindL kindOf ((p,w)::P.zip vs) m x=_
  unfold bindL
  exact jW (i:=i) (Ep.mp nd).2 (by simpa using h1) (by simpa using h2) hk
theorem jU {kindOf:Str->Option NameKind}{x:Str}{v:Value}:∀{P:List Str} {vs:List Value} {i:Nat} {m:Str->Option Value},P.Nodup->P[i]?=some x->vs[i]?=some v->kindOf x≠some .local →
  bindC kindOf (P.zip vs) m x=some v
 | [],_,_,_,_,h,_,_=>by simp at h
 | _::_,[],_,_,_,_,h,_=>by simp at h
 | p::P,w::vs,0,m,nd,h1,h2,hk=>by
  simp at h1 h2;subst h1;subst h2
  show bindC kindOf ((p,w)::P.zip vs) m p=_
  unfold bindC
  rw[jV λv hv=>(Ep.mp nd).1 (Gx hv).1,if_neg hk]
  simp
 | p::P,w::vs,i+1,m,nd,h1,h2,hk=>by
  show bindC kindOf ((p,w)::P.zip vs) m x=_
  unfold bindC
  exact jU (i:=i) (Ep.mp nd).2 (by simpa using h1) (by simpa using h2) hk
noncomputable def bB (N:List Str) (vs:List V):St:=vs.map some++DV (N.length-vs.length) none
noncomputable def jM (CX:CXT) (P:Program) (w:World) (K:yF) (mg:Str->Option Value) (base:Heap) (N:List Str) (qual:Str) (scope:Scope) (f:Addr) (cd:Value) (A:Around) (outer:List Env) (s:Shared) (H:Hp) (E:XK):Cx where
 prog:=P
 w:=w
 K:=K
 mg:=mg
 base:=base
 A:=A.deeper (envOfC qual scope s.heap.objs.size f cd)
 N:=N
 s₀:=s
 H₀:=H
 env:=envOfC qual scope s.heap.objs.size f cd
 outer:=outer
 stack:=envOfC qual scope s.heap.objs.size f cd::outer
 ex:=[]
 calm:=true
 fn:=λ_=>true
 pn:=[]
 xe:=λe s'=>wpAny (model P w) (A.deeper (envOfC qual scope s.heap.objs.size f cd)) (leaving (envOfC qual scope s.heap.objs.size f cd) e) (λ_ s''=>CX outer H s E e s'') (λe' s''=>CX outer H s E e' s'') s'
theorem lM {sc:Scope}{n:Nat}{x:Str}(h:sc.names.lookup x=some .cell):∃c,(cellsFrom n sc.names []).lookup x=some c:=by
 have q:=FJ sc.names n [] (.inl h)
 exact FB.mp q
theorem pR {CX:CXT}{P:Program}{w:World}{K:yF}{mg:Str->Option Value}{base:Heap}{N ps:List Str}{qual:Str}{scope:Scope}{f:Addr}{cd:Value}{A:Around}{outer:List Env}{s s1:Shared}{H:Hp}{E:XK}{us:List Value}{vs:List V}
  (S:FnScope N ps scope) (hd:A.handled=none) (gd:A.guards=some []) (e0:Env0 P w K mg base A outer s H) (hl:vs.length=ps.length) (r:Vals vs us)
  (x:InCallC s s.heap.objs.size (bindL (envOfC qual scope s.heap.objs.size f cd).kindOf (ps.zip us) λ_=>none) (cellsFrom (s.heap.objs.size+1) scope.names []) (bindC (envOfC qual scope s.heap.objs.size f cd).kindOf (ps.zip us) λ_=>none) s1) :
  Inv (jM CX P w K mg base N qual scope f cd A outer s H E) [] (bB N vs) H s1:=by
 have hpl:ps.length<=N.length:=by have:=congrArg E9 S.pre;rw[Ew]at this;omega
 obtain⟨h1,tk,rfl,hk⟩:=x.done
 have noA:∀b:Addr,b∉(jM CX P w K mg base N qual scope f cd A outer s H E).ex:=λb z=>absurd (show b∈([]:List Addr)from z) (by simp)
 refine⟨⟨e0.mod,S.kind,rfl,rfl,DY _,λy z c h1 h2=>?_,λy hy=>?_,λy c _ h=>?_,λ_=>hd,λ_=>gd,Around.frames_deeper e0.frames,.inr ⟨rfl,rfl⟩,λb z=>absurd z (noA b),e0.bs,e0.bsz,λb _ _=>noA b,λb z=>absurd z (noA b),e0.funs,e0.frf⟩,
  rfl,e0.bare,Un.kept hk,⟨_,x.toInCall.ns,λi y v h1 h2 h3=>?_⟩,λy c h=>⟨_,x.cell y c h⟩,e0.hok.fresh (DY _),λy c h=>?_,λp hp=>absurd (show p∈([]:List (Addr×Obj))from hp) (by simp),e0.hok.kept hk,?_⟩
 ·exact name_of_addr x.apart (Fb h1) (Fb h2)
 ·have hy:scope.names.lookup y=some .cell∨scope.names.lookup y=some .free:=hy
  rcases hy with hy|hy
  ·exact lM hy
  ·exact absurd rfl (S.nofree _ (Fb hy))
 ·exact FZ (x.above y c (Fb h))
 ·have hi:i<vs.length:=by
   unfold bB at h2
   by_cases hi:i<vs.length
   ·exact hi
   ·rw[EW (by simpa using hi)]at h2
    rw[Gg]at h2
    split at h2<;>cases h2
  have ha:vs[i]?=some v:=by
   unfold bB at h2
   rw[EF (by simpa using hi),DZ]at h2
   cases e:vs[i]? with
   | none=>rw[e]at h2;cases h2
   | some a=>rw[e]at h2;cases h2;rfl
  obtain⟨u,hu,rv⟩:=r.get ha
  have hp:ps[i]?=some y:=by
   rw[←S.pre,FC (by omega)];exact h1
  have ndP:ps.Nodup:=by rw[←S.pre];exact S.nd.sublist (List.take_sublist _ _)
  refine⟨u,rv,?_⟩
  rcases S.par y (ymG hp)with k|k
  ·exact .inl ⟨k,jW ndP hp hu k⟩
  ·obtain⟨c,e⟩:=lM (n:=s.heap.objs.size+1) k
   refine .inr ⟨.inl k,c,e,?_⟩
   have q:=x.cell y c e
   rw[jU ndP hp hu (by show scope.names.lookup y≠_;rw[k];decide)]at q
   exact q
 ·exact e0.hok.fresh (FZ (x.above y c (Fb h)))
 ·unfold bB
  show _=N.length
  rw[D8,DX,List.length_replicate]
  omega
theorem By {CX:CXT}{P:Program}{w:World}{K:yF}{mg:Str->Option Value}{base:Heap}{k:Nat}{f:Addr}{name qual:Str}{params:Arguments}{body:List Stmt}{scope:Scope}{dV kV doc pm cdv ct oc:Value}{an od:Option Addr}
  {osl:Array (Option Value)} {N ps:List Str} {sp:Sp} (lk:K.lookup f=some ⟨oc,od,.func (E5 name qual params body scope dV kV doc pm an cdv ct),osl⟩) (hcd:Fx K cdv qual=true) (S:FnScope N ps scope)
  (len:∀vs H Q E,sp vs H Q E->vs.length=ps.length)
  (hbody:∀(A:Around) (outer:List Env) (s:Shared) (H:Hp) (vs:List V) (Q:VK) (E:XK),Room k (A.deeper (envOfC qual scope s.heap.objs.size f cdv))->sp vs H Q E →
   ∃t,PSs (jM CX P w K mg base N qual scope f cdv A outer s H E) body t/\t {nx:=λ_ H'=>Q .non H',rt:=Q} (bB N vs) H) :
  FnOk P w K mg base CX (k+1) f (E5 name qual params body scope dV kV doc pm an cdv ct) ps sp:=by
 refine⟨len,λA outer s H args us vs Q E hr e0 hb r hsp=>?_⟩
 have hl:=len _ _ _ _ hsp
 have KX:K.In s.heap:=e0.mod.kin.keeps λb o e=>(e0.bs b o e).1
 have lim:s.heap.NoLimit:=e0.mod.nolimit.keeps λb o e=>(e0.bs b o e).1
 have hkind:∀y∈ps.zip us,scope.names.lookup y.1=some .local∨(scope.names.lookup y.1=some .cell/\((cellsFrom (s.heap.objs.size+1) scope.names []).lookup y.1).isSome=true):=fun⟨n,v⟩ hy=>by
  rcases S.par n (Gx hy).1 with q|q
  ·exact .inl q
  ·exact .inr ⟨q,FJ _ _ _ (.inl q)⟩
 refine codeAny_call_function hr.depth (KX _ _ lk) rfl S.co S.gen rfl (PySem.W.codeRec_of KX hcd) (hb _ _ _ _ ?_)
 refine wpAny_newFunctionEnv_cells S.kind hkind λenv he s1 x=>?_
 subst he
 refine⟨lim.keeps x.toInCall.keep,codeAny_func ?_⟩
 obtain⟨t,ht,hq⟩:=hbody A outer s H vs Q E (hr.deeper _) hsp
 have I:Inv (jM CX P w K mg base N qual scope f cdv A outer s H E) [] (bB N vs) H s1:=pR S hr.hd hr.gd e0 hl r x
 refine wpAny_mono (ht [] s1 (bB N vs) H _ I hq) (λfl s' hs=>?_) λe s' hs=>hs
 have fin:∀{Z':St} {H':Hp} {v:V} {u:Value},Inv (jM CX P w K mg base N qual scope f cdv A outer s H E) [] Z' H' s'->RelV v u->Q v H'->CE outer P w H s Q u s':=
  λ{Z' H' v u} J rv q=>⟨v,H',J.os,J.bare,J.base,J.hok,rv,q⟩
 cases fl with
 | ret u=>
  obtain⟨v,Z',H',J,rv,q⟩:=hs
  exact fin J rv q
 | next=>
  obtain⟨Z',H',J,q⟩:=hs
  exact fin (v:=V.non) (u:=Value.none) J rfl q
 | brk=>
  obtain⟨_,_,_,q⟩:=hs
  exact False.elim q
 | cont=>
  obtain⟨_,_,_,q⟩:=hs
  exact False.elim q
section
variable  {X:Cx}{x:Str}{p pos:Pos}{e:Expr}{es:List Expr}{t:TA}{id T:String}{r:List V->Hp->VK->Prop}
def tCB (r:List V->Hp->VK->Prop)(t:TA):TE:=λZ H Q=>t Z H λvs H1=>r vs H1 Q
theorem sI (hc:CallR X (.builtin id) r)(hg:Gl X x)(hm:X.mg x=none)(hv:bootBuiltins x=some (.builtin id))(ha:PA X (e::es) t)(hn:x ≠ "__name__" :=by decide)(hdb:(x==("__debug__" : Str))=false:=by decide)
  (he:starEach (e::es) X.env=(false,eval e X.env)::starEach es X.env:=by rfl) (hpl:(backTo pos (starEach es X.env)).any (·.1)=false:=by rfl):PE X (.Call (.Name x p) (e::es) [] pos) (tCB r t):=by
 intro pins s Z H Q I h
 refine wpAny_Call_Name_kw (ib I hg hm hv ?_ hn hdb)
 exact G9 (thn (ha pos pins s Z H _ I h) λus s1 ⟨vs,H1,I1,r1,q1⟩=>hc pins s1 Z H1 vs us Q I1 r1 q1) he hpl
theorem qf (hc:CallR X (.type T) r)(hg:Gl X x)(hm:X.mg x=none)(hv:bootBuiltins x=some (.type T))(ha:PA X (e::es) t)(hn:x ≠ "__name__" :=by decide)(hdb:(x==("__debug__" : Str))=false:=by decide)
  (he:starEach (e::es) X.env=(false,eval e X.env)::starEach es X.env:=by rfl) (hpl:(backTo pos (starEach es X.env)).any (·.1)=false:=by rfl):PE X (.Call (.Name x p) (e::es) [] pos) (tCB r t):=by
 intro pins s Z H Q I h
 refine wpAny_Call_Name_kw (ib I hg hm hv ?_ hn hdb)
 exact Fd (thn (ha pos pins s Z H _ I h) λus s1 ⟨vs,H1,I1,r1,q1⟩=>hc pins s1 Z H1 vs us Q I1 r1 q1) he hpl
end
end L2
namespace HT
open PySem PyProof.Rows
section
open PySem.SeqAt
open PySem.AutoSeq1 (wpAny_loadPart')
open PySem.MeetsSeq PySem.MeetsSeq2 PySem.MeetsSeq3
end
section
variable  {prog:Program}{w:World}{A:Around}{E:Value->Shared->Prop}{s:Shared}
theorem cat_tup {t b:Addr}{vs ws:List Value}{Q:Value->Shared->Prop}(ht:IsTup s.heap t vs.toArray)(hb:IsTup s.heap b ws.toArray)(hv:vs≠[])
  (h1:ws=[]->Q (.ref t) s) (h2:ws≠[]->Q (.ref s.heap.objs.size) {s with heap:=s.heap.push {cls:=.type "tuple",data:=.seq (vs++ws).toArray}})
  (hsz:vs.length+ws.length<=sizeLine):wpAny (model prog w) A (binaryOp .Add (.ref t) (.ref b)) Q E s:=by
 obtain⟨⟨cls,dd,data,sl⟩,ho,hc,n,hd⟩:=id ht
 obtain⟨⟨cls2,dd2,data2,sl2⟩,ho2,hc2,n2,hd2⟩:=id hb
 simp only at hc hd hc2 hd2
 subst hc hd hc2 hd2
 have e:vs.toArray++ws.toArray=(vs++ws).toArray:=by simp
 by_cases hw:ws=[]
 ·exact concat_meets ⟨_,ho,rfl⟩ ⟨_,ho2,rfl⟩ noFill_tuple_add seq_tuple_add PySem.F.slot_tuple_add PySem.F.entry_tuple_add (PySem.F.args_tuple_add_2 _ _)
   (tuple_addW1 t b vs.toArray ws.toArray n n2 dd dd2 sl sl2 (by simpa using hv) (by simp[hw])) ⟨ho,ho2,h1 hw⟩
 ·refine concat_meets ⟨_,ho,rfl⟩ ⟨_,ho2,rfl⟩ noFill_tuple_add seq_tuple_add PySem.F.slot_tuple_add PySem.F.entry_tuple_add (PySem.F.args_tuple_add_2 _ _)
   (tuple_addW2 t b vs.toArray ws.toArray n n2 dd dd2 sl sl2 (by simpa using hv) (by simpa using hw) (by rw[DT,DT];exact hsz)) ⟨ho,ho2,?_⟩
  rw[e]
  exact h2 hw
noncomputable def sIx (n d:Nat):Option Int->Nat
 | none=>d
 | some v=>if v<0 then(v+(n:Int)).toNat else min v.toNat n
theorem sIx_none (n d:Nat):sIx n d none=d:=rfl
theorem sIx_nat (n d k:Nat):sIx n d (some (k:Int))=min k n:=by
 show(if(k:Int)<0 then((k:Int)+(n:Int)).toNat else min (k:Int).toNat n)=min k n
 rw[if_neg (by omega),Ee]
theorem sIx_le (n d:Nat)(hd:d<=n)(o:Option Int):sIx n d o<=n:=by
 cases o with
 | none=>exact hd
 | some v=>
  show(if v<0 then(v+(n:Int)).toNat else min v.toNat n)<=n
  by_cases hv:v<0
  ·rw[if_pos hv];omega
  ·rw[if_neg hv];exact Nat.min_le_right _ _
theorem clip_eq (v:Int)(n d:Nat):(if v<0 then max (v+(n:Int)) 0 else min v (n:Int))=((sIx n d (some v):Nat):Int):=by
 show(if v<0 then max (v+(n:Int)) 0 else min v (n:Int))=(((if v<0 then(v+(n:Int)).toNat else min v.toNat n):Nat):Int)
 by_cases hv:v<0
 ·simp only[if_pos hv];omega
 ·simp only[if_neg hv];omega
theorem adjust_gen (lo hi:Option Int)(n:Nat):Builtin.Slice.sliceAdjust lo hi 1 (n:Int)=(((sIx n 0 lo:Nat):Int),((sIx n n hi:Nat):Int)):=by
 have h1:¬ ((1:Int)<0):=by omega
 unfold Builtin.Slice.sliceAdjust
 simp only[h1,if_false]
 refine HC ?_ ?_
 ·cases lo with
  | none=>rfl
  | some v=>exact clip_eq v n 0
 ·cases hi with
  | none=>rfl
  | some v=>exact clip_eq v n n
theorem places_gen (i j:Nat):Builtin.Slice.slicePlaces (i:Int) (j:Int) 1=j-i:=by
 unfold Builtin.Slice.slicePlaces
 have h1:(1:Int)>0:=by omega
 simp only[h1,if_true,Hr]
 split<;>omega
theorem slicePart_ {v:Value}{o:Option Int}{Q:Option Int->Shared->Prop}(p:IsPart v o)(h:Q o s):wpAny (model prog w) A (Builtin.Slice.slicePartIndex v) Q E s:=by
 cases p with
 | none=>exact slicePart_none h
 | int i t=>exact slicePart_int h
theorem sliceApplied_gen {sl:Addr}{vl vu:Value}{lo hi:Option Int}{n:Nat}{Q:Int×Int×Nat->Shared->Prop}(hs:s.heap.IsSliceOf sl vl vu .none)(pl:IsPart vl lo)(pu:IsPart vu hi)
  (h:Q (((sIx n 0 lo:Nat):Int),1,sIx n n hi-sIx n 0 lo) s):wpAny (model prog w) A (Builtin.Slice.sliceApplied (.ref sl) (pure (n:Int))) Q E s:=by
 obtain⟨os,hos,hcs,hds⟩:=id hs
 unfold Builtin.Slice.sliceApplied Builtin.Slice.sliceFields
 refine wpAny_bind (wpAny_bind (wpAny_field hos hds (x:=vl) rfl (wpAny_bind (wpAny_field hos hds (x:=vu) rfl (wpAny_bind (wpAny_field hos hds (x:=.none) rfl (wpAny_pure ?_)))))))
 refine wpAny_bind (slicePart_none ?_)
 show wpAny _ _ (if((1:Int)==0)=true then _ else _) _ _ s
 rw[if_neg (by decide)]
 refine wpAny_bind (slicePart_ pl (wpAny_bind (slicePart_ pu (wpAny_bind (wpAny_pure ?_)))))
 show wpAny _ _ (match Builtin.Slice.sliceAdjust lo hi 1 (n:Int)with|(lo,hi)=>pure (lo,(1:Int),Builtin.Slice.slicePlaces lo hi 1)) _ _ s
 rw[adjust_gen lo hi n]
 show wpAny _ _ (pure (((sIx n 0 lo:Nat):Int),(1:Int),Builtin.Slice.slicePlaces ((sIx n 0 lo:Nat):Int) ((sIx n n hi:Nat):Int) 1)) _ _ s
 rw[places_gen]
 exact wpAny_pure h
theorem pick_gen (xs:Array Value)(i k:Nat):((Es k).filterMap λ(m:Nat)=>xs[((i:Int)+(m:Int)*1).toNat]?).toArray=((xs.toList.drop i).take k).toArray:=by
 have e:(λ(m:Nat)=>xs[((i:Int)+(m:Int)*1).toNat]?)=λm=>xs[i+m]?:=by
  funext m
  have:((i:Int)+(m:Int)*1).toNat=i+m:=by omega
  rw[this]
 rw[e]
 have:=pick_run xs i k
 rw[FH]at this
 have e2:((λx=>xs[x]?)∘λx=>i+x)=λm=>xs[i+m]?:=rfl
 rw[e2]at this
 rw[this]
theorem getItem_tuple_cut {t sl:Addr}{items:Array Value}{vl vu:Value}{lo hi:Option Int}{Q:Value->Shared->Prop}(ht:IsTup s.heap t items)(hs:s.heap.IsSliceOf sl vl vu .none)(pl:IsPart vl lo)(pu:IsPart vu hi)
  (hw:¬ (sIx items.size 0 lo=0/\sIx items.size items.size hi=items.size))
  (h:Q (.ref s.heap.objs.size) {s with heap:=s.heap.push {cls:=.type "tuple",data:=.seq ((items.toList.drop (sIx items.size 0 lo)).take (sIx items.size items.size hi-sIx items.size 0 lo)).toArray}})
  (hsz:items.size<=sizeLine):wpAny (model prog w) A (getItem (.ref t) (.ref sl)) Q E s:=by
 have htake:sizeOk (.seq ((items.toList.drop (sIx items.size 0 lo)).take (sIx items.size items.size hi-sIx items.size 0 lo)).toArray):=by
  show((items.toList.drop (sIx items.size 0 lo)).take (sIx items.size items.size hi-sIx items.size 0 lo)).toArray.size<=sizeLine
  rw[DT,Ew,EM,EO]
  omega
 have hj:sIx items.size items.size hi<=items.size:=sIx_le _ _ (DY _) hi
 obtain⟨os,hos,hcs,hds⟩:=id hs
 have hTs:s.TypeIs (.ref sl) "slice" :=⟨os,hos,hcs⟩
 unfold getItem
 try with_reducible refine wpAny_holding ?_
 first|refine wpAny_bind (wpAny_pure ?_)|skip
 refine wpAny_bind (wpAny_sequenceKey ht.typeIs (by decide) ?_)
 refine wpAny_bind (wpAny_callSpecial?_slot (name:=Str.ofString "__getitem__") ht.typeIs ED
  (wpAny_call_entry ED ht.typeIs entry_tuple_getitem ?_ (args_tuple_getitem _ _)))
 show wpAny _ _ (Builtin.Tuple.tupleItemsOf (.ref t) >>= _) _ _ s
 refine wpAny_bind (tupleItemsOf_ ht ?_)
 refine wpAny_bind (wpAny_typeOf hTs ?_)
 rw[if_pos (by decide)]
 refine wpAny_bind (sliceApplied_gen hs pl pu ?_)
 have hno:¬ ((((sIx items.size 0 lo:Nat):Int)==0&&(1:Int)==1&&(sIx items.size items.size hi-sIx items.size 0 lo)==items.size)=true):=by
  intro q
  rw[DU,DU]at q
  have q1:((sIx items.size 0 lo:Nat):Int)=0:=eq_of_beq q.1.1
  have q2:sIx items.size items.size hi-sIx items.size 0 lo=items.size:=eq_of_beq q.2
  exact hw ⟨by omega,by omega⟩
 show wpAny _ _ (if(((sIx items.size 0 lo:Nat):Int)==0&&(1:Int)==1&&(sIx items.size items.size hi-sIx items.size 0 lo)==items.size)=true then _ else _) _ _ s
 rw[if_neg hno,pick_gen]
 first
  | exact wpAny_bind (m:=Builtin.Tuple.tupleExact _) (wpAny_newObj_type (wpAny_pure ⟨_,rfl,wpAny_pure h⟩) htake)
  | exact wpAny_bind (m:=Builtin.Tuple.tupleExact _) (wpAny_newObj_type (wpAny_bind (wpAny_pure (wpAny_pure ⟨_,rfl,wpAny_pure h⟩))) htake)
  | exact wpAny_bind (wpAny_bind (m:=Builtin.Tuple.tupleExact _) (wpAny_newObj_type (wpAny_pure (wpAny_pure ⟨_,rfl,wpAny_pure h⟩)) htake))
  | exact wpAny_bind (wpAny_bind (m:=Builtin.Tuple.tupleExact _) (wpAny_newObj_type (wpAny_pure ⟨_,rfl,wpAny_pure h⟩) htake))
end
end HT
namespace L2
open PySem PySem.Spec PyProof.Rows
abbrev TO:=St->Hp->(Option Int->Hp->Prop)->Prop
def PO (X:Cx)(e:Option Expr)(t:TO):Prop:=
 ∀(pins:List (Addr×Obj)) (s:Shared) (Z:St) (H:Hp) (Q:Option Int->Hp->Prop),Inv X pins Z H s->t Z H Q →
  wpAny (model X.prog X.w) X.A (evalPart e X.env) (λu s'=>∃o H',Inv X pins Z H' s'/\IsPart u o/\Q o H') X.xe s
def pc:TO:=λ_ H Q=>Q none H
def pe (t:TE):TO:=λZ H Q=>t Z H λx H1=>∃i,x=.int i/\Q (some i) H1
section
variable  {X:Cx}{e:Expr}{te:TE}{lo hi:Option Expr}{tl th:TO}{pos p2:Pos}
theorem wj:PO X none pc:=by
 intro pins s Z H Q I h
 rw[evalPart_none]
 exact wpAny_pure ⟨none,H,I,.none,h⟩
theorem lm (h:PE X e te):PO X (some e) (pe te):=by
 intro pins s Z H Q I hw
 rw[evalPart_some]
 refine thn (h pins s Z H _ I hw) λu s1 ⟨x,H1,I1,r1,q1⟩=>?_
 obtain⟨i,rfl,q⟩:=q1
 obtain⟨t,rfl⟩:=r1
 exact⟨some i,H1,I1,.int i t,q⟩
def SlR (X:Cx)(r:V->Option Int->Option Int->Hp->VK->Prop):Prop:=
 ∀(pins:List (Addr×Obj)) (s:Shared) (Z:St) (H:Hp) (x:V) (v vl vu:Value) (lo hi:Option Int) (sl:Addr) (Q:VK),Inv X pins Z H s->RelV x v->s.heap.IsSliceOf sl vl vu .none->IsPart vl lo->IsPart vu hi->r x lo hi H Q →
  ∃T id,typeLookup (.type T) "__getitem__" = pure (some (.builtin id))/\s.TypeIs v T/\wpAny (model X.prog X.w) X.A (getItem v (.ref sl)) (EP X pins Z Q) X.xe s
theorem SlR.or {r r':V->Option Int->Option Int->Hp->VK->Prop}(h:SlR X r)(h':SlR X r'):SlR X (λx lo hi H Q=>r x lo hi H Q∨r' x lo hi H Q):=by
 intro pins s Z H x v vl vu lo hi sl Q I rx hs pl pu q
 rcases q with q|q
 ·exact h pins s Z H x v vl vu lo hi sl Q I rx hs pl pu q
 ·exact h' pins s Z H x v vl vu lo hi sl Q I rx hs pl pu q
def tSl (r:V->Option Int->Option Int->Hp->VK->Prop)(te:TE)(tl th:TO):TE:=λZ H Q=>te Z H λx H1=>tl Z H1 λl H2=>th Z H2 λu H3=>r x l u H3 Q
theorem sN {r:V->Option Int->Option Int->Hp->VK->Prop}(hr:SlR X r)(he:PE X e te)(hl:PO X lo tl)(hu:PO X hi th):PE X (.Subscript e (.Slice lo hi none p2) pos) (tSl r te tl th):=by
 intro pins s Z H Q I h
 refine Subscript_ (thn (he pins s Z H _ I h) λv s1 ⟨x,H1,I1,r1,q1⟩=>?_)
 refine wpAny_Slice (thn (hl pins s1 Z H1 _ I1 q1) λvl s2 ⟨l,H2,I2,pl,q2⟩=>thn (hu pins s2 Z H2 _ I2 q2) λvu s3 ⟨u,H3,I3,pu,q3⟩=>?_)
 rw[evalPart_none]
 refine wpAny_pure ?_
 have I4:Inv X pins Z H3 {s3 with heap:=s3.heap.push {cls:=.type "slice",data:=.fields #[vl,vu,.none]}}:=I3.kept (t':=s3.toks) λb ob q=>Heap.get?_push_of_some _ q
 obtain⟨T,id,hT,ht,hg⟩:=hr pins {s3 with heap:=s3.heap.push {cls:=.type "slice",data:=.fields #[vl,vu,.none]}} Z H3 x v vl vu l u s3.heap.objs.size Q I4 r1 (Heap.IsSliceOf.new ..) pl pu q3
 show wpAny (model X.prog X.w) X.A (subscriptTail e (.Slice lo hi none p2) v (.ref s3.heap.objs.size)) (EP X pins Z Q) X.xe {s3 with heap:=s3.heap.push {cls:=.type "slice",data:=.fields #[vl,vu,.none]}}
 exact tail_any (ops:=[.ref s3.heap.objs.size,v]) ht hT hg (by with_unfolding_all rfl)
noncomputable def i7 (xs:List V) (lo hi:Option Int):List V:=(xs.drop (HT.sIx xs.length 0 lo)).take (HT.sIx xs.length xs.length hi-HT.sIx xs.length 0 lo)
theorem iF (xs:List V)(lo hi:Option Int):(i7 xs lo hi).length<=xs.length:=by
 unfold i7
 rw[Ew,EM]
 omega
def CN (K:yF):V->Option Int->Option Int->Hp->VK->Prop:=λx lo hi H Q=>∃a xs,x=.ref a/\SqT K H a xs ∧
 ¬ (HT.sIx xs.length 0 lo=0/\HT.sIx xs.length xs.length hi=xs.length)/\∀p,H p=none->Q (.ref p) (upd H p (.tup (i7 xs lo hi)))
theorem sl_tup:SlR X (CN X.K):=by
 intro pins s Z H x v vl vu lo hi sl Q I rx hs pl pu h
 obtain⟨a,xs,rfl,hx,hw,q⟩:=h
 cases rx
 obtain⟨its,r,ht,hz⟩:=I.tuple hx
 have hlen:its.toArray.size=xs.length:=by rw[DT];exact r.length.symm
 refine⟨"tuple",_,ED.lookup,ht.typeIs,?_⟩
 refine HT.getItem_tuple_cut ht hs pl pu (by rw[hlen];exact hw) ?_ (by rw[hlen];exact hz)
 rw[hlen]
 refine⟨.ref s.heap.objs.size,_,I.laid (t':=s.toks) (o:=.tup (i7 xs lo hi)) (λb ob q=>Heap.get?_push_of_some _ q) (DY _) ?_,rfl,q _ (I.hok.fresh (DY _))⟩
 exact⟨Ev (iF xs lo hi) hz,_,(r.drop (HT.sIx xs.length 0 lo)).take (HT.sIx xs.length xs.length hi-HT.sIx xs.length 0 lo),IsTupN.new _ _⟩
def x8 (K:yF):R2:=λx y H Q=>∃a b xs ys,x=.ref a/\y=.ref b/\SqT K H a xs/\SqT K H b ys/\xs≠[]/\xs.length+ys.length<=sizeLine ∧
 (ys=[]->Q (.ref a) H)/\(ys≠[]->∀p,H p=none->Q (.ref p) (upd H p (.tup (xs++ys))))
theorem Vals.nil_iff {xs:List V}{us:List Value}(r:Vals xs us):us=[]↔xs=[]:=by
 cases r with
 | nil=>simp
 | cons _ _=>simp
theorem vO:OpR X (binaryOp .Add) (x8 X.K):=by
 intro pins s Z H x y v u Q I rx ry h
 obtain⟨a,b,xs,ys,rfl,rfl,ha,hb,hx,hz,q1,q2⟩:=h
 cases rx
 cases ry
 obtain⟨its,r1,p1,_⟩:=I.tuple ha
 obtain⟨its2,r2,p2,_⟩:=I.tuple hb
 refine HT.cat_tup p1 p2 (λz=>hx (r1.nil_iff.mp z)) (λz=>⟨.ref a,H,I,rfl,q1 (r2.nil_iff.mp z)⟩) (λz=>?_) (by rw[←r1.length,←r2.length];exact hz)
 refine⟨.ref s.heap.objs.size,_,I.laid (t':=s.toks) (o:=.tup (xs++ys)) (λb ob q=>Heap.get?_push_of_some _ q) (DY _) ?_,rfl,q2 (λw=>z (r2.nil_iff.mpr w)) _ (I.hok.fresh (DY _))⟩
 exact⟨by rw[D8];exact hz,_,r1.append r2,IsTupN.new _ _⟩
end
noncomputable def ixN (n:Nat) (i:Int):Option Nat:=if 0<=i then(if i<n then some i.toNat else none)else if -(n:Int)<=i then some (i+n).toNat else none
noncomputable def atI {α:Type} (xs:List α) (i:Int):Option α:=(ixN xs.length i).bind λj=>xs[j]?
theorem oP {n:Nat}{i:Int}{j:Nat}(h:ixN n i=some j):seqIndex? i n=some j/\j<n/\-(n:Int)<=i/\i<n:=by
 unfold ixN at h
 by_cases h0:0<=i
 ·rw[if_pos h0]at h
  by_cases h1:i<n
  ·rw[if_pos h1]at h
   have e:i.toNat=j:=Em.inj h
   exact⟨by rw[seqIndex_of h0 h1,e],by omega,by omega,h1⟩
  ·rw[if_neg h1]at h;cases h
 ·rw[if_neg h0]at h
  by_cases h1 : -(n:Int)<=i
  ·rw[if_pos h1]at h
   have e:(i+n).toNat=j:=Em.inj h
   exact⟨by rw[seqIndex_neg (by omega) h1,e],by omega,h1,by omega⟩
  ·rw[if_neg h1]at h;cases h
theorem kN {α:Type}{xs:List α}{i:Int}{v : α}(h:atI xs i=some v):∃j,seqIndex? i xs.length=some j/\xs[j]?=some v/\j<xs.length/\-(xs.length:Int)<=i/\i<xs.length:=by
 unfold atI at h
 cases e:ixN xs.length i with
 | none=>rw[e]at h;cases h
 | some j=>
  rw[e]at h
  obtain⟨h1,h2,h3,h4⟩:=oP e
  exact⟨j,h1,h,h2,h3,h4⟩
def oj (b:Expr):Prop:=∀o i,subscripted b false o i=operate [o,i] (getItem o i)
def IxR (X:Cx)(r:R2):Prop:=
 ∀(value slice:Expr) (pins:List (Addr×Obj)) (s:Shared) (Z:St) (H:Hp) (x y:V) (v u:Value) (Q:VK),Inv X pins Z H s->RelV x v->RelV y u->r x y H Q →
  subscripted slice false v u=operate [v,u] (getItem v u)->wpAny (model X.prog X.w) X.A (subscriptTail value slice v u) (EP X pins Z Q) X.xe s
def MtR (X:Cx)(id:String)(r:V->List V->Hp->VK->Prop):Prop:=
 ∀(pins:List (Addr×Obj)) (s:Shared) (Z:St) (H:Hp) (x:V) (xs:List V) (v:Value) (us:List Value) (Q:VK),Inv X pins Z H s->RelV x v->Vals xs us->r x xs H Q →
  wpAny (model X.prog X.w) X.A (call (.builtin id) (v::us)) (EP X pins Z Q) X.xe s
section
variable  {X:Cx}{a b:Expr}{ta tb:TE}{pos:Pos}
theorem IxR.or {r r':R2}(h:IxR X r)(h':IxR X r'):IxR X (λx y H Q=>r x y H Q∨r' x y H Q):=by
 intro value slice pins s Z H x y v u Q I rx ry q hs
 rcases q with q|q
 ·exact h value slice pins s Z H x y v u Q I rx ry q hs
 ·exact h' value slice pins s Z H x y v u Q I rx ry q hs
theorem MtR.or {id:String}{r r':V->List V->Hp->VK->Prop}(h:MtR X id r)(h':MtR X id r'):MtR X id (λx xs H Q=>r x xs H Q∨r' x xs H Q):=by
 intro pins s Z H x xs v us Q I rx rs q
 rcases q with q|q
 ·exact h pins s Z H x xs v us Q I rx rs q
 ·exact h' pins s Z H x xs v us Q I rx rs q
theorem Ca {r:R2}(hr:IxR X r)(ha:PE X a ta)(hb:PE X b tb)(hs:oj b):PE X (.Subscript a b pos) (tOp r ta tb):=by
 intro pins s Z H Q I h
 exact Subscript_ (yA ha hb I h λv u s2 x y H2 I2 rx ry q=>hr a b pins s2 Z H2 x y v u Q I2 rx ry q (hs _ _))
def CF (K:yF):R2:=λx y H Q=>∃p xs i v,x=.ref p/\y=.int i/\SqL K H p xs/\atI xs i=some v/\Q v H
def CH (K:yF):R2:=λx y H Q=>∃p xs i v,x=.ref p/\y=.int i/\SqT K H p xs/\atI xs i=some v/\Q v H
def CG:R2:=λx y H Q=>∃z i c,x=.str z/\y=.int i/\z.length<=sizeLine/\atI z.cps.toList i=some c/\Q (.str ⟨#[c]⟩) H
theorem ix_list:IxR X (CF X.K):=by
 intro value slice pins s Z H x y v u Q I rx ry h hs
 obtain⟨p,xs,i,z,rfl,rfl,hq,he,q⟩:=h
 cases rx
 obtain⟨t,rfl⟩:=ry
 obtain⟨its,r,pl,hz⟩:=I.list hq
 obtain⟨j,h1,h2,h3,h4,h5⟩:=kN he
 obtain⟨w,ew,rw'⟩:=r.get h2
 have hl:=r.length
 have hn:=gm
 have fin:EP X pins Z Q w s:=⟨z,H,I,rw',q⟩
 by_cases h0:0<=i
 ·have hj:i.toNat=j:=by
   rw[seqIndex_of h0 h5]at h1
   exact Em.inj h1
  exact item_listR pl.isList h0 (by omega) (by rw[hj];simpa using ew) fin hs
 ·have hj:(i+(its.toArray.size:Int)).toNat=j:=by
   rw[seqIndex_neg (by omega) h4]at h1
   rw[DT,←hl]
   exact Em.inj h1
  exact subscriptTail_builtinR (x:=w) pl.isList.typeIs slot_list_getitem.lookup
   (wpAny_getItem_list_neg (Q:=λr s'=>r=w/\EP X pins Z Q r s') pl.isList (by omega) (by rw[DT]<;>omega) (by omega) (by rw[hj];simpa using ew) ⟨rfl,fin⟩) hs
theorem ix_tup:IxR X (CH X.K):=by
 intro value slice pins s Z H x y v u Q I rx ry h hs
 obtain⟨p,xs,i,z,rfl,rfl,hq,he,q⟩:=h
 cases rx
 obtain⟨t,rfl⟩:=ry
 obtain⟨its,r,pl,hz⟩:=I.tuple hq
 obtain⟨j,h1,h2,h3,h4,h5⟩:=kN he
 obtain⟨w,ew,rw'⟩:=r.get h2
 have hl:=r.length
 have hn:=gm
 have fin:EP X pins Z Q w s:=⟨z,H,I,rw',q⟩
 exact subscriptTail_builtinR (x:=w) pl.typeIs slot_tuple_getitem.lookup
  (getItem_tuple (j:=j) (Q:=λr s'=>r=w/\EP X pins Z Q r s') pl (by omega) (by omega) (by rw[DT,←hl];exact h1) (by simpa using ew) ⟨rfl,fin⟩) hs
theorem yT:IxR X CG:=by
 intro value slice pins s Z H x y v u Q I rx ry h hs
 obtain⟨z,i,c,rfl,rfl,hz,he,q⟩:=h
 obtain⟨t,rfl⟩:=rx
 obtain⟨t',rfl⟩:=ry
 obtain⟨j,h1,h2,h3,h4,h5⟩:=kN he
 have hl:z.cps.toList.length=z.length:=by simp[Str.length]
 rw[hl]at h1 h4 h5
 have hn:=gm
 exact tail_any (typeIs_str s z t) slot_str_getitem.lookup (getItem_str (c:=c) (by
  have e1:decide (i < -(2^63:Int))=false:=decide_eq_false (by omega)
  have e2:decide (i≥2^63)=false:=decide_eq_false (by omega)
  rw[e1,e2,Bool.or_false]) (by rw[h1];simpa using h2) ⟨.str ⟨#[c]⟩,H,I.tok _,⟨_,rfl⟩,q⟩) hs
def rIx (K:yF):R2:=λx y H Q=>CF K x y H Q∨CH K x y H Q∨CG x y H Q
theorem yS:IxR X (rIx X.K):=ix_list.or (ix_tup.or yT)
theorem nw (its:List Value)(n j:Nat)(u:Value):Obj.mapSeq (·.setIfInBounds j u) {cls:=.type "list",data:=.seq its.toArray n}={cls:=.type "list",data:=.seq (its.set j u).toArray n}:=by
 simp[Obj.mapSeq]
theorem Inv.lst {pins:List (Addr×Obj)}{Z:St}{H:Hp}{s:Shared}{p:Addr}{xs:List V}(I:Inv X pins Z H s)(h:H p=some (.lst xs)) :
  ∃(its:List Value) (n:Nat),Vals xs its/\s.heap.get? p=some {cls:=.type "list",data:=.seq its.toArray n}/\xs.length<=sizeLine:=by
 obtain⟨z,its,n,r,e⟩:=I.hok p _ h
 exact⟨its,n,r,e,z⟩
theorem Inv.lstUpd {pins:List (Addr×Obj)}{Z:St}{H:Hp}{s:Shared}{p:Addr}{xs ys:List V}{its its':List Value}{n n':Nat}{f:Obj->Obj}(I:Inv X pins Z H s)(h:H p=some (.lst xs))
  (ho:s.heap.get? p=some {cls:=.type "list",data:=.seq its.toArray n}) (hf:f {cls:=.type "list",data:=.seq its.toArray n}={cls:=.type "list",data:=.seq its'.toArray n'}) (r:Vals ys its') (hz:ys.length<=sizeLine) (t:Nat) :
  Inv X pins Z (upd H p (.lst ys)) {s with heap:=s.heap.update p f,toks:=t}:=by
 have e:(s.heap.update p f).get? p=some {cls:=.type "list",data:=.seq its'.toArray n'}:=by
  rw[Heap.get?_update_self f ho (by rw[hf]<;>rfl),hf]
 refine I.write (x:=p) (e:=p) (by rw[h];trivial) (.inl rfl) (λb u hb q=>(Heap.get?_update_other _ _ (Ne.symm hb)).trans q) ⟨_,e⟩ ?_
 exact⟨hz,its',n',r,e⟩
def yi:V->V->V->Hp->(Hp->Prop)->Prop:=λo i v H Q=>∃p xs k j,o=.ref p/\i=.int k/\H p=some (.lst xs)/\ixN xs.length k=some j/\Q (upd H p (.lst (xs.set j v)))
theorem uy:yw X yi:=by
 intro pins s Z H o i v ov iv u Q I ro ri rv h
 obtain⟨p,xs,k,j,rfl,rfl,hp,hj,q⟩:=h
 cases ro
 obtain⟨t,rfl⟩:=ri
 obtain⟨its,n,r,ho,hz⟩:=I.lst hp
 obtain⟨h1,h2,h3,h4⟩:=oP hj
 have hl:=r.length
 have hn:=gm
 have I':Inv X pins Z (upd H p (.lst (xs.set j v))) {s with heap:=s.heap.update p (Obj.mapSeq (·.setIfInBounds j u))}:=
  I.lstUpd hp ho (nw its n j u) (r.set rv j) (by rw[FE];exact hz) s.toks
 by_cases h0:0<=k
 ·have hk:k.toNat=j:=by
   rw[seqIndex_of h0 h4]at h1
   exact Em.inj h1
  exact PySem.W.ki_setAt ho h0 (by omega) (by rw[DT,←hl];exact h4) (by rw[hk];exact⟨_,I',q⟩)
 ·have hk:(k+(its.toArray.size:Int)).toNat=j:=by
   rw[seqIndex_neg (by omega) h3]at h1
   rw[DT,←hl]
   exact Em.inj h1
  exact PySem.W.ki_setBack ho (by omega) (by rw[DT,←hl];exact h3) (by omega) (by rw[hk];exact⟨_,I',q⟩)
theorem lG (lo hi:Option Int)(n:Nat):(sliceBounds lo hi none n).1=((HT.sIx n 0 lo:Nat):Int)/\(sliceBounds lo hi none n).2.1=((HT.sIx n n hi:Nat):Int)/\(sliceBounds lo hi none n).2.2=1:=by
 refine⟨?_,?_,rfl⟩
 ·cases lo with
  | none=>simp[sliceBounds,HT.sIx]
  | some i=>
   simp only[sliceBounds,HT.sIx,Gh,show(1:Int)>0 by decide,if_true]
   by_cases h:i<0
   ·simp only[h,if_true]<;>omega
   ·simp only[h,if_false]<;>omega
 ·cases hi with
  | none=>simp[sliceBounds,HT.sIx]
  | some i=>
   simp only[sliceBounds,HT.sIx,Gh,show(1:Int)>0 by decide,if_true]
   by_cases h:i<0
   ·simp only[h,if_true]<;>omega
   ·simp only[h,if_false]<;>omega
theorem jR (its:List Value)(lo hi:Option Int):slicePick its.toArray lo hi none=((its.drop (HT.sIx its.length 0 lo)).take (HT.sIx its.length its.length hi-HT.sIx its.length 0 lo)).toArray:=by
 obtain⟨h1,h2,h3⟩:=lG lo hi its.toArray.size
 unfold slicePick
 rw[h1,h2,h3]
 simp only[sliceRange_one,pick_run,DT]<;>rfl
def CM (K:yF):V->Option Int->Option Int->Hp->VK->Prop:=λx lo hi H Q=>∃a xs,x=.ref a/\SqL K H a xs/\∀p,H p=none->Q (.ref p) (upd H p (.lst (i7 xs lo hi)))
theorem sl_list:SlR X (CM X.K):=by
 intro pins s Z H x v vl vu lo hi sl Q I rx hs pl pu h
 obtain⟨a,xs,rfl,hx,q⟩:=h
 cases rx
 obtain⟨its,r,ht,hz⟩:=I.list hx
 have hlen:=r.length
 refine⟨"list",_,slot_list_getitem.lookup,ht.isList.typeIs,?_⟩
 refine wpAny_getItem_list_slice ht.isList hs pl pu .none (by simp) ?_ (by rw[DT]<;>omega)
 rw[jR,←hlen]
 refine⟨.ref s.heap.objs.size,_,I.laid (t':=s.toks) (o:=.lst (i7 xs lo hi)) (λb ob q=>Heap.get?_push_of_some _ q) (DY _) ?_,rfl,q _ (I.hok.fresh (DY _))⟩
 exact⟨Ev (iF xs lo hi) hz,_,0,(r.drop (HT.sIx xs.length 0 lo)).take (HT.sIx xs.length xs.length hi-HT.sIx xs.length 0 lo),Heap.get?_push_size _ rfl⟩
noncomputable def iH:V->Bool
 | .non=>true
 | .bl _=>true
 | .int _=>true
 | .str _=>true
 | _=>false
noncomputable def eqV:V->V->Bool
 | .non,.non=>true
 | .bl a,.bl b=>a==b
 | .bl a,.int b=>(if a then 1 else 0)==b
 | .int a,.bl b=>a==(if b then 1 else 0)
 | .int a,.int b=>a==b
 | .str a,.str b=>a==b
 | _,_=>false
theorem yD {A:Around}{s:Shared}{y x:V}{u v:Value}(ry:RelV y u)(rx:RelV x v)(fy:iH y=true)(fx:iH x=true):SeqAt.EqAt A s u v (eqV y x):=by
 cases y with
 | non=>
  cases ry
  cases x with
  | non=>cases rx;exact SeqAt.EqAt.same _
  | bl b=>cases rx;exact SeqAt.EqAt.none_bool b
  | int b=>obtain⟨t,rfl⟩:=rx;exact SeqAt.EqAt.none_int b t
  | str b=>obtain⟨t,rfl⟩:=rx;exact SeqAt.EqAt.none_str b t
  | _=>exact absurd (show false=true from fx) D0
 | bl a=>
  cases ry
  cases x with
  | non=>cases rx;exact SeqAt.EqAt.bool_none a
  | bl b=>cases rx;exact SeqAt.EqAt.bool_bool a b
  | int b=>obtain⟨t,rfl⟩:=rx;exact SeqAt.EqAt.bool_int a b t
  | str b=>obtain⟨t,rfl⟩:=rx;exact SeqAt.EqAt.bool_str a b t
  | _=>exact absurd (show false=true from fx) D0
 | int a=>
  obtain⟨t',rfl⟩:=ry
  cases x with
  | non=>cases rx;exact SeqAt.EqAt.int_none a t'
  | bl b=>cases rx;exact SeqAt.EqAt.int_bool a t' b
  | int b=>obtain⟨t,rfl⟩:=rx;exact SeqAt.EqAt.int_int a t' b t
  | str b=>obtain⟨t,rfl⟩:=rx;exact SeqAt.EqAt.int_str a t' b t
  | _=>exact absurd (show false=true from fx) D0
 | str a=>
  obtain⟨t',rfl⟩:=ry
  cases x with
  | non=>cases rx;exact SeqAt.EqAt.str_none a t'
  | bl b=>cases rx;exact SeqAt.EqAt.str_bool a t' b
  | int b=>obtain⟨t,rfl⟩:=rx;exact SeqAt.EqAt.str_int a t' b t
  | str b=>obtain⟨t,rfl⟩:=rx;exact SeqAt.EqAt.str_str a t' b t
  | _=>exact absurd (show false=true from fx) D0
 | _=>exact absurd (show false=true from fy) D0
noncomputable def eqU (x:V) (u:Value):Bool:=match u with
 | .none=>eqV .non x
 | .bool b=>eqV (.bl b) x
 | .int i _=>eqV (.int i) x
 | .str z _=>eqV (.str z) x
 | _=>false
theorem rG {x y:V}{u:Value}(r:RelV y u)(f:iH y=true):eqU x u=eqV y x:=by
 cases y with
 | non=>cases r;rfl
 | bl b=>cases r;rfl
 | int i=>obtain⟨t,rfl⟩:=r;rfl
 | str z=>obtain⟨t,rfl⟩:=r;rfl
 | _=>exact absurd (show false=true from f) D0
theorem gz {x:V}:∀{xs:List V} {us:List Value},Vals xs us->xs.all iH=true->us.any (eqU x)=xs.any λy=>eqV y x
 | _,_,.nil,_=>rfl
 | y::xs,u::us,.cons r t,f=>by
  rw[E6,DU]at f
  rw[Gb,Gb,rG r f.1,gz t f.2]
theorem fo {A:Around}{s:Shared}{x:V}{v:Value}(rx:RelV x v)(fx:iH x=true):∀{xs:List V} {us:List Value},Vals xs us->xs.all iH=true->∀u∈us,SeqAt.EqAt A s u v (eqU x u)
 | _,_,.nil,_=>λu hu=>by cases hu
 | y::xs,u::us,.cons r t,f=>λu' hu=>by
  rw[E6,DU]at f
  rcases ycM hu with rfl|hu
  ·rw[rG r f.1];exact yD r rx f.1 fx
  ·exact fo rx fx t f.2 u' hu
noncomputable def inV (x:V) (xs:List V):Bool:=xs.any λy=>eqV y x
def rIn (K:yF)(neg:Bool):R2:=λx y H Q=>∃p xs,y=.ref p/\(SqL K H p xs∨SqT K H p xs)/\iH x=true/\xs.all iH=true/\Q (.bl (if neg then !inV x xs else inV x xs)) H
theorem op_in_seq:OpR X (compareOp .In) (rIn X.K false):=by
 intro pins s Z H x y v u Q I rx ry h
 obtain⟨p,xs,rfl,hq,fx,fs,q⟩:=h
 cases ry
 rcases hq with hq|hq
 ·obtain⟨its,r,pl,hz⟩:=I.list hq
  refine SeqAt.in_listAt (eqU x) pl.isList (λw hw=>fo rx fx r fs w (by simpa using hw)) ⟨.bl _,H,I,rfl,?_⟩
  rw[show its.toArray.any (eqU x)=its.any (eqU x) by simp,gz r fs]
  exact q
 ·obtain⟨its,r,pl,hz⟩:=I.tuple hq
  refine SeqAt.in_tupleAt (eqU x) pl (λw hw=>fo rx fx r fs w (by simpa using hw)) ⟨.bl _,H,I,rfl,?_⟩
  rw[show its.toArray.any (eqU x)=its.any (eqU x) by simp,gz r fs]
  exact q
theorem op_notIn_seq:OpR X (compareOp .NotIn) (rIn X.K true):=by
 intro pins s Z H x y v u Q I rx ry h
 obtain⟨p,xs,rfl,hq,fx,fs,q⟩:=h
 cases ry
 rcases hq with hq|hq
 ·obtain⟨its,r,pl,hz⟩:=I.list hq
  refine SeqAt.notIn_listAt (eqU x) pl.isList (λw hw=>fo rx fx r fs w (by simpa using hw)) ⟨.bl _,H,I,rfl,?_⟩
  rw[show its.toArray.any (eqU x)=its.any (eqU x) by simp,gz r fs]
  exact q
 ·obtain⟨its,r,pl,hz⟩:=I.tuple hq
  refine SeqAt.notIn_tupleAt (eqU x) pl (λw hw=>fo rx fx r fs w (by simpa using hw)) ⟨.bl _,H,I,rfl,?_⟩
  rw[show its.toArray.any (eqU x)=its.any (eqU x) by simp,gz r fs]
  exact q
theorem op_notIn_str:OpR X (compareOp .NotIn) (λx y H Q=>∃i j,x=.str i/\y=.str j/\Q (.bl (!(!(Builtin.Str.occurrences j i 0 j.length 1).isEmpty))) H):=by
 intro pins s Z H x y v u Q I rx ry h
 obtain⟨i,j,rfl,rfl,q⟩:=h
 obtain⟨t,rfl⟩:=rx
 obtain⟨t',rfl⟩:=ry
 exact notIn_str ⟨.bl _,H,I,rfl,q⟩
theorem kQ:CallR X (.builtin "len") (λxs H Q=>∃p ys,xs=[.ref p]/\(SqL X.K H p ys∨SqT X.K H p ys)/\Q (.int ys.length) H):=by
 intro pins s Z H xs us Q I r h
 obtain⟨p,ys,rfl,hq,q⟩:=h
 obtain⟨u,rfl,rx⟩:=fF r
 cases rx
 have hn:=gm
 rcases hq with hq|hq
 ·obtain⟨its,r',pl,hz⟩:=I.list hq
  have hlen:=r'.length
  exact Calls.call_len_list pl.isList (by simp only[DT]<;>omega) ⟨.int ys.length,H,I.tok _,⟨s.toks+1,by rw[DT,hlen]⟩,q⟩
 ·obtain⟨its,r',pl,hz⟩:=I.tuple hq
  have hlen:=r'.length
  exact len_tuple pl (by simp only[DT]<;>omega) ⟨.int ys.length,H,I.tok _,⟨s.toks+1,by rw[DT,hlen]⟩,q⟩
theorem kR:CallR X (.builtin "len") (λxs H Q=>∃z,xs=[.str z]/\z.length<=sizeLine/\Q (.int z.length) H):=by
 intro pins s Z H xs us Q I r h
 obtain⟨z,rfl,hz,q⟩:=h
 obtain⟨u,rfl,t,rfl⟩:=fF r
 have hn:=gm
 exact len_str (by omega) ⟨.int z.length,H,I.tok _,⟨_,rfl⟩,q⟩
theorem CallR.or {f:Value}{r r':List V->Hp->VK->Prop}(h:CallR X f r)(h':CallR X f r'):CallR X f (λxs H Q=>r xs H Q∨r' xs H Q):=by
 intro pins s Z H xs us Q I rs q
 rcases q with q|q
 ·exact h pins s Z H xs us Q I rs q
 ·exact h' pins s Z H xs us Q I rs q
theorem kS:CallR X (.type "list") (λxs H Q=>∃p ys,xs=[.ref p]/\(SqL X.K H p ys∨SqT X.K H p ys)/\∀l,H l=none->Q (.ref l) (upd H l (.lst ys))):=by
 intro pins s Z H xs us Q I r h
 obtain⟨p,ys,rfl,hq,q⟩:=h
 obtain⟨u,rfl,rx⟩:=fF r
 cases rx
 have fin:∀(its:List Value),Vals ys its->ys.length<=sizeLine->∀(h':Heap) (c':Nat),(∀b o',s.heap.get? b=some o'->h'.get? b=some o') →
   h'.get? s.heap.objs.size=some {cls:=.type "list",dict:=none,data:=.seq its.toArray c',slots:=#[]}->EP X pins Z Q (.ref s.heap.objs.size) {s with heap:=h'}:=λits r' hz h' c' kp e=>
  ⟨.ref s.heap.objs.size,_,I.laid (t':=s.toks) kp (DY _) (show ObjOk X.prog X.w _ h' _ (.lst ys)from⟨hz,its,c',r',e⟩),rfl,q _ (I.hok.fresh (DY _))⟩
 rcases hq with hq|hq
 ·obtain⟨its,r',pl,hz⟩:=I.list hq
  have hlen:=r'.length
  obtain⟨o,ho,hc,n,hd⟩:=pl.isList
  exact call_list_seq p (.inl rfl) ho hc hd (λh' c' kp e=>fin its r' hz h' c' kp e) (by simp only[DT]<;>omega)
 ·obtain⟨its,r',pl,hz⟩:=I.tuple hq
  have hlen:=r'.length
  obtain⟨o,ho,hc,n,hd⟩:=pl
  exact call_list_seq p (.inr rfl) ho hc hd (λh' c' kp e=>fin its r' hz h' c' kp e) (by simp only[DT]<;>omega)
theorem jL:CallR X (.type "tuple") (λxs H Q=>∃p ys,xs=[.ref p]/\((SqL X.K H p ys/\∀l,H l=none->Q (.ref l) (upd H l (.tup ys)))∨(SqT X.K H p ys/\Q (.ref p) H))):=by
 intro pins s Z H xs us Q I r h
 obtain⟨p,ys,rfl,h⟩:=h
 obtain⟨u,rfl,rx⟩:=fF r
 cases rx
 rcases h with⟨hq,q⟩|⟨hq,q⟩
 ·obtain⟨its,r',pl,hz⟩:=I.list hq
  have hlen:=r'.length
  refine call_tuple_list pl.isList (λh' kp=>?_) (by simp only[DT]<;>omega)
  have I1:Inv X pins Z H {s with heap:=h'}:=I.kept (t':=s.toks) kp
  have I2:Inv X pins Z (upd H h'.objs.size (.tup ys)) {s with heap:=h'.push {cls:=.type "tuple",data:=.seq its.toArray}}:=
   I1.laid (t':=s.toks) (λb o e=>Heap.get?_push_of_some _ e) (DY _) (show ObjOk X.prog X.w _ _ _ (.tup ys)from⟨hz,its,r',IsTupN.new _ _⟩)
  exact⟨.ref h'.objs.size,_,I2,rfl,q _ (I1.hok.fresh (DY _))⟩
 ·obtain⟨its,r',pl,hz⟩:=I.tuple hq
  exact call_tuple_same pl ⟨.ref p,H,I,rfl,q⟩
def tyV (K:yF)(T:String)(x:V)(H:Hp):Prop:=match x with
 | .str _=>T = "str"
 | .int _=>T = "int"
 | .ref p=>(T = "list" ∧ ∃xs,SqL K H p xs)∨(T = "tuple" ∧ ∃o,K.lookup p=some o/\o.cls=.type "tuple" ∧ o.dict=none) ∨
   (T = "dict" ∧ ((∃kvs,H p=some (.dK kvs)) ∨ ∃kvs,H p=some (.dT kvs)))∨(T = "set" ∧ ∃S n,H p=some (.set S n))
 | _=>False
theorem uK {pins:List (Addr×Obj)}{Z:St}{H:Hp}{s:Shared}{T:String}{x:V}{v:Value}(I:Inv X pins Z H s)(r:RelV x v)(ty:tyV X.K T x H) :
  s.TypeIs v T/\∀a,v=.ref a->∃ob,s.heap.get? a=some ob/\ob.dict=none:=by
 cases x with
 | str z=>
  obtain⟨t,rfl⟩:=r
  cases (show T = "str" from ty)
  exact⟨typeIs_str s z t,λ_ e=>nomatch e⟩
 | int i=>
  obtain⟨t,rfl⟩:=r
  cases (show T = "int" from ty)
  exact⟨typeIs_int s i t,λ_ e=>nomatch e⟩
 | ref p=>
  cases r
  rcases ty with⟨rfl,xs,hq⟩|⟨rfl,o,hk,hc,hd⟩|⟨rfl,hk⟩|⟨rfl,S,n,hk⟩
  ·obtain⟨its,_,pl,_⟩:=I.list hq
   refine⟨pl.isList.typeIs,λa e=>?_⟩
   cases e
   obtain⟨o,n,e,c,hd,_⟩:=pl
   exact⟨o,e,hd⟩
  ·refine⟨⟨o,I.kIn p o hk,hc⟩,λa e=>?_⟩
   cases e
   exact⟨o,I.kIn _ o hk,hd⟩
  ·have z:∃o,s.heap.get? p=some o/\o.ExactDict:=by
    rcases hk with⟨kvs,hk⟩|⟨kvs,hk⟩
    ·obtain⟨_,_,_,_,o,_,_,e,ex,_⟩:=I.hok p _ hk
     exact⟨o,e,ex⟩
    ·obtain⟨_,_,_,_,o,_,_,e,ex,_⟩:=I.hok p _ hk
     exact⟨o,e,ex⟩
   obtain⟨o,e,ex⟩:=z
   refine⟨⟨o,e,ex.1⟩,λa e2=>?_⟩
   cases e2
   exact⟨o,e,ex.2.1⟩
  ·obtain⟨o,_,_,_,e,ex,_⟩:=I.hok p _ hk
   refine⟨⟨o,e,ex.1⟩,λa e2=>?_⟩
   cases e2
   exact⟨o,e,ex.2.1⟩
 | _=>exact False.elim ty
def AT (K:yF)(T:String)(r:V->List V->Hp->VK->Prop)(to:TE):TE:=λZ H Q=>to Z H λx H1=>tyV K T x H1/\r x [] H1 Q
def tBM (K:yF)(T:String)(r:V->List V->Hp->VK->Prop)(to:TE)(t:TA):TE:=λZ H Q=>to Z H λx H1=>tyV K T x H1/\t Z H1 λxs H2=>r x xs H2 Q
variable  {o e:Expr}{es:List Expr}{to:TE}{t:TA}{name:Str}{apos cpos:Pos}{T id:String}{r:V->List V->Hp->VK->Prop}
theorem zJ (pa:PlainAttrs T)(slot:Slot T name id)(hty:typeOf (.builtin id)=pure (.type "method_descriptor"))(hm:MtR X id r)(ho:PE X o to)
  (hbase:attributeBase o name X.env (eval o X.env)=eval o X.env:=by rfl) (hline:(apos.endLine==cpos.line)=true:=by rfl):PE X (.Call (.Attribute o name apos) [] [] cpos) (AT X.K T r to):=by
 intro pins s Z H Q I h
 refine wpAny_Call_method0_late hbase hline (thn (ho pins s Z H _ I h) λv s1 ⟨x,H1,I1,r1,ty,q1⟩=>?_)
 obtain⟨h1,h2⟩:=uK I1 r1 ty
 exact⟨T,id,pa,slot,hty,h1,h2,Calls.callWith_builtin rfl (PySem.evalArgs_none (hm pins s1 Z H1 x [] v [] Q I1 r1 .nil q1))⟩
theorem B8 (pa:PlainAttrs T)(slot:Slot T name id)(hty:typeOf (.builtin id)=pure (.type "method_descriptor"))(hm:MtR X id r)(ho:PE X o to)(ha:PA X (e::es) t)
  (hbase:attributeBase o name X.env (eval o X.env)=eval o X.env:=by rfl)
  (hfew:((backTo cpos (starEach (e::es) X.env)).all (λx=>!x.1)&&(backToKw cpos (keywordEach [] X.env)).all (λx=>x.1.isSome)
   && decide ((e::es).length+([]:List Keyword).length+(if([]:List Keyword).isEmpty then 0 else 1)<30))=true:=by rfl)
  (hline:(apos.endLine==cpos.line)=true:=by rfl) (hs:starEach (e::es) X.env=(false,eval e X.env)::starEach es X.env:=by rfl) (hplain:(backTo cpos (starEach es X.env)).any (·.1)=false:=by rfl) :
  PE X (.Call (.Attribute o name apos) (e::es) [] cpos) (tBM X.K T r to t):=by
 intro pins s Z H Q I h
 refine wpAny_Call_method_late hbase hfew hline rfl (thn (ho pins s Z H _ I h) λv s1 ⟨x,H1,I1,r1,ty,q1⟩=>?_)
 obtain⟨h1,h2⟩:=uK I1 r1 ty
 refine⟨T,id,pa,slot,hty,h1,h2,?_⟩
 have hA:=ha cpos pins s1 Z H1 _ I1 q1
 rw[hs]at hA⊢
 refine Calls.callWith_builtin (by show(false||(backTo cpos (starEach es X.env)).any (·.1))=false;rw[hplain]<;>rfl) (Calls.evalArgs_plain ?_)
 exact thn hA λus s2 ⟨vs,H2,I2,r2,q2⟩=>hm pins s2 Z H2 x vs v us Q I2 r1 r2 q2
end
def MtM (X:Cx)(id:String)(r:V->List V->Hp->VK->Prop):Prop:=
 ∀(pins:List (Addr×Obj)) (s:Shared) (Z:St) (H:Hp) (x:V) (xs:List V) (v:Value) (us:List Value) (Q:VK),Inv X pins Z H s->RelV x v->Vals xs us->r x xs H Q →
  wpAny (model X.prog X.w) X.A (call (.builtin id) (v::us)) (EP X pins Z Q) X.xe s
theorem Vals.one:∀{x:V} {us:List Value},Vals [x] us->∃u,us=[u]/\RelV x u
 | _,_,.cons r .nil=>⟨_,rfl,r⟩
theorem Vals.zero:∀{us:List Value},Vals [] us->us=[]
 | _,.nil=>rfl
theorem Vals.dropLast {xs:List V}{us:List Value}(h:Vals xs us):Vals xs.dropLast us.dropLast:=by
 induction h with
 | nil=>exact .nil
 | cons r t ih=>
  cases t with
  | nil=>exact .nil
  | cons q t'=>exact .cons r ih
theorem Vals.reverse {xs:List V}{us:List Value}(h:Vals xs us):Vals xs.reverse us.reverse:=by
 induction h with
 | nil=>exact .nil
 | cons r t ih=>rw[Fw,Fw];exact Vals.append ih (.cons r .nil)
theorem Vals.rep {xs:List V}{us:List Value}(h:Vals xs us):∀k:Nat,Vals (DV k xs).flatten (DV k us).flatten
 | 0=>.nil
 | k+1=>by
  rw[Ez,Ez,EX,EX]
  exact Vals.append h (Vals.rep h k)
theorem ni {α:Type}(l:List α):l.eraseIdx (l.length-1)=l.dropLast:=by
 induction l with
 | nil=>rfl
 | cons a r ih=>
  cases r with
  | nil=>rfl
  | cons b r=>
   have e:(a::b::r).length-1=((b::r).length-1)+1:=by
    have h1:(a::b::r).length=r.length+2:=rfl
    have h2:(b::r).length=r.length+1:=rfl
    omega
   rw[e,List.eraseIdx_cons_succ,ih]
   all_goals rfl
theorem dY (its:List Value):∀(k:Nat) (acc:List Value),
  Gp (λx1 x2=>x1++x2) acc.toArray (DV k its.toArray)=(acc++(DV k its).flatten).toArray
 | 0,acc=>by simp
 | k+1,acc=>by
  have e:acc.toArray++its.toArray=(acc++its).toArray:=by simp
  have e2:(acc++its)++(DV k its).flatten=acc++(DV (k+1) its).flatten:=by
   rw[Ez,EX,Ea]
  rw[←e2,←dY its k (acc++its),←e,Ez,FR]
section
variable  {X:Cx}{pins:List (Addr×Obj)}{Z:St}{H:Hp}{s:Shared}{l b:Addr}{xs ys zs:List V}
theorem Inv.lset {its its':List Value}{n:Nat}{f:Array Value->Array Value}{t':Nat}(I:Inv X pins Z H s)(hH:H l=some (.lst xs))
  (e:s.heap.get? l=some {cls:=.type "list",data:=.seq its.toArray n}) (hf:f its.toArray=its'.toArray) (hv:Vals ys its') (hz:ys.length<=sizeLine) :
  Inv X pins Z (upd H l (.lst ys)) {s with heap:=s.heap.update l (Obj.mapSeq f),toks:=t'}:=by
 have q:=PySem.IsL.update e f
 rw[hf]at q
 refine I.write (x:=l) (e:=l) (by rw[hH];exact trivial) (.inl rfl) (λb' u hb hu=>(Heap.get?_update_other s.heap (Obj.mapSeq f) (Ne.symm hb)).trans hu) ⟨_,q⟩ ?_
 exact⟨hz,its',_,hv,q⟩
theorem Inv.lnew {its:List Value}{t':Nat}(I:Inv X pins Z H s)(hv:Vals ys its)(hz:ys.length<=sizeLine) :
  Inv X pins Z (upd H s.heap.objs.size (.lst ys)) {s with heap:=s.heap.push {cls:=.type "list",data:=.seq its.toArray},toks:=t'}:=
 I.laid (λ_ _ q=>Heap.get?_push_of_some _ q) (DY _) ⟨hz,its,0,hv,Heap.get?_push_size _ rfl⟩
theorem Inv.fresh (I:Inv X pins Z H s):H s.heap.objs.size=none:=I.hok.fresh (DY _)
theorem Inv.lstM (I:Inv X pins Z H s)(hH:H l=some (.lst xs)):xs.length<=sizeLine/\∃(its:List Value) (n:Nat),Vals xs its/\xs.length=its.length/\s.heap.get? l=some {cls:=.type "list",data:=.seq its.toArray n}:=by
 obtain⟨z,its,n,r,e⟩:=I.hok l _ hH
 exact⟨z,its,n,r,r.length,e⟩
theorem dn {n:Nat}(h:n<=sizeLine):Builtin.List.listTooLong n=false:=by
 unfold Builtin.List.listTooLong
 exact decide_eq_false (by omega)
end
section
variable  {X:Cx}
def ln:V->List V->Hp->VK->Prop:=λx vs H Q=>∃l xs y,x=.ref l/\vs=[y]/\H l=some (.lst xs)/\xs.length<sizeLine/\Q .non (upd H l (.lst (xs++[y])))
theorem p8:MtM X "list.append" ln:=by
 intro pins s Z H x vs v us Q I rx rv h
 obtain⟨l,xs,y,rfl,rfl,hH,hz,q⟩:=h
 cases rx
 obtain⟨u,rfl,ru⟩:=rv.one
 obtain⟨z,its,n,r,hl,e⟩:=I.lstM hH
 refine call_meets F.slot_list_append ⟨_,e,rfl⟩ F.entry_list_append (F.args_list_append_2 _ _) (PySem.list_append l its.toArray n u (by rw[DT];omega)) ⟨e,?_⟩
 refine⟨.non,_,I.lset (its':=its++[u]) hH e (by simp) (r.append (.cons ru .nil)) ?_,rfl,q⟩
 rw[D8,List.length_singleton]
 omega
def wM:V->List V->Hp->VK->Prop:=λx vs H Q=>∃l b xs zs,x=.ref l/\vs=[.ref b]/\H l=some (.lst xs)/\H b=some (.lst zs)/\xs.length+zs.length<=sizeLine/\Q .non (upd H l (.lst (xs++zs)))
theorem mt_extend:MtM X "list.extend" wM:=by
 intro pins s Z H x vs v us Q I rx rv h
 obtain⟨l,b,xs,zs,rfl,rfl,hH,hB,hz,q⟩:=h
 cases rx
 obtain⟨u,rfl,ru⟩:=rv.one
 cases ru
 obtain⟨z,its,n,r,hl,e⟩:=I.lstM hH
 obtain⟨z2,its2,n2,r2,hl2,e2⟩:=I.lstM hB
 have hsz:its.toArray.size+its2.toArray.size<=sizeLine:=by rw[DT,DT];omega
 have hlong:¬ (!its.toArray.isEmpty&&Builtin.List.listTooLong (its.toArray.size+its2.toArray.size))=true:=by
  rw[dn hsz,GG]
  exact D0
 refine call_meets F.slot_list_extend ⟨_,e,rfl⟩ F.entry_list_extend (F.args_list_extend_2 _ _)
  (AutoSeq1.list_extend_list_list_0 l its.toArray n b its2.toArray n2 hlong (by rw[DT];omega) (by omega)) ⟨e,e2,?_⟩
 refine⟨.non,_,I.lset (its':=its++its2) hH e (by simp) (r.append r2) ?_,rfl,q⟩
 rw[D8]
 omega
def Az:V->List V->Hp->VK->Prop:=λx vs H Q=>∃l xs y,x=.ref l/\vs=[]/\H l=some (.lst xs)/\xs[xs.length-1]?=some y/\Q y (upd H l (.lst xs.dropLast))
theorem y9:MtM X "list.pop" Az:=by
 intro pins s Z H x vs v us Q I rx rv h
 obtain⟨l,xs,y,rfl,rfl,hH,hy,q⟩:=h
 cases rx
 have hus:=rv.zero
 subst hus
 obtain⟨z,its,n,r,hl,e⟩:=I.lstM hH
 obtain⟨u,hu,ru⟩:=r.get hy
 have hy':its.toArray[its.toArray.size-1]?=some u:=by
  show its.toArray[its.length-1]?=some u
  rw[←GA,←hl]
  exact hu
 refine call_meets F.slot_list_pop ⟨_,e,rfl⟩ F.entry_list_pop (F.args_list_pop_1 _) (MeetsSeq.list_pop_last l its.toArray n u hy' (by rw[DT];omega)) ⟨e,?_⟩
 refine⟨y,_,I.lset (its':=its.dropLast) hH e ?_ r.dropLast ?_,ru,q⟩
 ·show its.toArray.eraseIdxIfInBounds (its.toArray.size-1)=its.dropLast.toArray
  rw[DT,List.eraseIdxIfInBounds_toArray,ni]
 ·rw[List.length_dropLast]
  omega
def CB:R2:=λx y H Q=>∃l b xs zs,x=.ref l/\y=.ref b/\H l=some (.lst xs)/\H b=some (.lst zs)/\xs.length+zs.length<=sizeLine/\∀p,H p=none->Q (.ref p) (upd H p (.lst (xs++zs)))
theorem op_cat:OpR X (binaryOp .Add) CB:=by
 intro pins s Z H x y v u Q I rx ry h
 obtain⟨l,b,xs,zs,rfl,rfl,hH,hB,hz,q⟩:=h
 cases rx
 cases ry
 obtain⟨z,its,n,r,hl,e⟩:=I.lstM hH
 obtain⟨z2,its2,n2,r2,hl2,e2⟩:=I.lstM hB
 refine PySem.P.add_list e e2 ?_ (by rw[DT,DT];omega)
 have ea:its.toArray++its2.toArray=(its++its2).toArray:=by simp
 rw[ea]
 exact⟨.ref _,_,I.lnew (t':=s.toks) (r.append r2) (by rw[D8];omega),rfl,q _ I.fresh⟩
def CL:R2:=λx y H Q=>∃l k xs,x=.ref l/\y=.int k/\H l=some (.lst xs)/\-(2^63)<=k/\k<2^63/\xs.length*k.toNat<=sizeLine ∧
 ∀p,H p=none->Q (.ref p) (upd H p (.lst (DV k.toNat xs).flatten))
theorem gK {α:Type}(xs:List α)(k:Nat):(DV k xs).flatten.length=k*xs.length:=by
 induction k with
 | zero=>simp
 | succ k ih=>rw[Ez,EX,D8,ih,G4,Nat.add_comm]
theorem op_rep:OpR X (binaryOp .Mult) CL:=by
 intro pins s Z H x y v u Q I rx ry h
 obtain⟨l,k,xs,rfl,rfl,hH,h1,h2,hz,q⟩:=h
 cases rx
 obtain⟨t,rfl⟩:=ry
 obtain⟨z,its,n,r,hl,e⟩:=I.lstM hH
 have hlen:its.toArray.size*k.toNat<=sizeLine:=by rw[DT,←hl];exact hz
 have hcap:¬ its.toArray.size*k.toNat>(2^63-1) / 8:=by
  have:(sizeLine:Nat)<=(2^63-1) / 8:=by decide
  omega
 have hfit:¬ (!Builtin.List.listFitsIndex k)=true:=by
  rw[fitsIndex_both h1 h2]
  exact D0
 have hlong:¬ Builtin.List.listTooLong (its.toArray.size*k.toNat)=true:=by
  rw[dn hlen]
  exact D0
 have hnew:Gp (λx1 x2=>x1++x2) #[] (DV (if its.toArray.isEmpty=true then 0 else k.toNat) its.toArray)=(DV k.toNat its).flatten.toArray:=by
  have f0:∀m:Nat,Gp (λx1 x2=>x1++x2) #[] (DV m its.toArray)=(DV m its).flatten.toArray:=λm=>by
   have:=dY its m []
   rw[EK]at this
   exact this
  rw[f0]
  cases its with
  | nil=>simp
  | cons a r'=>rw[if_neg (by simp)]
 refine wpAny_binaryOp_repeat_ref (T:="list") (U:="int") (by decide) ⟨_,e,rfl⟩ (λs'=>typeIs_int s' k t) noFill_list_mul F.fills_int_mul F.slot_int_rmul repeat_list F.slot_int_index.lookup
  (call_meets F.slot_int_rmul (typeIs_int s k t) F.entry_int_rmul (F.args_int_rmul_2 _ _) (int___rmul___int_list k t l its.toArray n)
   ⟨e,rfl,⟨_,e,rfl⟩,call_meets F.slot_list_mul ⟨_,e,rfl⟩ F.entry_list_mul (F.args_list_mul_2 _ _) (AutoListH.list___mul___list_int_3 l its.toArray n k t hfit hcap hlong) ⟨e,?_⟩⟩)
 rw[hnew]
 exact⟨.ref _,_,I.lnew (t':=s.toks) (r.rep k.toNat) (by rw[gK,G5];exact hz),rfl,q _ I.fresh⟩
end
section
variable  {prog:Program}{w:World}{A:Around}{E:Value->Shared->Prop}{s:Shared}
theorem qO (its its2:List Value)(a c:Nat):its.toArray.extract 0 a++its2.toArray++its.toArray.extract c its.toArray.size=(its.take a++its2++its.drop c).toArray:=by
 apply Array.toList_inj.mp
 first
  | (simp
     exact Eg (by simp))
  | simp[Eg]
  | simp
theorem m9 {a c n:Nat}(hac:a<=c)(hc:c<=n):sliceBounds (some (a:Int)) (some (c:Int)) none n=((a:Int),(c:Int),1):=by
 simp only[sliceBounds,Gh]
 have h1:¬ ((a:Int)<0):=by omega
 have h2:¬ ((c:Int)<0):=by omega
 simp only[h1,h2,if_false,show(1:Int)>0 by decide,if_true]
 congr 1
 ·omega
 ·congr 1;omega
set_option maxRecDepth 100000 in
theorem jQ {l b sl:Addr}{items new:Array Value}{n n2:Nat}{vl vu:Value}{a c:Nat}{Q:Unit->Shared->Prop}
  (e:s.heap.get? l=some {cls:=.type "list",data:=.seq items n}) (e2:s.heap.get? b=some {cls:=.type "list",data:=.seq new n2}) (hne:l≠b)
  (hs:s.heap.IsSliceOf sl vl vu .none) (pl:IsPart vl (some (a:Int))) (pu:IsPart vu (some (c:Int))) (hac:a<=c) (hc:c<=items.size)
  (hsz:items.size+new.size<=sizeLine) (h:Q () {s with heap:=s.heap.update l (Obj.mapSeq λxs=>xs.extract 0 a++new++xs.extract c xs.size)}) :
  wpAny (model prog w) A (setItem (.ref l) (.ref sl) (.ref b)) Q E s:=by
 have hl:s.heap.IsList l items:=PySem.IsL.isList e
 have hb:s.heap.IsList b new:=PySem.IsL.isList e2
 obtain⟨os,hos,hcs,hds⟩:=id hs
 have hTs:s.TypeIs (.ref sl) "slice" :=⟨os,hos,hcs⟩
 have hstep:¬ ((rawPart none==rawInt 0)=true):=D0
 have hsame:Builtin.List.listSameRef (.ref l) (.ref b)=false:=by
  unfold Builtin.List.listSameRef
  exact beq_eq_false_iff_ne.mpr hne
 have hmax:(max (a:Int) (c:Int)).toNat=c:=by omega
 have hz':((λxs:Array Value=>xs.extract 0 a++new++xs.extract c xs.size) items).size<=sizeLine+1:=by
  simp only[G6,Array.size_extract]
  omega
 unfold setItem
 try with_reducible refine wpAny_holding ?_
 first|refine wpAny_bind (wpAny_pure ?_)|skip
 refine wpAny_bind (wpAny_sequenceKey hl.typeIs (by decide) ?_)
 refine wpAny_bind (wpAny_callSpecial?_slot (name:=Str.ofString "__setitem__") hl.typeIs slot_list_setitem
  (wpAny_call_entry slot_list_setitem hl.typeIs entry_list_setitem ?_ (args_list_setitem _ _ _)))
 show wpAny _ _ (Builtin.List.listSubscript? (.ref sl) >>= _) _ _ s
 refine wpAny_bind ?_
 unfold Builtin.List.listSubscript?
 refine wpAny_bind (wpAny_specialOf hTs slice_no_index ?_)
 simp only[Option.isNone_none,if_true]
 refine wpAny_pure ?_
 show wpAny _ _ (typeOf (.ref sl) >>= _) _ _ s
 refine wpAny_bind (wpAny_typeOf hTs ?_)
 first
  | rw[if_neg (by decide)]
  | refine PySem.W.KFB.if_not (by decide) ?_
 rw[listSliceParts_eq]
 refine wpAny_bind (wpAny_bind (wpAny_field hos hds (x:=.none) rfl (wpAny_bind (wpAny_listPart .none ?_))))
 rw[if_neg hstep]
 refine wpAny_bind (wpAny_field hos hds (x:=vl) rfl (wpAny_bind (wpAny_listPart pl ?_)))
 refine wpAny_bind (wpAny_field hos hds (x:=vu) rfl (wpAny_bind (wpAny_listPart pu (wpAny_pure ?_))))
 first
  | simp only[hsame,F5,if_false]
  | refine PySem.W.KFB.if_not hsame ?_
  | (dsimp only
     rw[if_neg (by rw[hsame];exact D0)])
 refine wpAny_bind (m:=Builtin.List.listAllItems (.ref b) "must assign iterable to extended slice") ?_
 unfold Builtin.List.listAllItems
 refine wpAny_bind (wpAny_typeOf hb.typeIs ?_)
 first
  | refine PySem.W.KFB.if_so (by decide) ?_
  | rw[if_pos (by decide)]
  | simp only[beq_self_eq_true,Hs,if_true]
 unfold Builtin.List.listItems
 refine wpAny_bind (wpAny_seqItems e2 rfl (wpAny_pure ?_))
 refine wpAny_bind (wpAny_bind (wpAny_seqItems e rfl (wpAny_pure ?_)))
 refine wpAny_bind (wpAny_of_eq ((sliceIndices_raw (some (a:Int)) (some (c:Int)) none items.size (by simp)).trans (congrArg (pure:Int×Int×Int->Sem (Int×Int×Int)) (m9 hac hc))) ?_)
 show wpAny _ _ (if((1:Int)==1)=true then _ else _) _ _ s
 rw[if_pos (by decide)]
 refine wpAny_bind (wpAny_rule ?_)
 first
  | simp only[dn hsz,F5,if_false]
  | refine PySem.W.KFB.if_not (dn hsz) ?_
 first|refine wpAny_bind (wpAny_pure ?_)|skip
 show wpAny _ _ (updateSeq l (λxs=>xs.extract 0 ((a:Int)).toNat++new++xs.extract (max (a:Int) (c:Int)).toNat xs.size) >>= _) _ _ s
 rw[hmax,Ee]
 refine wpAny_bind (wpAny_updateSeq (hz:=Ev (ER _ _) hsz) (_hz':=hz') e rfl ?_)
 refine wpAny_bind (wpAny_letGo ?_)
 first
  | exact wpAny_bind (wpAny_pure (wpAny_pure ⟨.none,rfl,wpAny_pure h⟩))
  | exact wpAny_pure ⟨.none,rfl,wpAny_pure h⟩
end
section
variable  {X:Cx}
theorem qN {pins:List (Addr×Obj)}{s:Shared}{Z:St}{H:Hp}{l b sl:Addr}{xs ys:List V}{a c:Int}{vl vu:Value}{Q:Unit->Shared->Prop}(I:Inv X pins Z H s)
  (hH:H l=some (.lst xs)) (hB:H b=some (.lst ys)) (hne:l≠b) (hs:s.heap.IsSliceOf sl vl vu .none) (ra:RelV (.int a) vl) (rc:RelV (.int c) vu) (h0:0<=a) (hac:a<=c) (hc:c<=xs.length)
  (hz:xs.length+ys.length<=sizeLine) (h:∀s',Inv X pins Z (upd H l (.lst (xs.take a.toNat++ys++xs.drop c.toNat))) s'->Q () s') :
  wpAny (model X.prog X.w) X.A (setItem (.ref l) (.ref sl) (.ref b)) Q X.xe s:=by
 obtain⟨ta,rfl⟩:=ra
 obtain⟨tc,rfl⟩:=rc
 obtain⟨z,its,n,r,hl,e⟩:=I.lstM hH
 obtain⟨z2,its2,n2,r2,hl2,e2⟩:=I.lstM hB
 obtain⟨a',rfl⟩:=Gi h0
 obtain⟨c',rfl⟩:=Gi (Int.le_trans h0 hac)
 simp only[Ee]at h
 refine jQ (a:=a') (c:=c') e e2 hne hs (.int _ _) (.int _ _) (by omega) (by rw[DT];omega) (by rw[DT,DT];omega) (h _ ?_)
 refine I.lset (its':=its.take a'++its2++its.drop c') (t':=s.toks) hH e ?_ (Vals.append (Vals.append (r.take _) r2) (r.drop _)) ?_
 ·exact qO its its2 a' c'
 ·rw[D8,D8,Ew,EM]
  omega
end
end L2
namespace Att
open PySem PySem.W PySem.Calls PyProof.Rows
theorem ints_of_wellAll {P:Params}{h:Heap}:∀(ns:List Int) (vs:List Value),WellAll P h vs (ns.map WData.int)->IntsAre vs ns:=by
 intro ns
 induction ns with
 | nil=>
  intro vs w
  rw[E7]at w
  cases w
  exact .nil
 | cons n ns ih=>
  intro vs w
  rw[DS]at w
  cases w with
  | cons a b=>
   cases a
   exact .cons _ _ (ih _ b)
theorem script_of {l:OpenLaw}{n:Nat}(hn:l.most=some n){P:Params}{h:Heap}{args:List WData}{vals:List Value}
  (hpre:l.row.toRowW.claim.pre args=true) (hwl:WellAll P h vals args) :
  ∃a vs ns,vals=[Value.ref a]/\args=[WData.list (ns.map WData.int)]/\h.get? a=some {cls:=.type "list",data:=.seq vs.toArray}/\IntsAre vs ns/\ns.length<=n:=by
 have hsh:WShape.hasAll [] args [.list .int]=true:=(pre_splitW hpre).1
 have hc:l.pre.holds [] {args:=args}=true:=(pre_splitW hpre).2
 obtain⟨d,r,rfl,h1,h2⟩:=hasAllW_cons hsh
 obtain rfl:=hasAllW_nil h2
 obtain⟨xs,rfl,h3⟩:=hasW_list h1
 obtain⟨ns,rfl⟩:=items_int h3
 have hlen:ns.length<=n:=by
  unfold OpenLaw.pre at hc
  have h4:(WTm.not (.lt (.lit (.int (n:Int))) (.len (.arg 0)))).holds [] {args:=[.list (ns.map .int)]}=true:=by
   have h4:=(holds_andW hc).1
   rw[hn]at h4
   exact h4
  have h5:=condW_of h4 (w_not (w_lt w_lit (w_len_list (w_arg rfl))))
  rw[DX]at h5
  refine Nat.le_of_not_lt λq=>?_
  have q':(n:Int)<((ns.length:Nat):Int):=by omega
  first
   | (rw[decide_eq_true q']at h5;exact absurd h5 (by decide))
   | (simp at h5;omega)
 cases hwl with
 | cons w1 w2=>
  cases w2
  cases w1 with
  | list ho hall=>exact⟨_,_,ns,rfl,rfl,ho,ints_of_wellAll ns _ hall,hlen⟩
theorem post_true (l:OpenLaw)(args:List WData):l.row.toRowW.claim.post args (.bool true) args=true:=
 postW_of (r:=l.row.toRowW) (X:=(true==true))
  (show WShape.has [] (.bool true) .bool=true by first|rfl|decide|simp[WShape.has,WShape.arms,WShape.armsAll])
  (show(WTm.eq .res (.lit (.bool true))).value [] {args:=args,res:=some (.bool true),after:=args}=some (.bool (true==true))from w_eq_bool (w_res rfl) w_lit) rfl
theorem attach_call {l:OpenLaw}{n:Nat}{q:Program}{loose:List Str}{XP:(Str->Option Value)->Heap->Prop}{YP:World->Heap->Prop}{d:DefRec}
  (hn:l.most=some n) (hdf:d.params.defaults=[])
  (call:∀(w:World) (s₀ s₁ : Shared) (mg mb:Str->Option Value) (fa:Addr) (o:Obj) (pm cd doc:Value) (a:Addr) (vs:List Value) (ns:List Int),
   Ground q loose [] XP w s₀ mg mb s₁.heap->YP w s₁.heap →
   s₁.heap.get? fa=some o->o.data=.func (docDef d.name d.params d.body d.scope pm cd doc)->s₁.heap.CodeRec cd d.name->mg d.name=some (.ref fa) →
   s₁.heap.get? a=some {cls:=.type "list",data:=.seq vs.toArray}->IntsAre vs ns->ns.length<=n->s₁.gens = #[] →
   codeAny (model l.prog w) callerA (.call (.ref fa) ⟨[.ref a],[]⟩) (λr s'=>r=.ok (.ret (.bool true))/\OldK s₁.heap s'.heap/\s'.os=s₁.os/\AllBare s'.gens) s₁) :
  WalkO q loose XP YP l.row.toRowW d [] (λf vs=>PySem.call f vs):=by
 intro w s₀ s₁ mg mb G Y fa o pm cd doc dV kV ho hd hcd hD hmg hg args vals as hpre hlay hrd hwl hlo
 obtain rfl:dV=.none:=Dflts.none hD hdf
 obtain rfl:kV=.none:=Dflts.noKw hD
 obtain⟨a,vs,ns,rfl,rfl,hobj,hints,hlen⟩:=script_of hn hpre hwl
 refine enter_call (codeAny_mono (call w s₀ s₁ mg mb fa o pm cd doc a vs ns G Y ho (fd_plain hd) hcd hmg hobj hints hlen hg) λr s' hq=>?_)
 obtain⟨rfl,h2,h3,h4⟩:=hq
 exact⟨.inl ⟨.bool true,.bool true,[],rfl,λ_=>rfl,.bool true,post_true l _,λ_=>⟨List.Pairwise.nil,λ_ hm=>(nomatch hm)⟩⟩,h2,h3,h4⟩
section
variable  {prog:Program}{w:World}{A:Around}{E:Value->Shared->Prop}{s:Shared}{K:Frag}
end
end Att
namespace L2
open PySem PySem.Spec PyProof.Rows
theorem kJ:∀{vs:List Value} {ns:List Int},IntsAre vs ns->Vals (ns.map V.int) vs
 | _,_,.nil=>.nil
 | _,_,.cons n t h=>.cons ⟨t,rfl⟩ (kJ h)
def Bp (H:Hp):Prop:=∀b,H b=none ∨ ∃o xs,H b=some (.frz o (.lst xs))
theorem rZ {P:Program}{w:World}{K:yF}{mg mb:Str->Option Value}{CX:CXT}{k:Nat}{fa a:Addr}{fd:FuncData}{x:Str}{sp:Sp}{s₁ : Shared}{vs:List Value}{ns:List Int}
  (KX:K.In s₁.heap) (hns:s₁.heap.Ns mainGlobals mg) (hb:s₁.heap.Ns builtinsNs mb) (hbb:∀x:Str,x ≠ "__name__" → mb x=bootBuiltins x) (hlim:s₁.heap.NoLimit) (hg:s₁.gens = #[])
  (ha:s₁.heap.get? a=some {cls:=.type "list",data:=.seq vs.toArray}) (hi:IntsAre vs ns) (hl:ns.length<=sizeLine) (hr:Room k callerA)
  (F:∀base:Heap,K.In base->base.Ns mainGlobals mg->FnOk P w K mg base CX k fa fd [x] sp) (hbind:∀(s:Shared) (u:Value),BindsTo s fd ⟨[u],[]⟩ [(x,u)])
  (hsp:∀H:Hp,Bp H->SqL K H a (ns.map V.int)->sp [.ref a] H (λv _=>v=.bl true) λ_ _ _=>False)
  (hCX:∀H e s',CX [] H s₁ (λ_ _ _=>False) e s'->False) :
  codeAny (model P w) callerA (.call (.ref fa) ⟨[.ref a],[]⟩) (λr s'=>r=.ok (.ret (.bool true))/\OldK s₁.heap s'.heap/\s'.os=s₁.os/\AllBare s'.gens) s₁:=by
 have rv:=kJ hi
 have lenV:=hi.length
 have core:∀H:Hp,Bp H->SqL K H a (ns.map V.int)->HOk P w H s₁.heap->(∀b,H b≠none->b=a)->(H a≠none->K.lookup a=none) →
   codeAny (model P w) callerA (.call (.ref fa) ⟨[.ref a],[]⟩) (λr s'=>r=.ok (.ret (.bool true))/\OldK s₁.heap s'.heap/\s'.os=s₁.os/\AllBare s'.gens) s₁:=by
  intro H hO hS hok hA hK
  have base_of:∀{b:Addr} {o:Obj},s₁.heap.get? b=some o->H b=none->(k8 s₁.heap H).get? b=some o:=λe n=>rO e n
  have noA:∀{b:Addr} {o:Obj} {es:Array DictEntry} {ep:Nat},s₁.heap.get? b=some o->o.data=.dict es ep->H b=none:=λ{b o es ep} e d=>by
   cases q:H b with
   | none=>rfl
   | some u=>
    have e':b=a:=hA b (by rw[q];simp)
    subst e'
    rw[ha]at e;cases e
    have d':Data.seq vs.toArray _=Data.dict es ep:=d
    cases d'
  have nsK:∀{b:Addr} {m:Str->Option Value},s₁.heap.Ns b m->(k8 s₁.heap H).Ns b m:=λ{b m} ⟨o,es,ep,e,d,r⟩=>⟨o,es,ep,base_of e (noA e d),d,r⟩
  have hKb:K.In (k8 s₁.heap H):=λb o e=>base_of (KX b o e) (by
   cases q:H b with
   | none=>rfl
   | some u=>
    have e':b=a:=hA b (by rw[q];simp)
    subst e'
    rw[hK (by rw[q];simp)]at e;cases e)
  have hM:Mod K mg (k8 s₁.heap H):=⟨hKb,nsK hns,⟨mb,nsK hb,hbb⟩,let ⟨mc,h1,h2⟩:=hlim;⟨mc,nsK h1,h2⟩⟩
  have e0:Env0 P w K mg (k8 s₁.heap H) callerA [] s₁ H:=⟨rfl,hM,λb o e=>vM e,Nat.le_of_eq (pP _ _),trivial,λb hb=>absurd (show b∈([]:List Addr)from hb) (by simp),hok,.of_eq hg⟩
  refine codeAny_mono ((F _ hKb (nsK hns)).run callerA [] s₁ H ⟨[.ref a],[]⟩ [.ref a] [.ref a] _ _ hr e0 (hbind s₁ (.ref a)) (.cons rfl .nil) (hsp H hO hS)) λr s' h=>?_
  cases r with
  | error e=>exact(hCX H e s' h).elim
  | ok fl=>
   cases fl with
   | next=>exact False.elim h
   | brk=>exact False.elim h
   | cont=>exact False.elim h
   | ret u=>
    obtain⟨v,H',os,bare,un,hok',r',q⟩:=h
    have q':v=.bl true:=q
    subst q'
    obtain rfl:u=Value.bool true:=r'
    refine⟨rfl,OldK.of_keep λb o e=>?_,os,bare⟩
    cases q:H b with
    | none=>exact un.keep b o e q (by intro z;exact absurd (show b∈([]:List Addr)from z) (by simp)) (by simp)
    | some u=>
     rcases hO b with z|⟨ob,xs,z⟩
     ·rw[q]at z;cases z
     ·have z2:=un.frzs b ob _ z
      obtain⟨e1,_⟩:=hok b _ z
      obtain⟨e2,_⟩:=hok' b _ z2
      rw[e]at e1;cases e1
      exact e2
 cases hk:K.lookup a with
 | some o=>
  have e:=KX a o hk
  rw[ha]at e
  cases e
  refine core (λ_=>none) (λ_=>.inl rfl) (.inr ⟨_,vs.toArray,_,hk,rfl,rfl,rfl,by rw[DT,lenV];exact hl,by simpa using rv⟩) (λb u z=>by have z':(none:Option HO)=some u:=z;cases z') (λb z=>absurd rfl z) λz=>absurd rfl z
 | none=>
  refine core (λb=>if b=a then some (.frz {cls:=.type "list",data:=.seq vs.toArray} (.lst (ns.map V.int)))else none) (λb=>?_) (.inl (.inr ⟨{cls:=.type "list",data:=.seq vs.toArray},if_pos rfl⟩)) (λb u z=>?_) (λb z=>?_) λ_=>hk
  ·by_cases hb:b=a
   ·exact .inr ⟨_,_,if_pos hb⟩
   ·exact .inl (if_neg hb)
  ·by_cases hb:b=a
   ·have z':=(if_pos hb).symm.trans z
    cases z'
    subst hb
    exact⟨ha,by rw[DX];exact hl,vs,_,rv,ha⟩
   ·have z':=(if_neg hb).symm.trans z
    cases z'
  ·by_cases hb:b=a
   ·exact hb
   ·exact absurd (if_neg hb) z
noncomputable def cP (s:Stmt):Arguments:=match s with
 | .FunctionDef _ a _ _ _ _ _ _ _ _=>a
 | _=>{posonlyargs:=[],args:=[],vararg:=none,kwonlyargs:=[],kw_defaults:=[],kwarg:=none,defaults:=[]}
noncomputable def bj (s:Stmt):List Stmt:=match s with
 | .FunctionDef _ _ b _ _ _ _ _ _ _=>b
 | _=>[]
noncomputable def ai (s:Stmt):Scope:=match s with
 | .FunctionDef _ _ _ _ _ _ sc _ _ _=>sc
 | _=>{kind:=.function,names:=[],isGenerator:=false,isCoroutine:=false}
abbrev CX0:CXT:=λ_ _ _ _ _ _=>False
abbrev E0:XK:=λ_ _ _=>False
theorem B6 {X:Cx}:mZ CX0 X E0:=λ_ _ _ _ _ _ _ h=>h.elim
structure Fun (K:yF)(x qual:Str)(st:Stmt)(f:Addr)(fd:FuncData):Prop where
 ex:∃(oc:Value) (od:Option Addr) (kV doc pm:Value) (an:Option Addr) (cdv ct:Value) (osl:Array (Option Value)),
  fd=E5 x qual (cP st) (bj st) (ai st) .none kV doc pm an cdv ct/\K.lookup f=some ⟨oc,od,.func fd,osl⟩/\Fx K cdv qual=true
 kp:Fh K (.ref f)=true
section
variable  {P:Program}{w:World}{K:yF}{mg:Str->Option Value}{base:Heap}
theorem Fun.ok {x qual:Str}{st:Stmt}{f:Addr}{fd:FuncData}{N ps:List Str}{k:Nat}{sp:Sp}(F:Fun K x qual st f fd)(S:FnScope N ps (ai st))(len:∀vs H Q E,sp vs H Q E->vs.length=ps.length)
  (hbody:∀(cdv:Value) (A:Around) (outer:List Env) (s:Shared) (H:Hp) (vs:List V) (Q:VK) (E:XK),Room k (A.deeper (envOfC qual (ai st) s.heap.objs.size f cdv))->sp vs H Q E →
   ∃t,PSs (jM CX0 P w K mg base N qual (ai st) f cdv A outer s H E).nox (bj st) t/\t {nx:=λ_ H'=>Q .non H',rt:=Q} (bB N vs) H):FnOk P w K mg base CX0 (k+1) f fd ps sp:=by
 obtain⟨oc,od,kV,doc,pm,an,cdv,ct,osl,rfl,lk,hcd⟩:=F.ex
 refine By lk hcd S len λA outer s H vs Q E hr hsp=>?_
 obtain⟨t,h,q⟩:=hbody cdv A outer s H vs Q E hr hsp
 exact⟨t,h.nox,q⟩
theorem yK {x qual:Str}{st:Stmt}{f:Addr}{oc:Value}{od an:Option Addr}{osl:Array (Option Value)}{kV doc pm cdv ct:Value}(l:K.lookup f=some ⟨oc,od,.func (E5 x qual (cP st) (bj st) (ai st) .none kV doc pm an cdv ct),osl⟩)
  (c:Fx K cdv qual=true) (k:Fh K (.ref f)=true):Fun K x qual st f (E5 x qual (cP st) (bj st) (ai st) .none kV doc pm an cdv ct):=⟨⟨oc,od,kV,doc,pm,an,cdv,ct,osl,rfl,l,c⟩,k⟩
end
theorem xO {A:Around}{k:Nat}(hr:Room k A):A.units+1<cLine:=E3 (GM (by decide:1<=64) _) hr.units
section
variable  {X:Cx}
end
theorem rT {A B:Prop}(h:B):if false=true then A else B:=by
 rw[if_neg D0]
 exact h
theorem rV {A B:Prop}(h:A):if true=true then A else B:=by
 rw[if_pos rfl]
 exact h
def Same (H H':Hp):Prop:=∀b o,H b=some o->H' b=some o
theorem Same.refl (H:Hp):Same H H:=λ_ _ h=>h
theorem Same.seq {K:yF}{H H':Hp}{a:Addr}{xs:List V}(e:Same H H')(h:SqL K H a xs):SqL K H' a xs:=by
 rcases h with(h|⟨o,h⟩)|h
 ·exact .inl (.inl (e _ _ h))
 ·exact .inl (.inr ⟨o,e _ _ h⟩)
 ·exact .inr h
noncomputable def br (env:Env):List (Str×NameKind)->List (Str×Addr)->List (Str×Addr)
 | [],acc=>acc
 | (n,k)::r,acc=>if k == .free then br env r ((n,(env.cells.lookup n).getD 0)::acc)else br env r acc
theorem hU {env:Env}:∀(names:List (Str×NameKind)) (acc:List (Str×Addr)),(∀x∈names,x.2=.free->∃c,env.cells.lookup x.1=some c) →
  (forIn names acc λ(x:Str×NameKind) (cs:List (Str×Addr))=>if x.2 == .free then(do let c ←cellOf env x.1;pure (ForInStep.yield ((x.1,c)::cs)):Sem _)else pure (ForInStep.yield cs))=(pure (br env names acc):Sem _)
 | [],acc,_=>rfl
 | (n,k)::r,acc,h=>by
  have hr:∀x∈r,x.2=.free->∃c,env.cells.lookup x.1=some c:=λx hx=>h x (ymC _ hx)
  rw[FF]
  unfold br
  by_cases hk:(k==NameKind.free)=true
  ·obtain⟨c,hc⟩:=h (n,k) ymS (by simpa using hk)
   have hc':env.cells.lookup n=some c:=hc
   have e:cellOf env n=pure c:=by unfold cellOf;rw[hc']
   simp only[hk,if_true,e,hc',Option.getD_some,pure_bind]
   exact hU r _ hr
  ·have hk':(k==NameKind.free)=false:=by simpa using hk
   simp only[hk',F5,if_false,pure_bind]
   exact hU r _ hr
theorem dI {env:Env}{scope:Scope}(h:∀x∈scope.names,x.2=.free->∃c,env.cells.lookup x.1=some c):closureFor scope env=pure (br env scope.names []):=by
 have:=hU (env:=env) scope.names [] h
 simp only[closureFor]
 rw[this,pure_bind]
theorem hJ {env:Env}{x:Str}{c:Addr}:∀(names:List (Str×NameKind)) (acc:List (Str×Addr)),(∀y∈names,y.2=.free->∃c,env.cells.lookup y.1=some c)->(acc.lookup x=some c->env.cells.lookup x=some c) →
  (br env names acc).lookup x=some c->env.cells.lookup x=some c
 | [],acc,_,h0,h=>h0 h
 | (n,k)::r,acc,hn,h0,h=>by
  have hr:∀y∈r,y.2=.free->∃c,env.cells.lookup y.1=some c:=λy hy=>hn y (ymC _ hy)
  unfold br at h
  by_cases hk:(k==NameKind.free)=true
  ·rw[if_pos hk]at h
   refine hJ r _ hr (λe=>?_) h
   obtain⟨c',hc'⟩:=hn (n,k) ymS (by simpa using hk)
   have hc'':env.cells.lookup n=some c':=hc'
   rw[EA]at e
   by_cases hx:(x==n)=true
   ·rw[hx]at e
    have hxn:x=n:=by simpa using hx
    subst hxn
    rw[hc'']at e⊢
    exact e
   ·have hx':(x==n)=false:=by simpa using hx
    rw[hx']at e
    exact h0 e
  ·rw[if_neg hk]at h
   exact hJ r acc hr h0 h
theorem hC {env:Env}{x:Str}:∀(names:List (Str×NameKind)) (acc:List (Str×Addr)),(acc.lookup x).isSome=true->((br env names acc).lookup x).isSome=true
 | [],_,h=>h
 | (n,k)::r,acc,h=>by
  unfold br
  by_cases hk:(k==NameKind.free)=true
  ·rw[if_pos hk]
   refine hC r _ ?_
   rw[EA]
   cases hx:(x==n)with
   | true=>rfl
   | false=>exact h
  ·rw[if_neg hk]
   exact hC r acc h
theorem eD {env:Env}{x:Str}:∀(names:List (Str×NameKind)) (acc:List (Str×Addr)),(x,NameKind.free)∈names->((br env names acc).lookup x).isSome=true
 | [],_,h=>by cases h
 | (n,k)::r,acc,h=>by
  unfold br
  rcases ycM h with e|h
  ·cases e
   rw[if_pos (by rfl)]
   refine hC r _ ?_
   rw[EA,beq_self_eq_true]
   rfl
  ·by_cases hk:(k==NameKind.free)=true
   ·rw[if_pos hk]
    exact eD r _ h
   ·rw[if_neg hk]
    exact eD r _ h
theorem i4 {x:Str}{c:Addr}:∀(names:List (Str×NameKind)) (n:Nat) (acc:List (Str×Addr)),(cellsFrom n names acc).lookup x=some c->(n<=c/\(x,NameKind.cell)∈names)∨acc.lookup x=some c
 | [],_,_,h=>.inr h
 | (y,k)::r,n,acc,h=>by
  unfold cellsFrom at h
  by_cases hk:(k==NameKind.cell)=true
  ·rw[if_pos hk]at h
   rcases i4 r (n+1) _ h with⟨h1,h2⟩|h1
   ·exact .inl ⟨by omega,ymC _ h2⟩
   ·rw[EA]at h1
    by_cases hx:(x==y)=true
    ·rw[hx]at h1
     have hxy:x=y:=by simpa using hx
     have hkc:k=.cell:=by simpa using hk
     subst hxy hkc
     cases h1
     exact .inl ⟨DY _,ymS⟩
    ·have hx':(x==y)=false:=by simpa using hx
     rw[hx']at h1
     exact .inr h1
  ·rw[if_neg hk]at h
   rcases i4 r n _ h with⟨h1,h2⟩|h1
   ·exact .inl ⟨h1,ymC _ h2⟩
   ·exact .inr h1
theorem ng:∀(names:List (Str×NameKind)) (n:Nat) (acc:List (Str×Addr)),(∀x c,acc.lookup x=some c->c<n)->(∀x y c,acc.lookup x=some c->acc.lookup y=some c->x=y) →
  ∀x y c,(cellsFrom n names acc).lookup x=some c->(cellsFrom n names acc).lookup y=some c->x=y
 | [],_,_,_,hi,x,y,c,h1,h2=>hi x y c h1 h2
 | (z,k)::r,n,acc,hb,hi,x,y,c,h1,h2=>by
  unfold cellsFrom at h1 h2
  by_cases hk:(k==NameKind.cell)=true
  ·rw[if_pos hk]at h1 h2
   refine ng r (n+1) ((z,n)::acc) (λa b e=>?_) (λa b d e1 e2=>?_) x y c h1 h2
   ·rw[EA]at e
    cases q:(a==z)with
    | true=>rw[q]at e;cases e;exact Gj _
    | false=>rw[q]at e;exact Ga (hb a b e)
   ·rw[EA]at e1 e2
    cases q1:(a==z)with
    | true=>
     cases q2:(b==z)with
     | true=>rw[beq_iff_eq.mp q1,beq_iff_eq.mp q2]
     | false=>rw[q1]at e1;rw[q2]at e2;cases e1;exact absurd (hb b n e2) (EV _)
    | false=>
     cases q2:(b==z)with
     | true=>rw[q1]at e1;rw[q2]at e2;cases e2;exact absurd (hb a n e1) (EV _)
     | false=>rw[q1]at e1;rw[q2]at e2;exact hi a b d e1 e2
  ·rw[if_neg hk]at h1 h2
   exact ng r n acc hb hi x y c h1 h2
theorem i5 {x:Str}:∀(names:List (Str×NameKind)) (n:Nat) (acc:List (Str×Addr)),(x,NameKind.cell)∉names->(cellsFrom n names acc).lookup x=acc.lookup x
 | [],_,_,_=>rfl
 | (y,k)::r,n,acc,h=>by
  unfold cellsFrom
  by_cases hk:(k==NameKind.cell)=true
  ·rw[if_pos hk,i5 r _ _ (λz=>h (ymC _ z)),EA]
   have hkc:k=.cell:=by simpa using hk
   have hx:(x==y)=false:=by
    cases q:(x==y)with
    | false=>rfl
    | true=>exact absurd (by rw[beq_iff_eq.mp q,hkc];exact ymS) h
   rw[hx]
  ·rw[if_neg hk]
   exact i5 r _ _ λz=>h (ymC _ z)
theorem kT {x:Str}{c:Addr}:∀(names:List (Str×NameKind)) (n:Nat) (acc:List (Str×Addr)),((x,NameKind.cell)∈names ∨ ∀c',acc.lookup x=some c'->n<=c')->(cellsFrom n names acc).lookup x=some c->∀lo,lo<=n->(∀c',acc.lookup x=some c'->lo<=c')∨(x,NameKind.cell)∈names->lo<=c
 | [],n,acc,_,h,lo,hl,h2=>by
  rcases h2 with h2|h2
  ·exact h2 c h
  ·cases h2
 | (y,k)::r,n,acc,_,h,lo,hl,h2=>by
  unfold cellsFrom at h
  by_cases hk:(k==NameKind.cell)=true
  ·rw[if_pos hk]at h
   have key:(∀c',((y,n)::acc).lookup x=some c'->lo<=c')∨(x,NameKind.cell)∈r:=by
    by_cases hx:(x==y)=true
    ·refine .inl λc' e=>?_
     rw[EA,hx]at e
     cases e
     exact hl
    ·have hx':(x==y)=false:=by simpa using hx
     rcases h2 with h2|h2
     ·refine .inl λc' e=>?_
      rw[EA,hx']at e
      exact h2 c' e
     ·rcases ycM h2 with e|h2
      ·cases e
       simp at hx
      ·exact .inr h2
   have key2:(x,NameKind.cell)∈r ∨ ∀c',((y,n)::acc).lookup x=some c'->n+1<=c'∨True:=.inr λ_ _=>.inr trivial
   rcases key with key|key
   ·by_cases hm:(x,NameKind.cell)∈r
    ·exact kT r (n+1) _ (.inl hm) h lo (by omega) (.inr hm)
    ·rw[i5 r _ _ hm]at h
     exact key c h
   ·exact kT r (n+1) _ (.inl key) h lo (by omega) (.inr key)
  ·rw[if_neg hk]at h
   have key:(∀c',acc.lookup x=some c'->lo<=c')∨(x,NameKind.cell)∈r:=by
    rcases h2 with h2|h2
    ·exact .inl h2
    ·rcases ycM h2 with e|h2
     ·cases e
      exact absurd rfl hk
     ·exact .inr h2
   by_cases hm:(x,NameKind.cell)∈r
   ·exact kT r n _ (.inl hm) h lo hl (.inr hm)
   ·rcases key with key|key
    ·rw[i5 r _ _ hm]at h
     exact key c h
    ·exact absurd key hm
theorem dJ {x:Str}{c:Addr}:∀(names:List (Str×NameKind)) (h:Heap) (acc:List (Str×Addr)),(cellsFrom h.objs.size names acc).lookup x=some c->(pushCells h names).IsCell c none∨acc.lookup x=some c
 | [],_,_,e=>.inr e
 | (y,k)::r,h,acc,e=>by
  unfold cellsFrom at e
  unfold pushCells
  by_cases hk:(k==NameKind.cell)=true
  ·rw[if_pos hk]at e⊢
   have e':(cellsFrom (h.push {cls:=.type "cell",data:=.cell none}).objs.size r ((y,h.objs.size)::acc)).lookup x=some c:=by rw[Heap.size_push];exact e
   rcases dJ r (h.push {cls:=.type "cell",data:=.cell none}) ((y,h.objs.size)::acc) e' with q|q
   ·exact .inl q
   ·rw[EA]at q
    cases hx:(x==y)with
    | true=>
     rw[hx]at q
     cases q
     exact .inl ⟨_,pushCells_keeps r _ _ _ (Heap.get?_push_size _ rfl),rfl⟩
    | false=>rw[hx]at q;exact .inr q
  ·rw[if_neg hk]at e⊢
   exact dJ r h acc e
theorem fG {M:Model}{A:Around}{E:Value->Shared->Prop}{s:Shared}{scope:Scope}{globals:Addr}{cl:List (Str×Addr)}{qual:Str}{env:Env}{Q:Env->Shared->Prop}
  (hQ:∀h',h'.Ns s.heap.objs.size (λ_=>none)->(∀b o,s.heap.get? b=some o->h'.get? b=some o)->(∀x c,(cellsFrom (s.heap.objs.size+1) scope.names cl).lookup x=some c->h'.IsCell c none∨cl.lookup x=some c) →
   Q (newEnv scope s.heap.objs.size globals (cellsFrom (s.heap.objs.size+1) scope.names cl) qual none .none (some env) builtinsNs) {s with heap:=h'}) :
  wpAny M A (newFunctionEnv scope globals cl [] qual none .none (some env)) Q E s:=by
 simp only[newFunctionEnv,Option.isSome_some,if_true]
 refine wpAny_bind (wpAny_alloc ?_)
 refine wpAny_bind (wpAny_layCells _ (λname kind cells=>by cases hkc:kind==NameKind.cell<;>simp[hkc]) _ _ _ _ ?_)
 rw[show({s with heap:=s.heap.push {cls:=.type "dict",data:=.dict #[]}}:Shared).heap.objs.size=s.heap.objs.size+1 from Heap.size_push ..]
 rw[Hj]
 refine wpAny_bind (wpAny_pure (wpAny_pure (hQ _ ?_ ?_ ?_)))
 ·exact(Heap.Ns.new s.heap (.type "dict")).keeps (pushCells_keeps _ _)
 ·exact λb o e=>pushCells_keeps _ _ b o (Heap.get?_push_of_some _ e)
 ·intro x c e
  have e':(cellsFrom (s.heap.push {cls:=.type "dict",data:=.dict #[]}).objs.size scope.names cl).lookup x=some c:=by rw[Heap.size_push];exact e
  exact dJ _ _ _ e'
noncomputable def rlK (env:Env) (n:Str) (k:NameKind):NameKind:=if(k == .free&&env.scope.kind == .function&&env.kindOf n==some .cell)then .cell else k
theorem j9 {env:Env}{x:Str}:∀(names:List (Str×NameKind)),
  (names.map λ(n,k)=>if(k==NameKind.free&&env.scope.kind == .function&&env.kindOf n==some .cell)then(n,NameKind.cell)else(n,k)).lookup x=(names.lookup x).map (rlK env x)
 | []=>rfl
 | (n,k)::r=>by
  have ih:=j9 (env:=env) (x:=x) r
  rw[DS,EA]
  have e1:(if(k==NameKind.free&&env.scope.kind == .function&&env.kindOf n==some .cell)then(n,NameKind.cell)else(n,k))=(n,rlK env n k):=by
   unfold rlK;split<;>rfl
  show FO x ((if(k==NameKind.free&&env.scope.kind == .function&&env.kindOf n==some .cell)then(n,NameKind.cell)else(n,k))::_)=_
  rw[e1,EA,EA]
  cases hx:(x==n)with
  | true=>
   have e2:=beq_iff_eq.mp hx
   subst e2
   rfl
  | false=>exact ih
theorem fm {scope:Scope}{env:Env}{x:Str}:(relabel scope env).names.lookup x=(scope.names.lookup x).map (rlK env x):=j9 scope.names
structure Blk (osc sc:Scope)(N N':List Str)(fr:List (Option Nat)):Prop where
 kind:sc.kind=.function
 nd:N'.Nodup
 len:fr.length=N'.length
 free:∀(i j:Nat) (x:Str),fr[i]?=some (some j)->N'[i]?=some x->N[j]?=some x/\sc.names.lookup x=some .free
 out:∀x∈sc.names,x.2=.free->(osc.names.lookup x.1=some .cell∨osc.names.lookup x.1=some .free)/\(x.1,NameKind.cell)∉sc.names
 locl:∀x∈sc.names,x.2=.local->sc.names.lookup x.1=some .local
noncomputable def Bt (osc sc:Scope) (N N':List Str) (fr:List (Option Nat)):Bool:=
 (sc.kind == .function)&&decide N'.Nodup&&(fr.length==N'.length) &&
 (fr.zip N').all (λp=>match p.1 with|none=>true|some j=>N[j]? == some p.2&&sc.names.lookup p.2==some .free) &&
 sc.names.all (λp=>(p.2 != .free||((osc.names.lookup p.1==some .cell||osc.names.lookup p.1==some .free) && !sc.names.contains (p.1,.cell)))&&(p.2 != .local||sc.names.lookup p.1==some .local))
theorem Blk.of {osc sc:Scope}{N N':List Str}{fr:List (Option Nat)}(h:Bt osc sc N N' fr=true):Blk osc sc N N' fr:=by
 unfold Bt at h
 simp only[DU]at h
 obtain⟨⟨⟨⟨h1,h2⟩,h3⟩,h4⟩,h5⟩:=h
 refine⟨by simpa using h1,of_decide_eq_true h2,by simpa using h3,λi j x e1 e2=>?_,λx hx hk=>?_,λx hx hk=>?_⟩
 ·have hm:(some j,x)∈fr.zip N':=by
   refine Fj.mpr ⟨i,?_⟩
   rw[Fk]
   exact⟨e1,e2⟩
  have:=EH.mp h4 _ hm
  simp only[DU]at this
  exact⟨by simpa using this.1,by simpa using this.2⟩
 ·have:=EH.mp h5 x hx
  simp only[DU]at this
  have t1:=this.1
  rw[hk]at t1
  simp only[bne_self_eq_false,GR,DU,FS,EB]at t1
  refine⟨t1.1.imp (λz=>by simpa using z) (λz=>by simpa using z),λhm=>?_⟩
  have t2:=t1.2
  rw[List.contains_iff_mem.mpr hm]at t2
  cases t2
 ·have:=EH.mp h5 x hx
  simp only[DU]at this
  have t1:=this.2
  rw[hk]at t1
  simp only[bne_self_eq_false,GR]at t1
  simpa using t1
noncomputable def aO (fr:List (Option Nat)) (Z:St):St:=fr.map λo=>match o with
 | none=>none
 | some j=>Z.getD j none
theorem bI (fr:List (Option Nat))(Z:St):(aO fr Z).length=fr.length:=by unfold aO;rw[DX]
noncomputable def yB (X:Cx) (scope:Scope) (N':List Str) (cells:List (Str×Addr)) (C:Addr) (s:Shared) (H:Hp) (ex:List Addr) (pn:List (Addr×Obj)) (xe:Value->Shared->Prop):Cx where
 prog:=X.prog
 w:=X.w
 K:=X.K
 mg:=X.mg
 base:=X.base
 A:=X.A
 N:=N'
 s₀:=s
 H₀:=H
 env:=compEnvC scope cells C X.env
 outer:=X.stack
 stack:=X.stack
 ex:=ex
 fn:=λx=>scope.names.lookup x==some .cell
 calm:=X.calm
 pn:=pn
 xe:=xe
section
variable  {X:Cx}{pins:List (Addr×Obj)}{Z:St}{H H':Hp}{s:Shared}{scope:Scope}{N':List Str}{fr:List (Option Nat)}{ex:List Addr}{xe:Value->Shared->Prop}
theorem dm {sc:Scope}{x:Str}{k:NameKind}(h:sc.names.lookup x=some k):(x,k)∈sc.names:=Fb h
theorem Inv.freeCells (I:Inv X pins Z H s)(B:Blk X.env.scope scope X.N N' fr):∀x∈scope.names,x.2=.free->∃c,X.env.cells.lookup x.1=some c:=λx hx hk=>I.ok.has x.1 (B.out x hx hk).1
theorem Inv.enter {h':Heap}(I:Inv X pins Z H s)(B:Blk X.env.scope scope X.N N' fr)(hex:∀b∈ex,dQ X pins H b/\∃o,s.heap.get? b=some o)
  (hns:h'.Ns s.heap.objs.size (λ_=>none)) (hk:∀b o,s.heap.get? b=some o->h'.get? b=some o)
  (hc:∀x c,(cellsFrom (s.heap.objs.size+1) scope.names (br X.env scope.names [])).lookup x=some c->h'.IsCell c none∨(br X.env scope.names []).lookup x=some c) :
  Inv (yB X scope N' (cellsFrom (s.heap.objs.size+1) scope.names (br X.env scope.names [])) s.heap.objs.size s H ex (X.pn++pins) xe) [] (aO fr Z) H {s with heap:=h'}:=by
 have hfc:=I.freeCells B
 have old:∀x c,(br X.env scope.names []).lookup x=some c->X.env.cells.lookup x=some c:=λx c e=>hJ scope.names [] hfc (λz=>by cases z) e
 have lt:∀x c,X.env.cells.lookup x=some c->c<s.heap.objs.size:=λx c e=>by
  obtain⟨v,q⟩:=I.cell x c e
  exact q.lt
 have cases2:∀x c,(cellsFrom (s.heap.objs.size+1) scope.names (br X.env scope.names [])).lookup x=some c->s.heap.objs.size+1<=c∨X.env.cells.lookup x=some c:=λx c e=>
  (i4 _ _ _ e).imp (λz=>z.1) (old x c)
 have hlt:∀b∈ex,b<s.heap.objs.size:=λb hb=>by
  obtain⟨o,e⟩:=(hex b hb).2
  exact Heap.lt_size e
 have has:∀x,scope.names.lookup x=some .cell∨scope.names.lookup x=some .free->∃c,(cellsFrom (s.heap.objs.size+1) scope.names (br X.env scope.names [])).lookup x=some c:=λx hx=>by
  refine FB.mp (FJ _ _ _ (hx.imp id λz=>eD _ _ (dm z)))
 refine⟨⟨I.ok.mod,?_,I.ok.glob,I.ok.blt,DY _,?_,?_,?_,I.ok.hd,I.ok.gd,I.ok.frames,.inl rfl,?_,I.bs,Ev I.ok.bsz I.sz,?_,?_,I.stack,I.stkFree⟩,rfl,I.bare,Un.kept hk,⟨_,hns,?_⟩,?_,?_,?_,?_,I.hok.kept hk,?_⟩
 ·exact B.kind
 ·exact ng _ _ _ (λx c e=>Ga (lt x c (old x c e))) (λx y c e1 e2=>I.ok.inj x y c (old x c e1) (old y c e2))
 ·intro x hx
  refine has x ?_
  have hx':(relabel scope X.env).names.lookup x=some .cell∨(relabel scope X.env).names.lookup x=some .free:=hx
  rw[fm]at hx'
  cases q:scope.names.lookup x with
  | none=>rw[q]at hx';rcases hx' with z|z<;>cases z
  | some k=>
   rw[q]at hx'
   have hx2:rlK X.env x k=.cell∨rlK X.env x k=.free:=hx'.imp (λz=>Em.inj z) (λz=>Em.inj z)
   unfold rlK at hx2
   split at hx2
   ·rename_i hc
    simp only[DU]at hc
    have:k=.free:=by simpa using hc.1.1
    rw[this];exact .inr rfl
   ·rcases hx2 with z|z<;>rw[z]
    ·exact .inl rfl
    ·exact .inr rfl
 ·intro x c hf e
  have hf':scope.names.lookup x=some .cell:=by
   have:(scope.names.lookup x==some NameKind.cell)=true:=hf
   simpa using this
  exact kT _ _ _ (.inl (dm hf')) e _ (HD _) (.inr (dm hf'))
 ·intro b hb
  obtain⟨⟨_,_,_,_,f4,_⟩,_⟩:=hex b hb
  refine⟨Ed (hlt b hb),λx c e z=>?_⟩
  rcases cases2 x c e with q|q
  ·rw[z]at q
   exact absurd (Ec (hlt b hb) (Nat.le_of_succ_le q)) (EV _)
  ·exact f4 x c q z
 ·intro b o e hb
  obtain⟨⟨_,_,_,f3,_,_⟩,_⟩:=hex b hb
  rcases f3 with z|z
  ·exact I.ok.noex b o e z
  ·exact absurd (Ec (Heap.lt_size e) (Ev I.ok.bsz z)) (EV _)
 ·intro b hb hf
  obtain⟨⟨_,f1,f2,_,_,_⟩,_⟩:=hex b hb
  rcases ycM (I.stkSub b hf)with z|z
  ·exact f1 z
  ·exact f2 z
 ·intro i x v e1 e2 e3
  unfold aO at e2
  rw[DZ]at e2
  cases q:fr[i]? with
  | none=>rw[q]at e2;cases e2
  | some o=>
   rw[q]at e2
   cases o with
   | none=>simp at e2
   | some j=>
    have e2':Z.getD j none=some v:=by simpa using e2
    obtain⟨b1,b2⟩:=B.free i j x q e1
    have e4:Z[j]?=some (some v):=by
     rw[Eb]at e2'
     cases q2:Z[j]? with
     | none=>rw[q2]at e2';cases e2'
     | some y=>rw[q2]at e2';simp at e2';rw[e2']
    obtain⟨o1,o2⟩:=B.out (x,.free) (dm b2) rfl
    obtain⟨m,hn,hl⟩:=I.loc
    have vis:Vis X.env.scope x:=o1.elim (λz=>.inr (.inl z)) λz=>.inr (.inr z)
    obtain⟨u,r,l⟩:=hl j x v b1 e4 vis
    refine⟨u,r,.inr ?_⟩
    have nl:∃c,X.env.cells.lookup x=some c/\s.heap.IsCell c (some u):=by
     rcases l with⟨kl,_⟩|⟨_,c,h1,h2⟩
     ·have kl':X.env.scope.names.lookup x=some .local:=kl
      rcases o1 with z|z<;>· have z':X.env.scope.names.lookup x=_:=z;rw[kl']at z';cases z'
     ·exact⟨c,h1,h2⟩
    obtain⟨c,h1,h2⟩:=nl
    have kd:(compEnvC scope (cellsFrom (s.heap.objs.size+1) scope.names (br X.env scope.names [])) s.heap.objs.size X.env).kindOf x=some .cell∨(compEnvC scope (cellsFrom (s.heap.objs.size+1) scope.names (br X.env scope.names [])) s.heap.objs.size X.env).kindOf x=some .free:=by
     show(relabel scope X.env).names.lookup x=some .cell∨(relabel scope X.env).names.lookup x=some .free
     rw[fm,b2]
     show some (rlK X.env x .free)=_∨some (rlK X.env x .free)=_
     unfold rlK
     split
     ·exact .inl rfl
     ·exact .inr rfl
    refine⟨kd,c,?_,h2.keeps hk⟩
    show(cellsFrom (s.heap.objs.size+1) scope.names (br X.env scope.names [])).lookup x=some c
    rw[i5 _ _ _ o2]
    obtain⟨c',hc'⟩:=FB.mp (eD (env:=X.env) scope.names [] (dm b2))
    rw[hc']
    have:=old x c' hc'
    rw[h1]at this
    exact this.symm
 ·intro x c e
  rcases hc x c e with q|q
  ·exact⟨_,q⟩
  ·obtain⟨v,z⟩:=I.cell x c (old x c q)
   exact⟨v,z.keeps hk⟩
 ·exact I.hok.fresh (DY _)
 ·intro x c e
  rcases cases2 x c e with q|q
  ·exact I.hok.fresh (by omega)
  ·exact I.freeC x c q
 ·intro p hp
  have hp':p∈X.pn++pins:=by
   have:p∈(X.pn++pins)++[]:=hp
   rwa [El]at this
  obtain⟨e,n,ne,nf,d⟩:=I.pin p hp'
  refine⟨hk _ _ e,n,Ed (Heap.lt_size e),λz=>?_,d⟩
  rcases ycM (I.stkSub p.1 z)with q|q
  ·exact ne q
  ·exact nf q
 ·show(aO fr Z).length=N'.length
  rw[bI,B.len]
theorem Inv.leave {cells:List (Str×Addr)}{C:Addr}{pins':List (Addr×Obj)}{Z':St}{s':Shared}{pn:List (Addr×Obj)}(I:Inv X pins Z H s)(hex:∀b∈ex,dQ X pins H b)
  (J:Inv (yB X scope N' cells C s H ex pn xe) pins' Z' H' s'):Inv X pins Z H' s':=
 I.call' J.os J.base J.hok J.bare λb hb=>by
  obtain⟨_,f1,_,f3,f4,f5⟩:=hex b hb
  exact⟨f3,f1,f4,f5⟩
theorem Inv.track {d:Addr}{o:HO}(I:Inv X pins Z H s)(hd:dQ X pins H d)(hX:d∉X.ex∨X.s₀.heap.objs.size<=d)(h0:X.s₀.heap.objs.size<=d)(new:ObjOk X.prog X.w (upd H d o) s.heap d o):Inv X pins Z (upd H d o) s:=by
 obtain⟨f0,f1,f2,f3,f4,f5⟩:=hd
 refine⟨I.ok,I.os,I.bare,⟨I.base.keep,I.base.slot,λb u q n hx=>?_,I.base.there,λb xs q=>?_,λb u xs q=>?_,λb ps q=>?_⟩,I.loc,I.cell,?_,λx c e=>?_,λp hp=>?_,λb u q=>?_,I.len⟩
 ·rw[upd_ne (Ed (Ec (Heap.lt_size q) h0))]
  exact I.base.free b u q n hx
 ·have:=I.base.tups b xs q
  rw[upd_ne (aX this f0)]
  exact this
 ·have:=I.base.frzs b u xs q
  rw[upd_ne (aX this f0)]
  exact this
 ·obtain⟨m,this⟩:=I.base.tbls b ps q
  exact⟨m,by rw[upd_ne (aX this f0)];exact this⟩
 ·rw[upd_ne (Ne.symm f1)]
  exact I.free
 ·rw[upd_ne (f4 x c e)]
  exact I.freeC x c e
 ·obtain⟨e,n,ne,nf,dd⟩:=I.pin p hp
  exact⟨e,by rw[upd_ne (f5 p hp)];exact n,ne,nf,dd⟩
 ·by_cases hb:b=d
  ·subst hb
   rw[ax]at q
   cases q
   exact new
  ·rw[upd_ne hb]at q
   exact(I.hok b u q).stay (λ_ _ _ z=>z) (λc z=>by rw[upd_ne (aX z f0)];exact z) λc xs z=>by rw[upd_ne (aX z f0)];exact z
end
noncomputable abbrev lH (ifs:List Expr) (env:Env):Sem Bool:=forIn ifs true λc r=>if r=true then do let ok ←isTrue c env (eval c env);pure (ForInStep.yield ok)else pure (ForInStep.yield r)
theorem fg {prog:Program}{w:World}{A:Around}{R:Result->Shared->Prop}{s:Shared}{elt target iter:Expr}{ifs:List Expr}{scope:Scope}{pos:Pos}{it acc:Value}{env:Env}(I:Nat->Shared->Prop)
  (turn:∀n s,I n s->wpAny (model prog w) A (pyNext it) (λr s₁=>match r with
   | none=>R (.ok .next) s₁
   | some v=>wpAny (model prog w) A (letOwnedTupleGo target it v) (λ_ s₁'=>wpAny (model prog w) A (assign target env v) (λ_ s₂=>
     wpAny (model prog w) A (lH ifs env) (λok s₃=>
      if ok=true then wpAny (model prog w) A (eval elt env) (λx s₄=>
       wpAny (model prog w) A (call (.builtin "list.append") [acc,x]) (λ_ s₅=>∃m,m<n/\I m s₅) (notedBy (model prog w) A env λe s'=>R (.error e) s') s₄) (notedBy (model prog w) A env λe s'=>R (.error e) s') s₃
      else∃m,m<n/\I m s₃) (notedBy (model prog w) A env λe s'=>R (.error e) s') s₂) (notedBy (model prog w) A env λe s'=>R (.error e) s') s₁') (notedBy (model prog w) A env λe s'=>R (.error e) s') s₁) (notedBy (model prog w) A env λe s'=>R (.error e) s') s)
  (n:Nat) (h:I n s):codeAny (model prog w) A (.compLoop (.ListComp elt [⟨target,iter,ifs,0⟩] scope pos) 0 it acc env) R s:=by
 refine codeAny_loop rfl I (λn s hI=>?_) n h
 show wpAny _ A ((compTurn (.ListComp elt [⟨target,iter,ifs,0⟩] scope pos) 0 it acc env).onRaise (λx=>do noteFrame x env;theTreesLotGoes x)) _ _ s
 refine wpAny_noted ?_
 rw[compTurn_list]
 refine wpAny_bind (wpAny_standAt (wpAny_bind (wpAny_mono (turn n s hI) (λr s₁ h₁=>?_) λ_ _ h'=>h')))
 cases r with
 | none=>exact wpAny_pure h₁
 | some v=>
  refine wpAny_bind (wpAny_mono h₁ (λ_ s₁' h₁'=>?_) λ_ _ h'=>h')
  refine wpAny_bind (wpAny_mono h₁' (λ_ s₂ h₂=>wpAny_bind (wpAny_mono h₂ (λok s₃ h₃=>?_) λ_ _ h'=>h')) λ_ _ h'=>h')
  cases ok with
  | false=>exact wpAny_pure ⟨rfl,h₃⟩
  | true=>
   exact wpAny_bind (wpAny_bind (wpAny_mono h₃ (λx s₄ h₄=>wpAny_bind (wpAny_mono h₄ (λ_ s₅ h₅=>wpAny_pure (wpAny_pure ⟨rfl,h₅⟩)) λ_ _ h'=>h')) λ_ _ h'=>h'))
def PTs (X:Cx)(ifs:List Expr)(t:TT):Prop:=
 ∀(pins:List (Addr×Obj)) (s:Shared) (Z:St) (H:Hp) (Q:Bool->Hp->Prop),Inv X pins Z H s->t Z H Q->wpAny (model X.prog X.w) X.A (lH ifs X.env) (TP X pins Z Q) X.xe s
def C7:TT:=λ_ H Q=>Q true H
theorem wv {X:Cx}:PTs X [] C7:=λ_ _ _ H _ I h=>wpAny_tests_nil ⟨H,I,h⟩
theorem wx {X:Cx}{c:Expr}{t:TT}(h:PT X c t):PTs X [c] t:=λpins s Z H Q I q=>wpAny_tests_one (h pins s Z H Q I q)
def Kp (fr:List (Option Nat))(Z Z':St):Prop:=Z'.length=Z.length/\∀i j:Nat,fr[i]?=some (some j)->Z'[i]?=Z[i]?
theorem Kp.refl (fr:List (Option Nat))(Z:St):Kp fr Z Z:=⟨rfl,λ_ _ _=>rfl⟩
theorem Kp.trans {fr:List (Option Nat)}{Z Z' Z'':St}(a:Kp fr Z Z')(b:Kp fr Z' Z''):Kp fr Z Z'':=⟨b.1.trans a.1,λi j e=>(b.2 i j e).trans (a.2 i j e)⟩
def dg (fr:List (Option Nat))(g:TG):Prop:=∀v Z H (Q Q':St->Hp->Prop),(∀Z' H',Q Z' H'->Kp fr Z Z'->Q' Z' H')->g v Z H Q->g v Z H Q'
def iZ (fr:List (Option Nat))(g:TGs):Prop:=∀v Z H (Q Q':St->Hp->Prop),(∀Z' H',Q Z' H'->Kp fr Z Z'->Q' Z' H')->g v Z H Q->g v Z H Q'
theorem vo {fr:List (Option Nat)}{i:Nat}(h:fr[i]?=some none):dg fr (j3 i):=λv Z H Q Q' k q=>by
 refine k _ _ q ⟨FE,λi' j e=>?_⟩
 have:i≠i':=λz=>by subst z;rw[h]at e;cases e
 exact Ef this
theorem yN {fr:List (Option Nat)}:iZ fr yL:=λv Z H Q Q' k q=>⟨q.1,k _ _ q.2 (Kp.refl _ _)⟩
theorem vn {fr:List (Option Nat)}{g:TG}{gs:TGs}(h1:dg fr g)(h2:iZ fr gs):iZ fr (rL g gs):=λvs Z H Q Q' k q=>by
 obtain⟨v,r,e,q⟩:=q
 refine⟨v,r,e,h1 v Z H _ _ (λZ1 H1 q1 k1=>h2 r Z1 H1 _ _ (λZ2 H2 q2 k2=>k Z2 H2 q2 (k1.trans k2)) q1) q⟩
theorem yO {fr:List (Option Nat)}{K:yF}{n:Nat}{gs:TGs}(h:iZ fr gs):dg fr (vk K n gs):=λv Z H Q Q' k q=>by
 obtain⟨a,xs,e1,e2,e3,q⟩:=q
 exact⟨a,xs,e1,e2,e3,h xs Z H Q Q' k q⟩
structure Bk where
 cells:List (Str×Addr)
 C:Addr
 s:Shared
 H:Hp
 ex:List Addr
 pn:List (Addr×Obj)
noncomputable abbrev cxB (X:Cx) (scope:Scope) (N':List Str) (b:Bk):Cx:=yB X scope N' b.cells b.C b.s b.H b.ex b.pn λ_ _=>False
def uE (wi:TI)(fr:List (Option Nat))(g:TG)(tc:TT)(te:TE):TE:=λZ H Q=>
 wi Z H λJ H1=>∃W:Nat->Nat->List V->Hp->Prop,(∃m,W 0 m [] H1)/\∀i m acc H,W i m acc H->acc.length<sizeLine ∧
  ((J.stop i H/\∀d,H d=none->Q (.ref d) (upd H d (.lst acc))) ∨
  (J.go i H/\∃N:List V->Hp->Prop,(∀acc' H',N acc' H'->∃m',m'<m/\W (i+1) m' acc' H') ∧
   ∀x H',J.yld i H x H'->g x (aO fr Z) H' λZ2 H2=>tc Z2 H2 λb H3=>if b=true then te Z2 H3 λv H4=>N (acc++[v]) H4 else N acc H3))
section
variable  {X:Cx}{elt tg iter:Expr}{ifs:List Expr}{scope:Scope}{pos:Pos}{N':List Str}{fr:List (Option Nat)}{wi:TI}{g:TG}{tc:TT}{te:TE}
theorem i6 (hc:X.calm=true)(B:Blk X.env.scope scope X.N N' fr)
  (hg:∀b,PG (cxB X scope N' b) tg g) (hgk:dg fr g) (ht:∀b,PTs (cxB X scope N' b) ifs tc) (he:∀b,PE (cxB X scope N' b) elt te)
  {pins:List (Addr×Obj)} {Z:St} {Q:VK} {itv:Value} {s2:Shared} {E:Value->Shared->Prop} {RR:Value->Addr->Result->Shared->Prop}
  (h2:PIE X pins Z tg (λJ H1=>∃W:Nat->Nat->List V->Hp->Prop,(∃m,W 0 m [] H1)/\∀i m acc H,W i m acc H->acc.length<sizeLine ∧
   ((J.stop i H/\∀d,H d=none->Q (.ref d) (upd H d (.lst acc))) ∨
   (J.go i H/\∃N:List V->Hp->Prop,(∀acc' H',N acc' H'->∃m',m'<m/\W (i+1) m' acc' H') ∧
    ∀x H',J.yld i H x H'->g x (aO fr Z) H' λZ2 H2=>tc Z2 H2 λb H3=>if b=true then te Z2 H3 λv H4=>N (acc++[v]) H4 else N acc H3))) itv s2)
  (hRR:∀(d C:Addr) (v:V) (H':Hp) (s':Shared) m',Inv X pins Z H' s'->v=.ref d->Q v H'->s'.heap.Ns C m'->dQ X pins H' C->C≠d->RR (.ref d) C (.ok .next) s') :
  wpAny (model X.prog X.w) X.A (newList []) (λacc s₃=>wpAny (model X.prog X.w) X.A (newFunctionEnv scope X.env.globals (br X.env scope.names []) [] X.env.qual none .none (some X.env)) (λcenv s₄=>
   codeAny (model X.prog X.w) X.A (.compStart (.ListComp elt [⟨tg,iter,ifs,0⟩] scope pos) 0 itv acc {cenv with scope:=relabel scope X.env}) (RR acc cenv.locals) s₄) E s₃) E s2:=by
 obtain⟨it,fp,tn,J,H2,rfl,I2,T,st2,f2,W,⟨m0,w0⟩,turn⟩:=h2
 refine wpAny_newObj_type ?_
 generalize hd:s2.heap.objs.size=d
 have I3:Inv X pins Z H2 {s2 with heap:=s2.heap.push {cls:=.type "list",dict:=none,data:=.seq ([]:List Value).toArray}}:=I2.kept (t':=s2.toks) λb o e=>Heap.get?_push_of_some _ e
 have fd:dQ X pins H2 d:=I2.fpOk (by rw[hd];exact DY _) (I2.hok.fresh (by rw[hd];exact DY _))
 have od:(s2.heap.push {cls:=.type "list",dict:=none,data:=.seq ([]:List Value).toArray}).get? d=some {cls:=.type "list",dict:=none,data:=.seq ([]:List Value).toArray}:=by rw[←hd];exact Heap.get?_push_size _ rfl
 have st3:tn 0 (s2.heap.push {cls:=.type "list",dict:=none,data:=.seq ([]:List Value).toArray}):=T.keep _ _ _ st2 λb _ o e=>Heap.get?_push_of_some _ e
 have ne_d:∀b∈fp,b≠d:=λb hb=>by
  obtain⟨o,e,_⟩:=T.obj _ _ st2 b hb
  rw[←hd]
  exact Ed (Heap.lt_size e)
 have hd0:X.s₀.heap.objs.size<=d:=by rw[←hd];exact I2.sz
 generalize hs3:({s2 with heap:=s2.heap.push {cls:=.type "list",dict:=none,data:=.seq ([]:List Value).toArray}}:Shared)=s3 at I3
 have od3:s3.heap.get? d=some {cls:=.type "list",dict:=none,data:=.seq ([]:List Value).toArray}:=by rw[←hs3];exact od
 have st3':tn 0 s3.heap:=by rw[←hs3];exact st3
 have hex:∀b∈d::fp,dQ X pins H2 b/\∃o,s3.heap.get? b=some o:=λb hb=>by
  rcases ycM hb with e|hb
  ·subst e;exact⟨fd,_,od3⟩
  ·obtain⟨o,e,_⟩:=T.obj _ _ st3' b hb
   exact⟨f2 b hb,o,e⟩
 refine fG λh4 hns hk hcl=>?_
 have J0:=I3.enter (ex:=d::fp) (xe:=λ_ _=>False) B hex hns hk hcl
 generalize hCs:cellsFrom (s3.heap.objs.size+1) scope.names (br X.env scope.names [])=cells at J0
 have hCd:s3.heap.objs.size≠d:=λz=>by have:=Heap.lt_size od3;rw[z]at this;exact EV _ this
 let bk:Bk:=⟨cells,s3.heap.objs.size,s3,H2,d::fp,X.pn++pins⟩
 have J0':Inv (cxB X scope N' bk) [] (aO fr Z) H2 {s3 with heap:=h4}:=J0
 show codeAny (model X.prog X.w) X.A (.compStart (.ListComp elt [⟨tg,iter,ifs,0⟩] scope pos) 0 (.ref it) (.ref d) (cxB X scope N' bk).env) (RR (.ref d) s3.heap.objs.size) {s3 with heap:=h4}
 have ne_pn:∀p∈X.pn++pins,p.1≠d/\∀b∈fp,p.1≠b:=λp hp=>⟨fd.2.2.2.2.2 p hp,λb hb=>(f2 b hb).2.2.2.2.2 p hp⟩
 have fpk:∀{Hx:Hp} {o:Obj},(∀b∈fp,Hx b=none)->∀b∈fp,dQ (cxB X scope N' bk) [(d,o)] Hx b:=λ{Hx o} hn b hb=>by
  have hb':b∈d::fp:=ymC _ hb
  refine⟨hn b hb,(J0'.ok.exf b hb').1,J0'.ok.exfs b hb',.inl hb',λx c e=>(J0'.ok.exf b hb').2 x c e,λp hp=>?_⟩
  have hp':p∈(X.pn++pins)++[(d,o)]:=hp
  rcases yaM hp' with z|z
  ·exact(ne_pn p z).2 b hb
  ·have:p=(d,o):=by simpa using z
   rw[this]
   exact Ne.symm (ne_d b hb)
 have loop:∀s4:Shared,Inv (cxB X scope N' bk) [] (aO fr Z) H2 s4->tn 0 s4.heap->s4.heap.PlainList d #[] →
   codeAny (model X.prog X.w) X.A (.compLoop (.ListComp elt [⟨tg,iter,ifs,0⟩] scope pos) 0 (.ref it) (.ref d) (cxB X scope N' bk).env) (RR (.ref d) s3.heap.objs.size) s4:=by
  intro s4 J4 st4 pl4
  refine fg (λn s'=>∃i acc its H' Z',Inv (cxB X scope N' bk) [] Z' H' s'/\Kp fr (aO fr Z) Z'/\tn i s'.heap/\(∀b∈fp,H' b=none)/\H' d=none/\s'.heap.PlainList d (Gq its)/\Vals acc its/\W i n acc H') ?_ m0
   ⟨0,[],[],H2,aO fr Z,J4,Kp.refl _ _,st4,λb hb=>(f2 b hb).1,fd.1,pl4,.nil,w0⟩
  rintro n s5 ⟨i,acc,its,H5,Z5,J5,kp5,st5,fr5,hd5,⟨n5,pl5⟩,va5,w5⟩
  obtain⟨hz,cs⟩:=turn i n acc H5 w5
  have J5p:Inv (cxB X scope N' bk) [(d,{cls:=.type "list",data:=.seq its.toArray n5})] Z5 H5 s5:=J5.pins_of λp hp=>by
   have:p=(d,{cls:=.type "list",data:=.seq its.toArray n5}):=by simpa using hp
   subst this
   exact⟨pl5,hd5,(J0'.ok.exf d ymS).1,J0'.ok.exfs d ymS,λv z=>by cases z⟩
  rcases cs with⟨stop,q⟩|⟨go,N,hN,step⟩
  ·refine thn (T.done (cxB X scope N' bk) rfl rfl rfl hc i _ s5 Z5 H5 _ J5p (fpk fr5) st5 stop) λr s6 ⟨hr,J6⟩=>?_
   subst hr
   obtain⟨e6,n6,_⟩:=J6.pin (d,{cls:=.type "list",data:=.seq its.toArray n5}) (yaR _ (by simp))
   have I6:Inv X pins Z H5 s6:=I3.leave (λb hb=>(hex b hb).1) J6
   have I6t:Inv X pins Z (upd H5 d (.lst acc)) s6:=I6.track ⟨hd5,fd.2⟩ (.inr hd0) hd0 ⟨by omega,its,n5,va5,e6⟩
   obtain⟨m6,hn6,_⟩:=J6.loc
   refine hRR d s3.heap.objs.size (.ref d) _ s6 m6 I6t rfl (q d hd5) hn6 ?_ hCd
   exact I3.fpOk (DY _) (by rw[upd_ne hCd];exact J6.free)
  ·refine thn (T.item (cxB X scope N' bk) rfl rfl rfl hc i _ s5 Z5 H5 _ J5p (fpk fr5) st5 go) λr s6 ⟨u,hr,h6⟩=>?_
   subst hr
   refine thn h6 λ_ s7 ⟨x,H7,J7,r7,y7,st7,fr7⟩=>?_
   have J7w:Inv (cxB X scope N' bk) [(d,{cls:=.type "list",data:=.seq its.toArray n5})] (aO fr Z) H7 s7:=J7.weak kp5.1.symm λk v e=>by
    cases q:fr[k]? with
    | none=>
     unfold aO at e
     rw[DZ,q]at e
     cases e
    | some o=>
     cases o with
     | none=>
      unfold aO at e
      rw[DZ,q]at e
      simp at e
     | some j=>rw[kp5.2 k j q];exact e
   have J7p:=J7w.pinned (fpk fr7) (T.obj _ _ st7)
   have never:∀{α:Type} {t:Sem α} {QQ : α->Shared->Prop} {EE:Value->Shared->Prop} {ss:Shared},wpAny (model X.prog X.w) X.A t QQ (λ_ _=>False) ss->wpAny (model X.prog X.w) X.A t QQ EE ss:=λhh=>wpAny_mono hh (λ_ _ z=>z) λ_ _ z=>z.elim
   have G:=hgk x (aO fr Z) H7 _ (λZ2 H2=>(tc Z2 H2 λb H3=>if b=true then te Z2 H3 λv H4=>N (acc++[v]) H4 else N acc H3)/\Kp fr (aO fr Z) Z2) (λZ' H' a b=>⟨a,b⟩) (step x H7 y7)
   refine never (thn (hg bk _ s7 (aO fr Z) H7 x u _ J7p r7 G) λ_ s8 ⟨Z8,H8,J8,q8,kp8⟩=>?_)
   refine never (thn (ht bk _ s8 Z8 H8 _ J8 q8) λok s9 ⟨H9,J9,q9⟩=>?_)
   have keepT:∀{Zx:St} {Hx:Hp} {sx:Shared},Inv (cxB X scope N' bk) ([(d,{cls:=.type "list",data:=.seq its.toArray n5})]++bn fp s7.heap) Zx Hx sx->(∀b∈fp,∀o,s7.heap.get? b=some o->sx.heap.get? b=some o)/\(∀b∈fp,Hx b=none)/\sx.heap.get? d=some {cls:=.type "list",data:=.seq its.toArray n5}/\Hx d=none:=λ{Zx Hx sx} Jx=>by
    refine⟨λb hb o e=>(Jx.pin (b,o) (yaR _ (yaR _ (bz hb e)))).1,λb hb=>?_,?_⟩
    ·obtain⟨o,e,_⟩:=T.obj _ _ st7 b hb
     exact(Jx.pin (b,o) (yaR _ (yaR _ (bz hb e)))).2.1
    ·have:=Jx.pin (d,{cls:=.type "list",data:=.seq its.toArray n5}) (yaR _ (yaL _ (by simp)))
     exact⟨this.1,this.2.1⟩
   cases ok with
   | false=>
    rw[if_neg (by decide)]at q9⊢
    obtain⟨m',hm,w9⟩:=hN _ _ q9
    obtain⟨k1,k2,k3,k4⟩:=keepT J9
    exact⟨m',hm,i+1,acc,its,H9,Z8,J9.pins_of (λp hp=>by simp at hp),kp8,T.keep _ _ _ st7 k1,k2,k4,⟨n5,k3⟩,va5,w9⟩
   | true=>
    rw[if_pos rfl]at q9⊢
    refine never (thn (he bk _ s9 Z8 H9 _ J9 q9) λy s10 ⟨v,H10,J10,r10,q10⟩=>?_)
    obtain⟨m',hm,w10⟩:=hN _ _ q10
    obtain⟨k1,k2,k3,k4⟩:=keepT J10
    have hzs:its.toArray.size<=sizeLine:=by rw[DT,←va5.length];omega
    refine wpAny_list_append_plain (hsz:=hzs) ⟨n5,k3⟩ λh11 pl11 sb11=>?_
    have J10':Inv (cxB X scope N' bk) [] Z8 H10 s10:=J10.pins_of (λp hp=>by simp at hp)
    have J11:Inv (cxB X scope N' bk) [] Z8 H10 {s10 with heap:=h11}:=J10'.turned (it:=d) (t':=s10.toks) (λb o hb e=>(sb11.2 b hb).trans e) k4 (J0'.ok.exf d ymS).1 (.inl ymS) (λx c e=>(J0'.ok.exf d ymS).2 x c e) λp hp=>by
     have hp':p∈(X.pn++pins)++[]:=hp
     rw[El]at hp'
     exact(ne_pn p hp').1
    refine⟨m',hm,i+1,acc++[v],its++[y],H10,Z8,J11,kp8,T.keep _ _ _ st7 (λb hb o e=>(sb11.2 b (ne_d b hb)).trans (k1 b hb o e)),k2,k4,?_,va5.append (.cons r10 .nil),w10⟩
    have:(its++[y]).toArray=its.toArray.push y:=by simp
    rw[this]
    exact pl11
 have st4:tn 0 h4:=T.keep _ _ _ st3' λb _ o e=>hk b o e
 have pl4:h4.PlainList d #[]:=⟨0,hk d _ od3⟩
 have L4:=loop {s3 with heap:=h4} J0' st4 pl4
 exact codeAny_compStart_list L4 (T.self X.A 0 _ _ _ st4 L4)
theorem vY (hc:X.calm=true)(B:Blk X.env.scope scope X.N N' fr)(hi:PI X tg iter wi)
  (hg:∀b,PG (cxB X scope N' b) tg g) (hgk:dg fr g) (ht:∀b,PTs (cxB X scope N' b) ifs tc) (he:∀b,PE (cxB X scope N' b) elt te)
  (hs:∀x,foldedSetIterable iter X.env x=pure x:=by intro _;rfl):PE X (.ListComp elt [⟨tg,iter,ifs,0⟩] scope pos) (uE wi fr g tc te):=by
 intro pins s Z H Q I h
 rw[eval_ListComp]
 refine wpAny_comprehension_free (use:=none) rfl hs (dI (I.freeCells B)) B.kind B.locl (thn (hi pins s Z H _ I h) λv s1 h1=>thn h1 λitv s2 h2=>?_)
 refine i6 (RR:=λacc C=>compPost (model X.prog X.w) X.A X.xe none (EP X pins Z Q) acc C) hc B hg hgk ht he h2 ?_
 intro d C v H' s' m' I' hv q hn fC hCd
 refine⟨m',hn,λh'' sb=>?_⟩
 obtain⟨c0,c1,c2,c3,c4,c5⟩:=fC
 exact⟨v,H',I'.turned (it:=C) (t':=s'.toks) (λb o hb e=>(sb.2 b hb).trans e) c0 c1 c3 c4 c5,by rw[hv];rfl,q⟩
theorem nK {i:Nat}{x:Str}{pos' spos:Pos}(hc:X.calm=true)(hN:X.N.Nodup)(hi':X.N[i]?=some x)(hx:X.env.scope.names.lookup x=some .local)(B:Blk X.env.scope scope X.N N' fr)(hi:PI X tg iter wi)
  (hg:∀b,PG (cxB X scope N' b) tg g) (hgk:dg fr g) (ht:∀b,PTs (cxB X scope N' b) ifs tc) (he:∀b,PE (cxB X scope N' b) elt te)
  (hsw:swapsWith (.ListComp elt [⟨tg,iter,ifs,0⟩] scope pos) (some (.Name x pos')) spos.line X.env=pure true:=by rfl)
  (hs:∀x,foldedSetIterable iter X.env x=pure x:=by intro _;rfl):PS X (.Assign [.Name x pos'] (.ListComp elt [⟨tg,iter,ifs,0⟩] scope pos) spos) (xr (uE wi fr g tc te) (j3 i)):=by
 intro pins s Z H D I h
 rw[exec_Assign_Name_used _ _ _ _ hsw]
 refine wpAny_bind (wpAny_standAt (wpAny_bind ?_))
 show wpAny _ _ (do let _ ←comprehension (.ListComp elt [⟨tg,iter,ifs,0⟩] scope pos) scope X.env _ (newList []) false (eval iter X.env) (some (assign (.Name x pos') X.env))) _ _ s
 refine wpAny_bind (wpAny_mono (wpAny_comprehension_free (use:=some (assign (.Name x pos') X.env)) (Q:=λ_ s'=>SP X pins D .next s') rfl hs (dI (I.freeCells B)) B.kind B.locl (thn (hi pins s Z H _ I h) λv s1 h1=>thn h1 λitv s2 h2=>?_)) (λ_ s' hq=>wpAny_pure (wpAny_pure hq)) λ_ _ e=>e)
 refine i6 (Q:=λv H1=>j3 i v Z H1 D.nx) (RR:=λacc C=>compPost (model X.prog X.w) X.A X.xe (some (assign (.Name x pos') X.env)) (λ_ s'=>SP X pins D .next s') acc C) hc B hg hgk ht he h2 ?_
 intro d C v H' s' m' I' hv q hn fC hCd
 obtain⟨c0,c1,c2,c3,c4,c5⟩:=fC
 subst hv
 refine wpAny_assign_Name (kC I' hN hi' (.inl hx) (show RelV (.ref d) (.ref d)from rfl) (λs6 I6 ⟨a,sa,ha⟩=>?_) (.inr hx))
 have haC:C≠a:=by
  rcases ha with z|z
  ·rw[z];exact c1
  ·exact λz'=>c4 x a z z'.symm
 refine⟨m',hn.sameBut sa haC,λh'' sb=>?_⟩
 exact⟨_,H',I6.turned (it:=C) (t':=s6.toks) (λb o hb e=>(sb.2 b hb).trans e) c0 c1 c3 c4 c5,q⟩
end
inductive D where
 | int (i:Int)|str (x:Str)|tup (ds:List D)
mutual
def Rep (K:yF)(H:Hp):D->V->Prop
 | .int i,v=>v=.int i
 | .str x,v=>v=.str x
 | .tup ds,v=>∃a xs,v=.ref a/\SqT K H a xs/\Reps K H ds xs
def Reps (K:yF)(H:Hp):List D->List V->Prop
 | [],xs=>xs=[]
 | d::ds,xs=>∃x r,xs=x::r/\Rep K H d x/\Reps K H ds r
end
mutual
noncomputable def D.depth:D->Nat
 | .int _=>0
 | .str _=>0
 | .tup ds=>aH ds+1
noncomputable def aH:List D->Nat
 | []=>0
 | d::ds=>max d.depth (aH ds)
end
theorem j0 {d:D}:∀{ds:List D},d∈ds->d.depth<=aH ds
 | [],h=>by cases h
 | e::ds,h=>by
  rw[aH]
  rcases ycM h with z|z
  ·rw[z];exact Gy _ _
  ·exact Ev (j0 z) (Gk _ _)
theorem Reps.length {K:yF}{H:Hp}:∀{ds:List D} {xs:List V},Reps K H ds xs->xs.length=ds.length
 | [],xs,h=>by rw[Reps]at h;rw[h];rfl
 | d::ds,xs,h=>by
  rw[Reps]at h
  obtain⟨x,r,rfl,_,h3⟩:=h
  rw[D5,D5,h3.length]
theorem Rep.tup_iff {K:yF}{H:Hp}{ds:List D}{v:V}:Rep K H (.tup ds) v ↔ ∃a xs,v=.ref a/\SqT K H a xs/\Reps K H ds xs:=by rw[Rep]
theorem Same.laid {H:Hp}{p:Addr}{o:HO}(hp:H p=none):Same H (upd H p o):=λb u e=>by rw[upd_ne (aX e hp)];exact e
section
variable  {X:Cx}{pins:List (Addr×Obj)}{Z:St}{H:Hp}{s:Shared}
mutual
theorem Rep.inj (I:Inv X pins Z H s):∀{d e:D} {v:V},Rep X.K H d v->Rep X.K H e v->d=e
 | .int i,.int j,v,h,h'=>by simp only[Rep]at h h';subst h;cases h';rfl
 | .int i,.str j,v,h,h'=>by simp only[Rep]at h h';subst h;cases h'
 | .int i,.tup j,v,h,h'=>by simp only[Rep]at h h';subst h;obtain⟨_,_,z,_⟩:=h';cases z
 | .str i,.int j,v,h,h'=>by simp only[Rep]at h h';subst h;cases h'
 | .str i,.str j,v,h,h'=>by simp only[Rep]at h h';subst h;cases h';rfl
 | .str i,.tup j,v,h,h'=>by simp only[Rep]at h h';subst h;obtain⟨_,_,z,_⟩:=h';cases z
 | .tup i,.int j,v,h,h'=>by simp only[Rep]at h h';subst h';obtain⟨_,_,z,_⟩:=h;cases z
 | .tup i,.str j,v,h,h'=>by simp only[Rep]at h h';subst h';obtain⟨_,_,z,_⟩:=h;cases z
 | .tup ds,.tup es,v,h,h'=>by
  simp only[Rep]at h h'
  obtain⟨a,xs,rfl,h2,h3⟩:=h
  obtain⟨b,ys,z,h4,h5⟩:=h'
  cases z
  rw[I.tuple_inj h4 h2]at h5
  rw[Reps.inj I h3 h5]
theorem Reps.inj (I:Inv X pins Z H s):∀{ds es:List D} {xs:List V},Reps X.K H ds xs->Reps X.K H es xs->ds=es
 | [],[],xs,h,h'=>rfl
 | [],e::es,xs,h,h'=>by simp only[Reps]at h h';subst h;obtain⟨_,_,z,_⟩:=h';cases z
 | d::ds,[],xs,h,h'=>by simp only[Reps]at h h';subst h';obtain⟨_,_,z,_⟩:=h;cases z
 | d::ds,e::es,xs,h,h'=>by
  simp only[Reps]at h h'
  obtain⟨x,r,rfl,h2,h3⟩:=h
  obtain⟨y,q,z,h4,h5⟩:=h'
  cases z
  rw[Rep.inj I h2 h4,Reps.inj I h3 h5]
end
open SeqAt in
mutual
theorem rE (I:Inv X pins Z H s):∀(d e:D) {x y:V} {u v:Value} {A:Around},Rep X.K H d x->Rep X.K H e y->RelV x u->RelV y v->A.units+d.depth<cLine->∃b,(b=true↔d=e)/\EqAt A s u v b
 | .int i,.int j,x,y,u,v,A,h,h',r,r',_=>by
  simp only[Rep]at h h';subst h h';obtain⟨t,rfl⟩:=r;obtain⟨t',rfl⟩:=r'
  exact⟨_,by simp,EqAt.int_int i t j t'⟩
 | .int i,.str j,x,y,u,v,A,h,h',r,r',_=>by
  simp only[Rep]at h h';subst h h';obtain⟨t,rfl⟩:=r;obtain⟨t',rfl⟩:=r'
  exact⟨_,by simp,EqAt.int_str i t j t'⟩
 | .str i,.int j,x,y,u,v,A,h,h',r,r',_=>by
  simp only[Rep]at h h';subst h h';obtain⟨t,rfl⟩:=r;obtain⟨t',rfl⟩:=r'
  exact⟨_,by simp,EqAt.str_int i t j t'⟩
 | .str i,.str j,x,y,u,v,A,h,h',r,r',_=>by
  simp only[Rep]at h h';subst h h';obtain⟨t,rfl⟩:=r;obtain⟨t',rfl⟩:=r'
  exact⟨_,by simp,EqAt.str_str i t j t'⟩
 | .int i,.tup j,x,y,u,v,A,h,h',r,r',hu=>by
  simp only[Rep]at h h';subst h;obtain⟨t,rfl⟩:=r
  obtain⟨a,xs,rfl,h2,_⟩:=h'
  cases r'
  obtain⟨its,_,p,_⟩:=I.tuple h2
  exact⟨false,by simp,EqAt.int_tuple i t (show s.heap.IsTuple a its.toArray from p) (E3 (ER _ _) hu)⟩
 | .str i,.tup j,x,y,u,v,A,h,h',r,r',hu=>by
  simp only[Rep]at h h';subst h;obtain⟨t,rfl⟩:=r
  obtain⟨a,xs,rfl,h2,_⟩:=h'
  cases r'
  obtain⟨its,_,p,_⟩:=I.tuple h2
  exact⟨false,by simp,EqAt.str_tuple i t (show s.heap.IsTuple a its.toArray from p) (E3 (ER _ _) hu)⟩
 | .tup j,.int i,x,y,u,v,A,h,h',r,r',hu=>by
  simp only[Rep]at h h';subst h';obtain⟨t,rfl⟩:=r'
  obtain⟨a,xs,rfl,h2,_⟩:=h
  cases r
  obtain⟨its,_,p,_⟩:=I.tuple h2
  exact⟨false,by simp,EqAt.tuple_int i t (show s.heap.IsTuple a its.toArray from p) (E3 (ER _ _) hu)⟩
 | .tup j,.str i,x,y,u,v,A,h,h',r,r',hu=>by
  simp only[Rep]at h h';subst h';obtain⟨t,rfl⟩:=r'
  obtain⟨a,xs,rfl,h2,_⟩:=h
  cases r
  obtain⟨its,_,p,_⟩:=I.tuple h2
  exact⟨false,by simp,EqAt.tuple_str i t (show s.heap.IsTuple a its.toArray from p) (E3 (ER _ _) hu)⟩
 | .tup ds,.tup es,x,y,u,v,A,h,h',r,r',hu=>by
  by_cases hne:u=v
  ·subst hne
   have hxy:x=y:=r.inj r'
   subst hxy
   exact⟨true,by simp[Rep.inj I h h'],EqAt.same u⟩
  ·simp only[Rep]at h h'
   obtain⟨a,xs,rfl,h2,h3⟩:=h
   obtain⟨b,ys,rfl,h4,h5⟩:=h'
   cases r
   cases r'
   obtain⟨its,rv,p,_⟩:=I.tuple h2
   obtain⟨its',rv',p',_⟩:=I.tuple h4
   have hab:a≠b:=λz=>hne (by rw[z])
   have hu':A.in1.units+aH ds<cLine:=by
    have:A.units+(aH ds+1)<cLine:=by rw[D.depth]at hu;exact hu
    show A.units+1+aH ds<cLine
    omega
   obtain⟨e,he,hE⟩:=fL I ds es (A:=A.in1) h3 h5 rv rv' hu'
   have R:=RcAt.tuples (A:=A) (s:=s) (l:=a) (b:=b) (items:=its.toArray) (items2:=its'.toArray) (e:=e) (show s.heap.IsTuple a its.toArray from p) (show s.heap.IsTuple b its'.toArray from p') (E3 (ER _ _) hu) (λj h1 h2=>by
    simpa using hE j (its[j]'(by simpa using h1)) (its'[j]'(by simpa using h2)) (by simp) (by simp))
   refine⟨_,?_,EqAt.of_refs hab R⟩
   rw[he.symm]
   have l1:its.toArray.size=ds.length:=by rw[DT,←rv.length,h3.length]
   have l2:its'.toArray.size=es.length:=by rw[DT,←rv'.length,h5.length]
   rw[l1,l2]
   simp
theorem fL (I:Inv X pins Z H s):∀(ds es:List D) {xs ys:List V} {us vs:List Value} {A:Around},Reps X.K H ds xs->Reps X.K H es ys->Vals xs us->Vals ys vs->A.units+aH ds<cLine →
  ∃e:Nat->Bool,(((Es (min ds.length es.length)).all e=true/\ds.length=es.length)↔D.tup ds=D.tup es)/\∀(j:Nat) u v,us[j]?=some u->vs[j]?=some v->EqAt A s u v (e j)
 | [],es,xs,ys,us,vs,A,h,h',r,r',_=>by
  rw[Reps]at h;subst h;cases r
  refine⟨λ_=>true,?_,λj u v e=>by simp at e⟩
  cases es<;>simp
 | d::ds,[],xs,ys,us,vs,A,h,h',r,r',_=>by
  rw[Reps]at h';subst h';cases r'
  exact⟨λ_=>true,by simp,λj u v _ e=>by simp at e⟩
 | d::ds,e::es,xs,ys,us,vs,A,h,h',r,r',hu=>by
  simp only[Reps]at h h'
  obtain⟨x,q,rfl,h2,h3⟩:=h
  obtain⟨y,q',rfl,h4,h5⟩:=h'
  cases r with
  | cons r1 r2=>
   cases r' with
   | cons r3 r4=>
    rw[aH]at hu
    have m1:=Gy d.depth (aH ds)
    have m2:=Gk d.depth (aH ds)
    obtain⟨b,hb,hB⟩:=rE I d e (A:=A) h2 h4 r1 r3 (by omega)
    obtain⟨f,hf,hF⟩:=fL I ds es (A:=A) h3 h5 r2 r4 (by omega)
    refine⟨λj=>match j with|0=>b|j+1=>f j,?_,λj u v e1 e2=>?_⟩
    ·have hf':((Es (min ds.length es.length)).all f=true/\ds.length=es.length)↔ds=es:=by rw[hf];simp
     rw[D5,D5,Nat.succ_min_succ,Gr,E6,List.all_map]
     simp only[D.tup.injEq,ES.injEq,DU,Nat.add_right_cancel_iff]
     rw[←hf',←hb]
     constructor
     ·rintro⟨⟨a1,a2⟩,a3⟩;exact⟨a1,a2,a3⟩
     ·rintro⟨a1,a2,a3⟩;exact⟨⟨a1,a2⟩,a3⟩
    ·cases j with
     | zero=>simp at e1 e2;subst e1 e2;exact hB
     | succ j=>exact hF j u v (by simpa using e1) (by simpa using e2)
end
end
section
variable  {X:Cx}
def CC (K:yF):R2:=λx y H Q=>∃ds es,Rep K H (.tup ds) x/\Rep K H (.tup es) y/\aH ds<=50/\∀b,(b=true↔ds=es)->Q (.bl b) H
def CI (K:yF):R2:=λx y H Q=>∃ds es,Rep K H (.tup ds) x/\Rep K H (.tup es) y/\aH ds<=50/\∀b,(b=true↔ds≠es)->Q (.bl b) H
theorem ze (hu:X.A.units+64<cLine):OpR X (compareOp .Eq) (CC X.K):=by
 intro pins s Z H x y v u Q I rx ry h
 obtain⟨ds,es,h1,h2,hd,q⟩:=h
 rw[Rep.tup_iff]at h1 h2
 obtain⟨a,xs,rfl,h3,h4⟩:=h1
 obtain⟨b,ys,rfl,h5,h6⟩:=h2
 cases rx
 cases ry
 obtain⟨its,rv,p,_⟩:=I.tuple h3
 obtain⟨its',rv',p',_⟩:=I.tuple h5
 have hu':X.A.in1.units+aH ds<cLine:=by show X.A.units+1+aH ds<cLine;omega
 obtain⟨e,he,hE⟩:=fL I ds es (A:=X.A.in1) h4 h6 rv rv' hu'
 have R:=SeqAt.RcAt.tuples (A:=X.A) (s:=s) (l:=a) (b:=b) (items:=its.toArray) (items2:=its'.toArray) (e:=e) (show s.heap.IsTuple a its.toArray from p) (show s.heap.IsTuple b its'.toArray from p') (by omega) (λj h1 h2=>by
  simpa using hE j (its[j]'(by simpa using h1)) (its'[j]'(by simpa using h2)) (by simp) (by simp))
 refine R X.prog X.w X.xe _ ⟨.bl _,H,I,rfl,q _ ?_⟩
 have l1:its.toArray.size=ds.length:=by rw[DT,←rv.length,h4.length]
 have l2:its'.toArray.size=es.length:=by rw[DT,←rv'.length,h6.length]
 have he':((Es (min ds.length es.length)).all e=true/\ds.length=es.length)↔ds=es:=by rw[he];simp
 rw[l1,l2,←he']
 simp
theorem zk (hu:X.A.units+64<cLine):OpR X (compareOp .NotEq) (CI X.K):=by
 intro pins s Z H x y v u Q I rx ry h
 obtain⟨ds,es,h1,h2,hd,q⟩:=h
 rw[Rep.tup_iff]at h1 h2
 obtain⟨a,xs,rfl,h3,h4⟩:=h1
 obtain⟨b,ys,rfl,h5,h6⟩:=h2
 cases rx
 cases ry
 obtain⟨its,rv,p,_⟩:=I.tuple h3
 obtain⟨its',rv',p',_⟩:=I.tuple h5
 have hu':X.A.in1.units+aH ds<cLine:=by show X.A.units+1+aH ds<cLine;omega
 obtain⟨e,he,hE⟩:=fL I ds es (A:=X.A.in1) h4 h6 rv rv' hu'
 have R:=SeqAt.RcNeAt.tuples (A:=X.A) (s:=s) (l:=a) (b:=b) (items:=its.toArray) (items2:=its'.toArray) (e:=e) (show s.heap.IsTuple a its.toArray from p) (show s.heap.IsTuple b its'.toArray from p') (by omega) (λj h1 h2=>by
  simpa using hE j (its[j]'(by simpa using h1)) (its'[j]'(by simpa using h2)) (by simp) (by simp))
 refine R X.prog X.w X.xe _ ⟨.bl _,H,I,rfl,q _ ?_⟩
 have l1:its.toArray.size=ds.length:=by rw[DT,←rv.length,h4.length]
 have l2:its'.toArray.size=es.length:=by rw[DT,←rv'.length,h6.length]
 have he':((Es (min ds.length es.length)).all e=true/\ds.length=es.length)↔ds=es:=by rw[he];simp
 rw[l1,l2,ne_eq,←not_congr he',EB,←Ha,DU,beq_iff_eq]
def CD (K:yF):R2:=λx y H Q=>∃a b xs ys ds es,x=.ref a/\y=.ref b/\SqL K H a xs/\SqL K H b ys/\Reps K H ds xs/\Reps K H es ys/\aH ds<=50/\∀c,(c=true↔ds=es)->Q (.bl c) H
def CJ (K:yF):R2:=λx y H Q=>∃a b xs ys ds es,x=.ref a/\y=.ref b/\SqL K H a xs/\SqL K H b ys/\Reps K H ds xs/\Reps K H es ys/\aH ds<=50/\∀c,(c=true↔ds≠es)->Q (.bl c) H
theorem zf (hu:X.A.units+64<cLine):OpR X (compareOp .Eq) (CD X.K):=by
 intro pins s Z H x y v u Q I rx ry h
 obtain⟨a,b,xs,ys,ds,es,rfl,rfl,h3,h5,h4,h6,hd,q⟩:=h
 cases rx
 cases ry
 obtain⟨its,rv,p,_⟩:=I.list h3
 obtain⟨its',rv',p',_⟩:=I.list h5
 have hu':X.A.in1.units+aH ds<cLine:=by show X.A.units+1+aH ds<cLine;omega
 obtain⟨e,he,hE⟩:=fL I ds es (A:=X.A.in1) h4 h6 rv rv' hu'
 have l1:its.toArray.size=ds.length:=by rw[DT,←rv.length,h4.length]
 have l2:its'.toArray.size=es.length:=by rw[DT,←rv'.length,h6.length]
 have he':((Es (min ds.length es.length)).all e=true/\ds.length=es.length)↔ds=es:=by rw[he];simp
 by_cases hl:ds.length=es.length
 ·have R:=SeqAt.RcAt.lists (A:=X.A) (s:=s) (l:=a) (b:=b) (items:=its.toArray) (items2:=its'.toArray) (e:=e) p.isList p'.isList (by rw[l1,l2];exact hl) (by omega) (λj h1 h2=>by
   simpa using hE j (its[j]'(by simpa using h1)) (its'[j]'(by simpa using h2)) (by simp) (by simp))
  refine R X.prog X.w X.xe _ ⟨.bl _,H,I,rfl,q _ ?_⟩
  rw[l1,←he',←hl,Ht]
  simp
 ·have R:=SeqAt.RcAt.lists_lengths (A:=X.A) (s:=s) (l:=a) (b:=b) (items:=its.toArray) (items2:=its'.toArray) p.isList p'.isList (by rw[l1,l2];simpa using hl) (by omega)
  refine R X.prog X.w X.xe _ ⟨.bl _,H,I,rfl,q _ ?_⟩
  constructor
  ·intro z;cases z
  ·intro z;exact absurd (by rw[z]) hl
theorem zm (hu:X.A.units+64<cLine):OpR X (compareOp .NotEq) (CJ X.K):=by
 intro pins s Z H x y v u Q I rx ry h
 obtain⟨a,b,xs,ys,ds,es,rfl,rfl,h3,h5,h4,h6,hd,q⟩:=h
 cases rx
 cases ry
 obtain⟨its,rv,p,_⟩:=I.list h3
 obtain⟨its',rv',p',_⟩:=I.list h5
 have hu':X.A.in1.units+aH ds<cLine:=by show X.A.units+1+aH ds<cLine;omega
 obtain⟨e,he,hE⟩:=fL I ds es (A:=X.A.in1) h4 h6 rv rv' hu'
 have l1:its.toArray.size=ds.length:=by rw[DT,←rv.length,h4.length]
 have l2:its'.toArray.size=es.length:=by rw[DT,←rv'.length,h6.length]
 have he':((Es (min ds.length es.length)).all e=true/\ds.length=es.length)↔ds=es:=by rw[he];simp
 by_cases hl:ds.length=es.length
 ·have R:=SeqAt.RcNeAt.lists (A:=X.A) (s:=s) (l:=a) (b:=b) (items:=its.toArray) (items2:=its'.toArray) (e:=e) p.isList p'.isList (by rw[l1,l2];exact hl) (by omega) (λj h1 h2=>by
   simpa using hE j (its[j]'(by simpa using h1)) (its'[j]'(by simpa using h2)) (by simp) (by simp))
  refine R X.prog X.w X.xe _ ⟨.bl _,H,I,rfl,q _ ?_⟩
  rw[l1,ne_eq,←not_congr he',←hl,Ht]
  simp
 ·have R:=SeqAt.RcNeAt.lists_lengths (A:=X.A) (s:=s) (l:=a) (b:=b) (items:=its.toArray) (items2:=its'.toArray) p.isList p'.isList (by rw[l1,l2];simpa using hl) (by omega)
  refine R X.prog X.w X.xe _ ⟨.bl _,H,I,rfl,q _ ?_⟩
  constructor
  ·intro _ z;exact absurd (by rw[z]) hl
  ·intro _;rfl
open Classical in
noncomputable def isD (K:yF) (H:Hp) (d:D) (u:Value):Bool:=decide (∃v,RelV v u/\Rep K H d v)
open Classical in
theorem oO {K:yF}{H:Hp}{d:D}{u:Value}:isD K H d u=true ↔ ∃v,RelV v u/\Rep K H d v:=by
 unfold isD
 exact decide_eq_true_iff
theorem gA {pins:List (Addr×Obj)}{Z:St}{H:Hp}{s:Shared}(I:Inv X pins Z H s){d:D}:∀{ds:List D} {xs:List V} {us:List Value},Reps X.K H ds xs->Vals xs us->(us.any (isD X.K H d)=true↔d∈ds)
 | [],xs,us,h,r=>by rw[Reps]at h;subst h;cases r;simp
 | e::ds,xs,us,h,r=>by
  rw[Reps]at h
  obtain⟨x,q,rfl,h2,h3⟩:=h
  cases r with
  | @cons _ u0 _ us0 r1 r2=>
   rw[Gb,FS,gA I h3 r2,Er]
   have:isD X.K H d u0=true↔d=e:=by
    rw[oO]
    constructor
    ·rintro⟨v,rv,hv⟩
     rw[rv.inj r1]at hv
     exact Rep.inj I hv h2
    ·intro z
     subst z
     exact⟨x,r1,h2⟩
   rw[this]
theorem fk {pins:List (Addr×Obj)}{Z:St}{H:Hp}{s:Shared}(I:Inv X pins Z H s){A:Around}{d:D}{x:V}{v:Value}(hx:Rep X.K H d x)(rx:RelV x v){ds:List D}(hu:A.units+aH ds<cLine) :
  ∀{es:List D} {xs:List V} {us:List Value},(∀e∈es,e∈ds)->Reps X.K H es xs->Vals xs us->∀u∈us,SeqAt.EqAt A s u v (isD X.K H d u)
 | [],xs,us,_,h,r=>by rw[Reps]at h;subst h;cases r;intro u hu;cases hu
 | e::es,xs,us,hs,h,r=>by
  rw[Reps]at h
  obtain⟨y,q,rfl,h2,h3⟩:=h
  cases r with
  | cons r1 r2=>
   intro u hu'
   rcases ycM hu' with z|z
   ·subst z
    obtain⟨b,hb,hB⟩:=rE I e d (A:=A) h2 hx r1 rx (E3 (GM (j0 (hs e ymS)) _) hu)
    have:isD X.K H d u=b:=by
     have h5:isD X.K H d u=true↔e=d:=by
      rw[oO]
      constructor
      ·rintro⟨w,rw',hw⟩
       rw[rw'.inj r1]at hw
       exact(Rep.inj I hw h2).symm
      ·intro z
       subst z
       exact⟨y,r1,h2⟩
     rw[EY,h5,hb]
    rw[this]
    exact hB
   ·exact fk I hx rx hu (λe' h'=>hs e' (ymC _ h')) h3 r2 u z
def wN (K:yF)(neg:Bool):R2:=λx y H Q=>∃p xs d ds,y=.ref p/\(SqL K H p xs∨SqT K H p xs)/\Rep K H d x/\Reps K H ds xs/\aH ds<=50/\∀b,(b=true↔(if neg=true then d∉ds else d∈ds))->Q (.bl b) H
theorem zh (hu:X.A.units+64<cLine):OpR X (compareOp .In) (wN X.K false):=by
 intro pins s Z H x y v u Q I rx ry h
 obtain⟨p,xs,d,ds,rfl,hq,hx,hs,hd,q⟩:=h
 cases ry
 have hu':X.A.in1.units+aH ds<cLine:=by show X.A.units+1+aH ds<cLine;omega
 rcases hq with hq|hq
 ·obtain⟨its,rv,pl,_⟩:=I.list hq
  refine SeqAt.in_listAt (isD X.K H d) pl.isList (λy hy=>fk I hx rx hu' (λ_ z=>z) hs rv y (by simpa using hy)) ⟨.bl _,H,I,rfl,q _ ?_⟩
  rw[if_neg (by decide),←gA I hs rv];simp
 ·obtain⟨its,rv,pl,_⟩:=I.tuple hq
  refine SeqAt.in_tupleAt (isD X.K H d) (show s.heap.IsTuple p its.toArray from pl) (λy hy=>fk I hx rx hu' (λ_ z=>z) hs rv y (by simpa using hy)) ⟨.bl _,H,I,rfl,q _ ?_⟩
  rw[if_neg (by decide),←gA I hs rv];simp
theorem qc (hu:X.A.units+64<cLine):OpR X (compareOp .NotIn) (wN X.K true):=by
 intro pins s Z H x y v u Q I rx ry h
 obtain⟨p,xs,d,ds,rfl,hq,hx,hs,hd,q⟩:=h
 cases ry
 have hu':X.A.in1.units+aH ds<cLine:=by show X.A.units+1+aH ds<cLine;omega
 rcases hq with hq|hq
 ·obtain⟨its,rv,pl,_⟩:=I.list hq
  refine SeqAt.notIn_listAt (isD X.K H d) pl.isList (λy hy=>fk I hx rx hu' (λ_ z=>z) hs rv y (by simpa using hy)) ⟨.bl _,H,I,rfl,q _ ?_⟩
  rw[if_pos rfl,←gA I hs rv];simp
 ·obtain⟨its,rv,pl,_⟩:=I.tuple hq
  refine SeqAt.notIn_tupleAt (isD X.K H d) (show s.heap.IsTuple p its.toArray from pl) (λy hy=>fk I hx rx hu' (λ_ z=>z) hs rv y (by simpa using hy)) ⟨.bl _,H,I,rfl,q _ ?_⟩
  rw[if_pos rfl,←gA I hs rv];simp
def mX (i j:Int):Prop:=0<j/\j<2^64
theorem qb:OpR X (binaryOp .FloorDiv) (rI mX λi j=>.int (i / j)):=opI λi j _ _ _ _ _ hc q=>by
 have h1:(0:Int)<j:=hc.1
 have h2:j<2^64:=hc.2
 refine floordiv_int (by omega) (by rw[Int.fdiv_eq_ediv_of_nonneg i (by omega)];exact q) (.inl (PyProof.noPylong_of_log2 ?_))
 have h3:j.natAbs<2^64:=by omega
 have h4:j.natAbs≠0:=by omega
 have:=(HE h4).mpr h3
 omega
theorem zQ {tg e:Expr}{te:TE}(he:PE X e te):PI X tg e (λZ H R=>te Z H λx H1=>∃z:Str,x=.str z/\R ⟨λi _=>i<z.cps.size,λi H y H'=>H'=H/\∃c,z.cps[i]?=some c/\y=.str ⟨#[c]⟩,λi _=>z.cps.size<=i⟩ H1):=by
 intro pins s Z H R I h
 refine thn (he pins s Z H _ I h) λv s1 ⟨x,H1,I1,r1,q1⟩=>?_
 obtain⟨z,rfl,q⟩:=q1
 obtain⟨t,rfl⟩:=r1
 have main:∀(n:String) (o:Obj),(["enumerate","zip","dict_itemiterator","dict_reverseitemiterator","odict_iterator","itertools.zip_longest","itertools.pairwise"].contains n=false) →
   o={cls:=.type n,data:=.fields #[.str z t,.int 0 0]}->(∀A':Around,A'.handled=none->Walks X.prog X.w A' s1.heap.objs.size [s1.heap.objs.size] [s1.heap.objs.size] z.cps.size (SignAt z) (λi h=>h.IsStrIter s1.heap.objs.size n z t i)) →
   (∀(A:Around) (i:Nat) (s:Shared) (Q:Value->Shared->Prop) (E:Value->Shared->Prop),s.heap.IsStrIter s1.heap.objs.size n z t i->Q (.ref s1.heap.objs.size) s->wpAny (model X.prog X.w) A (pyIter (.ref s1.heap.objs.size)) Q E s) →
   PIE X pins Z tg R (.ref s1.heap.objs.size) {s1 with heap:=s1.heap.push o}:=by
  intro n o hn ho W hself
  subst ho
  refine⟨s1.heap.objs.size,[s1.heap.objs.size],λi h=>h.IsStrIter s1.heap.objs.size n z t i/\i<=z.cps.size,_,H1,rfl,I1.kept (t':=s1.toks) λb o e=>Heap.get?_push_of_some _ e,?_,⟨⟨_,Heap.get?_push_size _ rfl,rfl,rfl⟩,Ff _⟩,λb hb=>?_,q⟩
  ·refine⟨by simp,λi h st b hb=>?_,λi h h' st k=>⟨?_,st.2⟩,?_,?_,λA i s Q E st h=>?_⟩
   ·have e:b=s1.heap.objs.size:=by simpa using hb
    subst e
    obtain⟨o,e,c,d⟩:=st.1
    exact⟨o,e,λv z=>by rw[d]at z;cases z⟩
   ·obtain⟨o,ho,r⟩:=st.1
    exact⟨o,k _ (by simp) o ho,r⟩
   ·intro Y hP hw hK hc i pins' s' Z' H' E I' hf st hg
    obtain⟨f0,f1,f2,f3,f4,f5⟩:=hf s1.heap.objs.size (by simp)
    refine(W Y.A (I'.ok.hd hc)).item i s' _ _ hg st.1 λv h' tk hv st' kk=>?_
    obtain⟨c,u,hc',rfl⟩:=hv
    have I1':Inv Y pins' Z' H' {s' with heap:=h',toks:=tk}:=I'.turned (λb o hb e=>kk b o (by simpa using hb) e) f0 f1 f3 f4 f5
    obtain⟨o,e,cl,d⟩:=id st'
    exact⟨_,rfl,oK (s:={s' with heap:=h',toks:=tk}) e cl d hn ⟨.str ⟨#[c]⟩,H',I1',⟨u,rfl⟩,⟨rfl,c,hc',rfl⟩,⟨st',hg⟩,λb hb=>(hf b hb).1⟩⟩
   ·intro Y hP hw hK hc i pins' s' Z' H' E I' hf st hg
    obtain⟨f0,f1,f2,f3,f4,f5⟩:=hf s1.heap.objs.size (by simp)
    have hi:i=z.cps.size:=Nat.le_antisymm st.2 hg
    refine(W Y.A (I'.ok.hd hc)).done s' _ _ (hi▸st.1) λh' tk kk=>⟨rfl,?_⟩
    exact I'.turned (λb o hb e=>kk b o (by simpa using hb) e) f0 f1 f3 f4 f5
   ·exact hself A i s Q E st.1 h
  ·have e:b=s1.heap.objs.size:=by simpa using hb
   subst e
   exact I1.fpOk (DY _) (I1.hok.fresh (DY _))
 cases ha:z.cps.all (· < 128)
 ·exact wpAny_pyIter_wide ha (main "str_iterator" _ (by decide) rfl (λA' hA=>Walks.strWide hA _ z t) λA i s Q E st h=>wpAny_pyIter_striter_wide st h)
 ·exact wpAny_pyIter_ascii ha (main "str_ascii_iterator" _ (by decide) rfl (λA' hA=>Walks.strAscii hA _ z t) λA i s Q E st h=>wpAny_pyIter_striter_ascii st h)
end
noncomputable abbrev sL (z:Str):List Nat:=z.cps.toList
noncomputable abbrev oL (l:List Nat):Str:=⟨l.toArray⟩
theorem dw (l:List Nat):sL (oL l)=l:=rfl
theorem sn (z:Str):oL (sL z)=z:=by cases z;rfl
theorem dN (z:Str):z.length=(sL z).length:=by unfold Str.length sL;rw[EO]
theorem jE (x y:Str):sL (x++y)=sL x++sL y:=by
 show(x.cps++y.cps).toList=_
 rw[Array.toList_append]
theorem lC {x y:Str}(h:sL x=sL y):x=y:=by rw[←sn x,h,sn]
noncomputable def cu {α:Type} (xs:List α) (lo hi:Option Int):List α:=(xs.drop (HT.sIx xs.length 0 lo)).take (HT.sIx xs.length xs.length hi-HT.sIx xs.length 0 lo)
theorem mQ (lo hi:Option Int)(n:Nat):Builtin.Str.strSliceIndices lo hi 1 n=(Es (HT.sIx n n hi-HT.sIx n 0 lo)).map (HT.sIx n 0 lo + ·):=by
 have h1:(1:Int)>0:=by omega
 have clip:∀(v:Option Int) (d:Nat),(match v with|none=>(d:Int)|some i=>(if(1:Int)>0 then max 0 (min (if i<0 then i+(n:Int)else i) (n:Int))else max (-1) (min (if i<0 then i+(n:Int)else i) ((n:Int)-1))))=((HT.sIx n d v:Nat):Int):=by
  intro v d
  cases v with
  | none=>rfl
  | some i=>
   show(if(1:Int)>0 then max 0 (min (if i<0 then i+(n:Int)else i) (n:Int))else _)=(((if i<0 then(i+(n:Int)).toNat else min i.toNat n):Nat):Int)
   rw[if_pos h1]
   by_cases hi:i<0
   ·simp only[if_pos hi];omega
   ·simp only[if_neg hi];omega
 have e:Builtin.Str.strSliceIndices lo hi 1 n=sliceRange ((HT.sIx n 0 lo:Nat):Int) ((HT.sIx n n hi:Nat):Int) 1:=by
  unfold Builtin.Str.strSliceIndices
  simp only[h1,if_true]
  have c1:=clip lo 0
  have c2:=clip hi n
  simp only[h1,if_true]at c1 c2
  rw[←c1,←c2]
  rfl
 rw[e,sliceRange_one]
theorem kL (x:Str)(lo hi:Option Int):Txt.slice x lo hi=oL (cu (sL x) lo hi):=by
 have hn:x.length=(sL x).length:=dN x
 have key:((Builtin.Str.strSliceIndices lo hi 1 x.length).filterMap (x.cps[·]?))=cu (sL x) lo hi:=by
  rw[mQ,hn]
  unfold cu
  exact pick_run x.cps _ _
 unfold Txt.slice
 split
 ·rename_i h
  have h2:(Builtin.Str.strSliceIndices lo hi 1 x.length).length=x.length:=by
   simp only[DU]at h
   simpa using h.2
  have h3:(cu (sL x) lo hi)=sL x:=by
   unfold cu
   rw[mQ,DX,List.length_range,hn]at h2
   have a1:=HT.sIx_le (sL x).length (sL x).length (DY _) hi
   have a2:HT.sIx (sL x).length 0 lo=0∨(sL x).length=0:=by omega
   rcases a2 with a2|a2
   ·rw[a2,Hk]
    exact Eg (by omega)
   ·rw[Fq a2]
    simp
  rw[h3,sn]
 ·rw[key]
section
variable  {X:Cx}
theorem AS:SlR X (λx lo hi H Q=>∃z,x=.str z/\z.length<=sizeLine/\Q (.str (oL (cu (sL z) lo hi))) H):=by
 intro pins s Z H x v vl vu lo hi sl Q I rx hs pl pu h
 obtain⟨z,rfl,hz,q⟩:=h
 obtain⟨t,rfl⟩:=rx
 have hp:∀{v:Value} {o:Option Int},IsPart v o->∃p:Option (Int×Tok),v=partValue p/\p.map (·.1)=o:=λ{v o} p=>by
  cases p with
  | none=>exact⟨none,rfl,rfl⟩
  | int i t=>exact⟨some (i,t),rfl,rfl⟩
 obtain⟨l,rfl,rfl⟩:=hp pl
 obtain⟨u,rfl,rfl⟩:=hp pu
 refine⟨"str",_,F.slot_str_getitem.lookup,typeIs_str _ _ _,?_⟩
 refine wpAny_getItem_str_slice (l:=l) (u:=u) (st:=none) hs rfl ?_
 have e:sliceMade z t l u none=if((1:Int)==1&&(Builtin.Str.strSliceIndices (l.map (·.1)) (u.map (·.1)) 1 z.length).length==z.length)=true then Made.val (.str z t)else Made.str ⟨((Builtin.Str.strSliceIndices (l.map (·.1)) (u.map (·.1)) 1 z.length).filterMap (z.cps[·]?)).toArray⟩:=rfl
 rw[e]
 refine post_val_or_str ⟨Ev (Txt.slice_le z _ _) hz,λt' k=>?_⟩
 refine⟨.str (Txt.slice z (l.map (·.1)) (u.map (·.1))),H,I.tok k,⟨t',rfl⟩,?_⟩
 rw[kL]
 exact q
def rSl (K:yF):V->Option Int->Option Int->Hp->VK->Prop:=λx lo hi H Q=>CN K x lo hi H Q∨CM K x lo hi H Q ∨ ∃z,x=.str z/\z.length<=sizeLine/\Q (.str (oL (cu (sL z) lo hi))) H
theorem nR {zs:List Str}:∀{us:List Value},Vals (zs.map V.str) us->StrsAre us zs:=by
 induction zs with
 | nil=>intro us r;rw[E7]at r;cases r;exact .nil
 | cons n ns ih=>
  intro us r
  rw[DS]at r
  cases r with
  | cons r1 r2=>
   obtain⟨t,e⟩:=r1
   subst e
   exact .cons n t (ih r2)
theorem vI:MtR X "str.join" (λx vs H Q=>∃z a zs,x=.str z/\vs=[.ref a]/\SqL X.K H a (zs.map V.str)/\(zs.map (·.length)).sum+zs.length*z.length<=16777216/\Q (.str (Txt.join z zs)) H):=by
 intro pins s Z H x xs v us Q I rx rv h
 obtain⟨z,a,zs,rfl,rfl,hq,hz,q⟩:=h
 obtain⟨t,rfl⟩:=rx
 obtain⟨u,rfl,ru⟩:=fF rv
 cases ru
 obtain⟨its,r,p,_⟩:=I.list hq
 exact join_list p.isList (by simpa using nR r) hz λt' k=>⟨.str (Txt.join z zs),H,I.tok k,⟨t',rfl⟩,q⟩
theorem pN (zs:List Str):sL (Txt.join (oL []) zs)=(zs.map sL).flatten:=by
 have key:∀(zs:List Str) (acc:Array Nat),(zs.foldl (λacc p=>acc++(oL []).cps++p.cps) acc).toList=acc.toList++(zs.map sL).flatten:=by
  intro zs
  induction zs with
  | nil=>intro acc;simp
  | cons z zs ih=>
   intro acc
   rw[FR,ih]
   simp
 cases zs with
 | nil=>rfl
 | cons z zs=>
  show(zs.foldl (λacc p=>acc++(oL []).cps++p.cps) z.cps).toList=_
  rw[key]
  simp
theorem op_mulS:OpR X (binaryOp .Mult) (λx y H Q=>∃z n,x=.str z/\y=.int n/\1<=n/\n<=1000/\z.length<=1000/\Q (.str (oL (DV n.toNat (sL z)).flatten)) H):=by
 intro pins s Z H x y v u Q I rx ry h
 obtain⟨z,n,rfl,rfl,h1,h2,h3,q⟩:=h
 obtain⟨t,rfl⟩:=rx
 obtain⟨t',rfl⟩:=ry
 have hf:∀(m:Nat) (acc:Array Nat),(DV m z.cps).foldl (· ++ ·) acc=acc++(DV m (sL z)).flatten.toArray:=by
  intro m
  induction m with
  | zero=>intro acc;simp
  | succ m ih=>intro acc;rw[Ez,FR,ih,Ez,EX];apply Array.ext';simp
 have hlen:z.length*n.toNat<=1000*1000:=GH h3 (by omega)
 have e3:¬ n<1:=by omega
 refine P.mul_str ?_ ?_ ?_ ?_
 ·rw[decide_eq_false (by omega),decide_eq_false (by omega)];rfl
 ·intro _ _
  have a1:n*9223372036854775<=2^63-1:=by omega
  have:(9223372036854775:Int)<=(2^63-1) / n:=(Int.le_ediv_iff_mul_le (by omega)).mpr (by omega)
  omega
 ·intro _ _
  unfold Builtin.Str.tooLong
  exact decide_eq_false (by rw[sizeLine_eq];omega)
 ·rw[if_neg e3]
  refine post_val_or_str ?_
  have hv:(if(n==1||z.length==0)=true then z else(⟨(DV n.toNat z.cps).foldl (· ++ ·) #[]⟩:Str))=oL (DV n.toNat (sL z)).flatten:=by
   split
   ·rename_i hc
    rcases Bool.or_eq_true_iff.mp hc with c|c
    ·have:n=1:=by simpa using c
     subst this
     show z=oL (DV 1 (sL z)).flatten
     simp only[Ez,List.replicate_zero,EX,List.flatten_nil,El]
    ·have h0:(sL z).length=0:=by rw[←dN];simpa using c
     have h00:sL z=[]:=Fq h0
     rw[h00]
     apply lC
     rw[h00,dw]
     symm
     exact List.eq_nil_iff_forall_not_mem.mpr λa ha=>by
      obtain⟨l,hl,hal⟩:=Hb.mp ha
      rw[List.eq_of_mem_replicate hl]at hal
      cases hal
   ·rw[hf];simp
  rw[hv]
  refine⟨?_,λt2 k=>⟨.str (oL (DV n.toNat (sL z)).flatten),H,I.tok k,⟨t2,rfl⟩,q⟩⟩
  rw[dN,dw,gK,←dN,sizeLine_eq,G5]
  omega
theorem ij:fillsNumberSlot (.type "tuple") "mul" = pure false:=
 PySem.fillsNumberSlot_seq (id:="tuple.__mul__") (r:=some (.builtin "tuple.__rmul__")) F.slot_tuple_mul.lookup (by decide +kernel) F.slot_tuple_rmul.lookup (by decide +kernel)
theorem lA:seqRepeat? (.type "tuple")=pure (some (.builtin "tuple.__mul__")):=by
 unfold seqRepeat?
 rw[Hc (T:="tuple") (name:="__mul__") (id:="tuple.__mul__") F.slot_tuple_mul.lookup (by decide +kernel),Hc (T:="tuple") (name:="__rmul__") (id:="tuple.__rmul__") F.slot_tuple_rmul.lookup (by decide +kernel)]
 rfl
theorem jb (a:Int)(t:Tok)(l:Addr)(items:Array Value)(n:Nat)(dd:Option Addr)(sl:Array (Option Value)) :
  Meets (Builtin.«int.__rmul__» ⟨[.int a t,.ref l],[]⟩) (λ_ R s=>s.heap.get? l=some {cls:=.type "tuple",dict:=dd,data:=.seq items n,slots:=sl}/\R (.ok (.ret Value.notImplemented)) s):=
 .of_wp λprog w A R s h=>by obtain⟨hp,g,d,tk,os⟩:=s;obtain⟨hl,h⟩:=h;wp_walk;exact⟨_,rfl,h⟩
theorem iT (l:Addr)(items:Array Value)(n:Nat)(dd:Option Addr)(sl:Array (Option Value))(k:Int)(t:Tok)(h1:2<=k)(h2:k<=1000)(hne:items.isEmpty=false)(hz:items.size<=1000) :
  Meets (Builtin.«tuple.__mul__» ⟨[.ref l,.int k t],[]⟩) (λ_ R s=>s.heap.get? l=some {cls:=.type "tuple",dict:=dd,data:=.seq items n,slots:=sl} ∧
   R (.ok (.ret (.ref s.heap.objs.size))) {s with heap:=s.heap.push {cls:=.type "tuple",data:=.seq ((DV k.toNat items).foldl (· ++ ·) #[])}}):=
 .of_wp λprog w A R s h=>by
  obtain⟨hp,g,d,tk,os⟩:=s;obtain⟨hl,h⟩:=h
  have c1:¬ (decide (k < -(2^63))||decide (k≥2^63))=true:=by rw[decide_eq_false (by omega),decide_eq_false (by omega)];decide
  have c2:¬ (items.isEmpty||k==1)=true:=by rw[hne];simp;omega
  have c3:¬ (decide (k<=0)||items.isEmpty)=true:=by rw[hne,decide_eq_false (by omega)];decide
  have c0:((items.size:Nat):Int)*k<=1000*1000:=Int.mul_le_mul (by omega) h2 (by omega) (by omega)
  have c4:¬ ((items.size:Int)*k>(2^63-1) / 8):=by omega
  have c5:¬ Builtin.Tuple.tupleTooMany ((items.size:Int)*k)=true:=by unfold Builtin.Tuple.tupleTooMany;simp;rw[sizeLine_eq];omega
  have f1:=AutoSeq1.idx_int
  wp_walk using AutoSeq1.wpAny_loadPart' hl
  rw[if_neg c1]
  refine wpAny_bind (tupleItemsOf_ ⟨_,hl,rfl,n,rfl⟩ ?_)
  dsimp only
  rw[if_neg c2,if_neg c3,if_neg c4,if_neg c5]
  have hsz:sizeOk (.seq ((DV k.toNat items).foldl (· ++ ·) #[])):=by
   show((DV k.toNat items).foldl (· ++ ·) #[]).size<=sizeLine
   have f0:=dY items.toList k.toNat []
   have e0:(DV k.toNat items.toList.toArray).foldl (· ++ ·) #[]=(DV k.toNat items.toList).flatten.toArray:=by simpa using f0
   have e1:items.toList.toArray=items:=by simp
   rw[e1]at e0
   rw[e0,DT,gK,EO,sizeLine_eq]
   have a1:k.toNat*items.size<=1000*1000:=GH (by omega) hz
   omega
  first
   | exact wpAny_bind (m:=Builtin.Tuple.tupleExact _) (wpAny_newObj_type (wpAny_pure ⟨_,rfl,h⟩) hsz)
   | exact wpAny_bind (wpAny_bind (m:=Builtin.Tuple.tupleExact _) (wpAny_newObj_type (wpAny_pure ⟨_,rfl,h⟩) hsz))
def yf (K:yF):R2:=λx y H Q=>∃l k xs,x=.ref l/\y=.int k/\SqT K H l xs/\xs≠[]/\xs.length<=1000/\1<=k/\k<=1000 ∧
 (k=1->Q (.ref l) H)/\(2<=k->∀p,H p=none->Q (.ref p) (upd H p (.tup (DV k.toNat xs).flatten)))
theorem vR:OpR X (binaryOp .Mult) (yf X.K):=by
 intro pins s Z H x y v u Q I rx ry h
 obtain⟨l,k,xs,rfl,rfl,hH,hne,hlen,h1,h2,q1,q2⟩:=h
 cases rx
 obtain⟨t,rfl⟩:=ry
 obtain⟨its,r,p,hz⟩:=I.tuple (X:=X) hH
 obtain⟨⟨cls,dd,data,sl⟩,ho,hc,n,hd⟩:=id p
 simp only at hc hd
 subst hc hd
 have hl:=r.length
 have hne':its.toArray.isEmpty=false:=by
  cases its with
  | nil=>cases r;exact absurd rfl hne
  | cons a r'=>rfl
 have hTy:s.TypeIs (.ref l) "tuple" :=⟨_,ho,rfl⟩
 refine wpAny_binaryOp_repeat_ref (T:="tuple") (U:="int") (by decide) hTy (λs'=>typeIs_int s' k t) ij F.fills_int_mul F.slot_int_rmul lA F.slot_int_index.lookup
  (call_meets F.slot_int_rmul (typeIs_int s k t) F.entry_int_rmul (F.args_int_rmul_2 _ _) (jb k t l its.toArray n dd sl)
   ⟨ho,rfl,hTy,?_⟩)
 by_cases hk:k=1
 ·subst hk
  refine wpAny_call_entry F.slot_tuple_mul hTy F.entry_tuple_mul ?_ (F.args_tuple_mul_2 _ _)
  have f1:=AutoSeq1.idx_int
  have c1:¬ (decide ((1:Int) < -(2^63))||decide ((1:Int)≥2^63))=true:=by decide
  obtain⟨hp,g,d,tk,os⟩:=s
  wp_walk using AutoSeq1.wpAny_loadPart' ho
  exact⟨_,rfl,.ref l,H,I,rfl,q1 rfl⟩
 ·refine call_meets F.slot_tuple_mul hTy F.entry_tuple_mul (F.args_tuple_mul_2 _ _) (iT l its.toArray n dd sl k t (by omega) h2 hne' (by rw[DT,←hl];exact hlen)) ⟨ho,?_⟩
  have e0:(DV k.toNat its.toArray).foldl (· ++ ·) #[]=(DV k.toNat its).flatten.toArray:=by simpa using dY its k.toNat []
  rw[e0]
  refine⟨.ref s.heap.objs.size,_,I.laid (t':=s.toks) (o:=.tup (DV k.toNat xs).flatten) (λb ob q=>Heap.get?_push_of_some _ q) (DY _) ?_,rfl,q2 (by omega) _ (I.hok.fresh (DY _))⟩
  refine⟨?_,_,r.rep k.toNat,IsTupN.new _ _⟩
  rw[gK,sizeLine_eq]
  have a1:k.toNat*xs.length<=1000*1000:=GH (by omega) hlen
  omega
theorem gi (l:Addr)(items:Array Value)(n:Nat)(b:Addr)(items2:Array Value)(n2:Nat)(dd:Option Addr)(sl:Array (Option Value))(hs0:¬(!items.isEmpty&&Builtin.List.listTooLong (items.size+items2.size))=true)(hs1:items.size<=sizeLine)(hs2:items.size+items2.size<=sizeLine+1) :
  Meets (Builtin.«list.extend» ⟨[.ref l,.ref b],[]⟩) (λ_ R s=>s.heap.get? l=some {cls:=.type "list",dict:=none,data:=.seq items n,slots:=#[]}/\s.heap.get? b=some {cls:=.type "tuple",dict:=dd,data:=.seq items2 n2,slots:=sl}/\R (.ok (.ret Value.none)) {s with heap:=s.heap.update l (Obj.mapSeq λx=>x++items2),toks:=s.toks}):=
 .of_wp λprog w A R s h=>by
  obtain⟨hp,g,d,tk,os⟩:=s;obtain⟨hl,hb,h⟩:=h;have f1:=AutoSeq1.idx_int;have f2:=AutoSeq1.sub_tuple_tuple;have f3:=AutoSeq1.sub_list_list;have f4:=AutoSeq1.sub_tuple_list;have f5:=AutoSeq1.sub_list_tuple;
  have hz':(items++items2).size<=sizeLine+1:=by rw[G6];exact hs2
  wp_walk using(wpAny_updateSeq hl rfl (hz:=hs1) (_hz':=hz')),AutoSeq1.wpAny_loadPart' hl,AutoSeq1.wpAny_loadPart' hb;exact⟨_,rfl,h⟩
def mH (K:yF):V->List V->Hp->VK->Prop:=λx vs H Q=>∃l b xs zs,x=.ref l/\vs=[.ref b]/\H l=some (.lst xs)/\SqT K H b zs/\xs.length+zs.length<=sizeLine/\Q .non (upd H l (.lst (xs++zs)))
theorem nC:MtM X "list.extend" (mH X.K):=by
 intro pins s Z H x vs v us Q I rx rv h
 obtain⟨l,b,xs,zs,rfl,rfl,hH,hB,hz,q⟩:=h
 cases rx
 obtain⟨u,rfl,ru⟩:=rv.one
 cases ru
 obtain⟨z,its,n,r,hl,e⟩:=I.lstM hH
 obtain⟨its2,r2,p2,z2⟩:=I.tuple hB
 obtain⟨⟨cls,dd,data,sl⟩,ho,hc,n2,hd⟩:=id p2
 simp only at hc hd
 subst hc hd
 have hl2:=r2.length
 have hsz:its.toArray.size+its2.toArray.size<=sizeLine:=by rw[DT,DT];omega
 have hlong:¬ (!its.toArray.isEmpty&&Builtin.List.listTooLong (its.toArray.size+its2.toArray.size))=true:=by
  rw[dn hsz,GG]
  exact D0
 refine call_meets F.slot_list_extend ⟨_,e,rfl⟩ F.entry_list_extend (F.args_list_extend_2 _ _)
  (gi l its.toArray n b its2.toArray n2 dd sl hlong (by rw[DT];omega) (by omega)) ⟨e,ho,?_⟩
 refine⟨.non,_,I.lset (its':=its++its2) hH e (by simp) (r.append r2) ?_,rfl,q⟩
 rw[D8]
 omega
end
section
variable  {X:Cx}
theorem e8 {α β:Type}{f : α->Option β}{g : α->β}:∀{l:List α},(∀k∈l,f k=some (g k))->l.filterMap f=l.map g
 | [],_=>rfl
 | a::l,h=>by
  rw[Ei,h a ymS,DS]
  show g a::_=_
  rw[e8 λk hk=>h k (ymC _ hk)]
theorem ur (xs:Array Value):((Es xs.size).filterMap λ(k:Nat)=>xs[(((xs.size:Int)-1)+(k:Int) * -1).toNat]?)=xs.toList.reverse:=by
 apply Fn
 intro i
 rw[e8 (g:=λk=>(xs[xs.size-1-k]?).getD default) (λk hk=>?_),DZ]
 ·by_cases hi:i<xs.size
  ·have h2:xs.size-1-i<xs.size:=by omega
   rw[GN hi,List.getElem?_reverse (by simpa using hi)]
   simp[h2]
  ·rw[GB (by simpa using hi),GB (by simpa using hi)]
   rfl
 ·have hk':=E8.mp hk
  have e1:((((xs.size:Nat):Int)-1)+(k:Int) * -1).toNat=xs.size-1-k:=by omega
  rw[e1]
  have h2:xs.size-1-k<xs.size:=by omega
  simp[h2]
theorem gG {prog:Program}{w:World}{A:Around}{E:Value->Shared->Prop}{s:Shared}{t sl:Addr}{tt:Tok}{items:Array Value}{Q:Value->Shared->Prop}(ht:IsTup s.heap t items)(hs:s.heap.IsSliceOf sl .none .none (.int (-1) tt))
  (h:Q (.ref s.heap.objs.size) {s with heap:=s.heap.push {cls:=.type "tuple",data:=.seq items.toList.reverse.toArray}})
  (hsz:items.size<=sizeLine):wpAny (model prog w) A (getItem (.ref t) (.ref sl)) Q E s:=by
 have htake:sizeOk (.seq items.toList.reverse.toArray):=by
  show items.toList.reverse.toArray.size<=sizeLine
  rw[DT,GO,EO]
  exact hsz
 obtain⟨os,hos,hcs,hds⟩:=id hs
 have hTs:s.TypeIs (.ref sl) "slice" :=⟨os,hos,hcs⟩
 unfold getItem
 try with_reducible refine wpAny_holding ?_
 first|refine wpAny_bind (wpAny_pure ?_)|skip
 refine wpAny_bind (wpAny_sequenceKey ht.typeIs (by decide) ?_)
 refine wpAny_bind (wpAny_callSpecial?_slot (name:=Str.ofString "__getitem__") ht.typeIs ED
  (wpAny_call_entry ED ht.typeIs entry_tuple_getitem ?_ (args_tuple_getitem _ _)))
 show wpAny _ _ (Builtin.Tuple.tupleItemsOf (.ref t) >>= _) _ _ s
 refine wpAny_bind (tupleItemsOf_ ht ?_)
 refine wpAny_bind (wpAny_typeOf hTs ?_)
 rw[if_pos (by decide)]
 have app:∀{Q':Int×Int×Nat->Shared->Prop},Q' ((items.size:Int)-1,-1,items.size) s->wpAny (model prog w) A.in1 (Builtin.Slice.sliceApplied (.ref sl) (pure (items.size:Int))) Q' E s:=by
  intro Q' hq
  unfold Builtin.Slice.sliceApplied Builtin.Slice.sliceFields
  refine wpAny_bind (wpAny_bind (wpAny_field hos hds (x:=.none) rfl (wpAny_bind (wpAny_field hos hds (x:=.none) rfl (wpAny_bind (wpAny_field hos hds (x:=.int (-1) tt) rfl (wpAny_pure ?_)))))))
  refine wpAny_bind (slicePart_int ?_)
  show wpAny _ _ (if((-1:Int)==0)=true then _ else _) _ _ s
  rw[if_neg (by decide)]
  refine wpAny_bind (slicePart_none (wpAny_bind (slicePart_none (wpAny_bind (wpAny_pure ?_)))))
  show wpAny _ _ (match Builtin.Slice.sliceAdjust none none (-1) (items.size:Int)with|(lo,hi)=>pure (lo,(-1:Int),Builtin.Slice.slicePlaces lo hi (-1))) _ _ s
  have e1:Builtin.Slice.sliceAdjust none none (-1) (items.size:Int)=((items.size:Int)-1,-1):=by
   unfold Builtin.Slice.sliceAdjust
   simp
  rw[e1]
  have e2:Builtin.Slice.slicePlaces ((items.size:Int)-1) (-1) (-1)=items.size:=by
   unfold Builtin.Slice.slicePlaces
   rw[if_neg (by omega)]
   split
   ·rw[Int.neg_neg,Hr];omega
   ·omega
  show wpAny _ _ (pure ((items.size:Int)-1,(-1:Int),Builtin.Slice.slicePlaces ((items.size:Int)-1) (-1) (-1))) _ _ s
  rw[e2]
  exact wpAny_pure hq
 refine wpAny_bind (app ?_)
 show wpAny _ _ (if((((items.size:Int)-1)==0&&(-1:Int)==1&&items.size==items.size))=true then _ else _) _ _ s
 rw[if_neg (by simp),ur]
 first
  | exact wpAny_bind (m:=Builtin.Tuple.tupleExact _) (wpAny_newObj_type (wpAny_pure ⟨_,rfl,wpAny_pure h⟩) htake)
  | exact wpAny_bind (m:=Builtin.Tuple.tupleExact _) (wpAny_newObj_type (wpAny_bind (wpAny_pure (wpAny_pure ⟨_,rfl,wpAny_pure h⟩))) htake)
  | exact wpAny_bind (wpAny_bind (m:=Builtin.Tuple.tupleExact _) (wpAny_newObj_type (wpAny_pure (wpAny_pure ⟨_,rfl,wpAny_pure h⟩)) htake))
  | exact wpAny_bind (wpAny_bind (m:=Builtin.Tuple.tupleExact _) (wpAny_newObj_type (wpAny_pure ⟨_,rfl,wpAny_pure h⟩) htake))
def uG (K:yF)(te:TE):TE:=λZ H Q=>te Z H λx H1=>∃a xs,x=.ref a/\SqT K H1 a xs/\∀p,H1 p=none->Q (.ref p) (upd H1 p (.tup xs.reverse))
theorem wb {e:Expr}{te:TE}{j:Nat}{p1 p2 p3 pos:Pos}(he:PE X e te):PE X (.Subscript e (.Slice none none (some (.UnaryOp .USub (.Constant (.int 1) j p1) p2)) p3) pos) (uG X.K te):=by
 intro pins s Z H Q I h
 refine Subscript_ (thn (he pins s Z H _ I h) λv s1 ⟨x,H1,I1,r1,q1⟩=>?_)
 obtain⟨a,xs,rfl,hq,q⟩:=q1
 cases r1
 refine wpAny_Slice ?_
 rw[evalPart_none]
 refine wpAny_pure (wpAny_pure ?_)
 rw[evalPart_some]
 refine thn (Cc A1 sM pins s1 Z H1 (λx H2=>x=.int (-1)/\H2=H1) I1 ⟨1,rfl,rfl,rfl⟩) λvu s2 ⟨y,H2,I2,r2,e1,e2⟩=>?_
 subst e1 e2
 obtain⟨tt,rfl⟩:=r2
 have I3:Inv X pins Z H2 {s2 with heap:=s2.heap.push {cls:=.type "slice",data:=.fields #[.none,.none,.int (-1) tt]}}:=I2.kept (t':=s2.toks) λb ob q=>Heap.get?_push_of_some _ q
 obtain⟨its,r,ht,hz⟩:=I3.tuple hq
 show wpAny (model X.prog X.w) X.A (subscriptTail e (.Slice none none (some (.UnaryOp .USub (.Constant (.int 1) j p1) p2)) p3) (.ref a) (.ref s2.heap.objs.size)) (EP X pins Z Q) X.xe {s2 with heap:=s2.heap.push {cls:=.type "slice",data:=.fields #[.none,.none,.int (-1) tt]}}
 refine tail_any (ops:=[.ref a,.ref s2.heap.objs.size]) ht.typeIs ED.lookup (gG (tt:=tt) ht (Heap.IsSliceOf.new ..) ?_ (by rw[DT,←r.length];exact hz)) (by with_unfolding_all rfl)
 refine⟨.ref _,_,I3.laid (t':=s2.toks) (o:=.tup xs.reverse) (λb ob q=>Heap.get?_push_of_some _ q) (DY _) ?_,rfl,q _ (I3.hok.fresh (DY _))⟩
 exact⟨by rw[GO];exact hz,its.reverse,r.reverse,IsTupN.new _ _⟩
def rM (to:TE)(tl th:TO):TG:=λv Z H Q=>to Z H λo H1=>tl Z H1 λl H2=>th Z H2 λu H3=>∃p b xs ys a c,o=.ref p/\v=.ref b/\l=some a/\u=some c/\H3 p=some (.lst xs)/\H3 b=some (.lst ys)/\p≠b/\0<=a/\a<=c/\c<=xs.length/\xs.length+ys.length<=sizeLine ∧
 Q Z (upd H3 p (.lst (xs.take a.toNat++ys++xs.drop c.toNat)))
theorem sQ {o:Expr}{lo hi:Option Expr}{to:TE}{tl th:TO}{p2 pos:Pos}(ho:PE X o to)(hl:PO X lo tl)(hu:PO X hi th)
  (ha:∀v,assign (.Subscript o (.Slice lo hi none p2) pos) X.env v=(do
   let ov ←holding [v] (eval o X.env)
   let iv ←holding [v,ov] (eval (.Slice lo hi none p2) X.env)
   standAt pos
   holding [v,ov,iv] (setItem ov iv v)
   release [iv,v,ov] []):=by intro _;rfl):PG X (.Subscript o (.Slice lo hi none p2) pos) (rM to tl th):=by
 intro pins s Z H v u Q I r h
 rw[ha]
 refine wpAny_bind (wpAny_holding (thn (ho pins s Z H _ I h) λov s1 ⟨x,H1,I1,r1,q1⟩=>?_))
 refine wpAny_bind (wpAny_holding (wpAny_Slice (thn (hl pins s1 Z H1 _ I1 q1) λvl s2 ⟨l,H2,I2,pl,q2⟩=>thn (hu pins s2 Z H2 _ I2 q2) λvu s3 ⟨w',H3,I3,pu,q3⟩=>?_)))
 rw[evalPart_none]
 refine wpAny_pure ?_
 obtain⟨p,b,xs,ys,a,c,rfl,rfl,rfl,rfl,hp,hb,hne,h0,hac,hc,hz,q⟩:=q3
 have I4:Inv X pins Z H3 {s3 with heap:=s3.heap.push {cls:=.type "slice",data:=.fields #[vl,vu,.none]}}:=I3.kept (t':=s3.toks) λb ob q=>Heap.get?_push_of_some _ q
 cases r1
 cases r
 refine wpAny_bind (wpAny_standAt (wpAny_bind (wpAny_holding ?_)))
 cases pl with
 | int _ t1=>
  cases pu with
  | int _ t2=>
   exact qN (sl:=s3.heap.objs.size) I4 hp hb hne (Heap.IsSliceOf.new ..) ⟨t1,rfl⟩ ⟨t2,rfl⟩ h0 hac hc hz λs' I'=>wpAny_release ⟨Z,_,I',q⟩
end
def Has (P:Program)(w:World)(K:yF)(mg:Str->Option Value)(base:Heap)(k:Nat)(name:Str)(ps:List Str)(sp:Sp):Prop:=
 ∃(f:Addr) (fd:FuncData),mg name=some (.ref f)/\Fh K (.ref f)=true/\Binds K fd ps []/\FnOk P w K mg base CX0 k f fd ps sp/\∃oc od osl,K.lookup f=some ⟨oc,od,.func fd,osl⟩
def Def (K:yF)(mg:Str->Option Value)(name:Str)(st:Stmt)(ps:List Str):Prop:=
 ∃(f:Addr) (fd:FuncData),mg name=some (.ref f)/\Fun K name name st f fd/\Binds K fd ps []
theorem Def.has {P:Program}{w:World}{K:yF}{mg:Str->Option Value}{base:Heap}{k:Nat}{name:Str}{st:Stmt}{N ps:List Str}{sp:Sp}(d:Def K mg name st ps)(S:FnScope N ps (ai st))(len:∀vs H Q E,sp vs H Q E->vs.length=ps.length)
  (hbody:∀(f:Addr) (cdv:Value) (A:Around) (outer:List Env) (s:Shared) (H:Hp) (vs:List V) (Q:VK) (E:XK),Room k (A.deeper (envOfC name (ai st) s.heap.objs.size f cdv))->sp vs H Q E →
   ∃t,PSs (jM CX0 P w K mg base N name (ai st) f cdv A outer s H E).nox (bj st) t/\t {nx:=λ_ H'=>Q .non H',rt:=Q} (bB N vs) H):Has P w K mg base (k+1) name ps sp:=by
 obtain⟨f,fd,h1,F,b⟩:=d
 obtain⟨oc,od,kV,doc,pm,an,cdv,ct,osl,e,lk,hcd⟩:=F.ex
 exact⟨f,fd,h1,F.kp,b,F.ok S len (hbody f),oc,od,osl,lk⟩
theorem r6 {P:Program}{w:World}{K:yF}{mg:Str->Option Value}{fa:Addr}{name:Str}{st:Stmt}{x:Str}{k:Nat}{sp:Sp}(hfa:mg name=some (.ref fa))(d:Def K mg name st [x])
  (hb:∀(kV doc pm:Value) (an:Option Addr) (cdv ct:Value) (s:Shared) (v:Value),BindsTo s (E5 name name (cP st) (bj st) (ai st) .none kV doc pm an cdv ct) ⟨[v],[]⟩ [(x,v)])
  (H:∀base:Heap,K.In base->base.Ns mainGlobals mg->Has P w K mg base k name [x] sp) :
  ∃fd:FuncData,(∀(s:Shared) (v:Value),BindsTo s fd ⟨[v],[]⟩ [(x,v)])/\∀base:Heap,K.In base->base.Ns mainGlobals mg->FnOk P w K mg base CX0 k fa fd [x] sp:=by
 obtain⟨f,fd,h1,F,b⟩:=d
 rw[hfa]at h1
 cases h1
 obtain⟨oc,od,kV,doc,pm,an,cdv,ct,osl,e,lk,hcd⟩:=F.ex
 refine⟨fd,λs v=>by rw[e];exact hb _ _ _ _ _ _ s v,λbase kb nb=>?_⟩
 obtain⟨f',fd',g1,_,_,g4,oc',od',osl',lk'⟩:=H base kb nb
 rw[hfa]at g1
 cases g1
 rw[lk]at lk'
 cases lk'
 exact g4
section
variable  {X:Cx}{x:Str}{e:Expr}{es:List Expr}{p pos:Pos}{k:Nat}{ps:List Str}{sp:Sp}{t:TA}
theorem B9 (h:Has X.prog X.w X.K X.mg X.base k x ps sp)(hr:Room k X.A)(hg:Gl X x)(ha:PA X (e::es) t)(hdb:(x==("__debug__" : Str))=false:=by decide)
  (he:starEach (e::es) X.env=(false,eval e X.env)::starEach es X.env:=by rfl) (hpl:(backTo pos (starEach es X.env)).any (·.1)=false:=by rfl) :
  PE X (.Call (.Name x p) (e::es) [] pos) (kG sp [] E0 t):=by
 obtain⟨f,fd,h1,h2,h3,h4,_⟩:=h
 exact vW h4 hr hg h1 h2 h3 .nil B6 ha hdb he hpl
end
section
variable  {X:Cx}
def xY (K:yF):R2:=λx y H Q=>rI0 (λi j=>.int (i+j)) x y H Q∨((∃i j,x=.str i/\y=.str j/\i.length+j.length<=sizeLine/\Q (.str (i++j)) H)∨(CB x y H Q∨x8 K x y H Q))
theorem op_addX:OpR X (binaryOp .Add) (xY X.K):=op_add.or (op_add_str.or (op_cat.or vO))
def yd (K:yF):R2:=λx y H Q=>rI CMul (λi j=>.int (i*j)) x y H Q∨((∃z n,x=.str z/\y=.int n/\1<=n/\n<=1000/\z.length<=1000/\Q (.str (oL (DV n.toNat (sL z)).flatten)) H)∨(CL x y H Q∨yf K x y H Q))
theorem op_mulX:OpR X (binaryOp .Mult) (yd X.K):=op_mul.or (op_mulS.or (op_rep.or vR))
def Av (K:yF):R2:=λx y H Q=>rEq x y H Q∨(CC K x y H Q∨CD K x y H Q)
theorem zg (hu:X.A.units+64<cLine):OpR X (compareOp .Eq) (Av X.K):=op_eq.or ((ze hu).or (zf hu))
def Ay (K:yF):R2:=λx y H Q=>rNe x y H Q∨(CI K x y H Q∨CJ K x y H Q)
theorem zn (hu:X.A.units+64<cLine):OpR X (compareOp .NotEq) (Ay X.K):=op_ne.or ((zk hu).or (zm hu))
def Aw (K:yF):R2:=λx y H Q=>(∃i j,x=.str i/\y=.str j/\Q (.bl (!(Builtin.Str.occurrences j i 0 j.length 1).isEmpty)) H)∨(rIn K false x y H Q∨wN K false x y H Q)
theorem zi (hu:X.A.units+64<cLine):OpR X (compareOp .In) (Aw X.K):=op_in_str.or (op_in_seq.or (zh hu))
def lr (K:yF):R2:=λx y H Q=>(∃i j,x=.str i/\y=.str j/\Q (.bl (!(!(Builtin.Str.occurrences j i 0 j.length 1).isEmpty))) H)∨(rIn K true x y H Q∨wN K true x y H Q)
theorem qd (hu:X.A.units+64<cLine):OpR X (compareOp .NotIn) (lr X.K):=op_notIn_str.or (op_notIn_seq.or (qc hu))
theorem DK:SlR X (rSl X.K):=sl_tup.or (sl_list.or AS)
def tR (K:yF):List V->Hp->VK->Prop:=λxs H Q=>(∃p ys,xs=[.ref p]/\(SqL K H p ys∨SqT K H p ys)/\Q (.int ys.length) H)∨(∃z,xs=[.str z]/\z.length<=sizeLine/\Q (.int z.length) H)
theorem pB:CallR X (.builtin "len") (tR X.K):=CallR.or kQ kR
theorem CS (n:String):RelV (.ty n) (.type n):=rfl
end
section
variable  {Z:St}{H:Hp}{Q:VK}{D:Ends}{K:yF}
end
noncomputable def Its (z:Str):It:=⟨λi _=>i<z.cps.size,λi H y H'=>H'=H/\∃c,z.cps[i]?=some c/\y=.str ⟨#[c]⟩,λi _=>z.cps.size<=i⟩
def BA (te:TE):TI:=λZ H R=>te Z H λx H1=>∃z:Str,x=.str z/\R (Its z) H1
theorem wg {X:Cx}{tg e:Expr}{te:TE}(he:PE X e te):PI X tg e (BA te):=zQ he
theorem km {N:List Str}(h:decide N.Nodup=true):N.Nodup:=of_decide_eq_true h
section
variable  {X:Cx}{K:yF}
theorem Dy (h:X.K=K):IxR X (rIx K):=h▸yS
def tV (K:yF):List V->Hp->VK->Prop:=λxs H Q=>∃p ys,xs=[.ref p]/\((SqL K H p ys/\∀l,H l=none->Q (.ref l) (upd H l (.tup ys)))∨(SqT K H p ys/\Q (.ref p) H))
def tT (K:yF):List V->Hp->VK->Prop:=λxs H Q=>∃p ys,xs=[.ref p]/\(SqL K H p ys∨SqT K H p ys)/\∀l,H l=none->Q (.ref l) (upd H l (.lst ys))
def x9 (K:yF):V->List V->Hp->VK->Prop:=λx vs H Q=>∃z a zs,x=.str z/\vs=[.ref a]/\SqL K H a (zs.map V.str)/\(zs.map (·.length)).sum+zs.length*z.length<=16777216/\Q (.str (Txt.join z zs)) H
theorem DH {e:Expr}{te:TE}{j:Nat}{p1 p2 p3 pos:Pos}(h:X.K=K)(he:PE X e te):PE X (.Subscript e (.Slice none none (some (.UnaryOp .USub (.Constant (.int 1) j p1) p2)) p3) pos) (uG K te):=h▸wb he
theorem tgK {es:List Expr}{k:Nat}{t:TGs}{n:Nat}{pos:Pos}(h:X.K=K)(hc:X.calm=true)(hs:PGs X es t)
  (hn:(assignEach es X.env).length=n:=by rfl) (hst:(assignEach es X.env).findIdx? (·.1)=none:=by rfl):PG X (.Tuple es k pos) (vk K n t):=h▸zP hc hs hn hst
theorem ilK {tg l:Expr}{tl:TE}(h:X.K=K)(hl:PE X l tl):PI X tg l (oN K tl):=h▸wf hl
theorem itK {tg l:Expr}{tl:TE}(h:X.K=K)(hl:PE X l tl):PI X tg l (vp K tl):=h▸zR hl
def C5 (K:yF)(ta:TE):TT:=λZ H Q=>ta Z H λx H'=>∃k,u9 K x H' k/\Q k H'
theorem DL {a:Expr}{ta:TE}(h:X.K=K)(ha:PE X a ta)(he:∀whole,isTrue a X.env whole=(do let v ←whole;standAt a.pos;holding [v] (truthy v))):PT X a (C5 K ta):=h▸tH ha he
variable  {o e:Expr}{es:List Expr}{to:TE}{t:TA}{name:Str}{apos cpos:Pos}{T id:String}{r:V->List V->Hp->VK->Prop}
theorem Dl (h:X.K=K)(pa:PlainAttrs T)(slot:Slot T name id)(hty:typeOf (.builtin id)=pure (.type "method_descriptor"))(hm:MtR X id r)(ho:PE X o to)
  (hbase:attributeBase o name X.env (eval o X.env)=eval o X.env:=by rfl) (hline:(apos.endLine==cpos.line)=true:=by rfl):PE X (.Call (.Attribute o name apos) [] [] cpos) (AT K T r to):=h▸zJ pa slot hty hm ho hbase hline
theorem bmK (h:X.K=K)(pa:PlainAttrs T)(slot:Slot T name id)(hty:typeOf (.builtin id)=pure (.type "method_descriptor"))(hm:MtR X id r)(ho:PE X o to)(ha:PA X (e::es) t)
  (hbase:attributeBase o name X.env (eval o X.env)=eval o X.env:=by rfl)
  (hfew:((backTo cpos (starEach (e::es) X.env)).all (λx=>!x.1)&&(backToKw cpos (keywordEach [] X.env)).all (λx=>x.1.isSome)
   && decide ((e::es).length+([]:List Keyword).length+(if([]:List Keyword).isEmpty then 0 else 1)<30))=true:=by rfl)
  (hline:(apos.endLine==cpos.line)=true:=by rfl) (hs:starEach (e::es) X.env=(false,eval e X.env)::starEach es X.env:=by rfl) (hplain:(backTo cpos (starEach es X.env)).any (·.1)=false:=by rfl) :
  PE X (.Call (.Attribute o name apos) (e::es) [] cpos) (tBM K T r to t):=h▸B8 pa slot hty hm ho ha hbase hfew hline hs hplain
end
theorem Same.put {H H1:Hp}{l:Addr}{o:HO}(s:Same H H1)(hl:H l=none):Same H (L2.upd H1 l o):=λb u h=>by rw[L2.upd_ne (aX h hl)];exact s b u h
structure Bi (mg:Str->Option Value):Prop where
 b_len:mg "len" = none
 b_all:mg "all" = none
 b_any:mg "any" = none
 b_tuple:mg "tuple" = none
 b_list:mg "list" = none
 b_range:mg "range" = none
 b_min:mg "min" = none
 b_max:mg "max" = none
 b_int:mg "int" = none
 b_bool:mg "bool" = none
 b_isinstance:mg "isinstance" = none
 b_str:mg "str" = none
 b_sorted:mg "sorted" = none
 b_sum:mg "sum" = none
 b_zip:mg "zip" = none
 b_enumerate:mg "enumerate" = none
 b_dict:mg "dict" = none
 b_abs:mg "abs" = none
 b_repr:mg "repr" = none
 b_reversed:mg "reversed" = none
 b_set:mg "set" = none
noncomputable abbrev LET:Str:="abcdefghijklmnopqrstuvwxyz"
theorem kK:(sL LET).length=26:=by decide +kernel
theorem LET_len':LET.length=26:=by decide +kernel
noncomputable def rd:D->Option D
 | .tup [.str x,nm,row]=>if x=("at" : Str)then some (.tup [nm,row])else none
 | _=>none
def Bd (m x:Int):Prop:=0<=x/\x<m
theorem Bd.mod {m:Int}(h:0<m)(x:Int):Bd m (x % m):=⟨Fm _ (by omega),E4 _ h⟩
theorem nV (elt tg iter tg2 iter2:Expr)(ifs2:List Expr)(scope:Scope)(pos:Pos)(it acc:Value)(env:Env) :
  compTurn (.ListComp elt [⟨tg,iter,[],0⟩,⟨tg2,iter2,ifs2,0⟩] scope pos) 0 it acc env=(standAt iter.pos >>= λ_=>pyNext it >>= λr=>match r with
   | none=>pure (.done .next)
   | some v=>letOwnedTupleGo tg it v >>= λ_=>assign tg env v >>= λ_=>
    (eval iter2 env >>= λx=>standAt iter2.pos >>= λ_=>foldedSetIterable iter2 env x >>= λx=>holding [x] (pyIter x) >>= λj=>runOwn (.compStart (.ListComp elt [⟨tg,iter,[],0⟩,⟨tg2,iter2,ifs2,0⟩] scope pos) 1 j acc env) env >>= λ_=>
     again (.compLoop (.ListComp elt [⟨tg,iter,[],0⟩,⟨tg2,iter2,ifs2,0⟩] scope pos) 0 it acc env))):=by
 unfold compTurn
 rfl
theorem nU (elt tg2 iter2:Expr)(g1:Comprehension)(ifs2:List Expr)(scope:Scope)(pos:Pos)(it acc:Value)(env:Env) :
  compTurn (.ListComp elt [g1,⟨tg2,iter2,ifs2,0⟩] scope pos) 1 it acc env=(do
   standAt iter2.pos
   match ←pyNext it with
   | none=>pure (.done .next)
   | some v=>
    letOwnedTupleGo tg2 it v
    assign tg2 env v
    let mut ok:=true
    for c in ifs2 do
     if ok then ok ←isTrue c env (eval c env)
    if ok then
     (do let _ ←call (.builtin "list.append") [acc,←eval elt env])
    again (.compLoop (.ListComp elt [g1,⟨tg2,iter2,ifs2,0⟩] scope pos) 1 it acc env)):=by rfl
theorem nr {prog:Program}{w:World}{A:Around}{R:Result->Shared->Prop}{s:Shared}{elt tg2 iter2:Expr}{g1:Comprehension}{ifs2:List Expr}{scope:Scope}{pos:Pos}{it acc:Value}{env:Env}(I:Nat->Shared->Prop)
  (turn:∀n s,I n s->wpAny (model prog w) A (pyNext it) (λr s₁=>match r with
   | none=>R (.ok .next) s₁
   | some v=>wpAny (model prog w) A (letOwnedTupleGo tg2 it v) (λ_ s₁'=>wpAny (model prog w) A (assign tg2 env v) (λ_ s₂=>
     wpAny (model prog w) A (lH ifs2 env) (λok s₃=>
      if ok=true then wpAny (model prog w) A (eval elt env) (λx s₄=>
       wpAny (model prog w) A (call (.builtin "list.append") [acc,x]) (λ_ s₅=>∃m,m<n/\I m s₅) (λ_ _=>False) s₄) (λ_ _=>False) s₃
      else∃m,m<n/\I m s₃) (λ_ _=>False) s₂) (λ_ _=>False) s₁') (λ_ _=>False) s₁) (λ_ _=>False) s)
  (n:Nat) (h:I n s):codeAny (model prog w) A (.compLoop (.ListComp elt [g1,⟨tg2,iter2,ifs2,0⟩] scope pos) 1 it acc env) R s:=by
 have never:∀{α:Type} {t:Sem α} {QQ : α->Shared->Prop} {EE:Value->Shared->Prop} {ss:Shared},wpAny (model prog w) A t QQ (λ_ _=>False) ss->wpAny (model prog w) A t QQ EE ss:=λhh=>wpAny_mono hh (λ_ _ z=>z) λ_ _ z=>z.elim
 refine codeAny_loop rfl I (λn s hI=>?_) n h
 show wpAny _ A ((compTurn (.ListComp elt [g1,⟨tg2,iter2,ifs2,0⟩] scope pos) 1 it acc env).onRaise (λx=>do noteFrame x env;theTreesLotGoes x)) _ _ s
 refine wpAny_noted ?_
 rw[nU]
 refine wpAny_bind (wpAny_standAt (wpAny_bind (wpAny_mono (turn n s hI) (λr s₁ h₁=>?_) λ_ _ z=>z.elim)))
 cases r with
 | none=>exact wpAny_pure h₁
 | some v=>
  refine wpAny_bind (wpAny_mono h₁ (λ_ s₁' h₁'=>?_) λ_ _ z=>z.elim)
  refine wpAny_bind (wpAny_mono h₁' (λ_ s₂ h₂=>wpAny_bind (wpAny_mono h₂ (λok s₃ h₃=>?_) λ_ _ z=>z.elim)) λ_ _ z=>z.elim)
  cases ok with
  | false=>exact wpAny_pure ⟨rfl,h₃⟩
  | true=>
   exact wpAny_bind (wpAny_bind (wpAny_mono h₃ (λx s₄ h₄=>wpAny_bind (wpAny_mono h₄ (λ_ s₅ h₅=>wpAny_pure (wpAny_pure ⟨rfl,h₅⟩)) λ_ _ z=>z.elim)) λ_ _ z=>z.elim))
theorem mO {prog:Program}{w:World}{A:Around}{R:Result->Shared->Prop}{s:Shared}{elt tg2 iter2:Expr}{g1:Comprehension}{ifs2:List Expr}{scope:Scope}{pos:Pos}{it acc:Value}{env:Env}
  (h0:codeAny (model prog w) A (.compLoop (.ListComp elt [g1,⟨tg2,iter2,ifs2,0⟩] scope pos) 1 it acc env) R s)
  (h:wpAny (model prog w) A (pyIter it) (λit' s'=>codeAny (model prog w) A (.compLoop (.ListComp elt [g1,⟨tg2,iter2,ifs2,0⟩] scope pos) 1 it' acc env) R s') (notedBy (model prog w) A env λx s'=>R (.error x) s') s) :
  codeAny (model prog w) A (.compStart (.ListComp elt [g1,⟨tg2,iter2,ifs2,0⟩] scope pos) 1 it acc env) R s:=by
 refine codeAny_of_tree ?_
 show wpAny _ _ ((compStart (.ListComp elt [g1,⟨tg2,iter2,ifs2,0⟩] scope pos) 1 it acc env).onRaise (λx=>do noteFrame x env;standAt theWindowsPlace)) _ _ s
 refine wpAny_notedAt ?_
 unfold compStart
 show wpAny _ _ (ask >>= _) _ _ s
 refine wpAny_bind (wpAny_askSetting (wpAny_ite ?_))
 split
 ·first
   | exact wpAny_pure (And.intro rfl h0)
   | exact wpAny_bind (wpAny_pure (wpAny_pure (And.intro rfl h0)))
 ·refine wpAny_bind (wpAny_rule ?_)
  show wpAny _ _ (standAt iter2.pos >>= _) _ _ s
  exact wpAny_bind (wpAny_standAt (wpAny_bind (wpAny_mono h (λit' s' h'=>wpAny_pure (And.intro rfl h')) λ_ _ x=>x)))
theorem nt {prog:Program}{w:World}{A:Around}{R:Result->Shared->Prop}{s:Shared}{elt tg iter tg2 iter2:Expr}{ifs2:List Expr}{scope:Scope}{pos:Pos}{it acc:Value}{env:Env}(hs:∀x,foldedSetIterable iter2 env x=pure x)(I:Nat->Shared->Prop)
  (turn:∀n s,I n s->wpAny (model prog w) A (pyNext it) (λr s₁=>match r with
   | none=>R (.ok .next) s₁
   | some v=>wpAny (model prog w) A (letOwnedTupleGo tg it v) (λ_ s₁'=>wpAny (model prog w) A (assign tg env v) (λ_ s₂=>
     wpAny (model prog w) A (eval iter2 env) (λx s₃=>wpAny (model prog w) A (pyIter x) (λj s₄=>
      codeAny (model prog w) A (.compStart (.ListComp elt [⟨tg,iter,[],0⟩,⟨tg2,iter2,ifs2,0⟩] scope pos) 1 j acc env) (λr s₅=>match r with|.ok _=>∃m,m<n/\I m s₅|.error _=>False) s₄)
       (λ_ _=>False) s₃) (λ_ _=>False) s₂) (λ_ _=>False) s₁') (λ_ _=>False) s₁) (λ_ _=>False) s)
  (n:Nat) (h:I n s):codeAny (model prog w) A (.compLoop (.ListComp elt [⟨tg,iter,[],0⟩,⟨tg2,iter2,ifs2,0⟩] scope pos) 0 it acc env) R s:=by
 refine codeAny_loop rfl I (λn s hI=>?_) n h
 show wpAny _ A ((compTurn (.ListComp elt [⟨tg,iter,[],0⟩,⟨tg2,iter2,ifs2,0⟩] scope pos) 0 it acc env).onRaise (λx=>do noteFrame x env;theTreesLotGoes x)) _ _ s
 refine wpAny_noted ?_
 rw[nV]
 refine wpAny_bind (wpAny_standAt (wpAny_bind (wpAny_mono (turn n s hI) (λr s₁ h₁=>?_) λ_ _ z=>z.elim)))
 cases r with
 | none=>exact wpAny_pure h₁
 | some v=>
  refine wpAny_bind (wpAny_mono h₁ (λ_ s₁' h₁'=>?_) λ_ _ z=>z.elim)
  refine wpAny_bind (wpAny_mono h₁' (λ_ s₂ h₂=>?_) λ_ _ z=>z.elim)
  refine wpAny_bind (wpAny_mono h₂ (λx s₃ h₃=>wpAny_bind (wpAny_standAt (wpAny_bind (wpAny_of_eq (hs x) (wpAny_bind (wpAny_holding (wpAny_mono h₃ (λj s₄ h₄=>?_) λ_ _ z=>z.elim))))))) λ_ _ z=>z.elim)
  refine wpAny_bind (wpAny_runOwn (codeAny_mono h₄ λr s₅ h₅=>?_))
  cases r with
  | ok f=>exact wpAny_pure ⟨rfl,h₅⟩
  | error e=>exact h₅.elim
def qY (J2:It)(Zi:St)(g2:TG)(tc2:TT)(te:TE)(acc0:List V)(H3:Hp)(N:List V->Hp->Prop):Prop:=
 ∃W2:Nat->Nat->List V->Hp->Prop,(∃m,W2 0 m acc0 H3)/\∀i m acc H,W2 i m acc H->acc.length<sizeLine ∧
  ((J2.stop i H/\N acc H) ∨
  (J2.go i H/\∃N2:List V->Hp->Prop,(∀acc' H',N2 acc' H'->∃m',m'<m/\W2 (i+1) m' acc' H') ∧
   ∀x H',J2.yld i H x H'->g2 x Zi H' λZ3 H4=>tc2 Z3 H4 λb H5=>if b=true then te Z3 H5 λv H6=>N2 (acc++[v]) H6 else N2 acc H5))
def qZ (J:It)(Zi:St)(g:TG)(wi2:TI)(fr2:List (Option Nat))(g2:TG)(tc2:TT)(te:TE)(H1:Hp)(Q:VK):Prop:=
 ∃W:Nat->Nat->List V->Hp->Prop,(∃m,W 0 m [] H1)/\∀i m acc H,W i m acc H->acc.length<sizeLine ∧
  ((J.stop i H/\∀d,H d=none->Q (.ref d) (upd H d (.lst acc))) ∨
  (J.go i H/\∃N:List V->Hp->Prop,(∀acc' H',N acc' H'->∃m',m'<m/\W (i+1) m' acc' H') ∧
   ∀x H',J.yld i H x H'->g x Zi H' λZ2 H2=>wi2 Z2 H2 λJ2 H3=>qY J2 (aO fr2 Z2) g2 tc2 te acc H3 N))
def uF (wi:TI)(fr:List (Option Nat))(g:TG)(wi2:TI)(fr2:List (Option Nat))(g2:TG)(tc2:TT)(te:TE):TE:=λZ H Q=>wi Z H λJ H1=>qZ J (aO fr Z) g wi2 fr2 g2 tc2 te H1 Q
section
variable  {X:Cx}{elt tg iter tg2 iter2:Expr}{ifs2:List Expr}{scope:Scope}{pos:Pos}{N':List Str}{fr fr2:List (Option Nat)}{wi wi2:TI}{g g2:TG}{tc2:TT}{te:TE}
noncomputable def mS (fr fr2:List (Option Nat)):Bool:=(fr2.length==fr.length)&&(Es fr.length).all λk=>(fr2[k]? == some (some k))||(fr2[k]? == some none&&fr[k]? == some none)
theorem pw {fr:List (Option Nat)}{Z Z5:St}(kp:Kp fr (aO fr Z) Z5):∀(k:Nat) v,(aO fr Z)[k]?=some (some v)->Z5[k]?=some (some v):=λk v e=>by
 cases q:fr[k]? with
 | none=>
  unfold aO at e
  rw[DZ,q]at e
  cases e
 | some o=>
  cases o with
  | none=>
   unfold aO at e
   rw[DZ,q]at e
   simp at e
  | some j=>rw[kp.2 k j q];exact e
theorem yZ {Z Z8 Z5:St}(h:mS fr fr2=true)(kp8:Kp fr (aO fr Z) Z8)(kp5:Kp fr2 (aO fr2 Z8) Z5):Kp fr (aO fr Z) Z5:=by
 unfold mS at h
 rw[DU]at h
 obtain⟨h1,h2⟩:=h
 have hl:fr2.length=fr.length:=by simpa using h1
 refine⟨by rw[kp5.1,bI,bI,hl],λk j e=>?_⟩
 have hk:k<fr.length:=(DR.mp e).1
 have h3:=EH.mp h2 k (E8.mpr hk)
 rw[e]at h3
 have h4:fr2[k]?=some (some k):=by
  rw[FS]at h3
  rcases h3 with z|z
  ·simpa using z
  ·rw[DU]at z
   have z2:=z.2
   simp at z2
 rw[kp5.2 k k h4,←kp8.2 k j e]
 have hlen:k<Z8.length:=by rw[kp8.1,bI];exact hk
 unfold aO
 rw[DZ,h4]
 show some (Z8.getD k none)=_
 rw[Eb,Eh hlen]
 rfl
theorem lN (hc:X.calm=true)(B:Blk X.env.scope scope X.N N' fr)(hsub:mS fr fr2=true)
  (hg:∀b,PG (cxB X scope N' b) tg g) (hgk:dg fr g) (hi2:∀b,PI (cxB X scope N' b) tg2 iter2 wi2) (hg2:∀b,PG (cxB X scope N' b) tg2 g2) (hgk2:dg fr2 g2) (ht:∀b,PTs (cxB X scope N' b) ifs2 tc2) (he:∀b,PE (cxB X scope N' b) elt te)
  (hs2:∀b x,foldedSetIterable iter2 (cxB X scope N' b).env x=pure x)
  {pins:List (Addr×Obj)} {Z:St} {Q:VK} {itv:Value} {s2:Shared} {E:Value->Shared->Prop} {RR:Value->Addr->Result->Shared->Prop}
  (h2:PIE X pins Z tg (λJ H1=>qZ J (aO fr Z) g wi2 fr2 g2 tc2 te H1 Q) itv s2)
  (hRR:∀(d C:Addr) (v:V) (H':Hp) (s':Shared) m',Inv X pins Z H' s'->v=.ref d->Q v H'->s'.heap.Ns C m'->dQ X pins H' C->C≠d->RR (.ref d) C (.ok .next) s') :
  wpAny (model X.prog X.w) X.A (newList []) (λacc s₃=>wpAny (model X.prog X.w) X.A (newFunctionEnv scope X.env.globals (br X.env scope.names []) [] X.env.qual none .none (some X.env)) (λcenv s₄=>
   codeAny (model X.prog X.w) X.A (.compStart (.ListComp elt [⟨tg,iter,[],0⟩,⟨tg2,iter2,ifs2,0⟩] scope pos) 0 itv acc {cenv with scope:=relabel scope X.env}) (RR acc cenv.locals) s₄) E s₃) E s2:=by
 obtain⟨it,fp,tn,J,H2,rfl,I2,T,st2,f2,W,⟨m0,w0⟩,turn⟩:=h2
 refine wpAny_newObj_type ?_
 generalize hd:s2.heap.objs.size=d
 have I3:Inv X pins Z H2 {s2 with heap:=s2.heap.push {cls:=.type "list",dict:=none,data:=.seq ([]:List Value).toArray}}:=I2.kept (t':=s2.toks) λb o e=>Heap.get?_push_of_some _ e
 have fd:dQ X pins H2 d:=I2.fpOk (by rw[hd];exact DY _) (I2.hok.fresh (by rw[hd];exact DY _))
 have od:(s2.heap.push {cls:=.type "list",dict:=none,data:=.seq ([]:List Value).toArray}).get? d=some {cls:=.type "list",dict:=none,data:=.seq ([]:List Value).toArray}:=by rw[←hd];exact Heap.get?_push_size _ rfl
 have st3:tn 0 (s2.heap.push {cls:=.type "list",dict:=none,data:=.seq ([]:List Value).toArray}):=T.keep _ _ _ st2 λb _ o e=>Heap.get?_push_of_some _ e
 have ne_d:∀b∈fp,b≠d:=λb hb=>by
  obtain⟨o,e,_⟩:=T.obj _ _ st2 b hb
  rw[←hd]
  exact Ed (Heap.lt_size e)
 have hd0:X.s₀.heap.objs.size<=d:=by rw[←hd];exact I2.sz
 generalize hs3:({s2 with heap:=s2.heap.push {cls:=.type "list",dict:=none,data:=.seq ([]:List Value).toArray}}:Shared)=s3 at I3
 have od3:s3.heap.get? d=some {cls:=.type "list",dict:=none,data:=.seq ([]:List Value).toArray}:=by rw[←hs3];exact od
 have st3':tn 0 s3.heap:=by rw[←hs3];exact st3
 have hex:∀b∈d::fp,dQ X pins H2 b/\∃o,s3.heap.get? b=some o:=λb hb=>by
  rcases ycM hb with e|hb
  ·subst e;exact⟨fd,_,od3⟩
  ·obtain⟨o,e,_⟩:=T.obj _ _ st3' b hb
   exact⟨f2 b hb,o,e⟩
 refine fG λh4 hns hk hcl=>?_
 have J0:=I3.enter (ex:=d::fp) (xe:=λ_ _=>False) B hex hns hk hcl
 generalize hCs:cellsFrom (s3.heap.objs.size+1) scope.names (br X.env scope.names [])=cells at J0
 have hCd:s3.heap.objs.size≠d:=λz=>by have:=Heap.lt_size od3;rw[z]at this;exact EV _ this
 let bk:Bk:=⟨cells,s3.heap.objs.size,s3,H2,d::fp,X.pn++pins⟩
 have J0':Inv (cxB X scope N' bk) [] (aO fr Z) H2 {s3 with heap:=h4}:=J0
 show codeAny (model X.prog X.w) X.A (.compStart (.ListComp elt [⟨tg,iter,[],0⟩,⟨tg2,iter2,ifs2,0⟩] scope pos) 0 (.ref it) (.ref d) (cxB X scope N' bk).env) (RR (.ref d) s3.heap.objs.size) {s3 with heap:=h4}
 have ne_pn:∀p∈X.pn++pins,p.1≠d/\∀b∈fp,p.1≠b:=λp hp=>⟨fd.2.2.2.2.2 p hp,λb hb=>(f2 b hb).2.2.2.2.2 p hp⟩
 have never:∀{α:Type} {t:Sem α} {QQ : α->Shared->Prop} {EE:Value->Shared->Prop} {ss:Shared},wpAny (model X.prog X.w) X.A t QQ (λ_ _=>False) ss->wpAny (model X.prog X.w) X.A t QQ EE ss:=λhh=>wpAny_mono hh (λ_ _ z=>z) λ_ _ z=>z.elim
 have fpk:∀{Hx:Hp} {o:Obj},(∀b∈fp,Hx b=none)->∀b∈fp,dQ (cxB X scope N' bk) [(d,o)] Hx b:=λ{Hx o} hn b hb=>by
  have hb':b∈d::fp:=ymC _ hb
  refine⟨hn b hb,(J0'.ok.exf b hb').1,J0'.ok.exfs b hb',.inl hb',λx c e=>(J0'.ok.exf b hb').2 x c e,λp hp=>?_⟩
  have hp':p∈(X.pn++pins)++[(d,o)]:=hp
  rcases yaM hp' with z|z
  ·exact(ne_pn p z).2 b hb
  ·have:p=(d,o):=by simpa using z
   rw[this]
   exact Ne.symm (ne_d b hb)
 have dC:=(J0'.ok.exf d ymS).1
 have dS:=J0'.ok.exfs d ymS
 have loop:∀s4:Shared,Inv (cxB X scope N' bk) [] (aO fr Z) H2 s4->tn 0 s4.heap->s4.heap.PlainList d #[] →
   codeAny (model X.prog X.w) X.A (.compLoop (.ListComp elt [⟨tg,iter,[],0⟩,⟨tg2,iter2,ifs2,0⟩] scope pos) 0 (.ref it) (.ref d) (cxB X scope N' bk).env) (RR (.ref d) s3.heap.objs.size) s4:=by
  intro s4 J4 st4 pl4
  refine nt (hs2 bk) (λn s'=>∃i acc its H' Z',Inv (cxB X scope N' bk) [] Z' H' s'/\Kp fr (aO fr Z) Z'/\tn i s'.heap/\(∀b∈fp,H' b=none)/\H' d=none/\s'.heap.PlainList d (Gq its)/\Vals acc its/\W i n acc H') ?_ m0
   ⟨0,[],[],H2,aO fr Z,J4,Kp.refl _ _,st4,λb hb=>(f2 b hb).1,fd.1,pl4,.nil,w0⟩
  rintro n s5 ⟨i,acc,its,H5,Z5,J5,kp5,st5,fr5,hd5,⟨n5,pl5⟩,va5,w5⟩
  obtain⟨hz,cs⟩:=turn i n acc H5 w5
  have J5p:Inv (cxB X scope N' bk) [(d,{cls:=.type "list",data:=.seq its.toArray n5})] Z5 H5 s5:=J5.pins_of λp hp=>by
   have:p=(d,{cls:=.type "list",data:=.seq its.toArray n5}):=by simpa using hp
   subst this
   exact⟨pl5,hd5,dC,dS,λv z=>by cases z⟩
  rcases cs with⟨stop,q⟩|⟨go,N,hN,step⟩
  ·refine never (thn (T.done (cxB X scope N' bk) rfl rfl rfl hc i _ s5 Z5 H5 _ J5p (fpk fr5) st5 stop) λr s6 ⟨hr,J6⟩=>?_)
   subst hr
   obtain⟨e6,n6,_⟩:=J6.pin (d,{cls:=.type "list",data:=.seq its.toArray n5}) (yaR _ (by simp))
   have I6:Inv X pins Z H5 s6:=I3.leave (λb hb=>(hex b hb).1) J6
   have I6t:Inv X pins Z (upd H5 d (.lst acc)) s6:=I6.track ⟨hd5,fd.2⟩ (.inr hd0) hd0 ⟨by omega,its,n5,va5,e6⟩
   obtain⟨m6,hn6,_⟩:=J6.loc
   refine hRR d s3.heap.objs.size (.ref d) _ s6 m6 I6t rfl (q d hd5) hn6 ?_ hCd
   exact I3.fpOk (DY _) (by rw[upd_ne hCd];exact J6.free)
  ·refine never (thn (T.item (cxB X scope N' bk) rfl rfl rfl hc i _ s5 Z5 H5 _ J5p (fpk fr5) st5 go) λr s6 ⟨u,hr,h6⟩=>?_)
   subst hr
   refine never (thn h6 λ_ s7 ⟨x,H7,J7,r7,y7,st7,fr7⟩=>?_)
   have J7w:Inv (cxB X scope N' bk) [(d,{cls:=.type "list",data:=.seq its.toArray n5})] (aO fr Z) H7 s7:=J7.weak kp5.1.symm (pw kp5)
   have J7p:=J7w.pinned (fpk fr7) (T.obj _ _ st7)
   have G:=hgk x (aO fr Z) H7 _ (λZ2 H2=>(wi2 Z2 H2 λJ2 H3=>qY J2 (aO fr2 Z2) g2 tc2 te acc H3 N)/\Kp fr (aO fr Z) Z2) (λZ' H' a b=>⟨a,b⟩) (step x H7 y7)
   refine never (thn (hg bk _ s7 (aO fr Z) H7 x u _ J7p r7 G) λ_ s8 ⟨Z8,H8,J8,q8,kp8⟩=>?_)
   refine never (thn (hi2 bk _ s8 Z8 H8 _ J8 q8) λv9 s9 h9=>thn h9 λj s10 h10=>?_)
   obtain⟨it2,fp2,tn2,J2,H10,rfl,J10,T2,st10,f10,W2,⟨m2,w2⟩,turn2⟩:=h10
   have keep1:∀{pp:List (Addr×Obj)} {Zx:St} {Hx:Hp} {sx:Shared},(∀p∈bn fp s7.heap,p∈pp)->Inv (cxB X scope N' bk) pp Zx Hx sx->(∀b∈fp,∀o,s7.heap.get? b=some o->sx.heap.get? b=some o)/\(∀b∈fp,Hx b=none):=λ{pp Zx Hx sx} hpp Jx=>by
    refine⟨λb hb o e=>(Jx.pin (b,o) (yaR _ (hpp _ (bz hb e)))).1,λb hb=>?_⟩
    obtain⟨o,e,_⟩:=T.obj _ _ st7 b hb
    exact(Jx.pin (b,o) (yaR _ (hpp _ (bz hb e)))).2.1
   have ne2:∀b∈fp2,b≠d:=λb hb z=>(f10 b hb).2.2.2.2.2 (d,{cls:=.type "list",data:=.seq its.toArray n5}) (yaR _ (yaL _ (by simp))) z.symm
   have fpk2:∀{Hx:Hp} {o:Obj},(∀b∈fp2,Hx b=none)->∀b∈fp2,dQ (cxB X scope N' bk) ([(d,o)]++bn fp s7.heap) Hx b:=λ{Hx o} hn b hb=>by
    obtain⟨_,k1,k2,k3,k4,k5⟩:=f10 b hb
    refine⟨hn b hb,k1,k2,k3,k4,λp hp=>?_⟩
    rcases yaM hp with z|z
    ·exact k5 p (yaL _ z)
    ·rcases yaM z with z|z
     ·have:p=(d,o):=by simpa using z
      rw[this]
      exact(ne2 b hb).symm
     ·exact k5 p (yaR _ (yaR _ z))
   obtain⟨e10,hd10,_⟩:=J10.pin (d,{cls:=.type "list",data:=.seq its.toArray n5}) (yaR _ (yaL _ (by simp)))
   have J10w:Inv (cxB X scope N' bk) (bn fp s7.heap) (aO fr2 Z8) H10 s10:=by
    have J10p:Inv (cxB X scope N' bk) (bn fp s7.heap) Z8 H10 s10:=J10.pins_of λp hp=>J10.pin p (yaR _ (yaR _ hp))
    refine J10p.weak ?_ λk v e=>?_
    ·rw[bI,kp8.1,bI]
     unfold mS at hsub
     rw[DU]at hsub
     have h1:=hsub.1
     simpa using h1
    ·unfold aO at e
     rw[DZ]at e
     cases q:fr2[k]? with
     | none=>rw[q]at e;cases e
     | some o=>
      rw[q]at e
      cases o with
      | none=>simp at e
      | some j=>
       have hk:k<fr.length:=by
        unfold mS at hsub
        rw[DU]at hsub
        have h1:fr2.length=fr.length:=by simpa using hsub.1
        have:=(DR.mp q).1
        omega
       have hj:j=k:=by
        unfold mS at hsub
        rw[DU]at hsub
        have h3:=EH.mp hsub.2 k (E8.mpr hk)
        rw[q]at h3
        simp at h3
        exact h3
       subst hj
       have e':Z8.getD j none=some v:=by simpa using e
       rw[Eb]at e'
       cases q2:Z8[j]? with
       | none=>rw[q2]at e';cases e'
       | some y=>rw[q2]at e';simp at e';rw[e']
   have inner:∀s11:Shared,s11=s10->codeAny (model X.prog X.w) X.A (.compLoop (.ListComp elt [⟨tg,iter,[],0⟩,⟨tg2,iter2,ifs2,0⟩] scope pos) 1 (.ref it2) (.ref d) (cxB X scope N' bk).env)
     (λr s₅=>match r with|.ok _=>∃m,m<n/\∃i acc its H' Z',Inv (cxB X scope N' bk) [] Z' H' s₅/\Kp fr (aO fr Z) Z'/\tn i s₅.heap/\(∀b∈fp,H' b=none)/\H' d=none/\s₅.heap.PlainList d (Gq its)/\Vals acc its/\W i m acc H'|.error _=>False) s11:=by
    rintro s11 rfl
    refine nr (λn2 s'=>∃i2 acc its H' Z',Inv (cxB X scope N' bk) (bn fp s7.heap) Z' H' s'/\Kp fr2 (aO fr2 Z8) Z'/\tn2 i2 s'.heap/\(∀b∈fp2,H' b=none)/\H' d=none/\s'.heap.PlainList d (Gq its)/\Vals acc its/\W2 i2 n2 acc H') ?_ m2
     ⟨0,acc,its,H10,aO fr2 Z8,J10w,Kp.refl _ _,st10,λb hb=>(f10 b hb).1,hd10,⟨n5,e10⟩,va5,w2⟩
    rintro n' t5 ⟨i2,acc2,its2,K5,τ5,L5,kq5,ut5,gr5,he5,⟨n6,ql5⟩,vb5,x5⟩
    obtain⟨hz2,cs2⟩:=turn2 i2 n' acc2 K5 x5
    have L5p:Inv (cxB X scope N' bk) ([(d,{cls:=.type "list",data:=.seq its2.toArray n6})]++bn fp s7.heap) τ5 K5 t5:=L5.pins_of λp hp=>by
     rcases yaM hp with z|z
     ·have:p=(d,{cls:=.type "list",data:=.seq its2.toArray n6}):=by simpa using z
      subst this
      exact⟨ql5,he5,dC,dS,λv z=>by cases z⟩
     ·exact L5.pin p (yaR _ z)
    rcases cs2 with⟨stop2,q2⟩|⟨go2,N2,hN2,step2⟩
    ·refine thn (T2.done (cxB X scope N' bk) rfl rfl rfl hc i2 _ t5 τ5 K5 _ L5p (fpk2 gr5) ut5 stop2) λr t6 ⟨hr,L6⟩=>?_
     subst hr
     obtain⟨e6,n6',_⟩:=L6.pin (d,{cls:=.type "list",data:=.seq its2.toArray n6}) (yaR _ (yaL _ (by simp)))
     obtain⟨m',hm,w6⟩:=hN _ _ q2
     obtain⟨k1,k2⟩:=keep1 (λp hp=>yaR _ hp) L6
     exact⟨m',hm,i+1,acc2,its2,K5,τ5,L6.pins_of (λp hp=>by simp at hp),yZ hsub kp8 kq5,T.keep _ _ _ st7 k1,k2,n6',⟨n6,e6⟩,vb5,w6⟩
    ·refine thn (T2.item (cxB X scope N' bk) rfl rfl rfl hc i2 _ t5 τ5 K5 _ L5p (fpk2 gr5) ut5 go2) λr t6 ⟨u2,hr,h6⟩=>?_
     subst hr
     refine thn h6 λ_ t7 ⟨x2,K7,L7,s7r,y72,ut7,gr7⟩=>?_
     have L7w:Inv (cxB X scope N' bk) ([(d,{cls:=.type "list",data:=.seq its2.toArray n6})]++bn fp s7.heap) (aO fr2 Z8) K7 t7:=L7.weak kq5.1.symm (pw kq5)
     have L7p:=L7w.pinned (fpk2 gr7) (T2.obj _ _ ut7)
     have G2:=hgk2 x2 (aO fr2 Z8) K7 _ (λZ3 H4=>(tc2 Z3 H4 λb H5=>if b=true then te Z3 H5 λv H6=>N2 (acc2++[v]) H6 else N2 acc2 H5)/\Kp fr2 (aO fr2 Z8) Z3) (λZ' H' a b=>⟨a,b⟩) (step2 x2 K7 y72)
     refine thn (hg2 bk _ t7 (aO fr2 Z8) K7 x2 u2 _ L7p s7r G2) λ_ t8 ⟨τ8,K8,L8,q82,kq8⟩=>?_
     refine thn (ht bk _ t8 τ8 K8 _ L8 q82) λok t9 ⟨K9,L9,q9⟩=>?_
     have keepT:∀{Zx:St} {Hx:Hp} {sx:Shared},Inv (cxB X scope N' bk) (([(d,{cls:=.type "list",data:=.seq its2.toArray n6})]++bn fp s7.heap)++bn fp2 t7.heap) Zx Hx sx->(∀b∈fp2,∀o,t7.heap.get? b=some o->sx.heap.get? b=some o)/\(∀b∈fp2,Hx b=none)/\sx.heap.get? d=some {cls:=.type "list",data:=.seq its2.toArray n6}/\Hx d=none:=λ{Zx Hx sx} Jx=>by
      refine⟨λb hb o e=>(Jx.pin (b,o) (yaR _ (yaR _ (bz hb e)))).1,λb hb=>?_,?_⟩
      ·obtain⟨o,e,_⟩:=T2.obj _ _ ut7 b hb
       exact(Jx.pin (b,o) (yaR _ (yaR _ (bz hb e)))).2.1
      ·have:=Jx.pin (d,{cls:=.type "list",data:=.seq its2.toArray n6}) (yaR _ (yaL _ (yaL _ (by simp))))
       exact⟨this.1,this.2.1⟩
     have strip:∀{Zx:St} {Hx:Hp} {sx:Shared},Inv (cxB X scope N' bk) (([(d,{cls:=.type "list",data:=.seq its2.toArray n6})]++bn fp s7.heap)++bn fp2 t7.heap) Zx Hx sx->Inv (cxB X scope N' bk) (bn fp s7.heap) Zx Hx sx:=λJx=>Jx.pins_of λp hp=>Jx.pin p (yaR _ (yaL _ (yaR _ hp)))
     cases ok with
     | false=>
      rw[if_neg (by decide)]at q9⊢
      obtain⟨m',hm,w9⟩:=hN2 _ _ q9
      obtain⟨k1,k2,k3,k4⟩:=keepT L9
      exact⟨m',hm,i2+1,acc2,its2,K9,τ8,strip L9,kq8,T2.keep _ _ _ ut7 k1,k2,k4,⟨n6,k3⟩,vb5,w9⟩
     | true=>
      rw[if_pos rfl]at q9⊢
      refine thn (he bk _ t9 τ8 K9 _ L9 q9) λy t10 ⟨v,K10,L10,r10,q10⟩=>?_
      obtain⟨m',hm,w10⟩:=hN2 _ _ q10
      obtain⟨k1,k2,k3,k4⟩:=keepT L10
      have hzs:its2.toArray.size<=sizeLine:=by rw[DT,←vb5.length];omega
      refine wpAny_list_append_plain (hsz:=hzs) ⟨n6,k3⟩ λh11 pl11 sb11=>?_
      have L11:Inv (cxB X scope N' bk) (bn fp s7.heap) τ8 K10 {t10 with heap:=h11}:=(strip L10).turned (it:=d) (t':=t10.toks) (λb o hb e=>(sb11.2 b hb).trans e) k4 dC (.inl ymS) (λx c e=>(J0'.ok.exf d ymS).2 x c e) λp hp=>by
       have hp':p∈(X.pn++pins)++bn fp s7.heap:=hp
       rcases yaM hp' with z|z
       ·exact(ne_pn p z).1
       ·exact ne_d p.1 (ko z).1
      refine⟨m',hm,i2+1,acc2++[v],its2++[y],K10,τ8,L11,kq8,T2.keep _ _ _ ut7 (λb hb o e=>(sb11.2 b (ne2 b hb)).trans (k1 b hb o e)),k2,k4,?_,vb5.append (.cons r10 .nil),w10⟩
      have:(its2++[y]).toArray=its2.toArray.push y:=by simp
      rw[this]
      exact pl11
   exact mO (inner s10 rfl) (T2.self X.A 0 _ _ _ st10 (inner s10 rfl))
 have st4:tn 0 h4:=T.keep _ _ _ st3' λb _ o e=>hk b o e
 have pl4:h4.PlainList d #[]:=⟨0,hk d _ od3⟩
 have L4:=loop {s3 with heap:=h4} J0' st4 pl4
 exact codeAny_compStart_list L4 (T.self X.A 0 _ _ _ st4 L4)
theorem sJ (hc:X.calm=true)(B:Blk X.env.scope scope X.N N' fr)(hsub:mS fr fr2=true)(hi:PI X tg iter wi)
  (hg:∀b,PG (cxB X scope N' b) tg g) (hgk:dg fr g) (hi2:∀b,PI (cxB X scope N' b) tg2 iter2 wi2) (hg2:∀b,PG (cxB X scope N' b) tg2 g2) (hgk2:dg fr2 g2) (ht:∀b,PTs (cxB X scope N' b) ifs2 tc2) (he:∀b,PE (cxB X scope N' b) elt te)
  (hs:∀x,foldedSetIterable iter X.env x=pure x:=by intro _;rfl) (hs2:∀b x,foldedSetIterable iter2 (cxB X scope N' b).env x=pure x:=by intro _ _;rfl) :
  PE X (.ListComp elt [⟨tg,iter,[],0⟩,⟨tg2,iter2,ifs2,0⟩] scope pos) (uF wi fr g wi2 fr2 g2 tc2 te):=by
 intro pins s Z H Q I h
 rw[eval_ListComp]
 refine wpAny_comprehension_free (use:=none) rfl hs (dI (I.freeCells B)) B.kind B.locl (thn (hi pins s Z H _ I h) λv s1 h1=>thn h1 λitv s2 h2=>?_)
 refine lN (RR:=λacc C=>compPost (model X.prog X.w) X.A X.xe none (EP X pins Z Q) acc C) hc B hsub hg hgk hi2 hg2 hgk2 ht he hs2 h2 ?_
 intro d C v H' s' m' I' hv q hn fC hCd
 refine⟨m',hn,λh'' sb=>?_⟩
 obtain⟨c0,c1,c2,c3,c4,c5⟩:=fC
 exact⟨v,H',I'.turned (it:=C) (t':=s'.toks) (λb o hb e=>(sb.2 b hb).trans e) c0 c1 c3 c4 c5,by rw[hv];rfl,q⟩
end
open PySem.AutoSeq1 (wpAny_loadPart')
section
variable  {prog:Program}{w:World}{A:Around}{E:Value->Shared->Prop}{ss:Shared}
theorem jP {jt tt:Addr}{k:Nat}{els:Array Value}{y:Value}{Q:Value->Shared->Prop}(qi:ss.heap.IsTupleIter jt tt k)(qt:ss.heap.IsTuple tt els)(qy:els[k]?=some y)
  (kk:∀h1,h1.IsTupleIter jt tt (k+1)->Heap.SameBut jt ss.heap h1->Q y {ss with heap:=h1}):wpAny (model prog w) A (Builtin.SmallTypes.nextOf (.ref jt)) Q E ss:=by
 obtain⟨qo,eo,ec,ed⟩:=id qi
 obtain⟨ql,el,_,nl,edl⟩:=qt
 unfold Builtin.SmallTypes.nextOf
 refine wpAny_bind (wpAny_callSpecial?_slot (name:=Str.ofString "__next__") qi.typeIs F.slot_tuple_iterator_next (wpAny_call_entry F.slot_tuple_iterator_next qi.typeIs F.entry_tuple_iterator_next ?_ (F.args_tuple_iterator_next_1 _)))
 show wpAny _ _ (field (.ref jt) 0 >>= _) _ _ ss
 refine wpAny_bind (wpAny_field eo ed (x:=.ref tt) rfl ?_)
 show wpAny _ _ (if(Value.ref tt==Value.none)=true then _ else _) _ _ ss
 rw[if_neg (show ¬ ((Value.ref tt==Value.none)=true)from D0)]
 show wpAny _ _ (field (.ref jt) 1 >>= _) _ _ ss
 refine wpAny_bind (wpAny_field eo ed (x:=.int k 0) rfl ?_)
 show wpAny _ _ (seqItems? (.ref tt) >>= _) _ _ ss
 refine wpAny_bind (wpAny_seqItems el edl ?_)
 simp only[Ee,qy]
 refine wpAny_bind (wpAny_setField eo ed (by simp) (wpAny_pure ⟨y,rfl,wpAny_pure (kk _ ?_ (Heap.SameBut.update ..))⟩))
 exact⟨_,Heap.get?_update_self _ eo (Obj.isFreed_of_fields (Obj.data_mapFields ed _)),(Obj.cls_mapFields ..).trans ec,by rw[Obj.data_mapFields ed];simp[rawInt]⟩
theorem gS {jt tt:Addr}{k:Nat}{els:Array Value}{Q:Value->Shared->Prop}(hh:A.handled=none)(qi:ss.heap.IsTupleIter jt tt k)(qt:ss.heap.IsTuple tt els)(qy:els[k]?=none)
  (kk:∀h1 e,Heap.ExtBut jt ss.heap h1->(∃o,h1.get? e=some o/\o.cls=.type "StopIteration")->E (.ref e) {ss with heap:=h1}):wpAny (model prog w) A (Builtin.SmallTypes.nextOf (.ref jt)) Q E ss:=by
 obtain⟨qo,eo,ec,ed⟩:=id qi
 obtain⟨ql,el,_,nl,edl⟩:=qt
 unfold Builtin.SmallTypes.nextOf
 refine wpAny_bind (wpAny_callSpecial?_slot (name:=Str.ofString "__next__") qi.typeIs F.slot_tuple_iterator_next (wpAny_call_entry F.slot_tuple_iterator_next qi.typeIs F.entry_tuple_iterator_next ?_ (F.args_tuple_iterator_next_1 _)))
 show wpAny _ _ (field (.ref jt) 0 >>= _) _ _ ss
 refine wpAny_bind (wpAny_field eo ed (x:=.ref tt) rfl ?_)
 show wpAny _ _ (if(Value.ref tt==Value.none)=true then _ else _) _ _ ss
 rw[if_neg (show ¬ ((Value.ref tt==Value.none)=true)from D0)]
 show wpAny _ _ (field (.ref jt) 1 >>= _) _ _ ss
 refine wpAny_bind (wpAny_field eo ed (x:=.int k 0) rfl ?_)
 show wpAny _ _ (seqItems? (.ref tt) >>= _) _ _ ss
 refine wpAny_bind (wpAny_seqItems el edl ?_)
 simp only[Ee,qy]
 refine wpAny_bind (wpAny_rule (wpAny_bind (wpAny_setField eo ed (by simp) ?_)))
 show wpAny _ _ (newExc (.type "StopIteration") ([]:List Value) >>= _) _ _ _
 refine wpAny_bind ?_
 simp only[newExc,newTuple]
 refine wpAny_bind (wpAny_newObj_type ?_ (by size_fits))
 refine wpAny_bind (m:=firstArgMember _ _) (wpAny_of_eq (a:=Value.none) (by first|rfl|(simp only[firstArgMember];rfl;done)) ?_)
 refine wpAny_newObj_type ?_ (by size_fits)
 simp only[raiseNew]
 refine wpAny_bind (wpAny_handled ?_)
 first|rw[show A.in1.handled=none from hh]|rw[id hh]
 refine wpAny_bind (wpAny_pure (wpAny_throw ?_))
 exact kk _ _ (((Heap.SameBut.update ..).extBut.push _).push _) ⟨_,Heap.get?_push_size _ rfl,rfl⟩
theorem lS (hh:A.handled=none)(jt tt:Addr)(ne:tt≠jt)(els:Array Value):Draws prog w A jt [jt,tt] els.size (λk v=>els[k]?=some v) (λk h=>h.IsTupleIter jt tt k/\h.IsTuple tt els) where
 live:=λ_ _ st=>let ⟨o,ho,_⟩:=st.1;⟨o,ho⟩
 frame:=λ_ _ _ st hk=>⟨st.1.at λo e=>hk jt (by simp) o e,let ⟨o,ho,r⟩:=st.2;⟨o,hk tt (by simp) o ho,r⟩⟩
 item:=λk s Q E hi st kk=>jP st.1 st.2 (y:=els[k]) (by simp[hi]) λh1 i1 s1=>kk _ h1 s.toks (by simp[hi]) ⟨i1,st.2.extBut s1.extBut ne⟩ s1
 done:=λs Q E st kk=>gS hh st.1 st.2 (by simp) kk
end
def lq:V->List V->Hp->VK->Prop:=λx vs H Q=>∃l xs i y,x=.ref l/\vs=[.int i,y]/\H l=some (.lst xs)/\0<=i/\i<=xs.length/\xs.length<sizeLine/\Q .non (upd H l (.lst (xs.take i.toNat++y::xs.drop i.toNat)))
theorem p9 {X:Cx}:MtM X "list.insert" lq:=by
 intro pins s Z H x vs v us Q I rx rv h
 obtain⟨l,xs,i,y,rfl,rfl,hH,hi0,hi,hz0,q⟩:=h
 cases rx
 obtain⟨u1,u2,rfl,ru,ry⟩:=mT rv
 obtain⟨t,rfl⟩:=ru
 obtain⟨z,its,n,r,hl,e⟩:=I.lstM hH
 have h63:i<2^63:=by rw[sizeLine_eq]at hz0;omega
 have h62 : -(2^63)<=i:=by omega
 have hfit:¬(!Builtin.List.listFitsIndex i)=true:=by rw[fitsIndex_both h62 h63];exact D0
 have hsz:its.toArray.size<=sizeLine:=by rw[DT];omega
 refine call_meets F.slot_list_insert ⟨_,e,rfl⟩ F.entry_list_insert (F.args_list_insert_3 _ _ _) (PySem.AutoSeq1.list_insert_list_int_val_1 l _ n i t u2 hfit hsz) ⟨e,?_⟩
 refine⟨.non,_,I.lset (its':=its.take i.toNat++u2::its.drop i.toNat) hH e ?_ ((r.take i.toNat).append (.cons ry (r.drop i.toNat))) ?_,rfl,q⟩
 ·show(its.toArray.extract 0 (if i<0 then(i+(its.toArray.size:Int)).toNat else min i.toNat its.toArray.size)).push u2++its.toArray.extract (if i<0 then(i+(its.toArray.size:Int)).toNat else min i.toNat its.toArray.size)=(its.take i.toNat++u2::its.drop i.toNat).toArray
  have hm:min i.toNat its.toArray.size=i.toNat:=by rw[DT];omega
  rw[if_neg (by omega),hm]
  simp
  rw[Eg (by rw[EM];exact DY _)]
 ·rw[D8,Ew,D5,EM]
  omega
noncomputable def bO:Expr->Bool
 | .Starred _ _=>true
 | _=>false
theorem bc {e:Expr}{es:List Expr}{env:Env}(h:bO e=false):starEach (e::es) env=(false,eval e env)::starEach es env:=by
 cases e<;>first|rfl|cases h
noncomputable def aW:List Expr->Bool
 | []=>true
 | e::es=>(!bO e)&&aW es
theorem cE {env:Env}{pos:Pos}:∀{es:List Expr},aW es=true->(backTo pos (starEach es env)).any (·.1)=false
 | [],_=>rfl
 | e::es,h=>by
  rw[aW,DU]at h
  have h1:bO e=false:=by simpa using h.1
  rw[bc h1]
  show(false||(backTo pos (starEach es env)).any (·.1))=false
  rw[cE h.2];rfl
theorem iL {env:Env}{pos:Pos}:∀{es:List Expr},aW es=true->(backTo pos (starEach es env)).all (λx=>!x.1)=true
 | [],_=>rfl
 | e::es,h=>by
  rw[aW,DU]at h
  have h1:bO e=false:=by simpa using h.1
  rw[bc h1]
  show(!false&&(backTo pos (starEach es env)).all (λx=>!x.1))=true
  rw[iL h.2];rfl
section
variable  {X:Cx}{K:yF}{e:Expr}{es:List Expr}{te:TE}{t:TA}{x:Str}{p pos:Pos}{k:Nat}{ps:List Str}{sp:Sp}
theorem gT (ha:PE X e te)(hr:PA X es t)(hs:bO e=false:=by rfl):PA X (e::es) (pb te t):=vU ha hr (bc hs)
theorem sK (h:Has X.prog X.w X.K X.mg X.base k x ps sp)(hr:Room k X.A)(hg:Gl X x)(ha:PA X (e::es) t)(hn:aW (e::es)=true:=by rfl)(hdb:(x==("__debug__" : Str))=false:=by decide):PE X (.Call (.Name x p) (e::es) [] pos) (kG sp [] E0 t):=by
 rw[aW,DU]at hn
 exact B9 h hr hg ha hdb (bc (by simpa using hn.1)) (cE hn.2)
theorem il {id:String}{r:List V->Hp->VK->Prop}(hc:CallR X (.builtin id) r)(hg:Gl X x)(hm:X.mg x=none)(hb:bootBuiltins x=some (.builtin id))(ha:PA X (e::es) t)(hn:aW (e::es)=true:=by rfl)(hx:x≠("__name__" : Str):=by decide)(hdb:(x==("__debug__" : Str))=false:=by decide):PE X (.Call (.Name x p) (e::es) [] pos) (tCB r t):=by
 rw[aW,DU]at hn
 exact sI hc hg hm hb ha hx hdb (bc (by simpa using hn.1)) (cE hn.2)
theorem nI {T:String}{r:List V->Hp->VK->Prop}(hc:CallR X (.type T) r)(hg:Gl X x)(hm:X.mg x=none)(hb:bootBuiltins x=some (.type T))(ha:PA X (e::es) t)(hn:aW (e::es)=true:=by rfl)(hx:x≠("__name__" : Str):=by decide)(hdb:(x==("__debug__" : Str))=false:=by decide):PE X (.Call (.Name x p) (e::es) [] pos) (tCB r t):=by
 rw[aW,DU]at hn
 exact qf hc hg hm hb ha hx hdb (bc (by simpa using hn.1)) (cE hn.2)
theorem Bu {o:Expr}{to:TE}{name:Str}{apos cpos:Pos}{T id:String}{r:V->List V->Hp->VK->Prop}(h:X.K=K)(pa:PlainAttrs T)(slot:Slot T name id)(hty:typeOf (.builtin id)=pure (.type "method_descriptor"))(hm:MtR X id r)(ho:PE X o to)(ha:PA X (e::es) t)(hn:aW (e::es)=true:=by rfl)(hlen:decide ((e::es).length<30)=true:=by rfl)
  (hbase:attributeBase o name X.env (eval o X.env)=eval o X.env:=by rfl) (hline:(apos.endLine==cpos.line)=true:=by rfl):PE X (.Call (.Attribute o name apos) (e::es) [] cpos) (tBM K T r to t):=by
 have hn':=hn
 rw[aW,DU]at hn'
 refine bmK h pa slot hty hm ho ha hbase ?_ hline (bc (by simpa using hn'.1)) (cE hn'.2)
 rw[iL hn]
 have:=of_decide_eq_true hlen
 simp only[GS,List.length_nil,Nat.add_zero,List.isEmpty_nil,if_true]
 rw[decide_eq_true this]
 rfl
end
inductive I where
 | non|bl (b:Bool)|int (i:Int)|str (x:Str)|tup (is:List I)|ls (is:List I)
 | fd (ks:List Key) (is:List I)
mutual
def I.beq:I->I->Bool
 | .non,.non=>true
 | .bl a,.bl b=>a==b
 | .int a,.int b=>decide (a=b)
 | .str a,.str b=>decide (a=b)
 | .tup a,.tup b=>I.beqs a b
 | .ls a,.ls b=>I.beqs a b
 | .fd k a,.fd j b=>decide (k=j)&&I.beqs a b
 | _,_=>false
def I.beqs:List I->List I->Bool
 | [],[]=>true
 | a::as,b::bs=>I.beq a b&&I.beqs as bs
 | _,_=>false
end
mutual
theorem I.beq_iff:∀{a b:I},I.beq a b=true↔a=b
 | .non,b=>by cases b<;>simp[I.beq]
 | .bl x,b=>by cases b<;>simp[I.beq]
 | .int x,b=>by cases b<;>simp[I.beq]
 | .str x,b=>by cases b<;>simp[I.beq]
 | .tup x,b=>by
  cases b with
  | tup y=>rw[I.beq,I.beqs_iff,I.tup.injEq]
  | _=>simp[I.beq]
 | .ls x,b=>by
  cases b with
  | ls y=>rw[I.beq,I.beqs_iff,I.ls.injEq]
  | _=>simp[I.beq]
 | .fd k x,b=>by
  cases b with
  | fd j y=>rw[I.beq,DU,I.beqs_iff,I.fd.injEq,decide_eq_true_iff]
  | _=>simp[I.beq]
theorem I.beqs_iff:∀{a b:List I},I.beqs a b=true↔a=b
 | [],b=>by cases b<;>simp[I.beqs]
 | x::xs,b=>by
  cases b with
  | nil=>simp[I.beqs]
  | cons y ys=>rw[I.beqs,DU,I.beq_iff,I.beqs_iff,ES.injEq]
end
instance:DecidableEq I:=λa b=>decidable_of_iff (I.beq a b=true) I.beq_iff
inductive T where
 | im (i:I)|tup (ts:List T)|li (is:List I)|lst (ts:List T)|di (kvs:List (I×I))|dc (kvs:List (I×T))|ins (C:Addr) (fs:List (Str×T))
noncomputable def dh:Key->I
 | .inl i=>.int i
 | .inr x=>.str x
def DAt (K:yF)(H:Hp)(a:Addr)(ks:List (I×V)):Prop:=∃ys:List (Key×V),H a=some (.dK ys)/\ks=ys.map λp=>(dh p.1,p.2)
mutual
def RpI (K:yF)(H:Hp):I->V->Prop
 | .non,v=>v=.non
 | .bl b,v=>v=.bl b
 | .int i,v=>v=.int i
 | .str x,v=>v=.str x
 | .tup is,v=>∃a xs,v=.ref a/\SqT K H a xs/\RpIs K H is xs
 | .ls is,v=>∃a o xs,v=.ref a/\H a=some (.frz o (.lst xs))/\RpIs K H is xs
 | .fd ks is,v=>∃a o ys,v=.ref a/\H a=some (.frz o (.dK ys))/\ys.map (·.1)=ks/\RpIs K H is (ys.map (·.2))
def RpIs (K:yF)(H:Hp):List I->List V->Prop
 | [],xs=>xs=[]
 | t::ts,xs=>∃x r,xs=x::r/\RpI K H t x/\RpIs K H ts r
end
mutual
def Rp (K:yF)(H:Hp):T->V->List Addr->Prop
 | .im i,v,F=>RpI K H i v/\F=[]
 | .tup ts,v,F=>∃a xs,v=.ref a/\SqT K H a xs/\Rps K H ts xs F
 | .li is,v,F=>∃a xs,v=.ref a/\Rd H a (.lst xs)/\RpIs K H is xs/\F=[a]
 | .lst ts,v,F=>∃a xs F',v=.ref a/\Rd H a (.lst xs)/\Rps K H ts xs F'/\F=a::F'
 | .di kvs,v,F=>∃a ys,v=.ref a/\DAt K H a ys/\RpIs K H (kvs.map (·.2)) (ys.map (·.2))/\ys.map (·.1)=kvs.map (·.1)/\F=[a]
 | .dc kvs,v,F=>∃a ys F',v=.ref a/\DAt K H a ys/\Rpk K H kvs ys F'/\F=a::F'
 | .ins C fs,v,F=>∃a dx ys F',v=.ref a/\H a=some (.ins C dx ys)/\Rpf K H fs ys F'/\F=a::F'
def Rps (K:yF)(H:Hp):List T->List V->List Addr->Prop
 | [],xs,F=>xs=[]/\F=[]
 | t::ts,xs,F=>∃x r F1 F2,xs=x::r/\Rp K H t x F1/\Rps K H ts r F2/\F=F1++F2
def Rpk (K:yF)(H:Hp):List (I×T)->List (I×V)->List Addr->Prop
 | [],xs,F=>xs=[]/\F=[]
 | (k,t)::ts,xs,F=>∃x r F1 F2,xs=(k,x)::r/\Rp K H t x F1/\Rpk K H ts r F2/\F=F1++F2
def Rpf (K:yF)(H:Hp):List (Str×T)->List (Str×V)->List Addr->Prop
 | [],xs,F=>xs=[]/\F=[]
 | (k,t)::ts,xs,F=>∃x r F1 F2,xs=(k,x)::r/\Rp K H t x F1/\Rpf K H ts r F2/\F=F1++F2
end
noncomputable def Dv:HO->Bool
 | .lst _=>true|.dK _=>true|.dT _=>true|.ins _ _ _=>true|.ext _=>true|_=>false
def Mu (H:Hp)(a:Addr):Prop:=∃o,H a=some o/\Dv o=true
def OffM (M:List Addr)(H H':Hp):Prop:=∀b o,H b=some o->b∉M->H' b=some o
theorem Same.offM {H H':Hp}(s:Same H H')(M:List Addr):OffM M H H':=λb o h _=>s b o h
theorem OffM.refl (M:List Addr)(H:Hp):OffM M H H:=λb o h _=>h
theorem OffM.mono {M M':List Addr}{H H1:Hp}(x:OffM M H H1)(y:∀a∈M,a∈M'):OffM M' H H1:=λb o h n=>x b o h λz=>n (y b z)
theorem OffM.upd {H:Hp}{a:Addr}{o:HO}:OffM [a] H (upd H a o):=λb u h n=>by rw[upd_ne (by simpa using n)];exact h
theorem OffM.rd {M:List Addr}{H H':Hp}{a:Addr}{o:HO}(x:OffM M H H')(n:a∉M)(h:Rd H a o):Rd H' a o:=by
 rcases h with h|⟨u,h⟩
 ·exact .inl (x a _ h n)
 ·exact .inr ⟨u,x a _ h n⟩
theorem OffM.sqT {K:yF}{M:List Addr}{H H':Hp}{a:Addr}{xs:List V}(x:OffM M H H')(hM:∀b∈M,Mu H b)(h:SqT K H a xs):SqT K H' a xs:=by
 rcases h with(h|⟨u,h⟩)|h
 ·exact .inl (.inl (x a _ h λz=>by obtain⟨o,e,m⟩:=hM a z;rw[h]at e;cases e;cases m))
 ·exact .inl (.inr ⟨u,x a _ h λz=>by obtain⟨o,e,m⟩:=hM a z;rw[h]at e;cases e;cases m⟩)
 ·exact .inr h
theorem DAt.off {K:yF}{M:List Addr}{H H':Hp}{a:Addr}{ks:List (I×V)}(x:OffM M H H')(n:a∉M)(h:DAt K H a ks):DAt K H' a ks:=by
 obtain⟨ys,h1,h2⟩:=h
 exact⟨ys,x a _ h1 n,h2⟩
theorem DAt.dom {K:yF}{H:Hp}{a:Addr}{ks:List (I×V)}(h:DAt K H a ks):∃o,H a=some o:=by
 obtain⟨ys,h1,h2⟩:=h
 exact⟨_,h1⟩
theorem Rd.dom {H:Hp}{a:Addr}{u:HO}(h:Rd H a u):∃o,H a=some o:=by
 rcases h with h|⟨o,h⟩
 ·exact⟨_,h⟩
 ·exact⟨_,h⟩
mutual
theorem RpI.off {K:yF}{M:List Addr}{H H':Hp}(x:OffM M H H')(hM:∀b∈M,Mu H b):∀{t:I} {v:V},RpI K H t v->RpI K H' t v
 | .non,_,h=>by rw[RpI]at h⊢;exact h
 | .bl _,_,h=>by rw[RpI]at h⊢;exact h
 | .int _,_,h=>by rw[RpI]at h⊢;exact h
 | .str _,_,h=>by rw[RpI]at h⊢;exact h
 | .tup ts,_,h=>by rw[RpI]at h⊢;obtain⟨a,xs,h1,h2,h3⟩:=h;exact⟨a,xs,h1,x.sqT hM h2,RpIs.off x hM h3⟩
 | .ls ts,_,h=>by
  rw[RpI]at h⊢;obtain⟨a,o,xs,h1,h2,h3⟩:=h
  exact⟨a,o,xs,h1,x a _ h2 (λz=>by obtain⟨u,e,m⟩:=hM a z;rw[h2]at e;cases e;cases m),RpIs.off x hM h3⟩
 | .fd ks ts,_,h=>by
  rw[RpI]at h⊢;obtain⟨a,o,ys,h1,h2,h3,h4⟩:=h
  exact⟨a,o,ys,h1,x a _ h2 (λz=>by obtain⟨u,e,m⟩:=hM a z;rw[h2]at e;cases e;cases m),h3,RpIs.off x hM h4⟩
theorem RpIs.off {K:yF}{M:List Addr}{H H':Hp}(x:OffM M H H')(hM:∀b∈M,Mu H b):∀{ts:List I} {xs:List V},RpIs K H ts xs->RpIs K H' ts xs
 | [],_,h=>by rw[RpIs]at h⊢;exact h
 | t::ts,_,h=>by
  rw[RpIs]at h⊢;obtain⟨y,r,h1,h2,h3⟩:=h
  exact⟨y,r,h1,RpI.off x hM h2,RpIs.off x hM h3⟩
end
mutual
theorem Rp.off {K:yF}{M:List Addr}{H H':Hp}(x:OffM M H H')(hM:∀b∈M,Mu H b):∀{t:T} {v:V} {F:List Addr},(∀a∈F,a∉M)->Rp K H t v F->Rp K H' t v F
 | .im _,_,_,_,h=>by rw[Rp]at h⊢;exact⟨RpI.off x hM h.1,h.2⟩
 | .tup ts,_,_,n,h=>by rw[Rp]at h⊢;obtain⟨a,xs,h1,h2,h3⟩:=h;exact⟨a,xs,h1,x.sqT hM h2,Rps.off x hM n h3⟩
 | .li ts,_,_,n,h=>by
  rw[Rp]at h⊢;obtain⟨a,xs,h1,h2,h3,rfl⟩:=h
  exact⟨a,xs,h1,x.rd (n a ymS) h2,RpIs.off x hM h3,rfl⟩
 | .lst ts,_,_,n,h=>by
  rw[Rp]at h⊢;obtain⟨a,xs,F',h1,h2,h3,rfl⟩:=h
  exact⟨a,xs,F',h1,x.rd (n a ymS) h2,Rps.off x hM (λb hb=>n b (ymC _ hb)) h3,rfl⟩
 | .di kvs,_,_,n,h=>by
  rw[Rp]at h⊢;obtain⟨a,xs,h1,h2,h3,h4,rfl⟩:=h
  exact⟨a,xs,h1,h2.off x (n a ymS),RpIs.off x hM h3,h4,rfl⟩
 | .dc kvs,_,_,n,h=>by
  rw[Rp]at h⊢;obtain⟨a,xs,F',h1,h2,h3,rfl⟩:=h
  exact⟨a,xs,F',h1,h2.off x (n a ymS),Rpk.off x hM (λb hb=>n b (ymC _ hb)) h3,rfl⟩
 | .ins C fs,_,_,n,h=>by
  rw[Rp]at h⊢;obtain⟨a,dx,xs,F',h1,h2,h3,rfl⟩:=h
  exact⟨a,dx,xs,F',h1,x a _ h2 (n a ymS),Rpf.off x hM (λb hb=>n b (ymC _ hb)) h3,rfl⟩
theorem Rps.off {K:yF}{M:List Addr}{H H':Hp}(x:OffM M H H')(hM:∀b∈M,Mu H b):∀{ts:List T} {xs:List V} {F:List Addr},(∀a∈F,a∉M)->Rps K H ts xs F->Rps K H' ts xs F
 | [],_,_,_,h=>by rw[Rps]at h⊢;exact h
 | t::ts,_,_,n,h=>by
  rw[Rps]at h⊢;obtain⟨y,r,F1,F2,h1,h2,h3,rfl⟩:=h
  exact⟨y,r,F1,F2,h1,Rp.off x hM (λb hb=>n b (yaL _ hb)) h2,Rps.off x hM (λb hb=>n b (yaR _ hb)) h3,rfl⟩
theorem Rpk.off {K:yF}{M:List Addr}{H H':Hp}(x:OffM M H H')(hM:∀b∈M,Mu H b):∀{ts:List (I×T)} {xs:List (I×V)} {F:List Addr},(∀a∈F,a∉M)->Rpk K H ts xs F->Rpk K H' ts xs F
 | [],_,_,_,h=>by rw[Rpk]at h⊢;exact h
 | (k,t)::ts,_,_,n,h=>by
  rw[Rpk]at h⊢;obtain⟨y,r,F1,F2,h1,h2,h3,rfl⟩:=h
  exact⟨y,r,F1,F2,h1,Rp.off x hM (λb hb=>n b (yaL _ hb)) h2,Rpk.off x hM (λb hb=>n b (yaR _ hb)) h3,rfl⟩
theorem Rpf.off {K:yF}{M:List Addr}{H H':Hp}(x:OffM M H H')(hM:∀b∈M,Mu H b):∀{ts:List (Str×T)} {xs:List (Str×V)} {F:List Addr},(∀a∈F,a∉M)->Rpf K H ts xs F->Rpf K H' ts xs F
 | [],_,_,_,h=>by rw[Rpf]at h⊢;exact h
 | (k,t)::ts,_,_,n,h=>by
  rw[Rpf]at h⊢;obtain⟨y,r,F1,F2,h1,h2,h3,rfl⟩:=h
  exact⟨y,r,F1,F2,h1,Rp.off x hM (λb hb=>n b (yaL _ hb)) h2,Rpf.off x hM (λb hb=>n b (yaR _ hb)) h3,rfl⟩
end
theorem Rps.same {K:yF}{H H':Hp}(x:Same H H'){t:List T}{v:List V}{F:List Addr}(h:Rps K H t v F):Rps K H' t v F:=Rps.off (x.offM []) (by simp) (by simp) h
theorem RpIs.same {K:yF}{H H':Hp}(x:Same H H'){t:List I}{v:List V}(h:RpIs K H t v):RpIs K H' t v:=RpIs.off (x.offM []) (by simp) h
mutual
theorem Rp.dom {K:yF}{H:Hp}:∀{t:T} {v:V} {F:List Addr},Rp K H t v F->∀a∈F,∃o,H a=some o
 | .im _,_,_,h=>by rw[Rp]at h;rw[h.2];simp
 | .tup ts,_,_,h=>by rw[Rp]at h;obtain⟨_,_,_,_,h⟩:=h;exact Rps.dom h
 | .li ts,_,_,h=>by
  rw[Rp]at h;obtain⟨a,xs,h1,h2,h3,rfl⟩:=h
  intro b hb
  rw[ysM hb];exact h2.dom
 | .lst ts,_,_,h=>by
  rw[Rp]at h;obtain⟨a,xs,F',h1,h2,h3,rfl⟩:=h
  intro b hb
  rcases ycM hb with rfl|hb
  ·exact h2.dom
  ·exact Rps.dom h3 b hb
 | .di ts,_,_,h=>by
  rw[Rp]at h;obtain⟨a,xs,h1,h2,h3,h4,rfl⟩:=h
  intro b hb
  rw[ysM hb];exact h2.dom
 | .dc ts,_,_,h=>by
  rw[Rp]at h;obtain⟨a,xs,F',h1,h2,h3,rfl⟩:=h
  intro b hb
  rcases ycM hb with rfl|hb
  ·exact h2.dom
  ·exact Rpk.dom h3 b hb
 | .ins C ts,_,_,h=>by
  rw[Rp]at h;obtain⟨a,dx,xs,F',h1,h2,h3,rfl⟩:=h
  intro b hb
  rcases ycM hb with rfl|hb
  ·exact⟨_,h2⟩
  ·exact Rpf.dom h3 b hb
theorem Rps.dom {K:yF}{H:Hp}:∀{ts:List T} {xs:List V} {F:List Addr},Rps K H ts xs F->∀a∈F,∃o,H a=some o
 | [],_,_,h=>by rw[Rps]at h;rw[h.2];simp
 | t::ts,_,_,h=>by
  rw[Rps]at h;obtain⟨y,r,F1,F2,h1,h2,h3,rfl⟩:=h
  intro b hb
  rcases yaM hb with hb|hb
  ·exact Rp.dom h2 b hb
  ·exact Rps.dom h3 b hb
theorem Rpk.dom {K:yF}{H:Hp}:∀{ts:List (I×T)} {xs:List (I×V)} {F:List Addr},Rpk K H ts xs F->∀a∈F,∃o,H a=some o
 | [],_,_,h=>by rw[Rpk]at h;rw[h.2];simp
 | (k,t)::ts,_,_,h=>by
  rw[Rpk]at h;obtain⟨y,r,F1,F2,h1,h2,h3,rfl⟩:=h
  intro b hb
  rcases yaM hb with hb|hb
  ·exact Rp.dom h2 b hb
  ·exact Rpk.dom h3 b hb
theorem Rpf.dom {K:yF}{H:Hp}:∀{ts:List (Str×T)} {xs:List (Str×V)} {F:List Addr},Rpf K H ts xs F->∀a∈F,∃o,H a=some o
 | [],_,_,h=>by rw[Rpf]at h;rw[h.2];simp
 | (k,t)::ts,_,_,h=>by
  rw[Rpf]at h;obtain⟨y,r,F1,F2,h1,h2,h3,rfl⟩:=h
  intro b hb
  rcases yaM hb with hb|hb
  ·exact Rp.dom h2 b hb
  ·exact Rpf.dom h3 b hb
end
theorem RpIs.nil {K:yF}{H:Hp}:RpIs K H [] []:=by rw[RpIs]
theorem RpIs.cons {K:yF}{H:Hp}{t:I}{ts:List I}{x:V}{xs:List V}(h:RpI K H t x)(hs:RpIs K H ts xs):RpIs K H (t::ts) (x::xs):=by rw[RpIs];exact⟨x,xs,rfl,h,hs⟩
theorem RpIs.cons_inv {K:yF}{H:Hp}{t:I}{ts:List I}{xs:List V}(h:RpIs K H (t::ts) xs):∃x r,xs=x::r/\RpI K H t x/\RpIs K H ts r:=by rw[RpIs]at h;exact h
theorem RpIs.nil_inv {K:yF}{H:Hp}{xs:List V}(h:RpIs K H [] xs):xs=[]:=by rw[RpIs]at h;exact h
theorem RpIs.length {K:yF}{H:Hp}:∀{ts:List I} {xs:List V},RpIs K H ts xs->xs.length=ts.length
 | [],xs,h=>by rw[h.nil_inv];rfl
 | d::ds,xs,h=>by obtain⟨x,r,rfl,_,h3⟩:=h.cons_inv;rw[D5,D5,h3.length]
theorem RpIs.get {K:yF}{H:Hp}:∀{ts:List I} {xs:List V} {i:Nat} {t:I},RpIs K H ts xs->ts[i]?=some t->∃x,xs[i]?=some x/\RpI K H t x
 | [],_,_,_,_,e=>by simp at e
 | d::ds,xs,0,d',h,e=>by
  obtain⟨x,r,rfl,h2,h3⟩:=h.cons_inv
  simp at e;subst e
  exact⟨x,rfl,h2⟩
 | d::ds,xs,i+1,d',h,e=>by
  obtain⟨x,r,rfl,h2,h3⟩:=h.cons_inv
  obtain⟨y,h4,h5⟩:=RpIs.get (i:=i) h3 (by simpa using e)
  exact⟨y,by simpa using h4,h5⟩
theorem RpIs.append {K:yF}{H:Hp}:∀{ds es:List I} {xs ys:List V},RpIs K H ds xs->RpIs K H es ys->RpIs K H (ds++es) (xs++ys)
 | [],es,xs,ys,h,h'=>by obtain rfl:=h.nil_inv;exact h'
 | d::ds,es,xs,ys,h,h'=>by
  obtain⟨x,r,rfl,h2,h3⟩:=h.cons_inv
  exact RpIs.cons h2 (RpIs.append h3 h')
theorem RpIs.take {K:yF}{H:Hp}:∀{ds:List I} {xs:List V} (n:Nat),RpIs K H ds xs->RpIs K H (ds.take n) (xs.take n)
 | ds,xs,0,h=>by simp only[Hl];exact RpIs.nil
 | [],xs,n+1,h=>by obtain rfl:=h.nil_inv;exact RpIs.nil
 | d::ds,xs,n+1,h=>by
  obtain⟨x,r,rfl,h2,h3⟩:=h.cons_inv
  exact RpIs.cons h2 (RpIs.take n h3)
theorem RpIs.drop {K:yF}{H:Hp}:∀{ds:List I} {xs:List V} (n:Nat),RpIs K H ds xs->RpIs K H (ds.drop n) (xs.drop n)
 | ds,xs,0,h=>h
 | [],xs,n+1,h=>by obtain rfl:=h.nil_inv;exact RpIs.nil
 | d::ds,xs,n+1,h=>by
  obtain⟨x,r,rfl,h2,h3⟩:=h.cons_inv
  exact RpIs.drop n h3
theorem RpIs.one {K:yF}{H:Hp}{t:I}{x:V}(h:RpI K H t x):RpIs K H [t] [x]:=.cons h .nil
theorem RpIs.reverse {K:yF}{H:Hp}:∀{ds:List I} {xs:List V},RpIs K H ds xs->RpIs K H ds.reverse xs.reverse
 | [],xs,h=>by obtain rfl:=h.nil_inv;exact RpIs.nil
 | d::ds,xs,h=>by
  obtain⟨x,r,rfl,h2,h3⟩:=h.cons_inv
  rw[Fw,Fw]
  exact RpIs.append (RpIs.reverse h3) (.one h2)
theorem RpIs.set {K:yF}{H:Hp}{t:I}{x:V}(hx:RpI K H t x):∀{ds:List I} {xs:List V} (n:Nat),RpIs K H ds xs->RpIs K H (ds.set n t) (xs.set n x)
 | [],xs,n,h=>by obtain rfl:=h.nil_inv;exact RpIs.nil
 | d::ds,xs,0,h=>by obtain⟨y,r,rfl,h2,h3⟩:=h.cons_inv;exact RpIs.cons hx h3
 | d::ds,xs,n+1,h=>by obtain⟨y,r,rfl,h2,h3⟩:=h.cons_inv;exact RpIs.cons h2 (RpIs.set hx n h3)
theorem RpIs.ints {K:yF}{H:Hp}:∀(ns:List Int),RpIs K H (ns.map I.int) (ns.map V.int)
 | []=>RpIs.nil
 | n::ns=>RpIs.cons (by rw[RpI]) (RpIs.ints ns)
theorem Rps.nil {K:yF}{H:Hp}:Rps K H [] [] []:=by rw[Rps];exact⟨rfl,rfl⟩
theorem Rps.cons {K:yF}{H:Hp}{t:T}{ts:List T}{x:V}{xs:List V}{F F':List Addr}(h:Rp K H t x F)(hs:Rps K H ts xs F'):Rps K H (t::ts) (x::xs) (F++F'):=by rw[Rps];exact⟨x,xs,F,F',rfl,h,hs,rfl⟩
theorem Rps.cons_inv {K:yF}{H:Hp}{t:T}{ts:List T}{xs:List V}{F:List Addr}(h:Rps K H (t::ts) xs F):∃x r F1 F2,xs=x::r/\Rp K H t x F1/\Rps K H ts r F2/\F=F1++F2:=by rw[Rps]at h;exact h
theorem Rps.nil_inv {K:yF}{H:Hp}{xs:List V}{F:List Addr}(h:Rps K H [] xs F):xs=[]/\F=[]:=by rw[Rps]at h;exact h
theorem Rps.length {K:yF}{H:Hp}:∀{ts:List T} {xs:List V} {F:List Addr},Rps K H ts xs F->xs.length=ts.length
 | [],xs,_,h=>by rw[h.nil_inv.1];rfl
 | d::ds,xs,_,h=>by obtain⟨x,r,_,_,rfl,_,h3,_⟩:=h.cons_inv;rw[D5,D5,h3.length]
theorem Rps.append {K:yF}{H:Hp}:∀{ds es:List T} {xs ys:List V} {F G:List Addr},Rps K H ds xs F->Rps K H es ys G->Rps K H (ds++es) (xs++ys) (F++G)
 | [],es,xs,ys,F,G,h,h'=>by obtain⟨rfl,rfl⟩:=h.nil_inv;exact h'
 | d::ds,es,xs,ys,F,G,h,h'=>by
  obtain⟨x,r,F1,F2,rfl,h2,h3,rfl⟩:=h.cons_inv
  rw[Ea]
  exact Rps.cons h2 (Rps.append h3 h')
theorem Rps.at {K:yF}{H:Hp}:∀{ts:List T} {xs:List V} {F:List Addr} {i:Nat} {t:T},Rps K H ts xs F->ts[i]?=some t →
  ∃x A G B,xs[i]?=some x/\Rp K H t x G/\F=A++G++B/\Rps K H (ts.take i) (xs.take i) A/\Rps K H (ts.drop (i+1)) (xs.drop (i+1)) B
 | [],_,_,_,_,_,e=>by simp at e
 | d::ds,xs,_,0,d',h,e=>by
  obtain⟨x,r,F1,F2,rfl,h2,h3,rfl⟩:=h.cons_inv
  simp at e;subst e
  exact⟨x,[],F1,F2,rfl,h2,by simp,Rps.nil,by simpa using h3⟩
 | d::ds,xs,_,i+1,d',h,e=>by
  obtain⟨x,r,F1,F2,rfl,h2,h3,rfl⟩:=h.cons_inv
  obtain⟨y,A,G,B,h4,h5,h6,h7,h8⟩:=Rps.at (i:=i) h3 (by simpa using e)
  refine⟨y,F1++A,G,B,by simpa using h4,h5,by rw[h6];simp,?_,by simpa using h8⟩
  simpa using Rps.cons h2 h7
theorem Rps.take {K:yF}{H:Hp}:∀{ds:List T} {xs:List V} {F:List Addr} (n:Nat),Rps K H ds xs F->∃G G',Rps K H (ds.take n) (xs.take n) G/\Rps K H (ds.drop n) (xs.drop n) G'/\F=G++G'
 | ds,xs,F,0,h=>⟨[],F,by simp only[Hl];exact Rps.nil,by simpa using h,rfl⟩
 | [],xs,F,n+1,h=>by obtain⟨rfl,rfl⟩:=h.nil_inv;exact⟨[],[],Rps.nil,Rps.nil,rfl⟩
 | d::ds,xs,F,n+1,h=>by
  obtain⟨x,r,F1,F2,rfl,h2,h3,rfl⟩:=h.cons_inv
  obtain⟨G,G',g1,g2,rfl⟩:=Rps.take n h3
  exact⟨F1++G,G',Rps.cons h2 g1,g2,by rw[Ea]⟩
theorem Rps.ims {K:yF}{H:Hp}:∀{is:List I} {xs:List V} {F:List Addr},Rps K H (is.map T.im) xs F↔(RpIs K H is xs/\F=[])
 | [],xs,F=>by rw[E7,Rps,RpIs]
 | i::is,xs,F=>by
  rw[DS,Rps,RpIs]
  constructor
  ·rintro⟨x,r,F1,F2,rfl,h1,h2,rfl⟩
   rw[Rp]at h1
   have:=Rps.ims.mp h2
   exact⟨⟨x,r,rfl,h1.1,this.1⟩,by rw[h1.2,this.2];rfl⟩
  ·rintro⟨⟨x,r,rfl,h1,h2⟩,rfl⟩
   exact⟨x,r,[],[],rfl,by rw[Rp];exact⟨h1,rfl⟩,Rps.ims.mpr ⟨h2,rfl⟩,rfl⟩
theorem ga {K:yF}{H:Hp}{i:I}{v:V}(h:RpI K H i v):Rp K H (.im i) v []:=by rw[Rp];exact⟨h,rfl⟩
theorem ba {K:yF}{H:Hp}{i:I}{v:V}{F:List Addr}(h:Rp K H (.im i) v F):RpI K H i v/\F=[]:=by rw[Rp]at h;exact h
noncomputable def I.sc:I->Option V
 | .non=>some .non|.bl b=>some (.bl b)|.int i=>some (.int i)|.str x=>some (.str x)|.tup _=>none|.ls _=>none|.fd _ _=>none
theorem iO {t:I}{K:yF}{H:Hp}{v:V}(h:t.sc=some v):RpI K H t v:=by
 cases t<;>simp only[I.sc]at h<;>cases h<;>rw[RpI]
theorem yk {t:I}{K:yF}{H:Hp}{v w:V}(h:t.sc=some v)(r:RpI K H t w):w=v:=by
 cases t<;>simp only[I.sc]at h<;>cases h<;>rw[RpI]at r<;>exact r
inductive Ac where
 | ix (n:Nat)|ky (k:I)|fd (f:Str)
 deriving DecidableEq
noncomputable def eI {κ α:Type} [DecidableEq κ]:List (κ × α)->κ->Option α
 | [],_=>none
 | (k',t)::r,k=>if k'=k then some t else eI r k
noncomputable def jv {κ α:Type} [DecidableEq κ]:List (κ × α)->κ->α->List (κ × α)
 | [],_,_=>[]
 | (k',t)::r,k,s=>if k'=k then(k',s)::r else(k',t)::jv r k s
noncomputable def iD:T->Ac->Option T
 | .lst ts,.ix n=>ts[n]?
 | .dc kvs,.ky k=>eI kvs k
 | .ins _ fs,.fd f=>eI fs f
 | _,_=>none
noncomputable def z6:T->Ac->T->T
 | .lst ts,.ix n,s=>.lst (ts.set n s)
 | .dc kvs,.ky k,s=>.dc (jv kvs k s)
 | .ins C fs,.fd f,s=>.ins C (jv fs f s)
 | t,_,_=>t
noncomputable def T.sub:T->List Ac->Option T
 | t,[]=>some t
 | t,a::p=>(iD t a).bind λs=>s.sub p
noncomputable def T.put:T->List Ac->T->T
 | _,[],s=>s
 | t,a::p,s=>match iD t a with
  | some u=>z6 t a (u.put p s)
  | none=>t
def at1 (K:yF)(H:Hp):V->Ac->V->Prop
 | v,.ix n,w=>∃a xs,v=.ref a/\H a=some (.lst xs)/\xs[n]?=some w
 | v,.ky k,w=>∃a ys,v=.ref a/\DAt K H a ys/\eI ys k=some w
 | v,.fd f,w=>∃a C dx ys,v=.ref a/\H a=some (.ins C dx ys)/\eI ys f=some w
def atP (K:yF)(H:Hp):V->List Ac->V->Prop
 | v,[],w=>w=v
 | v,a::p,w=>∃u,at1 K H v a u/\atP K H u p w
theorem DAt.det {K:yF}{H:Hp}{a:Addr}{xs ys:List (I×V)}(h:DAt K H a xs)(g:DAt K H a ys):xs=ys:=by
 obtain⟨zs,h1,rfl⟩:=h
 obtain⟨zs',h2,rfl⟩:=g
 rw[h1]at h2;cases h2;rfl
theorem om {K:yF}{H:Hp}{v w w':V}{a:Ac}(h:at1 K H v a w)(g:at1 K H v a w'):w=w':=by
 cases a with
 | ix n=>
  obtain⟨a,xs,rfl,h1,h2⟩:=h
  obtain⟨a',xs',e,g1,g2⟩:=g
  cases e;rw[h1]at g1;cases g1;rw[h2]at g2;cases g2;rfl
 | ky k=>
  obtain⟨a,xs,rfl,h1,h2⟩:=h
  obtain⟨a',xs',e,g1,g2⟩:=g
  cases e
  have:=h1.det g1
  subst this
  rw[h2]at g2;cases g2;rfl
 | fd f=>
  obtain⟨a,C,dx,xs,rfl,h1,h2⟩:=h
  obtain⟨a',C',dx',xs',e,g1,g2⟩:=g
  cases e;rw[h1]at g1;cases g1;rw[h2]at g2;cases g2;rfl
theorem gB {K:yF}{H:Hp}:∀{p:List Ac} {v w w':V},atP K H v p w->atP K H v p w'->w=w'
 | [],v,w,w',h,g=>by rw[atP]at h g;rw[h,g]
 | a::p,v,w,w',h,g=>by
  rw[atP]at h g
  obtain⟨u,h1,h2⟩:=h
  obtain⟨u',g1,g2⟩:=g
  have:=om h1 g1
  subst this
  exact gB h2 g2
theorem on {K:yF}{H:Hp}{a:Ac}:∀{p:List Ac} {v w u:V},atP K H v p w->at1 K H w a u->atP K H v (p++[a]) u
 | [],v,w,u,h,g=>by rw[atP]at h;subst h;exact⟨u,g,rfl⟩
 | b::p,v,w,u,h,g=>by
  rw[atP]at h
  obtain⟨x,h1,h2⟩:=h
  exact⟨x,h1,on h2 g⟩
theorem o8 {a:Ac}:∀{p:List Ac} {t s u:T},t.sub p=some s->iD s a=some u->t.sub (p++[a])=some u
 | [],t,s,u,h,g=>by rw[T.sub]at h;cases h;rw[EK,T.sub,g];rfl
 | b::p,t,s,u,h,g=>by
  rw[T.sub]at h
  rw[Ej,T.sub]
  cases e:iD t b with
  | none=>rw[e]at h;cases h
  | some x=>rw[e]at h;exact o8 (p:=p) h g
section
variable  {K:yF}{H:Hp}
theorem Rpk.at {k:I}:∀{ts:List (I×T)} {xs:List (I×V)} {F:List Addr} {t:T},Rpk K H ts xs F->eI ts k=some t →
  ∃x A G B,eI xs k=some x/\Rp K H t x G/\F=A++G++B/\∀H' s' G',(∀{u:T} {w:V} {F':List Addr},(∀a∈F',a∈A∨a∈B)->Rp K H u w F'->Rp K H' u w F')->Rp K H' s' x G'->Rpk K H' (jv ts k s') xs (A++G'++B)
 | [],xs,F,t,h,e=>by simp[eI]at e
 | (k',d)::ds,xs,F,t,h,e=>by
  rw[Rpk]at h
  obtain⟨x,r,F1,F2,rfl,h2,h3,rfl⟩:=h
  by_cases hk:k'=k
  ·subst hk
   simp[eI]at e
   subst e
   refine⟨x,[],F1,F2,by simp[eI],h2,by simp,λH' s' G' st q=>?_⟩
   simp only[jv,if_pos]
   rw[Rpk]
   refine⟨x,r,G',F2,rfl,q,?_,by simp⟩
   have:∀{ts:List (I×T)} {xs:List (I×V)} {F:List Addr},(∀a∈F,a∈F2)->Rpk K H ts xs F->Rpk K H' ts xs F:=by
    intro ts
    induction ts with
    | nil=>intro xs F _ h;rw[Rpk]at h⊢;exact h
    | cons p ts ih=>
     intro xs F hF h
     obtain⟨k2,t2⟩:=p
     rw[Rpk]at h⊢
     obtain⟨y,r,G1,G2,h1,h2,h3,rfl⟩:=h
     exact⟨y,r,G1,G2,h1,st (λa ha=>.inr (hF a (yaL _ ha))) h2,ih (λa ha=>hF a (yaR _ ha)) h3,rfl⟩
   exact this (λa ha=>ha) h3
  ·simp[eI,hk]at e
   obtain⟨y,A,G,B,h4,h5,h6,h7⟩:=Rpk.at h3 e
   refine⟨y,F1++A,G,B,by simp[eI,hk,h4],h5,by rw[h6];simp,λH' s' G' st q=>?_⟩
   simp only[jv,if_neg hk]
   rw[Rpk]
   exact⟨x,r,F1,A++G'++B,rfl,st (λa ha=>.inl (yaL _ ha)) h2,h7 H' s' G' (λha=>st (λa h=>(ha a h).imp (yaR _) id)) q,by simp⟩
theorem Rpf.at {k:Str}:∀{ts:List (Str×T)} {xs:List (Str×V)} {F:List Addr} {t:T},Rpf K H ts xs F->eI ts k=some t →
  ∃x A G B,eI xs k=some x/\Rp K H t x G/\F=A++G++B/\∀H' s' G',(∀{u:T} {w:V} {F':List Addr},(∀a∈F',a∈A∨a∈B)->Rp K H u w F'->Rp K H' u w F')->Rp K H' s' x G'->Rpf K H' (jv ts k s') xs (A++G'++B)
 | [],xs,F,t,h,e=>by simp[eI]at e
 | (k',d)::ds,xs,F,t,h,e=>by
  rw[Rpf]at h
  obtain⟨x,r,F1,F2,rfl,h2,h3,rfl⟩:=h
  by_cases hk:k'=k
  ·subst hk
   simp[eI]at e
   subst e
   refine⟨x,[],F1,F2,by simp[eI],h2,by simp,λH' s' G' st q=>?_⟩
   simp only[jv,if_pos]
   rw[Rpf]
   refine⟨x,r,G',F2,rfl,q,?_,by simp⟩
   have:∀{ts:List (Str×T)} {xs:List (Str×V)} {F:List Addr},(∀a∈F,a∈F2)->Rpf K H ts xs F->Rpf K H' ts xs F:=by
    intro ts
    induction ts with
    | nil=>intro xs F _ h;rw[Rpf]at h⊢;exact h
    | cons p ts ih=>
     intro xs F hF h
     obtain⟨k2,t2⟩:=p
     rw[Rpf]at h⊢
     obtain⟨y,r,G1,G2,h1,h2,h3,rfl⟩:=h
     exact⟨y,r,G1,G2,h1,st (λa ha=>.inr (hF a (yaL _ ha))) h2,ih (λa ha=>hF a (yaR _ ha)) h3,rfl⟩
   exact this (λa ha=>ha) h3
  ·simp[eI,hk]at e
   obtain⟨y,A,G,B,h4,h5,h6,h7⟩:=Rpf.at h3 e
   refine⟨y,F1++A,G,B,by simp[eI,hk,h4],h5,by rw[h6];simp,λH' s' G' st q=>?_⟩
   simp only[jv,if_neg hk]
   rw[Rpf]
   exact⟨x,r,F1,A++G'++B,rfl,st (λa ha=>.inl (yaL _ ha)) h2,h7 H' s' G' (λha=>st (λa h=>(ha a h).imp (yaR _) id)) q,by simp⟩
theorem Mu.lst {a:Addr}{xs:List V}(m:Mu H a)(h:Rd H a (.lst xs)):H a=some (.lst xs):=by
 rcases h with h|⟨o,h⟩
 ·exact h
 ·obtain⟨u,e,m⟩:=m;rw[h]at e;cases e;cases m
theorem Rps.stay {H':Hp}:∀{ts:List T} {xs:List V} {F:List Addr},(∀{u:T} {w:V} {F':List Addr},(∀a∈F',a∈F)->Rp K H u w F'->Rp K H' u w F')->Rps K H ts xs F->Rps K H' ts xs F
 | [],_,_,_,h=>by rw[Rps]at h⊢;exact h
 | t::ts,_,_,n,h=>by
  rw[Rps]at h⊢;obtain⟨y,r,F1,F2,h1,h2,h3,rfl⟩:=h
  exact⟨y,r,F1,F2,h1,n (λa ha=>yaL _ ha) h2,Rps.stay (λha=>n λa h=>yaR _ (ha a h)) h3,rfl⟩
theorem Rp.at1 {t s:T}{v:V}{F:List Addr}{a:Ac}(h:Rp K H t v F)(mu:∀b∈F,Mu H b)(nd:F.Nodup)(e:iD t a=some s) :
  ∃w A G B,L2.at1 K H v a w/\Rp K H s w G/\F=A++G++B/\∀H' s' G',OffM G H H'->Rp K H' s' w G'->Rp K H' (z6 t a s') v (A++G'++B):=by
 have dj:∀{A G B:List Addr},F=A++G++B->∀b,(b∈A∨b∈B)->b∉G:=by
  intro A G B e b hb hg
  rw[e]at nd
  rcases hb with hb|hb
  ·exact(DW.mp (DW.mp nd).1).2.2 b hb b hg rfl
  ·exact(DW.mp nd).2.2 b (yaR _ hg) b hb rfl
 have muG:∀{A G B:List Addr},F=A++G++B->∀b∈G,Mu H b:=λe b hb=>mu b (by rw[e];simp[hb])
 cases t with
 | lst ts=>
  cases a with
  | ix n=>
   rw[Rp]at h
   obtain⟨a,xs,F',rfl,h2,h3,rfl⟩:=h
   have ha:=(mu a ymS).lst h2
   obtain⟨x,A,G,B,h4,h5,h6,h7,h8⟩:=h3.at e
   have e':a::F'=(a::A)++G++B:=by rw[h6];simp
   refine⟨x,a::A,G,B,⟨a,xs,rfl,ha,h4⟩,h5,e',λH' s' G' off q=>?_⟩
   have st:∀{u:T} {w:V} {F':List Addr},(∀b∈F',b∈A∨b∈B)->Rp K H u w F'->Rp K H' u w F':=λhb r=>r.off off (muG e') (λb z=>dj e' b ((hb b z).imp (ymC _) id))
   show Rp K H' (.lst (ts.set n s')) (.ref a) _
   rw[Rp]
   refine⟨a,xs,A++G'++B,rfl,.inl (off a _ ha (dj e' a (.inl ymS))),?_,by simp⟩
   have hn:n<ts.length:=(DR.mp e).1
   have hn':n<xs.length:=(DR.mp h4).1
   have e1:ts.set n s'=ts.take n++s'::ts.drop (n+1):=by rw[List.set_eq_take_append_cons_drop,if_pos hn]
   have e2:xs=xs.take n++x::xs.drop (n+1):=by
    have:=DR.mp h4
    obtain⟨hl,hx⟩:=this
    conv=>lhs;rw[←Fv n xs,EZ hl,hx]
   rw[e1,e2,Ea]
   exact Rps.append (Rps.stay (λhb=>st λb z=>.inl (hb b z)) h7) (Rps.cons q (Rps.stay (λhb=>st λb z=>.inr (hb b z)) h8))
  | ky k=>cases e
  | fd k=>cases e
 | dc kvs=>
  cases a with
  | ky k=>
   rw[Rp]at h
   obtain⟨a,xs,F',rfl,h2,h3,rfl⟩:=h
   obtain⟨x,A,G,B,h4,h5,h6,h7⟩:=h3.at e
   have e':a::F'=(a::A)++G++B:=by rw[h6];simp
   refine⟨x,a::A,G,B,⟨a,xs,rfl,h2,h4⟩,h5,e',λH' s' G' off q=>?_⟩
   have st:∀{u:T} {w:V} {F':List Addr},(∀b∈F',b∈A∨b∈B)->Rp K H u w F'->Rp K H' u w F':=λhb r=>r.off off (muG e') (λb z=>dj e' b ((hb b z).imp (ymC _) id))
   show Rp K H' (.dc (jv kvs k s')) (.ref a) _
   rw[Rp]
   exact⟨a,xs,A++G'++B,rfl,h2.off off (dj e' a (.inl ymS)),h7 H' s' G' st q,by simp⟩
  | ix k=>cases e
  | fd k=>cases e
 | ins C fs=>
  cases a with
  | fd k=>
   rw[Rp]at h
   obtain⟨a,dx,xs,F',rfl,h2,h3,rfl⟩:=h
   obtain⟨x,A,G,B,h4,h5,h6,h7⟩:=h3.at e
   have e':a::F'=(a::A)++G++B:=by rw[h6];simp
   refine⟨x,a::A,G,B,⟨a,C,dx,xs,rfl,h2,h4⟩,h5,e',λH' s' G' off q=>?_⟩
   have st:∀{u:T} {w:V} {F':List Addr},(∀b∈F',b∈A∨b∈B)->Rp K H u w F'->Rp K H' u w F':=λhb r=>r.off off (muG e') (λb z=>dj e' b ((hb b z).imp (ymC _) id))
   show Rp K H' (.ins C (jv fs k s')) (.ref a) _
   rw[Rp]
   exact⟨a,dx,xs,A++G'++B,rfl,off a _ h2 (dj e' a (.inl ymS)),h7 H' s' G' st q,by simp⟩
  | ix k=>cases e
  | ky k=>cases e
 | im _=>cases a<;>cases e
 | tup _=>cases a<;>cases e
 | li _=>cases a<;>cases e
 | di _=>cases a<;>cases e
theorem Rp.atP:∀{p:List Ac} {t s:T} {v:V} {F:List Addr},Rp K H t v F->(∀b∈F,Mu H b)->F.Nodup->t.sub p=some s →
  ∃w A G B,L2.atP K H v p w/\Rp K H s w G/\F=A++G++B/\∀H' s' G',OffM G H H'->Rp K H' s' w G'->Rp K H' (t.put p s') v (A++G'++B)
 | [],t,s,v,F,h,mu,nd,e=>by
  rw[T.sub]at e;cases e
  exact⟨v,[],F,[],rfl,h,by simp,λH' s' G' _ q=>by rw[T.put];simpa using q⟩
 | a::p,t,s,v,F,h,mu,nd,e=>by
  rw[T.sub]at e
  cases e1:iD t a with
  | none=>rw[e1]at e;cases e
  | some u=>
   rw[e1]at e
   obtain⟨w,A,G,B,h1,h2,rfl,h4⟩:=h.at1 mu nd e1
   have nd2:=(DW.mp (DW.mp nd).1).2.1
   obtain⟨x,A',G',B',g1,g2,rfl,g4⟩:=Rp.atP (p:=p) h2 (λb hb=>mu b (yaL _ (yaR _ hb))) nd2 e
   refine⟨x,A++A',G',B'++B,⟨w,h1,g1⟩,g2,by simp,λH' s' G2 off q=>?_⟩
   rw[T.put,e1]
   have:=h4 H' (u.put p s') (A'++G2++B') (off.mono λb hb=>by simp[hb]) (g4 H' s' G2 off q)
   simpa using this
end
inductive Kd where
 | ow|io (k:Nat)|vw (r:Option Nat) (p:Option (List Ac))
structure R where
 k:Kd
 t:T
structure En where
 key:Option Nat
 v:V
 r:R
structure Hd where
 e:En
 F:List Addr
structure Gm where
 K:yF
 H0:Hp
 io:List Addr
 iov:List V
noncomputable def Kd.isOw:Kd->Bool
 | .vw _ _=>false|_=>true
noncomputable def Kd.root:Kd->Option Nat
 | .vw r _=>r|_=>none
noncomputable def Hd.own (h:Hd):List Addr:=if h.e.r.k.isOw=true then h.F else []
def KdOk (Γ:Gm)(H:Hp)(L:List Hd)(h:Hd):Prop:=match h.e.r.k with
 | .ow=>∀a∈h.F,Γ.H0 a=none
 | .io k=>Γ.iov[k]?=some h.e.v
 | .vw none _=>∀a∈h.F,a∉L.flatMap Hd.own
 | .vw (some j) p=>∃g∈L,g.e.key=some j/\g.e.r.k.isOw=true/\(∀a∈h.F,a∈g.F∨a∉L.flatMap Hd.own)/\∀q,p=some q->g.e.r.t.sub q=some h.e.r.t/\atP Γ.K H g.e.v q h.e.v
structure GW (Γ:Gm)(H:Hp)(L:List Hd):Prop where
 nd:(L.flatMap Hd.own).Nodup
 ad:∀a∈L.flatMap Hd.own,Mu H a/\(Γ.H0 a=none∨a ∈ Γ.io)
 rp:∀h∈L,Rp Γ.K H h.e.r.t h.e.v h.F
 kd:∀h∈L,KdOk Γ H L h
 ks:(L.filterMap λh=>h.e.key).Nodup
 fr:∀b o,Γ.H0 b=some o->b∉Γ.io->H b=some o
 iol:∀a ∈ Γ.io,∃o,H a=some o
section
variable  {Γ:Gm}{H H':Hp}{L L':List Hd}{h:Hd}
theorem KdOk.sub (k:KdOk Γ H L h)(s:∀g∈L,g.e.r.k.isOw=true->g∈L')(o:∀a∈L'.flatMap Hd.own,a∈L.flatMap Hd.own):KdOk Γ H L' h:=by
 unfold KdOk at k⊢
 split at k
 ·exact k
 ·exact k
 ·exact λa ha z=>k a ha (o a z)
 ·obtain⟨g,h1,h2,h3,h4,h5⟩:=k
  exact⟨g,s g h1 h3,h2,h3,λa ha=>(h4 a ha).imp id λz w=>z (o a w),h5⟩
theorem GW.perm (G:GW Γ H L)(p:L.Perm L'):GW Γ H L':=
 ⟨(p.flatMap_right _).nodup_iff.mp G.nd,λa ha=>G.ad a ((p.flatMap_right _).mem_iff.mpr ha),λh hh=>G.rp h (p.mem_iff.mpr hh),λh hh=>(G.kd h (p.mem_iff.mpr hh)).sub (λg hg _=>p.mem_iff.mp hg) (λa ha=>(p.flatMap_right _).mem_iff.mpr ha),(p.filterMap _).nodup_iff.mp G.ks,G.fr,G.iol⟩
theorem iW (s:L'.Sublist L):(L'.flatMap Hd.own).Sublist (L.flatMap Hd.own):=by
 induction s with
 | slnil=>exact List.Sublist.refl _
 | cons a s ih=>rw[D3];exact ih.trans (List.sublist_append_right _ _)
 | cons_cons a s ih=>rw[D3,D3];exact(List.Sublist.refl _).append ih
theorem GW.sub (G:GW Γ H L)(s:L'.Sublist L)(ro:∀h∈L',∀j,h.e.r.k.root=some j->∀g∈L,g.e.key=some j->g.e.r.k.isOw=true->g∈L'):GW Γ H L':=by
 refine⟨(iW s).nodup G.nd,λa ha=>G.ad a ((iW s).subset ha),λh hh=>G.rp h (s.subset hh),λh hh=>?_,(s.filterMap _).nodup G.ks,G.fr,G.iol⟩
 have k:=G.kd h (s.subset hh)
 unfold KdOk at k⊢
 split at k
 ·exact k
 ·exact k
 ·exact λa ha z=>k a ha ((iW s).subset z)
 ·rename_i j p e
  obtain⟨g,h1,h2,h3,h4,h5⟩:=k
  exact⟨g,ro h hh j (by rw[e];rfl) g h1 h2 h3,h2,h3,λa ha=>(h4 a ha).imp id λz w=>z ((iW s).subset w),h5⟩
theorem GW.drop (G:GW Γ H (h::L))(hk:h.e.key=none):GW Γ H L:=by
 refine G.sub (Gs _ _) λg hg j _ x hx hj _=>?_
 rcases ycM hx with rfl|hx
 ·rw[hk]at hj;cases hj
 ·exact hx
theorem GW.dropK (G:GW Γ H (h::L))(hr:∀g∈L,∀j,h.e.key=some j->g.e.r.k.root≠some j):GW Γ H L:=by
 refine G.sub (Gs _ _) λg hg j hj x hx hk _=>?_
 rcases ycM hx with rfl|hx
 ·exact absurd hj (hr g hg j hk)
 ·exact hx
theorem GW.filter (G:GW Γ H L)(p:Hd->Bool)(hp:∀h∈L,h.e.r.k.isOw=true->p h=true):GW Γ H (L.filter p):=
 G.sub EQ λh hh j hj g hg hk ho=>D7.mpr ⟨hg,hp g hg ho⟩
theorem GW.new0 (G:GW Γ H L){a:Addr}(e:H a=none) : Γ.H0 a=none:=by
 cases q : Γ.H0 a with
 | none=>rfl
 | some o=>
  exfalso
  by_cases hio:a ∈ Γ.io
  ·obtain⟨o,e'⟩:=G.iol a hio;rw[e]at e';cases e'
  ·have:=G.fr a o q hio;rw[e]at this;cases this
theorem GW.push (G:GW Γ H L){v:V}{r:R}{F:List Addr}(hr:Rp Γ.K H r.t v F)(hk:KdOk Γ H L ⟨⟨none,v,r⟩,F⟩)(hF:r.k.isOw=false∨F=[]):GW Γ H (⟨⟨none,v,r⟩,F⟩::L):=by
 have e:Hd.own ⟨⟨none,v,r⟩,F⟩=[]:=by
  unfold Hd.own
  rcases hF with h|h
  ·simp[h]
  ·simp[h]
 refine⟨by rw[D3,e];exact G.nd,λa ha=>G.ad a (by rw[D3,e]at ha;exact ha),λx hx=>?_,λx hx=>?_,?_,G.fr,G.iol⟩
 ·rcases ycM hx with rfl|hx
  ·exact hr
  ·exact G.rp x hx
 ·rcases ycM hx with rfl|hx
  ·exact hk.sub (λg hg _=>ymC _ hg) (λa ha=>by rw[D3,e]at ha;exact ha)
  ·exact(G.kd x hx).sub (λg hg _=>ymC _ hg) (λa ha=>by rw[D3,e]at ha;exact ha)
 ·rw[Ei];exact G.ks
theorem GW.rekey (G:GW Γ H (h::L))(hk:h.e.key=none){key:Option Nat}(hn:∀j,key=some j->j∉L.filterMap λh=>h.e.key):GW Γ H (⟨⟨key,h.e.v,h.e.r⟩,h.F⟩::L):=by
 have eo:((⟨⟨key,h.e.v,h.e.r⟩,h.F⟩:Hd)::L).flatMap Hd.own=(h::L).flatMap Hd.own:=rfl
 have ro:∀x∈L,KdOk Γ H (h::L) x->KdOk Γ H (⟨⟨key,h.e.v,h.e.r⟩,h.F⟩::L) x:=λx hx k=>by
  unfold KdOk at k⊢
  split at k
  ·exact k
  ·exact k
  ·exact k
  ·obtain⟨g,h1,h2,h3⟩:=k
   rcases ycM h1 with rfl|h1
   ·rw[hk]at h2;cases h2
   ·exact⟨g,ymC _ h1,h2,h3⟩
 refine⟨G.nd,G.ad,λx hx=>?_,λx hx=>?_,?_,G.fr,G.iol⟩
 ·rcases ycM hx with rfl|hx
  ·exact G.rp h ymS
  ·exact G.rp x (ymC _ hx)
 ·rcases ycM hx with rfl|hx
  ·have k:=G.kd h ymS
   unfold KdOk at k⊢
   split at k
   ·rename_i e;simp only[e];exact k
   ·rename_i e;simp only[e];exact k
   ·rename_i e;simp only[e];exact k
   ·rename_i e
    simp only[e]
    obtain⟨g,h1,h2,h3⟩:=k
    rcases ycM h1 with rfl|h1
    ·rw[hk]at h2;cases h2
    ·exact⟨g,ymC _ h1,h2,h3⟩
  ·exact ro x hx (G.kd x (ymC _ hx))
 ·have g:=G.ks
  rw[Ei,hk]at g
  rw[Ei]
  cases key with
  | none=>exact g
  | some j=>exact Ep.mpr ⟨hn j rfl,g⟩
theorem gQ {a:Addr}(ho:h.e.r.k.isOw=true)(ha:a∈h.F):a∈h.own:=by unfold Hd.own;rw[if_pos ho];exact ha
theorem GW.apart {hs:List Hd}(G:GW Γ H (hs++L))(hr:∀g∈L,∀h∈hs,∀j,h.e.key=some j->g.e.r.k.root≠some j)(ho:∀h∈hs,h.e.r.k.isOw=true):∀g∈L,∀a∈g.F,∀h∈hs,a∉h.F:=by
 intro g hg a ha h hh hah
 have nd:=G.nd
 rw[D6]at nd
 have h1:a∈hs.flatMap Hd.own:=EN.mpr ⟨h,hh,gQ (ho h hh) hah⟩
 have out:a∉(hs++L).flatMap Hd.own->False:=λn=>n (by rw[D6];exact yaL _ h1)
 have k:=G.kd g (yaR _ hg)
 have own:∀x∈L,x.e.r.k.isOw=true->a∈x.F->False:=λx hx ox hax=>
  (DW.mp nd).2.2 a h1 a (EN.mpr ⟨x,hx,gQ ox hax⟩) rfl
 unfold KdOk at k
 split at k
 ·rename_i e;exact own g hg (by rw[e];rfl) ha
 ·rename_i e;exact own g hg (by rw[e];rfl) ha
 ·exact out (k a ha)
 ·rename_i j p e
  obtain⟨x,h1',h2,h3,h4,_⟩:=k
  rcases h4 a ha with z|z
  ·rcases yaM h1' with hx|hx
   ·exact hr g hg x hx j h2 (by rw[e];rfl)
   ·exact own x hx h3 z
  ·exact out z
theorem kO {M:List Addr}(off:OffM M H H'){F:List Addr}(hF:∀a∈F,a∉M)(mu:∀a∈F,Mu H a):∀{q:List Ac} {t s:T} {v w:V} {F':List Addr},(∀a∈F',a∈F)->F'.Nodup->Rp Γ.K H t v F'->t.sub q=some s->atP Γ.K H v q w->atP Γ.K H' v q w
 | [],_,_,_,_,_,_,_,_,_,h=>h
 | a::q,t,s,v,w,F',hs,nd,r,e,h=>by
  rw[atP]at h⊢
  obtain⟨u,h1,h2⟩:=h
  rw[T.sub]at e
  cases e1:iD t a with
  | none=>rw[e1]at e;cases e
  | some x=>
   rw[e1]at e
   obtain⟨y,A,G,B,g1,g2,rfl,_⟩:=r.at1 (λb hb=>mu b (hs b hb)) nd e1
   have:=om h1 g1
   subst this
   refine⟨u,?_,kO off hF mu (λb hb=>hs b (yaL _ (yaR _ hb))) (DW.mp (DW.mp nd).1).2.1 g2 e h2⟩
   cases a with
   | ix n=>
    obtain⟨b,xs,rfl,z1,z2⟩:=h1
    refine⟨b,xs,rfl,off b _ z1 (hF b ?_),z2⟩
    cases t<;>simp only[iD]at e1<;>try cases e1
    rw[Rp]at r
    obtain⟨b',xs',F'',eb,_,_,eF⟩:=r
    cases eb
    exact hs b (by rw[eF];exact ymS)
   | ky n=>
    obtain⟨b,xs,rfl,z1,z2⟩:=h1
    refine⟨b,xs,rfl,z1.off off (hF b ?_),z2⟩
    cases t<;>simp only[iD]at e1<;>try cases e1
    rw[Rp]at r
    obtain⟨b',xs',F'',eb,_,_,eF⟩:=r
    cases eb
    exact hs b (by rw[eF];exact ymS)
   | fd n=>
    obtain⟨b,C,dx,xs,rfl,z1,z2⟩:=h1
    refine⟨b,C,dx,xs,rfl,off b _ z1 (hF b ?_),z2⟩
    cases t<;>simp only[iD]at e1<;>try cases e1
    rw[Rp]at r
    obtain⟨b',dx',xs',F'',eb,_,_,eF⟩:=r
    cases eb
    exact hs b (by rw[eF];exact ymS)
theorem GW.ndF (G:GW Γ H L)(hh:h∈L)(ho:h.e.r.k.isOw=true):h.F.Nodup:=by
 have nd:=G.nd
 obtain⟨s,t,rfl⟩:=FI hh
 rw[D6,D3]at nd
 have:=(DW.mp (DW.mp nd).2.1).1
 unfold Hd.own at this
 rw[if_pos ho]at this
 exact this
theorem GW.muF (G:GW Γ H L)(hh:h∈L)(ho:h.e.r.k.isOw=true):∀a∈h.F,Mu H a:=λa ha=>(G.ad a (EN.mpr ⟨h,hh,gQ ho ha⟩)).1
theorem fv {hs:List Hd}(ho:∀h∈hs,h.e.r.k.isOw=true):hs.flatMap Hd.own=hs.flatMap (·.F):=by
 induction hs with
 | nil=>rfl
 | cons x xs ih=>
  rw[D3,D3,ih λh hh=>ho h (ymC _ hh)]
  unfold Hd.own
  rw[if_pos (ho x ymS)]
theorem GW.step {hs:List Hd}(G:GW Γ H (hs++L))(ho:∀h∈hs,h.e.r.k.isOw=true)(hr:∀g∈L,∀h∈hs,∀j,h.e.key=some j->g.e.r.k.root≠some j)
  (off:OffM (hs.flatMap (·.F)) H H') (dom:∀a∈hs.flatMap (·.F),∃o,H' a=some o) {key:Option Nat} {v:V} {r:R} {F:List Addr} (nd:F.Nodup) (hF:∀a∈F,(a∈hs.flatMap (·.F)∨H a=none)/\Mu H' a) (hp:Rp Γ.K H' r.t v F)
  (hk:(r.k=.ow/\∀h∈hs,h.e.r.k=.ow) ∨ ∃k,r.k=.io k/\Γ.iov[k]?=some v) (hkey:∀j,key=some j->j∉L.filterMap λh=>h.e.key):GW Γ H' (⟨⟨key,v,r⟩,F⟩::L):=by
 have iow:r.k.isOw=true:=by rcases hk with⟨e,_⟩|⟨k,e,_⟩<;>rw[e]<;>rfl
 have eo:=fv ho
 have G':=G.nd
 rw[D6,eo]at G'
 have nd1:=(DW.mp G').2.1
 have dj:=(DW.mp G').2.2
 have adL:∀a∈L.flatMap Hd.own,Mu H a/\(Γ.H0 a=none∨a ∈ Γ.io):=λa ha=>G.ad a (by rw[D6];exact yaR _ ha)
 have adM:∀a∈hs.flatMap (·.F),Mu H a/\(Γ.H0 a=none∨a ∈ Γ.io):=λa ha=>G.ad a (by rw[D6,eo];exact yaL _ ha)
 have ap:=G.apart hr ho
 have apM:∀g∈L,∀a∈g.F,a∉hs.flatMap (·.F):=λg hg a ha hm=>by
  obtain⟨h,hh,hah⟩:=EN.mp hm
  exact ap g hg a ha h hh hah
 have eF:Hd.own ⟨⟨key,v,r⟩,F⟩=F:=by unfold Hd.own;rw[if_pos iow]
 have f0:∀a∈F,Γ.H0 a=none∨a ∈ Γ.io:=λa ha=>by
  rcases(hF a ha).1 with z|z
  ·exact(adM a z).2
  ·exact .inl (G.new0 z)
 refine⟨?_,λa ha=>?_,λx hx=>?_,λx hx=>?_,?_,λb o e n=>?_,λa ha=>?_⟩
 ·rw[D3,eF]
  refine DW.mpr ⟨nd,nd1,λa ha b hb=>?_⟩
  rintro rfl
  rcases(hF a ha).1 with z|z
  ·exact dj a z a hb rfl
  ·obtain⟨o,e,_⟩:=(adL a hb).1
   rw[z]at e;cases e
 ·rw[D3,eF]at ha
  rcases yaM ha with ha|ha
  ·exact⟨(hF a ha).2,f0 a ha⟩
  ·obtain⟨⟨o,e,m⟩,z⟩:=adL a ha
   exact⟨⟨o,off a o e λhm=>dj a hm a ha rfl,m⟩,z⟩
 ·rcases ycM hx with rfl|hx
  ·exact hp
  ·exact(G.rp x (yaR _ hx)).off off (λa ha=>(adM a ha).1) (apM x hx)
 ·rcases ycM hx with rfl|hx
  ·unfold KdOk
   rcases hk with⟨e,eh⟩|⟨k,e,ek⟩
   ·simp only[e]
    intro a ha
    rcases(hF a ha).1 with z|z
    ·obtain⟨h,hh,hah⟩:=EN.mp z
     have q:=G.kd h (yaL _ hh)
     unfold KdOk at q
     rw[eh h hh]at q
     exact q a hah
    ·exact G.new0 z
   ·simp only[e];exact ek
  ·have k:=G.kd x (yaR _ hx)
   have st:∀a∈x.F,a∉(hs++L).flatMap Hd.own->a∉((⟨⟨key,v,r⟩,F⟩:Hd)::L).flatMap Hd.own:=λa ha n z=>by
    rw[D3,eF]at z
    rcases yaM z with z|z
    ·rcases(hF a z).1 with w|w
     ·exact n (by rw[D6,eo];exact yaL _ w)
     ·obtain⟨o,e⟩:=(G.rp x (yaR _ hx)).dom a ha
      rw[w]at e;cases e
    ·exact n (by rw[D6];exact yaR _ z)
   unfold KdOk at k⊢
   split at k
   ·exact k
   ·exact k
   ·exact λa ha=>st a ha (k a ha)
   ·rename_i j p e
    obtain⟨g,h1,h2,h3,h4,h5⟩:=k
    rcases yaM h1 with hg|hg
    ·exact absurd (by rw[e];rfl) (hr x hx g hg j h2)
    ·refine⟨g,ymC _ hg,h2,h3,λa ha=>(h4 a ha).imp id (st a ha),λq hq=>⟨(h5 q hq).1,?_⟩⟩
     exact kO off (F:=g.F) (apM g hg) (G.muF (yaR _ hg) h3) (λa ha=>ha) (G.ndF (yaR _ hg) h3) (G.rp g (yaR _ hg)) (h5 q hq).1 (h5 q hq).2
 ·have g:=G.ks
  rw[Ek]at g
  have g2:=(DW.mp g).2.1
  rw[Ei]
  cases key with
  | none=>exact g2
  | some j=>exact Ep.mpr ⟨hkey j rfl,g2⟩
 ·refine off b o (G.fr b o e n) λhm=>?_
  rcases(adM b hm).2 with z|z
  ·rw[z]at e;cases e
  ·exact n z
 ·obtain⟨o,e⟩:=G.iol a ha
  by_cases hm:a∈hs.flatMap (·.F)
  ·exact dom a hm
  ·exact⟨o,off a o e hm⟩
end
theorem kr {α β:Type}{f : α->β}{N M:List β}(p:N.Perm M):∀L:List α,L.map f=N->∃L',L.Perm L'/\L'.map f=M:=by
 induction p with
 | nil=>intro L h;exact⟨L,List.Perm.refl _,h⟩
 | cons x p ih=>
  intro L h
  cases L with
  | nil=>cases h
  | cons a L=>
   rw[DS,ES.injEq]at h
   obtain⟨L',h1,h2⟩:=ih L h.2
   exact⟨a::L',h1.cons a,by rw[DS,h.1,h2]⟩
 | swap x y l=>
  intro L h
  cases L with
  | nil=>cases h
  | cons a L=>
   cases L with
   | nil=>cases h
   | cons b L=>
    simp only[DS,ES.injEq]at h
    exact⟨b::a::L,List.Perm.swap _ _ _,by simp[h.1,h.2.1,h.2.2]⟩
 | trans p q ih1 ih2=>
  intro L h
  obtain⟨L1,h1,h2⟩:=ih1 L h
  obtain⟨L2,h3,h4⟩:=ih2 L1 h2
  exact⟨L2,h1.trans h3,h4⟩
def SimL (Γ:Gm)(H:Hp)(X:List En):Prop:=∃L,GW Γ H L/\L.map (·.e)=X
section
variable  {Γ:Gm}{H H':Hp}{X Y:List En}{e:En}
theorem SimL.perm (S:SimL Γ H X)(p:X.Perm Y):SimL Γ H Y:=by
 obtain⟨L,g,e⟩:=S
 obtain⟨L',h1,h2⟩:=kr p L e
 exact⟨L',g.perm h1,h2⟩
theorem aE {α β:Type}{f : α->β}{L:List α}{b : β}{X:List β}(h:L.map f=b::X):∃a L',L=a::L'/\f a=b/\L'.map f=X:=by
 cases L with
 | nil=>cases h
 | cons a L=>rw[DS,ES.injEq]at h;exact⟨a,L,rfl,h.1,h.2⟩
theorem dA {α β:Type}{f : α->β}:∀{A:List β} {L:List α} {B:List β},L.map f=A++B->∃L1 L2,L=L1++L2/\L1.map f=A/\L2.map f=B
 | [],L,B,h=>⟨[],L,rfl,rfl,h⟩
 | a::A,L,B,h=>by
  obtain⟨x,L',rfl,h1,h2⟩:=aE h
  obtain⟨L1,L2,rfl,h3,h4⟩:=dA h2
  exact⟨x::L1,L2,rfl,by rw[DS,h1,h3],h4⟩
theorem SimL.drop (S:SimL Γ H (e::X))(hk:e.key=none):SimL Γ H X:=by
 obtain⟨L,g,h⟩:=S
 obtain⟨x,L',rfl,h1,h2⟩:=aE h
 subst h1
 exact⟨L',g.drop hk,h2⟩
theorem SimL.dropK (S:SimL Γ H (e::X))(hr:∀g∈X,∀j,e.key=some j->g.r.k.root≠some j):SimL Γ H X:=by
 obtain⟨L,g,h⟩:=S
 obtain⟨x,L',rfl,h1,h2⟩:=aE h
 subst h1
 refine⟨L',g.dropK λy hy j hj=>hr y.e (by rw[←h2];exact Eu hy) j hj,h2⟩
noncomputable def az (M:List Nat) (e:En):Bool:=match e.r.k.root with
 | some j=>!M.contains j
 | none=>true
noncomputable def ae (M:List Nat) (E:List En):List En:=E.filter (az M)
theorem pS (e:En):az [] e=true:=by unfold az;split<;>rfl
theorem bE (E:List En):ae [] E=E:=by unfold ae;rw[Fc];intro a _;exact pS a
theorem aB (M:List Nat)(A B:List En):ae M (A++B)=ae M A++ae M B:=GU ..
theorem j5 (M N:List Nat)(e:En):az (M++N) e=(az N e&&az M e):=by
 unfold az
 split
 ·rename_i j _
  by_cases h1:j∈M<;>by_cases h2:j∈N<;>simp[h1,h2]
 ·rfl
theorem af (M N:List Nat)(E:List En):ae N (ae M E)=ae (M++N) E:=by
 unfold ae
 rw[F6]
 congr 1
 funext e
 rw[j5]
theorem SimL.kill (S:SimL Γ H X)(M:List Nat):SimL Γ H (ae M X):=by
 obtain⟨L,g,h⟩:=S
 refine⟨L.filter λx=>az M x.e,g.filter _ λx _ ho=>?_,?_⟩
 ·unfold az
  cases k:x.e.r.k with
  | vw r p=>rw[k]at ho;cases ho
  | ow=>rfl
  | io _=>rfl
 ·rw[←h];unfold ae;rw[FT];rfl
theorem SimL.push (S:SimL Γ H X){v:V}{i:I}(h:RpI Γ.K H i v):SimL Γ H (⟨none,v,⟨.ow,.im i⟩⟩::X):=by
 obtain⟨L,g,hX⟩:=S
 exact⟨_,g.push (v:=v) (r:=⟨.ow,.im i⟩) (ga h) (λa ha=>by cases ha) (.inr rfl),by rw[DS,hX]⟩
theorem SimL.rekey (S:SimL Γ H (e::X))(hk:e.key=none){key:Option Nat}(hn:∀j,key=some j->∀g∈X,g.key≠some j):SimL Γ H (⟨key,e.v,e.r⟩::X):=by
 obtain⟨L,g,h⟩:=S
 obtain⟨x,L',rfl,h1,h2⟩:=aE h
 subst h1
 refine⟨_,g.rekey hk (key:=key) λj hj hm=>?_,by rw[DS,h2]⟩
 obtain⟨y,hy,hyk⟩:=Ey.mp hm
 exact hn j hj y.e (by rw[←h2];exact Eu hy) hyk
theorem SimL.rd (S:SimL Γ H X)(he:e∈X):∃F,Rp Γ.K H e.r.t e.v F:=by
 obtain⟨L,g,rfl⟩:=S
 obtain⟨h,hh,rfl⟩:=D4.mp he
 exact⟨h.F,g.rp h hh⟩
theorem SimL.view (S:SimL Γ H X)(he:e∈X){j:Nat}(hk:e.key=some j)(ho:e.r.k.isOw=true):SimL Γ H (⟨none,e.v,⟨.vw (some j) (some []),e.r.t⟩⟩::X):=by
 obtain⟨L,g,rfl⟩:=S
 obtain⟨h,hh,rfl⟩:=D4.mp he
 exact⟨_,g.push (v:=h.e.v) (r:=⟨.vw (some j) (some []),h.e.r.t⟩) (g.rp h hh) ⟨h,hh,hk,ho,λa ha=>.inl ha,λq hq=>by cases hq;exact⟨rfl,rfl⟩⟩ (.inl rfl),rfl⟩
theorem SimL.copy (S:SimL Γ H X)(he:e∈X)(ho:e.r.k.isOw=false):SimL Γ H (⟨none,e.v,e.r⟩::X):=by
 obtain⟨L,g,rfl⟩:=S
 obtain⟨h,hh,rfl⟩:=D4.mp he
 exact⟨_,g.push (v:=h.e.v) (r:=h.e.r) (F:=h.F) (g.rp h hh) (g.kd h hh) (.inl ho),rfl⟩
theorem SimL.part (S:SimL Γ H X)(he:e∈X){ro:Option Nat}{p:Option (List Ac)}(ho:e.r.k=.vw ro p){P:V->Prop}{s:T}(hp:∀F,Rp Γ.K H e.r.t e.v F->∃w G,P w/\Rp Γ.K H s w G/\∀a∈G,a∈F):∃w,P w/\SimL Γ H (⟨none,w,⟨.vw ro none,s⟩⟩::X):=by
 obtain⟨L,g,rfl⟩:=S
 obtain⟨h,hh,rfl⟩:=D4.mp he
 obtain⟨w,G,h1,h2,h3⟩:=hp h.F (g.rp h hh)
 refine⟨w,h1,_,g.push (v:=w) (r:=⟨.vw ro none,s⟩) (F:=G) h2 ?_ (.inl rfl),rfl⟩
 have k:=g.kd h hh
 unfold KdOk at k⊢
 rw[ho]at k
 cases ro with
 | none=>exact λa ha=>k a (h3 a ha)
 | some j=>
  obtain⟨x,x1,x2,x3,x4,x5⟩:=k
  exact⟨x,x1,x2,x3,λa ha=>x4 a (h3 a ha),λq hq=>by cases hq⟩
theorem SimL.partP (S:SimL Γ H X)(he:e∈X){j:Nat}{q:List Ac}(ho:e.r.k=.vw (some j) (some q)){a:Ac}{s:T}(hs:iD e.r.t a=some s):∃w,at1 Γ.K H e.v a w/\SimL Γ H (⟨none,w,⟨.vw (some j) (some (q++[a])),s⟩⟩::X):=by
 obtain⟨L,g,rfl⟩:=S
 obtain⟨h,hh,rfl⟩:=D4.mp he
 have k:=g.kd h hh
 unfold KdOk at k
 rw[ho]at k
 obtain⟨x,x1,x2,x3,x4,x5⟩:=k
 obtain⟨y1,y2⟩:=x5 q rfl
 have ms:x.e.r.t.sub (q++[a])=some s:=o8 y1 hs
 obtain⟨w,A,G,B,z1,z2,z3,_⟩:=(g.rp x x1).atP (g.muF x1 x3) (g.ndF x1 x3) ms
 obtain⟨w0,A0,G0,B0,u1,u2,u3,_⟩:=(g.rp x x1).atP (g.muF x1 x3) (g.ndF x1 x3) y1
 have ew:=gB u1 y2
 subst ew
 have nG:G0.Nodup:=by
  have:=g.ndF x1 x3
  rw[u3]at this
  exact(DW.mp (DW.mp this).1).2.1
 have mG:∀b∈G0,Mu H b:=λb hb=>g.muF x1 x3 b (by rw[u3];exact yaL _ (yaR _ hb))
 obtain⟨w',A',G',B',v1,v2,v3,_⟩:=u2.at1 mG nG hs
 have e2:=gB (on u1 v1) z1
 subst e2
 refine⟨w',v1,_,g.push (v:=w') (r:=⟨.vw (some j) (some (q++[a])),s⟩) (F:=G) z2 ⟨x,x1,x2,x3,λb hb=>.inl (by rw[z3];exact yaL _ (yaR _ hb)),λq' hq=>?_⟩ (.inl rfl),rfl⟩
 cases hq
 exact⟨ms,z1⟩
noncomputable def au:List V->List T->List En
 | v::vs,t::ts=>⟨none,v,⟨.ow,t⟩⟩::au vs ts
 | _,_=>[]
theorem jF:∀{vs:List V} {ts:List T} {L:List Hd},vs.length=ts.length->L.map (·.e)=au vs ts->(∀h∈L,Rp Γ.K H h.e.r.t h.e.v h.F)->Rps Γ.K H ts vs (L.flatMap (·.F))/\∀h∈L,h.e.r.k=.ow/\h.e.key=none
 | [],[],L,_,h,_=>by
  have:L=[]:=List.map_eq_nil_iff.mp h
  subst this
  exact⟨Rps.nil,by simp⟩
 | v::vs,t::ts,L,hl,h,hr=>by
  obtain⟨x,L',rfl,h1,h2⟩:=aE h
  obtain⟨r1,r2⟩:=jF (vs:=vs) (ts:=ts) (by simpa using hl) h2 λy hy=>hr y (ymC _ hy)
  have rx:=hr x ymS
  rw[h1]at rx
  rw[D3]
  refine⟨Rps.cons rx r1,λy hy=>?_⟩
  rcases ycM hy with rfl|hy
  ·rw[h1];exact⟨rfl,rfl⟩
  ·exact r2 y hy
 | [],_::_,_,h,_,_=>by cases h
 | _::_,[],_,h,_,_=>by cases h
theorem SimL.use {vs:List V}{ts:List T}(S:SimL Γ H (au vs ts++X))(hl:vs.length=ts.length):∃F,Rps Γ.K H ts vs F/\F.Nodup/\(∀a∈F,Mu H a) ∧
  ∀H' v t F',OffM F H H'->(∀a∈F,∃o,H' a=some o)->F'.Nodup->(∀a∈F',(a∈F∨H a=none)/\Mu H' a)->Rp Γ.K H' t v F'->SimL Γ H' (⟨none,v,⟨.ow,t⟩⟩::X):=by
 obtain⟨L,g,h⟩:=S
 obtain⟨hs,L2,rfl,h1,h2⟩:=dA h
 obtain⟨r1,r2⟩:=jF hl h1 λy hy=>g.rp y (yaL _ hy)
 have ho:∀h∈hs,h.e.r.k.isOw=true:=λh hh=>by rw[(r2 h hh).1];rfl
 have nd:=g.nd
 rw[D6,fv ho]at nd
 refine⟨_,r1,(DW.mp nd).1,λa ha=>(g.ad a (by rw[D6,fv ho];exact yaL _ ha)).1,λH' v t F' off dom nd' hF rp=>?_⟩
 refine⟨_,g.step ho (λx _ y hy j hj=>by rw[(r2 y hy).2]at hj;cases hj) off dom (key:=none) (v:=v) (r:=⟨.ow,t⟩) nd' hF rp (.inl ⟨rfl,λy hy=>(r2 y hy).1⟩) (λj hj=>by cases hj),by rw[DS,h2]⟩
theorem SimL.mutP {vs:List V}{ts:List T}{p:List Ac}{s:T}(S:SimL Γ H (e::au vs ts++X))(hl:vs.length=ts.length)(ho:e.r.k.isOw=true)(hr:∀g∈X,∀j,e.key=some j->g.r.k.root≠some j)(hs:e.r.t.sub p=some s)(hX:∀j,e.key=some j->∀g∈X,g.key≠some j) :
  ∃w G F,atP Γ.K H e.v p w/\Rp Γ.K H s w G/\Rps Γ.K H ts vs F/\(G++F).Nodup/\(∀a∈G++F,Mu H a) ∧
  ∀H' s' G',OffM G H H'->(∀a∈G,∃o,H' a=some o)->G'.Nodup->(∀a∈G',(a∈G++F∨H a=none)/\Mu H' a)->Rp Γ.K H' s' w G'->SimL Γ H' (⟨e.key,e.v,⟨e.r.k,e.r.t.put p s'⟩⟩::X):=by
 obtain⟨L,g,h⟩:=S
 rw[Ej]at h
 obtain⟨x,L',rfl,h1,h2⟩:=aE h
 obtain⟨hs',L2,rfl,h3,h4⟩:=dA h2
 subst h1
 obtain⟨r1,r2⟩:=jF hl h3 λy hy=>g.rp y (ymC _ (yaL _ hy))
 have ho':∀h∈x::hs',h.e.r.k.isOw=true:=λh hh=>by
  rcases ycM hh with rfl|hh
  ·exact ho
  ·rw[(r2 h hh).1];rfl
 have nx:=g.ndF ymS ho
 obtain⟨w,A,G,B,z1,z2,z3,z4⟩:=(g.rp x ymS).atP (g.muF ymS ho) nx hs
 have nd:=g.nd
 rw[show x::(hs'++L2)=(x::hs')++L2 from rfl,D6,fv ho']at nd
 have nd1:=(DW.mp nd).1
 rw[D3,z3]at nd1
 have mu:∀a∈(x::hs').flatMap (·.F),Mu H a:=λa ha=>(g.ad a (by rw[show x::(hs'++L2)=(x::hs')++L2 from rfl,D6,fv ho'];exact yaL _ ha)).1
 have inM:∀a,a∈G++hs'.flatMap (·.F)->a∈(x::hs').flatMap (·.F):=λa ha=>by
  rw[D3,z3]
  rcases yaM ha with z|z
  ·exact yaL _ (yaL _ (yaR _ z))
  ·exact yaR _ z
 have ndA:=(DW.mp nd1)
 have ndG:(G++hs'.flatMap (·.F)).Nodup:=DW.mpr ⟨(DW.mp (DW.mp ndA.1).1).2.1,ndA.2.1,λa ha b hb=>ndA.2.2 a (yaL _ (yaR _ ha)) b hb⟩
 refine⟨w,G,hs'.flatMap (·.F),z1,z2,r1,ndG,λa ha=>mu a (inM a ha),λH' s' G' off dom nd' hG rp=>?_⟩
 have apAB:∀a,(a∈A∨a∈B)->a∉G++hs'.flatMap (·.F):=λa ha hm=>by
  rcases yaM hm with z|z
  ·rcases ha with q|q
   ·exact(DW.mp (DW.mp ndA.1).1).2.2 a q a z rfl
   ·exact(DW.mp ndA.1).2.2 a (yaR _ z) a q rfl
  ·rcases ha with q|q
   ·exact ndA.2.2 a (yaL _ (yaL _ q)) a z rfl
   ·exact ndA.2.2 a (yaR _ q) a z rfl
 have rp':=z4 H' s' G' off rp
 refine⟨_,g.step (hs:=x::hs') (L:=L2) ho' (λy hy z hz j hj=>?_) (off.mono λa ha=>inM a (yaL _ ha)) (λa ha=>?_) (key:=x.e.key) (v:=x.e.v) (r:=⟨x.e.r.k,x.e.r.t.put p s'⟩) (F:=A++G'++B) ?_ (λa ha=>?_) rp' ?_ (λj hj hm=>?_),by rw[DS,h4]⟩
 ·rcases ycM hz with rfl|hz
  ·exact hr y.e (by rw[←h4];exact Eu hy) j hj
  ·rw[(r2 z hz).2]at hj;cases hj
 ·by_cases hm:a∈G
  ·exact dom a hm
  ·obtain⟨o,e1,_⟩:=mu a ha
   exact⟨o,off a o e1 hm⟩
 ·have ab:=DW.mp ndA.1
  have aG:=DW.mp ab.1
  have nG:∀a,(a∈A∨a∈B)->a∉G':=λa ha hg=>by
   rcases(hG a hg).1 with z|z
   ·exact apAB a ha z
   ·have:Mu H a:=mu a (by
     rw[D3,z3]
     rcases ha with q|q
     ·exact yaL _ (yaL _ (yaL _ q))
     ·exact yaL _ (yaR _ q))
    obtain⟨o,e1,_⟩:=this
    rw[z]at e1;cases e1
  refine DW.mpr ⟨DW.mpr ⟨aG.1,nd',λa ha b hb e=>nG a (.inl ha) (e▸hb)⟩,ab.2.1,λa ha b hb e=>?_⟩
  subst e
  rcases yaM ha with z|z
  ·exact ab.2.2 a (yaL _ z) a hb rfl
  ·exact nG a (.inr hb) z
 ·have old:a∈A∨a∈B->(a∈(x::hs').flatMap (·.F)∨H a=none)/\Mu H' a:=λq=>by
   have hm:a∈(x::hs').flatMap (·.F):=by
    rw[D3,z3]
    rcases q with q|q
    ·exact yaL _ (yaL _ (yaL _ q))
    ·exact yaL _ (yaR _ q)
   obtain⟨o,e1,m1⟩:=mu a hm
   exact⟨.inl hm,o,off a o e1 (λz=>apAB a q (yaL _ z)),m1⟩
  rcases yaM ha with z|z
  ·rcases yaM z with z|z
   ·exact old (.inl z)
   ·exact⟨(hG a z).1.imp (inM a) id,(hG a z).2⟩
  ·exact old (.inr z)
 ·have k:=g.kd x ymS
  unfold KdOk at k
  cases ek:x.e.r.k with
  | ow=>
   refine .inl ⟨rfl,λy hy=>?_⟩
   rcases ycM hy with rfl|hy
   ·exact ek
   ·exact(r2 y hy).1
  | io n=>rw[ek]at k;exact .inr ⟨n,rfl,k⟩
  | vw a b=>rw[ek]at ho;cases ho
 ·obtain⟨y,hy,hyk⟩:=Ey.mp hm
  exact hX j hj y.e (by rw[←h4];exact Eu hy) hyk
end
abbrev Rho:=List (Option R)
noncomputable def ay:Nat->List (Option V)->Rho->List En
 | i,some v::Z,some r::ρ=>⟨some i,v,r⟩::ay (i+1) Z ρ
 | i,none::Z,_::ρ=>ay (i+1) Z ρ
 | i,some _::Z,none::ρ=>ay (i+1) Z ρ
 | _,_,_=>[]
theorem bm {r:R}:∀{k:Nat} {Z:List (Option V)} {ρ:Rho} {i:Nat} {v:V},Z[i]?=some (some v)->ρ[i]?=some (some r)->(ay k Z ρ).Perm (⟨some (k+i),v,r⟩::ay k Z (ρ.set i none))
 | _,[],_,_,_,h,_=>by simp at h
 | _,_::_,[],_,_,_,h=>by simp at h
 | k,x::Z,y::ρ,0,v,h1,h2=>by
  simp at h1 h2
  subst h1 h2
  simp[ay]
 | k,x::Z,y::ρ,i+1,v,h1,h2=>by
  have ih:=bm (k:=k+1) (Z:=Z) (ρ:=ρ) (i:=i) (v:=v) (r:=r) (by simpa using h1) (by simpa using h2)
  rw[show k+1+i=k+(i+1) by omega]at ih
  cases x with
  | none=>simpa[ay]using ih
  | some x=>
   cases y with
   | none=>simpa[ay]using ih
   | some y=>
    simp only[ay,GV]
    exact(List.Perm.cons _ ih).trans (List.Perm.swap _ _ _)
theorem j2:∀{k:Nat} {Z:List (Option V)} {ρ:Rho} {i:Nat} {x:Option V},ay k (Z.set i x) (ρ.set i none)=ay k Z (ρ.set i none)
 | _,[],ρ,_,_=>rfl
 | _,x::Z,[],i,y=>by cases i<;>cases x<;>simp[ay]<;>cases y<;>simp[ay]
 | _,x::Z,y::ρ,0,z=>by cases x<;>cases z<;>simp[ay]
 | k,x::Z,y::ρ,i+1,z=>by
  have ih:=j2 (k:=k+1) (Z:=Z) (ρ:=ρ) (i:=i) (x:=z)
  cases x<;>cases y<;>simp[ay,ih]
theorem fj {k:Nat}{Z:List (Option V)}{ρ:Rho}{i:Nat}{v:V}{r:R}(h1:i<Z.length)(h2:i < ρ.length):(ay k (Z.set i (some v)) (ρ.set i (some r))).Perm (⟨some (k+i),v,r⟩::ay k Z (ρ.set i none)):=by
 have:=bm (k:=k) (Z:=Z.set i (some v)) (ρ:=ρ.set i (some r)) (i:=i) (v:=v) (r:=r) (by simp[h1]) (by simp[h2])
 rw[List.set_set,j2]at this
 exact this
theorem cB {e:En}:∀{k:Nat} {Z:List (Option V)} {ρ:Rho},e∈ay k Z ρ->∃i,e.key=some (k+i)/\ρ[i]?=some (some e.r)/\Z[i]?=some (some e.v)
 | _,[],_,h=>by simp[ay]at h
 | _,x::_,[],h=>by cases x<;>simp[ay]at h
 | k,x::Z,y::ρ,h=>by
  have go:e∈ay (k+1) Z ρ->∃i,e.key=some (k+i)/\(y::ρ)[i]?=some (some e.r)/\(x::Z)[i]?=some (some e.v):=λh=>by
   obtain⟨i,h1,h2,h3⟩:=cB h
   exact⟨i+1,by rw[h1];congr 1;omega,by simpa using h2,by simpa using h3⟩
  cases x with
  | none=>simp only[ay]at h;exact go h
  | some x=>
   cases y with
   | none=>simp only[ay]at h;exact go h
   | some y=>
    simp only[ay]at h
    rcases ycM h with rfl|h
    ·exact⟨0,rfl,rfl,rfl⟩
    ·exact go h
noncomputable def cN (M:List Nat) (r:R):Bool:=match r.k.root with
 | some j=>!M.contains j
 | none=>true
noncomputable def bT (M:List Nat):Option R->Option R
 | some r=>if cN M r=true then some r else none
 | none=>none
noncomputable def ao (M:List Nat) (ρ:Rho):Rho:=ρ.map (bT M)
theorem aF (M:List Nat)(ρ:Rho):(ao M ρ).length=ρ.length:=by unfold ao;rw[DX]
theorem dW (M:List Nat):∀{k:Nat} {Z:List (Option V)} {ρ:Rho},ay k Z (ao M ρ)=ae M (ay k Z ρ)
 | _,[],_=>rfl
 | _,x::_,[]=>by cases x<;>rfl
 | k,x::Z,y::ρ=>by
  have ih:=dW M (k:=k+1) (Z:=Z) (ρ:=ρ)
  have e:ao M (y::ρ)=bT M y::ao M ρ:=rfl
  rw[e]
  cases x with
  | none=>simpa[ay]using ih
  | some v=>
   cases y with
   | none=>simpa[ay,bT]using ih
   | some r=>
    have hk:az M ⟨some k,v,r⟩=cN M r:=rfl
    cases q:cN M r with
    | true=>simp only[ay,bT,q,if_true,ae,Fg,hk,ih]
    | false=>
     simp only[ay,bT,q,ae,Fg,hk,ih]
     simp[ay,ih,ae]
theorem j7 {M:List Nat}{ρ:Rho}{i:Nat}{r:R}(h:(ao M ρ)[i]?=some (some r)) : ρ[i]?=some (some r):=by
 unfold ao at h
 rw[DZ]at h
 cases q : ρ[i]? with
 | none=>rw[q]at h;cases h
 | some o=>
  rw[q]at h
  cases o with
  | none=>cases h
  | some x=>
   have h':bT M (some x)=some r:=by simpa using h
   simp only[bT]at h'
   split at h'
   ·rw[Em.inj h']
   ·exact absurd h' (by simp)
theorem pV {M:List Nat}{ρ:Rho}{i:Nat}{r:R}(h : ρ[i]?=some (some r))(ho:r.k.isOw=true):(ao M ρ)[i]?=some (some r):=by
 unfold ao
 rw[DZ,h]
 have:cN M r=true:=by
  unfold cN
  cases e:r.k with
  | vw a b=>rw[e]at ho;cases ho
  | ow=>rfl
  | io _=>rfl
 simp[bT,this]
structure Sim (Γ:Gm)(H:Hp)(ρ:Rho)(Z:St)(E:List En):Prop where
 sl:SimL Γ H (E++ay 0 Z ρ)
 al:∀(i:Nat) r,ρ[i]?=some (some r)->∃v,Z[i]?=some (some v)
 len:Z.length=ρ.length
 hi:∀e∈E,∀j,e.key=some j->ρ.length<=j
section
variable  {Γ:Gm}{H H':Hp}{ρ:Rho}{Z:St}{E E':List En}{e:En}{r:R}{v w x:V}{i j:Nat}{t s:T}
theorem Sim.perm (S:Sim Γ H ρ Z E)(p:E.Perm E'):Sim Γ H ρ Z E':=⟨S.sl.perm (p.append_right _),S.al,S.len,λe he=>S.hi e (p.mem_iff.mpr he)⟩
theorem Sim.drop (S:Sim Γ H ρ Z (e::E))(hk:e.key=none):Sim Γ H ρ Z E:=⟨S.sl.drop hk,S.al,S.len,λx hx=>S.hi x (ymC _ hx)⟩
theorem Sim.swap {f:En}(S:Sim Γ H ρ Z (e::f::E)):Sim Γ H ρ Z (f::e::E):=S.perm (List.Perm.swap _ _ _)
theorem Sim.imm (S:Sim Γ H ρ Z E){i:I}(h:RpI Γ.K H i v):Sim Γ H ρ Z (⟨none,v,⟨.ow,.im i⟩⟩::E):=
 ⟨S.sl.push h,S.al,S.len,λx hx j hj=>by
  rcases ycM hx with rfl|hx
  ·cases hj
  ·exact S.hi x hx j hj⟩
theorem Sim.rd (S:Sim Γ H ρ Z E)(he:e∈E):∃F,Rp Γ.K H e.r.t e.v F:=S.sl.rd (yaL _ he)
theorem Sim.slot (S:Sim Γ H ρ Z E)(h : ρ[i]?=some (some r)):∃v,Z[i]?=some (some v)/\(⟨some i,v,r⟩:En)∈E++ay 0 Z ρ:=by
 obtain⟨v,hv⟩:=S.al i r h
 refine⟨v,hv,yaR _ ((bm hv h).mem_iff.mpr ?_)⟩
 rw[EG];exact ymS
noncomputable def rdR (i:Nat):R->R
 | ⟨.ow,.im x⟩=>⟨.ow,.im x⟩
 | ⟨.vw a b,t⟩=>⟨.vw a b,t⟩
 | ⟨_,t⟩=>⟨.vw (some i) (some []),t⟩
theorem Sim.cons (S:Sim Γ H ρ Z E)(h:SimL Γ H' (⟨none,v,r⟩::(E++ay 0 Z ρ))):Sim Γ H' ρ Z (⟨none,v,r⟩::E):=
 ⟨h,S.al,S.len,λx hx j hj=>by
  rcases ycM hx with rfl|hx
  ·cases hj
  ·exact S.hi x hx j hj⟩
theorem Sim.var (S:Sim Γ H ρ Z E)(h : ρ[i]?=some (some r)):∃v,Z[i]?=some (some v)/\Sim Γ H ρ Z (⟨none,v,rdR i r⟩::E):=by
 obtain⟨v,hv,hm⟩:=S.slot h
 refine⟨v,hv,S.cons ?_⟩
 obtain⟨k,t⟩:=r
 cases k with
 | vw a b=>exact S.sl.copy (e:=⟨some i,v,⟨.vw a b,t⟩⟩) hm rfl
 | io n=>
  have:=S.sl.view (e:=⟨some i,v,⟨.io n,t⟩⟩) hm rfl rfl
  cases t<;>exact this
 | ow=>
  cases t with
  | im x=>
   obtain⟨F,rp⟩:=S.sl.rd hm
   exact S.sl.push (ba rp).1
  | tup _=>exact S.sl.view (e:=⟨some i,v,⟨.ow,_⟩⟩) hm rfl rfl
  | li _=>exact S.sl.view (e:=⟨some i,v,⟨.ow,_⟩⟩) hm rfl rfl
  | lst _=>exact S.sl.view (e:=⟨some i,v,⟨.ow,_⟩⟩) hm rfl rfl
  | di _=>exact S.sl.view (e:=⟨some i,v,⟨.ow,_⟩⟩) hm rfl rfl
  | dc _=>exact S.sl.view (e:=⟨some i,v,⟨.ow,_⟩⟩) hm rfl rfl
  | ins _ _=>exact S.sl.view (e:=⟨some i,v,⟨.ow,_⟩⟩) hm rfl rfl
theorem Sim.kill (S:Sim Γ H ρ Z E)(M:List Nat):Sim Γ H (ao M ρ) Z (ae M E):=by
 refine⟨?_,λi r h=>S.al i r (j7 h),by rw[aF];exact S.len,λx hx j hj=>by rw[aF];exact S.hi x (D7.mp hx).1 j hj⟩
 rw[dW,←aB]
 exact S.sl.kill M
theorem jo {M:List Nat}{X:List En}(hi:i∈M):∀g∈ae M X,g.r.k.root≠some i:=λg hg z=>by
 have:=(D7.mp hg).2
 unfold az at this
 rw[z]at this
 simp[hi]at this
theorem Sim.out (S:Sim Γ H ρ Z E)(h : ρ[i]?=some (some r))(ho:r.k.isOw=true):∃v,Z[i]?=some (some v)/\SimL Γ H (⟨some i,v,r⟩::(ae [i] E++ay 0 Z ((ao [i] ρ).set i none))) ∧
  (∀g∈ae [i] E++ay 0 Z ((ao [i] ρ).set i none),g.r.k.root≠some i)/\∀g∈ae [i] E++ay 0 Z ((ao [i] ρ).set i none),g.key≠some i:=by
 obtain⟨v,hv⟩:=S.al i r h
 have S2:=S.kill [i]
 have h2:=pV (M:=[i]) h ho
 have hil:i < ρ.length:=(DR.mp h).1
 refine⟨v,hv,S2.sl.perm ?_,λg hg=>?_,λg hg hk=>?_⟩
 ·have:=(bm (k:=0) hv h2).append_left (ae [i] E)
  rw[EG]at this
  exact this.trans Et
 ·rcases yaM hg with z|z
  ·exact jo (by simp) g z
  ·have:g∈ay 0 Z (ao [i] ρ):=by
    obtain⟨m,h1,h3,h4⟩:=cB z
    have hm:m≠i:=λe=>by subst e;simp[aF,hil]at h3
    rw[Ef (Ne.symm hm)]at h3
    have:=(bm (k:=0) h4 h3).mem_iff.mpr (ymS)
    have e:g=⟨some (0+m),g.v,g.r⟩:=by cases g;simp only[En.mk.injEq,and_self,and_true];exact h1
    rw[e];exact this
   rw[dW]at this
   exact jo (by simp) g this
 ·rcases yaM hg with z|z
  ·have:=S2.hi g z i hk
   rw[aF]at this
   omega
  ·obtain⟨m,h1,h3,h4⟩:=cB z
   rw[hk,EG]at h1
   cases h1
   simp[aF,hil]at h3
theorem Sim.back (S:Sim Γ H ρ Z E){ρ':Rho}{Z':St}(h:SimL Γ H' (E'++ay 0 Z' ρ'))(hl : ρ'.length=ρ.length)(hZ:Z'.length=Z.length)(al:∀(i:Nat) r,ρ'[i]?=some (some r)->∃v,Z'[i]?=some (some v))(hi:∀e∈E',∀j,e.key=some j->e∈E):Sim Γ H' ρ' Z' E':=
 ⟨h,al,by rw[hl,hZ];exact S.len,λe he j hj=>by rw[hl];exact S.hi e (hi e he j hj) j hj⟩
noncomputable def fu (ρ:Rho) (i:Nat):Bool:=match ρ[i]? with
 | some (some ⟨.io _,_⟩)=>false
 | some _=>true
 | none=>false
theorem yx {ρ:Rho}{Z:St}(al:∀(i:Nat) r,ρ[i]?=some (some r)->∃v,Z[i]?=some (some v))(h1:i<Z.length):∀(m:Nat) r',(ρ.set i (some r))[m]?=some (some r')->∃v',(Z.set i (some v))[m]?=some (some v'):=λm r' hm=>by
 by_cases e:m=i
 ·subst e;exact⟨v,by simp[h1]⟩
 ·rw[Ef (Ne.symm e)]at hm⊢;exact al m r' hm
theorem Sim.put (S:Sim Γ H ρ Z (⟨none,v,r⟩::E))(hi:fu ρ i=true)(hr:r.k.root≠some i):Sim Γ H ((ao [i] ρ).set i (some r)) (Z.set i (some v)) (ae [i] E):=by
 have hil:i < ρ.length:=by
  unfold fu at hi
  cases q : ρ[i]? with
  | none=>rw[q]at hi;cases hi
  | some o=>exact(DR.mp q).1
 have hiZ:i<Z.length:=by rw[S.len];exact hil
 have hkeep:az [i] ⟨none,v,r⟩=true:=by
  unfold az
  split
  ·rename_i j hj
   have:j≠i:=λz=>hr (z▸hj)
   simp[this]
  ·rfl
 have ek:ae [i] (⟨none,v,r⟩::E)=⟨none,v,r⟩::ae [i] E:=by unfold ae;rw[Fg,if_pos hkeep]
 have S2:=S.kill [i]
 rw[ek]at S2
 have S3:SimL Γ H (⟨none,v,r⟩::(ae [i] E++ay 0 Z ((ao [i] ρ).set i none)))/\∀g∈ae [i] E++ay 0 Z ((ao [i] ρ).set i none),g.key≠some i:=by
  cases q:(ao [i] ρ)[i]? with
  | none=>rw[List.getElem?_eq_none_iff,aF]at q;omega
  | some o=>
   cases o with
   | none=>
    have e:(ao [i] ρ).set i none=ao [i] ρ:=by
     apply Fn
     intro m
     by_cases hm:m=i
     ·subst hm;rw[q];simp[aF,hil]
     ·rw[Ef (Ne.symm hm)]
    rw[e]
    refine⟨S2.sl,λg hg hk=>?_⟩
    rcases yaM hg with z|z
    ·have:=S2.hi g (ymC _ z) i hk
     rw[aF]at this;omega
    ·obtain⟨m,h1,h3,h4⟩:=cB z
     rw[hk,EG]at h1;cases h1
     rw[q]at h3;cases h3
   | some r0=>
    have q0:=j7 q
    by_cases ho:r0.k.isOw=true
    ·obtain⟨v0,hv0,h1,h2,h3⟩:=S.out q0 ho
     rw[ek]at h1 h2 h3
     refine⟨h1.dropK λg hg j hj=>by cases hj;exact h2 g hg,λg hg=>h3 g (ymC _ hg)⟩
    ·obtain⟨v0,hv0⟩:=S.al i r0 q0
     have p:=(bm (k:=0) hv0 q).append_left (⟨none,v,r⟩::ae [i] E)
     rw[EG]at p
     have h1:=S2.sl.perm (p.trans Et)
     refine⟨h1.dropK λg hg j hj=>?_,λg hg hk=>?_⟩
     ·cases hj
      have h1':g∈ae [i] (⟨none,v,r⟩::E)++ae [i] (ay 0 Z ρ):=by
       rw[ek,←dW]
       rcases yaM hg with z|z
       ·exact yaL _ z
       ·refine yaR _ ?_
        obtain⟨m,h1,h3,h4⟩:=cB z
        have hm:m≠i:=λe=>by subst e;simp[aF,hil]at h3
        rw[Ef (Ne.symm hm)]at h3
        have:=(bm (k:=0) h4 h3).mem_iff.mpr (ymS)
        have e:g=⟨some (0+m),g.v,g.r⟩:=by cases g;simp only[En.mk.injEq,and_self,and_true];exact h1
        rw[e];exact this
      rw[←aB]at h1'
      exact jo (by simp) g h1'
     ·rcases yaM hg with z|z
      ·have:=S2.hi g (ymC _ z) i hk
       rw[aF]at this;omega
      ·obtain⟨m,h1,h3,h4⟩:=cB z
       rw[hk,EG]at h1;cases h1
       simp[aF,hil]at h3
 obtain⟨S3,hks⟩:=S3
 have S4:=S3.rekey (e:=⟨none,v,r⟩) rfl (key:=some i) λj hj g hg=>by cases hj;exact hks g hg
 refine S2.back (S4.perm ?_) (by simp[aF]) (by simp) (yx S2.al hiZ) (λe he j hj=>ymC _ he)
 have p:=(fj (k:=0) (Z:=Z) (ρ:=ao [i] ρ) (v:=v) (r:=r) hiZ (by rw[aF];exact hil)).append_left (ae [i] E)
 rw[EG]at p
 exact(Et.symm).trans p.symm
theorem Sim.mut {vs:List V}{ts:List T}{p:List Ac}{k:Kd}(S:Sim Γ H ρ Z (au vs ts++⟨none,w,⟨.vw (some i) (some p),s⟩⟩::E))(hl:vs.length=ts.length)(h : ρ[i]?=some (some ⟨k,t⟩))(ho:k.isOw=true) :
  ∃G F,Rp Γ.K H s w G/\Rps Γ.K H ts vs F/\(G++F).Nodup/\(∀a∈G++F,Mu H a) ∧
  ∀H' s' G',OffM G H H'->(∀a∈G,∃o,H' a=some o)->G'.Nodup->(∀a∈G',(a∈G++F∨H a=none)/\Mu H' a)->Rp Γ.K H' s' w G'->Sim Γ H' ((ao [i] ρ).set i (some ⟨k,t.put p s'⟩)) Z (ae [i] E):=by
 have hil:i < ρ.length:=(DR.mp h).1
 obtain⟨v0,hv0,hm⟩:=S.slot h
 have pl:t.sub p=some s/\atP Γ.K H v0 p w:=by
  obtain⟨L,g,e⟩:=S.sl
  have:(⟨none,w,⟨.vw (some i) (some p),s⟩⟩:En)∈L.map (·.e):=by rw[e];simp
  obtain⟨y,hy,ey⟩:=D4.mp this
  have kd:=g.kd y hy
  unfold KdOk at kd
  rw[ey]at kd
  obtain⟨x,x1,x2,x3,x4,x5⟩:=kd
  have hm':(⟨some i,v0,⟨k,t⟩⟩:En)∈L.map (·.e):=by rw[e];exact hm
  obtain⟨z,hz,ez⟩:=D4.mp hm'
  have:x=z:=by
   have nk:=g.ks
   by_cases q:x=z
   ·exact q
   ·exfalso
    obtain⟨A,B,rfl⟩:=FI x1
    rw[Ek,Ei,x2]at nk
    rcases yaM hz with hz|hz
    ·exact(DW.mp nk).2.2 i (Ey.mpr ⟨z,hz,by rw[ez]⟩) i ymS rfl
    ·rcases ycM hz with hz|hz
     ·exact q hz.symm
     ·exact(Ep.mp (DW.mp nk).2.1).1 (Ey.mpr ⟨z,hz,by rw[ez]⟩)
  subst this
  have:=x5 p rfl
  rw[ez]at this
  exact this
 obtain⟨v1,hv1,h1,h2,h3⟩:=S.out h ho
 rw[hv0]at hv1;cases hv1
 have ktemps:∀{vs:List V} {ts:List T},ae [i] (au vs ts)=au vs ts:=by
  intro vs
  induction vs with
  | nil=>intro ts;rfl
  | cons v vs ih=>
   intro ts
   cases ts with
   | nil=>rfl
   | cons t ts=>show List.filter _ _=_;rw[au,Fg,if_pos (show az [i] ⟨none,v,⟨.ow,t⟩⟩=true from rfl)];exact congrArg _ ih
 have kv:az [i] ⟨none,w,⟨.vw (some i) (some p),s⟩⟩=false:=by unfold az;simp[Kd.root]
 have ek:ae [i] (au vs ts++⟨none,w,⟨.vw (some i) (some p),s⟩⟩::E)=au vs ts++ae [i] E:=by
  rw[aB,ktemps]
  unfold ae
  rw[Fg,if_neg (by rw[kv];simp)]
 rw[ek]at h1 h2 h3
 rw[Ea]at h1 h2 h3
 obtain⟨w',G,F,m1,m2,m3,m4,m5,m6⟩:=SimL.mutP (e:=⟨some i,v0,⟨k,t⟩⟩) (X:=ae [i] E++ay 0 Z ((ao [i] ρ).set i none)) (by rw[Ej];exact h1) hl ho (λg hg j hj=>by cases hj;exact h2 g (yaR _ hg)) pl.1 (λj hj g hg=>by cases hj;exact h3 g (yaR _ hg))
 have ew:=gB m1 pl.2
 subst ew
 refine⟨G,F,m2,m3,m4,m5,λH' s' G' off dom nd hG rp=>?_⟩
 have S5:=m6 H' s' G' off dom nd hG rp
 have S2:=S.kill [i]
 refine S2.back (S5.perm ?_) (by simp[aF]) rfl (λm r' hm=>?_) (λe he j hj=>by rw[ek];exact yaR _ he)
 ·have p:=(fj (k:=0) (Z:=Z) (ρ:=ao [i] ρ) (v:=v0) (r:=⟨k,t.put p s'⟩) (by rw[S.len];exact hil) (by rw[aF];exact hil)).append_left (ae [i] E)
  rw[EG]at p
  have eZ:Z.set i (some v0)=Z:=by
   apply Fn
   intro m
   by_cases hm:m=i
   ·subst hm;rw[hv0];simp[S.len,hil]
   ·rw[Ef (Ne.symm hm)]
  rw[eZ]at p
  exact(Et.symm).trans p.symm
 ·by_cases e:m=i
  ·subst e;exact⟨v0,hv0⟩
  ·rw[Ef (Ne.symm e)]at hm;exact S2.al m r' hm
theorem Sim.move (S:Sim Γ H ρ Z (⟨none,w,⟨.vw (some i) (some []),s⟩⟩::E))(h : ρ[i]?=some (some ⟨.ow,t⟩)):Sim Γ H ((ao [i] ρ).set i none) Z (⟨none,w,⟨.ow,s⟩⟩::ae [i] E):=by
 have hil:i < ρ.length:=(DR.mp h).1
 obtain⟨v0,hv0,hm⟩:=S.slot h
 have pl:s=t/\w=v0:=by
  obtain⟨L,g,e⟩:=S.sl
  have:(⟨none,w,⟨.vw (some i) (some []),s⟩⟩:En)∈L.map (·.e):=by rw[e];simp
  obtain⟨y,hy,ey⟩:=D4.mp this
  have kd:=g.kd y hy
  unfold KdOk at kd
  rw[ey]at kd
  obtain⟨x,x1,x2,x3,x4,x5⟩:=kd
  have hm':(⟨some i,v0,⟨.ow,t⟩⟩:En)∈L.map (·.e):=by rw[e];exact hm
  obtain⟨z,hz,ez⟩:=D4.mp hm'
  have:x=z:=by
   have nk:=g.ks
   by_cases q:x=z
   ·exact q
   ·exfalso
    obtain⟨A,B,rfl⟩:=FI x1
    rw[Ek,Ei,x2]at nk
    rcases yaM hz with hz|hz
    ·exact(DW.mp nk).2.2 i (Ey.mpr ⟨z,hz,by rw[ez]⟩) i ymS rfl
    ·rcases ycM hz with hz|hz
     ·exact q hz.symm
     ·exact(Ep.mp (DW.mp nk).2.1).1 (Ey.mpr ⟨z,hz,by rw[ez]⟩)
  subst this
  have:=x5 [] rfl
  rw[ez]at this
  obtain⟨q1,q2⟩:=this
  rw[T.sub]at q1
  cases q1
  exact⟨rfl,q2⟩
 obtain⟨rfl,rfl⟩:=pl
 obtain⟨v1,hv1,h1,h2,h3⟩:=S.out h rfl
 rw[hv0]at hv1;cases hv1
 have kv:az [i] ⟨none,w,⟨.vw (some i) (some []),s⟩⟩=false:=by unfold az;simp[Kd.root]
 have ek:ae [i] (⟨none,w,⟨.vw (some i) (some []),s⟩⟩::E)=ae [i] E:=by
  unfold ae
  rw[Fg,if_neg (by rw[kv];simp)]
 rw[ek]at h1 h2 h3
 have S2:=S.kill [i]
 refine S2.back (E':=⟨none,w,⟨.ow,s⟩⟩::ae [i] E) ?_ (by simp[aF]) rfl (λm r' hm=>?_) (λe he j hj=>?_)
 ·obtain⟨L,g,e⟩:=h1
  obtain⟨x,L',rfl,e1,e2⟩:=aE e
  have:=g.step (hs:=[x]) (L:=L') (H':=H) (λy hy=>by rw[ysM hy,e1];rfl) (λy hy z hz j hj=>by
   rw[ysM hz,e1]at hj
   cases hj
   exact h2 y.e (by rw[←e2];exact Eu hy)) (OffM.refl _ _) (λa ha=>by
    obtain⟨y,hy,ha⟩:=EN.mp ha
    rw[ysM hy]at ha
    exact(g.rp x ymS).dom a ha) (key:=none) (v:=w) (r:=⟨.ow,s⟩) (F:=x.F) (g.ndF ymS (by rw[e1];rfl)) (λa ha=>⟨.inl (by simpa using ha),g.muF ymS (by rw[e1];rfl) a ha⟩)
    (by have:=g.rp x ymS;rw[e1]at this;exact this) (.inl ⟨rfl,λy hy=>by rw[ysM hy,e1]⟩) (λj hj=>by cases hj)
  exact⟨_,this,by rw[DS,e2];rfl⟩
 ·by_cases e:m=i
  ·subst e;simp[aF,hil]at hm
  ·rw[Ef (Ne.symm e)]at hm;exact S2.al m r' hm
 ·rcases ycM he with rfl|he
  ·cases hj
  ·rw[ek];exact he
theorem Sim.use {vs:List V}{ts:List T}(S:Sim Γ H ρ Z (au vs ts++E))(hl:vs.length=ts.length):∃F,Rps Γ.K H ts vs F/\F.Nodup/\(∀a∈F,Mu H a) ∧
  ∀H' v t F',OffM F H H'->(∀a∈F,∃o,H' a=some o)->F'.Nodup->(∀a∈F',(a∈F∨H a=none)/\Mu H' a)->Rp Γ.K H' t v F'->Sim Γ H' ρ Z (⟨none,v,⟨.ow,t⟩⟩::E):=by
 have S1:=S.sl
 rw[Ea]at S1
 obtain⟨F,h1,h2,h3,h4⟩:=S1.use hl
 refine⟨F,h1,h2,h3,λH' v t F' a b c d e=>?_⟩
 exact⟨h4 H' v t F' a b c d e,S.al,S.len,λx hx j hj=>by
  rcases ycM hx with rfl|hx
  ·cases hj
  ·exact S.hi x (yaR _ hx) j hj⟩
theorem Sim.part (S:Sim Γ H ρ Z E)(he:e∈E){ro:Option Nat}{p:Option (List Ac)}(ho:e.r.k=.vw ro p){P:V->Prop}(hp:∀F,Rp Γ.K H e.r.t e.v F->∃w G,P w/\Rp Γ.K H s w G/\∀a∈G,a∈F):∃w,P w/\Sim Γ H ρ Z (⟨none,w,⟨.vw ro none,s⟩⟩::E):=by
 obtain⟨w,h1,h2⟩:=S.sl.part (yaL _ he) ho hp
 exact⟨w,h1,S.cons h2⟩
theorem Sim.partP (S:Sim Γ H ρ Z E)(he:e∈E){q:List Ac}(ho:e.r.k=.vw (some j) (some q)){a:Ac}(hs:iD e.r.t a=some s):∃w,at1 Γ.K H e.v a w/\Sim Γ H ρ Z (⟨none,w,⟨.vw (some j) (some (q++[a])),s⟩⟩::E):=by
 obtain⟨w,h1,h2⟩:=S.sl.partP (yaL _ he) ho hs
 exact⟨w,h1,S.cons h2⟩
end
structure ME where
 run:Rho->Option (R×Rho)
 mu:List Nat
structure MT where
 run:Rho->Option (Bool×Rho)
 mu:List Nat
structure MA where
 run:Rho->Option (List R×Rho)
 mu:List Nat
inductive Fl where
 | nx|rt (t:T)|bk|ct
structure MS where
 run:Rho->Option (Fl×Rho)
 mu:List Nat
structure MG where
 run:R->Rho->Option Rho
 mu:List Nat
structure MGs where
 run:List R->Rho->Option Rho
 mu:List Nat
noncomputable def ens:List V->List R->List En
 | v::vs,r::rs=>⟨none,v,r⟩::ens vs rs
 | _,_=>[]
noncomputable def aC (M:List Nat) (r:R):Bool:=cN M r
theorem bv {M:List Nat}{r:R}{v:V}(h:aC M r=true):az M ⟨none,v,r⟩=true:=h
theorem ar {M:List Nat}{e:En}{E:List En}(h:az M e=true):ae M (e::E)=e::ae M E:=by unfold ae;rw[Fg,if_pos h]
theorem hW {M:List Nat}:∀{vs:List V} {rs:List R},rs.all (aC M)=true->ae M (ens vs rs)=ens vs rs
 | [],_,_=>by cases ‹List R›<;>rfl
 | _::_,[],_=>rfl
 | v::vs,r::rs,h=>by
  rw[E6,DU]at h
  rw[ens,ar (bv h.1),hW h.2]
theorem Sim.weak {Γ:Gm}{H:Hp}{ρ:Rho}{Z:St}{E:List En}(S:Sim Γ H ρ Z E)(M:List Nat):Sim Γ H ρ Z (ae M E):=by
 refine⟨?_,S.al,S.len,λe he=>S.hi e (D7.mp he).1⟩
 obtain⟨L,g,h⟩:=S.sl
 obtain⟨A,B,rfl,h1,h2⟩:=dA h
 refine⟨A.filter (λx=>az M x.e)++B,g.sub (EQ.append (List.Sublist.refl _)) λx hx j hj y hy hk ho=>?_,?_⟩
 ·rcases yaM hy with z|z
  ·refine yaL _ (D7.mpr ⟨z,?_⟩)
   unfold az
   cases e:y.e.r.k with
   | vw a b=>rw[e]at ho;cases ho
   | ow=>rfl
   | io _=>rfl
  ·exact yaR _ z
 ·rw[D9,h2,←h1]
  unfold ae
  rw[FT];rfl
def aP (K:yF)(te:TE)(m:ME):Prop:=∀(Γ:Gm) (H:Hp) (ρ:Rho) (Z:St) (E:List En) (Q:VK) (r:R) (ρ':Rho),Γ.K=K->m.run ρ=some (r,ρ')->Sim Γ H ρ Z E->(∀v H',Sim Γ H' ρ' Z (⟨none,v,r⟩::ae m.mu E)->Q v H')->te Z H Q
def ff (K:yF)(te:TT)(m:MT):Prop:=∀(Γ:Gm) (H:Hp) (ρ:Rho) (Z:St) (E:List En) (Q:Bool->Hp->Prop) (b:Bool) (ρ':Rho),Γ.K=K->m.run ρ=some (b,ρ')->Sim Γ H ρ Z E->(∀H',Sim Γ H' ρ' Z (ae m.mu E)->Q b H')->te Z H Q
def fe (K:yF)(ta:TA)(m:MA):Prop:=∀(Γ:Gm) (H:Hp) (ρ:Rho) (Z:St) (E:List En) (Q:List V->Hp->Prop) (rs:List R) (ρ':Rho),Γ.K=K->m.run ρ=some (rs,ρ')->Sim Γ H ρ Z E->(∀vs H',vs.length=rs.length->Sim Γ H' ρ' Z (ens vs rs++ae m.mu E)->Q vs H')->ta Z H Q
def FlOk (Γ:Gm)(ρ':Rho)(E:List En)(D:Ends):Fl->Prop
 | .nx=>∀Z' H',Sim Γ H' ρ' Z' E->D.nx Z' H'
 | .bk=>∀Z' H',Sim Γ H' ρ' Z' E->D.bk Z' H'
 | .ct=>∀Z' H',Sim Γ H' ρ' Z' E->D.ct Z' H'
 | .rt t=>∀v Z' H',Sim Γ H' ρ' Z' [⟨none,v,⟨.ow,t⟩⟩]->D.rt v H'
def dH (K:yF)(ts:TS)(m:MS):Prop:=∀(Γ:Gm) (H:Hp) (ρ:Rho) (Z:St) (E:List En) (D:Ends) (f:Fl) (ρ':Rho),Γ.K=K->(∀e∈E,e.key=none)->m.run ρ=some (f,ρ')->Sim Γ H ρ Z E->FlOk Γ ρ' (ae m.mu E) D f->ts D Z H
def g9 (K:yF)(g:TG)(m:MG):Prop:=∀(Γ:Gm) (H:Hp) (ρ:Rho) (Z:St) (E:List En) (Q:St->Hp->Prop) (v:V) (r:R) (ρ':Rho),Γ.K=K->m.run r ρ=some ρ'->Sim Γ H ρ Z (⟨none,v,r⟩::E)->(∀Z' H',Sim Γ H' ρ' Z' (ae m.mu E)->Q Z' H')->g v Z H Q
def lK (K:yF)(g:TGs)(m:MGs):Prop:=∀(Γ:Gm) (H:Hp) (ρ:Rho) (Z:St) (E:List En) (Q:St->Hp->Prop) (vs:List V) (rs:List R) (ρ':Rho),Γ.K=K->m.run rs ρ=some ρ'->vs.length=rs.length->Sim Γ H ρ Z (ens vs rs++E)->(∀Z' H',Sim Γ H' ρ' Z' (ae m.mu E)->Q Z' H')->g vs Z H Q
def Bq (X:Cx)(st:List Stmt)(m:MS):Prop:=∃ts,PSs X st ts/\dH X.K ts m
section
variable  {K:yF}{X:Cx}
@[irreducible] noncomputable def mC (i:I):ME:=⟨λρ=>some (⟨.ow,.im i⟩,ρ),[]⟩
@[irreducible] noncomputable def ah (i:Nat):ME:=⟨λρ=>match ρ[i]? with
 | some (some r)=>some (rdR i r,ρ)
 | _=>none,[]⟩
theorem tZ {i:I}{v:V}(h:i.sc=some v):aP K (tC v) (mC i):=by with_unfolding_all
 intro Γ H ρ Z E Q r ρ' hK hr S q
 cases hr
 exact q v H (by rw[show(mC i).mu=[]from rfl,bE];exact S.imm (iO h))
theorem xf {i:Nat}:aP K (AU i) (ah i):=by with_unfolding_all
 intro Γ H ρ Z E Q r ρ' hK hr S q
 simp only[ah]at hr
 split at hr
 ·rename_i r0 h0
  cases hr
  obtain⟨v,hv,S2⟩:=S.var h0
  exact⟨v,hv,q v H (by rw[show(ah i).mu=[]from rfl,bE];exact S2)⟩
 ·cases hr
@[irreducible] noncomputable def mNil:MA:=⟨λρ=>some ([],ρ),[]⟩
@[irreducible] noncomputable def aa (m:ME)(ms:MA):MA:=⟨λρ=>match m.run ρ with
 | some (r,ρ1)=>match ms.run ρ1 with
  | some (rs,ρ2)=>if aC ms.mu r=true then some (r::rs,ρ2)else none
  | none=>none
 | none=>none,m.mu++ms.mu⟩
theorem wW:fe K C0 mNil:=by with_unfolding_all
 intro Γ H ρ Z E Q rs ρ' hK hr S q
 cases hr
 exact q [] H rfl (by rw[show mNil.mu=[]from rfl,bE];exact S)
theorem vd {v:V}{r:R}{E:List En}:∀{vs:List V} {rs:List R},(ens vs rs++⟨none,v,r⟩::E).Perm (⟨none,v,r⟩::(ens vs rs++E)):=Et
theorem ua {te:TE}{ta:TA}{m:ME}{ms:MA}(h1:aP K te m)(h2:fe K ta ms):fe K (pb te ta) (aa m ms):=by with_unfolding_all
 intro Γ H ρ Z E Q rs ρ' hK hr S q
 simp only[aa]at hr
 split at hr
 ·rename_i r ρ1 e1
  split at hr
  ·rename_i rs1 ρ2 e2
   split at hr
   ·rename_i al
    cases hr
    refine h1 Γ H ρ Z E _ r ρ1 hK e1 S λv H1 S1=>?_
    refine h2 Γ H1 ρ1 Z _ _ rs1 _ hK e2 S1 λvs H2 hl S2=>q (v::vs) H2 (by rw[D5,D5,hl]) ?_
    rw[ar (bv al),af]at S2
    exact S2.perm vd
   ·cases hr
  ·cases hr
 ·cases hr
@[irreducible] noncomputable def mNext:MS:=⟨λρ=>some (.nx,ρ),[]⟩
@[irreducible] noncomputable def aq (a b:MS):MS:=⟨λρ=>match a.run ρ with
 | some (.nx,ρ1)=>b.run ρ1
 | some (.rt t,ρ1)=>some (.rt t,ρ1)
 | some (.bk,ρ1)=>some (.bk,ρ1)
 | some (.ct,ρ1)=>some (.ct,ρ1)
 | none=>none,a.mu++b.mu⟩
@[irreducible] noncomputable def mIf (c:MT)(a b:MS):MS:=⟨λρ=>match c.run ρ with
 | some (true,ρ1)=>a.run ρ1
 | some (false,ρ1)=>b.run ρ1
 | none=>none,c.mu++(a.mu++b.mu)⟩
@[irreducible] noncomputable def bp (e:ME):MS:=⟨λρ=>match e.run ρ with
 | some (_,ρ1)=>some (.nx,ρ1)
 | none=>none,e.mu⟩
@[irreducible] noncomputable def aD (e:ME)(g:MG):MS:=⟨λρ=>match e.run ρ with
 | some (r,ρ1)=>match g.run r ρ1 with
  | some ρ2=>some (.nx,ρ2)
  | none=>none
 | none=>none,e.mu++g.mu⟩
@[irreducible] noncomputable def qK:R->Rho->Option (T×Rho)
 | ⟨.ow,t⟩,ρ=>some (t,ρ)
 | ⟨.vw (some i) (some []),t⟩,ρ=>match ρ[i]? with
  | some (some ⟨.ow,_⟩)=>some (t,(ao [i] ρ).set i none)
  | _=>none
 | _,_=>none
@[irreducible] noncomputable def bf (e:ME):MS:=⟨λρ=>match e.run ρ with
 | some (r,ρ1)=>match qK r ρ1 with
  | some (t,ρ2)=>some (.rt t,ρ2)
  | none=>none
 | none=>none,e.mu⟩
theorem FlOk.weak {Γ:Gm}{ρ':Rho}{E:List En}{D:Ends}{f:Fl}{M N:List Nat}(h:FlOk Γ ρ' (ae (M++N) E) D f):FlOk Γ ρ' (ae M E) D f:=by
 cases f with
 | rt t=>exact h
 | nx=>exact λZ' H' S=>h Z' H' (by rw[←af];exact S.weak N)
 | bk=>exact λZ' H' S=>h Z' H' (by rw[←af];exact S.weak N)
 | ct=>exact λZ' H' S=>h Z' H' (by rw[←af];exact S.weak N)
theorem nq (M N:List Nat)(E:List En):ae M (ae N E)=ae N (ae M E):=by
 unfold ae
 rw[F6,F6]
 congr 1
 funext e
 exact Bool.and_comm _ _
theorem FlOk.weak2 {Γ:Gm}{ρ':Rho}{E:List En}{D:Ends}{f:Fl}{M N:List Nat}(h:FlOk Γ ρ' (ae (M++N) E) D f):FlOk Γ ρ' (ae N E) D f:=by
 refine FlOk.weak (N:=M) ?_
 rwa [←af,nq,af]
theorem bD {M:List Nat}{E:List En}(h:∀e∈E,e.key=none):∀e∈ae M E,e.key=none:=λe he=>h e (D7.mp he).1
theorem ui:dH K yq mNext:=by with_unfolding_all
 intro Γ H ρ Z E D f ρ' hK hE hr S q
 cases hr
 exact q Z H (by rw[show mNext.mu=[]from rfl,bE];exact S)
theorem xa {t u:TS}{a b:MS}(h1:dH K t a)(h2:dH K u b):dH K (C4 t u) (aq a b):=by
 intro Γ H ρ Z E D f ρ' hK hE hr S q
 show t {D with nx:=u D} Z H
 simp only[aq]at hr q
 split at hr
 ·rename_i ρ1 e1
  refine h1 Γ H ρ Z E _ .nx ρ1 hK hE e1 S λZ1 H1 S1=>?_
  refine h2 Γ H1 ρ1 Z1 _ D f ρ' hK (bD hE) hr S1 ?_
  rw[af];exact q
 ·rename_i t1 ρ1 e1
  cases hr
  exact h1 Γ H ρ Z E _ (.rt t1) _ hK hE e1 S q
 ·rename_i ρ1 e1
  cases hr
  exact h1 Γ H ρ Z E _ .bk _ hK hE e1 S (show FlOk Γ _ (ae a.mu E) D .bk from q.weak)
 ·rename_i ρ1 e1
  cases hr
  exact h1 Γ H ρ Z E _ .ct _ hK hE e1 S (show FlOk Γ _ (ae a.mu E) D .ct from q.weak)
 ·cases hr
theorem wT {c:TT}{t u:TS}{mc:MT}{a b:MS}(hc:ff K c mc)(h1:dH K t a)(h2:dH K u b):dH K (CY c t u) (mIf mc a b):=by
 intro Γ H ρ Z E D f ρ' hK hE hr S q
 simp only[mIf]at hr q
 rw[←af]at q
 split at hr
 ·rename_i ρ1 e1
  refine hc Γ H ρ Z E _ true ρ1 hK e1 S λH1 S1=>rV ?_
  exact h1 Γ H1 ρ1 Z _ D f ρ' hK (bD hE) hr S1 q.weak
 ·rename_i ρ1 e1
  refine hc Γ H ρ Z E _ false ρ1 hK e1 S λH1 S1=>rT ?_
  exact h2 Γ H1 ρ1 Z _ D f ρ' hK (bD hE) hr S1 q.weak2
 ·cases hr
theorem ub {te:TE}{m:ME}(h:aP K te m):dH K (yo te) (bp m):=by with_unfolding_all
 intro Γ H ρ Z E D f ρ' hK hE hr S q
 simp only[bp]at hr
 split at hr
 ·rename_i r ρ1 e1
  cases hr
  exact h Γ H ρ Z E _ r _ hK e1 S λv H1 S1=>q Z H1 (S1.drop rfl)
 ·cases hr
theorem lw {te:TE}{g:TG}{m:ME}{mg:MG}(h:aP K te m)(hg:g9 K g mg):dH K (xr te g) (aD m mg):=by
 intro Γ H ρ Z E D f ρ' hK hE hr S q
 simp only[aD]at hr q
 split at hr
 ·rename_i r ρ1 e1
  split at hr
  ·rename_i ρ2 e2
   cases hr
   refine h Γ H ρ Z E _ r ρ1 hK e1 S λv H1 S1=>?_
   exact hg Γ H1 ρ1 Z _ _ v r _ hK e2 S1 λZ2 H2 S2=>q Z2 H2 (by rw[←af];exact S2)
  ·cases hr
 ·cases hr
theorem Sim.only {Γ:Gm}{H:Hp}{ρ:Rho}{Z:St}{e:En}{E:List En}(S:Sim Γ H ρ Z (e::E))(hE:∀x∈E,x.key=none):Sim Γ H ρ Z [e]:=by
 induction E with
 | nil=>exact S
 | cons x E ih=>exact ih (S.swap.drop (hE x ymS)) λy hy=>hE y (ymC _ hy)
theorem wZ {te:TE}{m:ME}(h:aP K te m):dH K (C3 te) (bf m):=by with_unfolding_all
 intro Γ H ρ Z E D f ρ' hK hE hr S q
 simp only[bf]at hr
 split at hr
 ·rename_i r ρ1 e1
  split at hr
  ·rename_i t ρ2 e2
   cases hr
   refine h Γ H ρ Z E _ r ρ1 hK e1 S λv H1 S1=>?_
   obtain⟨k,t0⟩:=r
   cases k with
   | ow=>
    cases e2
    exact q v Z H1 (S1.only (bD hE))
   | io n=>cases e2
   | vw a b=>
    cases a with
    | none=>cases e2
    | some i=>
     cases b with
     | none=>cases e2
     | some p=>
      cases p with
      | cons _ _=>cases e2
      | nil=>
       simp only[qK]at e2
       split at e2
       ·rename_i t1 h1
        cases e2
        exact q v Z H1 ((S1.move h1).only (bD (bD hE)))
       ·cases e2
  ·cases hr
 ·cases hr
@[irreducible] noncomputable def ag (i:Nat):MG:=⟨λr ρ=>if(fu ρ i&&aC [i] r)=true then some ((ao [i] ρ).set i (some r))else none,[i]⟩
theorem gc {i:Nat}{r:R}(h:aC [i] r=true):r.k.root≠some i:=λz=>by
 unfold aC cN at h
 rw[z]at h
 simp at h
theorem jA {i:Nat}:g9 K (j3 i) (ag i):=by with_unfolding_all
 intro Γ H ρ Z E Q v r ρ' hK hr S q
 simp only[ag]at hr
 split at hr
 ·rename_i h
  cases hr
  rw[DU]at h
  exact q _ H (S.put h.1 (gc h.2))
 ·cases hr
end
section
variable  {X:Cx}
theorem Inv.lstR {pins:List (Addr×Obj)}{Z:St}{H:Hp}{s:Shared}{l:Addr}{xs:List V}(I:Inv X pins Z H s)(hH:Rd H l (.lst xs)):xs.length<=sizeLine/\∃(its:List Value) (n:Nat),Vals xs its/\xs.length=its.length/\s.heap.get? l=some {cls:=.type "list",data:=.seq its.toArray n}:=by
 obtain⟨z,its,n,r,e⟩:=hH.ok I.hok
 exact⟨z,its,n,r,r.length,e⟩
def xZ:R2:=λx y H Q=>∃l b xs zs,x=.ref l/\y=.ref b/\Rd H l (.lst xs)/\Rd H b (.lst zs)/\xs.length+zs.length<=sizeLine/\∀p,H p=none->Q (.ref p) (upd H p (.lst (xs++zs)))
theorem op_catR:OpR X (binaryOp .Add) xZ:=by
 intro pins s Z H x y v u Q I rx ry h
 obtain⟨l,b,xs,zs,rfl,rfl,hH,hB,hz,q⟩:=h
 cases rx
 cases ry
 obtain⟨z,its,n,r,hl,e⟩:=I.lstR hH
 obtain⟨z2,its2,n2,r2,hl2,e2⟩:=I.lstR hB
 refine PySem.P.add_list e e2 ?_ (by rw[DT,DT];omega)
 have ea:its.toArray++its2.toArray=(its++its2).toArray:=by simp
 rw[ea]
 exact⟨.ref _,_,I.lnew (t':=s.toks) (r.append r2) (by rw[D8];omega),rfl,q _ I.fresh⟩
def tP (K:yF):R2:=λx y H Q=>∃a b ys,x=.ref a/\y=.ref b/\SqT K H a []/\SqT K H b ys/\Q (.ref b) H
theorem so:OpR X (binaryOp .Add) (tP X.K):=by
 intro pins s Z H x y v u Q I rx ry h
 obtain⟨a,b,ys,rfl,rfl,ha,hb,q⟩:=h
 cases rx
 cases ry
 obtain⟨its,r1,p1,_⟩:=I.tuple ha
 obtain⟨its2,r2,p2,_⟩:=I.tuple hb
 have hv:its=[]:=r1.nil_iff.mpr rfl
 subst hv
 obtain⟨⟨cls,dd,data,sl⟩,ho,hc,n,hd⟩:=id p1
 obtain⟨⟨cls2,dd2,data2,sl2⟩,ho2,hc2,n2,hd2⟩:=id p2
 simp only at hc hd hc2 hd2
 subst hc hd hc2 hd2
 exact concat_meets ⟨_,ho,rfl⟩ ⟨_,ho2,rfl⟩ noFill_tuple_add seq_tuple_add PySem.F.slot_tuple_add PySem.F.entry_tuple_add (PySem.F.args_tuple_add_2 _ _)
   (tuple_addW0 a b #[] its2.toArray n n2 dd dd2 sl sl2 rfl) ⟨ho,ho2,⟨.ref b,H,I,rfl,q⟩⟩
def tO (K:yF):R2:=λx y H Q=>xY K x y H Q∨(xZ x y H Q∨tP K x y H Q)
theorem vN:OpR X (binaryOp .Add) (tO X.K):=op_addX.or (op_catR.or so)
def ye:R2:=λx y H Q=>∃l k xs,x=.ref l/\y=.int k/\Rd H l (.lst xs)/\-(2^63)<=k/\k<2^63/\xs.length*k.toNat<=sizeLine/\∀p,H p=none->Q (.ref p) (upd H p (.lst (DV k.toNat xs).flatten))
theorem vQ:OpR X (binaryOp .Mult) ye:=by
 intro pins s Z H x y v u Q I rx ry h
 obtain⟨l,k,xs,rfl,rfl,hH,h1,h2,hz,q⟩:=h
 cases rx
 obtain⟨t,rfl⟩:=ry
 obtain⟨z,its,n,r,hl,e⟩:=I.lstR hH
 have hlen:its.toArray.size*k.toNat<=sizeLine:=by rw[DT,←hl];exact hz
 have hcap:¬ its.toArray.size*k.toNat>(2^63-1) / 8:=by
  have:(sizeLine:Nat)<=(2^63-1) / 8:=by decide
  omega
 have hfit:¬ (!Builtin.List.listFitsIndex k)=true:=by
  rw[fitsIndex_both h1 h2]
  exact D0
 have hlong:¬ Builtin.List.listTooLong (its.toArray.size*k.toNat)=true:=by
  rw[dn hlen]
  exact D0
 have hnew:Gp (λx1 x2=>x1++x2) #[] (DV (if its.toArray.isEmpty=true then 0 else k.toNat) its.toArray)=(DV k.toNat its).flatten.toArray:=by
  have f0:∀m:Nat,Gp (λx1 x2=>x1++x2) #[] (DV m its.toArray)=(DV m its).flatten.toArray:=λm=>by
   have:=dY its m []
   rw[EK]at this
   exact this
  rw[f0]
  cases its with
  | nil=>simp
  | cons a r'=>rw[if_neg (by simp)]
 refine wpAny_binaryOp_repeat_ref (T:="list") (U:="int") (by decide) ⟨_,e,rfl⟩ (λs'=>typeIs_int s' k t) noFill_list_mul F.fills_int_mul F.slot_int_rmul repeat_list F.slot_int_index.lookup
  (call_meets F.slot_int_rmul (typeIs_int s k t) F.entry_int_rmul (F.args_int_rmul_2 _ _) (int___rmul___int_list k t l its.toArray n)
   ⟨e,rfl,⟨_,e,rfl⟩,call_meets F.slot_list_mul ⟨_,e,rfl⟩ F.entry_list_mul (F.args_list_mul_2 _ _) (AutoListH.list___mul___list_int_3 l its.toArray n k t hfit hcap hlong) ⟨e,?_⟩⟩)
 rw[hnew]
 exact⟨.ref _,_,I.lnew (t':=s.toks) (r.rep k.toNat) (by rw[gK,G5];exact hz),rfl,q _ I.fresh⟩
def tU (K:yF):R2:=λx y H Q=>yd K x y H Q∨ye x y H Q
theorem vP:OpR X (binaryOp .Mult) (tU X.K):=op_mulX.or vQ
def mF:V->List V->Hp->VK->Prop:=λx vs H Q=>∃l b xs zs,x=.ref l/\vs=[.ref b]/\H l=some (.lst xs)/\Rd H b (.lst zs)/\xs.length+zs.length<=sizeLine/\Q .non (upd H l (.lst (xs++zs)))
theorem nB:MtM X "list.extend" mF:=by
 intro pins s Z H x vs v us Q I rx rv h
 obtain⟨l,b,xs,zs,rfl,rfl,hH,hB,hz,q⟩:=h
 cases rx
 obtain⟨u,rfl,ru⟩:=rv.one
 cases ru
 obtain⟨z,its,n,r,hl,e⟩:=I.lstM hH
 obtain⟨z2,its2,n2,r2,hl2,e2⟩:=I.lstR hB
 have hsz:its.toArray.size+its2.toArray.size<=sizeLine:=by rw[DT,DT];omega
 have hlong:¬ (!its.toArray.isEmpty&&Builtin.List.listTooLong (its.toArray.size+its2.toArray.size))=true:=by
  rw[dn hsz,GG]
  exact D0
 refine call_meets F.slot_list_extend ⟨_,e,rfl⟩ F.entry_list_extend (F.args_list_extend_2 _ _)
  (AutoSeq1.list_extend_list_list_0 l its.toArray n b its2.toArray n2 hlong (by rw[DT];omega) (by omega)) ⟨e,e2,?_⟩
 refine⟨.non,_,I.lset (its':=its++its2) hH e (by simp) (r.append r2) ?_,rfl,q⟩
 rw[D8]
 omega
def tQ (K:yF):V->List V->Hp->VK->Prop:=λx xs H Q=>mF x xs H Q∨mH K x xs H Q
theorem vH:MtR X "list.extend" (tQ X.K):=MtR.or nB nC
end
def Rpx (K:yF)(H:Hp)(t:T)(v:V):Prop:=∃F,Rp K H t v F
def New (K:yF)(H H':Hp)(t:T)(v:V):Prop:=Same H H'/\∃F,Rp K H' t v F/\F.Nodup/\∀a∈F,H a=none/\Mu H' a
section
variable  {K:yF}{H H':Hp}{Γ:Gm}{ρ:Rho}{Z:St}{E:List En}{t:T}{v x y:V}{Q:VK}
theorem Sim.fresh (S:Sim Γ H ρ Z E)(n:New Γ.K H H' t v):Sim Γ H' ρ Z (⟨none,v,⟨.ow,t⟩⟩::E):=by
 obtain⟨sm,F,h1,h2,h3⟩:=n
 obtain⟨F0,r0,_,_,k⟩:=Sim.use (vs:=[]) (ts:=[]) S rfl
 have:=r0.nil_inv.2
 subst this
 exact k H' v t F (sm.offM _) (by simp) h2 (λa ha=>⟨.inr (h3 a ha).1,(h3 a ha).2⟩) h1
theorem New.im {i:I}(h:RpI K H i v):New K H H (.im i) v:=⟨Same.refl H,[],ga h,Fi,by simp⟩
theorem New.sc {i:I}(h:i.sc=some v):New K H H (.im i) v:=.im (iO h)
theorem New.tup {is:List I}{xs:List V}{p:Addr}(hp:H p=none)(h:RpIs K H is xs):New K H (upd H p (.tup xs)) (.im (.tup is)) (.ref p):=by
 refine⟨Same.laid hp,[],ga ?_,Fi,by simp⟩
 rw[RpI]
 exact⟨p,xs,rfl,SqT.of ax,h.same (Same.laid hp)⟩
theorem New.li {is:List I}{xs:List V}{p:Addr}(hp:H p=none)(h:RpIs K H is xs):New K H (upd H p (.lst xs)) (.li is) (.ref p):=by
 refine⟨Same.laid hp,[p],?_,by simp,λa ha=>?_⟩
 ·rw[Rp];exact⟨p,xs,rfl,.inl ax,h.same (Same.laid hp),rfl⟩
 ·rw[ysM ha];exact⟨hp,_,ax,rfl⟩
theorem ci {i:I}(h:Rpx K H (.im i) v):RpI K H i v:=by obtain⟨F,h⟩:=h;exact(ba h).1
theorem aK {n:Int}(h:Rpx K H (.im (.int n)) v):v=.int n:=by have:=ci h;rw[RpI]at this;exact this
theorem cJ {n:Str}(h:Rpx K H (.im (.str n)) v):v=.str n:=by have:=ci h;rw[RpI]at this;exact this
theorem kA {n:Bool}(h:Rpx K H (.im (.bl n)) v):v=.bl n:=by have:=ci h;rw[RpI]at this;exact this
theorem AM (h:Rpx K H (.im .non) v):v=.non:=by have:=ci h;rw[RpI]at this;exact this
theorem bG {is:List I}(h:Rpx K H (.im (.tup is)) v):∃a xs,v=.ref a/\SqT K H a xs/\RpIs K H is xs:=by have:=ci h;rw[RpI]at this;exact this
theorem bQ {is:List I}(h:Rpx K H (.li is) v):∃a xs,v=.ref a/\Rd H a (.lst xs)/\RpIs K H is xs:=by
 obtain⟨F,h⟩:=h;rw[Rp]at h;obtain⟨a,xs,h1,h2,h3,_⟩:=h;exact⟨a,xs,h1,h2,h3⟩
theorem yj {is:List I}(h:Rpx K H (.im (.ls is)) v):∃a xs,v=.ref a/\Rd H a (.lst xs)/\RpIs K H is xs:=by
 have:=ci h;rw[RpI]at this;obtain⟨a,o,xs,h1,h2,h3⟩:=this;exact⟨a,xs,h1,.inr ⟨o,h2⟩,h3⟩
theorem fA {ts:List T}(h:Rpx K H (.lst ts) v):∃a xs F,v=.ref a/\Rd H a (.lst xs)/\Rps K H ts xs F:=by
 obtain⟨F,h⟩:=h;rw[Rp]at h;obtain⟨a,xs,F',h1,h2,h3,_⟩:=h;exact⟨a,xs,F',h1,h2,h3⟩
theorem aM {a:Addr}{xs:List V}(h:Rd H a (.lst xs)):SqL K H a xs:=.inl h
def xJ (K:yF)(red:V->Hp->VK->Prop)(f:T->Option T):Prop:=∀(H:Hp) (x:V) (tx t:T) (Q:VK),Rpx K H tx x->f tx=some t->(∀v H',New K H H' t v->Q v H')->red x H Q
def cM (K:yF)(red:R2)(f:T->T->Option T):Prop:=∀(H:Hp) (x y:V) (tx ty t:T) (Q:VK),Rpx K H tx x->Rpx K H ty y->f tx ty=some t->(∀v H',New K H H' t v->Q v H')->red x y H Q
def Rpxs (K:yF)(H:Hp):List T->List V->Prop
 | [],vs=>vs=[]
 | t::ts,vs=>∃v r,vs=v::r/\Rpx K H t v/\Rpxs K H ts r
def dR (K:yF)(red:List V->Hp->VK->Prop)(f:List T->Option T):Prop:=∀(H:Hp) (vs:List V) (ts:List T) (t:T) (Q:VK),Rpxs K H ts vs->f ts=some t->(∀v H',New K H H' t v->Q v H')->red vs H Q
@[irreducible] noncomputable def mOp (f:T->T->Option T)(a b:ME):ME:=⟨λρ=>match a.run ρ with
 | some (ra,ρ1)=>match b.run ρ1 with
  | some (rb,ρ2)=>if aC b.mu ra=true then(match f ra.t rb.t with
   | some t=>some (⟨.ow,t⟩,ρ2)
   | none=>none)else none
  | none=>none
 | none=>none,a.mu++b.mu⟩
theorem jB {red:R2}{f:T->T->Option T}{ta tb:TE}{a b:ME}(hp:cM K red f)(ha:aP K ta a)(hb:aP K tb b):aP K (tOp red ta tb) (mOp f a b):=by with_unfolding_all
 intro Γ H ρ Z E Q r ρ' hK hr S q
 simp only[mOp]at hr
 split at hr
 ·rename_i ra ρ1 e1
  split at hr
  ·rename_i rb ρ2 e2
   split at hr
   ·rename_i al
    split at hr
    ·rename_i t e3
     cases hr
     refine ha Γ H ρ Z E _ ra ρ1 hK e1 S λx H1 S1=>?_
     refine hb Γ H1 ρ1 Z _ _ rb _ hK e2 S1 λy H2 S2=>?_
     rw[ar (bv al),af]at S2
     have r1:=S2.rd (ymC _ ymS)
     have r2:=S2.rd ymS
     rw[hK]at r1 r2
     refine hp H2 x y ra.t rb.t t Q r1 r2 e3 λv H3 n=>q v H3 ?_
     rw[←hK]at n
     exact((S2.drop rfl).drop rfl).fresh n
    ·cases hr
   ·cases hr
  ·cases hr
 ·cases hr
@[irreducible] noncomputable def mUn (f:T->Option T)(a:ME):ME:=⟨λρ=>match a.run ρ with
 | some (ra,ρ1)=>(match f ra.t with
  | some t=>some (⟨.ow,t⟩,ρ1)
  | none=>none)
 | none=>none,a.mu⟩
theorem AK {red:V->Hp->VK->Prop}{f:T->Option T}{ta:TE}{a:ME}(hp:xJ K red f)(ha:aP K ta a):aP K (tUn red ta) (mUn f a):=by with_unfolding_all
 intro Γ H ρ Z E Q r ρ' hK hr S q
 simp only[mUn]at hr
 split at hr
 ·rename_i ra ρ1 e1
  split at hr
  ·rename_i t e3
   cases hr
   refine ha Γ H ρ Z E _ ra _ hK e1 S λx H1 S1=>?_
   have r1:=S1.rd ymS
   rw[hK]at r1
   refine hp H1 x ra.t t Q r1 e3 λv H3 n=>q v H3 ?_
   rw[←hK]at n
   exact(S1.drop rfl).fresh n
  ·cases hr
 ·cases hr
theorem Sim.rds:∀{vs:List V} {rs:List R} {E:List En},Sim Γ H ρ Z (ens vs rs++E)->vs.length=rs.length->Rpxs Γ.K H (rs.map (·.t)) vs
 | [],[],E,S,_=>rfl
 | v::vs,r::rs,E,S,h=>by
  rw[ens,Ej]at S
  exact⟨v,vs,rfl,S.rd ymS,Sim.rds (S.drop rfl) (by simpa using h)⟩
 | [],_::_,_,_,h=>by cases h
 | _::_,[],_,_,h=>by cases h
theorem Sim.drops:∀{vs:List V} {rs:List R} {E:List En},Sim Γ H ρ Z (ens vs rs++E)->Sim Γ H ρ Z E
 | [],rs,E,S=>by cases rs<;>exact S
 | v::vs,[],E,S=>S
 | v::vs,r::rs,E,S=>by
  rw[ens,Ej]at S
  exact Sim.drops (S.drop rfl)
@[irreducible] noncomputable def mB (f:List T->Option T)(a:MA):ME:=⟨λρ=>match a.run ρ with
 | some (rs,ρ1)=>(match f (rs.map (·.t))with
  | some t=>some (⟨.ow,t⟩,ρ1)
  | none=>none)
 | none=>none,a.mu⟩
theorem o4 {red:List V->Hp->VK->Prop}{f:List T->Option T}{ta:TA}{a:MA}(hp:dR K red f)(ha:fe K ta a):aP K (tCB red ta) (mB f a):=by with_unfolding_all
 intro Γ H ρ Z E Q r ρ' hK hr S q
 simp only[mB]at hr
 split at hr
 ·rename_i rs ρ1 e1
  split at hr
  ·rename_i t e3
   cases hr
   refine ha Γ H ρ Z E _ rs _ hK e1 S λvs H1 hl S1=>?_
   have r1:=S1.rds hl
   rw[hK]at r1
   refine hp H1 vs _ t Q r1 e3 λv H3 n=>q v H3 ?_
   rw[←hK]at n
   exact S1.drops.fresh n
  ·cases hr
 ·cases hr
@[irreducible] noncomputable def mM (f:T->List T->Option T)(o:ME)(a:MA):ME:=⟨λρ=>match o.run ρ with
 | some (r,ρ0)=>match a.run ρ0 with
  | some (rs,ρ1)=>if aC a.mu r=true then(match f r.t (rs.map (·.t))with
   | some t=>some (⟨.ow,t⟩,ρ1)
   | none=>none)else none
  | none=>none
 | none=>none,o.mu++a.mu⟩
def rf (K:yF)(T0:String)(red:V->List V->Hp->VK->Prop)(f:T->List T->Option T):Prop:=∀(H:Hp) (x:V) (vs:List V) (tx:T) (ts:List T) (t:T) (Q:VK),Rpx K H tx x->Rpxs K H ts vs->f tx ts=some t->(∀v H',New K H H' t v->Q v H')->red x vs H Q
theorem CQ {T0:String}{red:V->List V->Hp->VK->Prop}{f:T->List T->Option T}{to:TE}{ta:TA}{o:ME}{a:MA}(hp:rf K T0 red f)(hty:∀(H:Hp) (x:V) (tx:T) ts t,Rpx K H tx x->f tx ts=some t->tyV K T0 x H)(ho:aP K to o)(ha:fe K ta a):aP K (tBM K T0 red to ta) (mM f o a):=by with_unfolding_all
 intro Γ H ρ Z E Q r ρ' hK hr S q
 simp only[mM]at hr
 split at hr
 ·rename_i r0 ρ0 e0
  split at hr
  ·rename_i rs ρ1 e1
   split at hr
   ·rename_i al
    split at hr
    ·rename_i t e3
     cases hr
     refine ho Γ H ρ Z E _ r0 _ hK e0 S λx H1 S1=>?_
     have r0':=S1.rd ymS
     rw[hK]at r0'
     refine⟨hty H1 x _ _ _ r0' e3,?_⟩
     refine ha Γ H1 ρ0 Z _ _ rs _ hK e1 S1 λvs H2 hl S2=>?_
     rw[ar (bv al),af]at S2
     have r1:=S2.rds hl
     have S3:=S2.drops
     have r2:=S3.rd ymS
     rw[hK]at r1 r2
     refine hp H2 x vs _ _ t Q r2 r1 e3 λv H3 n=>q v H3 ?_
     rw[←hK]at n
     exact(S3.drop rfl).fresh n
    ·cases hr
   ·cases hr
  ·cases hr
 ·cases hr
@[irreducible] noncomputable def aY (a:ME):MT:=⟨λρ=>match a.run ρ with
 | some (⟨_,.im (.bl b)⟩,ρ1)=>some (b,ρ1)
 | _=>none,a.mu⟩
theorem mK {ta:TE}{a:ME}(ha:aP K ta a):ff K (yt ta) (aY a):=by with_unfolding_all
 intro Γ H ρ Z E Q b ρ' hK hr S q
 simp only[aY]at hr
 split at hr
 ·rename_i k b0 ρ1 e1
  cases hr
  refine ha Γ H ρ Z E _ _ _ hK e1 S λx H1 S1=>⟨b,?_,q H1 (S1.drop rfl)⟩
  have r1:=S1.rd ymS
  exact kA r1
 ·cases hr
theorem AJ {ta:TE}{a:ME}(ha:aP K ta a):ff K (tB ta) (aY a):=mK ha
noncomputable def tru:T->Option Bool
 | .im .non=>some false
 | .im (.bl b)=>some b
 | .im (.int i)=>some (i != 0)
 | .im (.str x)=>if x.length<=sizeLine then some ((x.length:Int) != 0)else none
 | .im (.tup is)=>some (!is.isEmpty)
 | .li is=>some (!is.isEmpty)
 | .lst ts=>some (!ts.isEmpty)
 | .tup ts=>some (!ts.isEmpty)
 | _=>none
@[irreducible] noncomputable def p7 (a:ME):MT:=⟨λρ=>match a.run ρ with
 | some (r,ρ1)=>(match tru r.t with
  | some b=>some (b,ρ1)
  | none=>none)
 | none=>none,a.mu⟩
theorem fK {α β:Type}{l:List α}{m:List β}(h:l.length=m.length):l.isEmpty=m.isEmpty:=by
 cases l<;>cases m<;>first|rfl|cases h
theorem tru_ok' {b:Bool}(h:tru t=some b)(r:Rpx K H t v):u9 K v H b:=by
 cases t with
 | im i=>
  cases i with
  | non=>rw[AM r];cases h;rfl
  | bl x=>rw[kA r];cases h;rfl
  | int x=>rw[aK r];cases h;rfl
  | str x=>
   rw[cJ r]
   simp only[tru]at h
   split at h
   ·cases h;exact⟨by assumption,rfl⟩
   ·cases h
  | tup is=>
   obtain⟨a,xs,rfl,h1,h2⟩:=bG r
   cases h
   exact .inr (.inl ⟨xs,h1,by rw[fK h2.length]⟩)
  | ls is=>cases h
  | fd _ _=>cases h
 | li is=>
  obtain⟨a,xs,rfl,h1,h2⟩:=bQ r
  cases h
  exact .inl ⟨xs,aM h1,by rw[fK h2.length]⟩
 | lst is=>
  obtain⟨a,xs,F,rfl,h1,h2⟩:=fA r
  cases h
  exact .inl ⟨xs,aM h1,by rw[fK h2.length]⟩
 | tup ts=>
  obtain⟨F,r⟩:=r
  rw[Rp]at r
  obtain⟨a,xs,rfl,h1,h2⟩:=r
  cases h
  exact .inr (.inl ⟨xs,h1,by rw[fK h2.length]⟩)
 | di _=>cases h
 | dc _=>cases h
 | ins _ _=>cases h
theorem xc {ta:TE}{a:ME}(ha:aP K ta a):ff K (C5 K ta) (p7 a):=by with_unfolding_all
 intro Γ H ρ Z E Q b ρ' hK hr S q
 simp only[p7]at hr
 split at hr
 ·rename_i r ρ1 e1
  split at hr
  ·rename_i b0 e2
   cases hr
   refine ha Γ H ρ Z E _ _ _ hK e1 S λx H1 S1=>⟨b,?_,q H1 (S1.drop rfl)⟩
   have r1:=S1.rd ymS
   rw[hK]at r1
   exact tru_ok' e2 r1
  ·cases hr
 ·cases hr
@[irreducible] noncomputable def l7 (a b:MT):MT:=⟨λρ=>match a.run ρ with
 | some (true,ρ1)=>b.run ρ1
 | some (false,ρ1)=>some (false,ρ1)
 | none=>none,a.mu++b.mu⟩
@[irreducible] noncomputable def pZ (a:MT):MT:=⟨λρ=>match a.run ρ with
 | some (b,ρ1)=>some (!b,ρ1)
 | none=>none,a.mu⟩
theorem wQ {ta tb:TT}{a b:MT}(ha:ff K ta a)(hb:ff K tb b):ff K (CU ta tb) (l7 a b):=by
 intro Γ H ρ Z E Q c ρ' hK hr S q
 simp only[l7]at hr q
 split at hr
 ·rename_i ρ1 e1
  refine ha Γ H ρ Z E _ _ _ hK e1 S λH1 S1=>rV ?_
  exact hb Γ H1 ρ1 Z _ _ _ _ hK hr S1 λH2 S2=>q H2 (by rw[←af];exact S2)
 ·rename_i ρ1 e1
  cases hr
  exact ha Γ H ρ Z E _ _ _ hK e1 S λH1 S1=>rT (q H1 (by rw[←af];exact S1.weak _))
 ·cases hr
theorem wX {ta:TT}{a:MT}(ha:ff K ta a):ff K (C1 ta) (pZ a):=by
 intro Γ H ρ Z E Q c ρ' hK hr S q
 simp only[pZ]at hr q
 split at hr
 ·rename_i b ρ1 e1
  cases hr
  exact ha Γ H ρ Z E _ _ _ hK e1 S λH1 S1=>q H1 S1
 ·cases hr
@[irreducible] noncomputable def iJ (a b:ME):ME:=⟨λρ=>match a.run ρ with
 | some (⟨_,.im (.bl true)⟩,ρ1)=>b.run ρ1
 | some (⟨_,.im (.bl false)⟩,ρ1)=>some (⟨.ow,.im (.bl false)⟩,ρ1)
 | _=>none,a.mu++b.mu⟩
@[irreducible] noncomputable def kh (a:ME):ME:=⟨λρ=>match a.run ρ with
 | some (⟨_,.im (.bl b)⟩,ρ1)=>some (⟨.ow,.im (.bl !b)⟩,ρ1)
 | _=>none,a.mu⟩
theorem t3 {ta tb:TE}{a b:ME}(ha:aP K ta a)(hb:aP K tb b):aP K (ym ta tb) (iJ a b):=by
 intro Γ H ρ Z E Q c ρ' hK hr S q
 simp only[iJ]at hr q
 split at hr
 ·rename_i k ρ1 e1
  refine ha Γ H ρ Z E _ _ _ hK e1 S λx H1 S1=>⟨true,kA (S1.rd ymS),rV ?_⟩
  exact hb Γ H1 ρ1 Z _ _ _ _ hK hr (S1.drop rfl) λv H2 S2=>q v H2 (by rw[←af];exact S2)
 ·rename_i k ρ1 e1
  cases hr
  refine ha Γ H ρ Z E _ _ _ hK e1 S λx H1 S1=>⟨false,kA (S1.rd ymS),rT (q _ H1 ?_)⟩
  rw[←af]
  exact((S1.drop rfl).weak _).imm (iO rfl)
 ·cases hr
theorem uj {ta:TE}{a:ME}(ha:aP K ta a):aP K (yr ta) (kh a):=by
 intro Γ H ρ Z E Q c ρ' hK hr S q
 simp only[kh]at hr q
 split at hr
 ·rename_i k b ρ1 e1
  cases hr
  exact ha Γ H ρ Z E _ _ _ hK e1 S λx H1 S1=>⟨b,kA (S1.rd ymS),q _ H1 ((S1.drop rfl).imm (iO rfl))⟩
 ·cases hr
end
mutual
noncomputable def I.dok:I->Bool
 | .int _=>true|.str _=>true|.tup is=>I.doks is|_=>false
noncomputable def I.doks:List I->Bool
 | []=>true
 | i::is=>i.dok&&I.doks is
end
mutual
noncomputable def I.toD:I->D
 | .int i=>.int i|.str x=>.str x|.tup is=>.tup (I.toDs is)|_=>.int 0
noncomputable def I.toDs:List I->List D
 | []=>[]
 | i::is=>i.toD::I.toDs is
end
mutual
noncomputable def I.dep:I->Nat
 | .tup is=>I.deps is+1|_=>0
noncomputable def I.deps:List I->Nat
 | []=>0
 | i::is=>max i.dep (I.deps is)
end
mutual
theorem yC:∀(i:I),i.toD.depth=i.dep
 | .non=>rfl|.bl _=>rfl|.int _=>rfl|.str _=>rfl|.ls _=>rfl|.fd _ _=>rfl
 | .tup is=>by rw[I.toD,D.depth,I.dep,fJ is]
theorem fJ:∀(is:List I),aH (I.toDs is)=I.deps is
 | []=>rfl
 | i::is=>by rw[I.toDs,aH,I.deps,yC i,fJ is]
end
mutual
theorem pf:∀{a b:I},a.dok=true->b.dok=true->(a.toD=b.toD↔a=b)
 | .non,_,h,_=>by simp[I.dok]at h
 | .bl _,_,h,_=>by simp[I.dok]at h
 | .ls _,_,h,_=>by simp[I.dok]at h
 | .fd _ _,_,h,_=>by simp[I.dok]at h
 | .int x,b,_,h=>by cases b<;>simp[I.dok]at h<;>simp[I.toD]
 | .str x,b,_,h=>by cases b<;>simp[I.dok]at h<;>simp[I.toD]
 | .tup x,b,h1,h=>by
  cases b with
  | tup y=>
   rw[I.dok]at h h1
   rw[I.toD,I.toD,D.tup.injEq,I.tup.injEq]
   exact gZ h1 h
  | non=>simp[I.dok]at h
  | bl _=>simp[I.dok]at h
  | ls _=>simp[I.dok]at h
  | fd _ _=>simp[I.dok]at h
  | int _=>simp[I.toD]
  | str _=>simp[I.toD]
theorem gZ:∀{a b:List I},I.doks a=true->I.doks b=true->(I.toDs a=I.toDs b↔a=b)
 | [],b,_,_=>by cases b<;>simp[I.toDs]
 | x::xs,b,h1,h=>by
  cases b with
  | nil=>simp[I.toDs]
  | cons y ys=>
   rw[I.doks,DU]at h h1
   rw[I.toDs,I.toDs,ES.injEq,ES.injEq,pf h1.1 h.1,gZ h1.2 h.2]
end
section
variable  {K:yF}{H:Hp}
mutual
theorem jC:∀{i:I} {v:V},i.dok=true->RpI K H i v->Rep K H i.toD v
 | .non,_,h,_=>by simp[I.dok]at h
 | .bl _,_,h,_=>by simp[I.dok]at h
 | .ls _,_,h,_=>by simp[I.dok]at h
 | .fd _ _,_,h,_=>by simp[I.dok]at h
 | .int _,_,_,r=>by rw[RpI]at r;rw[I.toD,Rep];exact r
 | .str _,_,_,r=>by rw[RpI]at r;rw[I.toD,Rep];exact r
 | .tup is,_,h,r=>by
  rw[RpI]at r;rw[I.dok]at h
  obtain⟨a,xs,h1,h2,h3⟩:=r
  rw[I.toD,Rep]
  exact⟨a,xs,h1,h2,f6 h h3⟩
theorem f6:∀{is:List I} {vs:List V},I.doks is=true->RpIs K H is vs->Reps K H (I.toDs is) vs
 | [],_,_,r=>by rw[RpIs]at r;rw[I.toDs,Reps];exact r
 | i::is,_,h,r=>by
  rw[RpIs]at r;rw[I.doks,DU]at h
  obtain⟨x,xs,h1,h2,h3⟩:=r
  rw[I.toDs,Reps]
  exact⟨x,xs,h1,jC h.1 h2,f6 h.2 h3⟩
end
theorem jm {i:I}:∀{is:List I},i.dok=true->I.doks is=true->(i.toD∈I.toDs is↔i∈is)
 | [],_,_=>by simp[I.toDs]
 | x::xs,h,hs=>by
  rw[I.doks,DU]at hs
  rw[I.toDs,Er,Er,pf h hs.1,jm h hs.2]
noncomputable def isI:T->Option Int
 | .im i=>(match i with|.int a=>some a|_=>none)
 | _=>none
noncomputable def isS:T->Option Str
 | .im i=>(match i with|.str a=>some a|_=>none)
 | _=>none
noncomputable def yR:T->Option (List I)
 | .im i=>(match i with|.tup a=>some a|_=>none)
 | _=>none
noncomputable def rS:T->Option (List I)
 | .li a=>some a
 | _=>none
theorem cR {t:T}{a:Int}(h:isI t=some a):t=.im (.int a):=by
 cases t with
 | im i=>cases i<;>cases h;rfl
 | _=>cases h
theorem vx {t:T}{a:Str}(h:isS t=some a):t=.im (.str a):=by
 cases t with
 | im i=>cases i<;>cases h;rfl
 | _=>cases h
theorem lZ {t:T}{a:List I}(h:yR t=some a):t=.im (.tup a):=by
 cases t with
 | im i=>cases i<;>cases h;rfl
 | _=>cases h
theorem dZ {t:T}{a:List I}(h:rS t=some a):t=.li a:=by
 cases t with
 | li i=>cases h;rfl
 | _=>cases h
noncomputable def i2 (g:Int->Int->Option T) (x y:T):Option T:=match isI x with
 | some a=>(match isI y with
  | some b=>g a b
  | none=>none)
 | none=>none
theorem gk {g:Int->Int->Option T}{x y t:T}(h:i2 g x y=some t):∃a b,x=.im (.int a)/\y=.im (.int b)/\g a b=some t:=by
 unfold i2 at h
 split at h
 ·rename_i a ea
  split at h
  ·rename_i b eb
   exact⟨a,b,cR ea,cR eb,h⟩
  ·cases h
 ·cases h
theorem aJ {α:Type}{c:Prop}[Decidable c]{t u : α}(h:(if c then some t else none)=some u):c/\t=u:=by
 by_cases hc:c
 ·rw[if_pos hc]at h;exact⟨hc,Em.inj h⟩
 ·rw[if_neg hc]at h;cases h
noncomputable def Bs (i:I) (y:T):Option T:=match i with
 | .int a=>(match isI y with|some b=>some (.im (.int (a+b)))|none=>none)
 | .str a=>(match isS y with|some b=>if a.length+b.length<=sizeLine then some (.im (.str (a++b)))else none|none=>none)
 | .tup a=>(match yR y with|some b=>if a.length+b.length<=sizeLine then some (.im (.tup (a++b)))else none|none=>none)
 | _=>none
@[irreducible] noncomputable def bd (x y:T):Option T:=match x with
 | .im i=>Bs i y
 | .li a=>(match rS y with|some b=>if a.length+b.length<=sizeLine then some (.li (a++b))else none|none=>none)
 | _=>none
theorem RpIs.nil_iff {is:List I}{xs:List V}(h:RpIs K H is xs):xs=[]↔is=[]:=by
 have:=h.length
 cases is<;>cases xs<;>first|(simp;done)|(cases this;done)
theorem sS:cM K (tO K) bd:=by
 intro H x y tx ty t Q rx ry e q
 unfold bd at e
 split at e
 ·rename_i i
  unfold Bs at e
  split at e
  ·split at e
   ·rename_i b eb
    cases cR eb
    cases e
    rw[aK rx,aK ry]
    exact .inl (.inl ⟨_,_,rfl,rfl,q _ H (.sc rfl)⟩)
   ·cases e
  ·split at e
   ·rename_i b eb
    cases vx eb
    obtain⟨hl,rfl⟩:=aJ e
    rw[cJ rx,cJ ry]
    exact .inl (.inr (.inl ⟨_,_,rfl,rfl,hl,q _ H (.sc rfl)⟩))
   ·cases e
  ·rename_i a
   split at e
   ·rename_i b eb
    cases lZ eb
    obtain⟨hl,rfl⟩:=aJ e
    obtain⟨p,xs,rfl,h1,h2⟩:=bG rx
    obtain⟨p',ys,rfl,g1,g2⟩:=bG ry
    by_cases ha:a=[]
    ·subst ha
     have:=h2.nil_inv
     subst this
     refine .inr (.inr ⟨p,p',ys,rfl,rfl,h1,g1,q _ H (.im ?_)⟩)
     rw[RpI];exact⟨p',ys,rfl,g1,g2⟩
    ·refine .inl (.inr (.inr (.inr ⟨p,p',xs,ys,rfl,rfl,h1,g1,λz=>ha (h2.nil_iff.mp z),by rw[h2.length,g2.length];exact hl,λz=>q _ H (.im ?_),λz p hp=>q _ _ (.tup hp (h2.append g2))⟩)))
     have:=g2.nil_iff.mp z
     subst this
     rw[El,RpI]
     exact⟨p,xs,rfl,h1,h2⟩
   ·cases e
  ·cases e
 ·split at e
  ·rename_i b eb
   cases dZ eb
   obtain⟨hl,rfl⟩:=aJ e
   obtain⟨p,xs,rfl,h1,h2⟩:=bQ rx
   obtain⟨p',ys,rfl,g1,g2⟩:=bQ ry
   exact .inr (.inl ⟨p,p',xs,ys,rfl,rfl,h1,g1,by rw[h2.length,g2.length];exact hl,λp hp=>q _ _ (.li hp (h2.append g2))⟩)
  ·cases e
 ·cases e
@[irreducible] noncomputable def bJ:T->T->Option T:=i2 λa b=>some (.im (.int (a-b)))
theorem tu:cM K (rI0 λi j=>.int (i-j)) bJ:=by
 intro H x y tx ty t Q rx ry e q
 unfold bJ at e
 obtain⟨a,b,rfl,rfl,e⟩:=gk e
 cases e
 rw[aK rx,aK ry]
 exact⟨_,_,rfl,rfl,q _ H (.sc rfl)⟩
noncomputable def iK (i j:Int):Bool:=(decide (-(2^64)<i)&&decide (i<2^64))||(decide (-(2^64)<j)&&decide (j<2^64))
theorem vK {i j:Int}(h:iK i j=true):CMul i j:=by
 unfold iK at h
 simp only[FS,DU,decide_eq_true_eq]at h
 exact h
noncomputable def BM (i:I) (b:Int):Option T:=match i with
 | .int a=>if iK a b=true then some (.im (.int (a*b)))else none
 | .str a=>if 1<=b/\b<=1000/\a.length<=1000 then some (.im (.str (oL (DV b.toNat (sL a)).flatten)))else none
 | .tup a=>if a≠[]/\a.length<=1000/\1<=b/\b<=1000 then some (.im (.tup (DV b.toNat a).flatten))else none
 | _=>none
@[irreducible] noncomputable def cX (x y:T):Option T:=match isI y with
 | some b=>(match x with
  | .im i=>BM i b
  | .li a=>if -(2^63)<=b/\b<2^63/\a.length*b.toNat<=sizeLine then some (.li (DV b.toNat a).flatten)else none
  | _=>none)
 | none=>none
theorem RpIs.reps {is:List I}{xs:List V}(h:RpIs K H is xs):∀n:Nat,RpIs K H (DV n is).flatten (DV n xs).flatten
 | 0=>.nil
 | n+1=>by
  rw[Ez,Ez,EX,EX]
  exact h.append (h.reps n)
theorem tj:cM K (tU K) cX:=by
 intro H x y tx ty t Q rx ry e q
 unfold cX at e
 split at e
 ·rename_i b eb
  cases cR eb
  split at e
  ·unfold BM at e
   split at e
   ·obtain⟨h,rfl⟩:=aJ e
    rw[aK rx,aK ry]
    exact .inl (.inl ⟨_,_,rfl,rfl,vK h,q _ H (.sc rfl)⟩)
   ·obtain⟨h,rfl⟩:=aJ e
    rw[cJ rx,aK ry]
    exact .inl (.inr (.inl ⟨_,_,rfl,rfl,h.1,h.2.1,h.2.2,q _ H (.sc rfl)⟩))
   ·rename_i a
    obtain⟨h,rfl⟩:=aJ e
    obtain⟨p,xs,rfl,h1,h2⟩:=bG rx
    rw[aK ry]
    refine .inl (.inr (.inr (.inr ⟨p,b,xs,rfl,rfl,h1,λz=>h.1 (h2.nil_iff.mp z),by rw[h2.length];exact h.2.1,h.2.2.1,h.2.2.2,λz=>q _ H (.im ?_),λz p hp=>q _ _ (.tup hp (h2.reps _))⟩)))
    subst z
    have e1:(DV (1:Int).toNat a).flatten=a:=by simp
    rw[e1,RpI]
    exact⟨p,xs,rfl,h1,h2⟩
   ·cases e
  ·obtain⟨h,rfl⟩:=aJ e
   obtain⟨p,xs,rfl,h1,h2⟩:=bQ rx
   rw[aK ry]
   exact .inr ⟨p,b,xs,rfl,rfl,h1,h.1,h.2.1,by rw[h2.length];exact h.2.2,λp hp=>q _ _ (.li hp (h2.reps _))⟩
  ·cases e
 ·cases e
@[irreducible] noncomputable def gF:T->T->Option T:=i2 λa b=>if 0<b/\b<2^64 then some (.im (.int (a / b)))else none
theorem qq:cM K (rI mX λi j=>.int (i / j)) gF:=by
 intro H x y tx ty t Q rx ry e q
 unfold gF at e
 obtain⟨a,b,rfl,rfl,e⟩:=gk e
 obtain⟨h,rfl⟩:=aJ e
 rw[aK rx,aK ry]
 exact⟨_,_,rfl,rfl,h,q _ H (.sc rfl)⟩
@[irreducible] noncomputable def fq:T->T->Option T:=i2 λa b=>if 0<b then some (.im (.int (a % b)))else none
theorem tf:cM K (rI (λ_ j=>0<j) λi j=>.int (i % j)) fq:=by
 intro H x y tx ty t Q rx ry e q
 unfold fq at e
 obtain⟨a,b,rfl,rfl,e⟩:=gk e
 obtain⟨h,rfl⟩:=aJ e
 rw[aK rx,aK ry]
 exact⟨_,_,rfl,rfl,h,q _ H (.sc rfl)⟩
@[irreducible] noncomputable def qj:T->T->Option T:=i2 λa b=>if 0<=b/\b<=1000000/\a.natAbs<2^64 then some (.im (.int (a^b.toNat)))else none
theorem tq:cM K (rI yv λi j=>.int (i^j.toNat)) qj:=by
 intro H x y tx ty t Q rx ry e q
 unfold qj at e
 obtain⟨a,b,rfl,rfl,e⟩:=gk e
 obtain⟨h,rfl⟩:=aJ e
 rw[aK rx,aK ry]
 exact⟨_,_,rfl,rfl,h,q _ H (.sc rfl)⟩
@[irreducible] noncomputable def ge (p:Int->Int->Bool):T->T->Option T:=i2 λa b=>some (.im (.bl (p a b)))
theorem ju {p:Int->Int->Bool}:cM K (rI0 λi j=>.bl (p i j)) (ge p):=by
 intro H x y tx ty t Q rx ry e q
 unfold ge at e
 obtain⟨a,b,rfl,rfl,e⟩:=gk e
 cases e
 rw[aK rx,aK ry]
 exact⟨_,_,rfl,rfl,q _ H (.sc rfl)⟩
noncomputable def yl (a b:I):Bool:=match a.sc with
 | some v=>(match b.sc with
  | some w=>uv v w
  | none=>false)
 | none=>false
noncomputable def ofV:V->I
 | .bl b=>.bl b
 | .int i=>.int i
 | .str x=>.str x
 | _=>.non
theorem xR {a:I}{v:V}(h:a.sc=some v):ofV v=a:=by cases a<;>cases h<;>rfl
noncomputable def eqI:I->I->Option Bool
 | .tup a,.tup b=>if I.doks a=true/\I.doks b=true/\I.deps a<=50 then some (decide (a=b))else none
 | a,b=>if yl a b=true then some (decide (a=b))else none
noncomputable def eqB:T->T->Option Bool
 | .im a,.im b=>eqI a b
 | .li a,.li b=>if I.doks a=true/\I.doks b=true/\I.deps a<=50 then some (decide (a=b))else none
 | _,_=>none
@[irreducible] noncomputable def eqT (x y:T):Option T:=(eqB x y).map λb=>.im (.bl b)
@[irreducible] noncomputable def neT (x y:T):Option T:=(eqB x y).map λb=>.im (.bl !b)
theorem yE {a b:I}{c:Bool}(h:eqI a b=some c):(∃x y,a=.tup x/\b=.tup y/\I.doks x=true/\I.doks y=true/\I.deps x<=50/\c=decide (x=y)) ∨ ∃v w,a.sc=some v/\b.sc=some w/\uv v w=true/\c=decide (v=w):=by
 unfold eqI at h
 split at h
 ·rename_i x y
  split at h
  ·rename_i hh;cases h;exact .inl ⟨x,y,rfl,rfl,hh.1,hh.2.1,hh.2.2,rfl⟩
  ·cases h
 ·split at h
  ·rename_i hh
   cases h
   right
   unfold yl at hh
   split at hh
   ·rename_i v ev
    split at hh
    ·rename_i w ew
     refine⟨v,w,ev,ew,hh,?_⟩
     have:(a=b)↔(v=w):=⟨λz=>Em.inj (ev.symm.trans ((congrArg I.sc z).trans ew)),λz=>by rw[←xR ev,←xR ew,z]⟩
     exact decide_eq_decide.mpr this
    ·cases hh
   ·cases hh
  ·cases h
theorem rF {x y:V}{tx ty:T}{b:Bool}{P:V->Prop}(rx:Rpx K H tx x)(ry:Rpx K H ty y)(e:eqB tx ty=some b) :
  (uv x y=true/\b=decide (x=y))∨(∃ds es,Rep K H (.tup ds) x/\Rep K H (.tup es) y/\aH ds<=50/\(b=true↔ds=es))∨(∃p q xs ys ds es,x=.ref p/\y=.ref q/\SqL K H p xs/\SqL K H q ys/\Reps K H ds xs/\Reps K H es ys/\aH ds<=50/\(b=true↔ds=es)):=by
 unfold eqB at e
 split at e
 ·rename_i a c
  rcases yE e with⟨x1,y1,rfl,rfl,h1,h2,h3,rfl⟩|⟨v,w,h1,h2,h3,rfl⟩
  ·refine .inr (.inl ⟨I.toDs x1,I.toDs y1,?_,?_,by rw[fJ];exact h3,?_⟩)
   ·have:=jC (i:=.tup x1) (by rw[I.dok];exact h1) (ci rx)
    rwa [I.toD]at this
   ·have:=jC (i:=.tup y1) (by rw[I.dok];exact h2) (ci ry)
    rwa [I.toD]at this
   ·rw[decide_eq_true_eq,gZ h1 h2]
  ·rw[yk h1 (ci rx),yk h2 (ci ry)]
   exact .inl ⟨h3,rfl⟩
 ·split at e
  ·rename_i a c h
   cases e
   obtain⟨p,xs,rfl,h1,h2⟩:=bQ rx
   obtain⟨p',ys,rfl,g1,g2⟩:=bQ ry
   exact .inr (.inr ⟨p,p',xs,ys,_,_,rfl,rfl,aM h1,aM g1,f6 h.1 h2,f6 h.2.1 g2,by rw[fJ];exact h.2.2,by rw[decide_eq_true_eq,gZ h.1 h.2.1]⟩)
  ·cases e
 ·cases e
theorem wn:cM K (Av K) eqT:=by
 intro H x y tx ty t Q rx ry e q
 unfold eqT at e
 cases h:eqB tx ty with
 | none=>rw[h]at e;cases e
 | some b=>
  rw[h]at e;cases e
  rcases rF (P:=λ_=>True) rx ry h with⟨h1,rfl⟩|⟨ds,es,h1,h2,h3,h4⟩|⟨p,p',xs,ys,ds,es,h1,h2,h3,h4,h5,h6,h7,h8⟩
  ·exact .inl ⟨h1,q _ H (.sc rfl)⟩
  ·refine .inr (.inl ⟨ds,es,h1,h2,h3,λc hc=>?_⟩)
   have:c=b:=by rw[EY,hc,h4]
   subst this
   exact q _ H (.sc rfl)
  ·refine .inr (.inr ⟨p,p',xs,ys,ds,es,h1,h2,h3,h4,h5,h6,h7,λc hc=>?_⟩)
   have:c=b:=by rw[EY,hc,h8]
   subst this
   exact q _ H (.sc rfl)
theorem wp:cM K (Ay K) neT:=by
 intro H x y tx ty t Q rx ry e q
 unfold neT at e
 cases h:eqB tx ty with
 | none=>rw[h]at e;cases e
 | some b=>
  rw[h]at e;cases e
  rcases rF (P:=λ_=>True) rx ry h with⟨h1,rfl⟩|⟨ds,es,h1,h2,h3,h4⟩|⟨p,p',xs,ys,ds,es,h1,h2,h3,h4,h5,h6,h7,h8⟩
  ·exact .inl ⟨h1,q _ H (.sc rfl)⟩
  ·refine .inr (.inl ⟨ds,es,h1,h2,h3,λc hc=>?_⟩)
   have:c = !b:=by cases b<;>cases c<;>simp_all
   subst this
   exact q _ H (.sc rfl)
  ·refine .inr (.inr ⟨p,p',xs,ys,ds,es,h1,h2,h3,h4,h5,h6,h7,λc hc=>?_⟩)
   have:c = !b:=by cases b<;>cases c<;>simp_all
   subst this
   exact q _ H (.sc rfl)
noncomputable def occ (i j:Str):Bool:=!(Builtin.Str.occurrences j i 0 j.length 1).isEmpty
noncomputable def inI (i:I) (y:T):Option Bool:=match y with
 | .im j=>(match j with
  | .str b=>(match i with
   | .str a=>some (occ a b)
   | _=>none)
  | .tup is=>if i.dok=true/\I.doks is=true/\I.deps is<=50 then some (decide (i∈is))else none
  | _=>none)
 | .li is=>if i.dok=true/\I.doks is=true/\I.deps is<=50 then some (decide (i∈is))else none
 | _=>none
noncomputable def inB (x y:T):Option Bool:=match x with
 | .im i=>inI i y
 | _=>none
@[irreducible] noncomputable def inT (x y:T):Option T:=(inB x y).map λb=>.im (.bl b)
@[irreducible] noncomputable def nD (x y:T):Option T:=(inB x y).map λb=>.im (.bl !b)
theorem rQ {x y:V}{tx ty:T}{b:Bool}(rx:Rpx K H tx x)(ry:Rpx K H ty y)(e:inB tx ty=some b) :
  (∃i j,x=.str i/\y=.str j/\b=occ i j)∨(∃p xs d ds,y=.ref p/\(SqL K H p xs∨SqT K H p xs)/\Rep K H d x/\Reps K H ds xs/\aH ds<=50/\(b=true↔d∈ds)):=by
 unfold inB at e
 split at e
 ·unfold inI at e
  split at e
  ·split at e
   ·split at e
    ·cases e;exact .inl ⟨_,_,cJ rx,cJ ry,rfl⟩
    ·cases e
   ·obtain⟨h,rfl⟩:=aJ e
    obtain⟨p,xs,rfl,h1,h2⟩:=bG ry
    exact .inr ⟨p,xs,_,_,rfl,.inr h1,jC h.1 (ci rx),f6 h.2.1 h2,by rw[fJ];exact h.2.2,by rw[decide_eq_true_eq,jm h.1 h.2.1]⟩
   ·cases e
  ·obtain⟨h,rfl⟩:=aJ e
   obtain⟨p,xs,rfl,h1,h2⟩:=bQ ry
   exact .inr ⟨p,xs,_,_,rfl,.inl (aM h1),jC h.1 (ci rx),f6 h.2.1 h2,by rw[fJ];exact h.2.2,by rw[decide_eq_true_eq,jm h.1 h.2.1]⟩
  ·cases e
 ·cases e
theorem wo:cM K (Aw K) inT:=by
 intro H x y tx ty t Q rx ry e q
 unfold inT at e
 cases h:inB tx ty with
 | none=>rw[h]at e;cases e
 | some b=>
  rw[h]at e;cases e
  rcases rQ rx ry h with⟨i,j,rfl,rfl,rfl⟩|⟨p,xs,d,ds,h1,h2,h3,h4,h5,h6⟩
  ·exact .inl ⟨i,j,rfl,rfl,q _ H (.sc rfl)⟩
  ·refine .inr (.inr ⟨p,xs,d,ds,h1,h2,h3,h4,h5,λc hc=>?_⟩)
   have:c=b:=by rw[EY,hc,h6];simp
   subst this
   exact q _ H (.sc rfl)
theorem tm:cM K (lr K) nD:=by
 intro H x y tx ty t Q rx ry e q
 unfold nD at e
 cases h:inB tx ty with
 | none=>rw[h]at e;cases e
 | some b=>
  rw[h]at e;cases e
  rcases rQ rx ry h with⟨i,j,rfl,rfl,rfl⟩|⟨p,xs,d,ds,h1,h2,h3,h4,h5,h6⟩
  ·exact .inl ⟨i,j,rfl,rfl,q _ H (.sc rfl)⟩
  ·refine .inr (.inr ⟨p,xs,d,ds,h1,h2,h3,h4,h5,λc hc=>?_⟩)
   have:c = !b:=by cases b<;>cases c<;>simp_all
   subst this
   exact q _ H (.sc rfl)
noncomputable def l1 {α:Type} (g:T->Option α) (ts:List T):Option α:=match ts with
 | []=>none
 | t::r=>(match r with
  | []=>g t
  | _::_=>none)
theorem bU {α:Type}{g:T->Option α}{ts:List T}{u : α}(h:l1 g ts=some u):∃t,ts=[t]/\g t=some u:=by
 cases ts with
 | nil=>cases h
 | cons t r=>cases r with
  | nil=>exact⟨t,rfl,h⟩
  | cons _ _=>cases h
noncomputable def l2 {α:Type} (g:T->T->Option α) (ts:List T):Option α:=match ts with
 | []=>none
 | t::r=>l1 (g t) r
theorem jj {α:Type}{g:T->T->Option α}{ts:List T}{u : α}(h:l2 g ts=some u):∃t s,ts=[t,s]/\g t s=some u:=by
 cases ts with
 | nil=>cases h
 | cons t r=>
  obtain⟨s,rfl,e⟩:=bU (show l1 (g t) r=some u from h)
  exact⟨t,s,rfl,e⟩
noncomputable def BK (i:I):Option T:=match i with
 | .str x=>if x.length<=sizeLine then some (.im (.int x.length))else none
 | .tup is=>some (.im (.int is.length))
 | _=>none
noncomputable def BJ (t:T):Option T:=match t with
 | .im i=>BK i
 | .li is=>some (.im (.int is.length))
 | .lst ts=>some (.im (.int ts.length))
 | .tup ts=>some (.im (.int ts.length))
 | _=>none
@[irreducible] noncomputable def cC:List T->Option T:=l1 BJ
theorem jD {t:T}{vs:List V}(h:Rpxs K H [t] vs):∃v,vs=[v]/\Rpx K H t v:=by
 obtain⟨v,r,rfl,h1,h2⟩:=h
 rw[Rpxs]at h2
 subst h2
 exact⟨v,rfl,h1⟩
theorem AN {t u:T}{vs:List V}(h:Rpxs K H [t,u] vs):∃v w,vs=[v,w]/\Rpx K H t v/\Rpx K H u w:=by
 obtain⟨v,r,rfl,h1,h2⟩:=h
 obtain⟨w,rfl,h3⟩:=jD h2
 exact⟨v,w,rfl,h1,h3⟩
theorem lB {ts:List T}{v:V}(h:Rpx K H (.tup ts) v):∃a xs F,v=.ref a/\SqT K H a xs/\Rps K H ts xs F:=by
 obtain⟨F,h⟩:=h;rw[Rp]at h;obtain⟨a,xs,h1,h2,h3⟩:=h;exact⟨a,xs,F,h1,h2,h3⟩
theorem sW:dR K (tR K) cC:=by
 intro H vs ts t Q r e q
 unfold cC at e
 have e0:=bU e
 clear e
 obtain⟨x,rfl,e⟩:=e0
 obtain⟨v,rfl,r1⟩:=jD r
 unfold BJ at e
 split at e
 ·unfold BK at e
  split at e
  ·obtain⟨h,rfl⟩:=aJ e
   rw[cJ r1]
   exact .inr ⟨_,rfl,h,q _ H (.sc rfl)⟩
  ·cases e
   obtain⟨p,xs,rfl,h1,h2⟩:=bG r1
   exact .inl ⟨p,xs,rfl,.inr h1,q _ H (.sc (by rw[h2.length];rfl))⟩
  ·cases e
 ·cases e
  obtain⟨p,xs,rfl,h1,h2⟩:=bQ r1
  exact .inl ⟨p,xs,rfl,.inl (aM h1),q _ H (.sc (by rw[h2.length];rfl))⟩
 ·cases e
  obtain⟨p,xs,F,rfl,h1,h2⟩:=fA r1
  exact .inl ⟨p,xs,rfl,.inl (aM h1),q _ H (.sc (by rw[h2.length];rfl))⟩
 ·cases e
  obtain⟨p,xs,F,rfl,h1,h2⟩:=lB r1
  exact .inl ⟨p,xs,rfl,.inr h1,q _ H (.sc (by rw[h2.length];rfl))⟩
 ·cases e
@[irreducible] noncomputable def nA:List T->Option T:=l2 (i2 λa b=>some (.im (.int (if b<a then b else a))))
theorem sZ:dR K (λxs H Q=>∃i j,xs=[.int i,.int j]/\Q (.int (if j<i then j else i)) H) nA:=by
 intro H vs ts t Q r e q
 unfold nA at e
 have e0:=jj e
 clear e
 obtain⟨x,y,rfl,e⟩:=e0
 obtain⟨a,b,rfl,rfl,e⟩:=gk e
 cases e
 obtain⟨v,w,rfl,r1,r2⟩:=AN r
 rw[aK r1,aK r2]
 exact⟨_,_,rfl,q _ H (.sc rfl)⟩
@[irreducible] noncomputable def l8:List T->Option T:=l2 (i2 λa b=>some (.im (.int (if b>a then b else a))))
theorem sY:dR K (λxs H Q=>∃i j,xs=[.int i,.int j]/\Q (.int (if j>i then j else i)) H) l8:=by
 intro H vs ts t Q r e q
 unfold l8 at e
 have e0:=jj e
 clear e
 obtain⟨x,y,rfl,e⟩:=e0
 obtain⟨a,b,rfl,rfl,e⟩:=gk e
 cases e
 obtain⟨v,w,rfl,r1,r2⟩:=AN r
 rw[aK r1,aK r2]
 exact⟨_,_,rfl,q _ H (.sc rfl)⟩
noncomputable def BE (t:T):Option T:=match t with
 | .im i=>(match i with
  | .int a=>some (.im (.int a))
  | .bl b=>some (.im (.int (if b then 1 else 0)))
  | _=>none)
 | _=>none
@[irreducible] noncomputable def pQ:List T->Option T:=l1 BE
theorem sU:dR K (λxs H Q=>(∃i,xs=[.int i]/\Q (.int i) H) ∨ ∃k,xs=[.bl k]/\Q (.int (if k then 1 else 0)) H) pQ:=by
 intro H vs ts t Q r e q
 unfold pQ at e
 have e0:=bU e
 clear e
 obtain⟨x,rfl,e⟩:=e0
 obtain⟨v,rfl,r1⟩:=jD r
 unfold BE at e
 split at e
 ·split at e
  ·cases e
   rw[aK r1]
   exact .inl ⟨_,rfl,q _ H (.sc rfl)⟩
  ·cases e
   rw[kA r1]
   exact .inr ⟨_,rfl,q _ H (.sc rfl)⟩
  ·cases e
 ·cases e
noncomputable def xk (g:List I->T) (t:T):Option T:=match t with
 | .im i=>(match i with
  | .tup is=>some (g is)
  | _=>none)
 | .li is=>some (g is)
 | _=>none
@[irreducible] noncomputable def g8:List T->Option T:=l1 (xk λis=>.im (.tup is))
theorem tz:dR K (tV K) g8:=by
 intro H vs ts t Q r e q
 unfold g8 at e
 have e0:=bU e
 clear e
 obtain⟨x,rfl,e⟩:=e0
 obtain⟨v,rfl,r1⟩:=jD r
 unfold xk at e
 split at e
 ·split at e
  ·cases e
   obtain⟨p,xs,rfl,h1,h2⟩:=bG r1
   exact⟨p,xs,rfl,.inr ⟨h1,q _ H (.im (ci r1))⟩⟩
  ·cases e
 ·cases e
  obtain⟨p,xs,rfl,h1,h2⟩:=bQ r1
  exact⟨p,xs,rfl,.inl ⟨aM h1,λl hl=>q _ _ (.tup hl h2)⟩⟩
 ·cases e
@[irreducible] noncomputable def r8:List T->Option T:=l1 (xk λis=>.li is)
theorem sX:dR K (tT K) r8:=by
 intro H vs ts t Q r e q
 unfold r8 at e
 have e0:=bU e
 clear e
 obtain⟨x,rfl,e⟩:=e0
 obtain⟨v,rfl,r1⟩:=jD r
 unfold xk at e
 split at e
 ·split at e
  ·cases e
   obtain⟨p,xs,rfl,h1,h2⟩:=bG r1
   exact⟨p,xs,rfl,.inr h1,λl hl=>q _ _ (.li hl h2)⟩
  ·cases e
 ·cases e
  obtain⟨p,xs,rfl,h1,h2⟩:=bQ r1
  exact⟨p,xs,rfl,.inl (aM h1),λl hl=>q _ _ (.li hl h2)⟩
 ·cases e
noncomputable def bls:List I->Option (List Bool)
 | []=>some []
 | .bl b::is=>(bls is).map (b :: ·)
 | _=>none
noncomputable def allT:List T->Option T
 | [.li is]=>(bls is).map λbs=>.im (.bl (bs.all id))
 | _=>none
noncomputable def mR:List I->Option (List Str)
 | []=>some []
 | .str b::is=>(mR is).map (b :: ·)
 | _=>none
theorem xp {is:List I}{xs:List V}:∀{bs:List Str},mR is=some bs->RpIs K H is xs->xs=bs.map V.str:=by
 induction is generalizing xs with
 | nil=>intro bs h r;cases h;exact r.nil_inv
 | cons i is ih=>
  intro bs h r
  cases i with
  | str b=>
   simp only[mR]at h
   cases e:mR is with
   | none=>rw[e]at h;cases h
   | some cs=>
    rw[e]at h;cases h
    obtain⟨x,r',rfl,h1,h2⟩:=r.cons_inv
    rw[RpI]at h1
    rw[h1,ih e h2];rfl
  | _=>simp[mR]at h
noncomputable def jf:T->List T->Option T
 | .im (.str z),[.li is]=>match mR is with
  | some zs=>if(zs.map (·.length)).sum+zs.length*z.length<=16777216 then some (.im (.str (Txt.join z zs)))else none
  | none=>none
 | _,_=>none
theorem qr:rf K "str" (x9 K) jf:=by
 intro H x vs tx ts t Q rx r e q
 unfold jf at e
 split at e
 ·rename_i z is
  split at e
  ·rename_i zs hz
   split at e
   ·cases e
    obtain⟨v,rfl,r1⟩:=jD r
    obtain⟨p,xs,rfl,h1,h2⟩:=bQ r1
    have:=xp hz h2
    subst this
    rw[cJ rx]
    exact⟨z,p,zs,rfl,rfl,aM h1,by assumption,q _ H (.sc rfl)⟩
   ·cases e
  ·cases e
 ·cases e
end
section
variable  {Γ:Gm}{H H':Hp}{X:List En}{e:En}{ρ:Rho}{Z:St}{E:List En}{v:V}{t:T}{K:yF}
theorem Sim.partN (S:Sim Γ H ρ Z E)(sm:Same H H'){s:T}(he:e∈E){ro:Option Nat}{p:Option (List Ac)}(ho:e.r.k=.vw ro p){P:V->Prop}(hp:∀F,Rp Γ.K H e.r.t e.v F->∃w G,P w/\Rp Γ.K H' s w G/\∀a∈G,a∈F∨H a=none):∃w,P w/\Sim Γ H' ρ Z (⟨none,w,⟨.vw ro none,s⟩⟩::E):=by
 obtain⟨L,g,hL⟩:=S.sl
 have he':e∈L.map (·.e):=by rw[hL];exact yaL _ he
 obtain⟨h,hh,rfl⟩:=D4.mp he'
 obtain⟨w,G,h1,h2,h3⟩:=hp h.F (g.rp h hh)
 have own:∀a,H a=none->a∉L.flatMap Hd.own:=λa ha z=>by
  obtain⟨o,e,_⟩:=(g.ad a z).1
  rw[ha]at e;cases e
 have g':GW Γ H' L:=by
  have:=g.step (hs:=[]) (L:=L) (H':=H') (by simp) (by simp) (sm.offM _) (by simp) (key:=none) (v:=.non) (r:=⟨.ow,.im .non⟩) (F:=[]) Fi (by simp) (ga (by rw[RpI])) (.inl ⟨rfl,by simp⟩) (λj hj=>by cases hj)
  exact this.drop rfl
 refine⟨w,h1,⟨⟨_,g'.push (v:=w) (r:=⟨.vw ro none,s⟩) (F:=G) h2 ?_ (.inl rfl),by rw[DS,hL];rfl⟩,S.al,S.len,λx hx j hj=>?_⟩⟩
 ·have k:=g'.kd h hh
  unfold KdOk at k⊢
  rw[ho]at k
  cases ro with
  | none=>exact λa ha=>(h3 a ha).elim (k a) (own a)
  | some j=>
   obtain⟨x,x1,x2,x3,x4,x5⟩:=k
   exact⟨x,x1,x2,x3,λa ha=>(h3 a ha).elim (x4 a) (λz=>.inr (own a z)),λq hq=>by cases hq⟩
 ·rcases ycM hx with rfl|hx
  ·cases hj
  ·exact S.hi x hx j hj
theorem uu:∀{ts:List T} {xs:List V} {F:List Addr},Rps K H ts xs F->∃hs:List Hd,hs.map (·.e)=au xs ts/\hs.flatMap (·.F)=F/\∀h∈hs,Rp K H h.e.r.t h.e.v h.F/\h.e.r.k=.ow/\h.e.key=none/\∀a∈h.F,a∈F
 | [],xs,F,r=>by
  obtain⟨rfl,rfl⟩:=r.nil_inv
  exact⟨[],rfl,rfl,by simp⟩
 | t::ts,xs,F,r=>by
  obtain⟨y,r',F1,F2,rfl,r1,r2,rfl⟩:=r.cons_inv
  obtain⟨hs,h1,h2,h3⟩:=uu r2
  refine⟨⟨⟨none,y,⟨.ow,t⟩⟩,F1⟩::hs,by rw[DS,h1];rfl,by rw[D3,h2],λh hh=>?_⟩
  rcases ycM hh with rfl|hh
  ·exact⟨r1,rfl,rfl,λa ha=>yaL _ ha⟩
  ·obtain⟨a,b,c,d⟩:=h3 h hh
   exact⟨a,b,c,λx hx=>yaR _ (d x hx)⟩
theorem Sim.split {ts:List T}(S:Sim Γ H ρ Z (⟨none,v,⟨.ow,.tup ts⟩⟩::E)):∃a xs,v=.ref a/\SqT Γ.K H a xs/\xs.length=ts.length/\Sim Γ H ρ Z (au xs ts++E):=by
 obtain⟨L,g,h⟩:=S.sl
 rw[Ej]at h
 obtain⟨x,L',rfl,h1,h2⟩:=aE h
 have rp:=g.rp x ymS
 rw[h1,Rp]at rp
 obtain⟨a,xs,ev,hq,rps⟩:=rp
 have k0:=g.kd x ymS
 unfold KdOk at k0
 rw[h1]at k0
 have eo:x.own=x.F:=by unfold Hd.own;rw[h1];rfl
 obtain⟨hs,e1,e2,e3⟩:=uu rps
 have ho:∀h∈hs,h.e.r.k.isOw=true:=λh hh=>by rw[(e3 h hh).2.1];rfl
 have eown:(hs++L').flatMap Hd.own=(x::L').flatMap Hd.own:=by rw[D6,D3,fv ho,e2,eo]
 refine⟨a,xs,ev,hq,rps.length,⟨⟨hs++L',⟨?_,?_,λy hy=>?_,λy hy=>?_,?_,g.fr,g.iol⟩,?_⟩,S.al,S.len,λy hy j hj=>?_⟩⟩
 ·rw[eown];exact g.nd
 ·rw[eown];exact g.ad
 ·rcases yaM hy with hy|hy
  ·exact(e3 y hy).1
  ·exact g.rp y (ymC _ hy)
 ·rcases yaM hy with hy|hy
  ·unfold KdOk
   rw[(e3 y hy).2.1]
   exact λb hb=>k0 b ((e3 y hy).2.2.2 b hb)
  ·have k:=g.kd y (ymC _ hy)
   unfold KdOk at k⊢
   split at k
   ·exact k
   ·exact k
   ·rw[eown];exact k
   ·obtain⟨z,z1,z2,z3,z4,z5⟩:=k
    rcases ycM z1 with rfl|z1
    ·rw[h1]at z2;cases z2
    ·exact⟨z,yaR _ z1,z2,z3,by rw[eown];exact z4,z5⟩
 ·have ks:=g.ks
  rw[Ei,h1]at ks
  rw[Ek,List.filterMap_eq_nil_iff.mpr λy hy=>(e3 y hy).2.2.1]
  exact ks
 ·rw[D9,e1,h2,Ea]
 ·rcases yaM hy with hy|hy
  ·have:∀{xs:List V} {ts:List T},y∈au xs ts->y.key=none:=by
    intro xs
    induction xs with
    | nil=>intro ts h;cases ts<;>cases h
    | cons x xs ih=>
     intro ts h
     cases ts with
     | nil=>cases h
     | cons t ts=>
      rcases ycM h with rfl|h
      ·rfl
      ·exact ih h
   rw[this hy]at hj;cases hj
  ·exact S.hi y (ymC _ hy) j hj
noncomputable def partV (ro:Option Nat):T->R
 | .im i=>⟨.ow,.im i⟩
 | t=>⟨.vw ro none,t⟩
noncomputable def parts:R->Option (List R)
 | ⟨_,.im (.tup is)⟩=>some (is.map λi=>⟨.ow,.im i⟩)
 | ⟨.ow,.tup ts⟩=>some (ts.map λt=>⟨.ow,t⟩)
 | ⟨.vw ro _,.tup ts⟩=>some (ts.map (partV ro))
 | _=>none
theorem kI:∀{xs:List V} {ts:List T},au xs ts=ens xs (ts.map λt=>⟨.ow,t⟩)
 | [],ts=>by cases ts<;>rfl
 | x::xs,[]=>rfl
 | x::xs,t::ts=>by rw[au,DS,ens,kI]
theorem Sim.imms:∀{is:List I} {xs:List V} {E:List En},Sim Γ H ρ Z E->RpIs Γ.K H is xs->Sim Γ H ρ Z (ens xs (is.map λi=>⟨.ow,.im i⟩)++E)
 | [],xs,E,S,r=>by obtain rfl:=r.nil_inv;exact S
 | i::is,xs,E,S,r=>by
  obtain⟨x,r',rfl,h1,h2⟩:=r.cons_inv
  rw[DS,ens,Ej]
  exact(Sim.imms S h2).imm h1
theorem Sim.parts {r:R}{rs:List R}(S:Sim Γ H ρ Z (⟨none,v,r⟩::E))(h:L2.parts r=some rs):∃a xs,v=.ref a/\SqT Γ.K H a xs/\xs.length=rs.length/\Sim Γ H ρ Z (ens xs rs++E):=by
 unfold L2.parts at h
 split at h
 ·rename_i k is
  cases h
  obtain⟨F,r⟩:=S.rd ymS
  obtain⟨a,xs,e,hq,hr⟩:=bG ⟨F,r⟩
  exact⟨a,xs,e,hq,by rw[hr.length,DX],(S.drop rfl).imms hr⟩
 ·rename_i ts
  cases h
  obtain⟨a,xs,e,hq,hl,S2⟩:=S.split
  rw[kI]at S2
  exact⟨a,xs,e,hq,by rw[hl,DX],S2⟩
 ·rename_i ro p ts
  cases h
  obtain⟨F,r⟩:=S.rd ymS
  obtain⟨a,xs,G,e,hq,hr⟩:=lB ⟨F,r⟩
  obtain⟨L,g,hL⟩:=S.sl
  rw[Ej]at hL
  obtain⟨x,L',rfl,h1,h2⟩:=aE hL
  have rp:=g.rp x ymS
  rw[h1,Rp]at rp
  obtain⟨a',xs',ev,hq',rps⟩:=rp
  have S3:Sim Γ H ρ Z (ens xs' (ts.map (partV ro))++E):=by
   have go:∀(ts:List T) (xs:List V) (G:List Addr),Rps Γ.K H ts xs G->(∀a∈G,a∈x.F)->∃L1,GW Γ H (L1++x::L')/\L1.map (·.e)=ens xs (ts.map (partV ro))/\∀h∈L1,h.e.key=none:=by
    intro ts
    induction ts with
    | nil=>intro xs G r _;obtain⟨rfl,rfl⟩:=r.nil_inv;exact⟨[],g,rfl,by simp⟩
    | cons t ts ih=>
     intro xs G r hG
     obtain⟨y,r',F1,F2,rfl,r1,r2,rfl⟩:=r.cons_inv
     obtain⟨L1,g1,e1,e2⟩:=ih r' F2 r2 λa ha=>hG a (yaR _ ha)
     have kx:=g1.kd x (yaR _ ymS)
     unfold KdOk at kx
     rw[h1]at kx
     have key:∃h:Hd,GW Γ H (h::(L1++x::L'))/\h.e=⟨none,y,partV ro t⟩:=by
      have vw:GW Γ H (⟨⟨none,y,⟨.vw ro none,t⟩⟩,F1⟩::(L1++x::L')):=by
       refine g1.push (v:=y) (r:=⟨.vw ro none,t⟩) (F:=F1) r1 ?_ (.inl rfl)
       unfold KdOk
       cases ro with
       | none=>exact λa ha=>kx a (hG a (yaL _ ha))
       | some j=>
        obtain⟨z,z1,z2,z3,z4,z5⟩:=kx
        exact⟨z,z1,z2,z3,λa ha=>z4 a (hG a (yaL _ ha)),λq hq=>by cases hq⟩
      cases t with
      | im i=>exact⟨_,g1.push (v:=y) (r:=⟨.ow,.im i⟩) (F:=[]) (ga (ba r1).1) (λa ha=>by cases ha) (.inr rfl),rfl⟩
      | _=>exact⟨_,vw,rfl⟩
     obtain⟨h,gh,eh⟩:=key
     refine⟨h::L1,gh,by rw[DS,eh,e1];rfl,λz hz=>?_⟩
     rcases ycM hz with rfl|hz
     ·rw[eh]
     ·exact e2 z hz
   obtain⟨L1,g1,e1,e2⟩:=go ts xs' x.F rps λa ha=>ha
   have g2:GW Γ H (L1++L'):=by
    have p:(L1++x::L').Perm (x::(L1++L')):=Et
    exact(g1.perm p).drop (by rw[h1])
   refine⟨⟨_,g2,by rw[D9,e1,h2,Ea]⟩,S.al,S.len,λy hy j hj=>?_⟩
   rcases yaM hy with hy|hy
   ·rw[←e1]at hy
    obtain⟨z,hz,rfl⟩:=D4.mp hy
    rw[e2 z hz]at hj;cases hj
   ·exact S.hi y (ymC _ hy) j hj
  exact⟨a',xs',ev,hq',by rw[rps.length,DX],S3⟩
 ·cases h
@[irreducible] noncomputable def mGNil:MGs:=⟨λrs ρ=>match rs with
 | []=>some ρ
 | _=>none,[]⟩
@[irreducible] noncomputable def aI (g:MG)(gs:MGs):MGs:=⟨λrs ρ=>match rs with
 | r::rs=>if rs.all (aC g.mu)=true then(match g.run r ρ with
  | some ρ1=>gs.run rs ρ1
  | none=>none)else none
 | []=>none,g.mu++gs.mu⟩
@[irreducible] noncomputable def cD (gs:MGs):MG:=⟨λr ρ=>match parts r with
 | some rs=>gs.run rs ρ
 | none=>none,gs.mu⟩
theorem ue:lK K yL mGNil:=by with_unfolding_all
 intro Γ H ρ Z E Q vs rs ρ' hK hr hl S q
 cases rs with
 | nil=>
  cases hr
  have:vs=[]:=EI.mp hl
  subst this
  exact⟨rfl,q Z H (by rw[show mGNil.mu=[]from rfl,bE];exact S)⟩
 | cons _ _=>cases hr
theorem qG {g:TG}{gs:TGs}{m:MG}{ms:MGs}(h1:g9 K g m)(h2:lK K gs ms):lK K (rL g gs) (aI m ms):=by with_unfolding_all
 intro Γ H ρ Z E Q vs rs ρ' hK hr hl S q
 cases rs with
 | nil=>cases hr
 | cons r rs=>
  cases vs with
  | nil=>cases hl
  | cons v vs=>
   simp only[aI]at hr q
   split at hr
   ·rename_i al
    split at hr
    ·rename_i ρ1 e1
     refine⟨v,vs,rfl,?_⟩
     rw[ens,Ej]at S
     refine h1 Γ H ρ Z _ _ v r ρ1 hK e1 S λZ1 H1 S1=>?_
     rw[aB,hW al]at S1
     exact h2 Γ H1 ρ1 Z1 _ _ vs rs ρ' hK hr (by simpa using hl) S1 λZ2 H2 S2=>q Z2 H2 (by rw[←af];exact S2)
    ·cases hr
   ·cases hr
theorem uf {gs:TGs}{ms:MGs}{n:Nat}(h:lK K gs ms)(hn:∀rs ρ ρ',ms.run rs ρ=some ρ'->rs.length=n):g9 K (vk K n gs) (cD ms):=by
 intro Γ H ρ Z E Q v r ρ' hK hr S q
 simp only[cD]at hr q
 split at hr
 ·rename_i rs e1
  obtain⟨a,xs,e,hq,hl,S2⟩:=S.parts e1
  rw[hK]at hq
  exact⟨a,xs,e,hq,by rw[hl];exact hn _ _ _ hr,h Γ H ρ Z _ _ xs rs ρ' hK hr hl S2 q⟩
 ·cases hr
noncomputable def consL (mv:List Nat):List R->Rho->Option (List T×Rho)
 | [],ρ=>some ([],ρ)
 | ⟨.ow,t⟩::rs,ρ=>match consL mv rs ρ with
  | some (ts,ρ')=>some (t::ts,ρ')
  | none=>none
 | ⟨.vw (some i) (some []),t⟩::rs,ρ=>if(mv.contains i&&rs.all (aC [i]))=true then(match ρ[i]? with
  | some (some ⟨.ow,_⟩)=>(match consL mv rs ((ao [i] ρ).set i none)with
   | some (ts,ρ')=>some (t::ts,ρ')
   | none=>none)
  | _=>none)else none
 | _,_=>none
theorem Sim.consL {mv:List Nat}:∀{rs:List R} {vs:List V} {ts:List T} {ρ ρ':Rho} {A E:List En},Sim Γ H ρ Z (A++(ens vs rs++E))->vs.length=rs.length->L2.consL mv rs ρ=some (ts,ρ')->(∀e∈A,e.r.k=.ow/\e.key=none)->vs.length=ts.length/\Sim Γ H ρ' Z (A++(au vs ts++ae mv E))
 | [],[],ts,ρ,ρ',A,E,S,_,h,hA=>by
  cases h
  refine⟨rfl,?_⟩
  have:=S.weak mv
  rw[aB]at this
  have ea:ae mv A=A:=Fc.mpr λe he=>by unfold az;rw[(hA e he).1];rfl
  rw[ea]at this
  exact this
 | r::rs,v::vs,ts,ρ,ρ',A,E,S,hl,h,hA=>by
  rw[ens,Ej]at S
  obtain⟨k,t⟩:=r
  cases k with
  | ow=>
   simp only[L2.consL]at h
   split at h
   ·rename_i ts1 ρ1 e1
    cases h
    obtain⟨h1,S1⟩:=Sim.consL (rs:=rs) (vs:=vs) (A:=A++[⟨none,v,⟨.ow,t⟩⟩]) (E:=E) (by simpa using S) (by simpa using hl) e1 (λe he=>by
     rcases yaM he with he|he
     ·exact hA e he
     ·rw[ysM he];exact⟨rfl,rfl⟩)
    exact⟨by simp[h1],by rw[au];simpa using S1⟩
   ·cases h
  | io n=>cases h
  | vw a b=>
   cases a with
   | none=>cases h
   | some i=>
    cases b with
    | none=>cases h
    | some p=>
     cases p with
     | cons _ _=>cases h
     | nil=>
      simp only[L2.consL]at h
      split at h
      ·rename_i al
       rw[DU]at al
       split at h
       ·rename_i t1 h1
        split at h
        ·rename_i ts1 ρ1 e1
         cases h
         have S0:Sim Γ H ρ Z (⟨none,v,⟨.vw (some i) (some []),t⟩⟩::(A++(ens vs rs++E))):=S.perm Et
         have S1:=S0.move h1
         have ea:ae [i] A=A:=Fc.mpr λe he=>by unfold az;rw[(hA e he).1];rfl
         rw[aB,ea,aB,hW al.2]at S1
         obtain⟨h2,S2⟩:=Sim.consL (rs:=rs) (vs:=vs) (A:=A++[⟨none,v,⟨.ow,t⟩⟩]) (E:=ae [i] E) (S1.perm (by
          rw[Ea]
          exact(Et).symm)) (by simpa using hl) e1 (λe he=>by
          rcases yaM he with he|he
          ·exact hA e he
          ·rw[ysM he];exact⟨rfl,rfl⟩)
         refine⟨by simp[h2],?_⟩
         rw[au]
         have ek:ae mv (ae [i] E)=ae mv E:=by
          rw[af]
          unfold ae
          congr 1
          funext e
          rw[j5]
          by_cases hk:az mv e=true
          ·rw[hk,GS]
           unfold az at hk⊢
           split
           ·rename_i j hj
            rw[hj]at hk
            have:j≠i:=λz=>by subst z;simp at hk;exact hk (by simpa using al.1)
            simp[this]
           ·rfl
          ·rw[Ha]at hk;rw[hk,Hi]
         rw[ek]at S2
         simpa using S2
        ·cases h
       ·cases h
      ·cases h
 | [],_::_,_,_,_,_,_,_,h,_,_=>by cases h
 | _::_,[],_,_,_,_,_,_,h,_,_=>by cases h
noncomputable def ims:List T->Option (List I)
 | []=>some []
 | .im i::ts=>(ims ts).map (i :: ·)
 | _=>none
theorem k9:∀{ts:List T} {is:List I},ims ts=some is->ts=is.map T.im
 | [],is,h=>by cases h;rfl
 | .im i::ts,is,h=>by
  simp only[ims]at h
  cases e:ims ts with
  | none=>rw[e]at h;cases h
  | some js=>rw[e]at h;cases h;rw[DS,←k9 e]
 | .tup _::_,_,h=>by cases h
 | .li _::_,_,h=>by cases h
 | .lst _::_,_,h=>by cases h
 | .di _::_,_,h=>by cases h
 | .dc _::_,_,h=>by cases h
 | .ins _ _::_,_,h=>by cases h
noncomputable def mf (ts:List T):T:=match ims ts with
 | some is=>.im (.tup is)
 | none=>.tup ts
noncomputable def bu (ts:List T):T:=match ims ts with
 | some is=>.li is
 | none=>.lst ts
@[irreducible] noncomputable def av (mv:List Nat)(a:MA):ME:=⟨λρ=>match a.run ρ with
 | some (rs,ρ1)=>if rs.length<=1000 then(match consL mv rs ρ1 with
  | some (ts,ρ2)=>some (⟨.ow,mf ts⟩,ρ2)
  | none=>none)else none
 | none=>none,a.mu++mv⟩
@[irreducible] noncomputable def aR (mv:List Nat)(a:MA):ME:=⟨λρ=>match a.run ρ with
 | some (rs,ρ1)=>if rs.length<=1000 then(match consL mv rs ρ1 with
  | some (ts,ρ2)=>some (⟨.ow,bu ts⟩,ρ2)
  | none=>none)else none
 | none=>none,a.mu++mv⟩
theorem uD {n:Nat}(h:n<=1000):n<=sizeLine:=by rw[sizeLine_eq];omega
theorem uo {ta:TA}{a:MA}{mv:List Nat}(ha:fe K ta a):aP K (C6 ta) (av mv a):=by
 intro Γ H ρ Z E Q r ρ' hK hr S q
 simp only[av]at hr q
 split at hr
 ·rename_i rs ρ1 e1
  split at hr
  ·rename_i hz
   split at hr
   ·rename_i ts ρ2 e2
    cases hr
    refine ha Γ H ρ Z E _ rs ρ1 hK e1 S λvs H1 hl S1=>⟨by rw[hl];exact uD hz,λp hp=>?_⟩
    obtain⟨hl2,S2⟩:=Sim.consL (A:=[]) (by simpa using S1) hl e2 (by simp)
    rw[EK,af]at S2
    obtain⟨F,h1,h2,h3,h4⟩:=S2.use hl2
    have sm:=Same.laid (o:=.tup vs) hp
    refine q _ _ (h4 _ (.ref p) (mf ts) F (sm.offM _) (λa ha=>let ⟨o,e,_⟩:=h3 a ha;⟨o,sm a o e⟩) h2 (λa ha=>⟨.inl ha,let ⟨o,e,m⟩:=h3 a ha;⟨o,sm a o e,m⟩⟩) ?_)
    unfold mf
    split
    ·rename_i is hi
     rw[k9 hi]at h1
     obtain⟨h5,h6⟩:=Rps.ims.mp h1
     subst h6
     refine ga ?_
     rw[RpI]
     exact⟨p,vs,rfl,SqT.of ax,h5.same sm⟩
    ·rw[Rp]
     exact⟨p,vs,rfl,SqT.of ax,h1.same sm⟩
   ·cases hr
  ·cases hr
 ·cases hr
theorem ug {ta:TA}{a:MA}{mv:List Nat}(ha:fe K ta a):aP K (CZ ta) (aR mv a):=by
 intro Γ H ρ Z E Q r ρ' hK hr S q
 simp only[aR]at hr q
 split at hr
 ·rename_i rs ρ1 e1
  split at hr
  ·rename_i hz
   split at hr
   ·rename_i ts ρ2 e2
    cases hr
    refine ha Γ H ρ Z E _ rs ρ1 hK e1 S λvs H1 hl S1=>⟨by rw[hl];exact uD hz,λp hp=>?_⟩
    obtain⟨hl2,S2⟩:=Sim.consL (A:=[]) (by simpa using S1) hl e2 (by simp)
    rw[EK,af]at S2
    obtain⟨F,h1,h2,h3,h4⟩:=S2.use hl2
    have sm:=Same.laid (o:=.lst vs) hp
    have np:p∉F:=λz=>by obtain⟨o,e,_⟩:=h3 p z;rw[hp]at e;cases e
    refine q _ _ (h4 _ (.ref p) (bu ts) (p::F) (sm.offM _) (λa ha=>let ⟨o,e,_⟩:=h3 a ha;⟨o,sm a o e⟩) (Ep.mpr ⟨np,h2⟩) (λa ha=>?_) ?_)
    ·rcases ycM ha with rfl|ha
     ·exact⟨.inr hp,_,ax,rfl⟩
     ·exact⟨.inl ha,let ⟨o,e,m⟩:=h3 a ha;⟨o,sm a o e,m⟩⟩
    ·unfold bu
     split
     ·rename_i is hi
      rw[k9 hi]at h1
      obtain⟨h5,h6⟩:=Rps.ims.mp h1
      subst h6
      rw[Rp]
      exact⟨p,vs,rfl,.inl ax,h5.same sm,rfl⟩
     ·rw[Rp]
      exact⟨p,vs,F,rfl,.inl ax,h1.same sm,rfl⟩
   ·cases hr
  ·cases hr
 ·cases hr
end
section
variable  {Γ:Gm}{H H':Hp}{ρ:Rho}{Z:St}{E:List En}{v x y:V}{t:T}{K:yF}{Q:VK}
noncomputable def ixK:Kd->Option Ac->Option Kd
 | .ow,_=>some .ow
 | .io _,_=>none
 | .vw (some r) (some p),some a=>some (.vw (some r) (some (p++[a])))
 | .vw ro _,_=>some (.vw ro none)
noncomputable def ixP (k:Kd) (a:Option Ac):T->Option R
 | .im i=>some ⟨.ow,.im i⟩
 | t=>match ixK k a with
  | some k'=>some ⟨k',t⟩
  | none=>none
noncomputable def ixI (i:I) (n:Int):Option R:=match i with
 | .tup is=>(atI is n).map λi=>⟨.ow,.im i⟩
 | .str z=>if z.length<=sizeLine then(atI (sL z) n).map λc=>⟨.ow,.im (.str ⟨#[c]⟩)⟩else none
 | _=>none
noncomputable def ixX (k:Kd) (t:T) (n:Int):Option R:=match t with
 | .im i=>ixI i n
 | .li is=>(atI is n).map λi=>⟨.ow,.im i⟩
 | .lst ts=>(match ixN ts.length n with
  | some j=>(ts[j]?).bind (ixP k (some (.ix j)))
  | none=>none)
 | .tup ts=>(match ixN ts.length n with
  | some j=>(ts[j]?).bind (ixP k none)
  | none=>none)
 | _=>none
@[irreducible] noncomputable def ixR (r:R)(t:T):Option R:=match isI t with
 | some n=>ixX r.k r.t n
 | none=>none
@[irreducible] noncomputable def mIx (a b:ME):ME:=⟨λρ=>match a.run ρ with
 | some (ra,ρ1)=>match b.run ρ1 with
  | some (rb,ρ2)=>if aC b.mu ra=true then(match ixR ra rb.t with
   | some r=>some (r,ρ2)
   | none=>none)else none
  | none=>none
 | none=>none,a.mu++b.mu⟩
theorem lL {is:List I}{xs:List V}{n:Int}{i:I}(r:RpIs K H is xs)(e:atI is n=some i):∃w,atI xs n=some w/\RpI K H i w:=by
 unfold atI at e⊢
 rw[r.length]
 cases h:ixN is.length n with
 | none=>rw[h]at e;cases e
 | some j=>rw[h]at e;exact r.get e
theorem Sim.takeO {s:T}(S:Sim Γ H ρ Z (⟨none,x,⟨.ow,t⟩⟩::E)){P:V->Prop}(hp:∀F,Rp Γ.K H t x F->∃w A G B,P w/\Rp Γ.K H s w G/\F=A++G++B):∃w,P w/\Sim Γ H ρ Z (⟨none,w,⟨.ow,s⟩⟩::E):=by
 obtain⟨F,h1,h2,h3,h4⟩:=Sim.use (vs:=[x]) (ts:=[t]) S rfl
 obtain⟨y,r',F1,F2,e,r1,r2,rfl⟩:=h1.cons_inv
 cases e
 have:=r2.nil_inv.2
 subst this
 rw[El]at h2 h3 h4
 obtain⟨w,A,G,B,p,rg,rfl⟩:=hp F1 r1
 have inF:∀a∈G,a∈A++G++B:=λa ha=>yaL _ (yaR _ ha)
 exact⟨w,p,h4 H w s G (OffM.refl _ _) (λa ha=>let ⟨o,e,_⟩:=h3 a ha;⟨o,e⟩) (DW.mp (DW.mp h2).1).2.1 (λa ha=>⟨.inl (inF a ha),h3 a (inF a ha)⟩) rg⟩
theorem m8 {α:Type}{xs:List α}{n:Int}{j m:Nat}{w : α}(h:ixN m n=some j)(hl:xs.length=m)(hw:xs[j]?=some w):atI xs n=some w:=by
 unfold atI;rw[hl,h];exact hw
theorem Sim.ixL {k:Kd}{ts:List T}{s:T}{j:Nat}{n:Int}{r:R}(S:Sim Γ H ρ Z (⟨none,x,⟨k,.lst ts⟩⟩::E))(hn:ixN ts.length n=some j)(hj:ts[j]?=some s)(hr:L2.ixP k (some (.ix j)) s=some r) :
  ∃w,(∀Q:VK,Q w H->rIx Γ.K x (.int n) H Q)/\Sim Γ H ρ Z (⟨none,w,r⟩::E):=by
 have gen:∀F,Rp Γ.K H (.lst ts) x F->∃w A G B,(∀Q:VK,Q w H->rIx Γ.K x (.int n) H Q)/\Rp Γ.K H s w G/\F=A++G++B:=λF rp=>by
  rw[Rp]at rp
  obtain⟨a,xs,F',rfl,h2,h3,rfl⟩:=rp
  obtain⟨w,A,G,B,h4,h5,h6,_,_⟩:=h3.at hj
  exact⟨w,a::A,G,B,λQ q=>.inl ⟨a,xs,n,w,rfl,rfl,aM h2,m8 hn h3.length h4,q⟩,h5,by rw[h6];simp⟩
 have hview:∀ro p,k=.vw ro p->∃w,(∀Q:VK,Q w H->rIx Γ.K x (.int n) H Q)/\Sim Γ H ρ Z (⟨none,w,⟨.vw ro none,s⟩⟩::E):=λro p hk=>by
  obtain⟨w,h1,S2⟩:=S.part (e:=⟨none,x,⟨k,.lst ts⟩⟩) ymS hk (P:=λw=>∀Q:VK,Q w H->rIx Γ.K x (.int n) H Q) (s:=s) (λF rp=>by
   obtain⟨w,A,G,B,h1,h2,h3⟩:=gen F rp
   exact⟨w,G,h1,h2,λa ha=>by rw[h3];exact yaL _ (yaR _ ha)⟩)
  exact⟨w,h1,S2.swap.drop rfl⟩
 have main:∀k',ixK k (some (.ix j))=some k'->∃w,(∀Q:VK,Q w H->rIx Γ.K x (.int n) H Q)/\Sim Γ H ρ Z (⟨none,w,⟨k',s⟩⟩::E):=λk' hk'=>by
  cases k with
  | ow=>
   cases hk'
   exact S.takeO gen
  | io m=>cases hk'
  | vw ro p=>
   cases ro with
   | none=>
    cases hk'
    exact hview none p rfl
   | some i=>
    cases p with
    | none=>cases hk';exact hview (some i) none rfl
    | some p=>
     cases hk'
     obtain⟨w,h1,S2⟩:=S.partP (e:=⟨none,x,⟨.vw (some i) (some p),.lst ts⟩⟩) ymS rfl (a:=.ix j) (s:=s) hj
     refine⟨w,λQ q=>?_,S2.swap.drop rfl⟩
     obtain⟨F,rp⟩:=S.rd ymS
     obtain⟨a,xs,G,e1,h2,h3⟩:=fA ⟨F,rp⟩
     obtain⟨a',xs',e2,g1,g2⟩:=h1
     have e1':x=.ref a:=e1
     have e2':x=.ref a':=e2
     rw[e1']at e2'
     cases e2'
     have e3:xs'=xs:=by
      rcases h2 with h2|⟨o,h2⟩
      ·rw[h2]at g1;cases g1;rfl
      ·rw[h2]at g1;cases g1
     subst e3
     rw[e1']
     exact .inl ⟨a,xs',n,w,rfl,rfl,SqL.of g1,m8 hn h3.length g2,q⟩
 cases s with
 | im i=>
  cases hr
  obtain⟨F,rp⟩:=S.rd ymS
  obtain⟨w,A,G,B,h1,h2,_⟩:=gen F rp
  exact⟨w,h1,(S.drop rfl).imm (ba h2).1⟩
 | _=>
  simp only[L2.ixP]at hr
  split at hr
  ·rename_i k' e;cases hr;exact main k' e
  ·cases hr
theorem Sim.ixT {k:Kd}{ts:List T}{s:T}{j:Nat}{n:Int}{r:R}(S:Sim Γ H ρ Z (⟨none,x,⟨k,.tup ts⟩⟩::E))(hn:ixN ts.length n=some j)(hj:ts[j]?=some s)(hr:L2.ixP k none s=some r) :
  ∃w,(∀Q:VK,Q w H->rIx Γ.K x (.int n) H Q)/\Sim Γ H ρ Z (⟨none,w,r⟩::E):=by
 have gen:∀F,Rp Γ.K H (.tup ts) x F->∃w A G B,(∀Q:VK,Q w H->rIx Γ.K x (.int n) H Q)/\Rp Γ.K H s w G/\F=A++G++B:=λF rp=>by
  rw[Rp]at rp
  obtain⟨a,xs,rfl,h2,h3⟩:=rp
  obtain⟨w,A,G,B,h4,h5,h6,_,_⟩:=h3.at hj
  exact⟨w,A,G,B,λQ q=>.inr (.inl ⟨a,xs,n,w,rfl,rfl,h2,m8 hn h3.length h4,q⟩),h5,h6⟩
 have main:∀k',ixK k none=some k'->∃w,(∀Q:VK,Q w H->rIx Γ.K x (.int n) H Q)/\Sim Γ H ρ Z (⟨none,w,⟨k',s⟩⟩::E):=λk' hk'=>by
  cases k with
  | ow=>
   cases hk'
   exact S.takeO gen
  | io m=>cases hk'
  | vw ro p=>
   have hv:k'=.vw ro none:=by cases ro<;>cases p<;>cases hk'<;>rfl
   subst hv
   obtain⟨w,h1,S2⟩:=S.part (e:=⟨none,x,⟨.vw ro p,.tup ts⟩⟩) ymS rfl (P:=λw=>∀Q:VK,Q w H->rIx Γ.K x (.int n) H Q) (s:=s) (λF rp=>by
    obtain⟨w,A,G,B,h1,h2,h3⟩:=gen F rp
    exact⟨w,G,h1,h2,λa ha=>by rw[h3];exact yaL _ (yaR _ ha)⟩)
   exact⟨w,h1,S2.swap.drop rfl⟩
 cases s with
 | im i=>
  cases hr
  obtain⟨F,rp⟩:=S.rd ymS
  obtain⟨w,A,G,B,h1,h2,_⟩:=gen F rp
  exact⟨w,h1,(S.drop rfl).imm (ba h2).1⟩
 | _=>
  simp only[L2.ixP]at hr
  split at hr
  ·rename_i k' e;cases hr;exact main k' e
  ·cases hr
theorem Sim.ixR {ra r:R}{tb:T}(h:L2.ixR ra tb=some r)(S:Sim Γ H ρ Z (⟨none,x,ra⟩::E))(ry:Rpx Γ.K H tb y):∃w,(∀Q:VK,Q w H->rIx Γ.K x y H Q)/\Sim Γ H ρ Z (⟨none,w,r⟩::E):=by
 have r1:Rpx Γ.K H ra.t x:=S.rd (e:=⟨none,x,ra⟩) ymS
 unfold L2.ixR at h
 split at h
 ·rename_i n en
  cases cR en
  obtain⟨k0,t0⟩:=ra
  replace r1:Rpx Γ.K H t0 x:=r1
  rw[aK ry]
  unfold ixX at h
  dsimp only at h
  split at h
  ·unfold ixI at h
   split at h
   ·rename_i is
    cases h0:atI is n with
    | none=>rw[h0]at h;cases h
    | some i=>
     rw[h0]at h;cases h
     obtain⟨p,xs,ex,g1,g2⟩:=bG r1
     obtain⟨w,h3,h4⟩:=lL g2 h0
     exact⟨w,λQ q=>.inr (.inl ⟨p,xs,n,w,ex,rfl,g1,h3,q⟩),(S.drop rfl).imm h4⟩
   ·rename_i z
    split at h
    ·rename_i hz
     cases h0:atI (sL z) n with
     | none=>rw[h0]at h;cases h
     | some c=>
      rw[h0]at h;cases h
      exact⟨_,λQ q=>.inr (.inr ⟨z,n,c,cJ r1,rfl,hz,h0,q⟩),(S.drop rfl).imm (iO rfl)⟩
    ·cases h
   ·cases h
  ·rename_i is
   cases h0:atI is n with
   | none=>rw[h0]at h;cases h
   | some i=>
    rw[h0]at h;cases h
    obtain⟨p,xs,ex,g1,g2⟩:=bQ r1
    obtain⟨w,h3,h4⟩:=lL g2 h0
    exact⟨w,λQ q=>.inl ⟨p,xs,n,w,ex,rfl,aM g1,h3,q⟩,(S.drop rfl).imm h4⟩
  ·rename_i ts
   split at h
   ·rename_i j hj
    cases h0:ts[j]? with
    | none=>rw[h0]at h;cases h
    | some s=>
     rw[h0]at h
     exact S.ixL hj h0 h
   ·cases h
  ·rename_i ts
   split at h
   ·rename_i j hj
    cases h0:ts[j]? with
    | none=>rw[h0]at h;cases h
    | some s=>
     rw[h0]at h
     exact S.ixT hj h0 h
   ·cases h
  ·cases h
 ·cases h
theorem AH {ta tb:TE}{a b:ME}(ha:aP K ta a)(hb:aP K tb b):aP K (tOp (rIx K) ta tb) (mIx a b):=by with_unfolding_all
 intro Γ H ρ Z E Q r ρ' hK hr S q
 simp only[mIx]at hr
 split at hr
 ·rename_i ra ρ1 e1
  split at hr
  ·rename_i rb ρ2 e2
   split at hr
   ·rename_i al
    split at hr
    ·rename_i r0 e3
     cases hr
     refine ha Γ H ρ Z E _ ra ρ1 hK e1 S λx H1 S1=>?_
     refine hb Γ H1 ρ1 Z _ _ rb _ hK e2 S1 λy H2 S2=>?_
     rw[ar (bv al),af]at S2
     have r2:=S2.rd ymS
     obtain⟨w,h1,S4⟩:=Sim.ixR e3 (S2.drop rfl) r2
     rw[←hK]
     exact h1 Q (q w _ S4)
    ·cases hr
   ·cases hr
  ·cases hr
 ·cases hr
structure MO where
 run:Rho->Option (Option Int×Rho)
 mu:List Nat
def rh (K:yF)(to:TO)(m:MO):Prop:=∀(Γ:Gm) (H:Hp) (ρ:Rho) (Z:St) (E:List En) (Q:Option Int->Hp->Prop) (o:Option Int) (ρ':Rho),Γ.K=K->m.run ρ=some (o,ρ')->Sim Γ H ρ Z E->(∀H',Sim Γ H' ρ' Z (ae m.mu E)->Q o H')->to Z H Q
@[irreducible] noncomputable def mNoPart:MO:=⟨λρ=>some (none,ρ),[]⟩
@[irreducible] noncomputable def dl (a:ME):MO:=⟨λρ=>match a.run ρ with
 | some (⟨_,.im (.int n)⟩,ρ1)=>some (some n,ρ1)
 | _=>none,a.mu⟩
theorem nM:rh K pc mNoPart:=by with_unfolding_all
 intro Γ H ρ Z E Q o ρ' hK hr S q
 cases hr
 exact q H (by rw[show mNoPart.mu=[]from rfl,bE];exact S)
theorem uk {ta:TE}{a:ME}(ha:aP K ta a):rh K (pe ta) (dl a):=by with_unfolding_all
 intro Γ H ρ Z E Q o ρ' hK hr S q
 simp only[dl]at hr
 split at hr
 ·rename_i k n ρ1 e1
  cases hr
  exact ha Γ H ρ Z E _ _ _ hK e1 S λx H1 S1=>⟨n,aK (S1.rd ymS),q H1 (S1.drop rfl)⟩
 ·cases hr
theorem RpIs.cut {is:List I}{xs:List V}(r:RpIs K H is xs)(lo hi:Option Int):RpIs K H (cu is lo hi) (i7 xs lo hi):=by
 unfold cu i7
 rw[r.length]
 exact(r.drop _).take _
theorem Rps.cut {ts:List T}{xs:List V}{F:List Addr}(r:Rps K H ts xs F)(lo hi:Option Int):∃A G B,Rps K H (cu ts lo hi) (i7 xs lo hi) G/\F=A++G++B:=by
 unfold cu i7
 rw[r.length]
 obtain⟨A,G1,h1,h2,rfl⟩:=r.take (HT.sIx ts.length 0 lo)
 obtain⟨G,B,h3,h4,rfl⟩:=h2.take (HT.sIx ts.length ts.length hi-HT.sIx ts.length 0 lo)
 exact⟨A,G,B,h3,by simp⟩
noncomputable def slI (i:I) (lo hi:Option Int):Option R:=match i with
 | .tup is=>if HT.sIx is.length 0 lo=0/\HT.sIx is.length is.length hi=is.length then none else some ⟨.ow,.im (.tup (cu is lo hi))⟩
 | .str z=>if z.length<=sizeLine then some ⟨.ow,.im (.str (oL (cu (sL z) lo hi)))⟩else none
 | _=>none
noncomputable def slX (k:Kd) (t:T) (lo hi:Option Int):Option R:=match t with
 | .li is=>some ⟨.ow,.li (cu is lo hi)⟩
 | .im i=>slI i lo hi
 | .lst ts=>(match k with
  | .vw ro _=>some ⟨.vw ro none,.lst (cu ts lo hi)⟩
  | _=>none)
 | _=>none
@[irreducible] noncomputable def slR (r:R)(lo hi:Option Int):Option R:=slX r.k r.t lo hi
@[irreducible] noncomputable def mSl (a:ME)(lo hi:MO):ME:=⟨λρ=>match a.run ρ with
 | some (ra,ρ1)=>match lo.run ρ1 with
  | some (l,ρ2)=>match hi.run ρ2 with
   | some (h,ρ3)=>if aC (lo.mu++hi.mu) ra=true then(match slR ra l h with
    | some r=>some (r,ρ3)
    | none=>none)else none
   | none=>none
  | none=>none
 | none=>none,a.mu++(lo.mu++hi.mu)⟩
theorem AI {ta:TE}{tl th:TO}{a:ME}{lo hi:MO}(ha:aP K ta a)(hl:rh K tl lo)(hh:rh K th hi):aP K (tSl (rSl K) ta tl th) (mSl a lo hi):=by with_unfolding_all
 intro Γ H ρ Z E Q r ρ' hK hr S q
 simp only[mSl]at hr
 split at hr
 ·rename_i ra ρ1 e1
  split at hr
  ·rename_i l ρ2 e2
   split at hr
   ·rename_i h ρ3 e3
    split at hr
    ·rename_i al
     split at hr
     ·rename_i r0 e4
      cases hr
      refine ha Γ H ρ Z E _ ra ρ1 hK e1 S λx H1 S1=>?_
      refine hl Γ H1 ρ1 Z _ _ l _ hK e2 S1 λH2 S2=>?_
      refine hh Γ H2 ρ2 Z _ _ h _ hK e3 S2 λH3 S3=>?_
      rw[af,ar (bv al),af]at S3
      have r1:=S3.rd ymS
      unfold slR slX at e4
      obtain⟨k0,t0⟩:=ra
      replace r1:Rpx Γ.K H3 t0 x:=r1
      dsimp only at e4
      split at e4
      ·cases e4
       obtain⟨p,xs,ex,g1,g2⟩:=bQ r1
       exact .inr (.inl ⟨p,xs,ex,aM g1,λp hp=>q _ _ ((S3.drop rfl).fresh (.li hp (g2.cut l h)))⟩)
      ·unfold slI at e4
       split at e4
       ·rename_i is
        split at e4
        ·cases e4
        ·rename_i hw
         cases e4
         obtain⟨p,xs,ex,g1,g2⟩:=bG r1
         rw[hK]at g1
         exact .inl ⟨p,xs,ex,g1,by rw[g2.length];exact hw,λp hp=>q _ _ ((S3.drop rfl).fresh (.tup hp (g2.cut l h)))⟩
       ·split at e4
        ·rename_i hz
         cases e4
         exact .inr (.inr ⟨_,cJ r1,hz,q _ _ ((S3.drop rfl).imm (iO rfl))⟩)
        ·cases e4
       ·cases e4
      ·rename_i ts
       split at e4
       ·rename_i ro p0
        cases e4
        obtain⟨p,xs,F,ex0,g1,g2⟩:=fA r1
        have ex:x=.ref p:=ex0
        refine .inr (.inl ⟨p,xs,ex,aM g1,λp' hp=>?_⟩)
        obtain⟨w,hw,S4⟩:=S3.partN (H':=upd H3 p' (.lst (i7 xs l h))) (Same.laid hp) (s:=.lst (cu ts l h)) ymS rfl (P:=λw=>w=.ref p') (λF rp=>by
         have rp':Rp Γ.K H3 (.lst ts) x F:=rp
         rw[Rp]at rp'
         obtain⟨a',xs',F',ex',g1',g2',rfl⟩:=rp'
         rw[ex]at ex'
         cases ex'
         have e3:xs'=xs:=by
          rcases g1 with g1|⟨o,g1⟩<;>rcases g1' with g1'|⟨o',g1'⟩<;>rw[g1]at g1'<;>cases g1'<;>rfl
         subst e3
         obtain⟨A,G,B,g3,rfl⟩:=g2'.cut l h
         refine⟨.ref p',p'::G,rfl,?_,λb hb=>?_⟩
         ·rw[Rp]
          exact⟨p',_,G,rfl,.inl ax,g3.same (Same.laid hp),rfl⟩
         ·rcases ycM hb with rfl|hb
          ·exact .inr hp
          ·exact .inl (ymC _ (yaL _ (yaR _ hb))))
        subst hw
        exact q _ _ (S4.swap.drop rfl)
       ·cases e4
      ·cases e4
     ·cases hr
    ·cases hr
   ·cases hr
  ·cases hr
 ·cases hr
@[irreducible] noncomputable def uq:T->Option T
 | .im (.tup is)=>some (.im (.tup is.reverse))
 | _=>none
theorem w8 {ta:TE}{a:ME}(ha:aP K ta a):aP K (uG K ta) (mUn uq a):=by with_unfolding_all
 intro Γ H ρ Z E Q r ρ' hK hr S q
 simp only[mUn]at hr
 split at hr
 ·rename_i ra ρ1 e1
  split at hr
  ·rename_i t e2
   cases hr
   refine ha Γ H ρ Z E _ ra _ hK e1 S λx H1 S1=>?_
   have r1:=S1.rd ymS
   obtain⟨k,ta⟩:=ra
   unfold uq at e2
   split at e2
   ·rename_i is e0
    cases e2
    have e0':ta=.im (.tup is):=e0
    subst e0'
    obtain⟨p,xs,ex,g1,g2⟩:=bG r1
    rw[hK]at g1
    exact⟨p,xs,ex,g1,λp hp=>q _ _ ((S1.drop rfl).fresh (.tup hp g2.reverse))⟩
   ·cases e2
  ·cases hr
 ·cases hr
def dy (K:yF)(red:V->List V->Hp->VK->Prop)(f:T->List T->Option (T×I)):Prop:=∀(H:Hp) (w:V) (vs:List V) (s:T) (ts:List T) (s':T) (i:I) (G F:List Addr) (Q:VK),Rp K H s w G->Rps K H ts vs F->(G++F).Nodup->(∀a∈G++F,Mu H a)->f s ts=some (s',i) →
 (∀v H' G',OffM G H H'->(∀a∈G,∃o,H' a=some o)->G'.Nodup->(∀a∈G',(a∈G++F∨H a=none)/\Mu H' a)->Rp K H' s' w G'->RpI K H' i v->Q v H')->red w vs H Q
@[irreducible] noncomputable def mutR (i:Nat)(mv:List Nat)(f:T->List T->Option (T×I))(r0:R)(rs:List R)(ρ1:Rho):Option (R×Rho):=match r0 with
 | ⟨.vw (some j) (some p),s⟩=>if(decide (j=i) && !mv.contains i)=true then(match consL mv rs ρ1 with
  | some (ts,ρ2)=>(match f s ts with
   | some (s',res)=>(match ρ2[i]? with
    | some (some ⟨k,t⟩)=>if k.isOw=true then some (⟨.ow,.im res⟩,(ao [i] ρ2).set i (some ⟨k,t.put p s'⟩))else none
    | _=>none)
   | none=>none)
  | none=>none)else none
 | _=>none
theorem Sim.mutR {i:Nat}{mv:List Nat}{red:V->List V->Hp->VK->Prop}{f:T->List T->Option (T×I)}{r0:R}{rs:List R}{r:R}{ρ1 ρ':Rho}{vs:List V}(hK : Γ.K=K)(hp:dy K red f)(h:L2.mutR i mv f r0 rs ρ1=some (r,ρ'))(hl:vs.length=rs.length)(S:Sim Γ H ρ1 Z (ens vs rs++⟨none,x,r0⟩::E))(q:∀v H',Sim Γ H' ρ' Z (⟨none,v,r⟩::ae (mv++[i]) E)->Q v H'):red x vs H Q:=by
 unfold L2.mutR at h
 split at h
 ·rename_i j p s
  split at h
  ·rename_i hc
   rw[DU,decide_eq_true_eq,EB]at hc
   obtain⟨rfl,hmv⟩:=hc
   split at h
   ·rename_i ts ρ2 e1
    split at h
    ·rename_i s' res e2
     split at h
     ·rename_i k t e3
      split at h
      ·rename_i ho
       cases h
       obtain⟨hl2,S2⟩:=Sim.consL (A:=[]) (by simpa using S) hl e1 (by simp)
       rw[EK,ar (show az mv ⟨none,x,⟨.vw (some j) (some p),s⟩⟩=true by unfold az;simp only[Kd.root];rw[hmv];rfl)]at S2
       obtain⟨G,F,h1,h2,h3,h4,h5⟩:=S2.mut hl2 e3 ho
       rw[hK]at h1 h2
       refine hp H x vs s ts s' res G F Q h1 h2 h3 h4 e2 λv H' G' a b c d e g=>q v H' ?_
       rw[←af]
       rw[←hK]at e g
       exact(h5 H' s' G' a b c d e).imm g
      ·cases h
     ·cases h
    ·cases h
   ·cases h
  ·cases h
 ·cases h
@[irreducible] noncomputable def cH (i:Nat)(mv:List Nat)(f:T->List T->Option (T×I))(o:ME)(a:MA):ME:=⟨λρ=>match o.run ρ with
 | some (r0,ρ0)=>match a.run ρ0 with
  | some (rs,ρ1)=>if aC a.mu r0=true then L2.mutR i mv f r0 rs ρ1 else none
  | none=>none
 | none=>none,(o.mu++a.mu)++(mv++[i])⟩
theorem wV {T0:String}{red:V->List V->Hp->VK->Prop}{f:T->List T->Option (T×I)}{i:Nat}{mv:List Nat}{to:TE}{ta:TA}{o:ME}{a:MA}(hp:dy K red f)(hty:∀(H:Hp) (x:V) (tx:T) ts r,Rpx K H tx x->f tx ts=some r->tyV K T0 x H)(ho:aP K to o)(ha:fe K ta a):aP K (tBM K T0 red to ta) (cH i mv f o a):=by
 intro Γ H ρ Z E Q r ρ' hK hr S q
 simp only[cH]at hr q
 split at hr
 ·rename_i r0 ρ0 e0
  split at hr
  ·rename_i rs ρ1 e1
   split at hr
   ·rename_i al
    refine ho Γ H ρ Z E _ r0 _ hK e0 S λx H1 S1=>?_
    have r0':=S1.rd ymS
    rw[hK]at r0'
    refine⟨?_,?_⟩
    ·unfold L2.mutR at hr
     split at hr
     ·split at hr
      ·split at hr
       ·split at hr
        ·rename_i e2;exact hty H1 x _ _ _ r0' e2
        ·cases hr
       ·cases hr
      ·cases hr
     ·cases hr
    ·refine ha Γ H1 ρ0 Z _ _ rs _ hK e1 S1 λvs H2 hl S2=>?_
     rw[ar (bv al),af]at S2
     exact Sim.mutR hK hp hr hl S2 λv H' S3=>q v H' (by rw[←af];exact S3)
   ·cases hr
  ·cases hr
 ·cases hr
@[irreducible] noncomputable def kf (i:Nat)(f:T->List T->Option (T×I))(o:ME):ME:=⟨λρ=>match o.run ρ with
 | some (r0,ρ0)=>L2.mutR i [] f r0 [] ρ0
 | none=>none,o.mu++[i]⟩
theorem uh {T0:String}{red:V->List V->Hp->VK->Prop}{f:T->List T->Option (T×I)}{i:Nat}{to:TE}{o:ME}(hp:dy K red f)(hty:∀(H:Hp) (x:V) (tx:T) ts r,Rpx K H tx x->f tx ts=some r->tyV K T0 x H)(ho:aP K to o):aP K (AT K T0 red to) (kf i f o):=by
 intro Γ H ρ Z E Q r ρ' hK hr S q
 simp only[kf]at hr q
 split at hr
 ·rename_i r0 ρ0 e0
  refine ho Γ H ρ Z E _ r0 _ hK e0 S λx H1 S1=>?_
  have r0':=S1.rd ymS
  rw[hK]at r0'
  refine⟨?_,?_⟩
  ·unfold L2.mutR at hr
   split at hr
   ·split at hr
    ·split at hr
     ·split at hr
      ·rename_i e2;exact hty H1 x _ _ _ r0' e2
      ·cases hr
     ·cases hr
    ·cases hr
   ·cases hr
  ·exact Sim.mutR (vs:=[]) (mv:=[]) hK hp hr rfl S1 λv H' S3=>q v H' (by rw[←af];exact S3)
 ·cases hr
theorem jn {is:List I}{w:V}{G:List Addr}(h:Rp K H (.li is) w G)(mu:∀a∈G,Mu H a):∃a xs,w=.ref a/\H a=some (.lst xs)/\RpIs K H is xs/\G=[a]:=by
 rw[Rp]at h
 obtain⟨a,xs,h1,h2,h3,rfl⟩:=h
 exact⟨a,xs,h1,(mu a ymS).lst h2,h3,rfl⟩
theorem za {ts:List T}{w:V}{G:List Addr}(h:Rp K H (.lst ts) w G)(mu:∀a∈G,Mu H a):∃a xs F,w=.ref a/\H a=some (.lst xs)/\Rps K H ts xs F/\G=a::F:=by
 rw[Rp]at h
 obtain⟨a,xs,F,h1,h2,h3,rfl⟩:=h
 exact⟨a,xs,F,h1,(mu a ymS).lst h2,h3,rfl⟩
theorem gy {is':List I}{xs xs':List V}{a:Addr}{F:List Addr}{i:I}{v:V}(hH:H a=some (.lst xs))(hr:RpIs K H is' xs')(hi:RpI K H i v)
  (q:∀v H' G',OffM [a] H H'->(∀b∈[a],∃o,H' b=some o)->G'.Nodup->(∀b∈G',(b∈[a]++F∨H b=none)/\Mu H' b)->Rp K H' (.li is') (.ref a) G'->RpI K H' i v->Q v H'):Q v (upd H a (.lst xs')):=by
 have hM:∀b∈[a],Mu H b:=λb hb=>by rw[ysM hb];exact⟨_,hH,rfl⟩
 refine q v _ [a] OffM.upd (λb hb=>by rw[ysM hb];exact⟨_,ax⟩) (by simp) (λb hb=>?_) ?_ (hi.off OffM.upd hM)
 ·rw[ysM hb];exact⟨.inl (by simp),_,ax,rfl⟩
 ·rw[Rp];exact⟨a,xs',rfl,.inl ax,hr.off OffM.upd hM,rfl⟩
theorem pi {ts':List T}{xs xs':List V}{a:Addr}{G F F':List Addr}{i:I}{v:V}(hH:H a=some (.lst xs))(nd:(a::F').Nodup)(mu:∀b∈F',Mu H b)(hF:∀b∈F',b∈(a::G)++F)(hr:Rps K H ts' xs' F')(hi:RpI K H i v)
  (q:∀v H' G',OffM (a::G) H H'->(∀b∈a::G,∃o,H' b=some o)->G'.Nodup->(∀b∈G',(b∈(a::G)++F∨H b=none)/\Mu H' b)->Rp K H' (.lst ts') (.ref a) G'->RpI K H' i v->Q v H') (dG:∀b∈G,∃o,H b=some o):Q v (upd H a (.lst xs')):=by
 have hM:∀b∈[a],Mu H b:=λb hb=>by rw[ysM hb];exact⟨_,hH,rfl⟩
 have na:∀b∈F',b≠a:=λb hb z=>(Ep.mp nd).1 (z▸hb)
 refine q v _ (a::F') (OffM.upd.mono λb hb=>by rw[ysM hb];exact ymS) (λb hb=>?_) nd (λb hb=>?_) ?_ (hi.off OffM.upd hM)
 ·by_cases e:b=a
  ·subst e;exact⟨_,ax⟩
  ·rcases ycM hb with z|z
   ·exact absurd z e
   ·obtain⟨o,h⟩:=dG b z;exact⟨o,by rw[upd_ne e];exact h⟩
 ·rcases ycM hb with rfl|hb
  ·exact⟨.inl (by simp),_,ax,rfl⟩
  ·refine⟨.inl (hF b hb),?_⟩
   obtain⟨o,h,m⟩:=mu b hb
   exact⟨o,by rw[upd_ne (na b hb)];exact h,m⟩
 ·rw[Rp]
  refine⟨a,xs',F',rfl,.inl ax,hr.off OffM.upd hM (λb hb z=>na b hb (ysM z)),rfl⟩
noncomputable def ap1 (s t:T):Option (T×I):=match s with
 | .li is=>(match t with
  | .im i=>if is.length<sizeLine then some (.li (is++[i]),.non)else none
  | _=>if is.length<sizeLine then some (.lst (is.map .im++[t]),.non)else none)
 | .lst ts=>if ts.length<sizeLine then some (.lst (ts++[t]),.non)else none
 | _=>none
@[irreducible] noncomputable def apT (s:T)(ts:List T):Option (T×I):=l1 (ap1 s) ts
theorem qM {t:T}{vs:List V}{F:List Addr}(h:Rps K H [t] vs F):∃v,vs=[v]/\Rp K H t v F:=by
 obtain⟨v,r,F1,F2,rfl,h1,h2,rfl⟩:=h.cons_inv
 obtain⟨rfl,rfl⟩:=h2.nil_inv
 exact⟨v,rfl,by rw[El];exact h1⟩
theorem DJ {t u:T}{vs:List V}{F:List Addr}(h:Rps K H [t,u] vs F):∃v w F1 F2,vs=[v,w]/\Rp K H t v F1/\Rp K H u w F2/\F=F1++F2:=by
 obtain⟨v,r,F1,F2,rfl,h1,h2,rfl⟩:=h.cons_inv
 obtain⟨w,rfl,h3⟩:=qM h2
 exact⟨v,w,F1,F2,rfl,h1,h3,rfl⟩
theorem bF:RpI K H .non .non:=by rw[RpI]
theorem mw:dy K ln apT:=by
 intro H w vs s ts s' i G F Q rw0 rs nd mu e q
 unfold apT at e
 have e0:=bU e
 clear e
 obtain⟨tt,rfl,e⟩:=e0
 obtain⟨y,rfl,h3⟩:=qM rs
 unfold ap1 at e
 split at e
 ·rename_i is
  obtain⟨a,xs,rfl,h1,h2,rfl⟩:=jn rw0 λa ha=>mu a (yaL _ ha)
  split at e
  ·obtain⟨hz,e⟩:=aJ e
   cases e
   exact⟨a,xs,y,rfl,rfl,h1,by rw[h2.length];exact hz,gy h1 (h2.append (.one (ba h3).1)) bF q⟩
  ·obtain⟨hz,e⟩:=aJ e
   cases e
   refine⟨a,xs,y,rfl,rfl,h1,by rw[h2.length];exact hz,pi (G:=[]) (F:=F) (F':=F) h1 nd (λb hb=>mu b (yaR _ hb)) (λb hb=>yaR _ hb) ?_ bF q (by simp)⟩
   have:=Rps.append (Rps.ims.mpr ⟨h2,rfl⟩) (Rps.cons h3 Rps.nil)
   simpa using this
 ·obtain⟨hz,e⟩:=aJ e
  cases e
  obtain⟨a,xs,F0,rfl,h1,h2,rfl⟩:=za rw0 λa ha=>mu a (yaL _ ha)
  have mm:∀b∈F0++F,b∈(a::F0)++F:=λb hb=>(yaM hb).elim (λz=>yaL _ (ymC _ z)) λz=>yaR _ z
  refine⟨a,xs,y,rfl,rfl,h1,by rw[h2.length];exact hz,pi (G:=F0) (F:=F) (F':=F0++F) h1 (by simpa using nd) (λb hb=>mu b (mm b hb)) mm ?_ bF q (λb hb=>h2.dom b hb)⟩
  have:=Rps.append h2 (Rps.cons h3 Rps.nil)
  simpa using this
 ·cases e
theorem ph {is:List I}{x:V}(h:Rpx K H (.li is) x):tyV K "list" x H:=by
 obtain⟨a,xs,rfl,h1,h2⟩:=bQ h
 exact .inl ⟨rfl,xs,aM h1⟩
theorem AY {is:List T}{x:V}(h:Rpx K H (.lst is) x):tyV K "list" x H:=by
 obtain⟨a,xs,F,rfl,h1,h2⟩:=fA h
 exact .inl ⟨rfl,xs,aM h1⟩
theorem qT (H:Hp)(x:V)(tx:T)(ts:List T)(r:T×I)(h:Rpx K H tx x)(e:apT tx ts=some r):tyV K "list" x H:=by
 unfold apT at e
 obtain⟨t,_,e⟩:=bU e
 unfold ap1 at e
 split at e
 ·exact ph h
 ·exact AY h
 ·cases e
noncomputable def yG (s t:T):Option (T×I):=match rS s with
 | some is=>(match rS t with
  | some js=>if is.length+js.length<=sizeLine then some (.li (is++js),.non)else none
  | none=>(match yR t with
   | some js=>if is.length+js.length<=sizeLine then some (.li (is++js),.non)else none
   | none=>none))
 | none=>none
@[irreducible] noncomputable def kZ (s:T)(ts:List T):Option (T×I):=l1 (yG s) ts
theorem my:dy K (tQ K) kZ:=by
 intro H w vs s ts s' i G F Q rw0 rs nd mu e q
 unfold kZ at e
 have e0:=bU e
 clear e
 obtain⟨tt,rfl,e⟩:=e0
 obtain⟨y,rfl,h3⟩:=qM rs
 unfold yG at e
 split at e
 ·rename_i is es
  cases dZ es
  obtain⟨a,xs,rfl,h1,h2,rfl⟩:=jn rw0 λa ha=>mu a (yaL _ ha)
  split at e
  ·rename_i js ej
   cases dZ ej
   obtain⟨hz,e⟩:=aJ e
   cases e
   rw[Rp]at h3
   obtain⟨b,ys,rfl,g1,g2,rfl⟩:=h3
   exact .inl ⟨a,b,xs,ys,rfl,rfl,h1,g1,by rw[h2.length,g2.length];exact hz,gy h1 (h2.append g2) bF q⟩
  ·split at e
   ·rename_i js ej
    cases lZ ej
    obtain⟨hz,e⟩:=aJ e
    cases e
    have h4:=(ba h3).1
    rw[RpI]at h4
    obtain⟨b,ys,rfl,g1,g2⟩:=h4
    exact .inr ⟨a,b,xs,ys,rfl,rfl,h1,g1,by rw[h2.length,g2.length];exact hz,gy h1 (h2.append g2) bF q⟩
   ·cases e
 ·cases e
theorem qU (H:Hp)(x:V)(tx:T)(ts:List T)(r:T×I)(h:Rpx K H tx x)(e:kZ tx ts=some r):tyV K "list" x H:=by
 unfold kZ at e
 obtain⟨t,_,e⟩:=bU e
 unfold yG at e
 split at e
 ·rename_i is es
  cases dZ es
  exact ph h
 ·cases e
@[irreducible] noncomputable def mr:T->List T->Option (T×I)
 | .li is,[]=>match is[is.length-1]? with
  | some i=>some (.li is.dropLast,i)
  | none=>none
 | _,_=>none
theorem RpIs.dropLast {is:List I}{xs:List V}(h:RpIs K H is xs):RpIs K H is.dropLast xs.dropLast:=by
 rw[GC,GC,h.length]
 exact h.take _
theorem tp:dy K Az mr:=by
 intro H w vs s ts s' i G F Q rw0 rs nd mu e q
 unfold mr at e
 split at e
 ·rename_i is
  split at e
  ·rename_i j hj
   cases e
   obtain⟨a,xs,rfl,h1,h2,rfl⟩:=jn rw0 λa ha=>mu a (yaL _ ha)
   obtain⟨rfl,rfl⟩:=rs.nil_inv
   obtain⟨y,hy,r⟩:=h2.get hj
   rw[←h2.length]at hy
   exact⟨a,xs,y,rfl,rfl,h1,hy,gy h1 h2.dropLast r q⟩
  ·cases e
 ·cases e
theorem AZ (H:Hp)(x:V)(tx:T)(ts:List T)(r:T×I)(h:Rpx K H tx x)(e:mr tx ts=some r):tyV K "list" x H:=by
 unfold mr at e
 split at e
 ·exact ph h
 ·cases e
noncomputable def yP (s n t:T):Option (T×I):=match rS s with
 | some is=>(match isI n with
  | some n=>(match t with
   | .im i=>if 0<=n/\n<=is.length/\is.length<sizeLine then some (.li (is.take n.toNat++i::is.drop n.toNat),.non)else none
   | _=>none)
  | none=>none)
 | none=>none
@[irreducible] noncomputable def lc (s:T)(ts:List T):Option (T×I):=l2 (yP s) ts
theorem mz:dy K lq lc:=by
 intro H w vs s ts s' i G F Q rw0 rs nd mu e q
 unfold lc at e
 have e0:=jj e
 clear e
 obtain⟨tn,tt,rfl,e⟩:=e0
 obtain⟨y,z,F1,F2,rfl,g1,g2,rfl⟩:=DJ rs
 unfold yP at e
 split at e
 ·rename_i is es
  cases dZ es
  obtain⟨a,xs,rfl,h1,h2,rfl⟩:=jn rw0 λa ha=>mu a (yaL _ ha)
  split at e
  ·rename_i n en
   cases cR en
   split at e
   ·obtain⟨hz,e⟩:=aJ e
    cases e
    have e1:=aK ⟨F1,g1⟩
    subst e1
    exact⟨a,xs,n,z,rfl,rfl,h1,hz.1,by rw[h2.length];exact hz.2.1,by rw[h2.length];exact hz.2.2,gy h1 ((h2.take _).append (.cons (ba g2).1 (h2.drop _))) bF q⟩
   ·cases e
  ·cases e
 ·cases e
theorem qV (H:Hp)(x:V)(tx:T)(ts:List T)(r:T×I)(h:Rpx K H tx x)(e:lc tx ts=some r):tyV K "list" x H:=by
 unfold lc at e
 obtain⟨t,u,_,e⟩:=jj e
 unfold yP at e
 split at e
 ·rename_i is es
  cases dZ es
  exact ph h
 ·cases e
@[irreducible] noncomputable def uw (s:T)(n:T)(v:T):Option T:=match s,n,v with
 | .li is,.im (.int n),.im i=>match ixN is.length n with
  | some j=>some (.li (is.set j i))
  | none=>none
 | _,_,_=>none
@[irreducible] noncomputable def nu (j:Nat)(o i:ME):MG:=⟨λr ρ=>match r with
 | ⟨.ow,tv⟩=>match o.run ρ with
  | some (⟨.vw (some j') (some p),s⟩,ρ1)=>match i.run ρ1 with
   | some (ri,ρ2)=>if(decide (j'=j) && !i.mu.contains j)=true then(match uw s ri.t tv with
    | some s'=>(match ρ2[j]? with
     | some (some ⟨k,t⟩)=>if k.isOw=true then some ((ao [j] ρ2).set j (some ⟨k,t.put p s'⟩))else none
     | _=>none)
    | none=>none)else none
   | none=>none
  | _=>none
 | _=>none,(o.mu++i.mu)++[j]⟩
theorem RpIs.set' {is:List I}{xs:List V}{i:I}{w:V}(hx:RpI K H i w)(n:Nat)(h:RpIs K H is xs):RpIs K H (is.set n i) (xs.set n w):=RpIs.set hx n h
theorem xb {to ti:TE}{o i:ME}{j:Nat}(ho:aP K to o)(hi:aP K ti i):g9 K (yM to ti yi) (nu j o i):=by
 intro Γ H ρ Z E Q v r ρ' hK hr S q
 simp only[nu]at hr q
 split at hr
 ·rename_i tv
  split at hr
  ·rename_i j' p s ρ1 e1
   split at hr
   ·rename_i ri ρ2 e2
    split at hr
    ·rename_i hc
     rw[DU,decide_eq_true_eq,EB]at hc
     obtain⟨rfl,hmv⟩:=hc
     split at hr
     ·rename_i s' e3
      split at hr
      ·rename_i k t e4
       split at hr
       ·rename_i hw
        cases hr
        refine ho Γ H ρ Z _ _ _ _ hK e1 S λx H1 S1=>?_
        refine hi Γ H1 ρ1 Z _ _ _ _ hK e2 S1 λy H2 S2=>?_
        have k1:az i.mu ⟨none,x,⟨.vw (some j') (some p),s⟩⟩=true:=by unfold az;simp only[Kd.root];rw[hmv];rfl
        have k2:∀M:List Nat,az M ⟨none,v,⟨.ow,tv⟩⟩=true:=λM=>rfl
        rw[ar k1,af,ar (k2 _)]at S2
        have ry:=S2.rd ymS
        have S3:=S2.drop rfl
        obtain⟨G,F,h1,h2,h3,h4,h5⟩:=Sim.mut (vs:=[v]) (ts:=[tv]) (S3.perm (List.Perm.swap _ _ _)) rfl e4 hw
        generalize hri:ri.t=tri at e3
        unfold uw at e3
        split at e3
        ·rename_i is n i0
         split at e3
         ·rename_i m hm
          cases e3
          obtain⟨a,xs,rfl,g1,g2,rfl⟩:=jn h1 λa ha=>h4 a (yaL _ ha)
          obtain⟨z,ez,g3⟩:=qM h2
          cases ez
          obtain⟨g4,rfl⟩:=ba g3
          have ry':∃F,Rp Γ.K H2 ri.t y F:=ry
          have ey:y=.int n:=by rw[hri]at ry';exact aK ry'
          subst ey
          refine⟨a,xs,n,m,rfl,rfl,g1,by rw[g2.length];exact hm,?_⟩
          refine gy (Q:=λ_ H'=>Q Z H') (F:=[]) (v:=.non) (i:=.non) g1 (g2.set' g4 m) bF λv' H' G' a1 a2 a3 a4 a5 _=>q Z H' ?_
          have:=h5 H' _ G' a1 a2 a3 a4 a5
          rw[af]at this
          exact this
         ·cases e3
        ·cases e3
       ·cases hr
      ·cases hr
     ·cases hr
    ·cases hr
   ·cases hr
  ·cases hr
 ·cases hr
end
section
variable  {Γ:Gm}{H H':Hp}{ρ:Rho}{Z:St}{E:List En}{v x y:V}{t:T}{K:yF}{Q:VK}
theorem hV {M N:List Nat}(h:∀j∈N,j∈M){e:En}(k:az M e=true):az N e=true:=by
 unfold az at k⊢
 split at k
 ·rename_i j hj
  simp only[EB,ET,decide_eq_false_iff_not]at k⊢
  exact λz=>k (h j z)
 ·rfl
theorem cv {M N:List Nat}(h:∀j∈N,j∈M)(E:List En):ae N (ae M E)=ae M E:=by
 unfold ae
 rw[Fc]
 intro e he
 exact hV h (D7.mp he).2
noncomputable def itW (c:MT) (b:MS):Nat->Rho->Option (Fl×Rho)
 | 0,_=>none
 | n+1,ρ=>match c.run ρ with
  | some (true,ρ1)=>(match b.run ρ1 with
   | some (.nx,ρ2)=>itW c b n ρ2
   | some (.ct,ρ2)=>itW c b n ρ2
   | some (.bk,ρ2)=>some (.nx,ρ2)
   | some (.rt t,ρ2)=>some (.rt t,ρ2)
   | none=>none)
  | some (false,ρ1)=>some (.nx,ρ1)
  | none=>none
theorem ee {c:MT}{b:MS}:∀{n:Nat} {ρ:Rho} {r:Fl×Rho},itW c b n ρ=some r->∀m,n<=m->itW c b m ρ=some r
 | 0,_,_,h,_,_=>by cases h
 | n+1,ρ,r,h,m,hm=>by
  obtain⟨m',rfl⟩:∃m',m=m'+1:=⟨m-1,by omega⟩
  rw[itW]at h⊢
  split at h
  ·rename_i ρ1 e1
   split at h
   ·rename_i ρ2 e2;exact ee h m' (by omega)
   ·rename_i ρ2 e2;exact ee h m' (by omega)
   ·exact h
   ·exact h
   ·exact h
  ·exact h
  ·exact h
noncomputable def uM (c:MT) (b:MS) (ρ:Rho):Option (Fl×Rho):=@dite _ (∃n,(itW c b n ρ).isSome=true) (Classical.propDecidable _) (λh=>itW c b (Classical.choose h) ρ) (λ_=>none)
@[irreducible] noncomputable def eJ (c:MT)(b:MS):MS:=⟨uM c b,c.mu++b.mu⟩
theorem qX {c:MT}{b:MS}{r:Fl×Rho}{n:Nat}(h:itW c b n ρ=some r):(eJ c b).run ρ=some r:=by with_unfolding_all
 have hx:∃n,(itW c b n ρ).isSome=true:=⟨n,by rw[h];rfl⟩
 show uM c b ρ=_
 unfold uM
 rw[dif_pos hx]
 have h2:=Classical.choose_spec hx
 cases e:itW c b (Classical.choose hx) ρ with
 | none=>rw[e]at h2;cases h2
 | some r'=>
  have a:=ee h (max n (Classical.choose hx)) (Gy _ _)
  have b':=ee e (max n (Classical.choose hx)) (Gk _ _)
  rw[a]at b'
  exact b'.symm
theorem uX {c:MT}{b:MS}{r:Fl×Rho}(h:(eJ c b).run ρ=some r):∃n,itW c b n ρ=some r:=by with_unfolding_all
 have h':uM c b ρ=some r:=h
 unfold uM at h'
 split at h'
 ·exact⟨_,h'⟩
 ·cases h'
theorem qJ {tc:TT}{tb:TS}{c:MT}{b:MS}(hc:ff K tc c)(hb:dH K tb b):dH K (uH tc tb) (eJ c b):=by with_unfolding_all
 intro Γ H ρ Z E D f ρ' hK hE hr S q
 obtain⟨n,hn⟩:=uX hr
 have qe:(eJ c b).mu=c.mu++b.mu:=rfl
 rw[qe]at q
 have kc:ae c.mu (ae (c.mu++b.mu) E)=ae (c.mu++b.mu) E:=cv (λj hj=>yaL _ hj) E
 have kb:ae b.mu (ae (c.mu++b.mu) E)=ae (c.mu++b.mu) E:=cv (λj hj=>yaR _ hj) E
 have hE0:=bD (M:=c.mu++b.mu) hE
 have S0:=S.weak (c.mu++b.mu)
 generalize ae (c.mu++b.mu) E=E0 at q kc kb hE0 S0
 refine⟨λm Z H=>∃ρ,itW c b m ρ=some (f,ρ')/\Sim Γ H ρ Z E0,⟨n,ρ,hn,S0⟩,?_⟩
 ·rintro m Z1 H1 ⟨ρ1,h1,S1⟩
  cases m with
  | zero=>cases h1
  | succ m=>
   rw[itW]at h1
   split at h1
   ·rename_i ρ2 e1
    refine hc Γ H1 ρ1 Z1 E0 _ true ρ2 hK e1 S1 λH2 S2=>rV ?_
    rw[kc]at S2
    refine⟨λZ' H'=>∃ρ,itW c b m ρ=some (f,ρ')/\Sim Γ H' ρ Z' E0,λZ' H' ⟨ρ3,h3,S3⟩=>⟨m,Gj m,ρ3,h3,S3⟩,?_⟩
    split at h1
    ·rename_i ρ3 e2
     exact hb Γ H2 ρ2 Z1 E0 _ .nx ρ3 hK hE0 e2 S2 λZ' H' S3=>⟨ρ3,h1,by rw[kb]at S3;exact S3⟩
    ·rename_i ρ3 e2
     exact hb Γ H2 ρ2 Z1 E0 _ .ct ρ3 hK hE0 e2 S2 λZ' H' S3=>⟨ρ3,h1,by rw[kb]at S3;exact S3⟩
    ·rename_i ρ3 e2
     cases h1
     exact hb Γ H2 ρ2 Z1 E0 _ .bk _ hK hE0 e2 S2 λZ' H' S3=>q Z' H' (by rw[kb]at S3;exact S3)
    ·rename_i t ρ3 e2
     cases h1
     exact hb Γ H2 ρ2 Z1 E0 _ (.rt t) _ hK hE0 e2 S2 q
    ·cases h1
   ·rename_i ρ2 e1
    cases h1
    exact hc Γ H1 ρ1 Z1 E0 _ false _ hK e1 S1 λH2 S2=>rT (q Z1 H2 (by rw[kc]at S2;exact S2))
   ·cases h1
structure MI where
 run:Rho->Option ((List R×List R)×Rho)
 mu:List Nat
def gb (Γ:Gm)(J:It)(vs:List V)(srcs:List R)(items:List R):Prop:=∀(H:Hp) (ρ:Rho) (Z:St) (E:List En),Sim Γ H ρ Z (ens vs srcs++E)->(∀i,items.length<=i->J.stop i H)/\∀i r,items[i]?=some r->J.go i H/\∀x H',J.yld i H x H'->Sim Γ H' ρ Z (⟨none,x,r⟩::(ens vs srcs++E))
def i3 (K:yF)(wi:TI)(m:MI):Prop:=∀(Γ:Gm) (H:Hp) (ρ:Rho) (Z:St) (E:List En) (Rr:It->Hp->Prop) (srcs:List R) (items:List R) (ρ':Rho),Γ.K=K->m.run ρ=some ((srcs,items),ρ')->Sim Γ H ρ Z E->(∀J vs H',vs.length=srcs.length->Sim Γ H' ρ' Z (ens vs srcs++ae m.mu E)->gb Γ J vs srcs items->Rr J H')->wi Z H Rr
theorem de {M:List Nat}:∀{A:List En},(∀e∈A,az M e=true)->ae M A=A
 | [],_=>rfl
 | e::A,h=>by rw[ar (h e ymS),de λx hx=>h x (ymC _ hx)]
theorem i8 {M:List Nat}:∀{vs:List V} {rs:List R},rs.all (aC M)=true->∀e∈ens vs rs,az M e=true
 | [],rs,_,e,h=>by cases rs<;>cases h
 | _::_,[],_,e,h=>by cases h
 | v::vs,r::rs,ha,e,h=>by
  rw[E6,DU]at ha
  rcases ycM h with rfl|h
  ·exact ha.1
  ·exact i8 ha.2 e h
theorem lT:∀{vs:List V} {rs:List R},∀e∈ens vs rs,e.key=none
 | [],rs,e,h=>by cases rs<;>cases h
 | _::_,[],e,h=>by cases h
 | v::vs,r::rs,e,h=>by
  rcases ycM h with rfl|h
  ·rfl
  ·exact lT e h
noncomputable def jw (n:Int):R:=⟨.ow,.im (.int n)⟩
noncomputable def nL:R:=⟨.ow,.im .non⟩
noncomputable def gr (lo:Int) (n:Nat):List R:=(Es n).map λi:Nat=>jw (lo+(i:Int))
theorem mW {lo:Int}{n:Nat}:gb Γ (Itr lo n) [.non] [nL] (gr lo n):=λH ρ Z E S=>by
 refine⟨λi hi=>(show n<=i by simpa[gr]using hi),λi r hr=>?_⟩
 unfold gr at hr
 rw[DZ]at hr
 cases e:(Es n)[i]? with
 | none=>rw[e]at hr;cases hr
 | some m=>
  rw[e]at hr;cases hr
  obtain⟨h1,h2⟩:=DR.mp e
  simp at h1 h2
  subst h2
  refine⟨h1,λx H' y=>?_⟩
  obtain⟨rfl,rfl⟩:=y
  exact S.imm (iO rfl)
noncomputable def ii2 (x y:T):Option (Int×Int):=match isI x with
 | some i=>(match isI y with
  | some j=>some (i,j)
  | none=>none)
 | none=>none
theorem vq {x y:T}{i j:Int}(h:ii2 x y=some (i,j)):x=.im (.int i)/\y=.im (.int j):=by
 unfold ii2 at h
 split at h
 ·rename_i a ea
  split at h
  ·rename_i b eb
   cases h
   exact⟨cR ea,cR eb⟩
  ·cases h
 ·cases h
@[irreducible] noncomputable def aU (a:MA):MI:=⟨λρ=>match a.run ρ with
 | some (rs,ρ1)=>(match l1 isI (rs.map (·.t))with
  | some j=>if -(2^62)<=j/\j<2^62 then some (([nL],gr 0 j.toNat),ρ1)else none
  | none=>none)
 | none=>none,a.mu⟩
@[irreducible] noncomputable def fb (a:MA):MI:=⟨λρ=>match a.run ρ with
 | some (rs,ρ1)=>(match l2 ii2 (rs.map (·.t))with
  | some (i,j)=>if -(2^62)<=i/\i<2^62/\-(2^62)<=j/\j<2^62 then some (([nL],gr i (j-i).toNat),ρ1)else none
  | none=>none)
 | none=>none,a.mu⟩
theorem ul {ta:TA}{a:MA}(ha:fe K ta a):i3 K (xP ta) (aU a):=by with_unfolding_all
 intro Γ H ρ Z E Rr src items ρ' hK hr S q
 simp only[aU]at hr
 split at hr
 ·rename_i rs ρ1 e1
  split at hr
  ·rename_i j ej
   obtain⟨hj,e⟩:=aJ hr
   cases e
   obtain⟨t,et,ei⟩:=bU ej
   cases cR ei
   refine ha Γ H ρ Z E _ _ _ hK e1 S λvs H1 hl S1=>?_
   have r1:=S1.rds hl
   rw[et]at r1
   obtain⟨w,rfl,r2⟩:=jD r1
   refine⟨j,by rw[aK r2],hj.1,hj.2,q _ [.non] H1 rfl ?_ mW⟩
   exact S1.drops.imm bF
  ·cases hr
 ·cases hr
theorem um {ta:TA}{a:MA}(ha:fe K ta a):i3 K (xQ ta) (fb a):=by with_unfolding_all
 intro Γ H ρ Z E Rr src items ρ' hK hr S q
 simp only[fb]at hr
 split at hr
 ·rename_i rs ρ1 e1
  split at hr
  ·rename_i i j ej
   obtain⟨hj,e⟩:=aJ hr
   cases e
   obtain⟨t,u,et,ei⟩:=jj ej
   obtain⟨rfl,rfl⟩:=vq ei
   refine ha Γ H ρ Z E _ _ _ hK e1 S λvs H1 hl S1=>?_
   have r1:=S1.rds hl
   rw[et]at r1
   obtain⟨w,w',rfl,r2,r3⟩:=AN r1
   refine⟨i,j,by rw[aK r2,aK r3],hj,q _ [.non] H1 rfl ?_ mW⟩
   exact S1.drops.imm bF
  ·cases hr
 ·cases hr
noncomputable def gl:R->Option (List R)
 | ⟨_,.li is⟩=>some (is.map λi=>⟨.ow,.im i⟩)
 | ⟨.vw ro _,.lst ts⟩=>some (ts.map (partV ro))
 | ⟨_,.im (.ls is)⟩=>some (is.map λi=>⟨.ow,.im i⟩)
 | _=>none
noncomputable def je:R->Option (List R)
 | ⟨_,.im (.tup is)⟩=>some (is.map λi=>⟨.ow,.im i⟩)
 | _=>none
noncomputable def r9 (a:ME):MI:=⟨λρ=>match a.run ρ with
 | some (r,ρ1)=>(match gl r with
  | some rs=>some (([r],rs),ρ1)
  | none=>none)
 | none=>none,a.mu⟩
noncomputable def y6 (a:ME):MI:=⟨λρ=>match a.run ρ with
 | some (r,ρ1)=>(match je r with
  | some rs=>some (([r],rs),ρ1)
  | none=>none)
 | none=>none,a.mu⟩
theorem Rd.det {a:Addr}{xs ys:List V}(h:Rd H a (.lst xs))(g:Rd H a (.lst ys)):xs=ys:=by
 rcases h with h|⟨o,h⟩<;>rcases g with g|⟨o',g⟩<;>rw[h]at g<;>cases g<;>rfl
theorem aQ {α β:Type}{f : α->β}{l:List α}{i:Nat}{b : β}(h:(l.map f)[i]?=some b):∃a,l[i]?=some a/\f a=b:=by
 rw[DZ]at h
 cases e:l[i]? with
 | none=>rw[e]at h;cases h
 | some a=>rw[e]at h;exact⟨a,rfl,Em.inj h⟩
theorem Sim.partV {ro:Option Nat}{p:Option (List Ac)}{s:T}{e:En}{w:V}(S:Sim Γ H ρ Z E)(he:e∈E)(ho:e.r.k=.vw ro p)(hp:∀F,Rp Γ.K H e.r.t e.v F->∃G,Rp Γ.K H s w G/\∀a∈G,a∈F):Sim Γ H ρ Z (⟨none,w,L2.partV ro s⟩::E):=by
 cases s with
 | im i=>
  obtain⟨F,r⟩:=S.rd he
  obtain⟨G,g,_⟩:=hp F r
  exact S.imm (ba g).1
 | _=>
  obtain⟨w',h1,S2⟩:=S.part he ho (P:=λw'=>w'=w) (s:=_) (λF r=>let ⟨G,g,hG⟩:=hp F r;⟨w,G,rfl,g,hG⟩)
  subst h1
  exact S2
theorem Be {a:Addr}{src:R}{items:List R}(hi:gl src=some items):gb Γ (Itl Γ.K a) [.ref a] [src] items:=λH ρ Z E S=>by
 replace S:Sim Γ H ρ Z (⟨none,.ref a,src⟩::E):=S
 have r1:Rpx Γ.K H src.t (.ref a):=S.rd (e:=⟨none,.ref a,src⟩) ymS
 unfold gl at hi
 split at hi
 ·cases hi
  obtain⟨a',xs,ea,g1,g2⟩:=bQ r1
  cases ea
  refine⟨λi hi=>⟨xs,aM g1,by rw[g2.length];simpa using hi⟩,λi r hr=>?_⟩
  obtain⟨j,hj,rfl⟩:=aQ hr
  obtain⟨w,hw,rw0⟩:=g2.get hj
  refine⟨⟨xs,w,aM g1,hw⟩,λx H' y=>?_⟩
  obtain⟨rfl,y⟩:=y
  have:=y xs (aM g1)
  rw[hw]at this;cases this
  exact S.imm rw0
 ·rename_i ro p ts
  cases hi
  obtain⟨a',xs,F,ea,g1,g2⟩:=fA r1
  cases ea
  refine⟨λi hi=>⟨xs,aM g1,by rw[g2.length];simpa using hi⟩,λi r hr=>?_⟩
  obtain⟨j,hj,rfl⟩:=aQ hr
  obtain⟨w,A,G,B,hw,rw0,_⟩:=g2.at hj
  refine⟨⟨xs,w,aM g1,hw⟩,λx H' y=>?_⟩
  obtain⟨rfl,y⟩:=y
  have:=y xs (aM g1)
  rw[hw]at this;cases this
  refine S.partV (e:=⟨none,.ref a,⟨.vw ro p,.lst ts⟩⟩) ymS rfl λF rp=>?_
  have rp':Rp Γ.K _ (.lst ts) (.ref a) F:=rp
  rw[Rp]at rp'
  obtain⟨a'',xs',F',ea,k1,k2,rfl⟩:=rp'
  cases ea
  have:=k1.det g1
  subst this
  obtain⟨w',A',G',B',hw',rw',e',_⟩:=k2.at hj
  rw[hw]at hw';cases hw'
  exact⟨G',rw',λb hb=>by rw[e'];exact ymC _ (yaL _ (yaR _ hb))⟩
 ·cases hi
  obtain⟨a',xs,ea,g1,g2⟩:=yj r1
  cases ea
  refine⟨λi hi=>⟨xs,aM g1,by rw[g2.length];simpa using hi⟩,λi r hr=>?_⟩
  obtain⟨j,hj,rfl⟩:=aQ hr
  obtain⟨w,hw,rw0⟩:=g2.get hj
  refine⟨⟨xs,w,aM g1,hw⟩,λx H' y=>?_⟩
  obtain⟨rfl,y⟩:=y
  have:=y xs (aM g1)
  rw[hw]at this;cases this
  exact S.imm rw0
 ·cases hi
theorem lx {ta:TE}{a:ME}(ha:aP K ta a):i3 K (oN K ta) (r9 a):=by
 intro Γ H ρ Z E Rr srcs items ρ' hK hr S q
 simp only[r9]at hr
 split at hr
 ·rename_i src ρ1 e1
  split at hr
  ·rename_i rs e2
   cases hr
   refine ha Γ H ρ Z E _ _ _ hK e1 S λx H1 S1=>?_
   have r1:Rpx Γ.K H1 src.t x:=S1.rd (e:=⟨none,x,src⟩) ymS
   have hx:∃a xs,x=.ref a/\SqL K H1 a xs:=by
    unfold gl at e2
    split at e2
    ·obtain⟨a,xs,e,g1,g2⟩:=bQ r1;exact⟨a,xs,e,aM g1⟩
    ·obtain⟨a,xs,F,e,g1,g2⟩:=fA r1;exact⟨a,xs,e,aM g1⟩
    ·obtain⟨a,xs,e,g1,g2⟩:=yj r1;exact⟨a,xs,e,aM g1⟩
    ·cases e2
   obtain⟨b,xs,rfl,h2⟩:=hx
   exact⟨b,rfl,⟨xs,h2⟩,q _ [.ref b] H1 rfl S1 (by rw[←hK];exact Be e2)⟩
  ·cases hr
 ·cases hr
theorem Bf {a:Addr}{src:R}{items:List R}(hi:je src=some items):gb Γ (Itt Γ.K a) [.ref a] [src] items:=λH ρ Z E S=>by
 replace S:Sim Γ H ρ Z (⟨none,.ref a,src⟩::E):=S
 have r1:Rpx Γ.K H src.t (.ref a):=S.rd (e:=⟨none,.ref a,src⟩) ymS
 unfold je at hi
 split at hi
 ·cases hi
  obtain⟨a',xs,ea,g1,g2⟩:=bG r1
  cases ea
  refine⟨λi hi=>⟨xs,g1,by rw[g2.length];simpa using hi⟩,λi r hr=>?_⟩
  obtain⟨j,hj,rfl⟩:=aQ hr
  obtain⟨w,hw,rw0⟩:=g2.get hj
  refine⟨⟨xs,w,g1,hw⟩,λx H' y=>?_⟩
  obtain⟨rfl,y⟩:=y
  have:=y xs g1
  rw[hw]at this;cases this
  exact S.imm rw0
 ·cases hi
theorem wU {ta:TE}{a:ME}(ha:aP K ta a):i3 K (vp K ta) (y6 a):=by
 intro Γ H ρ Z E Rr srcs items ρ' hK hr S q
 simp only[y6]at hr
 split at hr
 ·rename_i src ρ1 e1
  split at hr
  ·rename_i rs e2
   cases hr
   refine ha Γ H ρ Z E _ _ _ hK e1 S λx H1 S1=>?_
   have r1:Rpx Γ.K H1 src.t x:=S1.rd (e:=⟨none,x,src⟩) ymS
   have hx:∃a xs,x=.ref a/\SqT K H1 a xs:=by
    unfold je at e2
    split at e2
    ·obtain⟨a,xs,e,g1,g2⟩:=bG r1;rw[hK]at g1;exact⟨a,xs,e,g1⟩
    ·cases e2
   obtain⟨b,xs,rfl,h2⟩:=hx
   exact⟨b,rfl,⟨xs,h2⟩,q _ [.ref b] H1 rfl S1 (by rw[←hK];exact Bf e2)⟩
  ·cases hr
 ·cases hr
noncomputable def eG (g:R->Rho->Option Rho) (b:Rho->Option (Fl×Rho)):List R->Rho->Option (Fl×Rho)
 | [],ρ=>some (.nx,ρ)
 | r::rs,ρ=>match g r ρ with
  | some ρ1=>(match b ρ1 with
   | some (.nx,ρ2)=>eG g b rs ρ2
   | some (.ct,ρ2)=>eG g b rs ρ2
   | some (.bk,ρ2)=>some (.nx,ρ2)
   | some (.rt t,ρ2)=>some (.rt t,ρ2)
   | none=>none)
  | none=>none
@[irreducible] noncomputable def bS (it:MI)(g:MG)(b:MS):MS:=⟨λρ=>match it.run ρ with
 | some ((srcs,items),ρ1)=>if(srcs.all (aC (g.mu++b.mu))&&items.all (aC (g.mu++b.mu)))=true then eG g.run b.run items ρ1 else none
 | none=>none,it.mu++(g.mu++b.mu)⟩
theorem wS {wi:TI}{g:TG}{tb:TS}{it:MI}{mg:MG}{b:MS}(hi:i3 K wi it)(hg:g9 K g mg)(hb:dH K tb b):dH K (CW wi g tb) (bS it mg b):=by
 intro Γ H ρ Z E D f ρ' hK hE hr S q
 simp only[bS]at hr q
 split at hr
 ·rename_i srcs items ρ1 e1
  split at hr
  ·rename_i al
   rw[DU]at al
   refine hi Γ H ρ Z E _ srcs items ρ1 hK e1 S λJ vs H1 hlv S1 wk=>?_
   rw[←af]at q
   have hE1:=bD (M:=it.mu) hE
   generalize ae it.mu E=E1 at q S1 hE1
   have ks:∀e∈ens vs srcs,az (mg.mu++b.mu) e=true:=i8 al.1
   have kg:ae mg.mu (ens vs srcs++ae (mg.mu++b.mu) E1)=ens vs srcs++ae (mg.mu++b.mu) E1:=by
    rw[aB,de (λe he=>hV (λj hj=>yaL _ hj) (ks e he)),cv (λj hj=>yaL _ hj)]
   have kb:ae b.mu (ens vs srcs++ae (mg.mu++b.mu) E1)=ens vs srcs++ae (mg.mu++b.mu) E1:=by
    rw[aB,de (λe he=>hV (λj hj=>yaR _ hj) (ks e he)),cv (λj hj=>yaR _ hj)]
   have S2:=S1.weak (mg.mu++b.mu)
   rw[aB,de ks]at S2
   have hE2:=bD (M:=mg.mu++b.mu) hE1
   generalize ae (mg.mu++b.mu) E1=E2 at q kg kb S2 hE2
   have hE3:∀e∈ens vs srcs++E2,e.key=none:=λe he=>by
    rcases yaM he with he|he
    ·exact lT e he
    ·exact hE2 e he
   refine⟨λi m Z H=>m=items.length-i/\i<=items.length/\∃ρ,eG mg.run b.run (items.drop i) ρ=some (f,ρ')/\Sim Γ H ρ Z (ens vs srcs++E2),⟨items.length,by simp,Ff _,ρ1,by simpa using hr,S2⟩,?_⟩
   rintro i m Z1 H2 ⟨rfl,hil,ρ2,h2,S3⟩
   obtain⟨w1,w2⟩:=wk H2 ρ2 Z1 E2 S3
   by_cases hlt:i<items.length
   ·have hx:items[i]?=some items[i]:=by simp[hlt]
    obtain⟨w3,w4⟩:=w2 i _ hx
    rw[EZ hlt,eG]at h2
    refine .inr ⟨w3,λZ' H'=>∃ρ,eG mg.run b.run (items.drop (i+1)) ρ=some (f,ρ')/\Sim Γ H' ρ Z' (ens vs srcs++E2),λZ' H' ⟨ρ3,h3,S4⟩=>⟨items.length-(i+1),by omega,rfl,hlt,ρ3,h3,S4⟩,λx H3 y=>?_⟩
    have S4:=w4 x H3 y
    split at h2
    ·rename_i ρ3 e3
     refine hg Γ H3 ρ2 Z1 _ _ x _ ρ3 hK e3 S4 λZ2 H4 S5=>?_
     rw[kg]at S5
     split at h2
     ·rename_i ρ4 e4
      exact hb Γ H4 ρ3 Z2 _ _ .nx ρ4 hK hE3 e4 S5 λZ' H' S6=>⟨ρ4,h2,by rw[kb]at S6;exact S6⟩
     ·rename_i ρ4 e4
      exact hb Γ H4 ρ3 Z2 _ _ .ct ρ4 hK hE3 e4 S5 λZ' H' S6=>⟨ρ4,h2,by rw[kb]at S6;exact S6⟩
     ·rename_i ρ4 e4
      cases h2
      exact hb Γ H4 ρ3 Z2 _ _ .bk _ hK hE3 e4 S5 λZ' H' S6=>q Z' H' (by rw[kb]at S6;exact S6.drops)
     ·rename_i t ρ4 e4
      cases h2
      exact hb Γ H4 ρ3 Z2 _ _ (.rt t) _ hK hE3 e4 S5 q
     ·cases h2
    ·cases h2
   ·have e:i=items.length:=by omega
    subst e
    rw[FL,eG]at h2
    cases h2
    exact .inl ⟨w1 _ (DY _),q Z1 H2 S3.drops⟩
  ·cases hr
 ·cases hr
end
noncomputable def iB (π:Nat->Nat):Kd->Kd
 | .vw (some j) p=>.vw (some (π j)) p
 | k=>k
noncomputable def gW (π:Nat->Nat) (r:R):R:=⟨iB π r.k,r.t⟩
noncomputable def bi (π:Nat->Nat) (e:En):En:=⟨e.key.map π,e.v,gW π e.r⟩
section
variable  {Γ:Gm}{H H':Hp}{ρ:Rho}{Z:St}{E X:List En}{v x y:V}{t:T}{K:yF}{Q:VK}{π:Nat->Nat}
theorem o5 (k:Kd):(iB π k).isOw=k.isOw:=by
 cases k with
 | vw a b=>cases a<;>rfl
 | _=>rfl
theorem kw (k:Kd):(iB π k).root=k.root.map π:=by
 cases k with
 | vw a b=>cases a<;>rfl
 | _=>rfl
theorem SimL.ren (S:SimL Γ H X)(inj:∀e∈X,∀f∈X,∀a b,e.key=some a->f.key=some b->π a=π b->a=b):SimL Γ H (X.map (bi π)):=by
 obtain⟨L,g,rfl⟩:=S
 have own:∀L:List Hd,(L.map λh:Hd=>(⟨bi π h.e,h.F⟩:Hd)).flatMap Hd.own=L.flatMap Hd.own:=by
  intro L
  induction L with
  | nil=>rfl
  | cons h L ih=>
   rw[DS,D3,D3,ih]
   congr 1
   unfold Hd.own
   show(if(iB π h.e.r.k).isOw=true then h.F else [])=_
   rw[o5]
 refine⟨L.map λh=>⟨bi π h.e,h.F⟩,⟨by rw[own];exact g.nd,by rw[own];exact g.ad,λh hh=>?_,λh hh=>?_,?_,g.fr,g.iol⟩,by rw[Eo,Eo];rfl⟩
 ·obtain⟨h0,h1,rfl⟩:=D4.mp hh
  exact g.rp h0 h1
 ·obtain⟨h0,h1,rfl⟩:=D4.mp hh
  have k:=g.kd h0 h1
  unfold KdOk at k⊢
  show match iB π h0.e.r.k with
   | .ow=>_|.io k=>_|.vw none _=>_|.vw (some j) p=>_
  cases ek:h0.e.r.k with
  | ow=>rw[ek]at k;exact k
  | io n=>rw[ek]at k;exact k
  | vw a p=>
   rw[ek]at k
   cases a with
   | none=>rw[own];exact k
   | some j=>
    obtain⟨x,x1,x2,x3,x4,x5⟩:=k
    refine⟨⟨bi π x.e,x.F⟩,Eu x1,by show x.e.key.map π=_;rw[x2];rfl,by show(iB π x.e.r.k).isOw=true;rw[o5];exact x3,λa ha=>by rw[own];exact x4 a ha,x5⟩
 ·rw[FH]
  have e:(λh:Hd=>h.e.key)∘(λh:Hd=>(⟨bi π h.e,h.F⟩:Hd))=λh=>h.e.key.map π:=rfl
  rw[e]
  have:∀L':List Hd,(∀h∈L',h∈L)->(L'.filterMap λh=>h.e.key).Nodup->(L'.filterMap λh=>h.e.key.map π).Nodup:=by
   intro L'
   induction L' with
   | nil=>intro _ _;exact Fi
   | cons h L' ih=>
    intro hs nd
    rw[Ei]at nd⊢
    cases ek:h.e.key with
    | none=>rw[ek]at nd;exact ih (λx hx=>hs x (ymC _ hx)) nd
    | some a=>
     rw[ek]at nd
     obtain⟨n1,n2⟩:=Ep.mp nd
     refine Ep.mpr ⟨λhm=>?_,ih (λx hx=>hs x (ymC _ hx)) n2⟩
     obtain⟨y,hy,ey⟩:=Ey.mp hm
     cases eb:y.e.key with
     | none=>rw[eb]at ey;cases ey
     | some b=>
      rw[eb]at ey
      have e2 : π b=π a:=Em.inj ey
      have:=inj y.e (Eu (hs y (ymC _ hy))) h.e (Eu (hs h ymS)) b a eb ek e2
      subst this
      exact n1 (Ey.mpr ⟨y,hy,eb⟩)
  exact this L (λ_ h=>h) g.ks
theorem SimL.filt (S:SimL Γ H X)(p:En->Bool)(hp:∀e∈X,p e=true->∀j,e.r.k.root=some j->∀f∈X,f.key=some j->p f=true):SimL Γ H (X.filter p):=by
 obtain⟨L,g,rfl⟩:=S
 refine⟨L.filter λh=>p h.e,g.sub EQ λh hh j hj x hx hk ho=>?_,by rw[FT];rfl⟩
 obtain⟨h1,h2⟩:=D7.mp hh
 exact D7.mpr ⟨hx,hp h.e (Eu h1) h2 j hj x.e (Eu hx) hk⟩
theorem ents_iff {e:En}:e∈ay 0 Z ρ ↔ ∃i,e.key=some i/\ρ[i]?=some (some e.r)/\Z[i]?=some (some e.v):=by
 constructor
 ·intro h
  obtain⟨i,h1,h2,h3⟩:=cB h
  exact⟨i,by rw[h1,EG],h2,h3⟩
 ·rintro⟨i,h1,h2,h3⟩
  have:=(bm (k:=0) h3 h2).mem_iff.mpr ymS
  have e':e=⟨some (0+i),e.v,e.r⟩:=by cases e;simp only[En.mk.injEq,and_self,and_true,EG];exact h1
  rw[e'];exact this
theorem kY:∀{k:Nat} {Z:List (Option V)} {ρ:Rho},(ay k Z ρ).Pairwise λa b=>∃i j,a.key=some i/\b.key=some j/\i<j
 | _,[],_=>List.Pairwise.nil
 | _,x::_,[]=>by cases x<;>exact List.Pairwise.nil
 | k,x::Z,y::ρ=>by
  have ih:=kY (k:=k+1) (Z:=Z) (ρ:=ρ)
  cases x with
  | none=>simpa[ay]using ih
  | some v=>
   cases y with
   | none=>simpa[ay]using ih
   | some r=>
    simp only[ay]
    refine List.Pairwise.cons (λb hb=>?_) ih
    obtain⟨i,h1,_,_⟩:=cB hb
    exact⟨k,k+1+i,rfl,h1,by omega⟩
theorem ents_nodup {k:Nat}:(ay k Z ρ).Nodup:=by
 refine List.Pairwise.imp ?_ kY
 rintro a b ⟨i,j,h1,h2,h3⟩ rfl
 rw[h1]at h2;cases h2;omega
noncomputable def bC (fr:List (Option Nat)) (j:Nat):Bool:=match fr[j]? with
 | some (some i)=>i==j
 | _=>false
noncomputable def piF (fr:List (Option Nat)) (j:Nat):Nat:=if bC fr j=true then j else fr.length+j
noncomputable def psF (fr:List (Option Nat)) (k:Nat):Nat:=if k<fr.length then k else k-fr.length
noncomputable def iQ (π:Nat->Nat):Nat->List (Option Nat)->Rho->Rho
 | _,[],_=>[]
 | k,o::fr,r::ρ=>(if o=some k then r.map (gW π)else none)::iQ π (k+1) fr ρ
 | k,o::fr,[]=>none::iQ π (k+1) fr []
noncomputable def inR (fr:List (Option Nat)) (ρ:Rho):Rho:=iQ (piF fr) 0 fr ρ
noncomputable def f9 (ψ : Nat->Nat) (tg mu:List Nat):Nat->List (Option Nat)->Rho->Rho->Rho
 | k,o::fr,ri::ρi,r::ρ=>(if o=some k then(bT tg ri).map (gW ψ)else bT mu r)::f9 ψ tg mu (k+1) fr ρi ρ
 | _,[],_,ρ=>ρ.map (bT mu)
 | _,_::_,[],ρ=>ρ.map (bT mu)
 | _,_::_,_::_,[]=>[]
noncomputable def tgF (fr:List (Option Nat)):List Nat:=(Es fr.length).filter λi=>!bC fr i
noncomputable def muF (fr:List (Option Nat)) (mu:List Nat):List Nat:=mu.filter (bC fr)
noncomputable def cw (fr:List (Option Nat)) (mu:List Nat) (ρi ρ:Rho):Rho:=f9 (psF fr) (tgF fr) (muF fr mu) 0 fr ρi ρ
theorem capB_iff {fr:List (Option Nat)}{j:Nat}:bC fr j=true↔fr[j]?=some (some j):=by
 unfold bC
 split
 ·rename_i i h;rw[h];simp
 ·rename_i h
  constructor
  ·intro z;cases z
  ·intro z;exact absurd z (h j)
theorem ja:∀{k:Nat} {fr:List (Option Nat)} {ρ:Rho} {i:Nat} {r':R},(iQ π k fr ρ)[i]?=some (some r')↔fr[i]?=some (some (k+i))/\∃r,ρ[i]?=some (some r)/\r'=gW π r
 | k,[],ρ,i,r'=>by simp[iQ]
 | k,o::fr,[],0,r'=>by simp[iQ]
 | k,o::fr,[],i+1,r'=>by
  rw[iQ,EU,ja (k:=k+1) (fr:=fr) (ρ:=[]) (i:=i)]
  simp
 | k,o::fr,r::ρ,0,r'=>by
  rw[iQ,Fa,Fa,Fa]
  by_cases h:o=some k
  ·subst h
   rw[if_pos rfl]
   cases r with
   | none=>simp
   | some r=>simp[eq_comm]
  ·rw[if_neg h]
   constructor
   ·intro z;cases z
   ·rintro⟨h1,_⟩;exact absurd (by simpa using h1) h
 | k,o::fr,r::ρ,i+1,r'=>by
  rw[iQ,EU,EU,EU,ja (k:=k+1) (fr:=fr) (ρ:=ρ) (i:=i),show k+1+i=k+(i+1) by omega]
theorem gH:∀{k:Nat} {fr:List (Option Nat)} {ρ:Rho},(iQ π k fr ρ).length=fr.length
 | k,[],ρ=>rfl
 | k,o::fr,[]=>by rw[iQ,D5,gH,D5]
 | k,o::fr,r::ρ=>by rw[iQ,D5,gH,D5]
theorem inR_get {fr:List (Option Nat)}{i:Nat}{r':R}:(inR fr ρ)[i]?=some (some r')↔bC fr i=true/\∃r,ρ[i]?=some (some r)/\r'=gW (piF fr) r:=by
 unfold inR;rw[ja,EG,capB_iff]
theorem gI {fr:List (Option Nat)}{i:Nat}(h:bC fr i=true):(aO fr Z)[i]?=some (Z.getD i none):=by
 unfold aO
 rw[DZ,capB_iff.mp h];rfl
theorem getD_some {i:Nat}{v:V}:Z.getD i none=some v↔Z[i]?=some (some v):=by
 rw[Eb]
 cases h:Z[i]? with
 | none=>simp
 | some o=>simp
theorem cY {fr:List (Option Nat)}{j:Nat}(h:bC fr j=true):piF fr j=j:=by unfold piF;rw[if_pos h]
theorem ca {fr:List (Option Nat)}{j:Nat}(h:bC fr j=false):piF fr j=fr.length+j:=by unfold piF;rw[if_neg (by rw[h];simp)]
theorem bq {fr:List (Option Nat)}{j:Nat}(h:bC fr j=true):j<fr.length:=(DR.mp (capB_iff.mp h)).1
theorem we {fr:List (Option Nat)}{a b:Nat}(h:piF fr a=piF fr b):a=b:=by
 cases ha:bC fr a<;>cases hb:bC fr b
 ·rw[ca ha,ca hb]at h;omega
 ·rw[ca ha,cY hb]at h;have:=bq hb;omega
 ·rw[cY ha,ca hb]at h;have:=bq ha;omega
 ·rw[cY ha,cY hb]at h;exact h
theorem tE {fr:List (Option Nat)}(a:Nat):psF fr (piF fr a)=a:=by
 cases ha:bC fr a
 ·rw[ca ha];unfold psF;rw[if_neg (by omega)];omega
 ·rw[cY ha];unfold psF;rw[if_pos (bq ha)]
theorem ly {fr:List (Option Nat)}(e:En):bi (psF fr) (bi (piF fr) e)=e:=by
 obtain⟨key,v,⟨k,t⟩⟩:=e
 have h1:(key.map (piF fr)).map (psF fr)=key:=by cases key<;>simp[tE]
 have h2:iB (psF fr) (iB (piF fr) k)=k:=by
  cases k with
  | vw a p=>cases a<;>simp[iB,tE]
  | _=>rfl
 show(⟨(key.map (piF fr)).map (psF fr),v,⟨iB (psF fr) (iB (piF fr) k),t⟩⟩:En)=_
 rw[h1,h2]
noncomputable def dU (fr:List (Option Nat)) (e:En):Bool:=match e.key with
 | some j=>bC fr j
 | none=>false
theorem ii {α β:Type}{f : α->β}{l:List α}(h:l.Nodup)(inj:∀a∈l,∀b∈l,f a=f b->a=b):(l.map f).Nodup:=by
 induction l with
 | nil=>exact Fi
 | cons a l ih=>
  obtain⟨h1,h2⟩:=Ep.mp h
  rw[DS]
  refine Ep.mpr ⟨λhm=>?_,ih h2 λx hx y hy=>inj x (ymC _ hx) y (ymC _ hy)⟩
  obtain⟨b,hb,e⟩:=D4.mp hm
  have:=inj b (ymC _ hb) a ymS e
  subst this
  exact h1 hb
theorem inn_perm {fr:List (Option Nat)}:((ay 0 Z ρ).map (bi (piF fr))).Perm (ay 0 (aO fr Z) (inR fr ρ)++((ay 0 Z ρ).filter λe=>!dU fr e).map (bi (piF fr))):=by
 have inj:∀a∈ay 0 Z ρ,∀b∈ay 0 Z ρ,bi (piF fr) a=bi (piF fr) b->a=b:=λa _ b _ h=>by
  have:=congrArg (bi (psF fr)) h
  rwa [ly,ly]at this
 have nd1:=ii (ents_nodup (k:=0) (Z:=Z) (ρ:=ρ)) inj
 have nd2:(((ay 0 Z ρ).filter λe=>!dU fr e).map (bi (piF fr))).Nodup:=nd1.sublist (EQ.map _)
 refine(F7 nd1 (DW.mpr ⟨ents_nodup,nd2,?_⟩)).mpr λe=>?_
 ·rintro a ha b hb rfl
  obtain⟨i,h1,h2,h3⟩:=ents_iff.mp ha
  obtain⟨hc,_⟩:=inR_get.mp h2
  obtain⟨f,hf,rfl⟩:=D4.mp hb
  obtain⟨hf1,hf2⟩:=D7.mp hf
  obtain⟨j,g1,g2,g3⟩:=ents_iff.mp hf1
  have g0:bC fr j=false:=by unfold dU at hf2;rw[g1]at hf2;simpa using hf2
  have h1':(f.key.map (piF fr))=some i:=h1
  rw[g1]at h1'
  have h1'':piF fr j=i:=by simpa using h1'
  rw[ca g0]at h1''
  have:=bq hc
  omega
 ·rw[FQ]
  constructor
  ·intro he
   obtain⟨f,hf,rfl⟩:=D4.mp he
   obtain⟨j,g1,g2,g3⟩:=ents_iff.mp hf
   cases hc:bC fr j
   ·exact .inr (D4.mpr ⟨f,D7.mpr ⟨hf,by unfold dU;rw[g1];simp[hc]⟩,rfl⟩)
   ·left
    refine ents_iff.mpr ⟨j,?_,inR_get.mpr ⟨hc,_,g2,rfl⟩,?_⟩
    ·show f.key.map (piF fr)=_
     rw[g1]
     simp[cY hc]
    ·rw[gI hc,getD_some.mpr g3];rfl
  ·rintro(he|he)
   ·obtain⟨i,h1,h2,h3⟩:=ents_iff.mp he
    obtain⟨hc,r,h4,h5⟩:=inR_get.mp h2
    rw[gI hc]at h3
    have h3':=getD_some.mp (Em.inj h3)
    refine D4.mpr ⟨⟨some i,e.v,r⟩,ents_iff.mpr ⟨i,rfl,h4,h3'⟩,?_⟩
    cases e
    simp only at h1 h5
    simp[bi,cY hc,h1,h5]
   ·obtain⟨f,hf,rfl⟩:=D4.mp he
    exact Eu (D7.mp hf).1
noncomputable def cF (fr:List (Option Nat)) (Z:St) (ρ:Rho) (E:List En):List En:=(E++(ay 0 Z ρ).filter λe=>!dU fr e).map (bi (piF fr))
noncomputable def cQ (fr:List (Option Nat)) (n:Nat):Bool:=decide (n<=fr.length)&&(Es fr.length).all λi=>!bC fr i||decide (i<n)
theorem k7 {fr:List (Option Nat)}{n j:Nat}(h:cQ fr n=true)(hc:bC fr j=true):j<n:=by
 unfold cQ at h
 rw[DU]at h
 have:=EH.mp h.2 j (E8.mpr (bq hc))
 rw[hc]at this
 simpa using this
theorem Sim.inn {fr:List (Option Nat)}(S:Sim Γ H ρ Z E)(hf:cQ fr ρ.length=true):Sim Γ H (inR fr ρ) (aO fr Z) (cF fr Z ρ E):=by
 refine⟨?_,λi r h=>?_,by rw[bI];unfold inR;rw[gH],λe he j hj=>?_⟩
 ·have:=S.sl.ren (π:=piF fr) λe _ f _ a b _ _ h=>we h
  rw[D9]at this
  refine this.perm ?_
  unfold cF
  rw[D9,Ea]
  exact(inn_perm.append_left _).trans (GD.append_left _)
 ·obtain⟨hc,r0,h1,_⟩:=inR_get.mp h
  obtain⟨v,hv⟩:=S.al i r0 h1
  exact⟨v,by rw[gI hc,getD_some.mpr hv]⟩
 ·unfold inR
  rw[gH]
  unfold cF at he
  obtain⟨f,hf',rfl⟩:=D4.mp he
  have hj':f.key.map (piF fr)=some j:=hj
  cases hk:f.key with
  | none=>rw[hk]at hj';cases hj'
  | some i=>
   rw[hk]at hj'
   have e1:piF fr i=j:=by simpa using hj'
   have hc:bC fr i=false:=by
    rcases yaM hf' with z|z
    ·cases hc:bC fr i with
     | false=>rfl
     | true=>
      have:=k7 hf hc
      have:=S.hi f z i hk
      omega
    ·have:=(D7.mp z).2
     unfold dU at this
     rw[hk]at this
     simpa using this
   rw[ca hc]at e1
   omega
theorem kq {ψ : Nat->Nat}{tg mu:List Nat}:∀{k:Nat} {fr:List (Option Nat)} {ρi ρ:Rho} {i:Nat},i < ρ.length->ρ.length<=fr.length->fr.length=ρi.length->(f9 ψ tg mu k fr ρi ρ)[i]?=some (if fr[i]?=some (some (k+i))then(bT tg (ρi.getD i none)).map (gW ψ)else bT mu (ρ.getD i none))
 | k,fr,ρi,[],i,h,_,_=>by cases h
 | k,[],ρi,r::ρ,i,_,h,_=>by simp at h
 | k,o::fr,[],r::ρ,i,_,_,h=>by cases h
 | k,o::fr,ri::ρi,r::ρ,0,h,h2,h3=>by
  rw[f9,Fa,Fa]
  simp
 | k,o::fr,ri::ρi,r::ρ,i+1,h,h2,h3=>by
  rw[f9,EU,kq (k:=k+1) (by simpa using h) (by simpa using h2) (by simpa using h3),EU,show k+1+i=k+(i+1) by omega]
  simp
theorem ik {ψ : Nat->Nat}{tg mu:List Nat}:∀{k:Nat} {fr:List (Option Nat)} {ρi ρ:Rho},(f9 ψ tg mu k fr ρi ρ).length=ρ.length
 | k,[],ρi,ρ=>by cases ρi<;>simp[f9]
 | k,o::fr,[],ρ=>by simp[f9]
 | k,o::fr,ri::ρi,[]=>by simp[f9]
 | k,o::fr,ri::ρi,r::ρ=>by rw[f9,D5,ik,D5]
theorem gY {fr:List (Option Nat)}{i:Nat}:i∈tgF fr↔i<fr.length/\bC fr i=false:=by
 unfold tgF
 rw[D7,E8]
 simp
theorem killO_iff {M:List Nat}{o:Option R}{r:R}:bT M o=some r↔o=some r/\cN M r=true:=by
 cases o with
 | none=>simp[bT]
 | some x=>
  simp only[bT]
  split
  ·rename_i h
   constructor
   ·intro z;cases z;exact⟨rfl,h⟩
   ·rintro⟨z,_⟩;rw[z]
  ·rename_i h
   constructor
   ·intro z;cases z
   ·rintro⟨z,h2⟩;cases z;exact absurd h2 h
theorem rX {fr:List (Option Nat)}{mu:List Nat}(hmu:∀j∈mu,j<fr.length)(e:En):az mu (bi (piF fr) e)=az (muF fr mu) e:=by
 unfold az
 show(match (iB (piF fr) e.r.k).root with|some j=>!mu.contains j|none=>true)=_
 rw[kw]
 cases e.r.k.root with
 | none=>rfl
 | some j=>
  show(!mu.contains (piF fr j)) = !(muF fr mu).contains j
  congr 1
  rw[EY]
  simp only[ET,decide_eq_true_eq,muF,D7]
  cases hc:bC fr j
  ·rw[ca hc]
   constructor
   ·intro z;have:=hmu _ z;omega
   ·rintro⟨_,z⟩;cases z
  ·rw[cY hc]
   simp
theorem vz {fr:List (Option Nat)}(e:En):az (tgF fr) (bi (piF fr) e)=true:=by
 unfold az
 show(match (iB (piF fr) e.r.k).root with|some j=>!(tgF fr).contains j|none=>true)=_
 rw[kw]
 cases e.r.k.root with
 | none=>rfl
 | some j=>
  show(!(tgF fr).contains (piF fr j))=true
  simp only[ET,EB,decide_eq_false_iff_not,gY]
  rintro⟨h1,h2⟩
  cases hc:bC fr j
  ·rw[ca hc]at h1;omega
  ·rw[cY hc,hc]at h2;cases h2
theorem Sim.outt {fr:List (Option Nat)}{mu:List Nat}{ρi:Rho}{Z2:St}(S:Sim Γ H' ρi Z2 (ae mu (cF fr Z ρ E)))(hf:cQ fr ρ.length=true)(hmu:∀j∈mu,j<fr.length)(hl : ρi.length=fr.length)(kp:Kp fr (aO fr Z) Z2)
  (al:∀(i:Nat) r,ρ[i]?=some (some r)->∃v,Z[i]?=some (some v)) (len:Z.length=ρ.length) (hi:∀e∈E,∀j,e.key=some j->ρ.length<=j):Sim Γ H' (cw fr mu ρi ρ) Z (ae (muF fr mu) E):=by
 have hn : ρ.length<=fr.length:=by unfold cQ at hf;rw[DU,decide_eq_true_eq]at hf;exact hf.1
 have val:∀{i:Nat} {w:V},bC fr i=true->Z2[i]?=some (some w)->Z[i]?=some (some w):=λ{i w} hc h=>by
  rw[kp.2 i i (capB_iff.mp hc),gI hc]at h
  exact getD_some.mp (Em.inj h)
 have eE:ae mu (cF fr Z ρ E)=(ae (muF fr mu) (E++(ay 0 Z ρ).filter λe=>!dU fr e)).map (bi (piF fr)):=by
  unfold cF ae
  rw[FT]
  congr 1
  apply List.filter_congr
  intro e _
  exact rX hmu e
 have s1:=(S.sl.kill (tgF fr))
 rw[aB,eE]at s1
 have e1:ae (tgF fr) ((ae (muF fr mu) (E++(ay 0 Z ρ).filter λe=>!dU fr e)).map (bi (piF fr)))=(ae (muF fr mu) (E++(ay 0 Z ρ).filter λe=>!dU fr e)).map (bi (piF fr)):=by
  unfold ae
  rw[Fc]
  intro e he
  obtain⟨f,_,rfl⟩:=D4.mp he
  exact vz f
 rw[e1]at s1
 let p:En->Bool:=λe=>match e.key with
  | some k=>!(tgF fr).contains k
  | none=>true
 have kout:∀f∈E++(ay 0 Z ρ).filter λe=>!dU fr e,∀j,f.key=some j->bC fr j=false:=λf hf' j hj=>by
  rcases yaM hf' with z|z
  ·cases hc:bC fr j with
   | false=>rfl
   | true=>have:=k7 hf hc;have:=hi f z j hj;omega
  ·have:=(D7.mp z).2
   unfold dU at this
   rw[hj]at this
   simpa using this
 have pO:∀e∈(ae (muF fr mu) (E++(ay 0 Z ρ).filter λe=>!dU fr e)).map (bi (piF fr)),p e=true:=λe he=>by
  obtain⟨f,hf',rfl⟩:=D4.mp he
  have hf'':=(D7.mp hf').1
  show(match f.key.map (piF fr)with|some k=>!(tgF fr).contains k|none=>true)=true
  cases hk:f.key with
  | none=>rfl
  | some j=>
   have:=kout f hf'' j hk
   simp only[FG,ET,EB,decide_eq_false_iff_not,gY]
   rw[ca this]
   omega
 have s2:=s1.filt p λe he _ j hj f hf' hk=>by
  show(match f.key with|some k=>!(tgF fr).contains k|none=>true)=true
  rw[hk]
  have hm:e∈ae (tgF fr) (ae mu (cF fr Z ρ E)++ay 0 Z2 ρi):=by rw[aB,eE,e1];exact he
  by_cases hj':j∈tgF fr
  ·exact absurd hj (jo (M:=tgF fr) (i:=j) hj' e hm)
  ·simp[hj']
 rw[GU,Fc.mpr pO]at s2
 have s3:=s2.ren (π:=psF fr) (λe he f hf' a b ha hb hab=>by
  have key:∀e∈(ae (muF fr mu) (E++(ay 0 Z ρ).filter λe=>!dU fr e)).map (bi (piF fr))++(ae (tgF fr) (ay 0 Z2 ρi)).filter p,∀a,e.key=some a->(∃j,a=fr.length+j/\bC fr j=false)∨bC fr a=true:=λe he a ha=>by
   rcases yaM he with z|z
   ·left
    obtain⟨g,hg,rfl⟩:=D4.mp z
    have hg':=(D7.mp hg).1
    have ha':g.key.map (piF fr)=some a:=ha
    cases hk:g.key with
    | none=>rw[hk]at ha';cases ha'
    | some j=>
     have hc:=kout g hg' j hk
     rw[hk]at ha'
     have:piF fr j=a:=by simpa using ha'
     exact⟨j,by rw[←this,ca hc],hc⟩
   ·right
    obtain⟨z1,z2⟩:=D7.mp z
    obtain⟨i,h1,h2,h3⟩:=ents_iff.mp (D7.mp z1).1
    rw[ha]at h1
    cases h1
    have z2':(match e.key with|some k=>!(tgF fr).contains k|none=>true)=true:=z2
    rw[ha]at z2'
    have hlt:a<fr.length:=by
     have:=(DR.mp h2).1
     omega
    simp only[ET,EB,decide_eq_false_iff_not,gY]at z2'
    cases hc:bC fr a with
    | true=>rfl
    | false=>exact absurd ⟨hlt,hc⟩ z2'
  rcases key e he a ha with⟨j,rfl,hj⟩|hj<;>rcases key f hf' b hb with⟨j',rfl,hj'⟩|hj'
  ·unfold psF at hab;rw[if_neg (by omega),if_neg (by omega)]at hab;omega
  ·unfold psF at hab
   rw[if_neg (by omega),if_pos (bq hj')]at hab
   have:j=b:=by omega
   subst this
   rw[hj]at hj';cases hj'
  ·unfold psF at hab
   rw[if_pos (bq hj),if_neg (by omega)]at hab
   have:j'=a:=by omega
   subst this
   rw[hj']at hj;cases hj
  ·unfold psF at hab;rw[if_pos (bq hj),if_pos (bq hj')]at hab;exact hab)
 rw[D9,Eo]at s3
 have e2:(ae (muF fr mu) (E++(ay 0 Z ρ).filter λe=>!dU fr e)).map (bi (psF fr)∘bi (piF fr))=ae (muF fr mu) (E++(ay 0 Z ρ).filter λe=>!dU fr e):=by
  conv=>rhs;rw[←List.map_id (ae (muF fr mu) (E++(ay 0 Z ρ).filter λe=>!dU fr e))]
  apply List.map_congr_left
  intro e _
  exact ly e
 rw[e2,aB,Ea]at s3
 have olen:(cw fr mu ρi ρ).length=ρ.length:=by unfold cw;exact ik
 have oget:∀{i:Nat} {r:R},(cw fr mu ρi ρ)[i]?=some (some r)↔i < ρ.length/\((bC fr i=true/\∃r0,ρi[i]?=some (some r0)/\cN (tgF fr) r0=true/\r=gW (psF fr) r0)∨(bC fr i=false/\ρ[i]?=some (some r)/\cN (muF fr mu) r=true)):=λ{i r}=>by
  by_cases hlt:i < ρ.length
  ·unfold cw
   rw[kq hlt hn hl.symm,EG]
   cases hc:bC fr i
   ·rw[if_neg (λz=>by rw[capB_iff.mpr z]at hc;cases hc)]
    rw[Em.injEq,killO_iff]
    have : ρ.getD i none=some r↔ρ[i]?=some (some r):=by
     rw[Eb]
     cases ρ[i]?<;>simp
    rw[this]
    simp[hlt]
   ·rw[if_pos (capB_iff.mp hc)]
    rw[Em.injEq,EC]
    constructor
    ·rintro⟨r0,h1,h2⟩
     obtain⟨h3,h4⟩:=killO_iff.mp h1
     refine⟨hlt,.inl ⟨rfl,r0,?_,h4,h2.symm⟩⟩
     rw[Eb]at h3
     cases h5 : ρi[i]? with
     | none=>rw[h5]at h3;cases h3
     | some o=>rw[h5]at h3;have:o=some r0:=h3;rw[this]
    ·rintro⟨_,⟨_,r0,h1,h2,h3⟩|⟨z,_⟩⟩
     ·exact⟨r0,killO_iff.mpr ⟨by rw[Eb,h1];rfl,h2⟩,h3.symm⟩
     ·cases z
  ·constructor
   ·intro z
    have:=(DR.mp z).1
    rw[olen]at this
    exact absurd this hlt
   ·rintro⟨z,_⟩;exact absurd z hlt
 refine⟨s3.perm (List.Perm.append_left _ ?_),λi r h=>?_,by rw[olen];exact len,λe he j hj=>by rw[olen];exact hi e (D7.mp he).1 j hj⟩
 ·have ndA:(ae (muF fr mu) ((ay 0 Z ρ).filter λe=>!dU fr e)).Nodup:=ents_nodup.sublist (EQ.trans EQ)
  have inB:∀e∈(ae (tgF fr) (ay 0 Z2 ρi)).filter p,∃i,e.key=some i/\bC fr i=true/\ρi[i]?=some (some e.r)/\Z2[i]?=some (some e.v)/\cN (tgF fr) e.r=true:=λe he=>by
   obtain⟨z1,z2⟩:=D7.mp he
   obtain⟨z3,z4⟩:=D7.mp z1
   obtain⟨i,h1,h2,h3⟩:=ents_iff.mp z3
   have z2':(match e.key with|some k=>!(tgF fr).contains k|none=>true)=true:=z2
   rw[h1]at z2'
   have hlt:i<fr.length:=by
    have:=(DR.mp h2).1
    omega
   simp only[ET,EB,decide_eq_false_iff_not,gY]at z2'
   refine⟨i,h1,?_,h2,h3,z4⟩
   cases hc:bC fr i with
   | true=>rfl
   | false=>exact absurd ⟨hlt,hc⟩ z2'
  have ndB:(((ae (tgF fr) (ay 0 Z2 ρi)).filter p).map (bi (psF fr))).Nodup:=by
   refine ii (ents_nodup.sublist (EQ.trans EQ)) λa ha b hb h=>?_
   obtain⟨i,h1,h2,h3,h4,_⟩:=inB a ha
   obtain⟨j,g1,g2,g3,g4,_⟩:=inB b hb
   have hk:a.key.map (psF fr)=b.key.map (psF fr):=congrArg En.key h
   rw[h1,g1]at hk
   have hk':psF fr i=psF fr j:=by simpa using hk
   unfold psF at hk'
   rw[if_pos (bq h2),if_pos (bq g2)]at hk'
   subst hk'
   rw[h3]at g3;rw[h4]at g4
   cases a;cases b
   simp only at h1 g1 g3 g4
   have e1:=Em.inj (Em.inj g3)
   have e2:=Em.inj (Em.inj g4)
   simp[h1,g1,e1,e2]
  refine(F7 (DW.mpr ⟨ndA,ndB,?_⟩) ents_nodup).mpr λe=>?_
  ·rintro a ha b hb rfl
   obtain⟨f,hf',hfe⟩:=D4.mp hb
   obtain⟨i,h1,h2,_⟩:=inB f hf'
   have hk:f.key.map (psF fr)=a.key:=congrArg En.key hfe
   rw[h1]at hk
   have hk':a.key=some i:=by rw[←hk];simp[psF,bq h2]
   obtain⟨y1,y2⟩:=D7.mp (D7.mp ha).1
   unfold dU at y2
   rw[hk']at y2
   simp[h2]at y2
  ·rw[FQ,ents_iff]
   constructor
   ·rintro(he|he)
    ·obtain⟨z1,z2⟩:=D7.mp he
     obtain⟨z3,z4⟩:=D7.mp z1
     obtain⟨i,h1,h2,h3⟩:=ents_iff.mp z3
     unfold dU at z4
     rw[h1]at z4
     refine⟨i,h1,oget.mpr ⟨(DR.mp h2).1,.inr ⟨by simpa using z4,h2,z2⟩⟩,h3⟩
    ·obtain⟨f,hf',rfl⟩:=D4.mp he
     obtain⟨i,h1,h2,h3,h4,h5⟩:=inB f hf'
     refine⟨i,?_,oget.mpr ⟨k7 hf h2,.inl ⟨h2,f.r,h3,h5,rfl⟩⟩,val h2 h4⟩
     show f.key.map (psF fr)=some i
     rw[h1]
     simp[psF,bq h2]
   ·rintro⟨i,h1,h2,h3⟩
    obtain⟨hlt,⟨hc,r0,g1,g2,g3⟩|⟨hc,g1,g2⟩⟩:=oget.mp h2
    ·right
     obtain⟨w,hw⟩:=S.al i r0 g1
     have hw':=val hc hw
     rw[h3]at hw'
     have ew:e.v=w:=Em.inj (Em.inj hw')
     refine D4.mpr ⟨⟨some i,w,r0⟩,D7.mpr ⟨D7.mpr ⟨ents_iff.mpr ⟨i,rfl,g1,hw⟩,g2⟩,?_⟩,?_⟩
     ·show(!(tgF fr).contains i)=true
      simp only[ET,EB,decide_eq_false_iff_not,gY]
      rintro⟨_,z⟩;rw[hc]at z;cases z
     ·cases e
      simp only at h1 g3 ew
      simp[bi,h1,g3,ew,psF,bq hc]
    ·left
     refine D7.mpr ⟨D7.mpr ⟨ents_iff.mpr ⟨i,h1,g1,h3⟩,?_⟩,g2⟩
     unfold dU;rw[h1];simp[hc]
 ·obtain⟨hlt,⟨hc,r0,g1,g2,g3⟩|⟨hc,g1,g2⟩⟩:=oget.mp h
  ·obtain⟨w,hw⟩:=S.al i r0 g1
   exact⟨w,val hc hw⟩
  ·exact al i r g1
end
section
variable  {Γ:Gm}{H H':Hp}{ρ:Rho}{Z:St}{E X:List En}{v x y:V}{t:T}{K:yF}{Q:VK}
theorem Sim.mkL {vs:List V}{ts:List T}{p:Addr}(S:Sim Γ H ρ Z (au vs ts++E))(hl:vs.length=ts.length)(hp:H p=none):Sim Γ (upd H p (.lst vs)) ρ Z (⟨none,.ref p,⟨.ow,bu ts⟩⟩::E):=by
 obtain⟨F,h1,h2,h3,h4⟩:=S.use hl
 have sm:=Same.laid (o:=.lst vs) hp
 have np:p∉F:=λz=>by obtain⟨o,e,_⟩:=h3 p z;rw[hp]at e;cases e
 refine h4 _ (.ref p) (bu ts) (p::F) (sm.offM _) (λa ha=>let ⟨o,e,_⟩:=h3 a ha;⟨o,sm a o e⟩) (Ep.mpr ⟨np,h2⟩) (λa ha=>?_) ?_
 ·rcases ycM ha with rfl|ha
  ·exact⟨.inr hp,_,ax,rfl⟩
  ·exact⟨.inl ha,let ⟨o,e,m⟩:=h3 a ha;⟨o,sm a o e,m⟩⟩
 ·unfold bu
  split
  ·rename_i is hi
   rw[k9 hi]at h1
   obtain⟨h5,h6⟩:=Rps.ims.mp h1
   subst h6
   rw[Rp]
   exact⟨p,vs,rfl,.inl ax,h5.same sm,rfl⟩
  ·rw[Rp]
   exact⟨p,vs,F,rfl,.inl ax,h1.same sm,rfl⟩
theorem kH {t:T}:∀{vs:List V} {ts:List T},vs.length=ts.length->au (vs++[v]) (ts++[t])=au vs ts++[⟨none,v,⟨.ow,t⟩⟩]
 | [],[],_=>rfl
 | a::vs,b::ts,h=>by
  rw[Ej,Ej,au,au,kH (by simpa using h),Ej]
 | [],_::_,h=>by cases h
 | _::_,[],h=>by cases h
theorem dk {M:List Nat}:∀{vs:List V} {ts:List T},ae M (au vs ts)=au vs ts
 | [],ts=>by cases ts<;>rfl
 | a::vs,[]=>rfl
 | a::vs,b::ts=>by rw[au,ar rfl,dk]
noncomputable def bh (fr:List (Option Nat)) (M:List Nat) (g:MG) (c:MT) (e:ME):List R->Rho->List T->Option (List T×Rho)
 | [],ρ,acc=>some (acc,ρ)
 | r::rs,ρ,acc=>match g.run (gW (piF fr) r) (inR fr ρ)with
  | some ρ1=>(match c.run ρ1 with
   | some (true,ρ2)=>(match e.run ρ2 with
    | some (⟨.ow,t⟩,ρ3)=>bh fr M g c e rs (cw fr M ρ3 ρ) (acc++[t])
    | _=>none)
   | some (false,ρ2)=>bh fr M g c e rs (cw fr M ρ2 ρ) acc
   | none=>none)
  | none=>none
theorem eg {fr:List (Option Nat)}{e:En}:cF fr Z ρ (e::E)=bi (piF fr) e::cF fr Z ρ E:=rfl
theorem jq {fr:List (Option Nat)}{M:List Nat}{ρi:Rho}:(cw fr M ρi ρ).length=ρ.length:=ik
theorem jZ {J:It}{fr:List (Option Nat)}{g:TG}{tc:TT}{te:TE}{mg:MG}{c:MT}{e:ME}{M:List Nat}{vs:List V}{srcs:List R}{items:List R}{N:List V->Hp->Prop}(hK : Γ.K=K)(wk:gb Γ J vs srcs items)(hgk:dg fr g)(hg:g9 K g mg)(hc:ff K tc c)(he:aP K te e)(hM:M=mg.mu++(c.mu++e.mu))
  (hmu:∀j∈M,j<fr.length) (ks:∀e∈ens vs srcs,az (muF fr M) e=true) {E2:List En} (kE:ae (muF fr M) E2=E2) {tsF:List T} {ρF:Rho} {acc0:List V} {ts0:List T} (hl0:acc0.length=ts0.length) (hz:acc0.length+items.length<sizeLine)
  (hf:cQ fr ρ.length=true) (S:Sim Γ H ρ Z (ens vs srcs++(au acc0 ts0++E2))) (hr:bh fr M mg c e items ρ ts0=some (tsF,ρF))
  (q:∀acc H',acc.length=tsF.length->acc.length<=acc0.length+items.length->ρF.length=ρ.length->Sim Γ H' ρF Z (ens vs srcs++(au acc tsF++E2))->N acc H'):qY J (aO fr Z) g tc te acc0 H N:=by
 have kE2:∀acc ts,ae (muF fr M) (ens vs srcs++(au acc ts++E2))=ens vs srcs++(au acc ts++E2):=λacc ts=>by rw[aB,de ks,aB,dk,kE]
 refine⟨λi m acc H=>m=items.length-i/\i<=items.length/\acc.length<=acc0.length+i/\∃ρ1 ts,bh fr M mg c e (items.drop i) ρ1 ts=some (tsF,ρF)/\acc.length=ts.length/\ρ1.length=ρ.length/\Sim Γ H ρ1 Z (ens vs srcs++(au acc ts++E2)),⟨items.length,by simp,Ff _,by omega,ρ,ts0,by simpa using hr,hl0,rfl,S⟩,?_⟩
 rintro i m acc H1 ⟨rfl,hil,hal,ρ1,ts,h1,hl,hρ,S1⟩
 refine⟨by omega,?_⟩
 obtain⟨w1,w2⟩:=wk H1 ρ1 Z _ S1
 by_cases hlt:i<items.length
 ·have hx:items[i]?=some items[i]:=by simp[hlt]
  obtain⟨w3,w4⟩:=w2 i _ hx
  rw[EZ hlt,bh]at h1
  refine .inr ⟨w3,λacc' H'=>acc'.length<=acc0.length+(i+1)/\∃ρ1 ts,bh fr M mg c e (items.drop (i+1)) ρ1 ts=some (tsF,ρF)/\acc'.length=ts.length/\ρ1.length=ρ.length/\Sim Γ H' ρ1 Z (ens vs srcs++(au acc' ts++E2)),λacc' H' ⟨ha,ρ3,ts3,h3,hl3,hρ3,S3⟩=>⟨items.length-(i+1),by omega,rfl,hlt,ha,ρ3,ts3,h3,hl3,hρ3,S3⟩,λx H2 y=>?_⟩
  have S2:=w4 x H2 y
  have hf1:cQ fr ρ1.length=true:=by rw[hρ];exact hf
  have S3:=S2.inn hf1
  rw[eg]at S3
  split at h1
  ·rename_i ρ2 e2
   refine hgk x (aO fr Z) H2 (λZ2 H3=>Kp fr (aO fr Z) Z2->_) _ (λZ2 H3 z kp=>z kp) ?_
   refine hg Γ H2 (inR fr ρ1) (aO fr Z) _ _ x _ ρ2 hK e2 S3 λZ2 H3 S4 kp=>?_
   split at h1
   ·rename_i ρ3 e3
    refine hc Γ H3 ρ2 Z2 _ _ true ρ3 hK e3 S4 λH4 S5=>rV ?_
    split at h1
    ·rename_i t ρ4 e4
     refine he Γ H4 ρ3 Z2 _ _ _ ρ4 hK e4 S5 λw H5 S6=>?_
     rw[af,af]at S6
     rw[←hM]at S6
     have S7:Sim Γ H5 ρ4 Z2 (ae M (cF fr Z ρ1 (⟨none,w,⟨.ow,t⟩⟩::(ens vs srcs++(au acc ts++E2))))):=by
      rw[eg,ar (show az M (bi (piF fr) ⟨none,w,⟨.ow,t⟩⟩)=true from rfl)]
      exact S6
     have hl4 : ρ4.length=fr.length:=by rw[←S6.len,kp.1,bI]
     have S8:=S7.outt hf1 hmu hl4 kp S1.al S1.len (λe' he' j hj=>by
      rcases ycM he' with rfl|he'
      ·cases hj
      ·exact S1.hi e' he' j hj)
     rw[ar (show az (muF fr M) ⟨none,w,⟨.ow,t⟩⟩=true from rfl),kE2]at S8
     refine⟨by simp;omega,_,_,h1,by simp[hl],by rw[jq,hρ],?_⟩
     rw[kH hl,Ea]
     refine S8.perm ?_
     have pp:∀(A B C:List En) (x:En),(x::(A++(B++C))).Perm (A++(B++(x::C))):=λA B C x=>by
      rw[←Ea,←Ea]
      exact Et.symm
     exact pp _ _ _ _
    ·cases h1
   ·rename_i ρ3 e3
    refine hc Γ H3 ρ2 Z2 _ _ false ρ3 hK e3 S4 λH4 S5=>rT ?_
    have S6:=S5.weak e.mu
    rw[af,af]at S6
    rw[←hM]at S6
    have hl4 : ρ3.length=fr.length:=by rw[←S6.len,kp.1,bI]
    have S8:=S6.outt hf1 hmu hl4 kp S1.al S1.len S1.hi
    rw[kE2]at S8
    exact⟨by omega,_,_,h1,hl,by rw[jq,hρ],S8⟩
   ·cases h1
  ·cases h1
 ·have ei:i=items.length:=by omega
  subst ei
  rw[FL,bh]at h1
  cases h1
  exact .inl ⟨w1 _ (DY _),q acc H1 hl hal hρ S1⟩
noncomputable def cO (M:List Nat) (n:Nat):Bool:=M.all λj=>decide (j<n)
theorem jk {M:List Nat}{n:Nat}(h:cO M n=true):∀j∈M,j<n:=λj hj=>by
 have:=EH.mp h j hj
 simpa using this
@[irreducible] noncomputable def aV (fr:List (Option Nat))(it:MI)(g:MG)(c:MT)(e:ME):ME:=⟨λρ=>match it.run ρ with
 | some ((srcs,items),ρ1)=>if(cQ fr ρ1.length&&cO (g.mu++(c.mu++e.mu)) fr.length&&srcs.all (aC (muF fr (g.mu++(c.mu++e.mu))))&&decide (items.length<sizeLine))=true then(match bh fr (g.mu++(c.mu++e.mu)) g c e items ρ1 []with
  | some (ts,ρ2)=>some (⟨.ow,bu ts⟩,ρ2)
  | none=>none)else none
 | none=>none,it.mu++muF fr (g.mu++(c.mu++e.mu))⟩
theorem mJ {wi:TI}{fr:List (Option Nat)}{g:TG}{tc:TT}{te:TE}{it:MI}{mg:MG}{c:MT}{e:ME}(hi:i3 K wi it)(hgk:dg fr g)(hg:g9 K g mg)(hc:ff K tc c)(he:aP K te e):aP K (uE wi fr g tc te) (aV fr it mg c e):=by
 intro Γ H ρ Z E Q r ρ' hK hr S q
 simp only[aV]at hr q
 split at hr
 ·rename_i srcs items ρ1 e1
  split at hr
  ·rename_i hb
   simp only[DU,decide_eq_true_eq]at hb
   obtain⟨⟨⟨b1,b2⟩,b3⟩,b5⟩:=hb
   split at hr
   ·rename_i ts ρ2 e2
    cases hr
    refine hi Γ H ρ Z E _ srcs items ρ1 hK e1 S λJ vs H1 hlv S1 wk=>?_
    rw[←af]at q
    generalize ae it.mu E=E1 at q S1
    have ks:∀e'∈ens vs srcs,az (muF fr (mg.mu++(c.mu++e.mu))) e'=true:=i8 b3
    have S2:=S1.weak (muF fr (mg.mu++(c.mu++e.mu)))
    rw[aB,de ks]at S2
    have kE:=cv (M:=muF fr (mg.mu++(c.mu++e.mu))) (N:=muF fr (mg.mu++(c.mu++e.mu))) (λj hj=>hj) E1
    generalize ae (muF fr (mg.mu++(c.mu++e.mu))) E1=E2 at q S2 kE
    refine jZ (acc0:=[]) (ts0:=[]) hK wk hgk hg hc he rfl (jk b2) ks kE rfl (by simpa using b5) b1 S2 e2 λacc H' hl _ _ S3 d hd=>?_
    exact q _ _ (S3.drops.mkL hl hd)
   ·cases hr
  ·cases hr
 ·cases hr
noncomputable def bH (fr fr2:List (Option Nat)) (g:MG) (it2:MI) (g2:MG) (c:MT) (e:ME):List R->Rho->List T->Option (List T×Rho)
 | [],ρ,acc=>some (acc,ρ)
 | r::rs,ρ,acc=>match g.run (gW (piF fr) r) (inR fr ρ)with
  | some ρ1=>(match it2.run ρ1 with
   | some ((srcs2,items2),ρ2)=>if(cQ fr2 ρ2.length&&(decide (srcs2.length=1)&&srcs2.all (aC (muF fr2 (g2.mu++(c.mu++e.mu)))))&&decide (acc.length+items2.length<sizeLine))=true then(match bh fr2 (g2.mu++(c.mu++e.mu)) g2 c e items2 ρ2 acc with
    | some (ts,ρ3)=>bH fr fr2 g it2 g2 c e rs (cw fr (g.mu++(it2.mu++muF fr2 (g2.mu++(c.mu++e.mu)))) ρ3 ρ) ts
    | none=>none)else none
   | none=>none)
  | none=>none
@[irreducible] noncomputable def ig (fr fr2:List (Option Nat))(it:MI)(g:MG)(it2:MI)(g2:MG)(c:MT)(e:ME):ME:=⟨λρ=>match it.run ρ with
 | some ((srcs,items),ρ1)=>if(cQ fr ρ1.length&&cO (g.mu++(it2.mu++muF fr2 (g2.mu++(c.mu++e.mu)))) fr.length&&cO (g2.mu++(c.mu++e.mu)) fr2.length&&(decide (srcs.length=1)&&srcs.all (aC (muF fr (g.mu++(it2.mu++muF fr2 (g2.mu++(c.mu++e.mu))))))))=true then(match bH fr fr2 g it2 g2 c e items ρ1 []with
  | some (ts,ρ2)=>if ts.length<sizeLine then some (⟨.ow,bu ts⟩,ρ2)else none
  | none=>none)else none
 | none=>none,it.mu++muF fr (g.mu++(it2.mu++muF fr2 (g2.mu++(c.mu++e.mu))))⟩
theorem fh {fr:List (Option Nat)}{M:List Nat}{g:MG}{c:MT}{e:ME}:∀{items:List R} {ρ:Rho} {acc ts:List T} {ρ':Rho},bh fr M g c e items ρ acc=some (ts,ρ')->acc.length<=ts.length
 | [],ρ,acc,ts,ρ',h=>by cases h;exact DY _
 | r::rs,ρ,acc,ts,ρ',h=>by
  rw[bh]at h
  split at h
  ·split at h
   ·split at h
    ·have:=fh h;simp at this;omega
    ·cases h
   ·exact fh h
   ·cases h
  ·cases h
theorem gC {fr fr2:List (Option Nat)}{g:MG}{it2:MI}{g2:MG}{c:MT}{e:ME}:∀{items:List R} {ρ:Rho} {acc ts:List T} {ρ':Rho},bH fr fr2 g it2 g2 c e items ρ acc=some (ts,ρ')->acc.length<=ts.length
 | [],ρ,acc,ts,ρ',h=>by cases h;exact DY _
 | r::rs,ρ,acc,ts,ρ',h=>by
  rw[bH]at h
  split at h
  ·split at h
   ·split at h
    ·split at h
     ·rename_i e1;exact Ev (fh e1) (gC h)
     ·cases h
    ·cases h
   ·cases h
  ·cases h
theorem qE {wi wi2:TI}{fr fr2:List (Option Nat)}{g g2:TG}{tc:TT}{te:TE}{it it2:MI}{mg mg2:MG}{c:MT}{e:ME}(hi:i3 K wi it)(hgk:dg fr g)(hg:g9 K g mg)(hi2:i3 K wi2 it2)(hgk2:dg fr2 g2)(hg2:g9 K g2 mg2)(hc:ff K tc c)(he:aP K te e):aP K (uF wi fr g wi2 fr2 g2 tc te) (ig fr fr2 it mg it2 mg2 c e):=by
 intro Γ H ρ Z E Q r ρ' hK hr S q
 simp only[ig]at hr q
 split at hr
 ·rename_i srcs items ρ1 e1
  split at hr
  ·rename_i hb
   simp only[DU,decide_eq_true_eq]at hb
   obtain⟨⟨⟨b1,b2⟩,b3⟩,b5,b4⟩:=hb
   obtain⟨src,rfl⟩:=Fs.mp b5
   rw[E6,F3,Gc]at b4
   split at hr
   ·rename_i tsF ρF e2
    split at hr
    ·rename_i hz
     cases hr
     refine hi Γ H ρ Z E _ [src] items ρ1 hK e1 S λJ vs H1 hlv S1 wk=>?_
     obtain⟨v,rfl⟩:=Fs.mp hlv
     replace S1:Sim Γ H1 ρ1 Z (⟨none,v,src⟩::ae it.mu E):=S1
     rw[←af]at q
     generalize hM2:mg2.mu++(c.mu++e.mu)=M2 at *
     generalize hM:mg.mu++(it2.mu++muF fr2 M2)=M at *
     generalize ae it.mu E=E1 at q S1
     have ks:az (muF fr M) ⟨none,v,src⟩=true:=b4
     have S2:=S1.weak (muF fr M)
     rw[ar ks]at S2
     have kE:=cv (M:=muF fr M) (N:=muF fr M) (λj hj=>hj) E1
     generalize ae (muF fr M) E1=E2 at q S2 kE
     have kE2:∀acc ts,ae (muF fr M) (⟨none,v,src⟩::(au acc ts++E2))=⟨none,v,src⟩::(au acc ts++E2):=λacc ts=>by rw[ar ks,aB,dk,kE]
     refine⟨λi m acc H=>m=items.length-i/\i<=items.length/\∃ρ2 ts,bH fr fr2 mg it2 mg2 c e (items.drop i) ρ2 ts=some (tsF,ρ')/\acc.length=ts.length/\ρ2.length=ρ1.length/\Sim Γ H ρ2 Z (⟨none,v,src⟩::(au acc ts++E2)),⟨items.length,by simp,Ff _,ρ1,[],by simpa using e2,rfl,rfl,S2⟩,?_⟩
     rintro i m acc H2 ⟨rfl,hil,ρ2,ts,h1,hl,hρ,S3⟩
     have:=gC h1
     refine⟨by omega,?_⟩
     obtain⟨w1,w2⟩:=wk H2 ρ2 Z _ S3
     by_cases hlt:i<items.length
     ·have hx:items[i]?=some items[i]:=by simp[hlt]
      obtain⟨w3,w4⟩:=w2 i _ hx
      rw[EZ hlt,bH]at h1
      refine .inr ⟨w3,λacc' H'=>∃ρ2 ts,bH fr fr2 mg it2 mg2 c e (items.drop (i+1)) ρ2 ts=some (tsF,ρ')/\acc'.length=ts.length/\ρ2.length=ρ1.length/\Sim Γ H' ρ2 Z (⟨none,v,src⟩::(au acc' ts++E2)),λacc' H' ⟨ρ3,ts3,h3,hl3,hρ3,S3⟩=>⟨items.length-(i+1),by omega,rfl,hlt,ρ3,ts3,h3,hl3,hρ3,S3⟩,λx H3 y=>?_⟩
      have S4:Sim Γ H3 ρ2 Z (⟨none,x,items[i]⟩::⟨none,v,src⟩::(au acc ts++E2)):=w4 x H3 y
      have hf1:cQ fr ρ2.length=true:=by rw[hρ];exact b1
      have S5:=S4.inn hf1
      rw[eg]at S5
      split at h1
      ·rename_i ρ3 e3
       refine hgk x (aO fr Z) H3 (λZ2 H4=>Kp fr (aO fr Z) Z2->_) _ (λZ2 H4 z kp=>z kp) ?_
       refine hg Γ H3 (inR fr ρ2) (aO fr Z) _ _ x _ ρ3 hK e3 S5 λZ2 H4 S6 kp=>?_
       split at h1
       ·rename_i srcs2 items2 ρ4 e4
        split at h1
        ·rename_i hb2
         rw[hM2]at hb2
         simp only[DU,decide_eq_true_eq]at hb2
         obtain⟨⟨c1,c4,c2⟩,c3⟩:=hb2
         obtain⟨src2,rfl⟩:=Fs.mp c4
         rw[E6,F3,Gc]at c2
         split at h1
         ·rename_i ts3 ρ5 e5
          rw[hM2]at e5 h1
          refine hi2 Γ H4 ρ3 Z2 _ _ [src2] items2 ρ4 hK e4 S6 λJ2 vs2 H5 hlv2 S7 wk2=>?_
          obtain⟨v2,rfl⟩:=Fs.mp hlv2
          rw[show ens [v2] [src2]=[⟨none,v2,src2⟩]from rfl,List.singleton_append]at S7
          rw[af]at S7
          have ks2:az (muF fr2 M2) ⟨none,v2,src2⟩=true:=c2
          have eo:ae (mg.mu++it2.mu) (cF fr Z ρ2 (⟨none,v,src⟩::(au acc ts++E2)))=ae (mg.mu++it2.mu) (bi (piF fr) ⟨none,v,src⟩::(au acc ts++cF fr Z ρ2 E2)):=by
           congr 1
           rw[eg]
           congr 1
           unfold cF
           rw[Ea,D9]
           congr 1
           have:∀{vs:List V} {ts:List T},(au vs ts).map (bi (piF fr))=au vs ts:=by
            intro vs
            induction vs with
            | nil=>intro ts;cases ts<;>rfl
            | cons a vs ih=>
             intro ts
             cases ts with
             | nil=>rfl
             | cons b ts=>rw[au,DS,ih];rfl
           exact this
          have S8:=S7.weak (muF fr2 M2)
          rw[ar ks2,eo,af]at S8
          have pm:(⟨none,v2,src2⟩::ae (mg.mu++it2.mu++muF fr2 M2) (bi (piF fr) ⟨none,v,src⟩::(au acc ts++cF fr Z ρ2 E2))).Perm (⟨none,v2,src2⟩::(au acc ts++ae (mg.mu++it2.mu++muF fr2 M2) (bi (piF fr) ⟨none,v,src⟩::cF fr Z ρ2 E2))):=by
           refine List.Perm.cons _ ?_
           have e9:ae (mg.mu++it2.mu++muF fr2 M2) (au acc ts++(bi (piF fr) ⟨none,v,src⟩::cF fr Z ρ2 E2))=au acc ts++ae (mg.mu++it2.mu++muF fr2 M2) (bi (piF fr) ⟨none,v,src⟩::cF fr Z ρ2 E2):=by rw[aB,dk]
           rw[←e9]
           exact List.Perm.filter _ Et.symm
          have S9:=S8.perm pm
          have kE9:=cv (M:=mg.mu++it2.mu++muF fr2 M2) (N:=muF fr2 M2) (λj hj=>yaR _ hj) (bi (piF fr) ⟨none,v,src⟩::cF fr Z ρ2 E2)
          refine jZ (H:=H5) (ρ:=ρ4) (Z:=Z2) (E2:=ae (mg.mu++it2.mu++muF fr2 M2) (bi (piF fr) ⟨none,v,src⟩::cF fr Z ρ2 E2)) (acc0:=acc) (ts0:=ts) hK wk2 hgk2 hg2 hc he hM2.symm (jk b3) (λe' he'=>by rcases ysM he' with rfl;exact ks2) kE9 hl (by rw[hl];exact c3) c1 S9 e5 λacc' H6 hl' _ hρ5 S10=>?_
          refine⟨_,ts3,h1,hl',by rw[jq,hρ],?_⟩
          have S11:=S10.drop rfl
          have em:mg.mu++it2.mu++muF fr2 M2=M:=by rw[←hM,Ea]
          have pm2:(au acc' ts3++ae (mg.mu++it2.mu++muF fr2 M2) (bi (piF fr) ⟨none,v,src⟩::cF fr Z ρ2 E2)).Perm (ae M (cF fr Z ρ2 (⟨none,v,src⟩::(au acc' ts3++E2)))):=by
           have e10:cF fr Z ρ2 (⟨none,v,src⟩::(au acc' ts3++E2))=bi (piF fr) ⟨none,v,src⟩::(au acc' ts3++cF fr Z ρ2 E2):=by
            rw[eg]
            congr 1
            unfold cF
            rw[Ea,D9]
            congr 1
            have:∀{vs:List V} {ts:List T},(au vs ts).map (bi (piF fr))=au vs ts:=by
             intro vs
             induction vs with
             | nil=>intro ts;cases ts<;>rfl
             | cons a vs ih=>
              intro ts
              cases ts with
              | nil=>rfl
              | cons b ts=>rw[au,DS,ih];rfl
            exact this
           rw[em,e10]
           have e11:ae M (au acc' ts3++(bi (piF fr) ⟨none,v,src⟩::cF fr Z ρ2 E2))=au acc' ts3++ae M (bi (piF fr) ⟨none,v,src⟩::cF fr Z ρ2 E2):=by rw[aB,dk]
           rw[←e11]
           exact List.Perm.filter _ Et
          have S12:=S11.perm pm2
          have hl5 : ρ5.length=fr.length:=by rw[←S12.len,kp.1,bI]
          have tk:∀{vs:List V} {ts:List T} {e':En},e'∈au vs ts->e'.key=none:=by
           intro vs
           induction vs with
           | nil=>intro ts e' h;cases ts<;>cases h
           | cons a vs ih=>
            intro ts e' h
            cases ts with
            | nil=>cases h
            | cons b ts=>
             rcases ycM h with rfl|h
             ·rfl
             ·exact ih h
          have S13:=S12.outt hf1 (jk b2) hl5 kp S3.al S3.len (λe' he' j hj=>by
           rcases ycM he' with rfl|he'
           ·cases hj
           ·rcases yaM he' with he'|he'
            ·rw[tk he']at hj;cases hj
            ·exact S3.hi e' (ymC _ (yaR _ he')) j hj)
          rw[kE2]at S13
          rw[hM]
          exact S13
         ·cases h1
        ·cases h1
       ·cases h1
      ·cases h1
     ·have ei:i=items.length:=by omega
      subst ei
      rw[FL,bH]at h1
      cases h1
      exact .inl ⟨w1 _ (DY _),λd hd=>q _ _ ((S3.drop rfl).mkL hl hd)⟩
    ·cases hr
   ·cases hr
  ·cases hr
 ·cases hr
end
section
variable  {Γ:Gm}{H H':Hp}{L:List Hd}{ρ:Rho}{Z:St}{E X:List En}{v w x y:V}{t s:T}{K:yF}{Q:VK}
theorem GW.stepN {hs ns:List Hd}(G:GW Γ H (hs++L))(ho:∀h∈hs,h.e.r.k.isOw=true)(hr:∀g∈L,∀h∈hs,∀j,h.e.key=some j->g.e.r.k.root≠some j)
  (off:OffM (hs.flatMap (·.F)) H H') (dom:∀a∈hs.flatMap (·.F),∃o,H' a=some o) (nd:(ns.flatMap (·.F)).Nodup) (hF:∀a∈ns.flatMap (·.F),(a∈hs.flatMap (·.F)∨H a=none)/\Mu H' a) (hp:∀n∈ns,Rp Γ.K H' n.e.r.t n.e.v n.F)
  (hk:∀n∈ns,(n.e.r.k=.ow/\∀a∈n.F,H a=none ∨ ∃h∈hs,h.e.r.k=.ow/\a∈h.F) ∨ ∃k,n.e.r.k=.io k/\Γ.iov[k]?=some n.e.v) (hkey:((ns++L).filterMap λh=>h.e.key).Nodup):GW Γ H' (ns++L):=by
 have iow:∀n∈ns,n.e.r.k.isOw=true:=λn hn=>by rcases hk n hn with⟨e,_⟩|⟨k,e,_⟩<;>rw[e]<;>rfl
 have eo:=fv ho
 have en:=fv iow
 have G':=G.nd
 rw[D6,eo]at G'
 have nd1:=(DW.mp G').2.1
 have dj:=(DW.mp G').2.2
 have adL:∀a∈L.flatMap Hd.own,Mu H a/\(Γ.H0 a=none∨a ∈ Γ.io):=λa ha=>G.ad a (by rw[D6];exact yaR _ ha)
 have adM:∀a∈hs.flatMap (·.F),Mu H a/\(Γ.H0 a=none∨a ∈ Γ.io):=λa ha=>G.ad a (by rw[D6,eo];exact yaL _ ha)
 have ap:=G.apart hr ho
 have apM:∀g∈L,∀a∈g.F,a∉hs.flatMap (·.F):=λg hg a ha hm=>by
  obtain⟨h,hh,hah⟩:=EN.mp hm
  exact ap g hg a ha h hh hah
 refine⟨?_,λa ha=>?_,λx hx=>?_,λx hx=>?_,hkey,λb o e n=>?_,λa ha=>?_⟩
 ·rw[D6,en]
  refine DW.mpr ⟨nd,nd1,λa ha b hb=>?_⟩
  rintro rfl
  rcases(hF a ha).1 with z|z
  ·exact dj a z a hb rfl
  ·obtain⟨o,e,_⟩:=(adL a hb).1
   rw[z]at e;cases e
 ·rw[D6,en]at ha
  rcases yaM ha with ha|ha
  ·refine⟨(hF a ha).2,?_⟩
   rcases(hF a ha).1 with z|z
   ·exact(adM a z).2
   ·exact .inl (G.new0 z)
  ·obtain⟨⟨o,e,m⟩,z⟩:=adL a ha
   exact⟨⟨o,off a o e λhm=>dj a hm a ha rfl,m⟩,z⟩
 ·rcases yaM hx with hx|hx
  ·exact hp x hx
  ·exact(G.rp x (yaR _ hx)).off off (λa ha=>(adM a ha).1) (apM x hx)
 ·rcases yaM hx with hx|hx
  ·unfold KdOk
   rcases hk x hx with⟨e,eh⟩|⟨k,e,ek⟩
   ·simp only[e]
    intro a ha
    rcases eh a ha with z|⟨h,hh,he,hah⟩
    ·exact G.new0 z
    ·have q:=G.kd h (yaL _ hh)
     unfold KdOk at q
     rw[he]at q
     exact q a hah
   ·simp only[e];exact ek
  ·have k:=G.kd x (yaR _ hx)
   have st:∀a∈x.F,a∉(hs++L).flatMap Hd.own->a∉(ns++L).flatMap Hd.own:=λa ha n z=>by
    rw[D6,en]at z
    rcases yaM z with z|z
    ·rcases(hF a z).1 with w|w
     ·exact n (by rw[D6,eo];exact yaL _ w)
     ·obtain⟨o,e⟩:=(G.rp x (yaR _ hx)).dom a ha
      rw[w]at e;cases e
    ·exact n (by rw[D6];exact yaR _ z)
   unfold KdOk at k⊢
   split at k
   ·exact k
   ·exact k
   ·exact λa ha=>st a ha (k a ha)
   ·rename_i j p e
    obtain⟨g,h1,h2,h3,h4,h5⟩:=k
    rcases yaM h1 with hg|hg
    ·exact absurd (by rw[e];rfl) (hr x hx g hg j h2)
    ·refine⟨g,yaR _ hg,h2,h3,λa ha=>(h4 a ha).imp id (st a ha),λq hq=>⟨(h5 q hq).1,?_⟩⟩
     exact kO off (F:=g.F) (apM g hg) (G.muF (yaR _ hg) h3) (λa ha=>ha) (G.ndF (yaR _ hg) h3) (G.rp g (yaR _ hg)) (h5 q hq).1 (h5 q hq).2
 ·refine off b o (G.fr b o e n) λhm=>?_
  rcases(adM b hm).2 with z|z
  ·rw[z]at e;cases e
  ·exact n z
 ·obtain⟨o,e⟩:=G.iol a ha
  by_cases hm:a∈hs.flatMap (·.F)
  ·exact dom a hm
  ·exact⟨o,off a o e hm⟩
theorem GW.uniq (g:GW Γ H L){x z:Hd}{i:Nat}(x1:x∈L)(hz:z∈L)(x2:x.e.key=some i)(z2:z.e.key=some i):x=z:=by
 have nk:=g.ks
 by_cases q:x=z
 ·exact q
 ·exfalso
  obtain⟨A,B,rfl⟩:=FI x1
  rw[Ek,Ei,x2]at nk
  rcases yaM hz with hz|hz
  ·exact(DW.mp nk).2.2 i (Ey.mpr ⟨z,hz,z2⟩) i ymS rfl
  ·rcases ycM hz with hz|hz
   ·exact q hz.symm
   ·exact(Ep.mp (DW.mp nk).2.1).1 (Ey.mpr ⟨z,hz,z2⟩)
theorem Sim.place {i:Nat}{p:List Ac}{r:R}{v0:V}(S:Sim Γ H ρ Z E)(he:(⟨none,w,⟨.vw (some i) (some p),s⟩⟩:En)∈E)(h : ρ[i]?=some (some r))(hv:Z[i]?=some (some v0)):r.t.sub p=some s/\atP Γ.K H v0 p w:=by
 obtain⟨v1,hv1,hm⟩:=S.slot h
 rw[hv]at hv1;cases hv1
 obtain⟨L,g,e⟩:=S.sl
 have h1:(⟨none,w,⟨.vw (some i) (some p),s⟩⟩:En)∈L.map (·.e):=by rw[e];exact yaL _ he
 obtain⟨y,hy,ey⟩:=D4.mp h1
 have kd:=g.kd y hy
 unfold KdOk at kd
 rw[ey]at kd
 obtain⟨x,x1,x2,x3,x4,x5⟩:=kd
 have hm':(⟨some i,v0,r⟩:En)∈L.map (·.e):=by rw[e];exact hm
 obtain⟨z,hz,ez⟩:=D4.mp hm'
 have:=g.uniq x1 hz x2 (by rw[ez])
 subst this
 have:=x5 p rfl
 rw[ez]at this
 exact this
theorem SimL.dropsN:∀{A X:List En},SimL Γ H (A++X)->(∀e∈A,e.key=none)->SimL Γ H X
 | [],_,S,_=>S
 | a::A,X,S,h=>SimL.dropsN (SimL.drop S (h a ymS)) λe he=>h e (ymC _ he)
theorem kX:∀{vs:List V} {rs:List R} {m:Nat} {r:R} {x:V},rs[m]?=some r->vs[m]?=some x->(⟨none,x,r⟩:En)∈ens vs rs
 | [],_,m,_,_,_,h=>by simp at h
 | _::_,[],m,_,_,h,_=>by simp at h
 | v::vs,r0::rs,0,r,x,h1,h2=>by simp at h1 h2;subst h1 h2;exact ymS
 | v::vs,r0::rs,m+1,r,x,h1,h2=>ymC _ (kX (by simpa using h1) (by simpa using h2))
theorem oG:∀{vs:List V} {rs:List R} {e:En},e∈ens vs rs->e.key=none
 | [],rs,e,h=>by cases rs<;>cases h
 | _::_,[],e,h=>by cases h
 | v::vs,r::rs,e,h=>by
  rcases ycM h with rfl|h
  ·rfl
  ·exact oG h
theorem Sim.io {vs:List V}{rs:List R}{k i:Nat}{p:List Ac}{kd:Kd}{t0:T}(S:Sim Γ H ρ Z (ens vs rs++E))(hk:rs[k]?=some ⟨.vw (some i) (some p),s⟩)(hw:vs[k]?=some w)(hal:∀m r,m≠k->rs[m]?=some r->aC [i] r=true)(h : ρ[i]?=some (some ⟨kd,t0⟩))(ho:kd.isOw=true) :
  ∃G,Rp Γ.K H s w G/\G.Nodup/\(∀a∈G,Mu H a)/\(∀m r x,m≠k->rs[m]?=some r->vs[m]?=some x->∃F,Rp Γ.K H r.t x F/\∀a∈F,a∉G) ∧
  ∀H' s' v t F G',OffM G H H'->(∀a∈G,∃o,H' a=some o)->(F++G').Nodup->(∀a∈F,H a=none/\Mu H' a)->(∀a∈G',(a∈G∨H a=none)/\Mu H' a)->Rp Γ.K H' s' w G'->Rp Γ.K H' t v F->Sim Γ H' ((ao [i] ρ).set i (some ⟨kd,t0.put p s'⟩)) Z (⟨none,v,⟨.ow,t⟩⟩::ae [i] E):=by
 have hil:i < ρ.length:=(DR.mp h).1
 obtain⟨v0,hv0,h1,h2,h3⟩:=S.out h ho
 have pl:=S.place (yaL _ (kX hk hw)) h hv0
 obtain⟨L,g,eL⟩:=h1
 obtain⟨x,L',rfl,ex,eL'⟩:=aE eL
 have hox:x.e.r.k.isOw=true:=by rw[ex];exact ho
 have nx:=g.ndF ymS hox
 have mx:=g.muF ymS hox
 have hsub:x.e.r.t.sub p=some s:=by rw[ex];exact pl.1
 obtain⟨w',A,G,B,z1,z2,z3,z4⟩:=(g.rp x ymS).atP mx nx hsub
 have ew:w'=w:=by rw[ex]at z1;exact gB z1 pl.2
 subst ew
 have inG:∀a∈G,a∈x.F:=λa ha=>by rw[z3];exact yaL _ (yaR _ ha)
 have ndx:=nx
 rw[z3]at ndx
 have ndA:=DW.mp ndx
 have ndG:=DW.mp ndA.1
 have keyL:∀g∈L',g.e.key≠some i:=λy hy=>h3 y.e (by rw[←eL'];exact Eu hy)
 have rootL:∀g∈L',g.e.r.k.root≠some i:=λy hy=>h2 y.e (by rw[←eL'];exact Eu hy)
 have ap:=GW.apart (hs:=[x]) (L:=L') g (λy hy z hz j hj=>by rw[ysM hz,ex]at hj;cases hj;exact rootL y hy) (λz hz=>by rw[ysM hz];exact hox)
 refine⟨G,z2,ndG.2.1,λa ha=>mx a (inG a ha),λm r y hm hr hy=>?_,λH' s' v t F G' off dom nd hF hG rp' rpt=>?_⟩
 ·have hmem:(⟨none,y,r⟩:En)∈ae [i] (ens vs rs++E):=D7.mpr ⟨yaL _ (kX hr hy),hal m r hm hr⟩
  have hmem2:(⟨none,y,r⟩:En)∈L'.map (·.e):=by rw[eL'];exact yaL _ hmem
  obtain⟨z,hz,ez⟩:=D4.mp hmem2
  have rz:=g.rp z (ymC _ hz)
  rw[ez]at rz
  exact⟨z.F,rz,λa ha hg=>ap z hz a ha x ymS (inG a hg)⟩
 ·have apAB:∀a,(a∈A∨a∈B)->a∉G:=λa ha hm=>by
   rcases ha with q|q
   ·exact ndG.2.2 a q a hm rfl
   ·exact ndA.2.2 a (yaR _ hm) a q rfl
  have inAB:∀a,(a∈A∨a∈B)->a∈x.F:=λa ha=>by
   rw[z3]
   rcases ha with q|q
   ·exact yaL _ (yaL _ q)
   ·exact yaR _ q
  have rp2:=z4 H' s' G' off rp'
  have nFG:=DW.mp nd
  have oldAB:∀a,(a∈A∨a∈B)->H a≠none:=λa ha z=>by obtain⟨o,e1,_⟩:=mx a (inAB a ha);rw[z]at e1;cases e1
  have nG':∀a,(a∈A∨a∈B)->a∉G':=λa ha hg=>by
   rcases(hG a hg).1 with z|z
   ·exact apAB a ha z
   ·exact oldAB a ha z
  have ndR:(A++G'++B).Nodup:=by
   refine DW.mpr ⟨DW.mpr ⟨ndG.1,nFG.2.1,λa ha b hb e=>nG' a (.inl ha) (e▸hb)⟩,ndA.2.1,λa ha b hb e=>?_⟩
   subst e
   rcases yaM ha with z|z
   ·exact ndA.2.2 a (yaL _ z) a hb rfl
   ·exact nG' a (.inr hb) z
  have memR:∀a∈A++G'++B,(a∈x.F∨H a=none)/\Mu H' a:=λa ha=>by
   have old:a∈A∨a∈B->(a∈x.F∨H a=none)/\Mu H' a:=λq=>by
    obtain⟨o,e1,m1⟩:=mx a (inAB a q)
    exact⟨.inl (inAB a q),o,off a o e1 (apAB a q),m1⟩
   rcases yaM ha with z|z
   ·rcases yaM z with z|z
    ·exact old (.inl z)
    ·exact⟨(hG a z).1.imp (inG a) id,(hG a z).2⟩
   ·exact old (.inr z)
  have st:=GW.stepN (hs:=[x]) (L:=L') (H':=H') (ns:=[⟨⟨none,v,⟨.ow,t⟩⟩,F⟩,⟨⟨some i,v0,⟨kd,t0.put p s'⟩⟩,A++G'++B⟩]) g (λz hz=>by rw[ysM hz];exact hox) (λy hy z hz j hj=>by rw[ysM hz,ex]at hj;cases hj;exact rootL y hy)
   (by simpa using off.mono inG) (λa ha=>by
    have ha':a∈x.F:=by simpa using ha
    by_cases hg:a∈G
    ·exact dom a hg
    ·obtain⟨o,e1,_⟩:=mx a ha';exact⟨o,off a o e1 hg⟩)
   (by
    simp only[D3,FM,El]
    refine DW.mpr ⟨nFG.1,ndR,λa ha b hb e=>?_⟩
    subst e
    rcases yaM hb with z|z
    ·rcases yaM z with z|z
     ·exact oldAB a (.inl z) (hF a ha).1
     ·exact nFG.2.2 a ha a z rfl
    ·exact oldAB a (.inr z) (hF a ha).1)
   (λa ha=>by
    simp only[D3,FM,El]at ha⊢
    rcases yaM ha with z|z
    ·exact⟨.inr (hF a z).1,(hF a z).2⟩
    ·exact memR a z)
   (λn hn=>by
    rcases ycM hn with rfl|hn
    ·exact rpt
    ·rw[ysM hn];rw[ex]at rp2;exact rp2)
   (λn hn=>by
    rcases ycM hn with rfl|hn
    ·exact .inl ⟨rfl,λa ha=>.inl (hF a ha).1⟩
    ·rw[ysM hn]
     have kx:=g.kd x ymS
     unfold KdOk at kx
     rw[ex]at kx
     cases kd with
     | ow=>exact .inl ⟨rfl,λa ha=>(memR a ha).1.elim (λz=>.inr ⟨x,ymS,by rw[ex],z⟩) .inl⟩
     | io n=>exact .inr ⟨n,rfl,kx⟩
     | vw a b=>cases ho)
   (by
    have ks:=g.ks
    rw[Ei,ex]at ks
    exact ks)
  have S2:=S.kill [i]
  have SL:SimL Γ H' (⟨none,v,⟨.ow,t⟩⟩::⟨some i,v0,⟨kd,t0.put p s'⟩⟩::(ae [i] (ens vs rs++E)++ay 0 Z ((ao [i] ρ).set i none))):=⟨_,st,by rw[D9,eL'];rfl⟩
  have SL2:SimL Γ H' (⟨none,v,⟨.ow,t⟩⟩::⟨some i,v0,⟨kd,t0.put p s'⟩⟩::(ae [i] E++ay 0 Z ((ao [i] ρ).set i none))):=by
   rw[aB,Ea]at SL
   have pp:(⟨none,v,⟨.ow,t⟩⟩::⟨some i,v0,⟨kd,t0.put p s'⟩⟩::(ae [i] (ens vs rs)++(ae [i] E++ay 0 Z ((ao [i] ρ).set i none)))).Perm (ae [i] (ens vs rs)++(⟨none,v,⟨.ow,t⟩⟩::⟨some i,v0,⟨kd,t0.put p s'⟩⟩::(ae [i] E++ay 0 Z ((ao [i] ρ).set i none)))):=by
    refine List.Perm.trans ?_ (Et.symm)
    refine List.Perm.cons _ ?_
    exact Et.symm
   exact(SL.perm pp).dropsN λe he=>oG (D7.mp he).1
  refine S2.back (E':=⟨none,v,⟨.ow,t⟩⟩::ae [i] E) (SL2.perm ?_) (by simp[aF]) rfl (λm r' hm=>?_) (λe he j hj=>?_)
  ·have pq:=(fj (k:=0) (Z:=Z) (ρ:=ao [i] ρ) (v:=v0) (r:=⟨kd,t0.put p s'⟩) (by rw[S.len];exact hil) (by rw[aF];exact hil)).append_left (ae [i] E)
   rw[EG]at pq
   have eZ:Z.set i (some v0)=Z:=by
    apply Fn
    intro m
    by_cases hm:m=i
    ·subst hm;rw[hv0];simp[S.len,hil]
    ·rw[Ef (Ne.symm hm)]
   rw[eZ]at pq
   rw[Ej]
   exact List.Perm.cons _ ((Et.symm).trans pq.symm)
  ·by_cases e:m=i
   ·subst e;exact⟨v0,hv0⟩
   ·rw[Ef (Ne.symm e)]at hm;exact S2.al m r' hm
  ·rcases ycM he with rfl|he
   ·cases hj
   ·rw[aB];exact yaR _ he
def spP (K:yF)(run:List T->Option T):Sp:=λvs H Q _=>∃ts t,Rpxs K H ts vs/\run ts=some t/\∀v H',New K H H' t v->Q v H'
def spI (K:yF)(k:Nat)(run:List T->Option (T×T)):Sp:=λvs H Q _=>∃ts s w G t s',vs.length=ts.length/\vs[k]?=some w/\ts[k]?=some s/\Rp K H s w G/\G.Nodup/\(∀a∈G,Mu H a)/\(∀(m:Nat) x u,m≠k->vs[m]?=some x->ts[m]?=some u->∃F,Rp K H u x F/\∀a∈F,a∉G)/\run ts=some (t,s') ∧
 ∀v H' F G',OffM G H H'->(∀a∈G,∃o,H' a=some o)->(F++G').Nodup->(∀a∈F,H a=none/\Mu H' a)->(∀a∈G',(a∈G∨H a=none)/\Mu H' a)->Rp K H' s' w G'->Rp K H' t v F->Q v H'
theorem qD {run:List T->Option T}{ta:TA}{a:MA}(ha:fe K ta a):aP K (kG (spP K run) [] E0 ta) (mB run a):=by
 have e:kG (spP K run) [] E0 ta=tCB (λvs H Q=>spP K run vs H Q E0) ta:=by
  funext Z H Q
  show(ta Z H λvs H1=>spP K run (vs++[]) H1 Q E0)=_
  simp only[El]
  rfl
 rw[e]
 exact o4 (λH vs ts t Q r e q=>⟨ts,t,r,e,q⟩) ha
@[irreducible] noncomputable def ak (k j:Nat)(run:List T->Option (T×T))(a:MA):ME:=⟨λρ=>match a.run ρ with
 | some (rs,ρ1)=>(match rs[k]? with
  | some ⟨.vw (some i) (some p),_⟩=>if(decide (i=j)&&(Es rs.length).all λm=>decide (m=k)||aC [j] (rs.getD m ⟨.ow,.im .non⟩))=true then(match run (rs.map (·.t))with
   | some (t,s')=>(match ρ1[j]? with
    | some (some ⟨kd,t0⟩)=>if kd.isOw=true then some (⟨.ow,t⟩,(ao [j] ρ1).set j (some ⟨kd,t0.put p s'⟩))else none
    | _=>none)
   | none=>none)else none
  | _=>none)
 | none=>none,a.mu++[j]⟩
theorem qC {k j:Nat}{run:List T->Option (T×T)}{ta:TA}{a:MA}(ha:fe K ta a):aP K (kG (spI K k run) [] E0 ta) (ak k j run a):=by
 intro Γ H ρ Z E Q r ρ' hK hr S q
 show ta Z H λvs H1=>spI K k run (vs++[]) H1 Q E0
 simp only[El]
 simp only[ak]at hr q
 split at hr
 ·rename_i rs ρ1 e1
  split at hr
  ·rename_i i p s e2
   split at hr
   ·rename_i hb
    rw[DU,decide_eq_true_eq]at hb
    obtain⟨rfl,hal⟩:=hb
    split at hr
    ·rename_i t s' e3
     split at hr
     ·rename_i kd t0 e4
      split at hr
      ·rename_i ho
       cases hr
       refine ha Γ H ρ Z E _ rs ρ1 hK e1 S λvs H1 hl S1=>?_
       have hkl:k<rs.length:=(DR.mp e2).1
       obtain⟨w,hw⟩:∃w,vs[k]?=some w:=⟨vs[k],by simp[hl,hkl]⟩
       have hal':∀m r,m≠k->rs[m]?=some r->aC [i] r=true:=λm r hm hr=>by
        have hml:=(DR.mp hr).1
        have:=EH.mp hal m (E8.mpr hml)
        rw[Eb,hr]at this
        simpa[hm]using this
       obtain⟨G,g1,g2,g3,g4,g5⟩:=S1.io e2 hw hal' e4 ho
       rw[hK]at g1
       refine⟨rs.map (·.t),s,w,G,t,s',by rw[DX,hl],hw,by rw[DZ,e2];rfl,g1,g2,g3,λm x u hm hx hu=>?_,e3,λv H' F G' a1 a2 a3 a4 a5 a6 a7=>q v H' ?_⟩
       ·rw[DZ]at hu
        cases hr:rs[m]? with
        | none=>rw[hr]at hu;cases hu
        | some r=>
         rw[hr]at hu;cases hu
         have:=g4 m r x hm hr hx
         rw[hK]at this
         exact this
       ·rw[←hK]at a6 a7
        have:=g5 H' s' v t F G' a1 a2 a3 a4 a5 a6 a7
        rw[af]at this
        exact this
      ·cases hr
     ·cases hr
    ·cases hr
   ·cases hr
  ·cases hr
 ·cases hr
noncomputable def roR:T->R
 | .im i=>⟨.ow,.im i⟩
 | t=>⟨.vw none none,t⟩
noncomputable def cx (ts:List T) (n:Nat):Rho:=(ts.map λt=>some (roR t))++DV (n-ts.length) none
theorem gf:∀(k n m:Nat),ay k (DV n none) (DV m none)=[]
 | _,0,_=>rfl
 | _,n+1,0=>rfl
 | k,n+1,m+1=>by simp only[Ez,ay];exact gf (k+1) n m
theorem o7 {H0:Hp}{io:List Addr}{iov:List V}(n m:Nat):∀{ts:List T} {vs:List V} {k:Nat},Rpxs K H ts vs->∃L:List Hd,L.map (·.e)=ay k (vs.map some++DV n none) ((ts.map λt=>some (roR t))++DV m none)/\L.flatMap Hd.own=[]/\(∀h∈L,Rp K H h.e.r.t h.e.v h.F)/\(∀h∈L,(h.e.r.k=.ow/\h.F=[])∨h.e.r.k=.vw none none)
 | [],vs,k,r=>by
  rw[Rpxs]at r;subst r
  exact⟨[],by simp[gf],rfl,by simp,by simp⟩
 | t::ts,vs,k,r=>by
  obtain⟨v,vr,rfl,⟨F,r1⟩,r2⟩:=r
  obtain⟨L,h1,h2,h3,h4⟩:=o7 (H0:=H0) (io:=io) (iov:=iov) n m (k:=k+1) r2
  have hroR:∃F',Rp K H (roR t).t v F'/\(((roR t).k=.ow/\F'=[])∨(roR t).k=.vw none none):=by
   cases t with
   | im i=>exact⟨[],ga (ba r1).1,.inl ⟨rfl,rfl⟩⟩
   | _=>exact⟨F,r1,.inr rfl⟩
  obtain⟨F',g1,g2⟩:=hroR
  refine⟨⟨⟨some k,v,roR t⟩,F'⟩::L,by simp[ay,h1],?_,λh hh=>?_,λh hh=>?_⟩
  ·rw[D3,h2,El]
   unfold Hd.own
   rcases g2 with⟨e,rfl⟩|e
   ·simp
   ·rw[show(⟨⟨some k,v,roR t⟩,F'⟩:Hd).e.r.k=(roR t).k from rfl,e];rfl
  ·rcases ycM hh with rfl|hh
   ·exact g1
   ·exact h3 h hh
  ·rcases ycM hh with rfl|hh
   ·rcases g2 with⟨e,rfl⟩|e
    ·exact .inl ⟨e,rfl⟩
    ·exact .inr e
   ·exact h4 h hh
theorem Rpxs.length:∀{ts:List T} {vs:List V},Rpxs K H ts vs->vs.length=ts.length
 | [],vs,r=>by rw[Rpxs]at r;subst r;rfl
 | t::ts,vs,r=>by obtain⟨v,vr,rfl,_,r2⟩:=r;rw[D5,D5,Rpxs.length r2]
theorem mN {ts:List T}{vs:List V}{n m:Nat}(hl:vs.length=ts.length)(i:Nat)(r:R)(h:((ts.map λt=>some (roR t))++DV m none)[i]?=some (some r)):∃v,(vs.map some++DV n none)[i]?=some (some v):=by
 have hi:i<ts.length:=by
  by_cases e:i<ts.length
  ·exact e
  ·rw[EW (by simp;omega),Gg]at h
   split at h<;>cases h
 refine⟨vs[i],?_⟩
 rw[EF (by simp;omega),DZ]
 simp[hl,hi]
theorem oH {k:Nat}:((ay k Z ρ).filterMap λe=>e.key).Nodup:=by
 have:=kY (k:=k) (Z:=Z) (ρ:=ρ)
 refine List.Pairwise.filterMap (R:=λa b=>∃i j,a.key=some i/\b.key=some j/\i<j) (λe:En=>e.key) (λa a' ⟨i,j,h1,h2,h3⟩ b hb b' hb'=>?_) this
 rw[h1]at hb;rw[h2]at hb'
 cases hb;cases hb'
 omega
theorem xo {ts:List T}{vs:List V}{N:List Str}(r:Rpxs K H ts vs):Sim ⟨K,H,[],[]⟩ H (cx ts N.length) (bB N vs) []:=by
 obtain⟨L,h1,h2,h3,h4⟩:=o7 (H0:=H) (io:=[]) (iov:=[]) (N.length-vs.length) (N.length-ts.length) (k:=0) r
 refine⟨⟨L,⟨by rw[h2];exact Fi,by rw[h2];simp,h3,λh hh=>?_,?_,λb o e _=>e,by simp⟩,by rw[h1];rfl⟩,λi r' h=>mN r.length i r' h,?_,by simp⟩
 ·unfold KdOk
  rcases h4 h hh with⟨e,eF⟩|e
  ·rw[e,eF];simp
  ·rw[e,h2];simp
 ·have:(L.filterMap λh=>h.e.key)=(L.map (·.e)).filterMap λe=>e.key:=by rw[FH];rfl
  rw[this,h1]
  exact oH
 ·simp[bB,cx,r.length]
noncomputable def dv (m:MS) (n:Nat) (ts:List T):Option T:=match m.run (cx ts n)with
 | some (.rt t,_)=>some t
 | some (.nx,_)=>some (.im .non)
 | _=>none
theorem xN {H0:Hp}(S:Sim ⟨K,H0,[],[]⟩ H' ρ Z [⟨none,v,⟨.ow,t⟩⟩]):New K H0 H' t v:=by
 obtain⟨L,g,e⟩:=S.sl
 obtain⟨x,L',rfl,ex,_⟩:=aE e
 have rp:=g.rp x ymS
 rw[ex]at rp
 have kd:=g.kd x ymS
 unfold KdOk at kd
 rw[ex]at kd
 have ho:x.e.r.k.isOw=true:=by rw[ex];rfl
 exact⟨λb o h=>g.fr b o h (by simp),x.F,rp,g.ndF ymS ho,λa ha=>⟨kd a ha,g.muF ymS ho a ha⟩⟩
theorem Def.mp {P:Program}{W:World}{mg:Str->Option Value}{base:Heap}{k:Nat}{name:Str}{st:Stmt}{N ps:List Str}(d:Def K mg name st ps)(S:FnScope N ps (ai st)){m:MS}
  (hbody:∀(f:Addr) (cdv:Value) (A:Around) (outer:List Env) (s:Shared) (H:Hp) (E:XK),Room k (A.deeper (envOfC name (ai st) s.heap.objs.size f cdv))->Bq (jM CX0 P W K mg base N name (ai st) f cdv A outer s H E).nox (bj st) m)
  {run:List T->Option T} (hrun:∀ts,run ts=if ts.length=ps.length then dv m N.length ts else none):Has P W K mg base (k+1) name ps (spP K run):=by
 refine d.has S (λvs H Q E h=>?_) (λf cdv A outer s H vs Q E hr h=>?_)
 ·obtain⟨ts,t,r,e,_⟩:=h
  rw[hrun]at e
  split at e
  ·rename_i hl;rw[r.length,hl]
  ·cases e
 ·obtain⟨ts,t,r,e,q⟩:=h
  rw[hrun]at e
  split at e
  ·obtain⟨tS,p1,p2⟩:=hbody f cdv A outer s H E hr
   refine⟨tS,p1,?_⟩
   have S0:=xo (N:=N) r
   unfold dv at e
   split at e
   ·rename_i t0 ρ' e1
    cases e
    exact p2 ⟨K,H,[],[]⟩ H _ _ [] _ _ ρ' rfl (by simp) e1 S0 λv Z' H' S1=>q v H' (xN S1)
   ·rename_i ρ' e1
    cases e
    exact p2 ⟨K,H,[],[]⟩ H _ _ [] _ .nx ρ' rfl (by simp) e1 S0 λZ' H' S1=>q .non H' (xN (S1.imm bF))
   ·cases e
  ·cases e
noncomputable def eM (k:Nat) (ts:List T) (n:Nat):Rho:=(cx ts n).set k (some ⟨.io 0,ts.getD k (.im .non)⟩)
noncomputable def dM (m:MS) (k n:Nat) (ts:List T):Option (T×T):=match m.run (eM k ts n)with
 | some (.rt t,ρ')=>(match ρ'[k]? with
  | some (some ⟨.io 0,s'⟩)=>some (t,s')
  | _=>none)
 | some (.nx,ρ')=>(match ρ'[k]? with
  | some (some ⟨.io 0,s'⟩)=>some (.im .non,s')
  | _=>none)
 | _=>none
theorem mL {G:List Addr}(n m:Nat):∀{ts:List T} {vs:List V} {k:Nat},vs.length=ts.length->(∀(i:Nat) x u,vs[i]?=some x->ts[i]?=some u->∃F,Rp K H u x F/\∀a∈F,a∉G)->∃L:List Hd,L.map (·.e)=ay k (vs.map some++DV n none) ((ts.map λt=>some (roR t))++DV m none)/\L.flatMap Hd.own=[]/\(∀h∈L,Rp K H h.e.r.t h.e.v h.F/\∀a∈h.F,a∉G)/\(∀h∈L,(h.e.r.k=.ow/\h.F=[])∨h.e.r.k=.vw none none)
 | [],[],k,_,_=>⟨[],by simp[gf],rfl,by simp,by simp⟩
 | t::ts,v::vs,k,hl,r=>by
  obtain⟨F,r1,r1'⟩:=r 0 v t rfl rfl
  obtain⟨L,h1,h2,h3,h4⟩:=mL (G:=G) n m (ts:=ts) (vs:=vs) (k:=k+1) (by simpa using hl) (λi x u hx hu=>r (i+1) x u (by simpa using hx) (by simpa using hu))
  have hroR:∃F',Rp K H (roR t).t v F'/\(∀a∈F',a∉G)/\(((roR t).k=.ow/\F'=[])∨(roR t).k=.vw none none):=by
   cases t with
   | im i=>exact⟨[],ga (ba r1).1,by simp,.inl ⟨rfl,rfl⟩⟩
   | _=>exact⟨F,r1,r1',.inr rfl⟩
  obtain⟨F',g1,g1',g2⟩:=hroR
  refine⟨⟨⟨some k,v,roR t⟩,F'⟩::L,by simp[ay,h1],?_,λh hh=>?_,λh hh=>?_⟩
  ·rw[D3,h2,El]
   unfold Hd.own
   rcases g2 with⟨e,rfl⟩|e
   ·simp
   ·rw[show(⟨⟨some k,v,roR t⟩,F'⟩:Hd).e.r.k=(roR t).k from rfl,e];rfl
  ·rcases ycM hh with rfl|hh
   ·exact⟨g1,g1'⟩
   ·exact h3 h hh
  ·rcases ycM hh with rfl|hh
   ·rcases g2 with⟨e,rfl⟩|e
    ·exact .inl ⟨e,rfl⟩
    ·exact .inr e
   ·exact h4 h hh
 | [],_::_,_,h,_=>by cases h
 | _::_,[],_,h,_=>by cases h
theorem xn {ts:List T}{vs:List V}{N:List Str}{k:Nat}{G:List Addr}(hl:vs.length=ts.length)(hw:vs[k]?=some w)(hs:ts[k]?=some s)(rp:Rp K H s w G)(nd:G.Nodup)(mu:∀a∈G,Mu H a)(ro:∀(m:Nat) x u,m≠k->vs[m]?=some x->ts[m]?=some u->∃F,Rp K H u x F/\∀a∈F,a∉G):Sim ⟨K,H,G,[w]⟩ H (eM k ts N.length) (bB N vs) []:=by
 have hkl:k<ts.length:=(DR.mp hs).1
 have hl':(vs.set k .non).length=(ts.set k (.im .non)).length:=by simp[hl]
 obtain⟨L,h1,h2,h3,h4⟩:=mL (K:=K) (H:=H) (G:=G) (N.length-vs.length) (N.length-ts.length) (ts:=ts.set k (.im .non)) (vs:=vs.set k .non) (k:=0) hl' (λm x u hx hu=>by
  by_cases e:m=k
  ·subst e
   simp[hl,hkl]at hx hu
   subst hx hu
   exact⟨[],ga bF,by simp⟩
  ·rw[Ef (Ne.symm e)]at hx hu
   exact ro m x u e hx hu)
 have eZ:(vs.set k .non).map some++DV (N.length-vs.length) none=(bB N vs).set k (some .non):=by
  unfold bB
  rw[GI _ _ (by simp[hl,hkl]),Gv]
 have eρ:((ts.set k (.im .non)).map λt=>some (roR t))++DV (N.length-ts.length) none=(cx ts N.length).set k (some ⟨.ow,.im .non⟩):=by
  unfold cx
  rw[GI _ _ (by simp[hkl]),Gv]
  rfl
 rw[eZ,eρ]at h1
 have hkρ:k<(cx ts N.length).length:=by simp[cx];omega
 have hkZ:k<(bB N vs).length:=by simp[bB,hl];omega
 have p1:=fj (k:=0) (Z:=bB N vs) (ρ:=cx ts N.length) (v:=.non) (r:=⟨.ow,.im .non⟩) hkZ hkρ
 rw[EG,←h1]at p1
 obtain⟨L2,pL,eL⟩:=kr p1 L rfl
 obtain⟨x,L3,rfl,ex,e3⟩:=aE eL
 have inL:∀h∈L3,h∈L:=λh hh=>pL.mem_iff.mpr (ymC _ hh)
 have own3:L3.flatMap Hd.own=[]:=by
  rw[Gn]
  intro h hh
  rw[Gn]at h2
  exact h2 h (inL h hh)
 have own1:((⟨⟨some k,w,⟨.io 0,s⟩⟩,G⟩:Hd)::L3).flatMap Hd.own=G:=by rw[D3,own3,El];rfl
 have ht:ts.getD k (.im .non)=s:=by rw[Eb,hs];rfl
 have eZ2:(bB N vs).set k (some w)=bB N vs:=by
  apply Fn
  intro m
  by_cases hm:m=k
  ·subst hm
   rw[EL hkZ]
   unfold bB
   rw[EF (by simp[hl,hkl]),DZ,hw];rfl
  ·rw[Ef (Ne.symm hm)]
 have p2:=fj (k:=0) (Z:=bB N vs) (ρ:=cx ts N.length) (v:=w) (r:=⟨.io 0,s⟩) hkZ hkρ
 rw[EG,eZ2]at p2
 have gw:GW ⟨K,H,G,[w]⟩ H (⟨⟨some k,w,⟨.io 0,s⟩⟩,G⟩::L3):=by
  refine⟨by rw[own1];exact nd,λa ha=>by rw[own1]at ha;exact⟨mu a ha,.inr ha⟩,λh hh=>?_,λh hh=>?_,?_,λb o e _=>e,λa ha=>let ⟨o,e,_⟩:=mu a ha;⟨o,e⟩⟩
  ·rcases ycM hh with rfl|hh
   ·exact rp
   ·exact(h3 h (inL h hh)).1
  ·rcases ycM hh with rfl|hh
   ·rfl
   ·unfold KdOk
    rcases h4 h (inL h hh)with⟨e,eF⟩|e
    ·rw[e,eF];simp
    ·rw[e,own1];exact(h3 h (inL h hh)).2
  ·have e5:((⟨⟨some k,w,⟨.io 0,s⟩⟩,G⟩:Hd)::L3).filterMap (λh=>h.e.key)=(x::L3).filterMap λh=>h.e.key:=by rw[Ei,Ei,ex]
   rw[e5]
   have e6:((x::L3).filterMap λh=>h.e.key)=((x::L3).map (·.e)).filterMap λe=>e.key:=by rw[FH];rfl
   rw[e6,eL]
   have:=(p1.filterMap (λe:En=>e.key)).nodup_iff.mp (by rw[h1];exact oH)
   exact this
 refine⟨SimL.perm ⟨_,gw,rfl⟩ ?_,λi r' h=>?_,?_,by simp⟩
 ·rw[DS,e3,EK]
  unfold eM
  rw[ht]
  exact p2.symm
 ·unfold eM at h
  rw[ht]at h
  by_cases e:i=k
  ·subst e
   refine⟨w,?_⟩
   unfold bB
   rw[EF (by simp[hl,hkl]),DZ,hw];rfl
  ·rw[Ef (Ne.symm e)]at h
   exact mN hl i r' h
 ·simp[bB,eM,cx,hl]
theorem xM {H0:Hp}{G:List Addr}{w0:V}{k:Nat}{s':T}(S:Sim ⟨K,H0,G,[w0]⟩ H' ρ Z [⟨none,v,⟨.ow,t⟩⟩])(h : ρ[k]?=some (some ⟨.io 0,s'⟩)):∃F G',OffM G H0 H'/\(∀a∈G,∃o,H' a=some o)/\(F++G').Nodup/\(∀a∈F,H0 a=none/\Mu H' a)/\(∀a∈G',(a∈G∨H0 a=none)/\Mu H' a)/\Rp K H' s' w0 G'/\Rp K H' t v F:=by
 obtain⟨w,hw,hm⟩:=S.slot h
 obtain⟨L,g,e⟩:=S.sl
 rw[Ej]at e hm
 obtain⟨x,L',rfl,ex,e2⟩:=aE e
 have hm':(⟨some k,w,⟨.io 0,s'⟩⟩:En)∈L'.map (·.e):=by
  rw[e2]
  rcases ycM hm with z|z
  ·cases z
  ·exact z
 obtain⟨y,hy,ey⟩:=D4.mp hm'
 have rpx:=g.rp x ymS
 rw[ex]at rpx
 have rpy:=g.rp y (ymC _ hy)
 rw[ey]at rpy
 have kx:=g.kd x ymS
 unfold KdOk at kx
 rw[ex]at kx
 have ky:=g.kd y (ymC _ hy)
 unfold KdOk at ky
 rw[ey]at ky
 have ew:w0=w:=by simpa using ky
 subst ew
 have hox:x.e.r.k.isOw=true:=by rw[ex];rfl
 have hoy:y.e.r.k.isOw=true:=by rw[ey];rfl
 refine⟨x.F,y.F,λb o hb n=>g.fr b o hb n,g.iol,?_,λa ha=>⟨kx a ha,g.muF ymS hox a ha⟩,λa ha=>?_,rpy,rpx⟩
 ·have nd:=g.nd
  rw[D3]at nd
  have nx:x.own=x.F:=by unfold Hd.own;rw[if_pos hox]
  rw[nx]at nd
  have nn:=DW.mp nd
  exact DW.mpr ⟨nn.1,g.ndF (ymC _ hy) hoy,λa ha b hb=>nn.2.2 a ha b (EN.mpr ⟨y,hy,gQ hoy hb⟩)⟩
 ·have:=g.ad a (EN.mpr ⟨y,ymC _ hy,gQ hoy ha⟩)
  exact⟨this.2.symm,this.1⟩
theorem Def.mi {P:Program}{W:World}{mg:Str->Option Value}{base:Heap}{k:Nat}{name:Str}{st:Stmt}{N ps:List Str}{j:Nat}(d:Def K mg name st ps)(S:FnScope N ps (ai st)){m:MS}
  (hbody:∀(f:Addr) (cdv:Value) (A:Around) (outer:List Env) (s:Shared) (H:Hp) (E:XK),Room k (A.deeper (envOfC name (ai st) s.heap.objs.size f cdv))->Bq (jM CX0 P W K mg base N name (ai st) f cdv A outer s H E).nox (bj st) m)
  {run:List T->Option (T×T)} (hrun:∀ts,run ts=if ts.length=ps.length then dM m j N.length ts else none):Has P W K mg base (k+1) name ps (spI K j run):=by
 refine d.has S (λvs H Q E h=>?_) (λf cdv A outer s H vs Q E hr h=>?_)
 ·obtain⟨ts,s0,w,G,t,s',hl,_,_,_,_,_,_,e,_⟩:=h
  rw[hrun]at e
  split at e
  ·rename_i h2;rw[hl,h2]
  ·cases e
 ·obtain⟨ts,s0,w,G,t,s',hl,hw,hs,rp,nd,mu,ro,e,q⟩:=h
  rw[hrun]at e
  split at e
  ·obtain⟨tS,p1,p2⟩:=hbody f cdv A outer s H E hr
   refine⟨tS,p1,?_⟩
   have S0:=xn (N:=N) hl hw hs rp nd mu ro
   unfold dM at e
   split at e
   ·rename_i t0 ρ' e1
    split at e
    ·rename_i s1 e2
     cases e
     refine p2 ⟨K,H,G,[w]⟩ H _ _ [] _ _ ρ' rfl (by simp) e1 S0 λv Z' H' S1=>?_
     obtain⟨F,G',a1,a2,a3,a4,a5,a6,a7⟩:=xM S1 e2
     exact q v H' F G' a1 a2 a3 a4 a5 a6 a7
    ·cases e
   ·rename_i ρ' e1
    split at e
    ·rename_i s1 e2
     cases e
     refine p2 ⟨K,H,G,[w]⟩ H _ _ [] _ .nx ρ' rfl (by simp) e1 S0 λZ' H' S1=>?_
     obtain⟨F,G',a1,a2,a3,a4,a5,a6,a7⟩:=xM (S1.imm bF) e2
     exact q .non H' F G' a1 a2 a3 a4 a5 a6 a7
    ·cases e
   ·cases e
  ·cases e
end
structure CK {ι : Type}(C:ι->Cx)(P:Program)(W:World)(K:yF)(mg:Str->Option Value)(base:Heap)(k:Nat):Prop where
 prog:∀i,(C i).prog=P
 w:∀i,(C i).w=W
 kk:∀i,(C i).K=K
 mg:∀i,(C i).mg=mg
 base:∀i,(C i).base=base
 calm:∀i,(C i).calm=true
 room:∀i,Room k (C i).A
variable  {ι : Type}{C:ι->Cx}{P:Program}{W:World}{K:yF}{mg:Str->Option Value}{base:Heap}{k:Nat}
noncomputable abbrev iP (C:ι->Cx) (scope:Scope) (N':List Str):ι×Bk->Cx:=λp=>cxB (C p.1) scope N' p.2
theorem CK.blk (ck:CK C P W K mg base k){scope:Scope}{N':List Str}:CK (iP C scope N') P W K mg base k:=
 ⟨λp=>ck.prog p.1,λp=>ck.w p.1,λp=>ck.kk p.1,λp=>ck.mg p.1,λp=>ck.base p.1,λp=>ck.calm p.1,λp=>ck.room p.1⟩
structure QE (C:ι->Cx)(K:yF)(e:Expr)(m:ME):Prop where
 ex:∃te,(∀i,PE (C i) e te)/\aP K te m
structure QT (C:ι->Cx)(K:yF)(e:Expr)(m:MT):Prop where
 ex:∃te,(∀i,PT (C i) e te)/\ff K te m
structure QW (C:ι->Cx)(K:yF)(e:Expr)(m:MT):Prop where
 ex:∃te,(∀i,PW (C i) e te)/\ff K te m
structure QTs (C:ι->Cx)(K:yF)(e:List Expr)(m:MT):Prop where
 ex:∃te,(∀i,PTs (C i) e te)/\ff K te m
structure QA (C:ι->Cx)(K:yF)(es:List Expr)(m:MA):Prop where
 ex:∃ta,(∀i,PA (C i) es ta)/\aW es=true/\fe K ta m
structure QS (C:ι->Cx)(K:yF)(st:Stmt)(m:MS):Prop where
 ex:∃ts,(∀i,PS (C i) st ts)/\dH K ts m
structure QSs (C:ι->Cx)(K:yF)(st:List Stmt)(m:MS):Prop where
 ex:∃ts,(∀i,PSs (C i) st ts)/\dH K ts m
structure QG (C:ι->Cx)(K:yF)(fr:Option (List (Option Nat)))(e:Expr)(m:MG):Prop where
 ex:∃g,(∀i,PG (C i) e g)/\g9 K g m/\∀f,fr=some f->dg f g
structure QGs (C:ι->Cx)(K:yF)(fr:Option (List (Option Nat)))(n:Nat)(es:List Expr)(m:MGs):Prop where
 ex:∃g,(∀i,PGs (C i) es g)/\lK K g m/\(∀f,fr=some f->iZ f g)/\(∀rs ρ ρ',m.run rs ρ=some ρ'->rs.length=n)
structure QI (C:ι->Cx)(K:yF)(tg e:Expr)(m:MI):Prop where
 ex:∃wi,(∀i,PI (C i) tg e wi)/\i3 K wi m
structure QO (C:ι->Cx)(K:yF)(e:Option Expr)(m:MO):Prop where
 ex:∃t,(∀i,PO (C i) e t)/\rh K t m
section
variable  {a b c e o:Expr}{es:List Expr}{ma mb mc m:ME}{ms:MA}{pos:Pos}{mt mt':MT}
theorem Cl {i:Int}{j:Nat}:QE C K (.Constant (.int i) j pos) (mC (.int i)):=⟨_,λ_=>sM,tZ rfl⟩
theorem DB {x:Bool}{j:Nat}:QE C K (.Constant (.bool x) j pos) (mC (.bl x)):=⟨_,λ_=>B7,tZ rfl⟩
theorem Cv {x:Str}{j:Nat}:QE C K (.Constant (.str x) j pos) (mC (.str x)):=⟨_,λ_=>zN,tZ rfl⟩
theorem Cz (n:Nat){x:Str}(hN:∀i,(C i).N[n]?=some x:=by intro _;rfl)(hv:∀i,Vis (C i).env.scope x:=by first|exact λ_=>Or.inl rfl|exact λ_=>Or.inr (Or.inl rfl)|exact λ_=>Or.inr (Or.inr rfl))(hd:(x==("__debug__" : Str))=false:=by decide)(hcd:(x==("__classdict__" : Str))=false:=by decide):QE C K (.Name x pos) (ah n):=⟨_,λi=>sO (hN i) (hv i) hd hcd,xf⟩
theorem Af:QA C K [] mNil:=⟨_,λ_=>sG,rfl,wW⟩
theorem wB (h1:QE C K e m)(h2:QA C K es ms)(hs:bO e=false:=by rfl):QA C K (e::es) (aa m ms):=by
 obtain⟨te,a,b⟩:=h1
 obtain⟨ta,c,n,d⟩:=h2
 exact⟨_,λi=>gT (a i) (c i) hs,by rw[aW,hs,n];rfl,ua b d⟩
theorem qz {op:Operator}{red:yF->R2}{f:T->T->Option T}(ck:CK C P W K mg base k)(ho:∀X:Cx,OpR X (binaryOp op) (red X.K))(hp:cM K (red K) f)(ha:QE C K a ma)(hb:QE C K b mb):QE C K (.BinOp a op b pos) (mOp f ma mb):=by
 obtain⟨ta,p,r⟩:=ha
 obtain⟨tb,p',r'⟩:=hb
 exact⟨_,λi=>Cb (r:=red K) (by have:=ho (C i);rw[ck.kk i]at this;exact this) (p i) (p' i),jB hp r r'⟩
theorem Ce (ck:CK C P W K mg base k)(ha:QE C K a ma)(hb:QE C K b mb):QE C K (.BinOp a .Add b pos) (mOp bd ma mb):=qz ck (red:=tO) (λ_=>vN) sS ha hb
theorem Cw (ck:CK C P W K mg base k)(ha:QE C K a ma)(hb:QE C K b mb):QE C K (.BinOp a .Sub b pos) (mOp bJ ma mb):=qz ck (red:=λ_=>rI0 λi j=>.int (i-j)) (λ_=>zq) tu ha hb
theorem Cp (ck:CK C P W K mg base k)(ha:QE C K a ma)(hb:QE C K b mb):QE C K (.BinOp a .Mult b pos) (mOp cX ma mb):=qz ck (red:=tU) (λ_=>vP) tj ha hb
theorem z8 (ck:CK C P W K mg base k)(ha:QE C K a ma)(hb:QE C K b mb):QE C K (.BinOp a .FloorDiv b pos) (mOp gF ma mb):=qz ck (red:=λ_=>rI mX λi j=>.int (i / j)) (λ_=>qb) qq ha hb
theorem Co (ck:CK C P W K mg base k)(ha:QE C K a ma)(hb:QE C K b mb):QE C K (.BinOp a .Mod b pos) (mOp fq ma mb):=qz ck (red:=λ_=>rI (λ_ j=>0<j) λi j=>.int (i % j)) (λ_=>zj) tf ha hb
theorem Ct (ck:CK C P W K mg base k)(ha:QE C K a ma)(hb:QE C K b mb):QE C K (.BinOp a .Pow b pos) (mOp qj ma mb):=qz ck (red:=λ_=>rI yv λi j=>.int (i^j.toNat)) (λ_=>zp) tq ha hb
theorem Cr (ha:QE C K a ma):QE C K (.UnaryOp .Not a pos) (kh ma):=by
 obtain⟨ta,p,r⟩:=ha
 exact⟨_,λi=>zL (p i),uj r⟩
def f8 (op:CmpOp)(f:T->T->Option T):Prop:=∃red:yF->R2,(∀X:Cx,X.A.units+64<cLine->OpR X (compareOp op) (red X.K))/\∀K,cM K (red K) f
theorem Dq:f8 .Lt (ge λi j=>decide (i<j)):=⟨λ_=>_,λ_ _=>BQ,λ_=>ju⟩
theorem Do:f8 .Gt (ge λi j=>decide (j<i)):=⟨λ_=>_,λ_ _=>BP,λ_=>ju⟩
theorem Dn:f8 .GtE (ge λi j=>decide (j<=i)):=⟨λ_=>_,λ_ _=>BO,λ_=>ju⟩
theorem Dm:f8 .Eq eqT:=⟨Av,λ_ hu=>zg hu,λ_=>wn⟩
theorem Dr:f8 .NotEq neT:=⟨Ay,λ_ hu=>zn hu,λ_=>wp⟩
theorem Dp:f8 .In inT:=⟨Aw,λ_ hu=>zi hu,λ_=>wo⟩
theorem Bv:f8 .NotIn nD:=⟨lr,λ_ hu=>qd hu,λ_=>tm⟩
theorem Ch {op:CmpOp}{f:T->T->Option T}(ck:CK C P W K mg base k)(hc:f8 op f)(ha:QE C K a ma)(hb:QE C K b mb)(hm:behindInMarks op b=false):QE C K (.Compare a [op] [b] pos) (mOp f ma mb):=by
 obtain⟨red,ho,hp⟩:=hc
 obtain⟨ta,p,r⟩:=ha
 obtain⟨tb,p',r'⟩:=hb
 exact⟨_,λi=>vX (r:=red K) (by have:=ho (C i) (ck.room i).units;rw[ck.kk i]at this;exact this) (p i) (p' i) hm,jB (hp K) r r'⟩
theorem Aq {op:CmpOp}{f:T->T->Option T}(ck:CK C P W K mg base k)(hc:f8 op f)(ha:QE C K a ma)(hb:QE C K b mb)(hm:behindInMarks op b=false):QT C K (.Compare a [op] [b] pos) (aY (mOp f ma mb)):=by
 obtain⟨red,ho,hp⟩:=hc
 obtain⟨ta,p,r⟩:=ha
 obtain⟨tb,p',r'⟩:=hb
 exact⟨_,λi=>wu (r:=red K) (by have:=ho (C i) (ck.room i).units;rw[ck.kk i]at this;exact this) (p i) (p' i) hm,mK (jB (hp K) r r')⟩
theorem At (ha:QE C K e m)(he:∀i whole,isTrue e (C i).env whole=(do let v ←whole;standAt e.pos;holding [v] (truthy v)):=by intro _ _;rfl):QT C K e (aY m):=by
 obtain⟨ta,p,r⟩:=ha
 exact⟨_,λi=>z0 (p i) (he i),AJ r⟩
theorem As (ck:CK C P W K mg base k)(ha:QE C K e m)(he:∀i whole,isTrue e (C i).env whole=(do let v ←whole;standAt e.pos;holding [v] (truthy v)):=by intro _ _;rfl):QT C K e (p7 m):=by
 obtain⟨ta,p,r⟩:=ha
 exact⟨_,λi=>DL (ck.kk i) (p i) (he i),xc r⟩
theorem Ar (ha:QT C K a mt):QT C K (.UnaryOp .Not a pos) (pZ mt):=by
 obtain⟨ta,p,r⟩:=ha
 exact⟨_,λi=>zZ (p i),wX r⟩
theorem wL (ha:QT C K a mt):QW C K (.BoolOp .And [a] pos) mt:=by
 obtain⟨ta,p,r⟩:=ha
 exact⟨_,λi=>wz (p i),r⟩
theorem Au {rest:List Expr}(ha:QT C K a mt)(hb:QW C K (.BoolOp .And (b::rest) pos) mt'):QW C K (.BoolOp .And (a::b::rest) pos) (l7 mt mt'):=by
 obtain⟨ta,p,r⟩:=ha
 obtain⟨tb,p',r'⟩:=hb
 exact⟨_,λi=>z7 (p i) (p' i),wQ r r'⟩
theorem QW.t (h:QW C K e mt):QT C K e mt:=by
 obtain⟨ta,p,r⟩:=h
 exact⟨_,λi=>(p i).pt,r⟩
theorem Cs {op:BoolOp}(h:QE C K a m):QE C K (.BoolOp op [a] pos) m:=by
 obtain⟨ta,p,r⟩:=h
 exact⟨_,λi=>zM (p i),r⟩
theorem Cf {rest:List Expr}(ha:QE C K a ma)(hb:QE C K (.BoolOp .And (b::rest) pos) mb):QE C K (.BoolOp .And (a::b::rest) pos) (iJ ma mb):=by
 obtain⟨ta,p,r⟩:=ha
 obtain⟨tb,p',r'⟩:=hb
 exact⟨_,λi=>zI (p i) (p' i),t3 r r'⟩
theorem Cn (mv:List Nat)(h:QA C K es ms):QE C K (.List es pos) (aR mv ms):=by
 obtain⟨ta,p,_,r⟩:=h
 exact⟨_,λi=>zK (p i),ug r⟩
theorem Cy (mv:List Nat){x1:Nat}(h:QA C K es ms):QE C K (.Tuple es x1 pos) (av mv ms):=by
 obtain⟨ta,p,_,r⟩:=h
 exact⟨_,λi=>zO (p i),uo r⟩
theorem DE (ck:CK C P W K mg base k)(ha:QE C K a ma)(hb:QE C K b mb)(hs:oj b:=by exact λ_ _=>rfl):QE C K (.Subscript a b pos) (mIx ma mb):=by
 obtain⟨ta,p,r⟩:=ha
 obtain⟨tb,p',r'⟩:=hb
 exact⟨_,λi=>Ca (Dy (ck.kk i)) (p i) (p' i) hs,AH r r'⟩
theorem wE:QO C K none mNoPart:=⟨_,λ_=>wj,nM⟩
theorem wF (h:QE C K e m):QO C K (some e) (dl m):=by
 obtain⟨ta,p,r⟩:=h
 exact⟨_,λi=>lm (p i),uk r⟩
theorem DF {lo hi:Option Expr}{ml mh:MO}{p2:Pos}(ck:CK C P W K mg base k)(ha:QE C K a ma)(hl:QO C K lo ml)(hh:QO C K hi mh):QE C K (.Subscript a (.Slice lo hi none p2) pos) (mSl ma ml mh):=by
 obtain⟨ta,p,r⟩:=ha
 obtain⟨tl,p',r'⟩:=hl
 obtain⟨th,p'',r''⟩:=hh
 exact⟨_,λi=>sN (r:=rSl K) (by have:=DK (X:=C i);rw[ck.kk i]at this;exact this) (p i) (p' i) (p'' i),AI r r' r''⟩
theorem Cu {j:Nat}{p1 p2 p3:Pos}(ck:CK C P W K mg base k)(ha:QE C K a ma):QE C K (.Subscript a (.Slice none none (some (.UnaryOp .USub (.Constant (.int 1) j p1) p2)) p3) pos) (mUn uq ma):=by
 obtain⟨ta,p,r⟩:=ha
 exact⟨_,λi=>DH (ck.kk i) (p i),w8 r⟩
theorem Ck {x:Str}{p:Pos}{j:Nat}{ps:List Str}{run:List T->Option T}(ck:CK C P W K mg base k)(h:Has P W K mg base j x ps (spP K run))(ha:QA C K (e::es) ms)(hj:j<=k:=by first|decide|omega)(hg:∀i,Gl (C i) x:=by intro _;rfl)(hdb:(x==("__debug__" : Str))=false:=by decide):QE C K (.Call (.Name x p) (e::es) [] pos) (mB run ms):=by
 obtain⟨ta,q,n,r⟩:=ha
 refine⟨_,λi=>sK (by rw[ck.prog i,ck.w i,ck.kk i,ck.mg i,ck.base i];exact h) ((ck.room i).mono hj) (hg i) (q i) n hdb,qD r⟩
theorem Cj (l:Nat){x:Str}{p:Pos}{j n0:Nat}{ps:List Str}{run:List T->Option (T×T)}(ck:CK C P W K mg base k)(h:Has P W K mg base j x ps (spI K n0 run))(ha:QA C K (e::es) ms)(hj:j<=k:=by first|decide|omega)(hg:∀i,Gl (C i) x:=by intro _;rfl)(hdb:(x==("__debug__" : Str))=false:=by decide):QE C K (.Call (.Name x p) (e::es) [] pos) (ak n0 l run ms):=by
 obtain⟨ta,q,n,r⟩:=ha
 refine⟨_,λi=>sK (by rw[ck.prog i,ck.w i,ck.kk i,ck.mg i,ck.base i];exact h) ((ck.room i).mono hj) (hg i) (q i) n hdb,qC r⟩
def lJ (x:Str)(f:List T->Option T):Prop:=∃(id:String) (red:yF->List V->Hp->VK->Prop),bootBuiltins x=some (.builtin id)/\(∀X:Cx,X.calm=true->CallR X (.builtin id) (red X.K))/\∀K,dR K (red K) f
def pz (x:Str)(f:List T->Option T):Prop:=∃(id:String) (red:yF->List V->Hp->VK->Prop),bootBuiltins x=some (.type id)/\(∀X:Cx,X.calm=true->CallR X (.type id) (red X.K))/\∀K,dR K (red K) f
theorem Cg {x:Str}{p:Pos}{f:List T->Option T}(ck:CK C P W K mg base k)(hb:lJ x f)(hm:mg x=none)(ha:QA C K (e::es) ms)(hg:∀i,Gl (C i) x:=by intro _;rfl)(hx:x≠("__name__" : Str):=by decide)(hdb:(x==("__debug__" : Str))=false:=by decide):QE C K (.Call (.Name x p) (e::es) [] pos) (mB f ms):=by
 obtain⟨id,red,b1,b2,b3⟩:=hb
 obtain⟨ta,q,n,r⟩:=ha
 exact⟨_,λi=>il (r:=red K) (by have:=b2 (C i) (ck.calm i);rw[ck.kk i]at this;exact this) (hg i) (by rw[ck.mg i];exact hm) b1 (q i) n hx hdb,o4 (b3 K) r⟩
theorem DG {x:Str}{p:Pos}{f:List T->Option T}(ck:CK C P W K mg base k)(hb:pz x f)(hm:mg x=none)(ha:QA C K (e::es) ms)(hg:∀i,Gl (C i) x:=by intro _;rfl)(hx:x≠("__name__" : Str):=by decide)(hdb:(x==("__debug__" : Str))=false:=by decide):QE C K (.Call (.Name x p) (e::es) [] pos) (mB f ms):=by
 obtain⟨id,red,b1,b2,b3⟩:=hb
 obtain⟨ta,q,n,r⟩:=ha
 exact⟨_,λi=>nI (r:=red K) (by have:=b2 (C i) (ck.calm i);rw[ck.kk i]at this;exact this) (hg i) (by rw[ck.mg i];exact hm) b1 (q i) n hx hdb,o4 (b3 K) r⟩
theorem b_len:lJ "len" cC:=⟨_,tR,PySem.boot_len,λ_ _=>pB,λ_=>sW⟩
theorem b_min:lJ "min" nA:=⟨_,λ_=>_,Hz,λ_ h=>pD h,λ_=>sZ⟩
theorem b_max:lJ "max" l8:=⟨_,λ_=>_,HA,λ_ h=>pC h,λ_=>sY⟩
theorem b_int:pz "int" pQ:=⟨_,λ_=>_,GE,λ_ _=>pA,λ_=>sU⟩
theorem b_tuple:pz "tuple" g8:=⟨_,tV,Hn,λ_ _=>jL,λ_=>tz⟩
theorem b_list:pz "list" r8:=⟨_,tT,Gw,λ_ _=>kS,λ_=>sX⟩
def re (T0:String)(name:Str)(f:T->List T->Option T):Prop:=∃(id:String) (red:yF->V->List V->Hp->VK->Prop),PlainAttrs T0/\Slot T0 name id/\typeOf (.builtin id)=pure (.type "method_descriptor")/\(∀X:Cx,MtR X id (red X.K))/\(∀K,rf K T0 (red K) f)/\∀K (H:Hp) (x:V) (tx:T) ts t,Rpx K H tx x->f tx ts=some t->tyV K T0 x H
def jT (T0:String)(name:Str)(f:T->List T->Option (T×I)):Prop:=∃(id:String) (red:yF->V->List V->Hp->VK->Prop),PlainAttrs T0/\Slot T0 name id/\typeOf (.builtin id)=pure (.type "method_descriptor")/\(∀X:Cx,MtR X id (red X.K))/\(∀K,dy K (red K) f)/\∀K (H:Hp) (x:V) (tx:T) ts r,Rpx K H tx x->f tx ts=some r->tyV K T0 x H
theorem Ab {T0:String}{name:Str}{f:T->List T->Option T}{apos:Pos}{mo:ME}(ck:CK C P W K mg base k)(hm:re T0 name f)(ho:QE C K o mo)(ha:QA C K (e::es) ms)(hlen:decide ((e::es).length<30)=true:=by rfl)
  (hbase:∀i,attributeBase o name (C i).env (eval o (C i).env)=eval o (C i).env:=by intro _;rfl) (hline:(apos.endLine==pos.line)=true:=by rfl):QE C K (.Call (.Attribute o name apos) (e::es) [] pos) (mM f mo ms):=by
 obtain⟨id,red,h1,h2,h3,h4,h5,h6⟩:=hm
 obtain⟨to,q,r⟩:=ho
 obtain⟨ta,q',n,r'⟩:=ha
 exact⟨_,λi=>Bu (r:=red K) (ck.kk i) h1 h2 h3 (by have:=h4 (C i);rw[ck.kk i]at this;exact this) (q i) (q' i) n hlen (hbase i) hline,CQ (h5 K) (h6 K) r r'⟩
theorem Cq (l:Nat)(mv:List Nat){T0:String}{name:Str}{f:T->List T->Option (T×I)}{apos:Pos}{mo:ME}(ck:CK C P W K mg base k)(hm:jT T0 name f)(ho:QE C K o mo)(ha:QA C K (e::es) ms)(hlen:decide ((e::es).length<30)=true:=by rfl)
  (hbase:∀i,attributeBase o name (C i).env (eval o (C i).env)=eval o (C i).env:=by intro _;rfl) (hline:(apos.endLine==pos.line)=true:=by rfl):QE C K (.Call (.Attribute o name apos) (e::es) [] pos) (cH l mv f mo ms):=by
 obtain⟨id,red,h1,h2,h3,h4,h5,h6⟩:=hm
 obtain⟨to,q,r⟩:=ho
 obtain⟨ta,q',n,r'⟩:=ha
 exact⟨_,λi=>Bu (r:=red K) (ck.kk i) h1 h2 h3 (by have:=h4 (C i);rw[ck.kk i]at this;exact this) (q i) (q' i) n hlen (hbase i) hline,wV (h5 K) (h6 K) r r'⟩
theorem Ad (l:Nat){T0:String}{name:Str}{f:T->List T->Option (T×I)}{apos:Pos}{mo:ME}(ck:CK C P W K mg base k)(hm:jT T0 name f)(ho:QE C K o mo)
  (hbase:∀i,attributeBase o name (C i).env (eval o (C i).env)=eval o (C i).env:=by intro _;rfl) (hline:(apos.endLine==pos.line)=true:=by rfl):QE C K (.Call (.Attribute o name apos) [] [] pos) (kf l f mo):=by
 obtain⟨id,red,h1,h2,h3,h4,h5,h6⟩:=hm
 obtain⟨to,q,r⟩:=ho
 exact⟨_,λi=>Dl (r:=red K) (ck.kk i) h1 h2 h3 (by have:=h4 (C i);rw[ck.kk i]at this;exact this) (q i) (hbase i) hline,uh (h5 K) (h6 K) r⟩
theorem y8:re "str" "join" jf:=⟨_,x9,PySem.F.plainAttrs_str,PySem.F.slot_str_join,PySem.F.type_str_join,λ_=>vI,λ_=>qr,λK H x tx ts t r e=>by
 unfold jf at e
 split at e
 ·rw[cJ r];rfl
 ·cases e⟩
theorem sd:jT "list" "append" apT:=⟨_,λ_=>ln,PySem.F.plainAttrs_list,PySem.F.slot_list_append,PySem.F.type_list_append,λ_=>p8,λ_=>mw,λK=>qT⟩
theorem se:jT "list" "extend" kZ:=⟨_,tQ,PySem.F.plainAttrs_list,PySem.F.slot_list_extend,PySem.F.type_list_extend,λ_=>vH,λ_=>my,λK=>qU⟩
theorem BL:jT "list" "pop" mr:=⟨_,λ_=>Az,PySem.F.plainAttrs_list,PySem.F.slot_list_pop,PySem.F.type_list_pop,λ_=>y9,λ_=>tp,λK=>AZ⟩
theorem sf:jT "list" "insert" lc:=⟨_,λ_=>lq,PySem.F.plainAttrs_list,PySem.F.slot_list_insert,PySem.F.type_list_insert,λ_=>p9,λ_=>mz,λK=>qV⟩
end
variable  {ι : Type}{C:ι->Cx}{P:Program}{W:World}{K:yF}{mg:Str->Option Value}{base:Heap}{k:Nat}
section
variable  {a b c e o tg iter:Expr}{es:List Expr}{ma mb mc m mo mi:ME}{ms:MA}{pos:Pos}{mt mt':MT}{s1 s2:MS}{g g':MG}{gs:MGs}{it it2:MI}{fr:Option (List (Option Nat))}
theorem wD (n:Nat){x:Str}(hN:∀i,(C i).N.Nodup)(hi:∀i,(C i).N[n]?=some x:=by intro _;rfl)(hx:∀i,Loc (C i).env.scope x:=by first|exact λ_=>Or.inl rfl|exact λ_=>Or.inr rfl)(hf:∀i,(C i).fn x=true∨(C i).env.scope.names.lookup x=some .local:=by first|exact λ_=>.inl rfl|exact λ_=>.inr rfl)
  (hfr:∀f,fr=some f->f[n]?=some none:=by first|(intro f h;cases h;done)|(intro f h;cases h;rfl)):QG C K fr (.Name x pos) (ag n):=
 ⟨_,λi=>wc (hN i) (hi i) (hx i) (hf i),jA,λf hf'=>vo (hfr f hf')⟩
theorem oZ:QGs C K fr 0 [] mGNil:=by with_unfolding_all exact⟨_,λ_=>wd,ue,λ_ _=>yN,λrs ρ ρ' h=>by cases rs<;>first|rfl|cases h⟩
theorem fw {n:Nat}(h1:QG C K fr e g)(h2:QGs C K fr n es gs)(hs:∀i,(assignEach (e::es) (C i).env).map (·.2)=assign e (C i).env::(assignEach es (C i).env).map (·.2):=by intro _;rfl):QGs C K fr (n+1) (e::es) (aI g gs):=by with_unfolding_all
 obtain⟨g1,p1,r1,k1⟩:=h1
 obtain⟨g2,p2,r2,k2,l2⟩:=h2
 refine⟨_,λi=>sR (p1 i) (p2 i) (hs i),qG r1 r2,λf hf=>vn (k1 f hf) (k2 f hf),λrs ρ ρ' h=>?_⟩
 cases rs with
 | nil=>cases h
 | cons r rs=>
  simp only[aI]at h
  split at h
  ·split at h
   ·rw[D5,l2 _ _ _ h]
   ·cases h
  ·cases h
theorem tM {n k0:Nat}(ck:CK C P W K mg base k)(h:QGs C K fr n es gs)(hn:∀i,(assignEach es (C i).env).length=n:=by intro _;rfl)(hst:∀i,(assignEach es (C i).env).findIdx? (·.1)=none:=by intro _;rfl):QG C K fr (.Tuple es k0 pos) (cD gs):=by
 obtain⟨g,p,r,kk,l⟩:=h
 exact⟨_,λi=>tgK (ck.kk i) (ck.calm i) (p i) (hn i) (hst i),uf r l,λf hf=>yO (kk f hf)⟩
theorem Ag (j:Nat)(ho:QE C K o mo)(hi:QE C K e mi)
  (ha:∀i v,assign (.Subscript o e pos) (C i).env v=(do
   let ov ←holding [v] (eval o (C i).env)
   let iv ←holding [v,ov] (eval e (C i).env)
   standAt pos
   holding [v,ov,iv] (setItem ov iv v)
   release [v,ov,iv] []):=by intro _ _;rfl):QG C K none (.Subscript o e pos) (nu j mo mi):=by
 obtain⟨to,p,r⟩:=ho
 obtain⟨ti,p',r'⟩:=hi
 exact⟨_,λi=>sP (p i) (p' i) uy (ha i),xb r r',λf h=>by cases h⟩
theorem Al:QSs C K [] mNext:=⟨_,λ_=>wr,ui⟩
theorem Am {st:Stmt}(h1:QS C K st s1):QSs C K [st] s1:=by
 obtain⟨t,p,r⟩:=h1
 exact⟨_,λi=>wt (p i),r⟩
theorem wG {st:Stmt}{rest:List Stmt}(h1:QS C K st s1)(h2:QSs C K rest s2):QSs C K (st::rest) (aq s1 s2):=by
 obtain⟨t,p,r⟩:=h1
 obtain⟨u,p',r'⟩:=h2
 exact⟨_,λi=>tG (p i) (p' i),xa r r'⟩
theorem CA {b1 b2:List Stmt}(hc:QT C K c mt)(h1:QSs C K b1 s1)(h2:QSs C K b2 s2):QS C K (.If c b1 b2 pos) (mIf mt s1 s2):=by
 obtain⟨tc,p0,r0⟩:=hc
 obtain⟨t,p,r⟩:=h1
 obtain⟨u,p',r'⟩:=h2
 exact⟨_,λi=>Cd (p0 i) (p i) (p' i),wT r0 r r'⟩
theorem Ao (h:QE C K e m):QS C K (.Return (some e) pos) (bf m):=by
 obtain⟨t,p,r⟩:=h
 exact⟨_,λi=>zX (p i),wZ r⟩
theorem wH (h:QE C K e m)(hs:∀i,swapsWith e none pos.line (C i).env=pure false:=by intro _;rfl):QS C K (.Expr e pos) (bp m):=by
 obtain⟨t,p,r⟩:=h
 exact⟨_,λi=>wq (p i) (hs i),ub r⟩
theorem Aj (h:QE C K e m)(hg:QG C K none tg g)(hs:∀i,swapsWithSole [tg] e pos.line (C i).env=pure false:=by intro _;rfl)(hw:∀i,swappedStores [tg] e (C i).env=pure none:=by intro _;rfl)
  (h1:∀i,(assignEach [tg] (C i).env).map (·.2)=[assign tg (C i).env]:=by intro _;rfl):QS C K (.Assign [tg] e pos) (aD m g):=by
 obtain⟨t,p,r⟩:=h
 obtain⟨u,p',r',_⟩:=hg
 exact⟨_,λi=>zU (p i) (p' i) (hs i) (hw i) (h1 i),lw r r'⟩
theorem Ap (n:Nat){x:Str}{pos':Pos}(hN:∀i,(C i).N.Nodup)(he:QE C K e m)(hi:∀i,(C i).N[n]?=some x:=by intro _;rfl)(hx:∀i,Loc (C i).env.scope x:=by first|exact λ_=>Or.inl rfl|exact λ_=>Or.inr rfl)(hs:∀i,swapsWith e (some (.Name x pos')) pos.line (C i).env=pure false:=by intro _;rfl)(hf:∀i,(C i).fn x=true∨(C i).env.scope.names.lookup x=some .local:=by first|exact λ_=>.inl rfl|exact λ_=>.inr rfl) :
  QS C K (.Assign [.Name x pos'] e pos) (aD m (ag n)):=by
 obtain⟨t,p,r⟩:=he
 exact⟨_,λi=>zY (hN i) (hi i) (hx i) (p i) (hs i) (hf i),lw r jA⟩
noncomputable def vE (i j:Nat) (a:MA):MS:=⟨λρ=>match a.run ρ with
 | some ([r1,r2],ρ1)=>if(fu ρ1 i&&aC [i] r1&&aC [i] r2&&fu ρ1 j&&aC [j] r2)=true then some (.nx,(ao [j] ((ao [i] ρ1).set i (some r1))).set j (some r2))else none
 | _=>none,a.mu++[i,j]⟩
theorem qa {ρ:Rho}{i j:Nat}{r:R}(h:fu ρ j=true)(hr:∀n,r.k ≠ .io n):fu ((ao [i] ρ).set i (some r)) j=true:=by
 unfold fu at h⊢
 by_cases e:j=i
 ·subst e
  have hl:j < ρ.length:=by
   cases q : ρ[j]? with
   | none=>rw[q]at h;cases h
   | some o=>exact(DR.mp q).1
  rw[EL (by rw[aF];exact hl)]
  obtain⟨k,t⟩:=r
  cases k with
  | io n=>exact absurd rfl (hr n)
  | _=>rfl
 ·rw[Ef (Ne.symm e)]
  unfold ao
  rw[DZ]
  cases q : ρ[j]? with
  | none=>rw[q]at h;cases h
  | some o=>
   rw[q]at h
   cases o with
   | none=>rfl
   | some x=>
    show(match some (bT [i] (some x))with|some (some ⟨.io _,_⟩)=>false|some _=>true|none=>false)=true
    cases hk:bT [i] (some x)with
    | none=>rfl
    | some y=>
     obtain⟨e1,_⟩:=killO_iff.mp hk
     cases e1
     exact h
noncomputable def jp (r:R):Bool:=match r.k with
 | .io _=>false
 | _=>true
theorem wY {i j:Nat}{ta:TA}{a:MA}(ha:fe K ta a)(hio:∀ρ rs ρ',a.run ρ=some (rs,ρ')->True):dH K (C2 i j ta) (vE i j ⟨λρ=>match a.run ρ with
  | some (rs,ρ1)=>if rs.all jp=true then some (rs,ρ1)else none
  | none=>none,a.mu⟩):=by
 intro Γ H ρ Z E D f ρ' hK hE hr S q
 simp only[vE]at hr q
 split at hr
 ·rename_i r1 r2 ρ1 e1
  split at e1
  ·rename_i rs ρ2 e2
   split at e1
   ·rename_i hall
    cases e1
    split at hr
    ·rename_i hb
     cases hr
     simp only[DU]at hb
     obtain⟨⟨⟨⟨b1,b2⟩,b3⟩,b4⟩,b5⟩:=hb
     refine ha Γ H ρ Z E _ _ _ hK e2 S λvs H1 hl S1=>?_
     obtain⟨v,w,rfl⟩:∃v w,vs=[v,w]:=by
      cases vs with
      | nil=>cases hl
      | cons v r=>cases r with
       | nil=>cases hl
       | cons w r=>cases r with
        | nil=>exact⟨v,w,rfl⟩
        | cons _ _=>cases hl
     have S1:Sim Γ H1 ρ1 Z (⟨none,v,r1⟩::⟨none,w,r2⟩::ae a.mu E):=S1
     refine⟨v,w,rfl,q _ H1 ?_⟩
     have S2:=S1.put b1 (gc b2)
     rw[ar (bv b3)]at S2
     have hr1:∀n,r1.k ≠ .io n:=λn z=>by
      have:=EH.mp hall r1 ymS
      unfold jp at this
      rw[z]at this
      cases this
     have S3:=S2.put (qa b4 hr1) (gc b5)
     rw[af,af]at S3
     have:a.mu++([i]++[j])=a.mu++[i,j]:=rfl
     rw[←Ea]at this
     exact S3
    ·cases hr
   ·cases e1
  ·cases e1
 ·cases hr
@[irreducible] noncomputable def kj (i j:Nat)(a:MA):MS:=vE i j ⟨λρ=>match a.run ρ with
  | some (rs,ρ1)=>if rs.all jp=true then some (rs,ρ1)else none
  | none=>none,a.mu⟩
theorem An (i j:Nat){x y:Str}{px py pt:Pos}{kt k2 pt2}(ck:CK C P W K mg base k)(hN:∀i,(C i).N.Nodup)(ha:QA C K [a,b] ms)(hi:∀n,(C n).N[i]?=some x:=by intro _;rfl)(hj:∀n,(C n).N[j]?=some y:=by intro _;rfl)(hij:i≠j:=by decide)
  (hx:∀n,(C n).env.scope.names.lookup x=some .local:=by intro _;rfl) (hy:∀n,(C n).env.scope.names.lookup y=some .local:=by intro _;rfl)
  (hw:∀n,swappedStores [.Tuple [.Name x px,.Name y py] kt pt] (.Tuple [a,b] k2 pt2) (C n).env=pure (some [x,y]):=by intro _;rfl)
  (hs:∀n,swapsWithSole [.Tuple [.Name x px,.Name y py] kt pt] (.Tuple [a,b] k2 pt2) pos.line (C n).env=pure false:=by intro _;rfl) :
  QS C K (.Assign [.Tuple [.Name x px,.Name y py] kt pt] (.Tuple [a,b] k2 pt2) pos) (kj i j ms):=by with_unfolding_all
 obtain⟨ta,p,_,r⟩:=ha
 exact⟨_,λn=>zW (ck.calm n) (hN n) (hi n) (hj n) hij (hx n) (hy n) (p n) (hw n) (hs n),wY r (λ_ _ _ _=>trivial)⟩
theorem tN {body:List Stmt}(hp:∀i,PassesOwn (model (C i).prog (C i).w) (C i).A (C i).env (C i).xe)(hc:QT C K c mt)(hb:QSs C K body s1):QS C K (.While c body [] pos) (eJ mt s1):=by
 obtain⟨tc,p,r⟩:=hc
 obtain⟨tb,p',r'⟩:=hb
 exact⟨_,λi=>tF (hp i) (p i) (p' i),qJ r r'⟩
theorem Ak {body:List Stmt}(ck:CK C P W K mg base k)(hp:∀i,PassesOwn (model (C i).prog (C i).w) (C i).A (C i).env (C i).xe)(hi:QI C K tg iter it)(hg:QG C K none tg g)(hb:QSs C K body s1)(hs:∀i x,foldedSetIterable iter (C i).env x=pure x:=by intro _ _;rfl):QS C K (.For tg iter body [] pos) (bS it g s1):=by
 obtain⟨wi,p,r⟩:=hi
 obtain⟨tg',p1,r1,_⟩:=hg
 obtain⟨tb,p',r'⟩:=hb
 exact⟨_,λi=>zV (hp i) (ck.calm i) (p i) (p1 i) (p' i) (hs i),wS r r1 r'⟩
theorem qA {p:Pos}(ck:CK C P W K mg base k)(T:Bi mg)(ha:QA C K [a] ms)(hg:∀i,Gl (C i) "range" :=by intro _;rfl)(hs:bO a=false:=by rfl):QI C K tg (.Call (.Name "range" p) [a] [] pos) (aU ms):=by
 obtain⟨ta,q,_,r⟩:=ha
 exact⟨_,λi=>qg (hg i) (by rw[ck.mg i];exact T.b_range) (q i) (by rw[bc hs];rfl),ul r⟩
theorem qB {p:Pos}(ck:CK C P W K mg base k)(T:Bi mg)(ha:QA C K [a,b] ms)(hg:∀i,Gl (C i) "range" :=by intro _;rfl)(hs:bO a=false:=by rfl)(hs2:bO b=false:=by rfl):QI C K tg (.Call (.Name "range" p) [a,b] [] pos) (fb ms):=by
 obtain⟨ta,q,_,r⟩:=ha
 exact⟨_,λi=>qh (hg i) (by rw[ck.mg i];exact T.b_range) (q i) (by rw[bc hs,bc hs2];rfl) (by rw[bc hs2];rfl),um r⟩
theorem PI.or {X:Cx}{w1 w2:TI}(h1:PI X tg iter w1)(h2:PI X tg iter w2):PI X tg iter (λZ H R=>w1 Z H R∨w2 Z H R):=by
 intro pins s Z H R I h
 rcases h with h|h
 ·exact h1 pins s Z H R I h
 ·exact h2 pins s Z H R I h
noncomputable def eH:R->Option (List R)
 | ⟨_,.li is⟩=>some (is.map λi=>⟨.ow,.im i⟩)
 | ⟨.vw ro _,.lst ts⟩=>some (ts.map (partV ro))
 | ⟨_,.im (.tup is)⟩=>some (is.map λi=>⟨.ow,.im i⟩)
 | ⟨_,.im (.str z)⟩=>some ((sL z).map λc=>⟨.ow,.im (.str ⟨#[c]⟩)⟩)
 | ⟨_,.im (.ls is)⟩=>some (is.map λi=>⟨.ow,.im i⟩)
 | _=>none
@[irreducible] noncomputable def mIt (a:ME):MI:=⟨λρ=>match a.run ρ with
 | some (r,ρ1)=>(match eH r with
  | some rs=>some (([r],rs),ρ1)
  | none=>none)
 | none=>none,a.mu⟩
theorem xz {Γ:Gm}{z:Str}{v:V}{src:R}:gb Γ (Its z) [v] [src] ((sL z).map λc=>⟨.ow,.im (.str ⟨#[c]⟩)⟩):=λH ρ Z E S=>by
 refine⟨λi hi=>?_,λi r hr=>?_⟩
 ·show z.cps.size<=i
  simpa[sL]using hi
 ·obtain⟨c,hc,rfl⟩:=aQ hr
  have hc':z.cps[i]?=some c:=by simpa[sL]using hc
  refine⟨?_,λx H' y=>?_⟩
  ·show i<z.cps.size
   exact(Array.getElem?_eq_some_iff.mp hc').1
  ·obtain⟨rfl,c',h1,rfl⟩:=y
   rw[hc']at h1;cases h1
   exact S.imm (iO rfl)
theorem AG {ta:TE}(ha:aP K ta m):i3 K (λZ H R=>oN K ta Z H R∨(vp K ta Z H R∨BA ta Z H R)) (mIt m):=by with_unfolding_all
 intro Γ H ρ Z E Rr src items ρ' hK hr S q
 simp only[mIt]at hr
 split at hr
 ·rename_i r ρ1 e1
  split at hr
  ·rename_i rs e2
   cases hr
   unfold eH at e2
   split at e2
   ·rename_i k0 is
    exact .inl (lx ha Γ H ρ Z E Rr _ items ρ' hK (by simp only[r9,e1,gl];cases e2;rfl) S q)
   ·exact .inl (lx ha Γ H ρ Z E Rr _ items ρ' hK (by simp only[r9,e1,gl];cases e2;rfl) S q)
   ·exact .inr (.inl (wU ha Γ H ρ Z E Rr _ items ρ' hK (by simp only[y6,e1,je];cases e2;rfl) S q))
   ·rename_i k0 z
    cases e2
    right;right
    refine ha Γ H ρ Z E _ _ _ hK e1 S λx H1 S1=>?_
    exact⟨z,cJ (S1.rd ymS),q _ [x] H1 rfl S1 xz⟩
   ·exact .inl (lx ha Γ H ρ Z E Rr _ items ρ' hK (by simp only[r9,e1,gl];cases e2;rfl) S q)
   ·cases e2
  ·cases hr
 ·cases hr
theorem Ah (ck:CK C P W K mg base k)(ha:QE C K iter m):QI C K tg iter (mIt m):=by
 obtain⟨ta,q,r⟩:=ha
 exact⟨_,λi=>PI.or (ilK (ck.kk i) (q i)) (PI.or (itK (ck.kk i) (q i)) (wg (q i))),AG r⟩
@[irreducible] noncomputable def mYes:MT:=⟨λρ=>some (true,ρ),[]⟩
theorem xg:ff K C7 mYes:=by with_unfolding_all
 intro Γ H ρ Z E Q b ρ' hK hr S q
 cases hr
 exact q H (by rw[show mYes.mu=[]from rfl,bE];exact S)
theorem wJ:QTs C K [] mYes:=⟨_,λ_=>wv,xg⟩
theorem wK (h:QT C K c mt):QTs C K [c] mt:=by
 obtain⟨t,p,r⟩:=h
 exact⟨_,λi=>wx (p i),r⟩
section
variable  {elt tg2 iter2:Expr}{ifs:List Expr}{scope:Scope}
theorem cb {N':List Str}{f:List (Option Nat)}(ck:CK C P W K mg base k)(hB:∀i,Blk (C i).env.scope scope (C i).N N' f)(hi:QI C K tg iter it)(hg:QG (iP C scope N') K (some f) tg g)(ht:QTs (iP C scope N') K ifs mt)(he:QE (iP C scope N') K elt m)(hs:∀i x,foldedSetIterable iter (C i).env x=pure x:=by intro _ _;rfl) :
  QE C K (.ListComp elt [⟨tg,iter,ifs,0⟩] scope pos) (aV f it g mt m):=by
 obtain⟨wi,p0,r0⟩:=hi
 obtain⟨gg,p1,r1,kk⟩:=hg
 obtain⟨tt,p2,r2⟩:=ht
 obtain⟨te,p3,r3⟩:=he
 exact⟨_,λi=>vY (ck.calm i) (hB i) (p0 i) (λb=>p1 (i,b)) (kk f rfl) (λb=>p2 (i,b)) (λb=>p3 (i,b)) (hs i),mJ r0 (kk f rfl) r1 r2 r3⟩
theorem dq (n:Nat){x:Str}{pos' spos:Pos}{N':List Str}{f:List (Option Nat)}(ck:CK C P W K mg base k)(hN:∀i,(C i).N.Nodup)(hB:∀i,Blk (C i).env.scope scope (C i).N N' f)(hi:QI C K tg iter it)(hg:QG (iP C scope N') K (some f) tg g)(ht:QTs (iP C scope N') K ifs mt)(he:QE (iP C scope N') K elt m)(hn:∀i,(C i).N[n]?=some x:=by intro _;rfl)(hx:∀i,(C i).env.scope.names.lookup x=some .local:=by intro _;rfl)
  (hsw:∀i,swapsWith (.ListComp elt [⟨tg,iter,ifs,0⟩] scope pos) (some (.Name x pos')) spos.line (C i).env=pure true:=by intro _;rfl) (hs:∀i x,foldedSetIterable iter (C i).env x=pure x:=by intro _ _;rfl) :
  QS C K (.Assign [.Name x pos'] (.ListComp elt [⟨tg,iter,ifs,0⟩] scope pos) spos) (aD (aV f it g mt m) (ag n)):=by
 obtain⟨wi,p0,r0⟩:=hi
 obtain⟨gg,p1,r1,kk⟩:=hg
 obtain⟨tt,p2,r2⟩:=ht
 obtain⟨te,p3,r3⟩:=he
 exact⟨_,λi=>nK (ck.calm i) (hN i) (hn i) (hx i) (hB i) (p0 i) (λb=>p1 (i,b)) (kk f rfl) (λb=>p2 (i,b)) (λb=>p3 (i,b)) (hsw i) (hs i),lw (mJ r0 (kk f rfl) r1 r2 r3) jA⟩
theorem wA {N':List Str}{f f2:List (Option Nat)}(ck:CK C P W K mg base k)(hB:∀i,Blk (C i).env.scope scope (C i).N N' f)(hsub:mS f f2=true)(hi:QI C K tg iter it)(hg:QG (iP C scope N') K (some f) tg g)(hi2:QI (iP C scope N') K tg2 iter2 it2)(hg2:QG (iP C scope N') K (some f2) tg2 g')(ht:QTs (iP C scope N') K ifs mt)(he:QE (iP C scope N') K elt m)(hs:∀i x,foldedSetIterable iter (C i).env x=pure x:=by intro _ _;rfl)(hs2:∀i b x,foldedSetIterable iter2 (cxB (C i) scope N' b).env x=pure x:=by intro _ _ _;rfl) :
  QE C K (.ListComp elt [⟨tg,iter,[],0⟩,⟨tg2,iter2,ifs,0⟩] scope pos) (ig f f2 it g it2 g' mt m):=by
 obtain⟨wi,p0,r0⟩:=hi
 obtain⟨gg,p1,r1,kk⟩:=hg
 obtain⟨wi2,p4,r4⟩:=hi2
 obtain⟨gg2,p5,r5,kk2⟩:=hg2
 obtain⟨tt,p2,r2⟩:=ht
 obtain⟨te,p3,r3⟩:=he
 exact⟨_,λi=>sJ (ck.calm i) (hB i) hsub (p0 i) (λb=>p1 (i,b)) (kk f rfl) (λb=>p4 (i,b)) (λb=>p5 (i,b)) (kk2 f2 rfl) (λb=>p2 (i,b)) (λb=>p3 (i,b)) (hs i) (hs2 i),qE r0 (kk f rfl) r1 r4 (kk2 f2 rfl) r5 r2 r3⟩
end
end
structure DI (k:Nat)(name:Str)(st:Stmt) where
 f:Addr
 cdv:Value
 A:Around
 outer:List Env
 s:Shared
 H:Hp
 E:XK
 hr:Room k (A.deeper (envOfC name (ai st) s.heap.objs.size f cdv))
noncomputable abbrev dC (P:Program) (W:World) (K:yF) (mg:Str->Option Value) (base:Heap) (k:Nat) (N:List Str) (name:Str) (st:Stmt):DI k name st->Cx:=λd=>(jM CX0 P W K mg base N name (ai st) d.f d.cdv d.A d.outer d.s d.H d.E).nox
theorem rm {N:List Str}{name:Str}{st:Stmt}:CK (dC P W K mg base k N name st) P W K mg base k:=
 ⟨λ_=>rfl,λ_=>rfl,λ_=>rfl,λ_=>rfl,λ_=>rfl,λ_=>rfl,λd=>d.hr⟩
theorem Def.qp {name:Str}{st:Stmt}{N ps:List Str}(d:Def K mg name st ps)(S:FnScope N ps (ai st)){m:MS}(h:QSs (dC P W K mg base k N name st) K (bj st) m)
  {run:List T->Option T} (hrun:∀ts,run ts=if ts.length=ps.length then dv m N.length ts else none):Has P W K mg base (k+1) name ps (spP K run):=by
 obtain⟨t,p,r⟩:=h
 exact d.mp S (λf cdv A outer s H E hr=>⟨t,p ⟨f,cdv,A,outer,s,H,E,hr⟩,r⟩) hrun
theorem Def.qi {name:Str}{st:Stmt}{N ps:List Str}{j:Nat}(d:Def K mg name st ps)(S:FnScope N ps (ai st)){m:MS}(h:QSs (dC P W K mg base k N name st) K (bj st) m)
  {run:List T->Option (T×T)} (hrun:∀ts,run ts=if ts.length=ps.length then dM m j N.length ts else none):Has P W K mg base (k+1) name ps (spI K j run):=by
 obtain⟨t,p,r⟩:=h
 exact d.mi S (λf cdv A outer s H E hr=>⟨t,p ⟨f,cdv,A,outer,s,H,E,hr⟩,r⟩) hrun
section
variable  {Γ:Gm}{H H':Hp}{L:List Hd}{ρ:Rho}{Z:St}{E X:List En}{v w x y:V}{t s:T}{K:yF}{Q:VK}
@[irreducible] noncomputable def mCallT (k:Nat)(run:List T->Option (T×T))(a:MA):ME:=⟨λρ=>match a.run ρ with
 | some (rs,ρ1)=>(match rs[k]? with
  | some ⟨.ow,_⟩=>(match run (rs.map (·.t))with
   | some (t,_)=>some (⟨.ow,t⟩,ρ1)
   | none=>none)
  | _=>none)
 | none=>none,a.mu⟩
@[irreducible] noncomputable def gn (j:Nat)(o:ME)(lo hi:ME):MG:=⟨λr ρ=>match r with
 | ⟨.ow,.li ys⟩=>match o.run ρ with
  | some (⟨.vw (some j') (some p),.li xs⟩,ρ1)=>match lo.run ρ1 with
   | some (⟨_,.im (.int a)⟩,ρ2)=>match hi.run ρ2 with
    | some (⟨_,.im (.int c)⟩,ρ3)=>if(decide (j'=j) && !(lo.mu++hi.mu).contains j&&decide (0<=a/\a<=c/\c<=xs.length/\xs.length+ys.length<=sizeLine))=true then(match ρ3[j]? with
     | some (some ⟨k,t⟩)=>if k.isOw=true then some ((ao [j] ρ3).set j (some ⟨k,t.put p (.li (xs.take a.toNat++ys++xs.drop c.toNat))⟩))else none
     | _=>none)else none
    | _=>none
   | _=>none
  | _=>none
 | _=>none,(o.mu++(lo.mu++hi.mu))++[j]⟩
theorem qI {to tl th:TE}{o lo hi:ME}{j:Nat}(ho:aP K to o)(hl:aP K tl lo)(hh:aP K th hi):g9 K (rM to (pe tl) (pe th)) (gn j o lo hi):=by
 intro Γ H ρ Z E Q v r ρ' hK hr S q
 simp only[gn]at hr q
 split at hr
 ·rename_i ys
  split at hr
  ·rename_i j' p xs ρ1 e1
   split at hr
   ·rename_i k1 a ρ2 e2
    split at hr
    ·rename_i k2 c ρ3 e3
     split at hr
     ·rename_i hc
      rw[DU,DU,decide_eq_true_eq,EB,decide_eq_true_eq]at hc
      obtain⟨⟨rfl,hmv⟩,hz⟩:=hc
      split at hr
      ·rename_i k t e4
       split at hr
       ·rename_i hw
        cases hr
        refine ho Γ H ρ Z _ _ _ _ hK e1 S λx H1 S1=>?_
        refine hl Γ H1 ρ1 Z _ _ _ _ hK e2 S1 λya H2 S2=>?_
        refine⟨a,aK (S2.rd ymS),?_⟩
        refine hh Γ H2 ρ2 Z _ _ _ _ hK e3 (S2.drop rfl) λyc H3 S3=>?_
        refine⟨c,aK (S3.rd ymS),?_⟩
        have S4:=S3.drop rfl
        have k1':az (lo.mu++hi.mu) ⟨none,x,⟨.vw (some j') (some p),.li xs⟩⟩=true:=by unfold az;simp only[Kd.root];rw[hmv];rfl
        have k2':∀M:List Nat,az M ⟨none,v,⟨.ow,.li ys⟩⟩=true:=λM=>rfl
        rw[af,ar k1',af,ar (k2' _)]at S4
        obtain⟨G,F,h1,h2,h3,h4,h5⟩:=Sim.mut (vs:=[v]) (ts:=[.li ys]) (S4.perm (List.Perm.swap _ _ _)) rfl e4 hw
        obtain⟨p0,xs',rfl,g1,g2,rfl⟩:=jn h1 λa ha=>h4 a (yaL _ ha)
        obtain⟨z,ez,g3⟩:=qM h2
        cases ez
        obtain⟨b0,ys',rfl,g4,g5,rfl⟩:=jn g3 λa ha=>h4 a (yaR _ ha)
        have hne:p0≠b0:=λz=>by
         have:=h3
         rw[z]at this
         simp at this
        refine⟨p0,b0,xs',ys',a,c,rfl,rfl,rfl,rfl,g1,g4,hne,hz.1,hz.2.1,by rw[g2.length];exact hz.2.2.1,by rw[g2.length,g5.length];exact hz.2.2.2,?_⟩
        refine gy (Q:=λ_ H'=>Q Z H') (F:=[b0]) (v:=.non) (i:=.non) g1 (((g2.take _).append g5).append (g2.drop _)) bF λv' H' G' a1 a2 a3 a4 a5 _=>q Z H' ?_
        have:=h5 H' _ G' a1 a2 a3 a4 a5
        rw[af]at this
        exact this
       ·cases hr
      ·cases hr
     ·cases hr
    ·cases hr
   ·cases hr
  ·cases hr
 ·cases hr
noncomputable def lg:MS:=⟨λ_=>none,[]⟩
theorem qH {t:TS}:dH K t lg:=by
 intro Γ H ρ Z E D f ρ' hK hE hr S q
 cases hr
end
variable  {ι : Type}{C:ι->Cx}{P:Program}{W:World}{K:yF}{mg:Str->Option Value}{base:Heap}{k:Nat}
section
variable  {a b c e o tg iter:Expr}{es:List Expr}{ma mb mc m mo mi ml mh:ME}{ms:MA}{pos:Pos}{mt mt':MT}{s1 s2:MS}{g g':MG}{gs:MGs}{it it2:MI}{fr:Option (List (Option Nat))}
end
section
variable  {Γ:Gm}{H H':Hp}{ρ:Rho}{Z:St}{E:List En}{v w x y:V}{t s:T}{K:yF}{Q:VK}
@[irreducible] noncomputable def ac (n:Nat)(ms:MA):MA:=⟨λρ=>match ms.run ρ with
 | some (rs,ρ2)=>(match ρ2[n]? with
  | some (some r)=>(match ρ[n]? with
   | some (some _)=>some (rdR n r::rs,ρ2)
   | _=>none)
  | _=>none)
 | none=>none,ms.mu⟩
theorem qF {n:Nat}{ta:TA}{ms:MA}(h2:fe K ta ms):fe K (pb (AU n) ta) (ac n ms):=by with_unfolding_all
 intro Γ H ρ Z E Q rs ρ' hK hr S q
 simp only[ac]at hr
 split at hr
 ·rename_i rs1 ρ2 e2
  split at hr
  ·rename_i r e3
   split at hr
   ·rename_i r0 e4
    cases hr
    obtain⟨v,hv,_⟩:=S.var e4
    refine⟨v,hv,?_⟩
    refine h2 Γ H ρ Z E _ rs1 _ hK e2 S λvs H2 hl S2=>q (v::vs) H2 (by rw[D5,D5,hl]) ?_
    obtain⟨v',hv',S3⟩:=S2.var e3
    rw[hv]at hv'
    cases hv'
    exact S3
   ·cases hr
  ·cases hr
 ·cases hr
end
variable  {ι : Type}{C:ι->Cx}{P:Program}{W:World}{K:yF}{mg:Str->Option Value}{base:Heap}{k:Nat}
section
variable  {a b c e o tg iter:Expr}{es:List Expr}{ma mb mc m mo mi ml mh:ME}{ms:MA}{pos:Pos}{mt mt':MT}{s1 s2:MS}{g g':MG}{gs:MGs}{it it2:MI}{fr:Option (List (Option Nat))}
theorem tK (n:Nat){x:Str}{p:Pos}(h2:QA C K es ms)(hN:∀i,(C i).N[n]?=some x:=by intro _;rfl)(hv:∀i,Vis (C i).env.scope x:=by first|exact λ_=>Or.inl rfl|exact λ_=>Or.inr (Or.inl rfl)|exact λ_=>Or.inr (Or.inr rfl))(hd:(x==("__debug__" : Str))=false:=by decide)(hcd:(x==("__classdict__" : Str))=false:=by decide):QA C K (.Name x p::es) (ac n ms):=by
 obtain⟨ta,c,n',d⟩:=h2
 exact⟨_,λi=>gT (sO (hN i) (hv i) hd hcd) (c i) rfl,by rw[aW,n'];rfl,qF d⟩
theorem tL (j:Nat){lo hi:Expr}{p2:Pos}(ho:QE C K o mo)(hl:QE C K lo ml)(hh:QE C K hi mh)
  (ha:∀i v,assign (.Subscript o (.Slice (some lo) (some hi) none p2) pos) (C i).env v=(do
   let ov ←holding [v] (eval o (C i).env)
   let iv ←holding [v,ov] (eval (.Slice (some lo) (some hi) none p2) (C i).env)
   standAt pos
   holding [v,ov,iv] (setItem ov iv v)
   release [iv,v,ov] []):=by intro _ _;rfl):QG C K none (.Subscript o (.Slice (some lo) (some hi) none p2) pos) (gn j mo ml mh):=by
 obtain⟨to,p,r⟩:=ho
 obtain⟨tl,p',r'⟩:=hl
 obtain⟨th,p'',r''⟩:=hh
 exact⟨_,λi=>sQ (p i) (lm (p' i)) (lm (p'' i)) (ha i),qI r r' r'',λf h=>by cases h⟩
theorem ku {st:List Stmt}:QSs C K st lg:=⟨λ_ _ _=>False,λ_ _ _ _ _ _ _ h=>h.elim,qH⟩
end
variable  {ι : Type}{C:ι->Cx}{P:Program}{W:World}{K:yF}{mg:Str->Option Value}{base:Heap}{k:Nat}
section
variable  {Γ:Gm}{H:Hp}{ρ:Rho}{Z:St}{E:List En}
noncomputable def fgt (i:Nat) (ρ:Rho):Rho:=(ao [i] ρ).set i none
theorem Sim.fgt (S:Sim Γ H ρ Z E)(i:Nat):Sim Γ H (L2.fgt i ρ) Z (ae [i] E):=by
 have S1:=S.kill [i]
 unfold L2.fgt
 cases h:(ao [i] ρ)[i]? with
 | none=>rw[List.set_eq_of_length_le (by simpa using h)];exact S1
 | some o=>
  cases o with
  | none=>
   have:(ao [i] ρ).set i none=ao [i] ρ:=by
    apply Fn
    intro j
    by_cases e:i=j
    ·subst e
     have hl:=(DR.mp h).1
     rw[EL hl,h]
    ·rw[Ef e]
   rw[this];exact S1
  | some r=>
   obtain⟨v,hv⟩:=S1.al i r h
   have p:=bm (k:=0) hv h
   have SL:SimL Γ H (⟨some (0+i),v,r⟩::(ae [i] E++ay 0 Z ((ao [i] ρ).set i none))):=S1.sl.perm ((List.Perm.append_left _ p).trans Et)
   obtain⟨L,g,e⟩:=SL
   obtain⟨x,L',rfl,ex,eL⟩:=aE e
   have hno:∀y∈ae [i] E++ay 0 Z (ao [i] ρ),y.r.k.root≠some i:=by
    rw[dW,←aB]
    exact jo (by simp)
   refine⟨⟨L',g.dropK λy hy j hj hr=>?_,eL⟩,λm r' hm=>?_,by rw[FE];exact S1.len,λy hy j hj=>by rw[FE];exact S1.hi y hy j hj⟩
   ·rw[ex]at hj
    have:j=i:=by simpa using hj.symm
    subst this
    have:y.e∈L'.map (·.e):=D4.mpr ⟨y,hy,rfl⟩
    rw[eL]at this
    have hp:=(List.Perm.append_left (ae [j] E) p).trans Et
    exact hno y.e (hp.mem_iff.mpr (ymC _ this)) hr
   ·by_cases e:i=m
    ·subst e
     rw[EL (DR.mp h).1]at hm
     cases hm
    ·rw[Ef e]at hm
     exact S1.al m r' hm
noncomputable def fgts:List Nat->Rho->Rho
 | [],ρ=>ρ
 | i::ks,ρ=>fgts ks (fgt i ρ)
theorem Sim.fgts:∀{ks:List Nat} {ρ:Rho} {E:List En},Sim Γ H ρ Z E->Sim Γ H (L2.fgts ks ρ) Z (ae ks E)
 | [],ρ,E,S=>by rw[bE];exact S
 | i::ks,ρ,E,S=>by
  have:=Sim.fgts (ks:=ks) (S.fgt i)
  rw[af]at this
  exact this
@[irreducible] noncomputable def bR (ks:List Nat)(s:MS):MS:=⟨λρ=>match s.run ρ with
 | some (.nx,ρ1)=>some (.nx,fgts ks ρ1)
 | some (.ct,ρ1)=>some (.ct,fgts ks ρ1)
 | some (.rt t,ρ1)=>some (.rt t,ρ1)
 | some (.bk,ρ1)=>some (.bk,ρ1)
 | none=>none,s.mu++ks⟩
theorem wR {ks:List Nat}{ts:TS}{s:MS}(h:dH K ts s):dH K ts (bR ks s):=by
 intro Γ H ρ Z E D f ρ' hK hE hr S q
 simp only[bR]at hr q
 split at hr
 ·rename_i ρ1 e1
  cases hr
  exact h Γ H ρ Z E D _ _ hK hE e1 S λZ' H' S'=>q Z' H' (by rw[←af];exact S'.fgts)
 ·rename_i ρ1 e1
  cases hr
  exact h Γ H ρ Z E D _ _ hK hE e1 S λZ' H' S'=>q Z' H' (by rw[←af];exact S'.fgts)
 ·rename_i t ρ1 e1
  cases hr
  exact h Γ H ρ Z E D _ _ hK hE e1 S q.weak
 ·rename_i ρ1 e1
  cases hr
  exact h Γ H ρ Z E D _ _ hK hE e1 S q.weak
 ·cases hr
theorem wI (ks:List Nat){st:List Stmt}{s:MS}(h:QSs C K st s):QSs C K st (bR ks s):=by
 obtain⟨t,p,r⟩:=h
 exact⟨t,p,wR r⟩
end
structure W1 {α:Type}(o:Option α)(Q : α->Prop):Prop where
 ex:∃x,o=some x/\Q x
structure W2 {α β:Type}(o:Option (α × β))(Q : α->β->Prop):Prop where
 ex:∃x y,o=some (x,y)/\Q x y
structure WE (m:ME)(ρ:Rho)(Q:R->Rho->Prop):Prop where
 ex:∃x y,m.run ρ=some (x,y)/\Q x y
structure WT (m:MT)(ρ:Rho)(Q:Bool->Rho->Prop):Prop where
 ex:∃x y,m.run ρ=some (x,y)/\Q x y
structure WA (m:MA)(ρ:Rho)(Q:List R->Rho->Prop):Prop where
 ex:∃x y,m.run ρ=some (x,y)/\Q x y
structure WS (m:MS)(ρ:Rho)(Q:Fl->Rho->Prop):Prop where
 ex:∃x y,m.run ρ=some (x,y)/\Q x y
structure WG (m:MG)(r:R)(ρ:Rho)(Q:Rho->Prop):Prop where
 ex:∃x,m.run r ρ=some x/\Q x
structure WGs (m:MGs)(rs:List R)(ρ:Rho)(Q:Rho->Prop):Prop where
 ex:∃x,m.run rs ρ=some x/\Q x
structure WI (m:MI)(ρ:Rho)(Q:List R->List R->Rho->Prop):Prop where
 ex:∃r rs ρ',m.run ρ=some ((r,rs),ρ')/\Q r rs ρ'
structure WO (m:MO)(ρ:Rho)(Q:Option Int->Rho->Prop):Prop where
 ex:∃x y,m.run ρ=some (x,y)/\Q x y
structure Gu (b:Bool)(P:Prop):Prop where
 ex:b=true/\P
structure IsB (t:T)(Q:Bool->Prop):Prop where
 ex:∃b,t=.im (.bl b)/\Q b
structure IsN (t:T)(Q:Int->Prop):Prop where
 ex:∃n,t=.im (.int n)/\Q n
structure AtV (n:Nat)(ρ:Rho)(Q:R->Prop):Prop where
 ex:∃r,ρ[n]?=some (some r)/\Q r
structure AtC (k j:Nat)(rs:List R)(ρ:Rho)(Q:List Ac->Kd->T->Prop):Prop where
 ex:∃p t1 kd t0,rs[k]?=some ⟨.vw (some j) (some p),t1⟩/\((Es rs.length).all λm=>decide (m=k)||aC [j] (rs.getD m ⟨.ow,.im .non⟩))=true/\ρ[j]?=some (some ⟨kd,t0⟩)/\kd.isOw=true/\Q p kd t0
structure AtT (k:Nat)(rs:List R)(P:Prop):Prop where
 ex:∃t1,rs[k]?=some ⟨.ow,t1⟩/\P
structure AtM (l:Nat)(ρ:Rho)(Q:Kd->T->Prop):Prop where
 ex:∃k t,ρ[l]?=some (some ⟨k,t⟩)/\k.isOw=true/\Q k t
structure AtS (j:Nat)(r:R)(Q:List Ac->T->Prop):Prop where
 ex:∃p s,r=⟨.vw (some j) (some p),s⟩/\Q p s
structure Two (rs:List R)(Q:R->R->Prop):Prop where
 ex:∃r1 r2,rs=[r1,r2]/\Q r1 r2
structure Three (rs:List R)(Q:R->R->R->Prop):Prop where
 ex:∃r1 r2 r3,rs=[r1,r2,r3]/\Q r1 r2 r3
structure Int1 (rs:List R)(Q:Int->Prop):Prop where
 ex:∃n,rs.map (·.t)=[.im (.int n)]/\Q n
structure Int2 (rs:List R)(Q:Int->Int->Prop):Prop where
 ex:∃m n,rs.map (·.t)=[.im (.int m),.im (.int n)]/\Q m n
theorem Dw {b:Bool}{Q:Bool->Prop}(q:Q b):IsB (.im (.bl b)) Q:=⟨b,rfl,q⟩
theorem Dx {n:Int}{Q:Int->Prop}(q:Q n):IsN (.im (.int n)) Q:=⟨n,rfl,q⟩
theorem Dk {n:Nat}{ρ:Rho}{r:R}{Q:R->Prop}(h : ρ[n]?=some (some r))(q:Q r):AtV n ρ Q:=⟨r,h,q⟩
theorem Di {k j:Nat}{rs:List R}{ρ:Rho}{p:List Ac}{t1 t0:T}{kd:Kd}{Q:List Ac->Kd->T->Prop}(h1:rs[k]?=some ⟨.vw (some j) (some p),t1⟩)(h2:((Es rs.length).all λm=>decide (m=k)||aC [j] (rs.getD m ⟨.ow,.im .non⟩))=true)(h3 : ρ[j]?=some (some ⟨kd,t0⟩))(h4:kd.isOw=true)(q:Q p kd t0):AtC k j rs ρ Q:=⟨p,t1,kd,t0,h1,h2,h3,h4,q⟩
theorem yz {l:Nat}{ρ:Rho}{k:Kd}{t:T}{Q:Kd->T->Prop}(h : ρ[l]?=some (some ⟨k,t⟩))(ho:k.isOw=true)(q:Q k t):AtM l ρ Q:=⟨k,t,h,ho,q⟩
theorem Dj {j:Nat}{p:List Ac}{s:T}{Q:List Ac->T->Prop}(q:Q p s):AtS j ⟨.vw (some j) (some p),s⟩ Q:=⟨p,s,rfl,q⟩
theorem AW {r1 r2:R}{Q:R->R->Prop}(q:Q r1 r2):Two [r1,r2] Q:=⟨r1,r2,rfl,q⟩
theorem vt {rs:List R}{n:Int}{Q:Int->Prop}(h:rs.map (·.t)=[.im (.int n)])(q:Q n):Int1 rs Q:=⟨n,h,q⟩
theorem vv {rs:List R}{m n:Int}{Q:Int->Int->Prop}(h:rs.map (·.t)=[.im (.int m),.im (.int n)])(q:Q m n):Int2 rs Q:=⟨m,n,h,q⟩
section
variable  {α β:Type}{ρ:Rho}{a b c m:ME}{ms:MA}{ct ct':MT}{s1 s2:MS}{g:MG}{gs:MGs}{it:MI}{QE':R->Rho->Prop}{QT':Bool->Rho->Prop}{QA':List R->Rho->Prop}{Q:Fl->Rho->Prop}{QG':Rho->Prop}{P:Prop}{o:Option α}{x : α}{Q1 : α->Prop}
theorem w1 (h:o=some x)(q:Q1 x):W1 o Q1:=⟨x,h,q⟩
theorem gu {b:Bool}(h:b=true)(p:P):Gu b P:=⟨h,p⟩
theorem WS.mono {Q2:Fl->Rho->Prop}(h:WS s1 ρ Q)(k:∀f ρ,Q f ρ->Q2 f ρ):WS s1 ρ Q2:=by obtain⟨x,y,e,q⟩:=h;exact⟨x,y,e,k x y q⟩
theorem WG.mono {r:R}{Q1 Q2:Rho->Prop}(h:WG g r ρ Q1)(k:∀ρ,Q1 ρ->Q2 ρ):WG g r ρ Q2:=by obtain⟨x,e,q⟩:=h;exact⟨x,e,k x q⟩
theorem WA.mono {Q1 Q2:List R->Rho->Prop}(h:WA ms ρ Q1)(k:∀rs ρ,Q1 rs ρ->Q2 rs ρ):WA ms ρ Q2:=by obtain⟨x,y,e,q⟩:=h;exact⟨x,y,e,k x y q⟩
theorem WT.mono {Q1 Q2:Bool->Rho->Prop}(h:WT ct ρ Q1)(k:∀b ρ,Q1 b ρ->Q2 b ρ):WT ct ρ Q2:=by obtain⟨x,y,e,q⟩:=h;exact⟨x,y,e,k x y q⟩
theorem WE.mono {Q2:R->Rho->Prop}(h:WE m ρ QE')(k:∀f ρ,QE' f ρ->Q2 f ρ):WE m ρ Q2:=by obtain⟨x,y,e,q⟩:=h;exact⟨x,y,e,k x y q⟩
theorem w_C {i:I}(q:QE' ⟨.ow,.im i⟩ ρ):WE (mC i) ρ QE':=by with_unfolding_all exact⟨_,_,rfl,q⟩
theorem mU {n:Nat}{r:R}(h : ρ[n]?=some (some r))(q:QE' (rdR n r) ρ):WE (ah n) ρ QE':=⟨rdR n r,ρ,by simp only[ah,h],q⟩
theorem DO {f:T->T->Option T}(h:WE a ρ λra ρ1=>WE b ρ1 λrb ρ2=>Gu (aC b.mu ra) (W1 (f ra.t rb.t) λt=>QE' ⟨.ow,t⟩ ρ2)):WE (mOp f a b) ρ QE':=by
 obtain⟨ra,ρ1,e1,rb,ρ2,e2,al,t,e3,q⟩:=h
 exact⟨⟨.ow,t⟩,ρ2,by simp only[mOp,e1,e2,al,if_true,e3],q⟩
theorem DQ {f:T->Option T}(h:WE a ρ λra ρ1=>W1 (f ra.t) λt=>QE' ⟨.ow,t⟩ ρ1):WE (mUn f a) ρ QE':=by
 obtain⟨ra,ρ1,e1,t,e3,q⟩:=h
 exact⟨⟨.ow,t⟩,ρ1,by simp only[mUn,e1,e3],q⟩
theorem w_B {f:List T->Option T}(h:WA ms ρ λrs ρ1=>W1 (f (rs.map (·.t))) λt=>QE' ⟨.ow,t⟩ ρ1):WE (mB f ms) ρ QE':=by
 obtain⟨ra,ρ1,e1,t,e3,q⟩:=h
 exact⟨⟨.ow,t⟩,ρ1,by simp only[mB,e1,e3],q⟩
theorem w_M {f:T->List T->Option T}(h:WE a ρ λra ρ1=>WA ms ρ1 λrs ρ2=>Gu (aC ms.mu ra) (W1 (f ra.t (rs.map (·.t))) λt=>QE' ⟨.ow,t⟩ ρ2)):WE (mM f a ms) ρ QE':=by
 obtain⟨ra,ρ1,e1,rb,ρ2,e2,al,t,e3,q⟩:=h
 exact⟨⟨.ow,t⟩,ρ2,by simp only[mM,e1,e2,al,if_true,e3],q⟩
theorem A6 (h:WE a ρ λra ρ1=>WE b ρ1 λrb ρ2=>Gu (aC b.mu ra) (W1 (ixR ra rb.t) λr=>QE' r ρ2)):WE (mIx a b) ρ QE':=by
 obtain⟨ra,ρ1,e1,rb,ρ2,e2,al,r,e3,q⟩:=h
 exact⟨r,ρ2,by simp only[mIx,e1,e2,al,if_true,e3],q⟩
theorem xF {QO':Option Int->Rho->Prop}(q:QO' none ρ):WO mNoPart ρ QO':=by with_unfolding_all exact⟨_,_,rfl,q⟩
theorem xG {QO':Option Int->Rho->Prop}(h:WE a ρ λr ρ1=>IsN r.t λn=>QO' (some n) ρ1):WO (dl a) ρ QO':=by
 obtain⟨⟨k,t⟩,ρ1,e1,n,e2,q⟩:=h
 cases e2
 exact⟨some n,ρ1,by simp only[dl,e1],q⟩
theorem DP {lo hi:MO}(h:WE a ρ λra ρ1=>WO lo ρ1 λl ρ2=>WO hi ρ2 λu ρ3=>Gu (aC (lo.mu++hi.mu) ra) (W1 (slR ra l u) λr=>QE' r ρ3)):WE (mSl a lo hi) ρ QE':=by
 obtain⟨ra,ρ1,e1,l,ρ2,e2,u,ρ3,e3,al,r,e4,q⟩:=h
 exact⟨r,ρ3,by simp only[mSl,e1,e2,e3,al,if_true,e4],q⟩
theorem A2 (h:WE a ρ λr ρ1=>IsB r.t λbb=>(bb=true->WE b ρ1 QE')/\(bb=false->QE' ⟨.ow,.im (.bl false)⟩ ρ1)):WE (iJ a b) ρ QE':=by
 obtain⟨⟨k,t⟩,ρ1,e1,bb,e2,q1,q2⟩:=h
 cases e2
 cases bb with
 | true=>obtain⟨p,ρ2,e,q⟩:=q1 rfl;exact⟨p,ρ2,by simp only[iJ,e1,e],q⟩
 | false=>exact⟨_,_,by simp only[iJ,e1],q2 rfl⟩
theorem Ba (h:WE a ρ λr ρ1=>IsB r.t λbb=>QE' ⟨.ow,.im (.bl !bb)⟩ ρ1):WE (kh a) ρ QE':=by
 obtain⟨⟨k,t⟩,ρ1,e1,bb,e2,q⟩:=h
 cases e2
 exact⟨_,_,by simp only[kh,e1],q⟩
theorem A7 {mv:List Nat}(h:WA ms ρ λrs ρ1=>Gu (decide (rs.length<=1000)) (W2 (consL mv rs ρ1) λts ρ2=>QE' ⟨.ow,bu ts⟩ ρ2)):WE (aR mv ms) ρ QE':=by
 obtain⟨rs,ρ1,e1,hl,ts,ρ2,e2,q⟩:=h
 exact⟨⟨.ow,bu ts⟩,ρ2,by simp only[aR,e1,if_pos (of_decide_eq_true hl),e2],q⟩
theorem Bb {mv:List Nat}(h:WA ms ρ λrs ρ1=>Gu (decide (rs.length<=1000)) (W2 (consL mv rs ρ1) λts ρ2=>QE' ⟨.ow,mf ts⟩ ρ2)):WE (av mv ms) ρ QE':=by
 obtain⟨rs,ρ1,e1,hl,ts,ρ2,e2,q⟩:=h
 exact⟨⟨.ow,mf ts⟩,ρ2,by simp only[av,e1,if_pos (of_decide_eq_true hl),e2],q⟩
theorem xu {k j:Nat}{run:List T->Option (T×T)}(h:WA ms ρ λrs ρ1=>AtC k j rs ρ1 λp kd t0=>W2 (run (rs.map (·.t))) λt s'=>QE' ⟨.ow,t⟩ ((ao [j] ρ1).set j (some ⟨kd,t0.put p s'⟩))):WE (ak k j run ms) ρ QE':=by
 obtain⟨rs,ρ1,e1,p,t1,kd,t0,e2,al,e3,ow,t,s',e4,q⟩:=h
 refine⟨⟨.ow,t⟩,(ao [j] ρ1).set j (some ⟨kd,t0.put p s'⟩),?_,q⟩
 simp only[ak,e1]
 simp only[e2]
 rw[if_pos (by rw[DU];exact⟨rfl,al⟩)]
 simp only[e4,e3,ow,if_true]
theorem uT {l:Nat}{mv:List Nat}{f:T->List T->Option (T×I)}(h:WE a ρ λra ρ1=>WA ms ρ1 λrs ρ2=>Gu (aC ms.mu ra) (W2 (mutR l mv f ra rs ρ2) QE')):WE (cH l mv f a ms) ρ QE':=by
 obtain⟨ra,ρ1,e1,rs,ρ2,e2,al,p,ρ3,e3,q⟩:=h
 exact⟨p,ρ3,by simp only[cH,e1,e2,al,if_true,e3],q⟩
theorem A8 {l:Nat}{f:T->List T->Option (T×I)}(h:WE a ρ λra ρ1=>W2 (mutR l [] f ra [] ρ1) QE'):WE (kf l f a) ρ QE':=by
 obtain⟨ra,ρ1,e1,p,ρ3,e3,q⟩:=h
 exact⟨p,ρ3,by simp only[kf,e1,e3],q⟩
theorem n9 {l:Nat}{mv:List Nat}{f:T->List T->Option (T×I)}{p:List Ac}{s:T}{rs:List R}{QQ:R->Rho->Prop}(hm:mv.contains l=false)(h:W2 (consL mv rs ρ) λts ρ2=>AtM l ρ2 λk t=>W2 (f s ts) λs' res=>QQ ⟨.ow,.im res⟩ ((ao [l] ρ2).set l (some ⟨k,t.put p s'⟩))):W2 (mutR l mv f ⟨.vw (some l) (some p),s⟩ rs ρ) QQ:=by
 obtain⟨ts,ρ2,hc,k,t,ho,hk,s',res,e,q⟩:=h
 refine⟨_,_,?_,q⟩
 unfold mutR
 simp only[decide_true,hm,hc,e,ho,hk,Hm,FD,if_true]
theorem Bc (q:QA' [] ρ):WA mNil ρ QA':=by with_unfolding_all exact⟨_,_,rfl,q⟩
theorem xy (h:WE m ρ λr ρ1=>WA ms ρ1 λrs ρ2=>Gu (aC ms.mu r) (QA' (r::rs) ρ2)):WA (aa m ms) ρ QA':=by
 obtain⟨ra,ρ1,e1,rb,ρ2,e2,al,q⟩:=h
 exact⟨ra::rb,ρ2,by simp only[aa,e1,e2,al,if_true],q⟩
theorem uU {n:Nat}{r0:R}(h0 : ρ[n]?=some (some r0))(h:WA ms ρ λrs ρ2=>AtV n ρ2 λr=>QA' (rdR n r::rs) ρ2):WA (ac n ms) ρ QA':=by
 obtain⟨rs,ρ2,e1,r,e2,q⟩:=h
 exact⟨rdR n r::rs,ρ2,by simp only[ac,e1,e2,h0],q⟩
theorem xH (h:WE a ρ λr ρ1=>IsB r.t λbb=>QT' bb ρ1):WT (aY a) ρ QT':=by
 obtain⟨⟨k,t⟩,ρ1,e1,bb,e2,q⟩:=h
 cases e2
 exact⟨bb,ρ1,by simp only[aY,e1],q⟩
theorem Bo (h:WE a ρ λr ρ1=>W1 (tru r.t) λbb=>QT' bb ρ1):WT (p7 a) ρ QT':=by
 obtain⟨r,ρ1,e1,bb,e2,q⟩:=h
 exact⟨bb,ρ1,by simp only[p7,e1,e2],q⟩
theorem Bn (h:WT ct ρ λbb ρ1=>QT' (!bb) ρ1):WT (pZ ct) ρ QT':=by
 obtain⟨r,ρ1,e1,q⟩:=h
 exact⟨_,_,by simp only[pZ,e1],q⟩
theorem Bm (h:WT ct ρ λbb ρ1=>(bb=true->WT ct' ρ1 QT')/\(bb=false->QT' false ρ1)):WT (l7 ct ct') ρ QT':=by
 obtain⟨bb,ρ1,e1,q1,q2⟩:=h
 cases bb with
 | true=>obtain⟨p,ρ2,e,q⟩:=q1 rfl;exact⟨p,ρ2,by simp only[l7,e1,e],q⟩
 | false=>exact⟨_,_,by simp only[l7,e1],q2 rfl⟩
theorem iE (q:QT' true ρ):WT mYes ρ QT':=by with_unfolding_all exact⟨_,_,rfl,q⟩
theorem xB {i:Nat}{r:R}(h:(fu ρ i&&aC [i] r)=true)(q:QG' ((ao [i] ρ).set i (some r))):WG (ag i) r ρ QG':=⟨(ao [i] ρ).set i (some r),by simp only[ag,h,if_true],q⟩
theorem xC (q:QG' ρ):WGs mGNil [] ρ QG':=by with_unfolding_all exact⟨_,rfl,q⟩
theorem uW {r:R}{rs:List R}(al:rs.all (aC g.mu)=true)(h:WG g r ρ λρ1=>WGs gs rs ρ1 QG'):WGs (aI g gs) (r::rs) ρ QG':=by
 obtain⟨ρ1,e1,ρ2,e2,q⟩:=h
 exact⟨ρ2,by simp only[aI,al,if_true,e1,e2],q⟩
theorem Bj {r:R}{rs:List R}(hp:parts r=some rs)(h:WGs gs rs ρ QG'):WG (cD gs) r ρ QG':=by
 obtain⟨ρ2,e2,q⟩:=h
 exact⟨ρ2,by simp only[cD,hp,e2],q⟩
theorem Bh {j:Nat}{tv:T}(h:WE a ρ λra ρ1=>WE b ρ1 λrb ρ2=>AtS j ra λp s=>Gu (!b.mu.contains j) (AtM j ρ2 λk t=>W1 (uw s rb.t tv) λs'=>QG' ((ao [j] ρ2).set j (some ⟨k,t.put p s'⟩)))):WG (nu j a b) ⟨.ow,tv⟩ ρ QG':=by
 obtain⟨ra,ρ1,e1,rb,ρ2,e2,p,s,rfl,hm,k,t,e3,ow,s',e4,q⟩:=h
 refine⟨_,?_,q⟩
 simp only[nu,e1,e2,hm,decide_true,FD,if_true,e4,e3,ow]
theorem uV {j:Nat}{ys:List I}(h:WE a ρ λra ρ1=>WE b ρ1 λrb ρ2=>WE c ρ2 λrc ρ3=>∃p xs k t i n,ra=⟨.vw (some j) (some p),.li xs⟩/\rb.t=.im (.int i)/\rc.t=.im (.int n)/\(b.mu++c.mu).contains j=false/\(0<=i/\i<=n/\n<=xs.length/\xs.length+ys.length<=sizeLine)/\ρ3[j]?=some (some ⟨k,t⟩)/\k.isOw=true/\QG' ((ao [j] ρ3).set j (some ⟨k,t.put p (.li (xs.take i.toNat++ys++xs.drop n.toNat))⟩))):WG (gn j a b c) ⟨.ow,.li ys⟩ ρ QG':=by
 obtain⟨ra,ρ1,e1,⟨_,_⟩,ρ2,e2,⟨_,_⟩,ρ3,e3,p,xs,k,t,i,n,rfl,rfl,rfl,hm,hz,e4,ow,q⟩:=h
 refine⟨_,?_,q⟩
 simp only[gn,e1,e2,e3,hm,decide_true,Hm,GS]
 rw[if_pos (decide_eq_true hz)]
 simp only[e4,ow,if_true]
theorem A9 (q:Q .nx ρ):WS mNext ρ Q:=by with_unfolding_all exact⟨_,_,rfl,q⟩
@[irreducible] def yH (b:MS)(Q:Fl->Rho->Prop):Fl->Rho->Prop
 | .nx,ρ=>WS b ρ Q
 | .rt t,ρ=>Q (.rt t) ρ
 | .bk,ρ=>Q .bk ρ
 | .ct,ρ=>Q .ct ρ
theorem yu (h:WS s1 ρ (yH s2 Q)):WS (aq s1 s2) ρ Q:=by with_unfolding_all
 obtain⟨f,ρ1,e1,q⟩:=h
 cases f with
 | nx=>have q:WS s2 ρ1 Q:=q;obtain⟨p,ρ2,e,q⟩:=q;exact⟨p,ρ2,by simp only[aq,e1,e],q⟩
 | rt t=>exact⟨.rt t,ρ1,by simp only[aq,e1],q⟩
 | bk=>exact⟨.bk,ρ1,by simp only[aq,e1],q⟩
 | ct=>exact⟨.ct,ρ1,by simp only[aq,e1],q⟩
theorem bo (h:WT ct ρ λbb ρ1=>(bb=true->WS s1 ρ1 Q)/\(bb=false->WS s2 ρ1 Q)):WS (mIf ct s1 s2) ρ Q:=by
 obtain⟨bb,ρ1,e1,q1,q2⟩:=h
 cases bb with
 | true=>obtain⟨p,ρ2,e,q⟩:=q1 rfl;exact⟨p,ρ2,by simp only[mIf,e1,e],q⟩
 | false=>obtain⟨p,ρ2,e,q⟩:=q2 rfl;exact⟨p,ρ2,by simp only[mIf,e1,e],q⟩
theorem n8 (h:WE m ρ λ_ ρ1=>Q .nx ρ1):WS (bp m) ρ Q:=by
 obtain⟨r,ρ1,e1,q⟩:=h
 exact⟨.nx,ρ1,by simp only[bp,e1],q⟩
theorem C8 (h:WE m ρ λr ρ1=>WG g r ρ1 λρ2=>Q .nx ρ2):WS (aD m g) ρ Q:=by
 obtain⟨r,ρ1,e1,ρ2,e2,q⟩:=h
 exact⟨.nx,ρ2,by simp only[aD,e1,e2],q⟩
theorem Dd (h:WE m ρ λr ρ1=>W2 (qK r ρ1) λt ρ2=>Q (.rt t) ρ2):WS (bf m) ρ Q:=by
 obtain⟨r,ρ1,e1,t,ρ2,e2,q⟩:=h
 exact⟨.rt t,ρ2,by simp only[bf,e1,e2],q⟩
theorem Dc {i j:Nat}(h:WA ms ρ λrs ρ1=>Two rs λr1 r2=>Gu (jp r1&&jp r2) (Gu (fu ρ1 i&&aC [i] r1&&aC [i] r2&&fu ρ1 j&&aC [j] r2) (Q .nx ((ao [j] ((ao [i] ρ1).set i (some r1))).set j (some r2))))):WS (kj i j ms) ρ Q:=by
 obtain⟨rs,ρ1,e1,r1,r2,rfl,hb,hc,q⟩:=h
 refine⟨.nx,(ao [j] ((ao [i] ρ1).set i (some r1))).set j (some r2),?_,q⟩
 rw[DU]at hb
 simp only[kj,vE,e1,E6,F3,hb.1,hb.2,Gc,FD,if_true,hc]
@[irreducible] def Bw (ks:List Nat)(Q:Fl->Rho->Prop):Fl->Rho->Prop
 | .nx,ρ=>Q .nx (fgts ks ρ)
 | .ct,ρ=>Q .ct (fgts ks ρ)
 | .rt t,ρ=>Q (.rt t) ρ
 | .bk,ρ=>Q .bk ρ
theorem C9 {ks:List Nat}(h:WS s1 ρ (Bw ks Q)):WS (bR ks s1) ρ Q:=by with_unfolding_all
 obtain⟨f,ρ1,e1,q⟩:=h
 cases f with
 | nx=>exact⟨_,_,by simp only[bR,e1],q⟩
 | ct=>exact⟨_,_,by simp only[bR,e1],q⟩
 | rt t=>exact⟨_,_,by simp only[bR,e1],q⟩
 | bk=>exact⟨_,_,by simp only[bR,e1],q⟩
def pK (Inv:Nat->Rho->Prop)(i:Nat)(Q:Fl->Rho->Prop):Fl->Rho->Prop
 | .nx,ρ=>Inv (i+1) ρ
 | .ct,ρ=>Inv (i+1) ρ
 | .bk,ρ=>Q .nx ρ
 | .rt t,ρ=>Q (.rt t) ρ
theorem oI {items:List R}(Inv:Nat->Rho->Prop)(hs:∀i r ρ,items[i]?=some r->Inv i ρ->WG g r ρ λρ1=>WS s1 ρ1 (pK Inv i Q))(he:∀ρ,Inv items.length ρ->Q .nx ρ):∀(l:List R) (i:Nat) (ρ:Rho),items.drop i=l->i<=items.length->Inv i ρ->W2 (eG g.run s1.run l ρ) Q
 | [],i,ρ,hl,hi,hI=>by
  have:i=items.length:=by have:=congrArg E9 hl;simp at this;omega
  subst this
  exact⟨_,_,rfl,he ρ hI⟩
 | r::l,i,ρ,hl,hi,hI=>by
  have hr:items[i]?=some r:=by rw[←Gz,hl];rfl
  have hlt:=(DR.mp hr).1
  have hl':items.drop (i+1)=l:=by rw[←GJ,hl];rfl
  obtain⟨ρ1,e1,f,ρ2,e2,q⟩:=hs i r ρ hr hI
  have k:=oI Inv hs he l (i+1) ρ2 hl' hlt
  simp only[eG,e1,e2]
  cases f with
  | nx=>exact k q
  | ct=>exact k q
  | bk=>exact⟨_,_,rfl,q⟩
  | rt t=>exact⟨_,_,rfl,q⟩
theorem uQ (h:WI it ρ λsrc items ρ1=>Gu (src.all (aC (g.mu++s1.mu))&&items.all (aC (g.mu++s1.mu))) (∃Inv:Nat->Rho->Prop,Inv 0 ρ1/\(∀i r ρ,items[i]?=some r->Inv i ρ->WG g r ρ λρ1=>WS s1 ρ1 (pK Inv i Q))/\∀ρ,Inv items.length ρ->Q .nx ρ)):WS (bS it g s1) ρ Q:=by
 obtain⟨src,items,ρ1,e1,al,Inv,h0,hs,he⟩:=h
 obtain⟨p,ρ2,e,q⟩:=oI (Q:=Q) Inv hs he items 0 ρ1 rfl (Ff _) h0
 exact⟨p,ρ2,by simp only[bS,e1];rw[if_pos al];exact e,q⟩
theorem kM {M:List Nat}{items:List R}(h:∀r∈items,r.k=.ow):items.all (aC M)=true:=EH.mpr λr hr=>by unfold aC cN;rw[h r hr];rfl
theorem A4 {i:Nat}(h:WA ms ρ λrs ρ1=>∃n:Int,rs.map (·.t)=[.im (.int n)]/\-(2^62)<=n/\n<2^62/\(∃Inv:Nat->Rho->Prop,Inv 0 ρ1/\(∀(j:Nat) ρ,(j:Int)<n->Inv j ρ->WG (ag i) (jw j) ρ λρ1=>WS s1 ρ1 (pK Inv j Q))/\∀ρ,Inv n.toNat ρ->Q .nx ρ)):WS (bS (aU ms) (ag i) s1) ρ Q:=by
 obtain⟨rs,ρ1,e1,n,e2,h1,h2,Inv,h0,hs,he⟩:=h
 refine uQ ⟨[nL],gr 0 n.toNat,ρ1,by simp only[aU,e1,e2,l1,isI];rw[if_pos ⟨h1,h2⟩],?_,Inv,h0,λj r ρ hr hI=>?_,λρ hI=>he ρ (by simpa[gr]using hI)⟩
 ·rw[DU]
  exact⟨rfl,kM λr hr=>by obtain⟨x,_,rfl⟩:=D4.mp hr;rfl⟩
 ·obtain⟨x,hx,rfl⟩:=aQ hr
  obtain⟨a1,a2⟩:=DR.mp hx
  simp at a1 a2
  subst a2
  have:=hs j ρ (by omega) hI
  rw[Hu]
  exact this
theorem xw {i:Nat}(h:WA ms ρ λrs ρ1=>∃m n:Int,rs.map (·.t)=[.im (.int m),.im (.int n)]/\(-(2^62)<=m/\m<2^62/\-(2^62)<=n/\n<2^62)/\(∃Inv:Nat->Rho->Prop,Inv 0 ρ1/\(∀(j:Nat) ρ,m+(j:Int)<n->Inv j ρ->WG (ag i) (jw (m+j)) ρ λρ1=>WS s1 ρ1 (pK Inv j Q))/\∀ρ,Inv (n-m).toNat ρ->Q .nx ρ)):WS (bS (fb ms) (ag i) s1) ρ Q:=by
 obtain⟨rs,ρ1,e1,m,n,e2,h1,Inv,h0,hs,he⟩:=h
 refine uQ ⟨[nL],gr m (n-m).toNat,ρ1,by simp only[fb,e1,e2,l2,l1,ii2,isI];rw[if_pos h1],?_,Inv,h0,λj r ρ hr hI=>?_,λρ hI=>he ρ (by simpa[gr]using hI)⟩
 ·rw[DU]
  exact⟨rfl,kM λr hr=>by obtain⟨x,_,rfl⟩:=D4.mp hr;rfl⟩
 ·obtain⟨x,hx,rfl⟩:=aQ hr
  obtain⟨a1,a2⟩:=DR.mp hx
  simp at a1 a2
  subst a2
  exact hs j ρ (by omega) hI
theorem A3 (h:WE m ρ λr ρ1=>∃is:List I,eH r=some (is.map λi=>⟨.ow,.im i⟩)/\aC (g.mu++s1.mu) r=true/\(∃Inv:Nat->Rho->Prop,Inv 0 ρ1/\(∀j x ρ,is[j]?=some x->Inv j ρ->WG g ⟨.ow,.im x⟩ ρ λρ1=>WS s1 ρ1 (pK Inv j Q))/\∀ρ,Inv is.length ρ->Q .nx ρ)):WS (bS (mIt m) g s1) ρ Q:=by
 obtain⟨r,ρ1,e1,is,e2,al,Inv,h0,hs,he⟩:=h
 refine uQ ⟨[r],is.map (λi=>⟨.ow,.im i⟩),ρ1,by simp only[mIt,e1,e2],?_,Inv,h0,λj r ρ hr hI=>?_,λρ hI=>he ρ (by simpa using hI)⟩
 ·rw[DU]
  exact⟨by rw[E6,F3,al];rfl,kM λr hr=>by obtain⟨x,_,rfl⟩:=D4.mp hr;rfl⟩
 ·obtain⟨x,hx,rfl⟩:=aQ hr
  exact hs j x ρ hx hI
theorem xx (Inv:Nat->Rho->Prop)(n:Nat)(h0:Inv n ρ) (hs:∀n ρ,Inv n ρ->WT ct ρ λbb ρ1=>(bb=false->Q .nx ρ1)/\(bb=true->WS s1 ρ1 λf ρ2=>match f with
  | .nx=>∃m,m<n/\Inv m ρ2
  | .ct=>∃m,m<n/\Inv m ρ2
  | .bk=>Q .nx ρ2
  | .rt t=>Q (.rt t) ρ2)):WS (eJ ct s1) ρ Q:=by
 have key:∀n ρ,Inv n ρ->W2 (itW ct s1 (n+1) ρ) Q:=by
  intro n
  induction n using Nat.strongRecOn with
  | _ n ih=>
   intro ρ hI
   obtain⟨bb,ρ1,e1,q1,q2⟩:=hs n ρ hI
   cases bb with
   | false=>exact⟨.nx,ρ1,by simp only[itW,e1],q1 rfl⟩
   | true=>
    obtain⟨f,ρ2,e2,q⟩:=q2 rfl
    cases f with
    | nx=>
     obtain⟨m,hm,hI'⟩:=q
     obtain⟨p,ρ3,e,q⟩:=ih m hm ρ2 hI'
     exact⟨p,ρ3,by simp only[itW,e1,e2];exact ee e _ (by omega),q⟩
    | ct=>
     obtain⟨m,hm,hI'⟩:=q
     obtain⟨p,ρ3,e,q⟩:=ih m hm ρ2 hI'
     exact⟨p,ρ3,by simp only[itW,e1,e2];exact ee e _ (by omega),q⟩
    | bk=>exact⟨.nx,ρ2,by simp only[itW,e1,e2],q⟩
    | rt t=>exact⟨.rt t,ρ2,by simp only[itW,e1,e2],q⟩
 obtain⟨p,ρ3,e,q⟩:=key n ρ h0
 exact⟨p,ρ3,qX e,q⟩
theorem gD {fr:List (Option Nat)}{M:List Nat}{items:List R}{QC:List T->Rho->Prop}(Inv:Nat->List T->Rho->Prop)
  (hs:∀i r acc ρ,items[i]?=some r->Inv i acc ρ->WG g (gW (piF fr) r) (inR fr ρ) λρ1=>WT ct ρ1 λbb ρ2=>(bb=true->WE m ρ2 λr ρ3=>∃t,r=⟨.ow,t⟩/\Inv (i+1) (acc++[t]) (cw fr M ρ3 ρ))/\(bb=false->Inv (i+1) acc (cw fr M ρ2 ρ)))
  (he:∀acc ρ,Inv items.length acc ρ->QC acc ρ):∀(l:List R) (i:Nat) (acc:List T) (ρ:Rho),items.drop i=l->i<=items.length->Inv i acc ρ->W2 (bh fr M g ct m l ρ acc) QC
 | [],i,acc,ρ,hl,hi,hI=>by
  have:i=items.length:=by have:=congrArg E9 hl;simp at this;omega
  subst this
  exact⟨_,_,rfl,he acc ρ hI⟩
 | r::l,i,acc,ρ,hl,hi,hI=>by
  have hr:items[i]?=some r:=by rw[←Gz,hl];rfl
  have hlt:=(DR.mp hr).1
  have hl':items.drop (i+1)=l:=by rw[←GJ,hl];rfl
  obtain⟨ρ1,e1,bb,ρ2,e2,q1,q2⟩:=hs i r acc ρ hr hI
  cases bb with
  | true=>
   obtain⟨r',ρ3,e3,t,rfl,q⟩:=q1 rfl
   simp only[bh,e1,e2,e3]
   exact gD Inv hs he l (i+1) _ _ hl' hlt q
  | false=>
   simp only[bh,e1,e2]
   exact gD Inv hs he l (i+1) _ _ hl' hlt (q2 rfl)
theorem lI {fr:List (Option Nat)} (h:WI it ρ λsrc items ρ1=>Gu (cQ fr ρ1.length&&cO (g.mu++(ct.mu++m.mu)) fr.length&&src.all (aC (muF fr (g.mu++(ct.mu++m.mu))))) (items.length<sizeLine/\∃Inv:Nat->List T->Rho->Prop,Inv 0 [] ρ1 ∧
  (∀i r acc ρ,items[i]?=some r->Inv i acc ρ->WG g (gW (piF fr) r) (inR fr ρ) λρ1=>WT ct ρ1 λbb ρ2=>(bb=true->WE m ρ2 λr ρ3=>∃t,r=⟨.ow,t⟩/\Inv (i+1) (acc++[t]) (cw fr (g.mu++(ct.mu++m.mu)) ρ3 ρ))/\(bb=false->Inv (i+1) acc (cw fr (g.mu++(ct.mu++m.mu)) ρ2 ρ))) ∧
  ∀acc ρ,Inv items.length acc ρ->QE' ⟨.ow,bu acc⟩ ρ)):WE (aV fr it g ct m) ρ QE':=by
 obtain⟨src,items,ρ1,e1,al,hl,Inv,h0,hs,he⟩:=h
 obtain⟨ts,ρ2,e,q⟩:=gD (QC:=λacc ρ=>QE' ⟨.ow,bu acc⟩ ρ) Inv hs he items 0 [] ρ1 rfl (Ff _) h0
 refine⟨⟨.ow,bu ts⟩,ρ2,?_,q⟩
 simp only[aV,e1]
 rw[if_pos (by rw[DU];exact⟨al,decide_eq_true hl⟩)]
 simp only[e]
theorem xD {QI':List R->List R->Rho->Prop}(h:WA ms ρ λrs ρ1=>∃n:Int,rs.map (·.t)=[.im (.int n)]/\(-(2^62)<=n/\n<2^62)/\QI' [nL] (gr 0 n.toNat) ρ1):WI (aU ms) ρ QI':=by
 obtain⟨rs,ρ1,e1,n,e2,h1,q⟩:=h
 exact⟨_,_,_,by simp only[aU,e1,e2,l1,isI];rw[if_pos h1],q⟩
theorem xE {QI':List R->List R->Rho->Prop}(h:WA ms ρ λrs ρ1=>∃m n:Int,rs.map (·.t)=[.im (.int m),.im (.int n)]/\(-(2^62)<=m/\m<2^62/\-(2^62)<=n/\n<2^62)/\QI' [nL] (gr m (n-m).toNat) ρ1):WI (fb ms) ρ QI':=by
 obtain⟨rs,ρ1,e1,m,n,e2,h1,q⟩:=h
 exact⟨_,_,_,by simp only[fb,e1,e2,l2,l1,ii2,isI];rw[if_pos h1],q⟩
theorem oa {QI':List R->List R->Rho->Prop}(h:WE m ρ λr ρ1=>W1 (eH r) λrs=>QI' [r] rs ρ1):WI (mIt m) ρ QI':=by
 obtain⟨r,ρ1,e1,rs,e2,q⟩:=h
 exact⟨[r],rs,ρ1,by simp only[mIt,e1,e2],q⟩
end
section
variable  {α β:Type}{ρ:Rho}{QT1:T->Prop}{QR:R->Prop}{QI1:T->I->Prop}{m:MS}{n k:Nat}{ts:List T}
@[irreducible] def fP (R:T->Prop):Fl->Rho->Prop
 | .rt t,_=>R t
 | .nx,_=>R (.im .non)
 | _,_=>False
@[irreducible] def fI (k:Nat)(R:T->T->Prop):Fl->Rho->Prop
 | .rt t,ρ=>∃s',ρ[k]?=some (some ⟨.io 0,s'⟩)/\R t s'
 | .nx,ρ=>∃s',ρ[k]?=some (some ⟨.io 0,s'⟩)/\R (.im .non) s'
 | _,_=>False
theorem o6 {run:List T->Option T}{l:Nat}(hrun:run ts=if ts.length=l then dv m n ts else none)(hl:ts.length=l)(h:WS m (cx ts n) (fP QT1)):W1 (run ts) QT1:=by with_unfolding_all
 rw[hrun,if_pos hl]
 obtain⟨f,ρ,e,q⟩:=h
 cases f with
 | nx=>exact⟨_,by simp only[dv,e],q⟩
 | rt t=>exact⟨_,by simp only[dv,e],q⟩
 | bk=>cases q
 | ct=>cases q
theorem f7 {run:List T->Option (T×T)}{l:Nat}{Q2:T->T->Prop}(hrun:run ts=if ts.length=l then dM m k n ts else none)(hl:ts.length=l)(h:WS m (eM k ts n) (fI k Q2)):W2 (run ts) Q2:=by with_unfolding_all
 rw[hrun,if_pos hl]
 obtain⟨f,ρ,e,q⟩:=h
 cases f with
 | nx=>have q:∃s',ρ[k]?=some (some ⟨.io 0,s'⟩)/\Q2 (.im .non) s':=q;obtain⟨s',e2,q⟩:=q;exact⟨_,_,by simp only[dM,e,e2],q⟩
 | rt t=>have q:∃s',ρ[k]?=some (some ⟨.io 0,s'⟩)/\Q2 t s':=q;obtain⟨s',e2,q⟩:=q;exact⟨_,_,by simp only[dM,e,e2],q⟩
 | bk=>cases q
 | ct=>cases q
variable  {a b:Int}{s z:Str}{is js:List I}{i j:I}
theorem zt (q:QT1 (.im (.int (a+b)))):W1 (bd (.im (.int a)) (.im (.int b))) QT1:=by with_unfolding_all exact⟨_,rfl,q⟩
theorem ll (h:s.length+z.length<=sizeLine)(q:QT1 (.im (.str (s++z)))):W1 (bd (.im (.str s)) (.im (.str z))) QT1:=by with_unfolding_all exact⟨_,if_pos h,q⟩
theorem jr (h:is.length+js.length<=sizeLine)(q:QT1 (.li (is++js))):W1 (bd (.li is) (.li js)) QT1:=by with_unfolding_all exact⟨_,if_pos h,q⟩
theorem B5 (q:QT1 (.im (.int (a-b)))):W1 (bJ (.im (.int a)) (.im (.int b))) QT1:=by with_unfolding_all exact⟨_,rfl,q⟩
theorem vJ (h1 : -(2^64)<a)(h2:a<2^64):iK a b=true:=by unfold iK;simp only[h1,h2,decide_true,FD,Hs]
theorem DA (h1 : -(2^64)<b)(h2:b<2^64):iK a b=true:=by unfold iK;simp only[h1,h2,decide_true,FD,Bool.or_true]
theorem mq (h:iK a b=true)(q:QT1 (.im (.int (a*b)))):W1 (cX (.im (.int a)) (.im (.int b))) QT1:=by with_unfolding_all exact⟨_,if_pos h,q⟩
theorem sB (h:is≠[]/\is.length<=1000/\1<=b/\b<=1000)(q:QT1 (.im (.tup (DV b.toNat is).flatten))):W1 (cX (.im (.tup is)) (.im (.int b))) QT1:=by with_unfolding_all exact⟨_,if_pos h,q⟩
theorem sA (h : -(2^63)<=b/\b<2^63/\is.length*b.toNat<=sizeLine)(q:QT1 (.li (DV b.toNat is).flatten)):W1 (cX (.li is) (.im (.int b))) QT1:=by with_unfolding_all exact⟨_,if_pos h,q⟩
theorem zw (h:0<b/\b<2^64)(q:QT1 (.im (.int (a / b)))):W1 (gF (.im (.int a)) (.im (.int b))) QT1:=by with_unfolding_all exact⟨_,if_pos h,q⟩
theorem sy (h:0<b)(q:QT1 (.im (.int (a % b)))):W1 (fq (.im (.int a)) (.im (.int b))) QT1:=by with_unfolding_all exact⟨_,if_pos h,q⟩
theorem xV (h:0<=b/\b<=1000000/\a.natAbs<2^64)(q:QT1 (.im (.int (a^b.toNat)))):W1 (qj (.im (.int a)) (.im (.int b))) QT1:=by with_unfolding_all exact⟨_,if_pos h,q⟩
theorem BR {p:Int->Int->Bool}(q:QT1 (.im (.bl (p a b)))):W1 (ge p (.im (.int a)) (.im (.int b))) QT1:=by with_unfolding_all exact⟨_,rfl,q⟩
theorem BT (q:QT1 (.im (.bl (decide (a=b))))):W1 (eqT (.im (.int a)) (.im (.int b))) QT1:=by with_unfolding_all exact⟨_,rfl,by simpa using q⟩
theorem BV (q:QT1 (.im (.bl (decide (s=z))))):W1 (eqT (.im (.str s)) (.im (.str z))) QT1:=by with_unfolding_all exact⟨_,rfl,by simpa using q⟩
theorem B1 (q:QT1 (.im (.bl (!decide (s=z))))):W1 (neT (.im (.str s)) (.im (.str z))) QT1:=by with_unfolding_all exact⟨_,rfl,by simpa using q⟩
theorem BU (h:I.doks is=true/\I.doks js=true/\I.deps is<=50)(q:QT1 (.im (.bl (decide (is=js))))):W1 (eqT (.li is) (.li js)) QT1:=⟨_,by simp only[eqT,eqB];rw[if_pos h];rfl,q⟩
theorem BD (h:i.dok=true/\I.doks is=true/\I.deps is<=50):inB (.im i) (.im (.tup is))=some (decide (i∈is)):=by cases i<;>exact if_pos h
theorem BW (h:i.dok=true/\I.doks is=true/\I.deps is<=50)(q:QT1 (.im (.bl (decide (i∈is))))):W1 (inT (.im i) (.im (.tup is))) QT1:=⟨_,by unfold inT;rw[BD h];rfl,q⟩
theorem BC (h:i.dok=true/\I.doks is=true/\I.deps is<=50):inB (.im i) (.li is)=some (decide (i∈is)):=by cases i<;>exact if_pos h
theorem sC (h:i.dok=true/\I.doks is=true/\I.deps is<=50)(q:QT1 (.im (.bl (!decide (i∈is))))):W1 (nD (.im i) (.li is)) QT1:=⟨_,by unfold nD;rw[BC h];rfl,q⟩
theorem zB (h:s.length<=sizeLine)(q:QT1 (.im (.int s.length))):W1 (cC [.im (.str s)]) QT1:=by with_unfolding_all exact⟨_,if_pos h,q⟩
theorem zC (q:QT1 (.im (.int is.length))):W1 (cC [.im (.tup is)]) QT1:=by with_unfolding_all exact⟨_,rfl,q⟩
theorem zA (q:QT1 (.im (.int is.length))):W1 (cC [.li is]) QT1:=by with_unfolding_all exact⟨_,rfl,q⟩
theorem vT {us:List T}(q:QT1 (.im (.int us.length))):W1 (cC [.lst us]) QT1:=by with_unfolding_all exact⟨_,rfl,q⟩
theorem BZ (q:QT1 (.im (.int (if b<a then b else a)))):W1 (nA [.im (.int a),.im (.int b)]) QT1:=by with_unfolding_all exact⟨_,rfl,q⟩
theorem BY (q:QT1 (.im (.int (if b>a then b else a)))):W1 (l8 [.im (.int a),.im (.int b)]) QT1:=by with_unfolding_all exact⟨_,rfl,q⟩
theorem zx {c:Bool}(q:QT1 (.im (.int (if c then 1 else 0)))):W1 (pQ [.im (.bl c)]) QT1:=by with_unfolding_all exact⟨_,rfl,q⟩
theorem zH (q:QT1 (.im (.tup is))):W1 (g8 [.li is]) QT1:=by with_unfolding_all exact⟨_,rfl,q⟩
theorem zD (q:QT1 (.li is)):W1 (r8 [.li is]) QT1:=by with_unfolding_all exact⟨_,rfl,q⟩
theorem B3 (q:QT1 (.im (.tup is.reverse))):W1 (uq (.im (.tup is))) QT1:=by with_unfolding_all exact⟨_,rfl,q⟩
theorem yy {xs:List α}{x : α}{n:Nat}{i:Int}(hi:i=n)(h:xs[n]?=some x):atI xs i=some x:=by
 subst hi
 have:=(DR.mp h).1
 unfold atI ixN
 rw[if_pos (by omega),if_pos (by omega)]
 simpa using h
theorem m7 {xs:List α}{i:Int}(h0:0<=i)(h1:i<xs.length):∃x,atI xs i=some x/\xs[i.toNat]?=some x:=by
 have:i.toNat<xs.length:=by omega
 exact⟨xs[i.toNat],yy (n:=i.toNat) (by omega) (Eh this),Eh this⟩
theorem xU {kd:Kd}{x:I}(h:atI is a=some x)(q:QR ⟨.ow,.im x⟩):W1 (ixR ⟨kd,.im (.tup is)⟩ (.im (.int a))) QR:=⟨_,by simp only[ixR,isI,ixX,ixI,h,FG],q⟩
theorem xT {kd:Kd}{x:I}(h:atI is a=some x)(q:QR ⟨.ow,.im x⟩):W1 (ixR ⟨kd,.li is⟩ (.im (.int a))) QR:=⟨_,by simp only[ixR,isI,ixX,ixI,h,FG],q⟩
theorem sw {kd:Kd}(h0:0<=a)(h1:a<is.length)(q:∀x,is[a.toNat]?=some x->QR ⟨.ow,.im x⟩):W1 (ixR ⟨kd,.im (.tup is)⟩ (.im (.int a))) QR:=by
 obtain⟨x,h,h'⟩:=m7 h0 h1
 exact xU h (q x h')
theorem nH {kd:Kd}(h0:0<=a)(h1:a<is.length)(q:∀x,is[a.toNat]?=some x->QR ⟨.ow,.im x⟩):W1 (ixR ⟨kd,.li is⟩ (.im (.int a))) QR:=by
 obtain⟨x,h,h'⟩:=m7 h0 h1
 exact xT h (q x h')
theorem sv {kd:Kd}(hz:s.length<=sizeLine)(h0:0<=a)(h1:a<(sL s).length)(q:∀c,(sL s)[a.toNat]?=some c->QR ⟨.ow,.im (.str ⟨#[c]⟩)⟩):W1 (ixR ⟨kd,.im (.str s)⟩ (.im (.int a))) QR:=by
 obtain⟨x,h,h'⟩:=m7 h0 h1
 exact⟨_,by simp only[ixR,isI,ixX,ixI,if_pos hz,h,FG],q x h'⟩
theorem nF {ro:Option Nat}{p:Option (List Ac)}{us:List T}{u:T}(h0:0<=a)(h1:us[a.toNat]?=some u)(hu:∀i,u ≠ .im i){kd:Kd}(hk:ixK (.vw ro p) (some (.ix a.toNat))=some kd)(q:QR ⟨kd,u⟩):W1 (ixR ⟨.vw ro p,.lst us⟩ (.im (.int a))) QR:=by
 have hl:=(DR.mp h1).1
 refine⟨⟨kd,u⟩,?_,q⟩
 unfold ixR
 have:ixN us.length a=some a.toNat:=by unfold ixN;rw[if_pos h0,if_pos (by omega)]
 simp only[isI,ixX,this,h1,Option.bind_some]
 cases u with
 | im i=>exact absurd rfl (hu i)
 | _=>simp only[ixP,hk]
theorem sE {n:Nat}(ha:a=n)(h:n<is.length)(q:QT1 (.li (is.set n i))):W1 (uw (.li is) (.im (.int a)) (.im i)) QT1:=by
 subst ha
 refine⟨_,?_,q⟩
 unfold uw
 have:ixN is.length (n:Int)=some n:=by unfold ixN;rw[if_pos (by omega),if_pos (by omega)];simp
 simp only[this]
theorem cG (h:is.length<sizeLine)(q:QI1 (.li (is++[i])) .non):W2 (apT (.li is) [.im i]) QI1:=by with_unfolding_all exact⟨_,_,if_pos h,q⟩
theorem sr (h:is.length+js.length<=sizeLine)(q:QI1 (.li (is++js)) .non):W2 (kZ (.li is) [.li js]) QI1:=by with_unfolding_all exact⟨_,_,if_pos h,q⟩
theorem zv (h:is.length+js.length<=sizeLine)(q:QI1 (.li (is++js)) .non):W2 (kZ (.li is) [.im (.tup js)]) QI1:=by with_unfolding_all exact⟨_,_,if_pos h,q⟩
theorem B2 (q:QI1 (.li is) i):W2 (mr (.li (is++[i])) []) QI1:=⟨_,_,by simp[mr],q⟩
theorem xS (h:0<=a/\a<=is.length/\is.length<sizeLine)(q:QI1 (.li (is.take a.toNat++i::is.drop a.toNat)) .non):W2 (lc (.li is) [.im (.int a),.im i]) QI1:=by with_unfolding_all exact⟨_,_,if_pos h,q⟩
theorem B4 {kd:Kd}{lo hi:Option Int}(q:QR ⟨.ow,.li (cu is lo hi)⟩):W1 (slR ⟨kd,.li is⟩ lo hi) QR:=⟨_,by simp only[slR,slX,slI,slX],q⟩
theorem oU {kd:Kd}{lo hi:Option Int}(h:¬(HT.sIx is.length 0 lo=0/\HT.sIx is.length is.length hi=is.length))(q:QR ⟨.ow,.im (.tup (cu is lo hi))⟩):W1 (slR ⟨kd,.im (.tup is)⟩ lo hi) QR:=⟨_,by simp only[slR,slX,slI,slX];rw[if_neg h],q⟩
theorem xW {kd:Kd}{lo hi:Option Int}(h:s.length<=sizeLine)(q:QR ⟨.ow,.im (.str (oL (cu (sL s) lo hi)))⟩):W1 (slR ⟨kd,.im (.str s)⟩ lo hi) QR:=⟨_,by simp only[slR,slX,slI,slX];rw[if_pos h],q⟩
theorem zE {t:T}{Q2:T->Rho->Prop}(q:Q2 t ρ):W2 (qK ⟨.ow,t⟩ ρ) Q2:=by with_unfolding_all exact⟨_,_,rfl,q⟩
theorem zF {t t':T}{n:Nat}{Q2:T->Rho->Prop}(h : ρ[n]?=some (some ⟨.ow,t'⟩))(q:Q2 t ((ao [n] ρ).set n none)):W2 (qK ⟨.vw (some n) (some []),t⟩ ρ) Q2:=⟨_,_,by simp only[qK,h],q⟩
theorem nh {mv:List Nat}{Q2:List T->Rho->Prop}(q:Q2 [] ρ):W2 (consL mv [] ρ) Q2:=⟨_,_,rfl,q⟩
theorem oo {mv:List Nat}{t:T}{rs:List R}{Q2:List T->Rho->Prop}(h:W2 (consL mv rs ρ) λts ρ'=>Q2 (t::ts) ρ'):W2 (consL mv (⟨.ow,t⟩::rs) ρ) Q2:=by
 obtain⟨ts,ρ',e,q⟩:=h
 exact⟨t::ts,ρ',by simp only[consL,e],q⟩
theorem me {is:List I}:bu (is.map T.im)=.li is:=by
 have:ims (is.map T.im)=some is:=by induction is with
  | nil=>rfl
  | cons i is ih=>simp only[DS,ims,ih,FG]
 unfold bu;rw[this]
end
theorem dsp {p:Prop}[Decidable p]{A B:Prop}(h1:p->A)(h2:¬p->B):(decide p=true->A)/\(decide p=false->B):=⟨λh=>h1 (of_decide_eq_true h),λh=>h2 (of_decide_eq_false h)⟩
theorem Du {p:Prop}[Decidable p]{A B:Prop}(h1:¬p->A)(h2:p->B):((!decide p)=true->A)/\((!decide p)=false->B):=⟨λh=>h1 (by simpa using h),λh=>h2 (by simpa using h)⟩
theorem bsp {b:Bool}{A B:Prop}(h1:b=true->A)(h2:b=false->B):(b=true->A)/\(b=false->B):=⟨h1,h2⟩
theorem spT {A B:Prop}(h:A):(true=true->A)/\(true=false->B):=⟨λ_=>h,λz=>absurd z (by decide)⟩
theorem spF {A B:Prop}(h:B):(false=true->A)/\(false=false->B):=⟨λz=>absurd z (by decide),λ_=>h⟩
section
variable  {ρ:Rho}{m:ME}{ms:MA}{g:MG}{ct:MT}{QE':R->Rho->Prop}
theorem pv {i:Nat}{fr:List (Option Nat)} (h:WA ms ρ λrs ρ1=>∃n:Int,rs.map (·.t)=[.im (.int n)]/\(-(2^62)<=n/\n<16000000)/\Gu (cQ fr ρ1.length&&cO ([i]++([]++m.mu)) fr.length) (∃Inv:Nat->List T->Rho->Prop,Inv 0 [] ρ1 ∧
  (∀(j:Nat) acc ρ,(j:Int)<n->Inv j acc ρ->WG (ag i) (jw j) (inR fr ρ) λρ1=>WE m ρ1 λr ρ3=>∃t,r=⟨.ow,t⟩/\Inv (j+1) (acc++[t]) (cw fr ([i]++([]++m.mu)) ρ3 ρ)) ∧
  ∀acc ρ,Inv n.toNat acc ρ->QE' ⟨.ow,bu acc⟩ ρ)):WE (aV fr (aU ms) (ag i) mYes m) ρ QE':=by with_unfolding_all
 obtain⟨rs,ρ1,e1,n,e2,h1,al,Inv,h0,hs,he⟩:=h
 refine lI (xD ⟨rs,ρ1,e1,n,e2,⟨h1.1,by omega⟩,?_,?_,Inv,h0,λj r acc ρ hr hI=>?_,λacc ρ hI=>he acc ρ (by simpa[gr]using hI)⟩)
 ·rw[DU]at al⊢
  rw[DU]
  exact⟨⟨al.1,al.2⟩,rfl⟩
 ·rw[sizeLine_eq];simp[gr];omega
 ·obtain⟨x,hx,rfl⟩:=aQ hr
  obtain⟨a1,a2⟩:=DR.mp hx
  simp at a1 a2
  subst a2
  have:=hs j acc ρ (by omega) hI
  rw[Hu]
  refine WG.mono this λρ1 q=>iE ⟨λ_=>q,λz=>by cases z⟩
theorem uO {i:Nat}{fr:List (Option Nat)} (h:WA ms ρ λrs ρ1=>∃a n:Int,rs.map (·.t)=[.im (.int a),.im (.int n)]/\(-(2^62)<=a/\a<2^62/\-(2^62)<=n/\n<2^62/\n-a<16000000)/\Gu (cQ fr ρ1.length&&cO ([i]++([]++m.mu)) fr.length) (∃Inv:Nat->List T->Rho->Prop,Inv 0 [] ρ1 ∧
  (∀(j:Nat) acc ρ,a+(j:Int)<n->Inv j acc ρ->WG (ag i) (jw (a+j)) (inR fr ρ) λρ1=>WE m ρ1 λr ρ3=>∃t,r=⟨.ow,t⟩/\Inv (j+1) (acc++[t]) (cw fr ([i]++([]++m.mu)) ρ3 ρ)) ∧
  ∀acc ρ,Inv (n-a).toNat acc ρ->QE' ⟨.ow,bu acc⟩ ρ)):WE (aV fr (fb ms) (ag i) mYes m) ρ QE':=by with_unfolding_all
 obtain⟨rs,ρ1,e1,a,n,e2,h1,al,Inv,h0,hs,he⟩:=h
 refine lI (xE ⟨rs,ρ1,e1,a,n,e2,⟨h1.1,h1.2.1,h1.2.2.1,h1.2.2.2.1⟩,?_,?_,Inv,h0,λj r acc ρ hr hI=>?_,λacc ρ hI=>he acc ρ (by simpa[gr]using hI)⟩)
 ·rw[DU]at al⊢
  rw[DU]
  exact⟨⟨al.1,al.2⟩,rfl⟩
 ·rw[sizeLine_eq];simp[gr];omega
 ·obtain⟨x,hx,rfl⟩:=aQ hr
  obtain⟨a1,a2⟩:=DR.mp hx
  simp at a1 a2
  subst a2
  have:=hs j acc ρ (by omega) hI
  refine WG.mono this λρ1 q=>iE ⟨λ_=>q,λz=>by cases z⟩
theorem pk {fr:List (Option Nat)}{ma:ME} (h:WE ma ρ λr ρ1=>∃is:List I,eH r=some (is.map λi=>⟨.ow,.im i⟩)/\is.length<sizeLine/\Gu (cQ fr ρ1.length&&cO (g.mu++(ct.mu++m.mu)) fr.length&&aC (muF fr (g.mu++(ct.mu++m.mu))) r) (∃Inv:Nat->List T->Rho->Prop,Inv 0 [] ρ1 ∧
  (∀(j:Nat) x acc ρ,is[j]?=some x->Inv j acc ρ->WG g ⟨.ow,.im x⟩ (inR fr ρ) λρ1=>WT ct ρ1 λbb ρ2=>(bb=true->WE m ρ2 λr ρ3=>∃t,r=⟨.ow,t⟩/\Inv (j+1) (acc++[t]) (cw fr (g.mu++(ct.mu++m.mu)) ρ3 ρ))/\(bb=false->Inv (j+1) acc (cw fr (g.mu++(ct.mu++m.mu)) ρ2 ρ))) ∧
  ∀acc ρ,Inv is.length acc ρ->QE' ⟨.ow,bu acc⟩ ρ)):WE (aV fr (mIt ma) g ct m) ρ QE':=by
 obtain⟨r,ρ1,e1,is,e2,hl,al,Inv,h0,hs,he⟩:=h
 refine lI (oa ⟨r,ρ1,e1,_,e2,(by rw[E6,F3,Gc];exact al),by simpa using hl,Inv,h0,λj r acc ρ hr hI=>?_,λacc ρ hI=>he acc ρ (by simpa using hI)⟩)
 obtain⟨x,hx,rfl⟩:=aQ hr
 exact hs j x acc ρ hx hI
end
theorem ef {α:Type}{f : α->I}{l:List α}:bu (l.map λx=>T.im (f x))=.li (l.map f):=by
 have:=me (is:=l.map f)
 rwa [Eo]at this
section
variable  {S α:Type}{ρ:Rho}{m:ME}{ms:MA}{g:MG}{ct:MT}{s1:MS}{QE':R->Rho->Prop}{Q:Fl->Rho->Prop}{fr:List (Option Nat)}{i:Nat}
theorem bK (st:S->Rho)(emb : α->I)(P:Nat->S->List α->Prop) (h:WA ms ρ λrs ρ1=>Int1 rs λn=>(-(2^62)<=n/\n<16000000)/\(cQ fr ρ1.length&&cO ([i]++([]++m.mu)) fr.length)=true/\∃s0,ρ1=st s0/\P 0 s0 [] ∧
  (∀(j:Nat) s l,(j:Int)<n->P j s l->WG (ag i) (jw j) (inR fr (st s)) λρ1=>WE m ρ1 λr ρ3=>∃x s',r=⟨.ow,.im (emb x)⟩/\cw fr ([i]++([]++m.mu)) ρ3 (st s)=st s'/\P (j+1) s' (l++[x])) ∧
  ∀s l,P n.toNat s l->QE' ⟨.ow,.li (l.map emb)⟩ (st s)):WE (aV fr (aU ms) (ag i) mYes m) ρ QE':=by
 obtain⟨rs,ρ1,e1,n,e2,h1,al,s0,rfl,h0,hs,he⟩:=h
 refine pv ⟨rs,_,e1,n,e2,h1,al,λj acc ρ=>∃s l,acc=l.map (λx=>T.im (emb x))/\ρ=st s/\P j s l,⟨s0,[],rfl,rfl,h0⟩,?_,?_⟩
 ·rintro j acc ρ hj ⟨s,l,rfl,rfl,hP⟩
  refine(hs j s l hj hP).mono λρ1 q=>q.mono λr ρ3 ⟨x,s',e,e',hP'⟩=>⟨_,e,s',l++[x],by simp,e',hP'⟩
 ·rintro acc ρ ⟨s,l,rfl,rfl,hP⟩
  rw[ef]
  exact he s l hP
theorem qW (st:S->Rho)(emb : α->I)(P:Nat->S->List α->Prop) (h:WA ms ρ λrs ρ1=>Int2 rs λa n=>(-(2^62)<=a/\a<2^62/\-(2^62)<=n/\n<2^62/\n-a<16000000)/\(cQ fr ρ1.length&&cO ([i]++([]++m.mu)) fr.length)=true/\∃s0,ρ1=st s0/\P 0 s0 [] ∧
  (∀(j:Nat) s l,a+(j:Int)<n->P j s l->WG (ag i) (jw (a+j)) (inR fr (st s)) λρ1=>WE m ρ1 λr ρ3=>∃x s',r=⟨.ow,.im (emb x)⟩/\cw fr ([i]++([]++m.mu)) ρ3 (st s)=st s'/\P (j+1) s' (l++[x])) ∧
  ∀s l,P (n-a).toNat s l->QE' ⟨.ow,.li (l.map emb)⟩ (st s)):WE (aV fr (fb ms) (ag i) mYes m) ρ QE':=by
 obtain⟨rs,ρ1,e1,a,n,e2,h1,al,s0,rfl,h0,hs,he⟩:=h
 refine uO ⟨rs,_,e1,a,n,e2,h1,al,λj acc ρ=>∃s l,acc=l.map (λx=>T.im (emb x))/\ρ=st s/\P j s l,⟨s0,[],rfl,rfl,h0⟩,?_,?_⟩
 ·rintro j acc ρ hj ⟨s,l,rfl,rfl,hP⟩
  refine(hs j s l hj hP).mono λρ1 q=>q.mono λr ρ3 ⟨x,s',e,e',hP'⟩=>⟨_,e,s',l++[x],by simp,e',hP'⟩
 ·rintro acc ρ ⟨s,l,rfl,rfl,hP⟩
  rw[ef]
  exact he s l hP
theorem jI (st:S->Rho)(emb : α->I)(P:Nat->S->List α->Prop){ma:ME} (h:WE ma ρ λr ρ1=>∃is:List I,eH r=some (is.map λi=>⟨.ow,.im i⟩)/\is.length<sizeLine/\(cQ fr ρ1.length&&cO (g.mu++([]++m.mu)) fr.length&&aC (muF fr (g.mu++([]++m.mu))) r)=true/\∃s0,ρ1=st s0/\P 0 s0 [] ∧
  (∀(j:Nat) x s l,is[j]?=some x->P j s l->WG g ⟨.ow,.im x⟩ (inR fr (st s)) λρ1=>WE m ρ1 λr ρ3=>∃x s',r=⟨.ow,.im (emb x)⟩/\cw fr (g.mu++([]++m.mu)) ρ3 (st s)=st s'/\P (j+1) s' (l++[x])) ∧
  ∀s l,P is.length s l->QE' ⟨.ow,.li (l.map emb)⟩ (st s)):WE (aV fr (mIt ma) g mYes m) ρ QE':=by with_unfolding_all
 obtain⟨r,ρ1,e1,is,e2,hl,al,s0,rfl,h0,hs,he⟩:=h
 refine pk ⟨r,_,e1,is,e2,hl,al,λj acc ρ=>∃s l,acc=l.map (λx=>T.im (emb x))/\ρ=st s/\P j s l,⟨s0,[],rfl,rfl,h0⟩,?_,?_⟩
 ·rintro j x acc ρ hj ⟨s,l,rfl,rfl,hP⟩
  refine(hs j x s l hj hP).mono λρ1 q=>iE ⟨λ_=>q.mono λr ρ3 ⟨x,s',e,e',hP'⟩=>⟨_,e,s',l++[x],by simp,e',hP'⟩,λz=>by cases z⟩
 ·rintro acc ρ ⟨s,l,rfl,rfl,hP⟩
  rw[ef]
  exact he s l hP
theorem uN (st:S->Rho)(emb : α->I)(P:Nat->S->List α->Prop){ma:ME} (h:WE ma ρ λr ρ1=>∃is:List I,eH r=some (is.map λi=>⟨.ow,.im i⟩)/\is.length<sizeLine/\(cQ fr ρ1.length&&cO (g.mu++(ct.mu++m.mu)) fr.length&&aC (muF fr (g.mu++(ct.mu++m.mu))) r)=true/\∃s0,ρ1=st s0/\P 0 s0 [] ∧
  (∀(j:Nat) x s l,is[j]?=some x->P j s l->WG g ⟨.ow,.im x⟩ (inR fr (st s)) λρ1=>WT ct ρ1 λbb ρ2=>(bb=true->WE m ρ2 λr ρ3=>∃x s',r=⟨.ow,.im (emb x)⟩/\cw fr (g.mu++(ct.mu++m.mu)) ρ3 (st s)=st s'/\P (j+1) s' (l++[x]))/\(bb=false->∃s',cw fr (g.mu++(ct.mu++m.mu)) ρ2 (st s)=st s'/\P (j+1) s' l)) ∧
  ∀s l,P is.length s l->QE' ⟨.ow,.li (l.map emb)⟩ (st s)):WE (aV fr (mIt ma) g ct m) ρ QE':=by
 obtain⟨r,ρ1,e1,is,e2,hl,al,s0,rfl,h0,hs,he⟩:=h
 refine pk ⟨r,_,e1,is,e2,hl,al,λj acc ρ=>∃s l,acc=l.map (λx=>T.im (emb x))/\ρ=st s/\P j s l,⟨s0,[],rfl,rfl,h0⟩,?_,?_⟩
 ·rintro j x acc ρ hj ⟨s,l,rfl,rfl,hP⟩
  refine(hs j x s l hj hP).mono λρ1 q=>q.mono λbb ρ2 ⟨q1,q2⟩=>⟨λhb=>(q1 hb).mono λr ρ3 ⟨x,s',e,e',hP'⟩=>⟨_,e,s',l++[x],by simp,e',hP'⟩,λhb=>?_⟩
  obtain⟨s',e',hP'⟩:=q2 hb
  exact⟨s',l,rfl,e',hP'⟩
 ·rintro acc ρ ⟨s,l,rfl,rfl,hP⟩
  rw[ef]
  exact he s l hP
@[irreducible] def fFs (st:S->Rho)(P:S->Prop)(Q:Fl->Rho->Prop):Fl->Rho->Prop
 | .nx,ρ=>∃s,ρ=st s/\P s
 | .ct,ρ=>∃s,ρ=st s/\P s
 | .bk,ρ=>Q .nx ρ
 | .rt t,ρ=>Q (.rt t) ρ
theorem k6 {st:S->Rho}{P:Nat->S->Prop}{j:Nat}{f:Fl}{ρ:Rho}(h:fFs st (P (j+1)) Q f ρ):pK (λj ρ=>∃s,ρ=st s/\P j s) j Q f ρ:=by with_unfolding_all cases f<;>exact h
theorem cr (st:S->Rho)(P:Nat->S->Prop) (h:WA ms ρ λrs ρ1=>Int1 rs λn=>(-(2^62)<=n/\n<2^62)/\∃s0,ρ1=st s0/\P 0 s0 ∧
  (∀(j:Nat) s,(j:Int)<n->P j s->WG (ag i) (jw j) (st s) λρ1=>WS s1 ρ1 (fFs st (P (j+1)) Q))/\∀s,P n.toNat s->Q .nx (st s)):WS (bS (aU ms) (ag i) s1) ρ Q:=by
 obtain⟨rs,ρ1,e1,n,e2,h1,s0,rfl,h0,hs,he⟩:=h
 refine A4 ⟨rs,_,e1,n,e2,h1.1,h1.2,λj ρ=>∃s,ρ=st s/\P j s,⟨s0,rfl,h0⟩,?_,?_⟩
 ·rintro j ρ hj ⟨s,rfl,hP⟩
  exact(hs j s hj hP).mono λρ1 q=>q.mono λf ρ2 q=>k6 q
 ·rintro ρ ⟨s,rfl,hP⟩
  exact he s hP
theorem uR (st:S->Rho)(P:Nat->S->Prop) (h:WA ms ρ λrs ρ1=>Int2 rs λa n=>(-(2^62)<=a/\a<2^62/\-(2^62)<=n/\n<2^62)/\∃s0,ρ1=st s0/\P 0 s0 ∧
  (∀(j:Nat) s,a+(j:Int)<n->P j s->WG (ag i) (jw (a+j)) (st s) λρ1=>WS s1 ρ1 (fFs st (P (j+1)) Q))/\∀s,P (n-a).toNat s->Q .nx (st s)):WS (bS (fb ms) (ag i) s1) ρ Q:=by
 obtain⟨rs,ρ1,e1,a,n,e2,h1,s0,rfl,h0,hs,he⟩:=h
 refine xw ⟨rs,_,e1,a,n,e2,h1,λj ρ=>∃s,ρ=st s/\P j s,⟨s0,rfl,h0⟩,?_,?_⟩
 ·rintro j ρ hj ⟨s,rfl,hP⟩
  exact(hs j s hj hP).mono λρ1 q=>q.mono λf ρ2 q=>k6 q
 ·rintro ρ ⟨s,rfl,hP⟩
  exact he s hP
theorem dF (st:S->Rho)(P:Nat->S->Prop) (h:WE m ρ λr ρ1=>∃is:List I,eH r=some (is.map λi=>⟨.ow,.im i⟩)/\aC (g.mu++s1.mu) r=true/\∃s0,ρ1=st s0/\P 0 s0 ∧
  (∀(j:Nat) x s,is[j]?=some x->P j s->WG g ⟨.ow,.im x⟩ (st s) λρ1=>WS s1 ρ1 (fFs st (P (j+1)) Q))/\∀s,P is.length s->Q .nx (st s)):WS (bS (mIt m) g s1) ρ Q:=by
 obtain⟨r,ρ1,e1,is,e2,al,s0,rfl,h0,hs,he⟩:=h
 refine A3 ⟨r,_,e1,is,e2,al,λj ρ=>∃s,ρ=st s/\P j s,⟨s0,rfl,h0⟩,?_,?_⟩
 ·rintro j x ρ hj ⟨s,rfl,hP⟩
  exact(hs j x s hj hP).mono λρ1 q=>q.mono λf ρ2 q=>k6 q
 ·rintro ρ ⟨s,rfl,hP⟩
  exact he s hP
theorem mV (st:S->Rho)(P:S->Prop)(μ : S->Nat)(s0:S)(e0 : ρ=st s0)(h0:P s0)(hs:∀s,P s->WT ct (st s) λbb ρ1=>(bb=true->WS s1 ρ1 (fFs st (λs'=>μ s' < μ s/\P s') Q))/\(bb=false->Q .nx ρ1)):WS (eJ ct s1) ρ Q:=by with_unfolding_all
 subst e0
 refine xx (λn ρ=>∃s,ρ=st s/\P s/\μ s=n) (μ s0) ⟨s0,rfl,h0,rfl⟩ ?_
 rintro n ρ ⟨s,rfl,hP,rfl⟩
 refine(hs s hP).mono λbb ρ1 ⟨q1,q2⟩=>⟨q2,λhb=>(q1 hb).mono λf ρ2 q=>?_⟩
 cases f with
 | nx=>have q:∃s',ρ2=st s'/\μ s' < μ s/\P s':=q;obtain⟨s',e,hl,hP'⟩:=q;exact⟨μ s',hl,s',e,hP',rfl⟩
 | ct=>have q:∃s',ρ2=st s'/\μ s' < μ s/\P s':=q;obtain⟨s',e,hl,hP'⟩:=q;exact⟨μ s',hl,s',e,hP',rfl⟩
 | bk=>exact q
 | rt t=>exact q
end
section
variable  {S α:Type}{ρ:Rho}{m:ME}{ms:MA}{QE':R->Rho->Prop}{fr:List (Option Nat)}{i:Nat}
theorem si {emb : α->T}(hne:∀x i,emb x ≠ .im i):∀{l:List α},l≠[]->bu (l.map emb)=.lst (l.map emb)
 | [],h=>absurd rfl h
 | x::l,_=>by
  unfold bu
  have:ims ((x::l).map emb)=none:=by
   rw[DS]
   cases h:emb x with
   | im i=>exact absurd h (hne x i)
   | _=>rfl
  rw[this]
theorem jJ (st:S->Rho)(emb : α->T)(hne:∀x i,emb x ≠ .im i)(P:Nat->S->List α->Prop) (h:WA ms ρ λrs ρ1=>Int1 rs λn=>(1<=n/\n<16000000)/\(cQ fr ρ1.length&&cO ([i]++([]++m.mu)) fr.length)=true/\∃s0,ρ1=st s0/\P 0 s0 [] ∧
  (∀(j:Nat) s l,(j:Int)<n->P j s l->WG (ag i) (jw j) (inR fr (st s)) λρ1=>WE m ρ1 λr ρ3=>∃x s',r=⟨.ow,emb x⟩/\cw fr ([i]++([]++m.mu)) ρ3 (st s)=st s'/\P (j+1) s' (l++[x])) ∧
  ∀s l,P n.toNat s l->l.length=n.toNat->QE' ⟨.ow,.lst (l.map emb)⟩ (st s)):WE (aV fr (aU ms) (ag i) mYes m) ρ QE':=by
 obtain⟨rs,ρ1,e1,n,e2,h1,al,s0,rfl,h0,hs,he⟩:=h
 refine pv ⟨rs,_,e1,n,e2,⟨by omega,h1.2⟩,al,λj acc ρ=>∃s l,acc=l.map emb/\l.length=j/\ρ=st s/\P j s l,⟨s0,[],rfl,rfl,rfl,h0⟩,?_,?_⟩
 ·rintro j acc ρ hj ⟨s,l,rfl,hl,rfl,hP⟩
  refine(hs j s l hj hP).mono λρ1 q=>q.mono λr ρ3 ⟨x,s',e,e',hP'⟩=>⟨_,e,s',l++[x],by simp,by simp[hl],e',hP'⟩
 ·rintro acc ρ ⟨s,l,rfl,hl,rfl,hP⟩
  rw[si hne (by intro z;rw[z]at hl;simp at hl;omega)]
  exact he s l hP hl
theorem tI {ts:List T}{n:Nat}{u s:T}(h:ts[n]?=some u):T.put (.lst ts) [.ix n] s=.lst (ts.set n s):=by simp only[T.put,iD,h,z6]
end
end L2
namespace L2
end L2
namespace L2
section
variable  {ρ:Rho}{b:MS}{Q:Fl->Rho->Prop}{t s':T}{k:Nat}{ks:List Nat}
theorem Bx {R:T->T->Prop}(h : ρ[k]?=some (some ⟨.io 0,s'⟩))(q:R t s'):fI k R (.rt t) ρ:=by with_unfolding_all exact⟨s',h,q⟩
theorem Bz {R:T->Prop}(q:R t):fP R (.rt t) ρ:=by with_unfolding_all exact q
theorem oJ (h:WS b ρ Q):yH b Q .nx ρ:=by with_unfolding_all exact h
theorem vj (h:Q (.rt t) ρ):yH b Q (.rt t) ρ:=by with_unfolding_all exact h
theorem vf (h:Q .nx (fgts ks ρ)):Bw ks Q .nx ρ:=by with_unfolding_all exact h
variable  {S:Type}{st:S->Rho}{P:S->Prop}
theorem yI (h:∃s,ρ=st s/\P s):fFs st P Q .nx ρ:=by with_unfolding_all exact h
end
end L2
namespace L2
section
variable  {M:List Nat}{ρ:Rho}{t s:T}{n i:Nat}{p:Option (List Ac)}{k:Nat}{x:I}
theorem yU:ao M []=[]:=rfl
theorem BH:ao M (some ⟨.ow,t⟩::ρ)=some ⟨.ow,t⟩::ao M ρ:=rfl
theorem BG:ao M (some ⟨.io n,t⟩::ρ)=some ⟨.io n,t⟩::ao M ρ:=rfl
theorem vy:ao M (none::ρ)=none::ao M ρ:=rfl
theorem BI:ao M (some ⟨.vw none p,t⟩::ρ)=some ⟨.vw none p,t⟩::ao M ρ:=rfl
theorem wy:T.put t [] s=s:=by cases t<;>rfl
theorem wO {j:Int}:jw j=⟨.ow,.im (.int j)⟩:=rfl
theorem AB:rdR i ⟨.ow,.im x⟩=⟨.ow,.im x⟩:=rfl
theorem AD {a:Option Nat}:rdR i ⟨.vw a p,t⟩=⟨.vw a p,t⟩:=rfl
theorem AC {l:List I}:rdR i ⟨.ow,.li l⟩=⟨.vw (some i) (some []),.li l⟩:=rfl
theorem wP {l:List T}:rdR i ⟨.ow,.lst l⟩=⟨.vw (some i) (some []),.lst l⟩:=rfl
theorem rH:fgts [] ρ=ρ:=rfl
theorem pM {ks:List Nat}:fgts (i::ks) ρ=fgts ks ((ao [i] ρ).set i none):=rfl
theorem runP_ok' {run:List T->Option T}{l:Nat}{m:MS}{ts:List T}{QT1:T->Prop}(ρ:Rho)(hrun:run ts=if ts.length=l then dv m n ts else none)(hl:ts.length=l)(he:cx ts n=ρ)(h:WS m ρ (fP QT1)):W1 (run ts) QT1:=o6 hrun hl (he▸h)
theorem runI_ok' {run:List T->Option (T×T)}{l:Nat}{m:MS}{ts:List T}{Q2:T->T->Prop}(ρ:Rho)(hrun:run ts=if ts.length=l then dM m k n ts else none)(hl:ts.length=l)(he:eM k ts n=ρ)(h:WS m ρ (fI k Q2)):W2 (run ts) Q2:=f7 hrun hl (he▸h)
end
end L2
namespace L2
open PySem PySem.Spec PyProof.Rows
section
variable  {ρ:Rho}{g g2:MG}{ct:MT}{m:ME}{it it2:MI}{QE':R->Rho->Prop}{fr fr2:List (Option Nat)}
theorem jY {items:List R}{QC:List T->Rho->Prop}(Inv:Nat->List T->Rho->Prop)
  (hs:∀i r acc ρ,items[i]?=some r->Inv i acc ρ->WG g (gW (piF fr) r) (inR fr ρ) λρ1=>WI it2 ρ1 λsrc2 items2 ρ2=>Gu (cQ fr2 ρ2.length&&(decide (src2.length=1)&&src2.all (aC (muF fr2 (g2.mu++(ct.mu++m.mu)))))) (acc.length+items2.length<sizeLine/\W2 (bh fr2 (g2.mu++(ct.mu++m.mu)) g2 ct m items2 ρ2 acc) λts ρ3=>Inv (i+1) ts (cw fr (g.mu++(it2.mu++muF fr2 (g2.mu++(ct.mu++m.mu)))) ρ3 ρ)))
  (he:∀acc ρ,Inv items.length acc ρ->QC acc ρ):∀(l:List R) (i:Nat) (acc:List T) (ρ:Rho),items.drop i=l->i<=items.length->Inv i acc ρ->W2 (bH fr fr2 g it2 g2 ct m l ρ acc) QC
 | [],i,acc,ρ,hl,hi,hI=>by
  have:i=items.length:=by have:=congrArg E9 hl;simp at this;omega
  subst this
  exact⟨_,_,rfl,he acc ρ hI⟩
 | r::l,i,acc,ρ,hl,hi,hI=>by
  have hr:items[i]?=some r:=by rw[←Gz,hl];rfl
  have hlt:=(DR.mp hr).1
  have hl':items.drop (i+1)=l:=by rw[←GJ,hl];rfl
  obtain⟨ρ1,e1,src2,items2,ρ2,e2,al,hz,ts,ρ3,e3,q⟩:=hs i r acc ρ hr hI
  simp only[bH,e1,e2]
  rw[if_pos (by rw[DU];exact⟨al,decide_eq_true hz⟩)]
  simp only[e3]
  exact jY Inv hs he l (i+1) _ _ hl' hlt q
theorem xv (h:WI it ρ λsrc items ρ1=>Gu (cQ fr ρ1.length&&cO (g.mu++(it2.mu++muF fr2 (g2.mu++(ct.mu++m.mu)))) fr.length&&cO (g2.mu++(ct.mu++m.mu)) fr2.length&&(decide (src.length=1)&&src.all (aC (muF fr (g.mu++(it2.mu++muF fr2 (g2.mu++(ct.mu++m.mu)))))))) (∃Inv:Nat->List T->Rho->Prop,Inv 0 [] ρ1 ∧
  (∀i r acc ρ,items[i]?=some r->Inv i acc ρ->WG g (gW (piF fr) r) (inR fr ρ) λρ1=>WI it2 ρ1 λsrc2 items2 ρ2=>Gu (cQ fr2 ρ2.length&&(decide (src2.length=1)&&src2.all (aC (muF fr2 (g2.mu++(ct.mu++m.mu)))))) (acc.length+items2.length<sizeLine/\W2 (bh fr2 (g2.mu++(ct.mu++m.mu)) g2 ct m items2 ρ2 acc) λts ρ3=>Inv (i+1) ts (cw fr (g.mu++(it2.mu++muF fr2 (g2.mu++(ct.mu++m.mu)))) ρ3 ρ))) ∧
  ∀acc ρ,Inv items.length acc ρ->acc.length<sizeLine/\QE' ⟨.ow,bu acc⟩ ρ)):WE (ig fr fr2 it g it2 g2 ct m) ρ QE':=by
 obtain⟨src,items,ρ1,e1,al,Inv,h0,hs,he⟩:=h
 obtain⟨ts,ρ2,e,hz,q⟩:=jY (QC:=λacc ρ=>acc.length<sizeLine/\QE' ⟨.ow,bu acc⟩ ρ) Inv hs he items 0 [] ρ1 rfl (Ff _) h0
 refine⟨⟨.ow,bu ts⟩,ρ2,?_,q⟩
 simp only[ig,e1]
 rw[if_pos al]
 simp only[e]
 rw[if_pos hz]
theorem pG {items:List I}{M:List Nat}{QC:List T->Rho->Prop}(st:Rho)(hst:∀x,WG g (gW (piF fr2) ⟨.ow,.im x⟩) (inR fr2 st) λρ1=>WE m ρ1 λr ρ3=>r=⟨.ow,.im x⟩/\cw fr2 M ρ3 st=st)(acc:List T)(q:QC (acc++items.map T.im) st):W2 (bh fr2 M g mYes m (items.map λi=>⟨.ow,.im i⟩) st acc) QC:=by
 refine gD (items:=items.map λi=>⟨.ow,.im i⟩) (λi a ρ=>ρ=st/\a=acc++(items.take i).map T.im) (λi r a ρ hr hI=>?_) (λa ρ hI=>?_) _ 0 acc st rfl (Ff _) ⟨rfl,by simp⟩
 ·obtain⟨rfl,rfl⟩:=hI
  obtain⟨x,hx,rfl⟩:=aQ hr
  refine(hst x).mono λρ1 w=>iE ⟨λ_=>w.mono λr ρ3 ⟨e,e'⟩=>⟨_,e,e',?_⟩,λz=>by cases z⟩
  rw[GK,hx]
  simp
 ·obtain⟨rfl,rfl⟩:=hI
  simp at *
  exact q
end
noncomputable def less (K:yF) (a:Addr):yF:=K.filter λp=>!(p.1==a)
theorem gL:∀{K:yF} {a b:Addr},b≠a->(less K a).lookup b=K.lookup b
 | [],_,_,_=>rfl
 | (c,o)::K,a,b,h=>by
  have ih:=gL (K:=K) h
  by_cases e:c=a
  ·subst e
   have:less ((c,o)::K) c=less K c:=by simp[less]
   rw[this,ih]
   show _=match b==c with|true=>some o|false=>FO b K
   rw[beq_eq_false_iff_ne.mpr h]
  ·have:less ((c,o)::K) a=(c,o)::less K a:=by simp[less,e]
   rw[this]
   show(match b==c with|true=>some o|false=>FO b (less K a))=match b==c with|true=>some o|false=>FO b K
   rw[ih]
theorem ic:∀{K:yF} {a:Addr},(less K a).lookup a=none
 | [],_=>rfl
 | (c,o)::K,a=>by
  have ih:=ic (K:=K) (a:=a)
  by_cases e:c=a
  ·subst e
   have:less ((c,o)::K) c=less K c:=by simp[less]
   rw[this,ih]
  ·have:less ((c,o)::K) a=(c,o)::less K a:=by simp[less,e]
   rw[this]
   show(match a==c with|true=>some o|false=>FO a (less K a))=none
   rw[beq_eq_false_iff_ne.mpr (Ne.symm e)]
   exact ih
theorem vD {K:yF}{a:Addr}{h:Heap}(X:K.In h):(less K a).In h:=λb o e=>by
 by_cases q:b=a
 ·subst q;rw[ic]at e;cases e
 ·rw[gL q]at e;exact X b o e
def Lst (o:Obj):Prop:=∃vs:Array Value,o={cls:=.type "list",data:=.seq vs}
def LsAt (K:yF)(a:Addr):Prop:=∀o,K.lookup a=some o->Lst o
theorem LsAt.get {K:yF}{a b:Addr}{o:Obj}(h:LsAt K a)(e:K.lookup b=some o)(n:¬ Lst o):(less K a).lookup b=some o:=by
 rw[gL (a:=a) λq:b=a=>n (h o (by rw[←q];exact e))];exact e
def Def0 (K:yF)(mg:Str->Option Value)(name:Str)(st:Stmt)(ps:List Str):Prop:=
 ∃(f:Addr) (fd:FuncData),mg name=some (.ref f)/\Fun K name name st f fd/\(∀us:List Value,us.length=ps.length->bindArgs fd ⟨us,[]⟩=pure (ps.zip us))
theorem Def0.to {K:yF}{mg:Str->Option Value}{name:Str}{st:Stmt}{ps:List Str}(d:Def0 K mg name st ps):Def K mg name st ps:=by
 obtain⟨f,fd,h1,h2,h3⟩:=d
 exact⟨f,fd,h1,h2,.all h3⟩
theorem Def0.less {K:yF}{mg:Str->Option Value}{name:Str}{st:Stmt}{ps:List Str}{a:Addr}(d:Def0 K mg name st ps)(h:LsAt K a):Def0 (less K a) mg name st ps:=by
 obtain⟨f,fd,h1,F,h3⟩:=d
 obtain⟨oc,od,kV,doc,pm,an,cdv,ct,osl,e,lk,hcd⟩:=F.ex
 have lk':=h.get lk (by rintro⟨vs,z⟩;cases z)
 refine⟨f,fd,h1,⟨⟨oc,od,kV,doc,pm,an,cdv,ct,osl,e,lk',?_⟩,?_⟩,h3⟩
 ·unfold Fx at hcd⊢
  cases cdv with
  | ref c=>
   dsimp only at hcd⊢
   cases q:FO c K with
   | none=>rw[q]at hcd;cases hcd
   | some o=>
    by_cases w:c=a
    ·subst w
     obtain⟨vs,rfl⟩:=h o q
     rw[q]at hcd;cases hcd
    ·rw[gL w];exact hcd
  | _=>cases hcd
 ·unfold Fh
  dsimp only
  rw[lk']
theorem Def0.mk' {K:yF}{h:Heap}{mg:Str->Option Value}{name:Str}{st:Stmt}{ps:List Str}(X:K.In h)(G:h.Ns mainGlobals mg){f:Addr}{oc:Value}{od an:Option Addr}{osl:Array (Option Value)}{kV doc pm cdv ct:Value}
  (a:G7 K mainGlobals name=some (some (.ref f))) (l:K.lookup f=some ⟨oc,od,.func (E5 name name (cP st) (bj st) (ai st) .none kV doc pm an cdv ct),osl⟩) (c:Fx K cdv name=true) (k:Fh K (.ref f)=true)
  (hb:∀(kV doc pm:Value) (an:Option Addr) (cdv ct:Value) (us:List Value),us.length=ps.length->bindArgs (E5 name name (cP st) (bj st) (ai st) .none kV doc pm an cdv ct) ⟨us,[]⟩=pure (ps.zip us)):Def0 K mg name st ps:=
 ⟨f,_,PySem.W.mg_of X G a,yK l c k,hb kV doc pm an cdv ct⟩
theorem walkP {l:PySem.W.OpenLaw}{k:Nat}{q:Program}{loose:List Str}{XP:(Str->Option Value)->Heap->Prop}{YP:World->Heap->Prop}{d:DefRec}{K:Params->yF}{x:Str}{st:Stmt}{run:List T->Option T}{A:(Str->Option Value)->yF->Prop}
  (hn:l.most=some 63) (hdf:d.params.defaults=[]) (hr:Room k callerA)
  (hY:∀(w:World) (h:Heap),YP w h->(K w.params).In h)
  (hA:∀(w:World) (mg:Str->Option Value) (h:Heap),(K w.params).In h->h.Ns mainGlobals mg->A mg (K w.params))
  (hL:∀(mg:Str->Option Value) (K:yF) (a:Addr),A mg K->LsAt K a->A mg (less K a))
  (hd:∀(mg:Str->Option Value) (K:yF),A mg K->Def K mg d.name st [x])
  (hb:∀(kV doc pm:Value) (an:Option Addr) (cdv ct:Value) (s:Shared) (v:Value),BindsTo s (E5 d.name d.name (cP st) (bj st) (ai st) .none kV doc pm an cdv ct) ⟨[v],[]⟩ [(x,v)])
  (F:∀(w:World) (mg:Str->Option Value) (K:yF) (base:Heap),A mg K->Has l.prog w K mg base k d.name [x] (spP K run))
  (law:∀ns:List Int,ns.length<=63->run [.li (ns.map .int)]=some (.im (.bl true))) :
  PySem.W.WalkO q loose XP YP l.row.toRowW d [] (λf vs=>PySem.call f vs):=by
 refine Att.attach_call hn hdf λw s₀ s₁ mg mb fa o pm cd doc a vs ns G Y ho hd' hcd hmg hobj hints hlen hg=>?_
 have KX:=hY w _ Y
 have a0:=hA w mg _ KX G.T.g
 have la:LsAt (K w.params) a:=λo e=>by
  have e2:=KX a o e
  rw[hobj]at e2;cases e2
  exact⟨_,rfl⟩
 have a1:=hL mg _ a a0 la
 obtain⟨fd,hb',hF⟩:=r6 hmg (hd mg _ a1) hb λbase _ _=>F w mg (less (K w.params) a) base a1
 refine rZ (vD KX) G.T.g G.T.b G.T.builtins G.T.nolimit hg hobj hints (Ev hlen (by decide)) hr hF hb' (λH hO hS=>?_) (λ_ _ _ z=>z)
 rcases hS with hS|⟨o,its,n,e,_⟩
 ·refine⟨[.li (ns.map .int)],_,?_,law ns hlen,?_⟩
  ·refine⟨_,_,rfl,⟨[a],?_⟩,rfl⟩
   exact⟨a,_,rfl,hS,RpIs.ints ns,rfl⟩
  ·intro v H' z
   obtain⟨_,F,z,_⟩:=z
   rw[Rp]at z
   exact z.1
 ·rw[ic]at e;cases e
noncomputable def vs (x:String) (t:Tok):Value:=.str (Str.ofString x) t
noncomputable def vi (n:Int):Value:=.int n 0
noncomputable def vr (a:Addr):Value:=.ref a
noncomputable def eO (p:Params) (x:String) (t:Tok) (v:Value):DictEntry:=⟨PyData.keyHash p (Str.ofString x),.str (Str.ofString x) t,v⟩
noncomputable def oC (vs:List Value):Obj:={cls:=.type "code",data:=.fields vs.toArray}
noncomputable def oD (es:List DictEntry) (n:Nat):Obj:={cls:=.type "dict",data:=.dict es.toArray n}
noncomputable def oF (x:String) (st:Stmt) (pm:Value) (c:Addr):Obj:={cls:=.type "function",data:=.func (E5 (Str.ofString x) (Str.ofString x) (cP st) (bj st) (ai st) .none .none .none pm none (.ref c) .none)}
noncomputable def oc (x:String) (t l n r:Nat) (v:Option (Nat×Nat)) (d e:Nat):Obj:=oC [vs x t,vs x (t+1),vs "/claim/cut.py" (t+2),vi l,vi n,vi 0,vi 0,vi 3,vr r,.bool true,vi 181,vr (r+1),.none,(match v with|some p=>vr p.1|none=>.none),(match v with|some p=>vr p.2|none=>.none),vr d,vi e,vi l,vs "/claim/cut.py" (e+1)]
theorem Def0.mkO {K:yF}{h:Heap}{mg:Str->Option Value}{x:String}{st:Stmt}{ps:List Str}(X:K.In h)(G:h.Ns mainGlobals mg)(f:Addr)(pm:Value)(c:Addr)
  (hb:∀(kV doc pm:Value) (an:Option Addr) (cdv ct:Value) (us:List Value),us.length=ps.length->bindArgs (E5 (Str.ofString x) (Str.ofString x) (cP st) (bj st) (ai st) .none kV doc pm an cdv ct) ⟨us,[]⟩=pure (ps.zip us))
  (a:G7 K mainGlobals (Str.ofString x)=some (some (.ref f)):=by rfl') (l:K.lookup f=some (oF x st pm c):=by rfl') (cd:Fx K (.ref c) (Str.ofString x)=true:=by rfl'):Def0 K mg (Str.ofString x) st ps:=
 Def0.mk' X G a l cd (by unfold Fh;dsimp only;rw[l];rfl) hb
theorem bN {K:yF}{h:Heap}{mg:Str->Option Value}(X:K.In h)(G:h.Ns mainGlobals mg){n:Str}(e:G7 K mainGlobals n=some none:=by rfl'):mg n=none:=PySem.W.mg_none_of X G e
section
variable  {α A B C D E F:Type}{f g:A->B->C->D->E->F->List Value->α}
theorem lenC9 {α:Type}{n:Nat}{l:List α}(h:l.length=n+1):∃a r,l=a::r/\r.length=n:=by
 cases l with
 | nil=>cases h
 | cons a r=>exact⟨a,r,rfl,Nat.succ.inj h⟩
theorem by1 (h:∀x1 x2 x3 x4 x5 x6 a0,f x1 x2 x3 x4 x5 x6 [a0]=g x1 x2 x3 x4 x5 x6 [a0]):∀x1 x2 x3 x4 x5 x6 (us:List Value),us.length=1->f x1 x2 x3 x4 x5 x6 us=g x1 x2 x3 x4 x5 x6 us:=λx1 x2 x3 x4 x5 x6 us e=>by
 obtain⟨a0,u0,rfl,e0⟩:=lenC9 e
 obtain rfl:=EI.mp e0
 exact h x1 x2 x3 x4 x5 x6 a0
theorem by2 (h:∀x1 x2 x3 x4 x5 x6 a0 a1,f x1 x2 x3 x4 x5 x6 [a0,a1]=g x1 x2 x3 x4 x5 x6 [a0,a1]):∀x1 x2 x3 x4 x5 x6 (us:List Value),us.length=2->f x1 x2 x3 x4 x5 x6 us=g x1 x2 x3 x4 x5 x6 us:=λx1 x2 x3 x4 x5 x6 us e=>by
 obtain⟨a0,u0,rfl,e0⟩:=lenC9 e
 obtain⟨a1,u1,rfl,e1⟩:=lenC9 e0
 obtain rfl:=EI.mp e1
 exact h x1 x2 x3 x4 x5 x6 a0 a1
theorem by3 (h:∀x1 x2 x3 x4 x5 x6 a0 a1 a2,f x1 x2 x3 x4 x5 x6 [a0,a1,a2]=g x1 x2 x3 x4 x5 x6 [a0,a1,a2]):∀x1 x2 x3 x4 x5 x6 (us:List Value),us.length=3->f x1 x2 x3 x4 x5 x6 us=g x1 x2 x3 x4 x5 x6 us:=λx1 x2 x3 x4 x5 x6 us e=>by
 obtain⟨a0,u0,rfl,e0⟩:=lenC9 e
 obtain⟨a1,u1,rfl,e1⟩:=lenC9 e0
 obtain⟨a2,u2,rfl,e2⟩:=lenC9 e1
 obtain rfl:=EI.mp e2
 exact h x1 x2 x3 x4 x5 x6 a0 a1 a2
theorem by4 (h:∀x1 x2 x3 x4 x5 x6 a0 a1 a2 a3,f x1 x2 x3 x4 x5 x6 [a0,a1,a2,a3]=g x1 x2 x3 x4 x5 x6 [a0,a1,a2,a3]):∀x1 x2 x3 x4 x5 x6 (us:List Value),us.length=4->f x1 x2 x3 x4 x5 x6 us=g x1 x2 x3 x4 x5 x6 us:=λx1 x2 x3 x4 x5 x6 us e=>by
 obtain⟨a0,u0,rfl,e0⟩:=lenC9 e
 obtain⟨a1,u1,rfl,e1⟩:=lenC9 e0
 obtain⟨a2,u2,rfl,e2⟩:=lenC9 e1
 obtain⟨a3,u3,rfl,e3⟩:=lenC9 e2
 obtain rfl:=EI.mp e3
 exact h x1 x2 x3 x4 x5 x6 a0 a1 a2 a3
theorem by5 (h:∀x1 x2 x3 x4 x5 x6 a0 a1 a2 a3 a4,f x1 x2 x3 x4 x5 x6 [a0,a1,a2,a3,a4]=g x1 x2 x3 x4 x5 x6 [a0,a1,a2,a3,a4]):∀x1 x2 x3 x4 x5 x6 (us:List Value),us.length=5->f x1 x2 x3 x4 x5 x6 us=g x1 x2 x3 x4 x5 x6 us:=λx1 x2 x3 x4 x5 x6 us e=>by
 obtain⟨a0,u0,rfl,e0⟩:=lenC9 e
 obtain⟨a1,u1,rfl,e1⟩:=lenC9 e0
 obtain⟨a2,u2,rfl,e2⟩:=lenC9 e1
 obtain⟨a3,u3,rfl,e3⟩:=lenC9 e2
 obtain⟨a4,u4,rfl,e4⟩:=lenC9 e3
 obtain rfl:=EI.mp e4
 exact h x1 x2 x3 x4 x5 x6 a0 a1 a2 a3 a4
end
end L2
namespace L2
open PySem
noncomputable section
noncomputable def bL:MS:=(aq (mIf (aY (mOp eqT (mIx (ah 0) (mC (.int 0))) (mC (.str "op")))) (bf (mSl (ah 0) (dl (mC (.int 2))) mNoPart)) mNext)
  (aq (mIf (aY (mOp eqT (mIx (ah 0) (mC (.int 0))) (mC (.str "if")))) (bf (mSl (ah 0) (dl (mC (.int 1))) mNoPart)) mNext)
  (bf (av [] mNil))))
noncomputable def cI (ts:List T):Option T:=if ts.length=1 then dv bL 1 ts else none
noncomputable def cV:MS:=(aq (aD (aR [] mNil) (ag 1))
  (aq (aD (aR [0] (ac 0 mNil)) (ag 2))
  (aq (eJ (p7 (ah 2))
  (bR [3] (aq (aD (kf 2 mr (ah 2)) (ag 3))
  (aq (bp (cH 1 [3] apT (ah 1) (ac 3 mNil)))
  (bp (cH 2 [] kZ (ah 2) (aa (mUn uq (mB cI (ac 3 mNil))) mNil)))))))
  (bf (ah 1)))))
noncomputable def eP (ts:List T):Option T:=if ts.length=1 then dv cV 4 ts else none
noncomputable def fX:MS:=(bf (mB g8 (aa (aV [none,none] (mIt (mB eP (ac 0 mNil))) (ag 1) (aY (mOp eqT (mIx (ah 1) (mC (.int 0))) (mC (.str "at")))) (av [] (aa (mIx (ah 1) (mC (.int 1))) (aa (mIx (ah 1) (mC (.int 2))) mNil)))) mNil)))
noncomputable def iA (ts:List T):Option T:=if ts.length=1 then dv fX 1 ts else none
noncomputable def bZ:MS:=(aq (aD (aR [] mNil) (ag 2))
  (aq (bS (mIt (mB iA (ac 1 mNil))) (cD (aI (ag 3) (aI (ag 4) mGNil)))
  (bR [3,4,5] (aq (aD (av [0,3,4] (ac 0 (ac 3 (ac 4 mNil)))) (ag 5))
  (mIf (aY (mOp nD (ah 5) (ah 2))) (bp (cH 2 [5] apT (ah 2) (ac 5 mNil))) mNext))))
  (bf (ah 2))))
noncomputable def du (ts:List T):Option T:=if ts.length=2 then dv bZ 6 ts else none
noncomputable def cW:MS:=(bf (mB g8 (aa (ig [none,none,none,none] [some 0,some 1,some 2,none] (mIt (mIx (ah 0) (mC (.int 2)))) (cD (aI (ag 1) (aI (ag 2) mGNil))) (mIt (mB du (ac 1 (ac 2 mNil)))) (ag 3) mYes (ah 3)) mNil)))
noncomputable def eQ (ts:List T):Option T:=if ts.length=1 then dv cW 1 ts else none
noncomputable def gM:MS:=(aq (aD (mOp bd (mOp cX (mC (.int 7901)) (ah 1)) (mC (.int 24697))) (ag 2))
  (aq (mIf (aY (mOp (ge λi j=>decide (i<j)) (ah 1) (mB cC (ac 0 mNil)))) (aD (mIx (ah 0) (ah 1)) (ag 2)) (mIf (aY (mOp (ge λi j=>decide (j<i)) (mB cC (ac 0 mNil)) (mC (.int 0)))) (aD (mOp bd (mOp cX (mOp fq (mIx (ah 0) (mOp fq (ah 1) (mB cC (ac 0 mNil)))) (mC (.int 2147483629))) (mC (.int 31))) (mOp cX (mC (.int 7901)) (ah 1))) (ag 2)) mNext))
  (aq (aD (mC (.int 0)) (ag 3))
  (aq (mIf (aY (mOp (ge λi j=>decide (j<=i)) (ah 2) (mOp qj (mC (.int 10)) (mC (.int 18))))) (aD (ah 2) (ag 3)) mNext)
  (bf (aR [3] (ac 3 (aa (mOp bd (mOp fq (mOp qj (mOp bd (mOp cX (mOp fq (ah 2) (mC (.int 2147483629))) (mC (.int 48271))) (mOp cX (mC (.int 40692)) (ah 1))) (mC (.int 5))) (mC (.int 2147483629))) (mC (.int 1))) mNil))))))))
noncomputable def jx (ts:List T):Option T:=if ts.length=2 then dv gM 4 ts else none
noncomputable def gO:MS:=(aq (mIf (aY (mOp (ge λi j=>decide (j<i)) (mIx (ah 0) (mC (.int 0))) (mC (.int 0)))) (aq (aD (mOp fq (mIx (ah 0) (mC (.int 0))) (ah 1)) (ag 2))
  (aq (aD (mOp gF (mIx (ah 0) (mC (.int 0))) (ah 1)) (nu 0 (ah 0) (mC (.int 0))))
  (bf (ah 2)))) mNext)
  (aq (aD (mOp fq (mOp cX (mIx (ah 0) (mC (.int 1))) (mC (.int 48271))) (mC (.int 2147483647))) (ag 3))
  (aq (aD (mOp bd (mOp fq (mOp bd (mOp cX (ah 3) (mC (.int 40692))) (mC (.int 30103))) (mC (.int 2147483399))) (mC (.int 1))) (nu 0 (ah 0) (mC (.int 1))))
  (bf (mOp fq (mOp gF (mOp bd (mOp cX (ah 3) (mC (.int 2147483647))) (mIx (ah 0) (mC (.int 1)))) (mC (.int 8191))) (ah 1))))))
noncomputable def aj (ts:List T):Option (T×T):=if ts.length=2 then dM gO 0 4 ts else none
noncomputable def fR:MS:=(aq (aD (mC (.str "abcdefghijklmnopqrstuvwxyz")) (ag 2))
  (aq (aD (mM jf (mC (.str "")) (aa (aV [some 0,none,some 2,none,none,none,none,none,none] (aU (aa (ak 0 0 aj (ac 0 (aa (mC (.int 6)) mNil))) mNil)) (ag 7) mYes (mIx (ah 2) (ak 0 0 aj (ac 0 (aa (mC (.int 26)) mNil))))) mNil)) (ag 3))
  (aq (kj 4 5 (aa (ak 0 0 aj (ac 0 (aa (mC (.int 26)) mNil))) (aa (ak 0 0 aj (ac 0 (aa (mOp bd (mB cC (ac 3 mNil)) (mC (.int 1))) mNil))) mNil)))
  (aq (aD (aR [] mNil) (ag 6))
  (aq (bS (aU (ac 1 mNil)) (ag 7)
  (bR [7,8] (aq (aD (mOp bd (mOp bd (mSl (ah 3) mNoPart (dl (ah 5))) (mIx (ah 2) (mOp fq (mOp bd (ah 4) (mOp cX (mC (.int 5)) (ah 7))) (mC (.int 26))))) (mSl (ah 3) (dl (ah 5)) mNoPart)) (ag 8))
  (aq (mIf (aY (mOp eqT (mOp fq (ah 7) (mC (.int 2))) (mC (.int 1)))) (aD (mOp bd (ah 8) (mC (.str "q"))) (ag 8)) mNext)
  (aq (mIf (aY (mOp inT (ah 8) (av [] (aa (mC (.str "min")) (aa (mC (.str "max")) (aa (mC (.str "rest")) (aa (mC (.str "less")) (aa (mC (.str "if")) mNil)))))))) (aD (mOp bd (ah 8) (mC (.str "w"))) (ag 8)) mNext)
  (bp (cH 6 [8] apT (ah 6) (ac 8 mNil))))))))
  (bf (ah 6)))))))
noncomputable def ir (ts:List T):Option (T×T):=if ts.length=2 then dM fR 0 9 ts else none
noncomputable def iV:MS:=(aq (mIf (aY (mOp eqT (ak 0 0 aj (ac 0 (aa (mC (.int 4)) mNil))) (mC (.int 0)))) (bf (mOp cX (av [] (aa (mC (.int 0)) mNil)) (ah 1))) mNext)
  (bf (mB g8 (aa (aV [some 0,none,none] (aU (ac 1 mNil)) (ag 2) mYes (mIx (aR [] (aa (mC (.int 0)) (aa (mC (.int 1)) (aa (mOp bJ (mC (.int 0)) (mC (.int 1))) (aa (mC (.int 2)) (aa (mOp bJ (mC (.int 0)) (mC (.int 2))) mNil)))))) (ak 0 0 aj (ac 0 (aa (mC (.int 5)) mNil))))) mNil))))
noncomputable def iX (ts:List T):Option (T×T):=if ts.length=2 then dM iV 0 2 ts else none
noncomputable def cS:MS:=(aq (aD (ak 0 0 aj (ac 0 (ac 1 mNil))) (ag 2))
  (aq (aD (aV [some 0,none,none,none,none] (fb (aa (mOp bd (ah 2) (mC (.int 1))) (ac 1 mNil))) (ag 4) mYes (mIx (aR [] (aa (mC (.int 0)) (aa (mC (.int 1)) (aa (mOp bJ (mC (.int 0)) (mC (.int 1))) (aa (mC (.int 2)) (aa (mOp bJ (mC (.int 0)) (mC (.int 2))) mNil)))))) (ak 0 0 aj (ac 0 (aa (mC (.int 5)) mNil))))) (ag 3))
  (bf (mB g8 (aa (mOp bd (mOp bd (mOp cX (aR [] (aa (mC (.int 0)) mNil)) (ah 2)) (aR [] (aa (mOp bJ (mOp bJ (mC (.int 0)) (mC (.int 1))) (ak 0 0 aj (ac 0 (aa (mC (.int 2)) mNil)))) mNil))) (ah 3)) mNil)))))
noncomputable def cZ (ts:List T):Option (T×T):=if ts.length=2 then dM cS 0 4 ts else none
noncomputable def bV:MS:=(aq (aD (aV [none,none,none,none,none,none] (aU (ac 2 mNil)) (ag 4) mYes (aR [] mNil)) (ag 3))
  (aq (bS (aU (ac 2 mNil)) (ag 4)
  (bR [4,5] (bS (aU (aa (ak 0 0 aj (ac 0 (aa (mC (.int 4)) mNil))) mNil)) (ag 5)
  (bR [5] (bp (cH 3 [] apT (mIx (ah 3) (ah 4)) (aa (av [] (aa (ak 0 0 aj (ac 0 (ac 2 mNil))) (aa (ak 0 0 iX (ac 0 (ac 1 mNil))) mNil))) mNil)))))))
  (bf (ah 3))))
noncomputable def dr (ts:List T):Option (T×T):=if ts.length=3 then dM bV 0 6 ts else none
noncomputable def bW:MS:=(aq (aD (aV [none,none,none,none,none,none] (aU (ac 2 mNil)) (ag 4) mYes (aR [] mNil)) (ag 3))
  (aq (bS (aU (ac 2 mNil)) (ag 4)
  (bR [4,5] (bS (aU (aa (mOp bd (mC (.int 1)) (ak 0 0 aj (ac 0 (aa (mC (.int 3)) mNil)))) mNil)) (ag 5)
  (bR [5] (mIf (l7 (aY (mOp (ge λi j=>decide (j<i)) (ah 4) (mC (.int 0)))) (aY (mOp eqT (ak 0 0 aj (ac 0 (aa (mC (.int 4)) mNil))) (mC (.int 0))))) (bp (cH 3 [] apT (mIx (ah 3) (ah 4)) (aa (av [] (aa (ak 0 0 aj (ac 0 (ac 4 mNil))) (aa (mOp cX (av [] (aa (mC (.int 0)) mNil)) (ah 1)) mNil))) mNil))) (bp (cH 3 [] apT (mIx (ah 3) (ah 4)) (aa (av [] (aa (ak 0 0 aj (ac 0 (ac 2 mNil))) (aa (ak 0 0 cZ (ac 0 (ac 1 mNil))) mNil))) mNil))))))))
  (bf (ah 3))))
noncomputable def cc (ts:List T):Option (T×T):=if ts.length=3 then dM bW 0 6 ts else none
noncomputable def bY:MS:=(aq (aD (aR [] mNil) (ag 3))
  (aq (bS (aU (aa (mB cC (ac 0 mNil)) mNil)) (ag 4)
  (bR [4] (bp (cH 3 [] apT (ah 3) (aa (mOp cX (mIx (ah 0) (mOp fq (mOp bd (ah 4) (ah 1)) (mB cC (ac 0 mNil)))) (mIx (ah 2) (ah 4))) mNil)))))
  (bf (mB g8 (ac 3 mNil)))))
noncomputable def cg (ts:List T):Option T:=if ts.length=3 then dv bY 5 ts else none
noncomputable def bt:MS:=(aq (aD (mOp bd (mC (.int 1)) (ak 0 0 aj (ac 0 (aa (mC (.int 2)) mNil)))) (ag 3))
  (aq (aD (aR [] (aa (av [] (aa (mC (.int 0)) (aa (mC (.int 0)) (aa (av [3] (aa (mC (.int 0)) (ac 3 mNil))) mNil)))) (aa (av [] (aa (mC (.int 1)) (aa (mC (.int 1)) (aa (av [] (aa (mC (.int 0)) (aa (mOp bJ (mOp bJ (mC (.int 0)) (mC (.int 1))) (ak 0 0 aj (ac 0 (aa (mC (.int 2)) mNil)))) mNil))) mNil)))) (aa (av [] (aa (mC (.int 0)) (aa (mC (.int 1)) (aa (av [] (aa (mOp bJ (mC (.int 0)) (mC (.int 1))) (aa (mOp bJ (ak 0 0 aj (ac 0 (aa (mC (.int 3)) mNil))) (mC (.int 1))) mNil))) mNil)))) mNil)))) (ag 4))
  (aq (bp (cH 4 [] apT (ah 4) (aa (av [] (aa (mC (.int 1)) (aa (mC (.int 0)) (aa (av [] (aa (mOp bJ (mC (.int 0)) (ak 0 0 aj (ac 0 (aa (mC (.int 2)) mNil)))) (aa (mC (.int 0)) mNil))) mNil)))) mNil)))
  (aq (mIf (aY (mOp eqT (ah 1) (mC (.int 3)))) (aq (aD (aR [] (aa (av [] (aa (mC (.int 0)) (aa (mC (.int 0)) (aa (av [3] (aa (mC (.int 0)) (aa (mC (.int 0)) (ac 3 mNil)))) mNil)))) (aa (av [] (aa (mC (.int 1)) (aa (mC (.int 1)) (aa (av [] (aa (mC (.int 0)) (aa (mC (.int 0)) (aa (mOp bJ (mC (.int 0)) (mC (.int 1))) mNil)))) mNil)))) (aa (av [] (aa (mC (.int 0)) (aa (mC (.int 1)) (aa (av [] (aa (mC (.int 0)) (aa (mOp bJ (mC (.int 0)) (mC (.int 1))) (aa (mC (.int 0)) mNil)))) mNil)))) (aa (av [] (aa (mC (.int 1)) (aa (mC (.int 0)) (aa (av [] (aa (mC (.int 0)) (aa (mC (.int 0)) (aa (ak 0 0 aj (ac 0 (aa (mC (.int 2)) mNil))) mNil)))) mNil)))) mNil))))) (ag 4))
  (aD (mOp bd (ah 4) (aR [] (aa (av [] (aa (mC (.int 2)) (aa (mC (.int 2)) (aa (av [] (aa (mC (.int 0)) (aa (mOp bd (mC (.int 1)) (ak 0 0 aj (ac 0 (aa (mC (.int 2)) mNil)))) (aa (mC (.int 0)) mNil)))) mNil)))) (aa (av [] (aa (mC (.int 0)) (aa (mC (.int 2)) (aa (av [] (aa (mOp bJ (mC (.int 0)) (mC (.int 1))) (aa (mC (.int 0)) (aa (mC (.int 1)) mNil)))) mNil)))) (aa (av [] (aa (mC (.int 2)) (aa (mC (.int 0)) (aa (av [] (aa (mC (.int 0)) (aa (mC (.int 0)) (aa (mC (.int 0)) mNil)))) mNil)))) mNil))))) (ag 4))) mNext)
  (aq (kj 5 6 (aa (ak 0 0 aj (ac 0 (ac 1 mNil))) (aa (aV [some 0,none,none,none,none,none,none,none,none,none,none,none] (aU (ac 1 mNil)) (ag 11) mYes (mOp bJ (mC (.int 1)) (mOp cX (mC (.int 2)) (ak 0 0 aj (ac 0 (aa (mC (.int 2)) mNil)))))) mNil)))
  (aq (aD (aV [none,none,none,none,none,none,none,none,none,none,none] (aU (ac 2 mNil)) (ag 8) mYes (aR [] mNil)) (ag 7))
  (aq (bS (mIt (ah 4)) (cD (aI (ag 8) (aI (ag 9) (aI (ag 10) mGNil))))
  (bR [8,9,10] (bp (cH 7 [] apT (mIx (ah 7) (ah 8)) (aa (av [9] (ac 9 (aa (mB cg (ac 10 (ac 5 (ac 6 mNil)))) mNil))) mNil)))))
  (aq (bS (fb (aa (mC (.int 3)) (ac 2 mNil))) (ag 8)
  (bR [8] (bp (cH 7 [] apT (mIx (ah 7) (ah 8)) (aa (av [] (aa (ak 0 0 aj (ac 0 (ac 8 mNil))) (aa (ak 0 0 iX (ac 0 (ac 1 mNil))) mNil))) mNil)))))
  (bf (ah 7))))))))))
noncomputable def ce (ts:List T):Option (T×T):=if ts.length=3 then dM bt 0 11 ts else none
noncomputable def bX:MS:=(aq (aD (ak 0 0 cc (ac 0 (ac 1 (ac 2 mNil)))) (ag 3))
  (aq (aD (mOp bd (mC (.int 1)) (ak 0 0 aj (ac 0 (ac 2 mNil)))) (ag 4))
  (aq (aD (mOp cX (aR [] (aa (mC (.int 0)) mNil)) (ah 1)) (ag 5))
  (aq (bS (aU (ac 4 mNil)) (ag 6)
  (bR [6,7] (aq (aD (aV [some 0,none,none,none,none,none,none,none,none] (aU (ac 1 mNil)) (ag 8) mYes (mOp bJ (ak 0 0 aj (ac 0 (aa (mC (.int 3)) mNil))) (mC (.int 1)))) (ag 7))
  (aq (aD (aV [none,none,none,none,none,some 5,none,some 7,none] (aU (ac 1 mNil)) (ag 8) mYes (mOp bJ (mB l8 (aa (mOp bJ (mC (.int 0)) (mC (.int 2))) (aa (mB nA (aa (mC (.int 2)) (aa (mOp bd (mIx (ah 5) (ah 8)) (mIx (ah 7) (ah 8))) mNil))) mNil))) (mIx (ah 5) (ah 8)))) (ag 7))
  (aq (mIf (aY (mOp eqT (mOp bd (ah 6) (mC (.int 1))) (ah 4))) (aD (aV [none,none,none,none,none,none,none,none,none] (mIt (ah 5)) (ag 8) mYes (mOp bJ (mC (.int 0)) (ah 8))) (ag 7)) mNext)
  (aq (aD (aV [none,none,none,none,none,some 5,none,some 7,none] (aU (ac 1 mNil)) (ag 8) mYes (mOp bd (mIx (ah 5) (ah 8)) (mIx (ah 7) (ah 8)))) (ag 5))
  (bp (cH 3 [] lc (mIx (ah 3) (ah 6)) (aa (mC (.int 0)) (aa (av [] (aa (mOp fq (mOp bd (ah 6) (mC (.int 1))) (ah 4)) (aa (mB g8 (ac 7 mNil)) mNil))) mNil))))))))))
  (bf (ah 3))))))
noncomputable def dt (ts:List T):Option (T×T):=if ts.length=3 then dM bX 0 8 ts else none
noncomputable def fS:MS:=(aq (kj 1 2 (aa (ak 0 0 aj (ac 0 (aa (mC (.int 8)) mNil))) (aa (ak 0 0 aj (ac 0 (aa (mC (.int 16)) mNil))) mNil)))
  (aq (aD (mIx (aR [] (aa (mC (.int 1)) (aa (mC (.int 2)) (aa (mC (.int 2)) (aa (mC (.int 2)) (aa (mC (.int 2)) (aa (mC (.int 1)) (aa (mC (.int 2)) (aa (mC (.int 3)) mNil))))))))) (mOp fq (ah 2) (mC (.int 8)))) (ag 3))
  (aq (aD (mOp bd (mC (.int 1)) (ak 0 0 aj (ac 0 (aa (mIx (aR [] (aa (mC (.int 3)) (aa (mC (.int 6)) mNil))) (mOp gF (ah 2) (mC (.int 8)))) mNil)))) (ag 4))
  (aq (mIf (aY (mOp (ge λi j=>decide (i<j)) (ah 1) (mC (.int 3)))) (bf (av [3] (ac 3 (aa (ak 0 0 dr (ac 0 (ac 3 (ac 4 mNil)))) mNil)))) mNext)
  (aq (mIf (aY (mOp (ge λi j=>decide (i<j)) (ah 1) (mC (.int 5)))) (bf (av [3] (ac 3 (aa (ak 0 0 cc (ac 0 (ac 3 (ac 4 mNil)))) mNil)))) mNext)
  (aq (mIf (aY (mOp eqT (ah 1) (mC (.int 5)))) (bf (av [3] (ac 3 (aa (ak 0 0 dt (ac 0 (ac 3 (ac 4 mNil)))) mNil)))) mNext)
  (aq (aD (mB l8 (aa (mC (.int 2)) (ac 3 mNil))) (ag 3))
  (bf (av [3] (ac 3 (aa (ak 0 0 ce (ac 0 (ac 3 (aa (mB l8 (ac 3 (aa (mB nA (ac 4 (aa (mC (.int 5)) mNil))) mNil))) mNil)))) mNil)))))))))))
noncomputable def iu (ts:List T):Option (T×T):=if ts.length=1 then dM fS 0 5 ts else none
noncomputable def fO:MS:=(aq (aD (mB r8 (ac 1 mNil)) (ag 2))
  (aq (eJ (aY (mOp (ge λi j=>decide (j<i)) (mB cC (ac 2 mNil)) (mC (.int 1))))
  (bR [3,4] (aq (aD (ak 0 0 aj (ac 0 (aa (mOp bJ (mB cC (ac 2 mNil)) (mC (.int 1))) mNil))) (ag 3))
  (bR [3,4] (mIf (l7 (aY (mOp (ge λi j=>decide (j<i)) (mB cC (ac 2 mNil)) (mC (.int 2)))) (aY (mOp eqT (ak 0 0 aj (ac 0 (aa (mC (.int 5)) mNil))) (mC (.int 0))))) (aq (aD (mB nA (ac 3 (aa (mOp bJ (mB cC (ac 2 mNil)) (mC (.int 3))) mNil))) (ag 3))
  (aD (aR [] (aa (av [] (aa (mC (.str "if")) (aa (mIx (ah 2) (ah 3)) (aa (mIx (ah 2) (mOp bd (ah 3) (mC (.int 1)))) (aa (mIx (ah 2) (mOp bd (ah 3) (mC (.int 2)))) mNil))))) mNil)) (gn 2 (ah 2) (ah 3) (mOp bd (ah 3) (mC (.int 3)))))) (aq (aD (mIx (aR [] (aa (mC (.str "+")) (aa (mC (.str "-")) (aa (mC (.str "*")) (aa (mC (.str "min")) (aa (mC (.str "max")) (aa (mC (.str "rest")) (aa (mC (.str "less")) mNil)))))))) (ak 0 0 aj (ac 0 (aa (mC (.int 7)) mNil)))) (ag 4))
  (aD (aR [] (aa (av [4] (aa (mC (.str "op")) (ac 4 (aa (mIx (ah 2) (ah 3)) (aa (mIx (ah 2) (mOp bd (ah 3) (mC (.int 1)))) mNil))))) mNil)) (gn 2 (ah 2) (ah 3) (mOp bd (ah 3) (mC (.int 2)))))))))))
  (bf (mIx (ah 2) (mC (.int 0))))))
noncomputable def ip (ts:List T):Option (T×T):=if ts.length=2 then dM fO 0 5 ts else none
noncomputable def fQ:MS:=(aq (aD (ak 0 0 iu (ac 0 mNil)) (cD (aI (ag 1) (aI (ag 2) mGNil))))
  (aq (aD (mIx (aR [] (aa (mOp bd (mC (.int 2)) (ak 0 0 aj (ac 0 (aa (mC (.int 9)) mNil)))) (aa (mOp bd (mC (.int 2)) (ak 0 0 aj (ac 0 (aa (mC (.int 998)) mNil)))) (aa (mOp bJ (mC (.int 1000000000)) (ak 0 0 aj (ac 0 (aa (mC (.int 9)) mNil)))) mNil)))) (ak 0 0 aj (ac 0 (aa (mC (.int 3)) mNil)))) (ag 3))
  (aq (aD (ak 0 0 ir (ac 0 (aa (mB cC (ac 2 mNil)) mNil))) (ag 4))
  (aq (aD (aR [] mNil) (ag 5))
  (aq (bS (aU (aa (mB cC (ac 2 mNil)) mNil)) (ag 6)
  (bR [6,7,8,9] (aq (aD (aV [none,none,none,none,some 4,none,none,none,none,none,none,none] (mIt (mSl (mIx (ah 2) (ah 6)) mNoPart (dl (mOp gF (mC (.int 16)) (mB cC (ac 2 mNil)))))) (cD (aI (ag 10) (aI (ag 11) mGNil))) mYes (av [11] (aa (mC (.str "at")) (aa (mIx (ah 4) (ah 10)) (ac 11 mNil))))) (ag 7))
  (aq (bS (aU (aa (mOp bd (ak 0 0 aj (ac 0 (aa (mC (.int 2)) mNil))) (mB pQ (aa (mOp eqT (ah 7) (aR [] mNil)) mNil))) mNil)) (ag 8)
  (bR [8,9] (aq (aD (ak 0 0 aj (ac 0 (aa (mIx (aR [] (aa (mC (.int 9)) (aa (mC (.int 1000000001)) mNil))) (ak 0 0 aj (ac 0 (aa (mC (.int 2)) mNil)))) mNil))) (ag 9))
  (bp (cH 7 [] lc (ah 7) (aa (ak 0 0 aj (ac 0 (aa (mOp bd (mB cC (ac 7 mNil)) (mC (.int 1))) mNil))) (aa (av [9] (aa (mC (.str "num")) (ac 9 mNil))) mNil)))))))
  (bp (cH 5 [] apT (ah 5) (aa (av [] (aa (mIx (ah 4) (ah 6)) (aa (ak 0 0 ip (ac 0 (ac 7 mNil))) mNil))) mNil)))))))
  (bf (av [1,3] (ac 1 (ac 3 (aa (mB g8 (ac 5 mNil)) mNil))))))))))
noncomputable def iq (ts:List T):Option (T×T):=if ts.length=1 then dM fQ 0 10 ts else none
end
end L2
namespace L2
open PySem PySem.Spec PyProof.Rows
inductive TyB (K:yF) (H:Hp):V->String->Prop where
 | non:TyB K H .non "NoneType"
 | bl (x:Bool):TyB K H (.bl x) "bool"
 | int (i:Int):TyB K H (.int i) "int"
 | str (x:Str):TyB K H (.str x) "str"
 | tup {a:Addr} {xs:List V}:SqT K H a xs->TyB K H (.ref a) "tuple"
 | lst {a:Addr} {xs:List V}:SqL K H a xs->TyB K H (.ref a) "list"
 | dK {a:Addr} {kvs:List (Key×V)}:H a=some (.dK kvs)->TyB K H (.ref a) "dict"
theorem TyB.kit {X:Cx}{pins:List (Addr×Obj)}{Z:St}{H:Hp}{s:Shared}{x:V}{u:Value}{n:String}(I:Inv X pins Z H s)(r:RelV x u)(t:TyB X.K H x n):∃Hq,PySem.W.KitX X.K u (.type n) Hq/\Hq s.heap/\u≠Value.builtin "__main__.__loader__#opaque" :=by
 cases t with
 | non=>cases (show u=Value.none from r);exact⟨_,PySem.W.kitx_none,True.intro,λz=>nomatch z⟩
 | bl y=>cases (show u=Value.bool y from r);exact⟨_,PySem.W.kitx_bool,True.intro,λz=>nomatch z⟩
 | int i=>obtain⟨t,q⟩:=(show∃t,u=Value.int i t from r);cases q;exact⟨_,PySem.W.kitx_int,True.intro,λz=>nomatch z⟩
 | str y=>obtain⟨t,q⟩:=(show∃t,u=Value.str y t from r);cases q;exact⟨_,PySem.W.kitx_str,True.intro,λz=>nomatch z⟩
 | @tup a xs hq=>
  cases r
  obtain⟨its,r,p,_⟩:=I.tuple hq
  obtain⟨o,h1,h2,_⟩:=p
  exact⟨_,PySem.W.kitx_tuple,⟨o,h1,h2⟩,λz=>nomatch z⟩
 | @lst a xs hq=>
  cases r
  obtain⟨its,r,p,_⟩:=I.list hq
  obtain⟨o,n,h1,h2,_⟩:=p
  exact⟨_,PySem.W.kitx_list,⟨o,h1,h2⟩,λz=>nomatch z⟩
 | @dK a kvs e=>
  cases r
  obtain⟨_,_,vs,_,p⟩:=(show ObjOk X.prog X.w H s.heap a (.dK kvs)from I.hok a _ e)
  obtain⟨o,es,ep,h1,h2,_⟩:=p
  exact⟨_,PySem.W.kitx_dict,⟨o,h1,h2.1⟩,λz=>nomatch z⟩
def Ax (K:yF)(n:String):List V->Hp->VK->Prop:=λxs H Q=>∃x t b,xs=[x,.ty n]/\TyB K H x t/\GL K (.type t) (.type n)=some b/\Q (.bl b) H
theorem rk {X:Cx}(n:String):CallR X (.builtin "isinstance") (Ax X.K n):=by
 intro pins s Z H xs us Q I rv h
 obtain⟨x,t,b,rfl,ty,e,q⟩:=h
 obtain⟨u,w',rfl,r1,r2⟩:=mT rv
 cases r2
 obtain⟨Hq,h1,h2,h3⟩:=ty.kit I r1
 exact PySem.W.kia_one h1 I.kIn h2 e h3 λtk=>⟨.bl b,H,I.tok tk,rfl,q⟩
noncomputable def tyN:T->Option String
 | .im .non=>some "NoneType"
 | .im (.bl _)=>some "bool"
 | .im (.int _)=>some "int"
 | .im (.str _)=>some "str"
 | .im (.tup _)=>some "tuple"
 | .im (.ls _)=>none
 | .im (.fd _ _)=>none
 | .tup _=>some "tuple"
 | .li _=>some "list"
 | .lst _=>some "list"
 | .di _=>some "dict"
 | .dc _=>some "dict"
 | .ins _ _=>none
noncomputable def lY (n m:String):Bool:=n==m||(n == "bool" && m == "int")
@[irreducible] noncomputable def l0 (ns:List String)(t:T):Option T:=(tyN t).map λn=>.im (.bl (ns.any (lY n)))
theorem AX {K:yF}{H:Hp}{x:V}{n:String}:∀{t:T},Rpx K H t x->tyN t=some n->TyB K H x n
 | .im i,r,e=>by
  have h:=ci r
  cases i<;>rw[RpI]at h<;>cases e
  ·rw[h];exact .non
  ·rw[h];exact .bl _
  ·rw[h];exact .int _
  ·rw[h];exact .str _
  ·obtain⟨a,xs,rfl,h,_⟩:=h;exact .tup h
 | .tup ts,r,e=>by cases e;obtain⟨a,xs,F,rfl,h,_⟩:=lB r;exact .tup h
 | .li ts,r,e=>by cases e;obtain⟨a,xs,rfl,h,_⟩:=bQ r;exact .lst (.inl h)
 | .lst ts,r,e=>by cases e;obtain⟨a,xs,F,rfl,h,_⟩:=fA r;exact .lst (.inl h)
 | .di ts,r,e=>by cases e;obtain⟨F,r⟩:=r;rw[Rp]at r;obtain⟨a,xs,rfl,⟨ys,h,_⟩,_⟩:=r;exact .dK h
 | .dc ts,r,e=>by cases e;obtain⟨F,r⟩:=r;rw[Rp]at r;obtain⟨a,xs,F',rfl,⟨ys,h,_⟩,_⟩:=r;exact .dK h
 | .ins C ts,r,e=>by cases e
noncomputable def nZ:List String:=["int","bool","str","tuple","list","dict"]
theorem pW {K:yF}{n m:String}{t:T}(e:tyN t=some n)(hm:m∈nZ):GL K (.type n) (.type m)=some (lY n m):=by
 have hn:n = "NoneType" ∨ n∈nZ:=by
  unfold tyN at e
  split at e<;>cases e<;>first|exact .inl rfl|exact .inr (by decide)
 rcases hn with rfl|hn
 ·rcases ycM hm with rfl|hm
  ·rfl
  rcases ycM hm with rfl|hm
  ·rfl
  rcases ycM hm with rfl|hm
  ·rfl
  rcases ycM hm with rfl|hm
  ·rfl
  rcases ycM hm with rfl|hm
  ·rfl
  rcases ycM hm with rfl|hm
  ·rfl
  cases hm
 ·have key:∀a∈nZ,∀b∈nZ,GL K (.type a) (.type b)=some (lY a b):=by
   intro a ha b hb
   simp only[nZ,Er,Ex,or_false]at ha hb
   rcases ha with rfl|rfl|rfl|rfl|rfl|rfl<;>rcases hb with rfl|rfl|rfl|rfl|rfl|rfl<;>rfl
  exact key n hn m hm
section
variable  {ι : Type}{C:ι->Cx}{P:Program}{W:World}{K:yF}{mg:Str->Option Value}{base:Heap}{k:Nat}{e:Expr}{m:ME}{pos:Pos}
theorem sV {n:String}(hn:n∈nZ):xJ K (λx H Q=>Ax K n [x,.ty n] H Q) (l0 [n]):=by
 intro H x tx t Q r e q
 unfold l0 at e
 cases e1:tyN tx with
 | none=>rw[e1]at e;cases e
 | some n'=>
  rw[e1]at e;cases e
  refine⟨x,n',_,rfl,AX r e1,pW e1 hn,?_⟩
  refine q _ H ⟨Same.refl H,[],?_,Fi,λa h=>by cases h⟩
  rw[Rp,RpI]
  exact⟨by simp,rfl⟩
theorem Cm {n:String}{x:Str}{p p1:Pos}(ck:CK C P W K mg base k)(hb:mg "isinstance" = none)(hx:mg x=none)(bx:bootBuiltins x=some (.type n))(hn:n∈nZ)(ha:QE C K e m)(hg:∀i,Gl (C i) "isinstance" :=by intro _;rfl)(hg1:∀i,Gl (C i) x:=by intro _;rfl)
  (hs:bO e=false:=by rfl) (hxn:x≠("__name__" : Str):=by decide) (hdb:(x==("__debug__" : Str))=false:=by decide):QE C K (.Call (.Name "isinstance" p) [e,.Name x p1] [] pos) (mUn (l0 [n]) m):=by
 obtain⟨ta,q,r⟩:=ha
 refine⟨_,λi=>il (r:=Ax K n) (by have:=rk (X:=C i) n;rw[ck.kk i]at this;exact this) (hg i) (by rw[ck.mg i];exact hb) boot_isinstance (gT (hs:=hs) (q i) (gT (vV (hg1 i) (by rw[ck.mg i];exact hx) bx (CS n) hxn hdb) sG)) (by show(!bO e&&true)=true;rw[hs];rfl),?_⟩
 exact AK (sV hn) r
end
theorem BX {QT1:T->Prop}{ns:List String}{t:T}{n:String}(h:tyN t=some n)(q:QT1 (.im (.bl (ns.any (lY n))))):W1 (l0 ns t) QT1:=⟨_,by unfold l0;rw[h];rfl,q⟩
theorem uZ {prog:Program}{w:World}{A:Around}{E:Value->Shared->Prop}{s:Shared}{z TI TO i1 i2:Addr}{fp1 fp2:List Addr}{n1 n2 i:Nat}{P1 P2:Nat->Value->Prop}{St1 St2:Nat->Heap->Prop}{a b:Value}{Q:Value->Shared->Prop}
  (D1:Draws prog w A i1 fp1 n1 P1 St1) (D2:Draws prog w A i2 fp2 n2 P2 St2)
  (hz:IsZip s.heap z TI TO .none) (hTI:IsPair s.heap TI (.ref i1) (.ref i2)) (hTO:IsPair s.heap TO a b) (s1:St1 i s.heap) (s2:St2 i s.heap) (l1:i<n1) (l2:i<n2)
  (ap:TI≠z/\TO≠z/\TI≠TO/\TI≠i1/\TI≠i2/\i1≠z/\i2≠z/\i1≠TO/\i2≠TO/\i1≠i2) (f1:z∉fp1/\TO∉fp1/\i2∉fp1) (f2:z∉fp2/\TO∉fp2/\i1∉fp2)
  (k:∀x y h' tk,P1 i x->P2 i y->IsZip h' z TI TO (rawInt s.heap.objs.size)->IsPair h' TO x y->St1 (i+1) h'->St2 (i+1) h'->IsPair h' s.heap.objs.size x y->h'.objs.size=s.heap.objs.size+1 →
   (∀c o,c≠z->c≠TO->c≠i1->c≠i2->s.heap.get? c=some o->h'.get? c=some o)->Q (.ref s.heap.objs.size) {s with heap:=h',toks:=tk}) :
  wpAny (model prog w) A (Builtin.«zip.__next__» ⟨[.ref z],[]⟩) (λfin s'=>∃v,fin=Fin.done (Flow.ret v)/\Q v s') E s:=by
 show wpAny _ _ (field (.ref z) 2 >>= _) _ _ _
 refine wpAny_bind (wpAny_field hz rfl (x:=.bool false) rfl ?_)
 refine wpAny_bind (wpAny_field hz rfl (x:=.ref TI) rfl ?_)
 refine wpAny_bind (wpAny_seqItems hTI rfl ?_)
 show wpAny _ _ (Builtin.SmallTypes.ownedTupleIsFree (.ref z) >>= _) _ _ _
 refine wpAny_bind ?_
 show wpAny _ _ (field (.ref z) 0 >>= _) _ _ _
 refine wpAny_bind (wpAny_field hz rfl (x:=.none) rfl ?_)
 refine wpAny_pure ?_
 show wpAny _ _ (rule _ >>= _) _ _ _
 refine wpAny_bind (wpAny_rule ?_)
 refine wpAny_bind (wpAny_field hz rfl (x:=.ref TO) rfl ?_)
 refine wpAny_bind (wpAny_setField hz rfl (Fp _) ?_)
 have hz1:=Heap.get?_update_self (Obj.mapFields λx_1=>x_1.setIfInBounds 0 Value.ellipsis) hz rfl
 have b1:=Heap.SameBut.update s.heap z (Obj.mapFields λx_1=>x_1.setIfInBounds 0 Value.ellipsis)
 generalize s.heap.update z (Obj.mapFields λx_1=>x_1.setIfInBounds 0 Value.ellipsis)=h1 at hz1 b1⊢
 obtain⟨a1,a2,a3,a4,a5,a6,a7,a8,a9,a10⟩:=ap
 refine wpAny_bind ?_
 show wpAny _ _ (forIn [(Value.ref i1,0),(Value.ref i2,1)] ((none:Option PySem.Fin),()) _) _ _ _
 rw[FF]
 refine wpAny_bind (wpAny_bind (wpAny_onRaise ?_))
 show wpAny _ _ (Builtin.SmallTypes.nextOf (.ref i1) >>= _) _ _ _
 refine wpAny_bind (D1.item i _ _ _ l1 (D1.frame i _ _ s1 λc hc o e=>(b1.2 c λq=>f1.1 (q▸hc)).trans e) λx h2 t2 px s1' b2=>?_)
 refine wpAny_pure ?_
 have b2':Heap.SameBut i1 h1 h2:=b2
 have hTO2:IsPair h2 TO a b:=((b2'.2 TO (Ne.symm a8)).trans (b1.2 TO a2)).trans hTO
 show wpAny _ _ (seqItems? (.ref TO) >>= _) _ _ _
 refine wpAny_bind (wpAny_seqItems hTO2 rfl ?_)
 refine wpAny_bind (wpAny_updateSeq_pair hTO2 λh3 hTO3 b3=>?_)
 have b3':Heap.SameBut TO h2 h3:=b3
 refine wpAny_bind (wpAny_letGo (wpAny_pure ?_))
 show wpAny _ _ (forIn [(Value.ref i2,1)] ((none:Option PySem.Fin),()) _) _ _ _
 rw[FF]
 refine wpAny_bind (wpAny_bind (wpAny_onRaise ?_))
 show wpAny _ _ (Builtin.SmallTypes.nextOf (.ref i2) >>= _) _ _ _
 have hTO3':IsPair h3 TO x b:=hTO3
 refine wpAny_bind (D2.item i _ _ _ l2 (D2.frame i _ _ s2 λc hc o e=>(b3'.2 c λq=>f2.2.1 (q▸hc)).trans ((b2'.2 c λq=>f2.2.2 (q▸hc)).trans ((b1.2 c λq=>f2.1 (q▸hc)).trans e))) λy h4 t4 py s2' b4=>?_)
 refine wpAny_pure ?_
 have b4':Heap.SameBut i2 h3 h4:=b4
 have hTO4:IsPair h4 TO x b:=(b4'.2 TO (Ne.symm a9)).trans hTO3'
 show wpAny _ _ (seqItems? (.ref TO) >>= _) _ _ _
 refine wpAny_bind (wpAny_seqItems hTO4 rfl ?_)
 refine wpAny_bind (wpAny_updateSeq_pair hTO4 λh5 hTO5 b5=>?_)
 have b5':Heap.SameBut TO h4 h5:=b5
 refine wpAny_bind (wpAny_letGo (wpAny_pure ?_))
 have hTO5':IsPair h5 TO x y:=hTO5
 show wpAny _ _ (forIn ([]:List (Value×Nat)) ((none:Option PySem.Fin),()) _) _ _ _
 rw[Hj]
 refine wpAny_pure ?_
 show wpAny _ _ (seqItems? (.ref TO) >>= _) _ _ _
 refine wpAny_bind (wpAny_seqItems hTO5' rfl ?_)
 refine wpAny_bind (wpAny_newTuple (items:=[x,y]) ?_ (by show 2<=sizeLine;decide))
 have hz5:h5.get? z=_:=(b5'.2 z (Ne.symm a2)).trans ((b4'.2 z (Ne.symm a7)).trans ((b3'.2 z (Ne.symm a2)).trans ((b2'.2 z (Ne.symm a6)).trans hz1)))
 have sz:h5.objs.size=s.heap.objs.size:=b5'.1.trans (b4'.1.trans (b3'.1.trans (b2'.1.trans b1.1)))
 have hz6:=Heap.get?_push_of_some {cls:=.type "tuple",data:=.seq [x,y].toArray} hz5
 have hn6:=Heap.get?_push_size h5 (o:={cls:=.type "tuple",data:=.seq [x,y].toArray}) rfl
 show wpAny _ _ (Builtin.SmallTypes.ownedTupleHandOut (.ref z) (.ref h5.objs.size) >>= _) _ _ _
 refine wpAny_bind ?_
 show wpAny _ _ (setField (.ref z) 0 (rawInt h5.objs.size) >>= _) _ _ _
 refine wpAny_bind (wpAny_setField hz6 rfl (Fp _) ?_)
 have hz7:=Heap.get?_update_self (Obj.mapFields λx_1=>x_1.setIfInBounds 0 (rawInt h5.objs.size)) hz6 rfl
 have b7:=Heap.SameBut.update (h5.push {cls:=.type "tuple",data:=.seq [x,y].toArray}) z (Obj.mapFields λx_1=>x_1.setIfInBounds 0 (rawInt h5.objs.size))
 generalize (h5.push {cls:=.type "tuple",data:=.seq [x,y].toArray}).update z (Obj.mapFields λx_1=>x_1.setIfInBounds 0 (rawInt h5.objs.size))=h7 at hz7 b7⊢
 refine wpAny_setField hz7 rfl (Nat.succ_lt_succ (Fp _)) ?_
 have hz8:=Heap.get?_update_self (Obj.mapFields λx_1=>x_1.setIfInBounds 1 (Value.bool false)) hz7 rfl
 have b8:=Heap.SameBut.update h7 z (Obj.mapFields λx_1=>x_1.setIfInBounds 1 (Value.bool false))
 generalize h7.update z (Obj.mapFields λx_1=>x_1.setIfInBounds 1 (Value.bool false))=h8 at hz8 b8⊢
 have zl:z<s.heap.objs.size:=Heap.lt_size hz
 have nz:h5.objs.size≠z:=by rw[sz];exact Fz zl
 have all8:∀c o,c≠z->h5.get? c=some o->h8.get? c=some o:=λc o n e=>(b8.2 c n).trans ((b7.2 c n).trans (Heap.get?_push_of_some _ e))
 refine wpAny_pure ⟨_,rfl,?_⟩
 have e9:(s.heap.objs.size)=h5.objs.size:=sz.symm
 rw[←e9]
 refine k x y h8 t4 px py ?_ ?_ ?_ ?_ ?_ ?_ ?_
 ·rw[e9];exact hz8
 ·exact all8 TO _ a2 hTO5'
 ·refine D1.frame _ _ _ s1' λc hc o e=>all8 c o (λq=>f1.1 (q▸hc)) ((b5'.2 c λq=>f1.2.1 (q▸hc)).trans ((b4'.2 c λq=>f1.2.2 (q▸hc)).trans ((b3'.2 c λq=>f1.2.1 (q▸hc)).trans e)))
 ·refine D2.frame _ _ _ s2' λc hc o e=>all8 c o (λq=>f2.1 (q▸hc)) ((b5'.2 c λq=>f2.2.1 (q▸hc)).trans e)
 ·rw[e9];exact(b8.2 _ nz).trans ((b7.2 _ nz).trans hn6)
 ·rw[b8.1,b7.1,Heap.size_push,e9]
 ·intro c o n1 n2 n3 n4 e
  exact all8 c o n1 ((b5'.2 c n2).trans ((b4'.2 c n4).trans ((b3'.2 c n2).trans ((b2'.2 c n3).trans ((b1.2 c n1).trans e)))))
theorem xI {prog:Program}{w:World}{A:Around}{E:Value->Shared->Prop}{s:Shared}{z TI TO i1 i2:Addr}{fp1 fp2:List Addr}{n1 n2 i:Nat}{P1 P2:Nat->Value->Prop}{St1 St2:Nat->Heap->Prop}{a b:Value}{Q:PySem.Fin->Shared->Prop}
  (D1:Draws prog w A i1 fp1 n1 P1 St1) (D2:Draws prog w A i2 fp2 n2 P2 St2)
  (hz:IsZip s.heap z TI TO .none) (hTI:IsPair s.heap TI (.ref i1) (.ref i2)) (hTO:IsPair s.heap TO a b) (s1:St1 i s.heap) (s2:St2 i s.heap) (l:i=n1∨(i<n1/\i=n2))
  (ap:TI≠z/\TO≠z/\TI≠TO/\TI≠i1/\TI≠i2/\i1≠z/\i2≠z/\i1≠TO/\i2≠TO/\i1≠i2) (f1:z∉fp1/\TO∉fp1/\i2∉fp1) (f2:z∉fp2/\TO∉fp2/\i1∉fp2)
  (k:∀h' e tk,(∀c o,c≠z->c≠TO->c≠i1->c≠i2->s.heap.get? c=some o->h'.get? c=some o)->(∃o,h'.get? e=some o/\o.cls=.type "StopIteration")->E (.ref e) {s with heap:=h',toks:=tk}) :
  wpAny (model prog w) A (Builtin.«zip.__next__» ⟨[.ref z],[]⟩) Q E s:=by
 show wpAny _ _ (field (.ref z) 2 >>= _) _ _ _
 refine wpAny_bind (wpAny_field hz rfl (x:=.bool false) rfl ?_)
 refine wpAny_bind (wpAny_field hz rfl (x:=.ref TI) rfl ?_)
 refine wpAny_bind (wpAny_seqItems hTI rfl ?_)
 show wpAny _ _ (Builtin.SmallTypes.ownedTupleIsFree (.ref z) >>= _) _ _ _
 refine wpAny_bind ?_
 show wpAny _ _ (field (.ref z) 0 >>= _) _ _ _
 refine wpAny_bind (wpAny_field hz rfl (x:=.none) rfl ?_)
 refine wpAny_pure ?_
 show wpAny _ _ (rule _ >>= _) _ _ _
 refine wpAny_bind (wpAny_rule ?_)
 refine wpAny_bind (wpAny_field hz rfl (x:=.ref TO) rfl ?_)
 refine wpAny_bind (wpAny_setField hz rfl (Fp _) ?_)
 have hz1:=Heap.get?_update_self (Obj.mapFields λx_1=>x_1.setIfInBounds 0 Value.ellipsis) hz rfl
 have b1:=Heap.SameBut.update s.heap z (Obj.mapFields λx_1=>x_1.setIfInBounds 0 Value.ellipsis)
 generalize s.heap.update z (Obj.mapFields λx_1=>x_1.setIfInBounds 0 Value.ellipsis)=h1 at hz1 b1⊢
 obtain⟨a1,a2,a3,a4,a5,a6,a7,a8,a9,a10⟩:=ap
 refine wpAny_bind ?_
 show wpAny _ _ (forIn [(Value.ref i1,0),(Value.ref i2,1)] ((none:Option PySem.Fin),()) _) _ _ _
 rw[FF]
 refine wpAny_bind (wpAny_bind (wpAny_onRaise ?_))
 show wpAny _ _ (Builtin.SmallTypes.nextOf (.ref i1) >>= _) _ _ _
 have q1:St1 i h1:=D1.frame i _ _ s1 λc hc o e=>(b1.2 c λq=>f1.1 (q▸hc)).trans e
 have stop:∀(hx:Heap) (e:Addr) (tk:Nat) (zo:Obj),hx.get? z=some zo->(∃vs,zo.data=.fields vs/\0<vs.size)->zo.cls=.type "zip" → (∀c o,c≠z->c≠TO->c≠i1->c≠i2->s.heap.get? c=some o->hx.get? c=some o)->(∃o,hx.get? e=some o/\o.cls=.type "StopIteration") →
   wpAny (model prog w) A (setField (.ref z) 0 Value.none) (λ_ s''=>E (.ref e) s'') E {s with heap:=hx,toks:=tk}:=by
  intro hx e tk zo g1 g2 g3 g4 g5
  obtain⟨vs,d,lz⟩:=g2
  refine wpAny_setField g1 d lz ?_
  have b9:=Heap.SameBut.update hx z (Obj.mapFields λx_1=>x_1.setIfInBounds 0 Value.none)
  obtain⟨o,g6,g7⟩:=g5
  have nez:e≠z:=λq=>by
   subst q
   rw[g1]at g6;cases g6
   rw[g3]at g7
   exact absurd g7 (by decide +kernel)
  exact k _ e tk (λc o n1 n2 n3 n4 h=>(b9.2 c n1).trans (g4 c o n1 n2 n3 n4 h)) ⟨o,(b9.2 e nez).trans g6,g7⟩
 rcases l with rfl|⟨l1,rfl⟩
 ·refine wpAny_bind (D1.done _ _ _ q1 λh2 e x2 st=>?_)
  exact stop h2 e _ _ (x2 z _ (Ne.symm a6) hz1) ⟨_,rfl,Fp _⟩ rfl (λc o n1 n2 n3 n4 h=>x2 c o n3 ((b1.2 c n1).trans h)) st
 ·refine wpAny_bind (D1.item i _ _ _ l1 q1 λx h2 t2 px s1' b2=>?_)
  refine wpAny_pure ?_
  have b2':Heap.SameBut i1 h1 h2:=b2
  have hTO2:IsPair h2 TO a b:=((b2'.2 TO (Ne.symm a8)).trans (b1.2 TO a2)).trans hTO
  show wpAny _ _ (seqItems? (.ref TO) >>= _) _ _ _
  refine wpAny_bind (wpAny_seqItems hTO2 rfl ?_)
  refine wpAny_bind (wpAny_updateSeq_pair hTO2 λh3 hTO3 b3=>?_)
  have b3':Heap.SameBut TO h2 h3:=b3
  refine wpAny_bind (wpAny_letGo (wpAny_pure ?_))
  show wpAny _ _ (forIn [(Value.ref i2,1)] ((none:Option PySem.Fin),()) _) _ _ _
  rw[FF]
  refine wpAny_bind (wpAny_bind (wpAny_onRaise ?_))
  show wpAny _ _ (Builtin.SmallTypes.nextOf (.ref i2) >>= _) _ _ _
  refine wpAny_bind (D2.done _ _ _ (D2.frame i _ _ s2 λc hc o e=>(b3'.2 c λq=>f2.2.1 (q▸hc)).trans ((b2'.2 c λq=>f2.2.2 (q▸hc)).trans ((b1.2 c λq=>f2.1 (q▸hc)).trans e))) λh4 e x4 st=>?_)
  exact stop h4 e _ _ (x4 z _ (Ne.symm a7) ((b3'.2 z (Ne.symm a2)).trans ((b2'.2 z (Ne.symm a6)).trans hz1))) ⟨_,rfl,Fp _⟩ rfl (λc o n1 n2 n3 n4 h=>x4 c o n4 ((b3'.2 c n2).trans ((b2'.2 c n3).trans ((b1.2 c n1).trans h)))) st
theorem jO {prog:Program}{w:World}{A:Around}{E:Value->Shared->Prop}{s:Shared}{z TI TO i1 i2:Addr}{fp1 fp2:List Addr}{n1 n2 i:Nat}{P1 P2:Nat->Value->Prop}{St1 St2:Nat->Heap->Prop}{a b:Value}{Q:Option Value->Shared->Prop}
  (D1:Draws prog w A.in1 i1 fp1 n1 P1 St1) (D2:Draws prog w A.in1 i2 fp2 n2 P2 St2)
  (hz:IsZip s.heap z TI TO .none) (hTI:IsPair s.heap TI (.ref i1) (.ref i2)) (hTO:IsPair s.heap TO a b) (s1:St1 i s.heap) (s2:St2 i s.heap) (l1:i<n1) (l2:i<n2)
  (ap:TI≠z/\TO≠z/\TI≠TO/\TI≠i1/\TI≠i2/\i1≠z/\i2≠z/\i1≠TO/\i2≠TO/\i1≠i2) (f1:z∉fp1/\TO∉fp1/\i2∉fp1) (f2:z∉fp2/\TO∉fp2/\i1∉fp2)
  (k:∀x y h' tk,P1 i x->P2 i y->IsZip h' z TI TO (rawInt s.heap.objs.size)->IsPair h' TO x y->St1 (i+1) h'->St2 (i+1) h'->IsPair h' s.heap.objs.size x y->h'.objs.size=s.heap.objs.size+1 →
   (∀c o,c≠z->c≠TO->c≠i1->c≠i2->s.heap.get? c=some o->h'.get? c=some o)->Q (some (.ref s.heap.objs.size)) {s with heap:=h',toks:=tk}) :
  wpAny (model prog w) A (pyNext (.ref z)) Q E s:=by
 have hT:s.TypeIs (.ref z) "zip" :=⟨_,hz,rfl⟩
 unfold pyNext
 refine wpAny_bind (wpAny_attempt (wpAny_callSpecial?_slot (name:=Str.ofString "__next__") hT F.slot_zip_next (wpAny_call_entry F.slot_zip_next hT F.entry_zip_next ?_ (F.args_zip_next_1 _))))
 refine uZ D1 D2 hz hTI hTO s1 s2 l1 l2 ap f1 f2 λx y h' tk c1 c2 c3 c4 c5 c6 c7 c8 c9=>?_
 exact wpAny_pure (k x y h' tk c1 c2 c3 c4 c5 c6 c7 c8 c9)
theorem gR {prog:Program}{w:World}{A:Around}{E:Value->Shared->Prop}{s:Shared}{z TI TO i1 i2:Addr}{fp1 fp2:List Addr}{n1 n2 i:Nat}{P1 P2:Nat->Value->Prop}{St1 St2:Nat->Heap->Prop}{a b:Value}{Q:Option Value->Shared->Prop}
  (D1:Draws prog w A.in1 i1 fp1 n1 P1 St1) (D2:Draws prog w A.in1 i2 fp2 n2 P2 St2)
  (hz:IsZip s.heap z TI TO .none) (hTI:IsPair s.heap TI (.ref i1) (.ref i2)) (hTO:IsPair s.heap TO a b) (s1:St1 i s.heap) (s2:St2 i s.heap) (l:i=n1∨(i<n1/\i=n2))
  (ap:TI≠z/\TO≠z/\TI≠TO/\TI≠i1/\TI≠i2/\i1≠z/\i2≠z/\i1≠TO/\i2≠TO/\i1≠i2) (f1:z∉fp1/\TO∉fp1/\i2∉fp1) (f2:z∉fp2/\TO∉fp2/\i1∉fp2)
  (k:∀h' tk,(∀c o,c≠z->c≠TO->c≠i1->c≠i2->s.heap.get? c=some o->h'.get? c=some o)->Q none {s with heap:=h',toks:=tk}) :
  wpAny (model prog w) A (pyNext (.ref z)) Q E s:=by
 have hT:s.TypeIs (.ref z) "zip" :=⟨_,hz,rfl⟩
 unfold pyNext
 refine wpAny_bind (wpAny_attempt (wpAny_callSpecial?_slot (name:=Str.ofString "__next__") hT F.slot_zip_next (wpAny_call_entry F.slot_zip_next hT F.entry_zip_next ?_ (F.args_zip_next_1 _))))
 refine xI D1 D2 hz hTI hTO s1 s2 l ap f1 f2 λh' e tk kk st=>?_
 obtain⟨o,ho,hc⟩:=st
 refine wpAny_bind (wpAny_isInstance (T:="StopIteration") (b:=true) ⟨o,ho,hc⟩ isSubtype_stop ?_)
 exact wpAny_pure (k _ _ kk)
def SeqK (kd:Bool)(h:Heap)(l:Addr)(els:Array Value):Prop:=match kd with|true=>h.IsList l els|false=>h.IsTuple l els
def IterK (kd:Bool)(h:Heap)(it l:Addr)(k:Nat):Prop:=match kd with|true=>h.IsListIter it l k|false=>h.IsTupleIter it l k
noncomputable def itC (kd:Bool):String:=match kd with|true=>"list_iterator" | false=>"tuple_iterator"
noncomputable abbrev itO (kd:Bool) (l:Addr):Obj:={cls:=.type (itC kd),data:=.fields #[.ref l,.int 0 0]}
theorem oY {prog:Program}{w:World}{A:Around}{E:Value->Shared->Prop}{s:Shared}{l:Addr}{els:Array Value}{Q:Value->Shared->Prop}(kd:Bool)(h:SeqK kd s.heap l els)(q:Q (.ref s.heap.objs.size) {s with heap:=s.heap.push (itO kd l)}):wpAny (model prog w) A (pyIter (.ref l)) Q E s:=by
 cases kd with
 | true=>exact wpAny_pyIter_list h q
 | false=>exact wpAny_pyIter_tuple h q
theorem SeqK.keep {kd:Bool}{h h':Heap}{l:Addr}{els:Array Value}(x:SeqK kd h l els)(k:∀o,h.get? l=some o->h'.get? l=some o):SeqK kd h' l els:=by
 cases kd with
 | true=>obtain⟨o,e,r⟩:=x;exact⟨o,k o e,r⟩
 | false=>obtain⟨o,e,r⟩:=x;exact⟨o,k o e,r⟩
theorem SeqK.get {kd:Bool}{h:Heap}{l:Addr}{els:Array Value}(x:SeqK kd h l els):∃o,h.get? l=some o:=by
 cases kd with
 | true=>obtain⟨o,e,r⟩:=x;exact⟨o,e⟩
 | false=>obtain⟨o,e,r⟩:=x;exact⟨o,e⟩
noncomputable abbrev zK2 (h:Heap) (k1 k2:Bool) (l1 l2:Addr):Heap:=(h.push (itO k1 l1)).push (itO k2 l2)
noncomputable abbrev zK3 (h:Heap) (k1 k2:Bool) (l1 l2:Addr):Heap:=(zK2 h k1 k2 l1 l2).push {cls:=.type "tuple",data:=.seq #[.ref h.objs.size,.ref (h.push (itO k1 l1)).objs.size]}
noncomputable abbrev zK4 (h:Heap) (k1 k2:Bool) (l1 l2:Addr):Heap:=(zK3 h k1 k2 l1 l2).push {cls:=.type "tuple",data:=.seq #[.none,.none]}
noncomputable abbrev zK5 (h:Heap) (k1 k2:Bool) (l1 l2:Addr):Heap:=(zK4 h k1 k2 l1 l2).push {cls:=.type "zip",data:=.fields #[.none,.bool false,.bool false,.ref (zK2 h k1 k2 l1 l2).objs.size,.ref (zK3 h k1 k2 l1 l2).objs.size]}
theorem ny (k1 k2:Bool)(l1 l2:Addr)(xs ys:Array Value) :
  Meets (Builtin.«zip.__new__» ⟨[.type "zip",.ref l1,.ref l2],[]⟩) (λ_ R s=>SeqK k1 s.heap l1 xs/\SeqK k2 s.heap l2 ys/\R (.ok (.ret (.ref (zK4 s.heap k1 k2 l1 l2).objs.size))) {s with heap:=zK5 s.heap k1 k2 l1 l2}):=
 .of_wp λpr ww AA RR sh hyp=>by
  obtain⟨hp,g,d,tk,os⟩:=sh;obtain⟨h1,h2,hyp⟩:=hyp
  have hsubZ:=sub_zip
  have h2':SeqK k2 (hp.push (itO k1 l1)) l2 ys:=h2.keep λo e=>Heap.get?_push_of_some _ e
  wp_walk using oY k1 h1,oY k2 h2'
  exact⟨_,rfl,hyp⟩
theorem pF {prog:Program}{w:World}{A:Around}{E:Value->Shared->Prop}{s:Shared}{k1 k2:Bool}{l1 l2:Addr}{xs ys:Array Value}{Q:Value->Shared->Prop}(h1:SeqK k1 s.heap l1 xs)(h2:SeqK k2 s.heap l2 ys)
  (kk:∀h',IsZip h' (s.heap.objs.size+4) (s.heap.objs.size+2) (s.heap.objs.size+3) .none->IsPair h' (s.heap.objs.size+2) (.ref s.heap.objs.size) (.ref (s.heap.objs.size+1))->IsPair h' (s.heap.objs.size+3) .none .none →
   IterK k1 h' s.heap.objs.size l1 0->IterK k2 h' (s.heap.objs.size+1) l2 0->h'.objs.size=s.heap.objs.size+5->(∀c o,s.heap.get? c=some o->h'.get? c=some o)->Q (.ref (s.heap.objs.size+4)) {s with heap:=h'}) :
  wpAny (model prog w) A (call (.type "zip") [.ref l1,.ref l2]) Q E s:=by
 refine callType_new F.called_zip (by decide) (F.typeCall_zip_2 _ _) (F.newCall_zip_2 _ _) (λobj=>F.args_object_init_3 obj _ _) F.entry_zip_new (ny k1 k2 l1 l2 xs ys) ⟨h1,h2,?_⟩
 have z1:(s.heap.push (itO k1 l1)).objs.size=s.heap.objs.size+1:=Heap.size_push ..
 have z2:(zK2 s.heap k1 k2 l1 l2).objs.size=s.heap.objs.size+2:=by rw[zK2,Heap.size_push,z1]
 have z3:(zK3 s.heap k1 k2 l1 l2).objs.size=s.heap.objs.size+3:=by rw[zK3,Heap.size_push,z2]
 have z4:(zK4 s.heap k1 k2 l1 l2).objs.size=s.heap.objs.size+4:=by rw[zK4,Heap.size_push,z3]
 have g0:(s.heap.push (itO k1 l1)).get? s.heap.objs.size=some (itO k1 l1):=Heap.get?_push_size _ rfl
 have g1:(zK2 s.heap k1 k2 l1 l2).get? (s.heap.objs.size+1)=some (itO k2 l2):=by have:=Heap.get?_push_size (s.heap.push (itO k1 l1)) (o:=itO k2 l2) rfl;rw[z1]at this;exact this
 have g2:=Heap.get?_push_size (zK2 s.heap k1 k2 l1 l2) (o:={cls:=.type "tuple",data:=.seq #[.ref s.heap.objs.size,.ref (s.heap.push (itO k1 l1)).objs.size]}) rfl
 have g3:=Heap.get?_push_size (zK3 s.heap k1 k2 l1 l2) (o:={cls:=.type "tuple",data:=.seq #[.none,.none]}) rfl
 have g4:=Heap.get?_push_size (zK4 s.heap k1 k2 l1 l2) (o:={cls:=.type "zip",data:=.fields #[.none,.bool false,.bool false,.ref (zK2 s.heap k1 k2 l1 l2).objs.size,.ref (zK3 s.heap k1 k2 l1 l2).objs.size]}) rfl
 rw[z2,z1]at g2
 rw[z3]at g3
 rw[z4,z2,z3]at g4
 have up:∀c o,(zK2 s.heap k1 k2 l1 l2).get? c=some o->(zK5 s.heap k1 k2 l1 l2).get? c=some o:=λc o e=>Heap.get?_push_of_some _ (Heap.get?_push_of_some _ (Heap.get?_push_of_some _ e))
 have it:∀(kd:Bool) (h:Heap) (a l:Addr),h.get? a=some (itO kd l)->IterK kd h a l 0:=λkd h a l e=>by
  cases kd
  ·exact⟨_,e,rfl,rfl⟩
  ·exact⟨_,e,rfl,rfl⟩
 show _/\_
 rw[z4]
 have e5:(zK5 s.heap k1 k2 l1 l2).get? (s.heap.objs.size+4)=some {cls:=.type "zip",data:=.fields #[.none,.bool false,.bool false,.ref (s.heap.objs.size+2),.ref (s.heap.objs.size+3)]}:=by
  show(Heap.push _ _).get? _=_
  rw[z2,z3]
  exact g4
 refine⟨⟨_,e5,rfl⟩,kk _ e5 ?_ ?_ (it _ _ _ _ (up _ _ (Heap.get?_push_of_some _ g0))) (it _ _ _ _ (up _ _ g1)) ?_ λc o e=>up c o (Heap.get?_push_of_some _ (Heap.get?_push_of_some _ e))⟩
 ·refine Heap.get?_push_of_some _ (Heap.get?_push_of_some _ ?_)
  show(Heap.push _ _).get? _=_
  rw[z1]
  exact g2
 ·exact Heap.get?_push_of_some _ g3
 ·rw[zK5,Heap.size_push,z4]
theorem kW {prog:Program}{w:World}{A:Around}(hh:A.handled=none)(kd:Bool)(it l:Addr)(ne:l≠it)(els:Array Value):Draws prog w A it [it,l] els.size (λk v=>els[k]?=some v) (λk h=>IterK kd h it l k/\SeqK kd h l els):=by
 cases kd with
 | true=>exact Draws.list hh it l ne els
 | false=>exact lS hh it l ne els
theorem rD {prog:Program}{w:World}{A:Around}(hh:A.handled=none)(kd:Bool)(it l:Addr)(els:Array Value)(i:Nat)(hi:els[i]?=none):Draws prog w A it [it,l] i (λk v=>els[k]?=some v) (λk h=>k=i/\IterK kd h it l k/\SeqK kd h l els) where
 live:=λk h st=>by
  obtain⟨_,st,_⟩:=st
  cases kd
  ·obtain⟨o,e,_⟩:=st;exact⟨o,e⟩
  ·obtain⟨o,e,_⟩:=st;exact⟨o,e⟩
 frame:=λk h h' st hk=>by
  obtain⟨e,st,sq⟩:=st
  refine⟨e,?_,sq.keep λo e=>hk l (by simp) o e⟩
  cases kd
  ·obtain⟨o,e,r⟩:=st;exact⟨o,hk it (by simp) o e,r⟩
  ·obtain⟨o,e,r⟩:=st;exact⟨o,hk it (by simp) o e,r⟩
 item:=λk s Q E hlt st _=>by
  have:=st.1
  omega
 done:=λs Q E st kk=>by
  obtain⟨_,st,sq⟩:=st
  cases kd with
  | true=>exact wpAny_nextOf_list_end hh st sq hi kk
  | false=>exact gS hh st sq hi kk
def SqK (K:yF)(H:Hp)(kd:Bool)(a:Addr)(xs:List V):Prop:=match kd with|true=>SqL K H a xs|false=>SqT K H a xs
theorem Inv.seqK {X:Cx}{pins:List (Addr×Obj)}{Z:St}{H:Hp}{s:Shared}{kd:Bool}{a:Addr}{xs:List V}(I:Inv X pins Z H s)(h:SqK X.K H kd a xs):∃its:List Value,Vals xs its/\SeqK kd s.heap a its.toArray:=by
 cases kd with
 | true=>
  obtain⟨its,rv,p,_⟩:=I.list h
  obtain⟨o,n,h1,h2,h3,h4⟩:=p
  exact⟨its,rv,o,h1,h2,n,h4⟩
 | false=>
  obtain⟨its,rv,p,_⟩:=I.tuple h
  exact⟨its,rv,p⟩
theorem Inv.seqK_inj {X:Cx}{pins:List (Addr×Obj)}{Z:St}{H:Hp}{s:Shared}{kd:Bool}{a:Addr}{xs ys:List V}(I:Inv X pins Z H s)(h:SqK X.K H kd a xs)(h':SqK X.K H kd a ys):xs=ys:=by
 cases kd with
 | true=>exact I.list_inj h h'
 | false=>exact I.tuple_inj h h'
noncomputable def Itz (K:yF) (k1 k2:Bool) (a1 a2:Addr):It:=
 ⟨λi H=>∃xs ys x y,SqK K H k1 a1 xs/\SqK K H k2 a2 ys/\xs[i]?=some x/\ys[i]?=some y,
   λi H v H'=>∃p x y,H p=none/\v=.ref p/\H'=upd H p (.tup [x,y])/\(∀xs,SqK K H k1 a1 xs->xs[i]?=some x)/\∀ys,SqK K H k2 a2 ys->ys[i]?=some y,
   λi H=>∃xs ys,SqK K H k1 a1 xs/\SqK K H k2 a2 ys/\(xs.length<=i∨ys.length<=i)⟩
theorem Inv.turnedL {X:Cx}{pins:List (Addr×Obj)}{Z:St}{H:Hp}{s:Shared}{h':Heap}{t':Nat}{fs:List Addr}(I:Inv X pins Z H s)(k:∀b o,b∉fs->s.heap.get? b=some o->h'.get? b=some o)(f:∀b∈fs,dQ X pins H b):Inv X pins Z H {s with heap:=h',toks:=t'}:=by
 have nit:∀b u,H b=some u->b∉fs:=λb u e z=>by rw[(f b z).1]at e;cases e
 have nl:X.env.locals∉fs:=λz=>(f _ z).2.1 rfl
 refine I.step (g':=s.gens) (d':=s.drawn) (ch:=fs) (λb hb=>?_) (λb o _ _ hc e _=>k b o hc e) (λb o _ _ hc e _=>⟨o.slots,k b o hc e⟩) (λ_ _ _ _ n=>n)
  (λb o hc e=>⟨o,k b o hc e⟩) (λ_ _ e=>e) (λ_ _ _ e=>e) (λb ps e=>⟨#[],by rw[e];simp⟩) (λm hm=>?_) (λb u e=>?_) I.bare
 ·obtain⟨_,hL,_,h1,h2,h3⟩:=f b hb
  exact⟨h1,hL,h2,h3⟩
 ·obtain⟨o,es,ep,ho,r⟩:=hm
  exact⟨o,es,ep,k _ o nl ho,r⟩
 ·refine(I.hok b u e).stay (λc v hc q=>k c v ?_ q) (λ_ q=>q) λ_ _ q=>q
  rcases hc with z|z
  ·rw[z];exact nit b u e
  ·exact nit c _ z
theorem IterK.get {kd:Bool}{h:Heap}{it l:Addr}{k:Nat}(x:IterK kd h it l k):∃o,h.get? it=some o/\∀v,o.data ≠ .cell v:=by
 cases kd with
 | true=>obtain⟨o,e,c,d⟩:=x;exact⟨o,e,λv z=>by rw[d]at z;cases z⟩
 | false=>obtain⟨o,e,c,d⟩:=x;exact⟨o,e,λv z=>by rw[d]at z;cases z⟩
theorem IterK.keep {kd:Bool}{h h':Heap}{it l:Addr}{k:Nat}(x:IterK kd h it l k)(kp:∀o,h.get? it=some o->h'.get? it=some o):IterK kd h' it l k:=by
 cases kd with
 | true=>obtain⟨o,e,r⟩:=x;exact⟨o,kp o e,r⟩
 | false=>obtain⟨o,e,r⟩:=x;exact⟨o,kp o e,r⟩
structure ZAp (z TI TO i1 i2 l1 l2:Addr):Prop where
 ap:TI≠z/\TO≠z/\TI≠TO/\TI≠i1/\TI≠i2/\i1≠z/\i2≠z/\i1≠TO/\i2≠TO/\i1≠i2
 f1:z∉[i1,l1]/\TO∉[i1,l1]/\i2∉[i1,l1]
 f2:z∉[i2,l2]/\TO∉[i2,l2]/\i1∉[i2,l2]
 n1:l1≠i1
 n2:l2≠i2
theorem uJ {P:Program}{w:World}{K:yF}{elts:List Expr}{k0:Nat}{pos:Pos}(k1 k2:Bool){z TI TO i1 i2 l1 l2:Addr}(A:ZAp z TI TO i1 i2 l1 l2) :
  Turn P w K (.Tuple elts k0 pos) (Itz K k1 k2 l1 l2) [z,TI,TO,i1,i2] z (λi h=>IsZip h z TI TO .none/\IsPair h TI (.ref i1) (.ref i2)/\(∃a b,IsPair h TO a b)/\IterK k1 h i1 l1 i/\IterK k2 h i2 l2 i) where
 mem:=by simp
 obj:=λi h st b hb=>by
  obtain⟨s1,s2,⟨a,c,s3⟩,s4,s5⟩:=st
  simp only[Er,Ex,or_false]at hb
  rcases hb with rfl|rfl|rfl|rfl|rfl
  ·exact⟨_,s1,λv z=>by cases z⟩
  ·exact⟨_,s2,λv z=>by cases z⟩
  ·exact⟨_,s3,λv z=>by cases z⟩
  ·exact s4.get
  ·exact s5.get
 keep:=λi h h' st k=>by
  obtain⟨s1,s2,⟨a,c,s3⟩,s4,s5⟩:=st
  exact⟨k z (by simp) _ s1,k TI (by simp) _ s2,⟨a,c,k TO (by simp) _ s3⟩,s4.keep λo e=>k i1 (by simp) o e,s5.keep λo e=>k i2 (by simp) o e⟩
 item:=by
  intro X hP hw hK hc i pins s Z H E I hf st hg
  subst hP hw hK
  obtain⟨xs,ys,x,y,hq1,hq2,hx,hy⟩:=hg
  obtain⟨its1,rv1,p1⟩:=I.seqK hq1
  obtain⟨its2,rv2,p2⟩:=I.seqK hq2
  obtain⟨u1,hu1,ru1⟩:=rv1.get hx
  obtain⟨u2,hu2,ru2⟩:=rv2.get hy
  obtain⟨s1,s2,⟨a,c,s3⟩,s4,s5⟩:=st
  have hn1:i<its1.toArray.size:=by rw[DT];exact(DR.mp hu1).1
  have hn2:i<its2.toArray.size:=by rw[DT];exact(DR.mp hu2).1
  have hh:X.A.in1.handled=none:=I.ok.hd hc
  refine jO (kW (A:=X.A.in1) hh k1 i1 l1 A.n1 its1.toArray) (kW (A:=X.A.in1) hh k2 i2 l2 A.n2 its2.toArray) s1 s2 s3 ⟨s4,p1⟩ ⟨s5,p2⟩ hn1 hn2 A.ap A.f1 A.f2 λx' y' h1 tk px py hz1 hTO1 st1 st2 hpr hsz kk=>?_
  have ex:x'=u1:=by
   have e1:its1.toArray[i]?=some x':=px
   have e2:its1.toArray[i]?=some u1:=by simpa using hu1
   rw[e1]at e2
   exact Em.inj e2
  have ey:y'=u2:=by
   have e1:its2.toArray[i]?=some y':=py
   have e2:its2.toArray[i]?=some u2:=by simpa using hu2
   rw[e1]at e2
   exact Em.inj e2
  subst ex ey
  refine⟨_,rfl,wpAny_letOwnedTupleGo_zip hz1 λh2 hz2 sb=>?_⟩
  have sb':Heap.SameBut z h1 h2:=sb
  have hzl:z<s.heap.objs.size:=Heap.lt_size s1
  obtain⟨a1,a2,a3,a4,a5,a6,a7,a8,a9,a10⟩:=A.ap
  have k2':∀b o,b∉[z,TO,i1,i2]->s.heap.get? b=some o->h2.get? b=some o:=λb o n q=>by
   simp only[Er,Ex,or_false,not_or]at n
   exact(sb'.2 b n.1).trans (kk b o n.1 n.2.1 n.2.2.1 n.2.2.2 q)
  have I1:Inv X pins Z H {s with heap:=h2,toks:=tk}:=I.turnedL k2' λb hb=>hf b (by
   simp only[Er,Ex,or_false]at hb⊢
   rcases hb with h|h|h|h<;>simp[h])
  have fz:dQ X pins H s.heap.objs.size:=I.fpOk (DY _) (I.hok.fresh (DY _))
  have hT2:h2.get? s.heap.objs.size=some {cls:=.type "tuple",data:=.seq #[x',y']}:=(sb'.2 _ (Fz hzl)).trans hpr
  have I2:Inv X pins Z (upd H s.heap.objs.size (.tup [x,y])) {s with heap:=h2,toks:=tk}:=I1.track fz (.inr I.sz) I.sz ⟨by show 2<=sizeLine;decide,[x',y'],.cons ru1 (.cons ru2 .nil),⟨_,hT2,⟨rfl,rfl⟩,_,rfl⟩⟩
  refine⟨.ref s.heap.objs.size,_,I2,rfl,⟨_,x,y,fz.1,rfl,rfl,λys' hy'=>by rw[I.seqK_inj hy' hq1];exact hx,λys' hy'=>by rw[I.seqK_inj hy' hq2];exact hy⟩,⟨hz2,?_,⟨_,_,(sb'.2 TO a2).trans hTO1⟩,st1.1.keep λo e=>(sb'.2 i1 a6).trans e,st2.1.keep λo e=>(sb'.2 i2 a7).trans e⟩,λb hb=>?_⟩
  ·exact(sb'.2 TI a1).trans (kk TI _ a1 a3 a4 a5 s2)
  ·have hbo:∃o,s.heap.get? b=some o:=by
    simp only[Er,Ex,or_false]at hb
    rcases hb with rfl|rfl|rfl|rfl|rfl
    ·exact⟨_,s1⟩
    ·exact⟨_,s2⟩
    ·exact⟨_,s3⟩
    ·obtain⟨o,e,_⟩:=s4.get;exact⟨o,e⟩
    ·obtain⟨o,e,_⟩:=s5.get;exact⟨o,e⟩
   obtain⟨o,q⟩:=hbo
   rw[upd_ne (Ed (Heap.lt_size q))]
   exact(hf b hb).1
 done:=by
  intro X hP hw hK hc i pins s Z H E I hf st hg
  subst hP hw hK
  obtain⟨xs,ys,hq1,hq2,hl⟩:=hg
  obtain⟨its1,rv1,p1⟩:=I.seqK hq1
  obtain⟨its2,rv2,p2⟩:=I.seqK hq2
  obtain⟨s1,s2,⟨a,c,s3⟩,s4,s5⟩:=st
  have hh:X.A.in1.handled=none:=I.ok.hd hc
  have fin:∀h' tk,(∀c o,c≠z->c≠TO->c≠i1->c≠i2->s.heap.get? c=some o->h'.get? c=some o)->(none:Option Value)=none/\Inv X pins Z H {s with heap:=h',toks:=tk}:=λh' tk kk=>
   ⟨rfl,I.turnedL (fs:=[z,TO,i1,i2]) (λb o n q=>by
    simp only[Er,Ex,or_false,not_or]at n
    exact kk b o n.1 n.2.1 n.2.2.1 n.2.2.2 q) λb hb=>hf b (by
    simp only[Er,Ex,or_false]at hb⊢
    rcases hb with h|h|h|h<;>simp[h])⟩
  have l1':=rv1.length
  have l2':=rv2.length
  by_cases h1:xs.length<=i
  ·have e1:its1.toArray[i]?=none:=by simp;omega
   exact gR (rD (A:=X.A.in1) hh k1 i1 l1 its1.toArray i e1) (kW (A:=X.A.in1) hh k2 i2 l2 A.n2 its2.toArray) s1 s2 s3 ⟨rfl,s4,p1⟩ ⟨s5,p2⟩ (.inl rfl) A.ap A.f1 A.f2 fin
  ·have h2:ys.length<=i:=by omega
   have e2:its2.toArray[i]?=none:=by simp;omega
   have hn1:i<its1.toArray.size:=by rw[DT];omega
   exact gR (kW (A:=X.A.in1) hh k1 i1 l1 A.n1 its1.toArray) (rD (A:=X.A.in1) hh k2 i2 l2 its2.toArray i e2) s1 s2 s3 ⟨s4,p1⟩ ⟨rfl,s5,p2⟩ (.inr ⟨hn1,rfl⟩) A.ap A.f1 A.f2 fin
 self:=λ_ _ _ _ _ st h=>wpAny_pyIter_zip st.1 h
def BB (K:yF)(ta:TA):TI:=λZ H R=>ta Z H λvs H1=>∃k1 k2 a1 a2 xs ys,vs=[.ref a1,.ref a2]/\SqK K H1 k1 a1 xs/\SqK K H1 k2 a2 ys/\R (Itz K k1 k2 a1 a2) H1
theorem zS {X:Cx}{a b:Expr}{ta:TA}{elts:List Expr}{k0:Nat}{p pos pt:Pos}(hg:Gl X "zip")(hm:X.mg "zip" = none)(ha:PA X [a,b] ta)(hn:aW [a,b]=true):PI X (.Tuple elts k0 pt) (.Call (.Name "zip" p) [a,b] [] pos) (BB X.K ta):=by
 intro pins s Z H R I h
 have hs1:bO a=false:=by
  cases q:bO a with
  | true=>rw[aW,q]at hn;cases hn
  | false=>rfl
 have hs2:bO b=false:=by
  cases q:bO b with
  | true=>rw[aW,hs1,aW,q]at hn;cases hn
  | false=>rfl
 refine Call_ (ib I hg hm boot_zip (Fd (thn (ha pos pins s Z H _ I h) λus s1 ⟨vs,H1,I1,r1,q1⟩=>?_) (bc hs1) (by rw[bc hs2];rfl)))
 obtain⟨k1,k2,l1,l2,xs,ys,e,hq1,hq2,q⟩:=q1
 subst e
 obtain⟨u,u',rfl,ru,ru'⟩:=mT r1
 cases ru
 cases ru'
 obtain⟨its1,rv1,p1⟩:=I1.seqK hq1
 obtain⟨its2,rv2,p2⟩:=I1.seqK hq2
 have n1:l1<s1.heap.objs.size:=by obtain⟨o,e⟩:=p1.get;exact Heap.lt_size e
 have n2:l2<s1.heap.objs.size:=by obtain⟨o,e⟩:=p2.get;exact Heap.lt_size e
 refine pF p1 p2 λh1 hz hTI hTO it1 it2 hsz kk=>?_
 refine wpAny_pyIter_zip hz ?_
 have m1:∀c:Nat,s1.heap.objs.size+c≠l1:=λc=>Fz (Ec n1 (ER _ c))
 have m2:∀c:Nat,s1.heap.objs.size+c≠l2:=λc=>Fz (Ec n2 (ER _ c))
 have N:∀{c d:Nat},c≠d->s1.heap.objs.size+c≠s1.heap.objs.size+d:=λh z=>h (Nat.add_left_cancel z)
 refine⟨s1.heap.objs.size+4,[s1.heap.objs.size+4,s1.heap.objs.size+2,s1.heap.objs.size+3,s1.heap.objs.size,s1.heap.objs.size+1],_,_,H1,rfl,I1.kept (t':=s1.toks) λb o e=>kk b o e,uJ k1 k2 ⟨?_,?_,?_,?_,?_⟩,⟨hz,hTI,⟨_,_,hTO⟩,it1,it2⟩,λb hb=>?_,q⟩
 ·refine⟨?_,?_,?_,?_,?_,?_,?_,?_,?_,?_⟩<;>first|exact m1 _|exact m2 _|exact m1 0|exact m2 0|exact Ed n1|exact Ed n2|exact λz=>absurd (show(_:Nat)=_ from z) (by omega)
 ·simp only[Er,Ex,or_false,not_or]
  refine⟨⟨?_,?_⟩,⟨?_,?_⟩,?_,?_⟩<;>first|exact m1 _|exact m2 _|exact m1 0|exact m2 0|exact Ed n1|exact Ed n2|exact λz=>absurd (show(_:Nat)=_ from z) (by omega)
 ·simp only[Er,Ex,or_false,not_or]
  refine⟨⟨?_,?_⟩,⟨?_,?_⟩,?_,?_⟩<;>first|exact m1 _|exact m2 _|exact m1 0|exact m2 0|exact Ed n1|exact Ed n2|exact λz=>absurd (show(_:Nat)=_ from z) (by omega)
 ·first|exact m1 _|exact m2 _|exact m1 0|exact m2 0|exact Ed n1|exact Ed n2|exact λz=>absurd (show(_:Nat)=_ from z) (by omega)
 ·first|exact Ne.symm (m2 1)|exact m1 _|exact m2 _|exact m1 0|exact m2 0|exact Ed n1|exact Ed n2|exact λz=>absurd (show(_:Nat)=_ from z) (by omega)
 ·have hb':s1.heap.objs.size<=b:=by
   simp only[Er,Ex,or_false]at hb
   rcases hb with rfl|rfl|rfl|rfl|rfl<;>first|exact DY _|exact ER _ _
  exact I1.fpOk hb' (I1.hok.fresh hb')
noncomputable def lF:T->Option (Bool×List I)
 | .im (.tup is)=>some (false,is)
 | .li is=>some (true,is)
 | _=>none
noncomputable def oe (is js:List I):List R:=(is.zip js).map λp=>⟨.ow,.im (.tup [p.1,p.2])⟩
@[irreducible] noncomputable def nv (a:MA):MI:=⟨λρ=>match a.run ρ with
 | some ([r1,r2],ρ1)=>(match lF r1.t,lF r2.t with
  | some (_,is),some (_,js)=>some (([r1,r2],oe is js),ρ1)
  | _,_=>none)
 | _=>none,a.mu⟩
theorem iY {K:yF}{H:Hp}{kd:Bool}{is:List I}{v:V}:∀{t:T},Rpx K H t v->lF t=some (kd,is)->∃a xs,v=.ref a/\SqK K H kd a xs/\RpIs K H is xs
 | .im (.tup _),r,e=>by cases e;exact bG r
 | .li _,r,e=>by cases e;obtain⟨a,xs,h1,h2,h3⟩:=bQ r;exact⟨a,xs,h1,.inl h2,h3⟩
 | .im .non,_,e=>by cases e
 | .im (.bl _),_,e=>by cases e
 | .im (.int _),_,e=>by cases e
 | .im (.str _),_,e=>by cases e
 | .im (.ls _),_,e=>by cases e
 | .im (.fd _ _),_,e=>by cases e
 | .tup _,_,e=>by cases e
 | .lst _,_,e=>by cases e
 | .di _,_,e=>by cases e
 | .dc _,_,e=>by cases e
 | .ins _ _,_,e=>by cases e
theorem Bg {Γ:Gm}{k1 k2:Bool}{a1 a2:Addr}{r1 r2:R}{is js:List I}(e1:lF r1.t=some (k1,is))(e2:lF r2.t=some (k2,js)):gb Γ (Itz Γ.K k1 k2 a1 a2) [.ref a1,.ref a2] [r1,r2] (oe is js):=λH ρ Z E S=>by
 replace S:Sim Γ H ρ Z (⟨none,.ref a1,r1⟩::⟨none,.ref a2,r2⟩::E):=S
 have R1:Rpx Γ.K H r1.t (.ref a1):=S.rd (e:=⟨none,.ref a1,r1⟩) ymS
 have R2:Rpx Γ.K H r2.t (.ref a2):=S.rd (e:=⟨none,.ref a2,r2⟩) (ymC _ ymS)
 obtain⟨b1,xs,ea,g1,g2⟩:=iY R1 e1
 cases ea
 obtain⟨b2,ys,ea,h1,h2⟩:=iY R2 e2
 cases ea
 refine⟨λi hi=>⟨xs,ys,g1,h1,?_⟩,λi r hr=>?_⟩
 ·rw[g2.length,h2.length]
  unfold oe at hi
  rw[DX,FU]at hi
  omega
 ·obtain⟨p,hp,rfl⟩:=aQ hr
  obtain⟨hp1,hp2⟩:=Fk.mp hp
  obtain⟨w1,hw1,rw1⟩:=g2.get hp1
  obtain⟨w2,hw2,rw2⟩:=h2.get hp2
  refine⟨⟨xs,ys,w1,w2,g1,h1,hw1,hw2⟩,λx H' y=>?_⟩
  obtain⟨pp,x',y',hpp,rfl,rfl,hx,hy⟩:=y
  have q1:=hx xs g1
  rw[hw1]at q1
  cases q1
  have q2:=hy ys h1
  rw[hw2]at q2
  cases q2
  exact S.fresh (New.tup hpp (.cons rw1 (.cons rw2 (by rw[RpIs]))))
theorem xh {K:yF}{ta:TA}{a:MA}(ha:fe K ta a):i3 K (BB K ta) (nv a):=by
 intro Γ H ρ Z E Rr srcs items ρ' hK hr S q
 simp only[nv]at hr q
 split at hr
 ·rename_i r1 r2 ρ1 e1
  split at hr
  ·rename_i k1 is k2 js e2 e3
   cases hr
   refine ha Γ H ρ Z E _ _ _ hK e1 S λvs H1 hl S1=>?_
   obtain⟨v1,v2,rfl⟩:∃v1 v2,vs=[v1,v2]:=by
    cases vs with
    | nil=>cases hl
    | cons v r=>cases r with
     | nil=>cases hl
     | cons w r=>cases r with
      | nil=>exact⟨v,w,rfl⟩
      | cons _ _=>cases hl
   have S2:Sim Γ H1 ρ' Z (⟨none,v1,r1⟩::⟨none,v2,r2⟩::ae a.mu E):=S1
   have R1:Rpx Γ.K H1 r1.t v1:=S2.rd (e:=⟨none,v1,r1⟩) ymS
   have R2:Rpx Γ.K H1 r2.t v2:=S2.rd (e:=⟨none,v2,r2⟩) (ymC _ ymS)
   obtain⟨a1,xs,rfl,g1,g2⟩:=iY R1 e2
   obtain⟨a2,ys,rfl,h1,h2⟩:=iY R2 e3
   subst hK
   exact⟨k1,k2,a1,a2,xs,ys,rfl,g1,h1,q _ [.ref a1,.ref a2] H1 rfl S1 (Bg e2 e3)⟩
  ·cases hr
 ·cases hr
section
variable  {ι : Type}{C:ι->Cx}{P:Program}{W:World}{K:yF}{mg:Str->Option Value}{base:Heap}{k:Nat}{a b:Expr}{ms:MA}{pos:Pos}
theorem Ai {elts:List Expr}{k0:Nat}{p pt:Pos}(ck:CK C P W K mg base k)(T:Bi mg)(ha:QA C K [a,b] ms)(hg:∀i,Gl (C i) "zip" :=by intro _;rfl):QI C K (.Tuple elts k0 pt) (.Call (.Name "zip" p) [a,b] [] pos) (nv ms):=by
 obtain⟨ta,q,n,r⟩:=ha
 refine⟨_,λi=>by have:=zS (X:=C i) (elts:=elts) (k0:=k0) (p:=p) (pos:=pos) (pt:=pt) (hg i) (by rw[ck.mg i];exact T.b_zip) (q i) n;rw[ck.kk i]at this;exact this,xh r⟩
end
theorem Bl {ms:MA}{ρ:Rho}{QI':List R->List R->Rho->Prop}(h:WA ms ρ λrs ρ1=>∃r1 r2 k1 k2 is js,rs=[r1,r2]/\lF r1.t=some (k1,is)/\lF r2.t=some (k2,js)/\QI' [r1,r2] (oe is js) ρ1):WI (nv ms) ρ QI':=by
 obtain⟨rs,ρ1,e1,r1,r2,k1,k2,is,js,rfl,e2,e3,q⟩:=h
 exact⟨_,_,_,by simp only[nv,e1,e2,e3],q⟩
section
variable  {S α:Type}{ρ:Rho}{m:ME}{ms:MA}{g:MG}{s1:MS}{QE':R->Rho->Prop}{Q:Fl->Rho->Prop}{fr:List (Option Nat)}
theorem uP (st:S->Rho)(emb : α->I)(P:Nat->S->List α->Prop) (h:WA ms ρ λrs ρ1=>∃r1 r2 k1 k2 is js,rs=[r1,r2]/\lF r1.t=some (k1,is)/\lF r2.t=some (k2,js)/\min is.length js.length<sizeLine/\(cQ fr ρ1.length&&cO (g.mu++([]++m.mu)) fr.length&&[r1,r2].all (aC (muF fr (g.mu++([]++m.mu)))))=true/\∃s0,ρ1=st s0/\P 0 s0 [] ∧
  (∀(j:Nat) x y s l,is[j]?=some x->js[j]?=some y->P j s l->WG g ⟨.ow,.im (.tup [x,y])⟩ (inR fr (st s)) λρ1=>WE m ρ1 λr ρ3=>∃x s',r=⟨.ow,.im (emb x)⟩/\cw fr (g.mu++([]++m.mu)) ρ3 (st s)=st s'/\P (j+1) s' (l++[x])) ∧
  ∀s l,P (min is.length js.length) s l->QE' ⟨.ow,.li (l.map emb)⟩ (st s)):WE (aV fr (nv ms) g mYes m) ρ QE':=by with_unfolding_all
 obtain⟨rs,ρ1,e1,r1,r2,k1,k2,is,js,rfl,e2,e3,hl,al,s0,rfl,h0,hs,he⟩:=h
 refine lI (Bl ⟨_,_,e1,r1,r2,k1,k2,is,js,rfl,e2,e3,al,by unfold oe;rw[DX,FU];exact hl,λj acc ρ=>∃s l,acc=l.map (λx=>T.im (emb x))/\ρ=st s/\P j s l,⟨s0,[],rfl,rfl,h0⟩,?_,?_⟩)
 ·rintro j r acc ρ hj ⟨s,l,rfl,rfl,hP⟩
  obtain⟨p,hp,rfl⟩:=aQ hj
  obtain⟨hp1,hp2⟩:=Fk.mp hp
  refine WG.mono (hs j p.1 p.2 s l hp1 hp2 hP) λρ1 q=>iE ⟨λ_=>q.mono λr ρ3 ⟨x,s',e,e',hP'⟩=>⟨_,e,s',l++[x],by simp,e',hP'⟩,λz=>by cases z⟩
 ·rintro acc ρ ⟨s,l,rfl,rfl,hP⟩
  rw[ef]
  refine he s l ?_
  have:(oe is js).length=min is.length js.length:=by unfold oe;rw[DX,FU]
  rw[←this]
  exact hP
end
theorem su {QT1:T->Prop}{ns:List String}{t:T}{n:String}{b:Bool}(h:tyN t=some n)(hb:ns.any (lY n)=b)(q:QT1 (.im (.bl b))):W1 (l0 ns t) QT1:=BX h (by rw[hb];exact q)
end L2
namespace L2
open PySem
noncomputable section
end
end L2
namespace L2
open PySem PySem.Spec PyProof.Rows
section
variable  {κ : Type}[DecidableEq κ]
noncomputable def jS (kvs:List (κ×V)) (k : κ):Option V:=(kvs.find? λkv=>decide (kv.1=k)).map (·.2)
theorem jH {p : κ×V}{r:List (κ×V)}{k : κ}(e:p.1=k):jS (p::r) k=some p.2:=by simp[jS,FV,e]
theorem jG {p : κ×V}{r:List (κ×V)}{k : κ}(e:¬ p.1=k):jS (p::r) k=jS r k:=by simp[jS,FV,e]
theorem KV.val {kvs:List (κ×V)}{vs:List (κ×Value)}(r:KV kvs vs)(k : κ):RelO (jS kvs k) (valueAt vs k):=by
 unfold KV at r
 induction r with
 | nil=>exact True.intro
 | @cons p q ps qs h t ih=>
  obtain⟨h1,h2⟩:=h
  by_cases e:p.1=k
  ·have e':q.1=k:=h1.symm.trans e
   have b:valueAt (q::qs) k=some q.2:=by simp[valueAt,FV,e']
   rw[jH e,b];exact h2
  ·have e':¬ q.1=k:=λz=>e (h1.trans z)
   have b:valueAt (q::qs) k=valueAt qs k:=by simp[valueAt,FV,e']
   rw[jG e,b];exact ih
end
theorem rW {P:Program}{w:World}{k:Key}{u:Value}(r:RelV (kV k) u):(bM P w).is k u=true:=by
 cases k with
 | inl i=>obtain⟨t,e⟩:=(show∃t,u=Value.int i t from r);subst e;exact l9 P w i t
 | inr x=>obtain⟨t,e⟩:=(show∃t,u=Value.str x t from r);subst e;exact md P w x t
section
variable  {P:Program}{w:World}{H:Hp}{h:Heap}{a:Addr}
theorem CP {u:HO}(ok:HOk P w H h)(e:Rd H a u):ObjOk P w H h a u:=e.ok ok
theorem oA {kvs:List (Key×V)}(ok:HOk P w H h)(e:Rd H a (.dK kvs)):kvs.length<=sizeLine/\(a==sysModules)=false/\∃vs,KV kvs vs/\h.DictOf (bM P w) a vs:=
 show ObjOk P w H h a (.dK kvs)from CP ok e
end
def DGet (H:Hp)(a:Addr)(y:V)(r:Option V):Prop:=∃kvs k,Rd H a (.dK kvs)/\y=kV k/\r=jS kvs k
theorem DGet.k {H:Hp}{a:Addr}{kvs:List (Key×V)}{k:Key}(e:H a=some (.dK kvs)):DGet H a (kV k) (jS kvs k):=⟨kvs,k,.inl e,rfl,rfl⟩
section
variable  {X:Cx}{pins:List (Addr×Obj)}{Z:St}{H:Hp}{s:Shared}{a:Addr}{y v:V}{u r:Value}{o:Option V}{A:Around}{E:Value->Shared->Prop}
theorem Inv.big (I:Inv X pins Z H s):sysModules<s.heap.objs.size:=by
 have h:mainGlobals<s.heap.objs.size:=(I.mod.glob.keeps I.bk).lt
 exact G8 (by decide) h
theorem pI {Q:Value->Shared->Prop}(hu:A.units+1<cLine)(I:Inv X pins Z H s)(g:DGet H a y (some v))(ry:RelV y u)(h:∀w' s',Inv X pins Z H s'->RelV v w'->Q w' s') :
  wpAny (model X.prog X.w) A (getItem (.ref a) u) Q E s:=by
 obtain⟨kvs,k,e,ey,l⟩:=g
 subst ey
 obtain⟨z,hd,vs,rel,dd⟩:=oA I.hok e
 obtain⟨w',hw,rw'⟩:=RelO.some_of (v:=v) (o:=valueAt vs k) (by rw[l];exact rel.val k)
 exact wpAny_getItem_of (rW ry) dd.mapOf hw (h w' _ (I.tok _) rw')
end
def u7 (i:Expr):Prop:=∀ov iv,subscripted i false ov iv=operate [ov,iv] (getItem ov iv)
theorem xq {prog:Program}{w:World}{A:Around}{E:Value->Shared->Prop}{s:Shared}{env:Env}{value slice:Expr}{pos:Pos}{T id:String}{Q:Value->Shared->Prop}
  (hl:typeLookup (.type T) "__getitem__" = pure (some (.builtin id))) (hs:u7 slice)
  (h:wpAny (model prog w) A (eval value env) (λo s₁=>wpAny (model prog w) A (eval slice env) (λi s₂=>s₂.TypeIs o T/\wpAny (model prog w) A (getItem o i) Q E s₂) E s₁) E s) :
  wpAny (model prog w) A (eval (.Subscript value slice pos) env) Q E s:=by
 refine Subscript_ (wpAny_mono h (λo s₁ h₁=>wpAny_mono h₁ (λi s₂ h₂=>?_) λ_ _ x=>x) λ_ _ x=>x)
 obtain⟨hT,h₂⟩:=h₂
 unfold subscriptTail
 refine wpAny_bind ?_
 rw[getitemInPython_of_ne hT.not_modules]
 refine wpAny_bind (wpAny_specialOf hT hl ?_)
 have fin:wpAny (model prog w) A (subscripted slice false o i) (λr s₃=>wpAny (model prog w) A (letTemporaryGo value o r >>= λ_=>pure r) Q E s₃) E s₂:=by
  rw[hs o i]
  exact wpAny_operating (wpAny_mono h₂ (λr s₃ h₃=>wpAny_bind (wpAny_letTemporaryGo (wpAny_pure h₃))) λ_ _ x=>x)
 first
  | exact wpAny_pure (wpAny_bind fin)
  | exact wpAny_bind (wpAny_pure (wpAny_bind fin))
  | exact wpAny_bind fin
theorem lQ {X:Cx}{pins:List (Addr×Obj)}{Z:St}{H:Hp}{s:Shared}{a:Addr}{y:V}{o:Option V}(I:Inv X pins Z H s)(g:DGet H a y o):s.TypeIs (.ref a) "dict" :=by
 obtain⟨kvs,k,e,_,_⟩:=g
 obtain⟨_,_,vs,_,dd⟩:=oA I.hok e
 exact dd.typeIs
def CV (td ty:TE):TE:=λZ H Q=>td Z H λx H1=>ty Z H1 λy H2=>∃a v,x=.ref a/\DGet H2 a y (some v)/\Q v H2
section
variable  {X:Cx}{o i e value:Expr}{pos pos' tpos:Pos}{td ty tv:TE}
theorem oV (hu:X.A.units+1<cLine)(ho:PE X o td)(hi:PE X i ty)(hs:u7 i):PE X (.Subscript o i pos) (CV td ty):=by
 intro pins s Z H Q I h
 refine xq PySem.F.slot_dict_getitem.lookup hs (thn (ho pins s Z H _ I h) λu s1 ⟨x,H1,I1,rx,q1⟩=>thn (hi pins s1 Z H1 _ I1 q1) λiv s2 ⟨y,H2,I2,ry,a,v,ex,g,q2⟩=>?_)
 subst ex
 obtain rfl:u=Value.ref a:=rx
 exact⟨lQ I2 g,pI hu I2 g ry λw' s3 I3 rw'=>⟨v,H2,I3,rw',q2⟩⟩
end
theorem jN:typeLookup (.type "tuple") "keys" = pure none:=am_miss_of_fast (by decide +kernel)
theorem lf:typeLookup (.type "list") "keys" = pure none:=am_miss_of_fast (by decide +kernel)
section
variable  {prog:Program}{w:World}{A:Around}{E:Value->Shared->Prop}{s:Shared}
theorem iR {a:Addr}{o:Obj}{xs:Array Value}{k:Nat}{Q:Option Value->Shared->Prop}(hx:s.heap.get? a=some o)(hc:o.cls=.type "tuple" ∧ o.dict=none)(hdat:o.data=.seq xs k)(hA:A.handled=none)
  (h:∀h' tk,(∀b ob,s.heap.get? b=some ob->h'.get? b=some ob)->Q none {s with heap:=h',toks:=tk}):wpAny (model prog w) A (getAttr? (.ref a) "keys") Q E s:=by
 obtain⟨c,dct,dat,sl⟩:=o
 obtain⟨hc,hd⟩:=hc
 simp only at hc hdat hd
 subst hc hdat hd
 obtain⟨hp,g,d,tk,os⟩:=s
 have hT:∀tk',(⟨hp,g,d,tk',os⟩:Shared).TypeIs (.ref a) "tuple" :=λ_=>⟨_,hx,rfl⟩
 have f1:=sub_AttributeError
 have f3:=F.slot_tuple_getattribute.lookup
 have f4:=F.slot_tuple_getattribute.bind (.ref a)
 have f5:=am_tuple_getattr_none
 unfold getAttr? getAttrBy? getAttrBy
 repeat (any_goals (first|assumption|exact hT _|((with_reducible show wpAny _ _ (call (Value.builtin "tuple.__getattribute__") _ _) _ _ _);refine call_meets F.slot_tuple_getattribute (hT _) am_entry_tuple_getattribute (F.args_tuple_getattribute_2 _ _) (meets_getattribute_miss_tuple a xs k sl (Str.ofString "keys") _ jN (by decide +kernel)) ⟨hx,hA,λh' tk' e hx'=>?_⟩)|wp_step))
 obtain⟨t',u',he⟩:=hx'.there
 show wpAny _ _ (getattributeRaised _ _ _ _ _ _ _) _ _ _
 unfold getattributeRaised
 repeat (any_goals (first|assumption|wp_step))
 all_goals (try exact h _ _ hx'.keeps)
theorem ji {a:Addr}{o:Obj}{xs:Array Value}{k:Nat}{Q:Option Value->Shared->Prop}(hx:s.heap.get? a=some o)(hc:o.cls=.type "list" ∧ o.dict=none)(hdat:o.data=.seq xs k)(hA:A.handled=none)
  (h:∀h' tk,(∀b ob,s.heap.get? b=some ob->h'.get? b=some ob)->Q none {s with heap:=h',toks:=tk}):wpAny (model prog w) A (getAttr? (.ref a) "keys") Q E s:=by
 obtain⟨c,dct,dat,sl⟩:=o
 obtain⟨hc,hd⟩:=hc
 simp only at hc hdat hd
 subst hc hdat hd
 obtain⟨hp,g,d,tk,os⟩:=s
 have hT:∀tk',(⟨hp,g,d,tk',os⟩:Shared).TypeIs (.ref a) "list" :=λ_=>⟨_,hx,rfl⟩
 have f1:=sub_AttributeError
 have f3:=F.slot_list_getattribute.lookup
 have f4:=F.slot_list_getattribute.bind (.ref a)
 have f5:=am_list_getattr_none
 unfold getAttr? getAttrBy? getAttrBy
 repeat (any_goals (first|assumption|exact hT _|((with_reducible show wpAny _ _ (call (Value.builtin "list.__getattribute__") _ _) _ _ _);refine call_meets F.slot_list_getattribute (hT _) am_entry_list_getattribute (F.args_list_getattribute_2 _ _) (meets_getattribute_miss_list a xs k sl (Str.ofString "keys") _ lf (by decide +kernel)) ⟨hx,hA,λh' tk' e hx'=>?_⟩)|wp_step))
 obtain⟨t',u',he⟩:=hx'.there
 show wpAny _ _ (getattributeRaised _ _ _ _ _ _ _) _ _ _
 unfold getattributeRaised
 repeat (any_goals (first|assumption|wp_step))
 all_goals (try exact h _ _ hx'.keeps)
end
theorem dz:entryFor table "dict.update.loop" = some Builtin.«dict.update.loop»:=entryFor_of_tree (by rfl')
theorem dD:plainId "dict.update.loop" = true:=by decide +kernel
def ItK (kd:Bool)(h:Heap)(it l:Addr)(k:Nat):Prop:=match kd with|true=>h.IsListIter it l k|false=>h.IsTupleIter it l k
def SeK (kd:Bool)(h:Heap)(l:Addr)(els:Array Value):Prop:=match kd with|true=>h.IsList l els|false=>h.IsTuple l els
noncomputable def sto (ps:List (Key×Value)) (kvs:List (Key×Value)):List (Key×Value):=ps.foldl (λd p=>stored d p.1 p.2) kvs
theorem nQ {kvs:List (Key×Value)}{k:Key}{v:Value}:(stored kvs k v).length<=kvs.length+1:=by
 unfold stored
 split
 ·rw[DX];omega
 ·simp
section
variable  {prog:Program}{w:World}
def Br (w:World)(prog:Program)(G:Heap)(d it:Addr)(x:Value)(p:Key×Value):Prop:=∃q key,x=.ref q/\q≠d/\q≠it/\(bM prog w).is p.1 key=true/\∃o n,G.get? q=some o/\o.cls=.type "tuple" ∧ o.data=.seq #[key,p.2] n
theorem uL {kd:Bool}{d it l:Addr}{els:List Value}{G:Heap}{R:Result->Shared->Prop}(n1:d≠it)(n2:d≠l)(n3:it≠l)(hl:SeK kd G l els.toArray) :
  ∀(m:Nat) {A:Around} (i:Nat) (ps:List (Key×Value)) (kvs:List (Key×Value)) (s:Shared),A.handled=none->m+i=els.length->Paired (Br w prog G d it) (els.drop i) ps->ItK kd s.heap it l i->s.heap.DictOf (bM prog w) d kvs->kvs.length+m<=sizeLine →
   (∀b o,b≠d->b≠it->G.get? b=some o->s.heap.get? b=some o) →
   (∀h' tk,(∀b o,b≠d->b≠it->G.get? b=some o->h'.get? b=some o)->h'.DictOf (bM prog w) d (sto ps kvs)->R (.ok (.ret .none)) {s with heap:=h',toks:=tk}) →
   codeAny (model prog w) A (.builtin "dict.update.loop" ⟨[.ref d,.ref it,rawInt i,.none],[]⟩) R s:=by
 intro m
 induction m with
 | zero=>
  intro A i ps kvs s hA hm hp hit hd hz hk q
  rw[EG]at hm
  subst hm
  rw[FL]at hp
  cases hp
  refine codeAny_builtin dz ?_
  rw[Around.under_plainId dD _]
  show wpAny _ _ (pyNext (.ref it) >>= _) _ _ _
  have fin:∀h',Heap.ExtBut it s.heap h'->R (.ok (.ret .none)) {s with heap:=h'}:=λh' eb=>
   q h' s.toks (λb o nb1 nb2 e=>eb b o nb2 (hk b o nb1 nb2 e)) (hd.extBut eb n1)
  cases kd with
  | true=>
   obtain⟨ol,e1,e2⟩:=hl
   exact wpAny_bind (wpAny_pyNext_list_end hA hit ⟨ol,hk _ _ (Ne.symm n2) (Ne.symm n3) e1,e2⟩ (by simp) λh' eb=>wpAny_bind (wpAny_pure (wpAny_pure (fin h' eb))))
  | false=>
   obtain⟨ol,e1,e2⟩:=hl
   exact wpAny_bind (wpAny_pyNext_tuple_end hA hit ⟨ol,hk _ _ (Ne.symm n2) (Ne.symm n3) e1,e2⟩ (by simp) λh' eb=>wpAny_bind (wpAny_pure (wpAny_pure (fin h' eb))))
 | succ m ih=>
  intro A i ps kvs s hA hm hp hit hd hz hk q
  have hi:i<els.length:=by omega
  rw[EZ hi]at hp
  cases hp with
  | @cons x p _ ps' hx hp'=>
  obtain⟨a,key,ex,na1,na2,hkey,o,n,ho,hc,hdat⟩:=hx
  have hx':els[i]?=some (.ref a):=by rw[Eh hi,ex]
  refine codeAny_builtin dz ?_
  rw[Around.under_plainId dD _]
  show wpAny _ _ (pyNext (.ref it) >>= _) _ _ _
  have go:∀h',ItK kd h' it l (i+1)->Heap.SameBut it s.heap h'->wpAny (model prog w) A.in1 (holding [Value.ref a] (do
    let pair ←(Builtin.Dict.pairItems (.ref a)).tryCatch λe=>do
     if !(←isInstance e (.type "TypeError"))then throw e
     rule "dict.update.element-no-sequence"
     raiseError "TypeError" s!"cannot convert dictionary update sequence element #{(i : Int)} to a sequence"
    match pair with
    | [k,v]=>holding [k,v] (dictSet d k v)
    | l=>
     rule "dict.update.element-length"
     raiseError "ValueError" s!"dictionary update sequence element #{(i : Int)} has length {l.length}; 2 is required") >>= λ_=>again (.builtin "dict.update.loop" ⟨[.ref d,.ref it,rawInt ((i:Int)+1),.none],[]⟩))
    (λfin s'=>match fin with|.done f=>R (.ok f) s'|.again c'=>c'.quiet=true/\codeAny (model prog w) A c' R s') (λe s'=>R (.error e) s') {s with heap:=h'}:=λh' hit' sb=>by
   have ho':h'.get? a=some o:=(sb.2 a na2).trans (hk a o na1 na2 ho)
   refine wpAny_bind (wpAny_holding (wpAny_bind (wpAny_tryCatch ?_)))
   unfold Builtin.Dict.pairItems
   refine wpAny_bind (wpAny_typeOf (T:="tuple") ⟨o,ho',hc⟩ ?_)
   rw[if_pos (by rfl)]
   refine wpAny_bind (wpAny_seqItems ho' hdat (wpAny_pure ?_))
   show wpAny _ _ (holding [key,p.2] (dictSet d key p.2)) _ _ _
   refine wpAny_holding (wpAny_dictSet_pairs (hsz:=by omega) hkey (hd.sameBut sb n1) λh2 hd2 sb2=>?_)
   refine wpAny_pure ⟨Code.quiet_builtin _ (by decide +kernel),?_⟩
   have hit2:ItK kd h2 it l (i+1):=by
    cases kd with
    | true=>obtain⟨oi,e1,e2⟩:=hit';exact⟨oi,(sb2.2 it (Ne.symm n1)).trans e1,e2⟩
    | false=>obtain⟨oi,e1,e2⟩:=hit';exact⟨oi,(sb2.2 it (Ne.symm n1)).trans e1,e2⟩
   have:=ih (A:=A) (i+1) ps' _ {s with heap:=h2,toks:=s.toks+1} hA (by omega) hp' hit2 hd2 (by have:=nQ (kvs:=kvs) (k:=p.1) (v:=p.2);omega) (λb ob nb1 nb2 e=>(sb2.2 b nb1).trans ((sb.2 b nb2).trans (hk b ob nb1 nb2 e))) λh3 tk k3 d3=>q h3 tk k3 d3
   exact this
  cases kd with
  | true=>
   obtain⟨ol,e1,e2⟩:=hl
   exact wpAny_bind (wpAny_pyNext_list_item hit ⟨ol,hk _ _ (Ne.symm n2) (Ne.symm n3) e1,e2⟩ (x:=.ref a) (by simpa using hx') λh' hit' sb=>go h' hit' sb)
  | false=>
   obtain⟨ol,e1,e2⟩:=hl
   exact wpAny_bind (wpAny_pyNext_tuple_item hit ⟨ol,hk _ _ (Ne.symm n2) (Ne.symm n3) e1,e2⟩ (x:=.ref a) (by simpa using hx') λh' hit' sb=>go h' hit' sb)
end
theorem kB:∀(ps kvs:List (Key×Value)),((kvs++ps).map (·.1)).Nodup->sto ps kvs=kvs++ps
 | [],kvs,_=>by simp[sto]
 | p::ps,kvs,h=>by
  have hn:kvs.any (λkv=>decide (kv.1=p.1))=false:=by
   rw[List.any_eq_false]
   intro kv hkv
   rw[D9,DW]at h
   have:=h.2.2 kv.1 (D4.mpr ⟨kv,hkv,rfl⟩) p.1 (by simp)
   simpa using this
  have e:stored kvs p.1 p.2=kvs++[p]:=by unfold stored;rw[hn];rfl
  have:=kB ps (kvs++[p]) (by rw[Ea];exact h)
  rw[show sto (p::ps) kvs=sto ps (stored kvs p.1 p.2)from rfl,e,this,Ea];rfl
section
variable  {X:Cx}{pins:List (Addr×Obj)}{Z:St}{H:Hp}{s:Shared}{a:Addr}{xs:List V}
theorem Inv.tupleN (I:Inv X pins Z H s)(h:SqT X.K H a xs):∃its:List Value,Vals xs its/\IsTupN s.heap a its.toArray/\xs.length<=sizeLine:=by
 rcases h with h|⟨o,its,n,hk,hc,hs,hz,r⟩
 ·obtain⟨z,its,r,p⟩:=h.ok I.hok
  exact⟨its,r,p,z⟩
 ·refine⟨its.toList,r,⟨o,I.kIn a o hk,hc,n,by simpa using hs⟩,?_⟩
  have e:=r.length
  simp only[EO]at e
  omega
end
def PrV (K:yF)(H:Hp)(y:V)(q:Key×V):Prop:=∃t,y=.ref t/\SqT K H t [kV q.1,q.2]
def o0 (K:yF):List V->Hp->VK->Prop:=λxs H Q=>∃p ys ps,xs=[.ref p]/\(SqL K H p ys∨SqT K H p ys)/\Paired (PrV K H) ys ps/\(ps.map (·.1)).Nodup/\∀l,H l=none->Q (.ref l) (upd H l (.dK ps))
section
variable  {X:Cx}{pins:List (Addr×Obj)}{Z:St}{H:Hp}{s:Shared}
theorem tD (I:Inv X pins Z H s){G:Heap}(hG:∀b o,s.heap.get? b=some o->G.get? b=some o){d it:Addr}(hd:s.heap.objs.size<=d)(hi:s.heap.objs.size<=it):∀{ys:List V} {ps:List (Key×V)} {us:List Value},Paired (PrV X.K H) ys ps->Vals ys us →
  ∃qs:List (Key×Value),Paired (Br X.w X.prog G d it) us qs/\KV ps qs
 | _,_,_,.nil,.nil=>⟨[],.nil,.nil⟩
 | _,_,_,.cons (b:=p) ⟨t,e,h⟩ hp,.cons (b:=u) r rs=>by
  obtain⟨qs,h1,h2⟩:=tD I hG hd hi hp rs
  subst e
  have eu:u=Value.ref t:=r
  obtain⟨its,r1,⟨o,e1,e2,n,e3⟩,_⟩:=I.tupleN h
  cases r1 with
  | cons r1 r2=>cases r2 with
   | cons r2 r3=>
    cases r3
    have lt:=Heap.lt_size e1
    exact⟨(p.1,_)::qs,.cons ⟨t,_,eu,Ed (Ec lt hd),Ed (Ec lt hi),rW r1,o,n,hG _ _ e1,e2.1,e3⟩ h1,.cons ⟨rfl,r2⟩ h2⟩
theorem y0 {ps:List (Key×V)}{qs:List (Key×Value)}(h:KV ps qs):ps.map (·.1)=qs.map (·.1):=by
 induction h with
 | nil=>rfl
 | cons h _ ih=>rw[DS,DS,h.1,ih]
theorem kP (hc:X.calm=true):CallR X (.type "dict") (o0 X.K):=by
 intro pins s Z H xs us Q I r h
 obtain⟨p,ys,ps,rfl,hq,hp,hn,q⟩:=h
 obtain⟨u,rfl,rx⟩:=fF r
 cases rx
 have hA:=I.ok.hd hc
 have src:∃(kd:Bool) (els:List Value) (o:Obj) (n:Nat),s.heap.get? p=some o/\(o.cls=.type (if kd then "list" else "tuple")/\o.dict=none)/\o.data=.seq els.toArray n/\Vals ys els/\ys.length<=sizeLine:=by
  rcases hq with hq|hq
  ·obtain⟨its,r',⟨o,n,e1,e2,e3,e4⟩,hz⟩:=I.list hq
   exact⟨true,its,o,n,e1,⟨e2,e3⟩,e4,r',hz⟩
  ·obtain⟨its,r',⟨o,e1,e2,n,e3⟩,hz⟩:=I.tupleN hq
   exact⟨false,its,o,n,e1,e2,e3,r',hz⟩
 obtain⟨kd,els,o,n,e1,e2,e3,rv,hz⟩:=src
 have hlen:ys.length=els.length:=rv.length
 refine callType_codes (Q₁:=λobj s₁=>obj=.ref s.heap.objs.size/\s₁={s with heap:=s.heap.push {cls:=.type "dict",data:=.dict #[]}}) F.kt_called_dict (F.kt_typeCall_dict_1 _) F.entry_dict_init (kt_code_dict_new _ ⟨rfl,rfl⟩) ?_
 rintro obj s₁ ⟨rfl,rfl⟩
 have hnew:(s.heap.push {cls:=.type "dict",data:=.dict #[]}).DictOf (bM X.prog X.w) s.heap.objs.size []:=Heap.DictOf.new s.heap
 have k1:∀b ob,s.heap.get? b=some ob->(s.heap.push {cls:=.type "dict",data:=.dict #[]}).get? b=some ob:=λb ob e=>Heap.get?_push_of_some _ e
 have sz1:(s.heap.push {cls:=.type "dict",data:=.dict #[]}).objs.size=s.heap.objs.size+1:=Heap.size_push _ _
 generalize s.heap.push {cls:=.type "dict",data:=.dict #[]}=h1 at hnew k1 sz1⊢
 refine⟨hnew.typeIs,F.args_dict_init_2 _ _,?_⟩
 unfold Builtin.«dict.__init__»
 refine wpAny_bind ?_
 unfold Builtin.Dict.selfAndRest
 refine wpAny_bind (wpAny_notOrdered_dict hnew.typeIs ?_)
 show wpAny _ _ (pure (s.heap.objs.size,[Value.ref p])) _ _ _
 refine wpAny_pure ?_
 show wpAny _ _ (Builtin.Dict.updateFrom "dict.__init__" s.heap.objs.size (.ref p) [] .none) _ _ _
 unfold Builtin.Dict.updateFrom
 have hh:X.A.in1.in1.handled=none:=hA
 have last:∀(h2:Heap) (tk:Nat) (it:Addr),(∀b ob,h1.get? b=some ob->h2.get? b=some ob)->s.heap.objs.size<it->ItK kd h2 it p 0 →
   codeAny (model X.prog X.w) X.A.in1 (.builtin "dict.update.loop" ⟨[.ref s.heap.objs.size,.ref it,rawInt 0,.none],[]⟩) (wants (λr s₂=>r=.none/\EP X pins Z Q (.ref s.heap.objs.size) s₂) X.xe) {s with heap:=h2,toks:=tk}:=by
  intro h2 tk it k2 hit hI
  obtain⟨qs,p1,p2⟩:=tD I (G:=h2) (λb ob e=>k2 b ob (k1 b ob e)) (d:=s.heap.objs.size) (it:=it) (DY _) (FZ hit) hp rv
  have lp:=Heap.lt_size e1
  have sl:SeK kd h2 p els.toArray:=by
   cases kd with
   | true=>exact⟨o,k2 _ _ (k1 _ _ e1),e2.1,n,e3⟩
   | false=>exact⟨o,k2 _ _ (k1 _ _ e1),e2.1,n,e3⟩
  refine uL (G:=h2) (kd:=kd) (els:=els) (l:=p) (Ed hit) (Fz lp) (Fz (G8 lp hit)) sl els.length 0 qs [] _ hh (by omega) (by simpa using p1) hI ?_ (by simp;omega) (λ_ _ _ _ e=>e) λh3 tk3 k3 d3=>?_
  ·obtain⟨od,es,ep,f1,f2⟩:=hnew
   exact⟨od,es,ep,k2 _ _ f1,f2⟩
  ·rw[kB _ _ (by rw[EK,←y0 p2];exact hn),EK]at d3
   refine⟨rfl,.ref s.heap.objs.size,_,I.laid (t':=tk3) (λb ob e=>?_) (DY _) (show ObjOk X.prog X.w _ h3 _ (.dK ps)from⟨?_,?_,qs,p2,d3⟩),rfl,q _ (I.hok.fresh (DY _))⟩
   ·have lb:=Heap.lt_size e
    exact k3 b ob (Ed lb) (Ed (G8 lb hit)) (k2 b ob (k1 b ob e))
   ·have:=hp.length;omega
   ·exact beq_eq_false_iff_ne.mpr (Ne.symm (Ed I.big))
 cases kd with
 | true=>
  refine wpAny_bind (wpAny_typeOf (T:="list") ⟨o,k1 _ _ e1,e2.1⟩ ?_)
  rw[if_pos (by decide)]
  refine wpAny_bind (ji (k1 _ _ e1) e2 e3 hh λh2 tk k2=>?_)
  rw[if_pos (by rfl)]
  refine wpAny_bind (wpAny_rule (wpAny_bind (wpAny_pyIter_list ⟨o,k2 _ _ (k1 _ _ e1),e2.1,n,e3⟩ ?_)))
  refine wpAny_pure ⟨Code.quiet_builtin _ (by decide +kernel),?_⟩
  exact last _ tk _ (λb ob e=>Heap.get?_push_of_some _ (k2 b ob e)) (by obtain⟨_,_,_,f1,_⟩:=hnew;exact Heap.lt_size (k2 _ _ f1)) ⟨_,Heap.get?_push_size _ rfl,rfl,rfl⟩
 | false=>
  refine wpAny_bind (wpAny_typeOf (T:="tuple") ⟨o,k1 _ _ e1,e2.1⟩ ?_)
  rw[if_pos (by decide)]
  refine wpAny_bind (iR (k1 _ _ e1) e2 e3 hh λh2 tk k2=>?_)
  rw[if_pos (by rfl)]
  refine wpAny_bind (wpAny_rule (wpAny_bind (wpAny_pyIter_tuple ⟨o,k2 _ _ (k1 _ _ e1),e2.1,n,e3⟩ ?_)))
  refine wpAny_pure ⟨Code.quiet_builtin _ (by decide +kernel),?_⟩
  exact last _ tk _ (λb ob e=>Heap.get?_push_of_some _ (k2 b ob e)) (by obtain⟨_,_,_,f1,_⟩:=hnew;exact Heap.lt_size (k2 _ _ f1)) ⟨_,Heap.get?_push_size _ rfl,rfl,rfl⟩
end
noncomputable def le (i:I):Option Key:=match i with
 | .int n=>some (.inl n)
 | .str x=>some (.inr x)
 | _=>none
noncomputable def pr1 (i:I):Option (Key×I):=match i with
 | .tup is=>(match is with
  | []=>none
  | k::r=>(match r with
   | []=>none
   | v::r2=>(match r2 with
    | []=>(le k).map λq=>(q,v)
    | _::_=>none)))
 | _=>none
noncomputable def qw:List I->Option (List (Key×I))
 | []=>some []
 | i::is=>match pr1 i with
  | some p=>(qw is).map (p :: ·)
  | none=>none
noncomputable def rB (is:List I):Option T:=match qw is with
 | some l=>if(l.map (·.1)).Nodup then some (.di (l.map λp=>(dh p.1,p.2)))else none
 | none=>none
noncomputable def CT (g:List I->Option T) (t:T):Option T:=match t with
 | .im i=>(match i with
  | .tup is=>g is
  | _=>none)
 | .li is=>g is
 | _=>none
@[irreducible] noncomputable def lP:List T->Option T:=l1 (CT rB)
section
variable  {K:yF}{H:Hp}
theorem fM {i:I}{q:Key}(e:le i=some q):i=dh q:=by
 unfold le at e
 split at e<;>cases e<;>rfl
theorem iU {i:I}{q:Key}{x:V}(e:le i=some q)(r:RpI K H i x):x=kV q:=by
 rw[fM e]at r
 cases q<;>(rw[dh,RpI]at r;exact r)
theorem zT {i:I}{p:Key×I}{x:V}(e:pr1 i=some p)(r:RpI K H i x):∃w,PrV K H x (p.1,w)/\RpI K H p.2 w:=by
 unfold pr1 at e
 split at e
 ·split at e
  ·cases e
  ·split at e
   ·cases e
   ·split at e
    ·rename_i k _ v _ _
     obtain⟨q,e1,e2⟩:=EC.mp e
     cases e2
     rw[RpI]at r
     obtain⟨a,xs,rfl,h1,h2⟩:=r
     rw[RpIs]at h2
     obtain⟨y,r2,rfl,g1,h2⟩:=h2
     rw[RpIs]at h2
     obtain⟨z,r3,rfl,g2,h2⟩:=h2
     rw[RpIs]at h2
     subst h2
     rw[iU e1 g1]at h1
     exact⟨z,⟨a,rfl,h1⟩,g2⟩
    ·cases e
 ·cases e
theorem oW:∀{is:List I} {l:List (Key×I)} {xs:List V},qw is=some l->RpIs K H is xs->∃ps:List (Key×V),Paired (PrV K H) xs ps/\ps.map (·.1)=l.map (·.1)/\RpIs K H (l.map (·.2)) (ps.map (·.2))
 | [],_,_,e,r=>by
  cases e
  rw[RpIs]at r
  subst r
  exact⟨[],.nil,rfl,by rw[E7,RpIs];rfl⟩
 | i::is,l,xs,e,r=>by
  rw[RpIs]at r
  obtain⟨x,xs,rfl,r1,r2⟩:=r
  rw[qw]at e
  split at e
  ·rename_i p e1
   obtain⟨l',e2,rfl⟩:=EC.mp e
   obtain⟨w,h1,h2⟩:=zT e1 r1
   obtain⟨ps,h3,h4,h5⟩:=oW e2 r2
   refine⟨(p.1,w)::ps,.cons h1 h3,by rw[DS,DS,h4],?_⟩
   rw[DS,DS,RpIs]
   exact⟨w,_,rfl,h2,h5⟩
  ·cases e
theorem New.di {ps:List (Key×V)}{kvs:List (I×I)}{p:Addr}(hp:H p=none)(hk:ps.map (λq=>dh q.1)=kvs.map (·.1))(h:RpIs K H (kvs.map (·.2)) (ps.map (·.2))):New K H (upd H p (.dK ps)) (.di kvs) (.ref p):=by
 refine⟨Same.laid hp,[p],?_,by simp,λa ha=>?_⟩
 ·rw[Rp]
  refine⟨p,ps.map (λq=>(dh q.1,q.2)),rfl,⟨ps,ax,rfl⟩,?_,?_,rfl⟩
  ·have:(ps.map (λq=>(dh q.1,q.2))).map (·.2)=ps.map (·.2):=by rw[Eo];rfl
   rw[this]
   exact h.same (Same.laid hp)
  ·rw[Eo,←hk];rfl
 ·cases ysM ha
  exact⟨hp,_,ax,rfl⟩
theorem oz {is:List I}{t:T}{xs:List V}{p:Addr}{Q:VK}(e:rB is=some t)(r:RpIs K H is xs)(hs:SqL K H p xs∨SqT K H p xs)(q:∀v H',New K H H' t v->Q v H'):o0 K [.ref p] H Q:=by
 unfold rB at e
 split at e
 ·rename_i l e1
  split at e
  ·rename_i hn
   cases e
   obtain⟨ps,h1,h2,h3⟩:=oW e1 r
   refine⟨p,xs,ps,rfl,hs,h1,by rw[h2];exact hn,λl' hl=>q _ _ (.di hl ?_ ?_)⟩
   ·rw[Eo]
    have:=congrArg (List.map dh) h2
    rw[Eo,Eo]at this
    exact this
   ·rw[Eo];exact h3
  ·cases e
 ·cases e
theorem qm:dR K (o0 K) lP:=by
 intro H vs ts t Q r e q
 unfold lP at e
 have e0:=bU e
 clear e
 obtain⟨x,rfl,e⟩:=e0
 obtain⟨v,rfl,r1⟩:=jD r
 unfold CT at e
 split at e
 ·split at e
  ·obtain⟨p,xs,rfl,h1,h2⟩:=bG r1
   exact oz e h2 (.inr h1) q
  ·cases e
 ·obtain⟨p,xs,rfl,h1,h2⟩:=bQ r1
  exact oz e h2 (.inl (aM h1)) q
 ·cases e
theorem b_dict:pz "dict" lP:=⟨_,o0,Hv,λ_ h=>kP h,λ_=>qm⟩
noncomputable def iG:List (I×I)->I->Option I
 | [],_=>none
 | p::r,k=>if p.1=k then some p.2 else iG r k
noncomputable def dg1 (kvs:List (I×I)) (k:I):Option T:=match le k with
 | some _=>(iG kvs k).map T.im
 | none=>none
@[irreducible] noncomputable def dgT (t u:T):Option T:=match t with
 | .di kvs=>(match u with
  | .im k=>dg1 kvs k
  | _=>none)
 | _=>none
def dgR:R2:=λx y H Q=>∃a v,x=.ref a/\DGet H a y (some v)/\Q v H
theorem jh {a b:Key}(h:dh a=dh b):a=b:=by cases a<;>cases b<;>(unfold dh at h;cases h)<;>rfl
theorem lR {q:Key}{v:I}:∀{kvs:List (I×I)} {zs:List (Key×V)},iG kvs (dh q)=some v->zs.map (λz=>dh z.1)=kvs.map (·.1)->RpIs K H (kvs.map (·.2)) (zs.map (·.2))->∃w,jS zs q=some w/\RpI K H v w
 | [],_,e,_,_=>by cases e
 | p::r,zs,e,h1,h2=>by
  cases zs with
  | nil=>cases h1
  | cons z zs=>
   rw[DS,DS,ES.injEq]at h1
   rw[DS,DS,RpIs]at h2
   obtain⟨x,xs,e1,g1,g2⟩:=h2
   rw[ES.injEq]at e1
   obtain⟨rfl,rfl⟩:=e1
   rw[iG]at e
   split at e
   ·rename_i hk
    cases e
    exact⟨z.2,jH (jh (h1.1.trans hk)),g1⟩
   ·rename_i hk
    obtain⟨w,g3,g4⟩:=lR e h1.2 g2
    exact⟨w,by rw[jG λe=>hk (by rw[←h1.1,e])];exact g3,g4⟩
theorem wm:cM K dgR dgT:=by
 intro H x y tx ty t Q r1 r2 e q
 unfold dgT at e
 split at e
 ·split at e
  ·unfold dg1 at e
   split at e
   ·rename_i kvs k _ q0 e1
    obtain⟨v,e2,rfl⟩:=EC.mp e
    obtain⟨F,r1⟩:=r1
    rw[Rp]at r1
    obtain⟨a,ys,rfl,⟨zs,hz,rfl⟩,h1,h2,_⟩:=r1
    rw[Eo]at h1 h2
    rw[iU e1 (ci r2)]
    rw[fM e1]at e2
    obtain⟨w,g1,g2⟩:=lR e2 h2 h1
    refine⟨a,w,rfl,?_,q _ _ (.im g2)⟩
    rw[←g1]
    exact DGet.k hz
   ·cases e
  ·cases e
 ·cases e
end
section
variable  {ι : Type}{C:ι->Cx}{P:Program}{W:World}{K:yF}{mg:Str->Option Value}{base:Heap}{k:Nat}{a b:Expr}{ma mb:ME}{pos:Pos}
theorem Ci (ck:CK C P W K mg base k)(ha:QE C K a ma)(hb:QE C K b mb)(hs:u7 b:=by intro _ _;rfl):QE C K (.Subscript a b pos) (mOp dgT ma mb):=by
 obtain⟨ta,p,r⟩:=ha
 obtain⟨tb,p',r'⟩:=hb
 exact⟨_,λi=>oV (xO (ck.room i)) (p i) (p' i) hs,jB (red:=dgR) wm r r'⟩
end
section
variable  {X:Cx}{pins:List (Addr×Obj)}{Z:St}{H:Hp}{s:Shared}
theorem Inv.frz {a:Addr}{xs:List V}(I:Inv X pins Z H s)(h:H a=some (.lst xs)):∃o,Inv X pins Z (upd H a (.frz o (.lst xs))) s:=by
 obtain⟨z,its,n,r,e⟩:=(show ObjOk X.prog X.w H s.heap a (.lst xs)from I.hok a _ h)
 exact⟨_,I.write (t':=s.toks) (h':=s.heap) (by rw[h];exact True.intro) (.inl rfl) (λb u _ q=>q) ⟨_,e⟩ ⟨e,z,its,n,r,e⟩⟩
end
section
variable  {K:yF}
end
section
variable  {ι : Type}{C:ι->Cx}{P:Program}{W:World}{K:yF}{mg:Str->Option Value}{base:Heap}{k:Nat}{a b:Expr}{ma mb:ME}{pos:Pos}
end
noncomputable def jc:List I->Option (List Int)
 | []=>some []
 | i::is=>match i with
  | .int n=>(jc is).map (n :: ·)
  | _=>none
theorem lX {K:yF}{H:Hp}:∀{is:List I} {ns:List Int} {xs:List V},jc is=some ns->RpIs K H is xs->xs=ns.map V.int
 | [],_,_,e,r=>by cases e;rw[RpIs]at r;exact r
 | i::is,ns,xs,e,r=>by
  rw[RpIs]at r
  obtain⟨x,xs,rfl,r1,r2⟩:=r
  cases i with
  | int n=>
   obtain⟨ms,e2,rfl⟩:=EC.mp (show(jc is).map (n :: ·)=some ns from e)
   rw[RpI]at r1
   rw[r1,lX e2 r2];rfl
  | _=>cases e
end L2
namespace L2
open PySem
noncomputable section
noncomputable def cT (rec:List T->Option T):MS:=(aq (mIf (aY (mOp eqT (mIx (ah 0) (mC (.int 0))) (mC (.str "num")))) (bf (aR [] mNil)) mNext)
  (aq (mIf (aY (mOp eqT (mIx (ah 0) (mC (.int 0))) (mC (.str "at")))) (bf (aR [] (aa (av [] (aa (mIx (ah 0) (mC (.int 1))) (aa (mIx (ah 0) (mC (.int 2))) mNil))) mNil))) mNext)
  (aq (aD (aR [] mNil) (ag 1))
  (aq (bS (mIt (mSl (ah 0) (dl (mOp bd (mC (.int 1)) (mB pQ (aa (mOp eqT (mIx (ah 0) (mC (.int 0))) (mC (.str "op"))) mNil)))) mNoPart)) (ag 2)
  (bR [2] (bp (cH 1 [] kZ (ah 1) (aa (mB rec (ac 2 mNil)) mNil)))))
  (bf (ah 1))))))
noncomputable def cf:Nat->List T->Option T
 | 0=>λts=>if ts.length=1 then dv lg 3 ts else none
 | n+1=>λts=>if ts.length=1 then dv (cT (cf n)) 3 ts else none
noncomputable def fU:MS:=(aq (aD (aR [] mNil) (ag 1))
  (aq (bS (mIt (mIx (ah 0) (mC (.int 2)))) (cD (aI (ag 2) (aI (ag 3) mGNil)))
  (bR [2,3,4,5] (bS (mIt (mB (cf 24) (ac 3 mNil))) (cD (aI (ag 4) (aI (ag 5) mGNil)))
  (bR [4,5] (mIf (aY (mOp nD (av [2,4,5] (ac 2 (ac 4 (ac 5 mNil)))) (ah 1))) (bp (cH 1 [] apT (ah 1) (aa (av [2,4,5] (ac 2 (ac 4 (ac 5 mNil)))) mNil))) mNext)))))
  (bf (ah 1))))
noncomputable def iw (ts:List T):Option T:=if ts.length=1 then dv fU 6 ts else none
end
end L2
namespace L2
open PySem PySem.Spec PyProof.Rows
section
variable  {m:ME}{ρ:Rho}{QF:R->Rho->Prop}{i:Nat}{is:List I}{j:I}{k:Kd}
end
theorem iN (ns:List Int):∀k,k<=ns.length->preSum (λi=>ns.getD i 0) k=(ns.take k).sum
 | 0,_=>by simp[preSum]
 | k+1,h=>by
  have hk:k<ns.length:=h
  rw[preSum,iN ns k (FZ hk),FK,Eh hk,FW]
  simp[List.getD,Eh hk]
theorem pj:∀{ns:List Int} {us:List Value} {i:Nat} {v:Value},Vals (ns.map V.int) us->us[i]?=some v->∃t,v=.int (ns.getD i 0) t
 | [],_,_,_,.nil,e=>by simp at e
 | n::ns,_,0,_,.cons r _,e=>by simp at e;subst e;exact r
 | n::ns,_,i+1,v,.cons _ t,e=>by simpa using pj (ns:=ns) (i:=i) t (by simpa using e)
section
variable  {X:Cx}
theorem rl (hc:X.calm=true):CallR X (.builtin "sum") (λxs H Q=>∃(a:Addr) (ns:List Int),xs=[.ref a]/\SqL X.K H a (ns.map V.int)/\Q (.int ns.sum) H):=by
 intro pins s Z H xs us Q I rv h
 obtain⟨a,ns,rfl,hq,q⟩:=h
 obtain⟨u,rfl,ru⟩:=fF rv
 cases ru
 obtain⟨its,r,p,hz⟩:=I.list hq
 have hlt:a<s.heap.objs.size:=by
  obtain⟨o,n,e,_⟩:=p
  exact Heap.lt_size e
 refine call_sum_walkG (wpAny_pyIter_list p.isList ?_)
 refine⟨s.heap.objs.size,_,_,_,_,_,λi=>ns.getD i 0,rfl,Walks.list (A:=X.A.in1) (show X.A.in1.handled=none from I.ok.hd hc) s.heap.objs.size a (Ed hlt) its.toArray,⟨⟨_,Heap.get?_push_size _ rfl,rfl,rfl⟩,?_⟩,?_,?_,λh' tk t' hk=>?_⟩
 ·exact p.isList.at λo e=>Heap.get?_push_of_some _ e
 ·intro b hb
  show b<(s.heap.push _).objs.size
  rw[Heap.size_push]
  simp only[Er,Ex,or_false]at hb
  rcases hb with rfl|rfl
  ·exact Gj _
  ·exact Ga hlt
 ·intro i v hv
  exact pj r (by simpa using hv)
 ·have I1:Inv X pins Z H {s with heap:=h',toks:=tk}:=I.kept λb o e=>hk b o (λz=>absurd (ysM z) (Ed (Heap.lt_size e))) (Heap.get?_push_of_some _ e)
  refine⟨.int _,H,I1,⟨t',rfl⟩,?_⟩
  have hl:its.toArray.size=ns.length:=by rw[DT,←r.length,DX]
  rw[hl,iN ns _ (DY _),FA]
  exact q
theorem BF:∀{kvs:List (Key×V)} {vs:List (Key×Value)} {us:List Value},KV kvs vs->us.length=vs.length->(∀(i:Nat) (v:Value),us[i]?=some v->∃k x,vs[i]?=some (k,x)/\jg k v=true)->Vals (kvs.map λp=>kV p.1) us
 | [],_,us,.nil,hl,_=>by have:us=[]:=EI.mp hl;subst this;exact .nil
 | p::ps,_,us,.cons (b:=q) r t,hl,h=>by
  cases us with
  | nil=>cases hl
  | cons u us=>
   refine .cons ?_ (BF t (by simpa using hl) λi v e=>by simpa using h (i+1) v (by simpa using e))
   obtain⟨k,x,e,hk⟩:=h 0 u rfl
   simp at e
   have e1:p.1=k:=by rw[r.1,e]
   show RelV (kV p.1) u
   rw[e1]
   rcases aT hk with⟨i,t,rfl,rfl⟩|⟨x,t,rfl,rfl⟩
   ·exact⟨_,rfl⟩
   ·exact⟨_,rfl⟩
theorem nc (hc:X.calm=true):CallR X (.type "list") (λxs H Q=>∃a kvs,xs=[.ref a]/\Rd H a (.dK kvs)/\∀l,H l=none->Q (.ref l) (upd H l (.lst (kvs.map λp=>kV p.1)))):=by
 intro pins s Z H xs us Q I rv h
 obtain⟨a,kvs,rfl,hd,q⟩:=h
 obtain⟨u,rfl,ru⟩:=fF rv
 cases ru
 obtain⟨z,ha,vs,rel,dd⟩:=oA I.hok hd
 obtain⟨ep,da⟩:=dd.dictAt
 have hl:kvs.length=vs.length:=Paired.length rel
 refine PySem.W.kdl_call (PySem.W.kdl_dict (kvs:=vs) (ep:=ep) ha) (I.ok.hd hc) da (by omega) λh' tk acc' c' hk hS ia=>?_
 refine⟨.ref s.heap.objs.size,_,I.laid (t':=tk) hk (DY _) (show ObjOk X.prog X.w _ h' _ (.lst (kvs.map λp=>kV p.1))from⟨by rw[DX];exact z,acc'.toList,c',?_,by rw[Array.toArray_toList];exact hS⟩),rfl,q _ (I.hok.fresh (DY _))⟩
 exact BF rel (by rw[EO];exact ia.1) λi v e=>ia.2 i v (by rw[←GA];exact e)
end
theorem rC {P:Program}{w:World}{H:Hp}(h:Heap)(hb:sysModules<h.objs.size):ObjOk P w H (h.push {cls:=.type "dict",data:=.dict #[]}) h.objs.size (.dK []):=
 ⟨Ff _,beq_eq_false_iff_ne.mpr (Ne.symm (Ed hb)),[],.nil,Heap.DictOf.new h⟩
def yn:TE:=λ_ H Q=>∀p,H p=none->Q (.ref p) (upd H p (.dK []))
theorem vZ {X:Cx}{pos:Pos}:PE X (.Dict [] [] pos) yn:=λpins s Z H Q I h=>
 wpAny_Dict_empty ⟨.ref s.heap.objs.size,_,I.laid (a:=s.heap.objs.size) (o:=.dK []) (t':=s.toks) (λ_ _ q=>Heap.get?_push_of_some _ q) (DY _) (rC s.heap I.big),rfl,h _ (I.hok.fresh (DY _))⟩
section
variable  {κ : Type}[DecidableEq κ]
noncomputable def bP {α:Type}:List (κ × α)->κ->α->List (κ × α)
 | [],k,v=>[(k,v)]
 | p::r,k,v=>if p.1=k then(p.1,v)::r else p::bP r k v
theorem oR {k : κ}{u:Value}:∀{vs:List (κ×Value)},k∉vs.map (·.1)->vs.map (λkv=>if kv.1=k then(kv.1,u)else kv)=vs
 | [],_=>rfl
 | p::r,h=>by
  rw[DS,Er,not_or]at h
  rw[DS,if_neg (λz=>h.1 z.symm),oR h.2]
theorem kD (k : κ)(u:Value):∀{vs:List (κ×Value)},(vs.map (·.1)).Nodup->stored vs k u=bP vs k u
 | [],_=>by simp[stored,bP]
 | p::r,h=>by
  rw[DS,Ep]at h
  have ih:=kD k u h.2
  obtain⟨k',t⟩:=p
  unfold stored at ih⊢
  rw[bP]
  by_cases e:k'=k
  ·subst e
   rw[if_pos (by simp),if_pos rfl,DS,if_pos rfl,oR h.1]
  ·rw[if_neg e,←ih,Gb]
   simp only[decide_eq_false e,GR,DS,if_neg e,Ej]
   split<;>rfl
theorem KV.put {k : κ}{y:V}{u:Value}(ry:RelV y u):∀{kvs:List (κ×V)} {vs:List (κ×Value)},KV kvs vs->KV (bP kvs k y) (bP vs k u)
 | _,_,.nil=>.cons ⟨rfl,ry⟩ .nil
 | (k1,y1)::_,(k2,u2)::_,.cons h t=>by
  have e:k1=k2:=h.1
  subst e
  rw[bP,bP]
  by_cases e:k1=k
  ·rw[if_pos e,if_pos e];exact .cons ⟨rfl,ry⟩ t
  ·rw[if_neg e,if_neg e];exact .cons h (KV.put ry t)
end
def yh:u8:=λo i v H Q=>∃a kvs k,o=.ref a/\i=kV k/\H a=some (.dK kvs)/\(bP kvs k v).length<=sizeLine/\Q (upd H a (.dK (bP kvs k v)))
theorem ux {X:Cx}:yw X yh:=by
 intro pins s Z H o i v ov iv u Q I ro ri rv h
 obtain⟨a,kvs,k,rfl,rfl,e,hl,q⟩:=h
 cases ro
 obtain⟨z,hd,vs,rel,dd⟩:=(show ObjOk X.prog X.w H s.heap a (.dK kvs)from I.hok a _ e)
 have hz:vs.length<=sizeLine:=by have:=Paired.length rel;omega
 refine wpAny_setItem_pairs (hsz:=hz) (rW ri) dd λh' dd' hs=>⟨_,?_,q⟩
 have he:∃q,h'.get? a=some q:=let ⟨q,_,_,hq,_⟩:=dd';⟨q,hq⟩
 exact I.write (x:=a) (e:=a) (t':=s.toks+1) (by rw[e];exact True.intro) (.inl rfl) (λb q hb z=>(hs.2 b hb).trans z) he (show ObjOk X.prog X.w _ h' a (.dK (bP kvs k v))from⟨hl,hd,_,KV.put rv rel,by rw[kD k u (let ⟨_,_,_,_,_,_,_,_,hn⟩:=dd;hn)]at dd';exact dd'⟩)
noncomputable def kPD:Key->PyData
 | .inl i=>.int i
 | .inr x=>.str x
mutual
noncomputable def I.pd:I->PyData
 | .non=>.none|.bl b=>.bool b|.int i=>.int i|.str x=>.str x|.tup is=>.tuple (I.pds is)|.ls is=>.list (I.pds is)|.fd ks is=>.dict ((ks.map kPD).zip (I.pds is))
noncomputable def I.pds:List I->List PyData
 | []=>[]
 | i::is=>i.pd::I.pds is
end
theorem I.pds_length:∀is:List I,(I.pds is).length=is.length
 | []=>rfl
 | i::is=>by rw[I.pds,D5,D5,I.pds_length is]
theorem l6 {P:Program}{w:World}{h:Heap}:∀{es:List DictEntry} {vs:List (Key×Value)} {ys:List (Key×V)},Pairs (bM P w) es vs->KV ys vs →
  ReadsAll h (es.map (·.key)) ((ys.map (·.1)).map kPD) []/\Vals (ys.map (·.2)) (es.map (·.val))
 | _,_,_,.nil,.nil=>⟨.nil,.nil⟩
 | e::es,(k,v)::vs,(k',y)::ys,.cons hk hv t,.cons hr q=>by
  obtain⟨ih1,ih2⟩:=l6 (h:=h) t q
  have e1:k'=k:=hr.1
  subst e1
  refine⟨?_,.cons (show RelV y e.val by rw[hv];exact hr.2) ih2⟩
  have:Reads h e.key (kPD k') []:=by
   rcases aT hk with⟨i,t,e1,e2⟩|⟨x,t,e1,e2⟩
   ·rw[e2];cases e1;exact .int i t
   ·rw[e2];cases e1;exact .str x t
  exact .cons (as:=[]) (bs:=[]) this ih1
mutual
noncomputable def I.nls:I->Bool
 | .ls _=>false|.tup is=>I.nlss is|.fd _ is=>I.nlss is|.non=>true|.bl _=>true|.int _=>true|.str _=>true
noncomputable def I.nlss:List I->Bool
 | []=>true
 | i::is=>i.nls&&I.nlss is
end
section
variable  {X:Cx}{pins:List (Addr×Obj)}{Z:St}{H:Hp}{s:Shared}
mutual
theorem o3 (J:Inv X pins Z H s):∀(i:I) {v:V} {u:Value},i.nls=true->RpI X.K H i v->RelV v u->∃as,Reads s.heap u i.pd as/\sysModules∉as
 | .non,_,_,_,r,q=>by rw[RpI]at r;subst r;cases q;exact⟨_,.none,by simp⟩
 | .bl b,_,_,_,r,q=>by rw[RpI]at r;subst r;cases q;exact⟨_,.bool b,by simp⟩
 | .int i,_,_,_,r,q=>by rw[RpI]at r;subst r;obtain⟨t,rfl⟩:=q;exact⟨_,.int i t,by simp⟩
 | .str x,_,_,_,r,q=>by rw[RpI]at r;subst r;obtain⟨t,rfl⟩:=q;exact⟨_,.str x t,by simp⟩
 | .tup is,_,_,hn,r,q=>by
  rw[RpI]at r
  obtain⟨a,xs,rfl,h1,h2⟩:=r
  cases q
  obtain⟨its,rv,⟨o,e,c,n,d⟩,_⟩:=J.tuple h1
  obtain⟨as,g1,g2⟩:=jz J is (by rw[I.nls]at hn;exact hn) h2 rv
  exact⟨as,.tuple e c d g1,g2⟩
 | .ls is,_,_,hn,_,_=>by cases hn
 | .fd ks is,_,_,hn,r,q=>by
  rw[RpI]at r
  obtain⟨a,o,ys,rfl,h1,h2,h3⟩:=r
  cases q
  obtain⟨z,hd,vs,rel,o',es,ep,e,c,d,_,pr,_⟩:=oA J.hok (.inr ⟨o,h1⟩)
  obtain⟨g1,rv⟩:=l6 (h:=s.heap) pr rel
  obtain⟨bs,g2,g3⟩:=jz J is (by rw[I.nls]at hn;exact hn) h3 rv
  have hl:(ks.map kPD).length=(I.pds is).length:=by
   rw[DX,I.pds_length,←h2,DX];have:=h3.length;rw[DX]at this;omega
  refine⟨a::[]++bs,.dict e c.1 d (as:=[]) (bs:=bs) ?_ ?_,?_⟩
  ·rw[List.map_fst_zip (by omega),←h2];exact g1
  ·rw[List.map_snd_zip (by omega)];exact g2
  ·simp only[Ej,EK,Er,not_or]
   exact⟨λz=>by rw[←z]at hd;simp at hd,g3⟩
theorem jz (J:Inv X pins Z H s):∀(is:List I) {vs:List V} {us:List Value},I.nlss is=true->RpIs X.K H is vs->Vals vs us->∃as,ReadsAll s.heap us (I.pds is) as/\sysModules∉as
 | [],_,_,_,r,q=>by rw[RpIs]at r;subst r;cases q;exact⟨[],.nil,by simp⟩
 | i::is,_,_,hn,r,q=>by
  rw[RpIs]at r
  obtain⟨x,xs,rfl,h1,h2⟩:=r
  cases q with
  | cons q1 q2=>
   obtain⟨as,g1,g2⟩:=o3 J i (Fy.mp (by rw[I.nlss]at hn;exact hn)).1 h1 q1
   obtain⟨bs,g3,g4⟩:=jz J is (Fy.mp (by rw[I.nlss]at hn;exact hn)).2 h2 q2
   exact⟨as++bs,.cons g1 g3,by simp only[FQ,not_or];exact⟨g2,g4⟩⟩
end
theorem pE (hc:X.calm=true)(hu:X.A.units+64<cLine):CallR X (.builtin "repr") (λxs H Q=>∃(a:Addr) (i:I),xs=[.ref a]/\RpI X.K H i (.ref a)/\i.nls=true/\i.pd.showable=true/\i.pd.depth<=50/\i.pd.shown.length<=sizeLine/\Q (.str i.pd.shown) H):=by
 intro pins s Z H xs us Q J rv h
 obtain⟨a,i,rfl,hr,hn,hs,hd,hl,q⟩:=h
 obtain⟨u,rfl,ru⟩:=fF rv
 cases ru
 obtain⟨as,r,hm⟩:=o3 J i hn hr rfl
 exact repr_of_reads' r hs (λ_=>hm) (J.ok.gd hc) (by omega) (λ_ _ e=>e) (λh' u tk hk=>⟨.str _,H,J.kept hk,⟨u,rfl⟩,q⟩) hl
end
@[irreducible] noncomputable def qP:List T->Option T:=l1 λt=>match t with
 | .li is=>(jc is).map λns=>.im (.int ns.sum)
 | _=>none
@[irreducible] noncomputable def l4:List T->Option T:=l1 λt=>match t with
 | .di kvs=>some (.li (kvs.map (·.1)))
 | _=>none
noncomputable def iI:List Key->List I->Key->Option I
 | k::ks,i::is,q=>if k=q then some i else iI ks is q
 | _,_,_=>none
@[irreducible] noncomputable def lU (t u:T):Option T:=match t with
 | .im i=>(match i with
  | .fd ks is=>(match u with
   | .im k=>(match le k with
    | some q=>(iI ks is q).map T.im
    | none=>none)
   | _=>none)
  | _=>none)
 | _=>none
noncomputable def gp (i:I):Bool:=i.nls&&(i.pd.showable&&(decide (i.pd.depth<=50)&&decide (i.pd.shown.length<=sizeLine)))
noncomputable def yQ:I->Bool
 | .tup _=>true|.fd _ _=>true|_=>false
@[irreducible] noncomputable def kz:List T->Option T:=l1 λt=>match t with
 | .im i=>if(yQ i&&gp i)=true then some (.im (.str i.pd.shown))else none
 | _=>none
@[irreducible] noncomputable def mDN:ME:=⟨λρ=>some (⟨.ow,.di []⟩,ρ),[]⟩
noncomputable def xL (kvs:List (I×I)) (k v:I):Option T:=match le k with
 | some _=>if(bP kvs k v).length<=sizeLine then some (.di (bP kvs k v))else none
 | none=>none
noncomputable def oE (s k v:T):Option T:=match s with
 | .di kvs=>(match k with
  | .im ki=>(match v with
   | .im vi=>xL kvs ki vi
   | _=>none)
  | _=>none)
 | _=>none
@[irreducible] noncomputable def ka (j:Nat)(o i:ME):MG:=⟨λr ρ=>match r with
 | ⟨.ow,tv⟩=>match o.run ρ with
  | some (⟨.vw (some j') (some p),s⟩,ρ1)=>match i.run ρ1 with
   | some (ri,ρ2)=>if(decide (j'=j) && !i.mu.contains j)=true then(match oE s ri.t tv with
    | some s'=>(match ρ2[j]? with
     | some (some ⟨k,t⟩)=>if k.isOw=true then some ((ao [j] ρ2).set j (some ⟨k,t.put p s'⟩))else none
     | _=>none)
    | none=>none)else none
   | none=>none
  | _=>none
 | _=>none,(o.mu++i.mu)++[j]⟩
noncomputable def gJ:List (I×I)->Option (List Key)
 | []=>some []
 | p::r=>match le p.1 with
  | some q=>(gJ r).map (q :: ·)
  | none=>none
noncomputable def rJ (r:R):Option I:=match r.k with
 | .ow=>(match r.t with
  | .di kvs=>(gJ kvs).map λks=>.fd ks (kvs.map (·.2))
  | _=>none)
 | _=>none
@[irreducible] noncomputable def ke (a:ME):ME:=⟨λρ=>match a.run ρ with
 | some (r,ρ1)=>(match rJ r with
  | some i=>some (⟨.ow,.im i⟩,ρ1)
  | none=>none)
 | none=>none,a.mu⟩
section
variable  {K:yF}{H:Hp}
def CO (K:yF):List V->Hp->VK->Prop:=λxs H Q=>∃(a:Addr) (ns:List Int),xs=[.ref a]/\SqL K H a (ns.map V.int)/\Q (.int ns.sum) H
theorem tw:dR K (CO K) qP:=by
 intro H vs ts t Q r e q
 unfold qP at e
 have e0:=bU e
 clear e
 obtain⟨x,rfl,e⟩:=e0
 obtain⟨v,rfl,r1⟩:=jD r
 split at e
 ·obtain⟨ns,e1,rfl⟩:=EC.mp e
  obtain⟨p,xs,rfl,h1,h2⟩:=bQ r1
  have:=lX e1 h2
  subst this
  exact⟨p,ns,rfl,aM h1,q _ H (.sc rfl)⟩
 ·cases e
theorem b_sum:lJ "sum" qP:=⟨_,CO,HB,λ_ h=>rl h,λ_=>tw⟩
theorem vA (q:Key):RpI K H (dh q) (kV q):=by cases q<;>(rw[dh,RpI];rfl)
theorem l5:∀(zs:List (Key×V)),RpIs K H (zs.map λp=>dh p.1) (zs.map λp=>kV p.1)
 | []=>by rw[E7,E7,RpIs]
 | z::zs=>by rw[DS,DS,RpIs];exact⟨_,_,rfl,vA z.1,l5 zs⟩
def yb:yF->List V->Hp->VK->Prop:=λ_ xs H Q=>∃a kvs,xs=[.ref a]/\Rd H a (.dK kvs)/\∀l,H l=none->Q (.ref l) (upd H l (.lst (kvs.map λp=>kV p.1)))
theorem qu:dR K (yb K) l4:=by
 intro H vs ts t Q r e q
 unfold l4 at e
 have e0:=bU e
 clear e
 obtain⟨x,rfl,e⟩:=e0
 obtain⟨v,rfl,r1⟩:=jD r
 split at e
 ·rename_i kvs
  cases e
  obtain⟨F,r1⟩:=r1
  rw[Rp]at r1
  obtain⟨a,ys,rfl,⟨zs,hz,rfl⟩,h1,h2,_⟩:=r1
  refine⟨a,zs,rfl,.inl hz,λl hl=>q _ _ (.li hl ?_)⟩
  rw[←h2,Eo]
  exact l5 zs
 ·cases e
theorem vb:pz "list" l4:=⟨_,yb,Gw,λ_ h=>nc h,λ_=>qu⟩
theorem lV {q:Key}{v:I}:∀{ks:List Key} {is:List I} {ys:List (Key×V)},iI ks is q=some v->ys.map (·.1)=ks->RpIs K H is (ys.map (·.2))->∃w,jS ys q=some w/\RpI K H v w
 | [],_,_,e,_,_=>by cases e
 | k::ks,[],_,e,_,_=>by cases e
 | k::ks,i::is,ys,e,h1,h2=>by
  cases ys with
  | nil=>cases h1
  | cons z zs=>
   rw[DS,ES.injEq]at h1
   rw[DS,RpIs]at h2
   obtain⟨x,xs,e1,g1,g2⟩:=h2
   rw[ES.injEq]at e1
   obtain⟨rfl,rfl⟩:=e1
   rw[iI]at e
   split at e
   ·rename_i hk
    cases e
    exact⟨z.2,jH (h1.1.trans hk),g1⟩
   ·rename_i hk
    obtain⟨w,g3,g4⟩:=lV e h1.2 g2
    exact⟨w,by rw[jG λe=>hk (by rw[←h1.1,e])];exact g3,g4⟩
theorem sT:cM K dgR lU:=by
 intro H x y tx ty t Q r1 r2 e q
 unfold lU at e
 split at e
 ·split at e
  ·split at e
   ·split at e
    ·rename_i q0 e1
     obtain⟨v,e2,rfl⟩:=EC.mp e
     have r1:=ci r1
     rw[RpI]at r1
     obtain⟨a,o,ys,rfl,h1,h2,h3⟩:=r1
     rw[iU e1 (ci r2)]
     obtain⟨w,g1,g2⟩:=lV e2 h2 h3
     exact⟨a,w,rfl,⟨ys,q0,.inr ⟨o,h1⟩,rfl,g1.symm⟩,q _ _ (.im g2)⟩
    ·cases e
   ·cases e
  ·cases e
 ·cases e
def yg (K:yF):List V->Hp->VK->Prop:=λxs H Q=>∃(a:Addr) (i:I),xs=[.ref a]/\RpI K H i (.ref a)/\i.nls=true/\i.pd.showable=true/\i.pd.depth<=50/\i.pd.shown.length<=sizeLine/\Q (.str i.pd.shown) H
theorem qv:dR K (yg K) kz:=by
 intro H vs ts t Q r e q
 unfold kz at e
 have e0:=bU e
 clear e
 obtain⟨x,rfl,e⟩:=e0
 obtain⟨v,rfl,r1⟩:=jD r
 split at e
 ·rename_i i
  split at e
  ·rename_i hc
   cases e
   unfold gp at hc
   simp only[DU,decide_eq_true_eq]at hc
   obtain⟨h0,h1,h2,h3,h4⟩:=hc
   have r1:=ci r1
   have:∃a,v=.ref a:=by
    cases i<;>first|(cases h0;done)|(rw[RpI]at r1;obtain⟨a,xs,rfl,_⟩:=r1;exact⟨a,rfl⟩)|(rw[RpI]at r1;obtain⟨a,o,ys,rfl,_⟩:=r1;exact⟨a,rfl⟩)
   obtain⟨a,rfl⟩:=this
   exact⟨a,i,rfl,r1,h1,h2,h3,h4,q _ H (.sc rfl)⟩
  ·cases e
 ·cases e
theorem AF:aP K yn mDN:=by with_unfolding_all
 intro Γ H ρ Z E Q r ρ' hK hr S q
 simp only[mDN]at hr q
 cases hr
 refine λp hp=>q _ _ ?_
 rw[bE]
 exact(S.fresh (.di (ps:=[]) (kvs:=[]) hp rfl (by rw[E7,E7,RpIs])))
theorem oX {q:Key}{vi:I}{w:V}(hv:RpI K H vi w):∀{kvs:List (I×I)} {zs:List (Key×V)},zs.map (λz=>dh z.1)=kvs.map (·.1)->RpIs K H (kvs.map (·.2)) (zs.map (·.2)) →
  (bP zs q w).map (λz=>dh z.1)=(bP kvs (dh q) vi).map (·.1)/\RpIs K H ((bP kvs (dh q) vi).map (·.2)) ((bP zs q w).map (·.2))
 | [],zs,h1,h2=>by
  have:zs=[]:=by cases zs with|nil=>rfl|cons _ _=>cases h1
  subst this
  exact⟨rfl,by show RpIs K H [vi] [w];rw[RpIs];exact⟨w,[],rfl,hv,by rw[RpIs]⟩⟩
 | p::r,zs,h1,h2=>by
  cases zs with
  | nil=>cases h1
  | cons z zs=>
   rw[DS,DS,ES.injEq]at h1
   rw[DS,DS,RpIs]at h2
   obtain⟨x,xs,e1,g1,g2⟩:=h2
   rw[ES.injEq]at e1
   obtain⟨rfl,rfl⟩:=e1
   rw[bP,bP]
   by_cases e:z.1=q
   ·rw[if_pos e,if_pos (by rw[←h1.1,e])]
    refine⟨by rw[DS,DS,h1.1,h1.2],?_⟩
    rw[DS,DS,RpIs]
    exact⟨w,_,rfl,hv,g2⟩
   ·rw[if_neg e,if_neg (λz=>e (jh (h1.1.trans z)))]
    obtain⟨g3,g4⟩:=oX hv h1.2 g2
    refine⟨by rw[DS,DS,h1.1,g3],?_⟩
    rw[DS,DS,RpIs]
    exact⟨z.2,_,rfl,g1,g4⟩
theorem uc {to ti:TE}{o i:ME}{j:Nat}(ho:aP K to o)(hi:aP K ti i):g9 K (yM to ti yh) (ka j o i):=by with_unfolding_all
 intro Γ H ρ Z E Q v r ρ' hK hr S q
 simp only[ka]at hr q
 split at hr
 ·rename_i tv
  split at hr
  ·rename_i j' p s ρ1 e1
   split at hr
   ·rename_i ri ρ2 e2
    split at hr
    ·rename_i hc
     rw[DU,decide_eq_true_eq,EB]at hc
     obtain⟨rfl,hmv⟩:=hc
     split at hr
     ·rename_i s' e3
      split at hr
      ·rename_i k t e4
       split at hr
       ·rename_i hw
        cases hr
        refine ho Γ H ρ Z _ _ _ _ hK e1 S λx H1 S1=>?_
        refine hi Γ H1 ρ1 Z _ _ _ _ hK e2 S1 λy H2 S2=>?_
        have k1:az i.mu ⟨none,x,⟨.vw (some j') (some p),s⟩⟩=true:=by unfold az;simp only[Kd.root];rw[hmv];rfl
        have k2:∀M:List Nat,az M ⟨none,v,⟨.ow,tv⟩⟩=true:=λM=>rfl
        rw[ar k1,af,ar (k2 _)]at S2
        have ry:=S2.rd ymS
        have S3:=S2.drop rfl
        obtain⟨G,F,h1,h2,h3,h4,h5⟩:=Sim.mut (vs:=[v]) (ts:=[tv]) (S3.perm (List.Perm.swap _ _ _)) rfl e4 hw
        generalize hri:ri.t=tri at e3
        unfold oE at e3
        split at e3
        ·split at e3
         ·split at e3
          ·rename_i kvs _ ki _ vi
           unfold xL at e3
           split at e3
           ·rename_i q0 e5
            split at e3
            ·rename_i hz
             cases e3
             rw[Rp]at h1
             obtain⟨a,ys,rfl,⟨zs,hzs,rfl⟩,g1,g2,rfl⟩:=h1
             rw[Eo]at g1 g2
             obtain⟨z,ez,g3⟩:=qM h2
             cases ez
             obtain⟨g4,rfl⟩:=ba g3
             have ry':∃F,Rp Γ.K H2 ri.t y F:=ry
             have ey:y=kV q0:=by rw[hri]at ry';exact iU e5 (ci ry')
             subst ey
             rw[fM e5]at hz
             obtain⟨g5,g6⟩:=oX (q:=q0) g4 g2 g1
             have hlen:(bP zs q0 v).length=(bP kvs (dh q0) vi).length:=by have:=congrArg E9 g5;simpa using this
             refine⟨a,zs,q0,rfl,rfl,hzs,by rw[hlen];exact hz,q Z _ ?_⟩
             have hM:∀b∈[a],Mu H2 b:=λb hb=>by rw[ysM hb];exact⟨_,hzs,rfl⟩
             have:=h5 (upd H2 a (.dK (bP zs q0 v))) (.di (bP kvs ki vi)) [a] OffM.upd (λb hb=>by rw[ysM hb];exact⟨_,ax⟩) (by simp) (λb hb=>by rw[ysM hb];exact⟨.inl (by simp),_,ax,rfl⟩) (by
              rw[Rp]
              refine⟨a,(bP zs q0 v).map (λp=>(dh p.1,p.2)),rfl,⟨_,ax,rfl⟩,?_,?_,rfl⟩
              ·rw[Eo,fM e5];exact g6.off OffM.upd hM
              ·rw[Eo,fM e5];exact g5)
             rw[af]at this
             exact this
            ·cases e3
           ·cases e3
          ·cases e3
         ·cases e3
        ·cases e3
       ·cases hr
      ·cases hr
     ·cases hr
    ·cases hr
   ·cases hr
  ·cases hr
 ·cases hr
theorem l3:∀{kvs:List (I×I)} {ks:List Key} {zs:List (Key×V)},gJ kvs=some ks->zs.map (λz=>dh z.1)=kvs.map (·.1)->zs.map (·.1)=ks
 | [],_,zs,e,h=>by cases e;cases zs with|nil=>rfl|cons _ _=>cases h
 | p::r,ks,zs,e,h=>by
  cases zs with
  | nil=>cases h
  | cons z zs=>
   rw[DS,DS,ES.injEq]at h
   rw[gJ]at e
   split at e
   ·rename_i q e1
    obtain⟨ks',e2,rfl⟩:=EC.mp e
    rw[DS,l3 e2 h.2,jh (h.1.trans (fM e1))]
   ·cases e
def yp (t:TE):TE:=λZ H Q=>t Z H λv H1=>∃a ys,v=.ref a/\H1 a=some (.dK ys)/\∀o,Q v (upd H1 a (.frz o (.dK ys)))
theorem wa {X:Cx}{e:Expr}{t:TE}(h:PE X e t):PE X e (yp t):=by
 intro pins s Z H Q I q
 refine thn (h pins s Z H _ I q) λu s1 ⟨v,H1,I1,rv,a,ys,ev,hl,q1⟩=>?_
 have ob:∃o,s1.heap.get? a=some o:=by
  obtain⟨_,_,_,_,o,_,_,e,_⟩:=(show ObjOk X.prog X.w H1 s1.heap a (.dK ys)from I1.hok a _ hl)
  exact⟨o,e⟩
 obtain⟨o,e⟩:=ob
 obtain⟨z1,z2,z3⟩:=(show ObjOk X.prog X.w H1 s1.heap a (.dK ys)from I1.hok a _ hl)
 exact⟨v,_,I1.write (t':=s1.toks) (h':=s1.heap) (by rw[hl];exact True.intro) (.inl rfl) (λb u _ q=>q) ⟨_,e⟩ (show ObjOk X.prog X.w _ s1.heap a (.frz o (.dK ys))from⟨e,z1,z2,z3⟩),rv,q1 o⟩
theorem rK {r:R}{i:I}(h:rJ r=some i):∃kvs ks,r=⟨.ow,.di kvs⟩/\gJ kvs=some ks/\i=.fd ks (kvs.map (·.2)):=by
 obtain⟨k,t⟩:=r
 unfold rJ at h
 dsimp only at h
 split at h
 ·split at h
  ·obtain⟨ks,e,rfl⟩:=EC.mp h
   exact⟨_,ks,rfl,e,rfl⟩
  ·cases h
 ·cases h
theorem ud {ta:TE}{a:ME}(ha:aP K ta a):aP K (yp ta) (ke a):=by with_unfolding_all
 intro Γ H ρ Z E Q r ρ' hK hr S q
 simp only[ke]at hr
 split at hr
 ·rename_i ra ρ1 e1
  split at hr
  ·rename_i i e2
   cases hr
   obtain⟨kvs,ks,rfl,e4,rfl⟩:=rK e2
   refine ha Γ H ρ Z E _ _ _ hK e1 S λx H1 S1=>?_
   obtain⟨F,r0,nd,mu,k⟩:=Sim.use (vs:=[x]) (ts:=[.di kvs]) S1 rfl
   rw[Rps]at r0
   obtain⟨y,r,F1,F2,e3,h1,h2,rfl⟩:=r0
   cases e3
   rw[Rps]at h2
   obtain⟨_,rfl⟩:=h2
   rw[Rp]at h1
   obtain⟨b,ys,rfl,⟨zs,hz,rfl⟩,g1,g2,rfl⟩:=h1
   rw[Eo]at g1 g2
   refine⟨b,zs,rfl,hz,λo=>q _ _ (k _ _ _ [] ?_ ?_ Fi (by simp) (ga ?_))⟩
   ·exact OffM.upd.mono (by simp)
   ·intro c hc
    have:c=b:=by simpa using hc
    subst this
    exact⟨_,ax⟩
   ·rw[RpI]
    refine⟨b,o,zs,rfl,ax,l3 e4 g2,?_⟩
    exact RpIs.off (M:=[b]) OffM.upd (λc hc=>by rw[ysM hc];exact mu _ (by simp)) g1
  ·cases hr
 ·cases hr
end
section
variable  {ι : Type}{C:ι->Cx}{P:Program}{W:World}{K:yF}{mg:Str->Option Value}{base:Heap}{k:Nat}{a b e o:Expr}{es:List Expr}{ma mb mo mi m:ME}{ms:MA}{pos:Pos}
theorem z9 (ck:CK C P W K mg base k)(ha:QE C K a ma)(hb:QE C K b mb)(hs:u7 b:=by intro _ _;rfl):QE C K (.Subscript a b pos) (mOp lU ma mb):=by
 obtain⟨ta,p,r⟩:=ha
 obtain⟨tb,p',r'⟩:=hb
 exact⟨_,λi=>oV (xO (ck.room i)) (p i) (p' i) hs,jB (red:=dgR) sT r r'⟩
theorem DC:QE C K (.Dict [] [] pos) mDN:=⟨_,λ_=>vZ,AF⟩
theorem Aa (h:QE C K e m):QE C K e (ke m):=by
 obtain⟨t,p,r⟩:=h
 exact⟨_,λi=>wa (p i),ud r⟩
theorem Ae {p:Pos}(ck:CK C P W K mg base k)(hm:mg "repr" = none)(ha:QA C K (e::es) ms)(hg:∀i,Gl (C i) "repr" :=by intro _;rfl):QE C K (.Call (.Name "repr" p) (e::es) [] pos) (mB kz ms):=by
 obtain⟨ta,q,n,r⟩:=ha
 exact⟨_,λi=>il (r:=yg K) (by have:=pE (X:=C i) (ck.calm i) (ck.room i).units;rw[ck.kk i]at this;exact this) (hg i) (by rw[ck.mg i];exact hm) Hw (q i) n (by decide) (by decide),o4 qv r⟩
theorem wC (j:Nat)(ho:QE C K o mo)(hi:QE C K e mi)
  (ha:∀i v,assign (.Subscript o e pos) (C i).env v=(do
   let ov ←holding [v] (eval o (C i).env)
   let iv ←holding [v,ov] (eval e (C i).env)
   standAt pos
   holding [v,ov,iv] (setItem ov iv v)
   release [v,ov,iv] []):=by intro _ _;rfl):QG C K none (.Subscript o e pos) (ka j mo mi):=by
 obtain⟨to,p,r⟩:=ho
 obtain⟨ti,p',r'⟩:=hi
 exact⟨_,λi=>sP (p i) (p' i) ux (ha i),uc r r',λf h=>by cases h⟩
end
end L2
namespace L2
open PySem
noncomputable section
noncomputable def fW:MS:=(bf (mB qP (aa (aV [none,none,none,none] (nv (ac 0 (ac 1 mNil))) (cD (aI (ag 2) (aI (ag 3) mGNil))) mYes (mOp cX (ah 2) (ah 3))) mNil)))
noncomputable def iz (ts:List T):Option T:=if ts.length=2 then dv fW 2 ts else none
noncomputable def fV:MS:=(bf (iJ (mUn (l0 ["int"]) (ah 0)) (kh (mUn (l0 ["bool"]) (ah 0)))))
noncomputable def iy (ts:List T):Option T:=if ts.length=1 then dv fV 1 ts else none
noncomputable def fN:MS:=(bf (mIx (aR [] (aa (mOp bJ (ak 0 0 aj (ac 0 (aa (mC (.int 9)) mNil))) (mC (.int 4))) (aa (mOp bJ (ak 0 0 aj (ac 0 (aa (mC (.int 2000000001)) mNil))) (mC (.int 1000000000))) mNil))) (mOp gF (ak 0 0 aj (ac 0 (aa (mC (.int 4)) mNil))) (mC (.int 3)))))
noncomputable def fY (ts:List T):Option (T×T):=if ts.length=1 then dM fN 0 1 ts else none
noncomputable def cA:MS:=(aq (aD (mB l4 (ac 1 mNil)) (ag 2))
  (aq (aD (ak 0 0 aj (ac 0 (aa (mB cC (ac 2 mNil)) mNil))) (ag 3))
  (bf (ke (mB lP (aa (aV [none,some 1,none,none,none] (mIt (mOp bd (mSl (ah 2) (dl (ah 3)) mNoPart) (mSl (ah 2) mNoPart (dl (ah 3))))) (ag 4) mYes (av [4] (ac 4 (aa (mOp dgT (ah 1) (ah 4)) mNil)))) mNil))))))
noncomputable def dL (ts:List T):Option (T×T):=if ts.length=2 then dM cA 0 4 ts else none
end
noncomputable section
noncomputable def gP:MS:=(aq (aD (mIx (mB eQ (ac 0 mNil)) (ah 1)) (cD (aI (ag 4) (aI (ag 5) (aI (ag 6) mGNil)))))
  (bf (mOp bJ (mOp bJ (mOp lU (ah 3) (ah 4)) (mOp lU (ah 3) (ah 5))) (mB iz (ac 2 (ac 6 mNil))))))
noncomputable def jy (ts:List T):Option T:=if ts.length=4 then dv gP 7 ts else none
noncomputable def gN:MS:=(aq (aD (mB g8 (aa (aV [some 0,none,none,none,none,none,none] (aU (aa (mIx (ah 1) (mC (.int 0))) mNil)) (ag 6) mYes (ak 0 0 fY (ac 0 mNil))) mNil)) (ag 2))
  (aq (aD mDN (ag 3))
  (aq (bS (mIt (mIx (ah 1) (mC (.int 2)))) (cD (aI (ag 4) (aI (ag 5) mGNil)))
  (bR [4,5] (aD (ak 0 0 fY (ac 0 mNil)) (ka 3 (ah 3) (ah 4)))))
  (bf (av [2] (ac 2 (aa (ak 0 0 dL (ac 0 (ac 3 mNil))) mNil)))))))
noncomputable def gU (ts:List T):Option (T×T):=if ts.length=2 then dM gN 0 6 ts else none
noncomputable def lh:MS:=(bf (mOp bd (ah 1) (mB qP (aa (aV [some 0,none,some 2,none] (aU (aa (mB cC (ac 0 mNil)) mNil)) (ag 3) mYes (mOp cX (mIx (ah 0) (ah 3)) (mIx (ah 2) (ah 3)))) mNil))))
noncomputable def lu (ts:List T):Option T:=if ts.length=3 then dv lh 3 ts else none
noncomputable def cU:MS:=(aq (aD (ah 3) (cD (aI (ag 5) (aI (ag 6) mGNil))))
  (aq (aD (ah 1) (cD (aI (ag 7) (aI (ag 8) (aI (ag 9) mGNil)))))
  (aq (aD (mB g8 (aa (aV [none,none,none,none,some 4,none,none,none,none,some 9,none,none,none,none] (aU (aa (mB cC (ac 9 mNil)) mNil)) (ag 13) mYes (mOp bd (mIx (ah 4) (ah 13)) (mIx (ah 9) (ah 13)))) mNil)) (ag 10))
  (aq (aD (mB jy (ac 0 (ac 2 (ac 5 (ac 6 mNil))))) (ag 11))
  (aq (aD (mOp bJ (mB lu (ac 5 (aa (mOp lU (ah 6) (ah 7)) (ac 4 mNil)))) (mB lu (ac 5 (aa (mOp lU (ah 6) (ah 8)) (ac 10 mNil))))) (ag 12))
  (bf (iJ (mB iy (ac 11 mNil)) (mOp eqT (ah 11) (ah 12)))))))))
noncomputable def eN (ts:List T):Option T:=if ts.length=5 then dv cU 13 ts else none
noncomputable def eK:MS:=(aq (bS (aU (aa (mB l8 (aa (mC (.int 3)) (aa (mB cC (aa (mSl (ah 0) mNoPart (dl (mC (.int 6)))) mNil)) mNil))) mNil)) (ag 1)
  (bR [1,2,3,4,5,6,7,8,9] (aq (aD (mB jx (ac 0 (ac 1 mNil))) (ag 2))
  (aq (aD (ak 0 2 iq (ac 2 mNil)) (ag 3))
  (aq (aD (mB iw (ac 3 mNil)) (ag 4))
  (aq (aD (aR [] (aa (ak 0 2 gU (ac 2 (ac 3 mNil))) (aa (ak 0 2 gU (ac 2 (ac 3 mNil))) mNil))) (ag 5))
  (aq (aD (mB g8 (aa (aV [none,none,some 2,none,none,none,none,none,none,none,none] (aU (aa (mIx (ah 3) (mC (.int 0))) mNil)) (ag 10) mYes (mOp bJ (ak 0 2 aj (ac 2 (aa (mC (.int 2001)) mNil))) (mC (.int 1000)))) mNil)) (ag 6))
  (bS (aU (aa (mB cC (ac 4 mNil)) mNil)) (ag 7)
  (bR [7,8,9] (bS (mIt (mOp bd (ah 5) (mSl (ah 5) mNoPart (dl (mC (.int 1)))))) (ag 8)
  (bR [8,9] (aq (aD (mB kz (ac 8 mNil)) (ag 9))
  (aq (mIf (pZ (aY (mB eN (ac 3 (aa (mIx (ah 4) (ah 7)) (ac 7 (ac 8 (ac 6 mNil)))))))) (bf (mC (.bl false))) mNext)
  (mIf (aY (mOp neT (mB kz (ac 8 mNil)) (ah 9))) (bf (mC (.bl false))) mNext))))))))))))))
  (bf (mC (.bl true))))
noncomputable def r_l_law_v5 (ts:List T):Option T:=if ts.length=1 then dv eK 10 ts else none
end
end L2
namespace K22
open PySem PySem.Spec PyProof.Rows L2
noncomputable def top (i:Nat):Stmt:=PySem.Challenge.pw_clockhouse_k22_gains_of_steps.main.body.getD i (.Pass ⟨0,0,0,0⟩)
noncomputable abbrev dO:Stmt:=top 1
noncomputable abbrev gv:Stmt:=top 2
noncomputable abbrev lE:Stmt:=top 3
noncomputable abbrev e7:Stmt:=top 5
noncomputable abbrev gx:Stmt:=top 6
noncomputable abbrev lD:Stmt:=top 7
noncomputable abbrev nN:Stmt:=top 9
noncomputable abbrev fB:Stmt:=top 11
noncomputable abbrev fE:Stmt:=top 12
noncomputable abbrev eU:Stmt:=top 13
noncomputable abbrev gt:Stmt:=top 14
noncomputable abbrev cK:Stmt:=top 15
noncomputable abbrev cj:Stmt:=top 16
noncomputable abbrev cm:Stmt:=top 17
noncomputable abbrev cq:Stmt:=top 18
noncomputable abbrev bA:Stmt:=top 19
noncomputable abbrev cn:Stmt:=top 20
noncomputable abbrev eV:Stmt:=top 21
noncomputable abbrev eS:Stmt:=top 22
noncomputable abbrev eT:Stmt:=top 23
noncomputable abbrev cL:Stmt:=top 24
noncomputable abbrev eX:Stmt:=top 25
noncomputable abbrev eY:Stmt:=top 26
noncomputable abbrev eR:Stmt:=top 27
noncomputable abbrev cy:Stmt:=top 28
noncomputable abbrev fD:Stmt:=top 29
noncomputable abbrev iC:Stmt:=top 30
noncomputable abbrev eW:Stmt:=top 31
noncomputable abbrev s_law:Stmt:=top 32
structure GT (K:yF)(mg:Str->Option Value):Prop where
 triv:True
end K22
namespace L2
open PySem PySem.Spec PyProof.Rows
local macro_rules|`(tactic| ac_nf)=>`(tactic| try simp only[yU,BH,BG,vy,BI,List.set_cons_zero,GV,wy,wO,AB,AD,AC,wP,rH,pM])
local macro_rules|`(tactic| infer_instance)=>`(tactic| first
 | refine oJ ?_|refine vj ?_|(refine vf ?_;try ac_nf)|refine yI ?_|refine Bx rfl ?_|refine Bz ?_
 | refine yu ?_|refine C8 ?_|refine Dd ?_|refine n8 ?_|refine A9 ?_|refine C9 ?_|refine Dc ?_
 | refine w_C ?_|refine mU rfl ?_|refine DO ?_|refine DQ ?_|refine w_B ?_|refine w_M ?_|refine A6 ?_|refine DP ?_|refine A7 ?_|refine Bb ?_|refine A2 ?_|refine Ba ?_|refine xu ?_|refine uT ?_|refine A8 ?_
 | refine xF ?_|refine xG ?_
 | refine Bc ?_|refine xy ?_|refine uU rfl ?_
 | refine xH ?_|refine Bo ?_|refine Bn ?_|refine Bm ?_|refine iE ?_
 | (refine xB (by with_unfolding_all rfl) ?_;try ac_nf)|refine Bj rfl ?_|refine uW (by with_unfolding_all rfl) ?_|refine xC ?_|refine Bh ?_|refine uV ?_
 | refine gu (by with_unfolding_all rfl) ?_
 | refine zt ?_|refine B5 ?_|refine BR ?_|refine BT ?_|refine BV ?_|refine B1 ?_|refine zC ?_|refine zA ?_|refine vT ?_|refine BZ ?_|refine BY ?_|refine zx ?_|refine zH ?_|refine zD ?_|refine B3 ?_|refine B4 ?_|refine zE ?_|refine zF rfl ?_
 | refine xT rfl ?_|refine xU rfl ?_|refine sE (n:=0) rfl (GF rfl) ?_|refine sE (n:=1) rfl (GF rfl) ?_
 | refine mq (DA (by decide) (by decide)) ?_|refine mq (vJ (by decide) (by decide)) ?_|refine sy (by omega) ?_|refine zw (by omega) ?_
 | refine n9 (by rfl) ?_|refine nh ?_|refine oo ?_
 | refine su (b:=true) rfl (by decide) ?_|refine su (b:=false) rfl (by decide) ?_
 | refine Dw ?_|refine Dx ?_|refine Dk rfl ?_|refine Di rfl (by with_unfolding_all rfl) rfl rfl ?_|refine yz rfl rfl ?_|refine Dj ?_|refine AW ?_|refine vt rfl ?_|refine vv rfl ?_)
local macro_rules|`(tactic| omega)=>`(tactic| decide)
local macro_rules|`(tactic| lia)=>`(tactic| repeat infer_instance)
local macro_rules|`(tactic| cbv)=>`(tactic| with_unfolding_all rfl)
local macro_rules|`(tactic| clear_value $h:ident)=>`(tactic| first|refine dsp (fun $h=>?_) (fun $h=>?_)|refine Du (fun $h=>?_) (fun $h=>?_)|refine bsp (fun $h=>?_) (fun $h=>?_))
theorem be {ns:List Int}{kd:Kd}{a:Int}{QR:R->Prop}(h0:0<=a)(h1:a<ns.length)(q:∀y,y∈ns->ns[a.toNat]?=some y->QR ⟨.ow,.im (.int y)⟩):W1 (ixR ⟨kd,.li (ns.map .int)⟩ (.im (.int a))) QR:=by
 refine nH h0 (by simpa using h1) λx hx=>?_
 rw[DZ]at hx
 cases e:ns[a.toNat]? with
 | none=>rw[e]at hx;cases hx
 | some y=>rw[e]at hx;cases hx;exact q y (ymG e) e
theorem eA {ns:List Int}{kd:Kd}{a:Int}{QR:R->Prop}(h0:0<=a)(h1:a<ns.length)(q:∀y,y∈ns->ns[a.toNat]?=some y->QR ⟨.ow,.im (.int y)⟩):W1 (ixR ⟨kd,.im (.tup (ns.map .int))⟩ (.im (.int a))) QR:=by
 refine sw h0 (by simpa using h1) λx hx=>?_
 rw[DZ]at hx
 cases e:ns[a.toNat]? with
 | none=>rw[e]at hx;cases hx
 | some y=>rw[e]at hx;cases hx;exact q y (ymG e) e
theorem aS {α:Type}{P : α->Prop}{l:List α}{y : α}(h:∀x∈l,P x)(hy:P y):∀x∈l++[y],P x:=λx hx=>(yaM hx).elim (h x) λz=>by rw[ysM z];exact hy
noncomputable def fT (f:Int×Int):T:=.li [.int f.1,.int f.2]
theorem am {f:Int×Int}{n:Int}(h1:0<n)(h2:n<2^64){Q:T->T->Prop}(q:∀d f',0<=d->d<n->Q (.im (.int d)) (fT f')):W2 (aj [fT f,.im (.int n)]) Q:=by
 refine f7 rfl rfl ?_
 unfold gO
 lia
 (refine bo ?_;lia;clear_value h)
 ·lia
  exact q _ (f.1 / n,f.2) (Fm _ (by omega)) (E4 _ h1)
 ·lia
  exact q _ (f.1,(f.2*48271 % 2147483647*40692+30103) % 2147483399+1) (Fm _ (by omega)) (E4 _ h1)
noncomputable def nS (is:List Int):T:=.im (.tup (is.map .int))
theorem ut {f:Int×Int}{n:Int}(h1:1<=n)(h2:n<=3){Q:T->T->Prop}(q:∀is f',is.length=n.toNat->(∀x∈is,-2<=x/\x<=2)->Q (nS is) (fT f')):W2 (iX [fT f,.im (.int n)]) Q:=by
 refine f7 rfl rfl ?_
 unfold iV
 lia
 refine bo ?_
 lia
 refine am (by omega) (by omega) λd f hd0 hd1=>?_
 ac_nf
 lia
 clear_value h
 ·lia
  refine sB (is:=[.int 0]) ⟨by simp,by decide,by omega,by omega⟩ ?_
  lia
  have:(DV n.toNat [I.int 0]).flatten=(DV n.toNat (0:Int)).map .int:=by simp
  rw[this]
  exact q _ f (by simp) (by intro x hx;rw[(Ft.mp hx).2];decide)
 ·lia
  refine bK (λf:Int×Int=>[some ⟨.io 0,fT f⟩,some ⟨.ow,.im (.int n)⟩]) I.int (λj _ is=>is.length=j/\∀x∈is,-2<=x/\x<=2) ?_
  lia
  refine⟨⟨by omega,by omega⟩,by cbv,f,by cbv,⟨rfl,by simp⟩,λj f is hj ⟨hl,hx⟩=>?_,λf is ⟨hl,hx⟩=>?_⟩
  ·lia
   refine am (by omega) (by omega) λd f hd0 hd1=>?_
   ac_nf
   lia
   refine be (ns:=[0,1,0-1,2,0-2]) hd0 hd1 λy hy _=>⟨y,f,rfl,by cbv,by simp[hl],aS hx (by simp at hy;omega)⟩
  ·lia
   exact q is f hl hx
theorem vc {f:Int×Int}{n:Int}(h1:1<=n)(h2:n<=3){Q:T->T->Prop}(q:∀is f',is.length=n.toNat->(∀x∈is,-2<=x/\x<=2)->(∃(k:Nat) (y:Int) (m:List Int),is=DV k 0++y::m/\y<0)->Q (nS is) (fT f')):W2 (cZ [fT f,.im (.int n)]) Q:=by
 refine f7 rfl rfl ?_
 unfold cS
 lia
 refine am (by omega) (by omega) λd f hd0 hd1=>?_
 ac_nf
 lia
 refine qW (λf:Int×Int=>[some ⟨.io 0,fT f⟩,some ⟨.ow,.im (.int n)⟩,some ⟨.ow,.im (.int d)⟩,none]) I.int (λj _ is=>is.length=j/\∀x∈is,-2<=x/\x<=2) ?_
 lia
 refine⟨⟨by omega,by omega,by omega,by omega,by omega⟩,by cbv,f,by cbv,⟨rfl,by simp⟩,λj f is hj ⟨hl,hx⟩=>?_,λf is ⟨hl,hx⟩=>?_⟩
 ·lia
  refine am (by omega) (by omega) λd f hd0 hd1=>?_
  ac_nf
  lia
  refine be (ns:=[0,1,0-1,2,0-2]) hd0 hd1 λy hy _=>⟨y,f,rfl,by cbv,by simp[hl],aS hx (by simp at hy;omega)⟩
 ·lia
  refine sA (is:=[.int 0]) ⟨by omega,by omega,by simp;rw[sizeLine_eq];omega⟩ ?_
  lia
  refine am (by omega) (by omega) λd2 f hd20 hd21=>?_
  ac_nf
  lia
  refine jr (is:=(DV d.toNat [I.int 0]).flatten) (js:=[.int (0-1-d2)]) (by simp;rw[sizeLine_eq];omega) ?_
  lia
  refine jr (is:=(DV d.toNat [I.int 0]).flatten++[.int (0-1-d2)]) (js:=is.map I.int) (by simp;rw[sizeLine_eq];omega) ?_
  lia
  have:(DV d.toNat [I.int 0]).flatten++[.int (0-1-d2)]++is.map I.int=(DV d.toNat 0++(0-1-d2)::is).map I.int:=by simp
  rw[this]
  exact q _ f (by simp;omega) (λx hx'=>by
   rcases yaM hx' with hx'|hx'
   ·rw[(Ft.mp hx').2];decide
   ·rcases ycM hx' with rfl|hx'
    ·omega
    ·exact hx x hx') ⟨d.toNat,_,is,rfl,by omega⟩
theorem qS {row signs:List Int}{way:Int}(h1:1<=row.length)(h2:row.length<=1000)(hw:0<=way)(hs:signs.length=row.length)(hm:∀x∈row,-(2^64)<x/\x<2^64){Q:T->Prop}(q:∀is:List Int,is.length=row.length->(∀(k:Nat) x s,row[(k+way.toNat) % row.length]?=some x->signs[k]?=some s->is[k]?=some (x*s))->Q (nS is)):W1 (cg [nS row,.im (.int way),.li (signs.map .int)]) Q:=by
 refine o6 rfl rfl ?_
 unfold bY
 lia
 refine cr (λp:List Int=>[some ⟨.ow,nS row⟩,some ⟨.ow,.im (.int way)⟩,some ⟨.vw none none,.li (signs.map .int)⟩,some ⟨.ow,.li (p.map .int)⟩,none]) (λj p=>p.length=j/\∀(k:Nat),k<j->∀x s,row[(k+way.toNat) % row.length]?=some x->signs[k]?=some s->p[k]?=some (x*s)) ?_
 lia
 rw[DX]
 refine⟨⟨by omega,by omega⟩,[],by cbv,⟨rfl,λk hk=>absurd hk (Hg _)⟩,λj is hj ⟨hl,hx⟩=>?_,λis ⟨hl,hx⟩=>?_⟩
 ·lia
  refine sy (by simp;omega) ?_
  lia
  rw[DX]
  have e1:((j:Int)+way) % (row.length:Int)=(((j+way.toNat) % row.length:Nat):Int):=by
   rw[Int.natCast_emod,Int.natCast_add];congr 1;omega
  rw[e1]
  have hlt:(j+way.toNat) % row.length<row.length:=F8 _ (by omega)
  refine eA (ns:=row) (by omega) (by omega) λy hy ey=>?_
  lia
  refine be (ns:=signs) (by omega) (by omega) λz hz ez=>?_
  lia
  refine mq (vJ (hm y hy).1 (hm y hy).2) ?_
  lia
  refine cG (by simp[hl];rw[sizeLine_eq];omega) ?_
  lia
  refine⟨is++[y*z],?_,by simp[hl],λk hk x s h1 h2=>?_⟩
  ·show _=[_,_,_,_,_]
   rw[D9]
   cbv
  ·rcases Nat.lt_succ_iff_lt_or_eq.mp hk with hk|rfl
   ·rw[EF (by omega)];exact hx k hk x s h1 h2
   ·rw[Ee]at ey ez
    rw[ey]at h1;rw[ez]at h2
    cases h1;cases h2
    rw[EW (by omega),hl];simp
 ·lia
  exact q is (by omega) λk x s h1 h2=>hx k (by have:=(DR.mp h2).1;omega) x s h1 h2
noncomputable def tRd (p:Int×List Int):I:=.tup [.int p.1,.tup (p.2.map .int)]
noncomputable def aA (l:List (Int×List Int)):T:=.li (l.map tRd)
theorem eB (l:List (Int×List Int))(i:I):aA l ≠ .im i:=by unfold aA;intro z;cases z
theorem tJ {ls:List (List (Int×List Int))}{n:Nat}{l:List (Int×List Int)}{p:Int×List Int}(h:ls[n]?=some l):T.put (.lst (ls.map aA)) [.ix n] (.li (l.map tRd++[tRd p]))=.lst ((ls.set n (l++[p])).map aA):=by
 rw[tI (u:=aA l) (by rw[DZ,h];rfl),Gv]
 simp[aA]
theorem uS {ρ:Rho}{Q:Fl->Rho->Prop}{L X:Nat}{args:MA}{ls:List (List (Int×List Int))}{i:Int}(n:Nat){l:List (Int×List Int)}(hL : ρ[L]?=some (some ⟨.ow,.lst (ls.map aA)⟩))(hX : ρ[X]?=some (some ⟨.ow,.im (.int i)⟩))(hi:i=(n:Int))(hl:ls[n]?=some l)(hz:l.length<1000)(hm:args.mu.contains L=false)
  (ha:WA args ρ λrs ρ1=>∃p,rs=[⟨.ow,.im (tRd p)⟩]/\ρ1[L]?=some (some ⟨.ow,.lst (ls.map aA)⟩)/\Q .nx ((ao [L] ρ1).set L (some ⟨.ow,.lst ((ls.set n (l++[p])).map aA)⟩))):WS (bp (cH L [] apT (mIx (ah L) (ah X)) args)) ρ Q:=by
 subst hi
 refine n8 (uT (A6 (mU hL (mU hX (gu (by cbv) ?_)))))
 have hl':(ls.map aA)[(n:Int).toNat]?=some (aA l):=by rw[Ee,DZ,hl];rfl
 refine nF (u:=aA l) (kd:=.vw (some L) (some [.ix (n:Int).toNat])) (by omega) hl' (eB l) rfl ?_
 rw[Ee]
 refine WA.mono ha λrs ρ1 ⟨p,e,hL',q⟩=>?_
 subst e
 refine gu ?_ (n9 rfl (oo (nh (yz hL' rfl ?_))))
 ·show cN args.mu ⟨.vw (some L) (some [.ix n]),aA l⟩=true
  unfold cN
  simp only[Kd.root]
  rw[hm];rfl
 ·refine cG (is:=l.map tRd) (by simp;rw[sizeLine_eq];omega) ?_
  rw[tJ hl]
  exact q
def Looks (P:Nat->Int×List Int->Prop)(c:Nat)(m:Nat)(ls:List (List (Int×List Int))):Prop:=ls.length=m/\∀x l,ls[x]?=some l->l.length<=c/\∀p∈l,P x p
theorem Looks.get {P:Nat->Int×List Int->Prop}{c m:Nat}{ls:List (List (Int×List Int))}(h:Looks P c m ls){n:Nat}(hn:n<m):∃l,ls[n]?=some l/\l.length<=c/\∀p∈l,P n p:=by
 have:n<ls.length:=by rw[h.1];exact hn
 exact⟨ls[n],Eh this,h.2 n _ (Eh this)⟩
theorem dE {α:Type}{l:List α}{n x:Nat}{a b : α}(h:(l.set n a)[x]?=some b):(n=x/\b=a)∨(n≠x/\l[x]?=some b):=by
 by_cases e:n=x
 ·subst e
  have:=(DR.mp h).1
  rw[EL (by simpa using this)]at h
  cases h;exact .inl ⟨rfl,rfl⟩
 ·rw[Ef e]at h;exact .inr ⟨e,h⟩
theorem Looks.set {P:Nat->Int×List Int->Prop}{c m:Nat}{ls:List (List (Int×List Int))}{n:Nat}{l l':List (Int×List Int)}(h:Looks P c m ls)(hl:ls[n]?=some l)(hn:l'.length<=c)(hp:∀p∈l',P n p):Looks P c m (ls.set n l'):=by
 refine⟨by rw[FE];exact h.1,λx l' hx=>?_⟩
 rcases dE hx with⟨rfl,rfl⟩|⟨_,hx⟩
 ·exact⟨hn,hp⟩
 ·exact h.2 x l' hx
def jK (w m:Int)(p:Int×List Int):Prop:=0<=p.1/\p.1<m/\p.2.length=w.toNat/\∀x∈p.2,-2<=x/\x<=2
theorem vg {f:Int×Int}{w m:Int}(h1:1<=w)(h2:w<=3)(h3:1<=m)(h4:m<=6){Q:T->T->Prop}(q:∀ls f',Looks (λ_ p=>jK w m p) 3 m.toNat ls->Q (.lst (ls.map aA)) (fT f')):W2 (dr [fT f,.im (.int w),.im (.int m)]) Q:=by
 refine f7 rfl rfl ?_
 unfold bV
 lia
 refine jJ (λ_:Unit=>[some ⟨.io 0,fT f⟩,some ⟨.ow,.im (.int w)⟩,some ⟨.ow,.im (.int m)⟩,none,none,none]) aA eB (λ_ _ l=>∀x∈l,x=[]) ?_
 lia
 refine⟨⟨by omega,by omega⟩,by cbv,(),by cbv,by simp,λj _ l hj hl=>?_,λ_ l hl hn=>?_⟩
 ·lia
  exact⟨[],(),rfl,by cbv,aS hl rfl⟩
 lia
 refine cr (λs:(Int×Int)×List (List (Int×List Int))=>[some ⟨.io 0,fT s.1⟩,some ⟨.ow,.im (.int w)⟩,some ⟨.ow,.im (.int m)⟩,some ⟨.ow,.lst (s.2.map aA)⟩,none,none]) (λj s=>Looks (λ_ p=>jK w m p) 3 m.toNat s.2/\∀y l,j<=y->s.2[y]?=some l->l=[]) ?_
 lia
 refine⟨⟨by omega,by omega⟩,(f,l),by cbv,⟨⟨hn,λx l' hx=>by rw[hl l' (ymG hx)];simp⟩,λy l' _ hx=>hl l' (ymG hx)⟩,λx s hx ⟨hL,hE⟩=>?_,λs ⟨hL,_⟩=>?_⟩
 ·lia
  refine cr (λt:(Int×Int)×List (List (Int×List Int))=>[some ⟨.io 0,fT t.1⟩,some ⟨.ow,.im (.int w)⟩,some ⟨.ow,.im (.int m)⟩,some ⟨.ow,.lst (t.2.map aA)⟩,some ⟨.ow,.im (.int x)⟩,none]) (λj t=>Looks (λ_ p=>jK w m p) 3 m.toNat t.2/\(∀l,t.2[x]?=some l->l.length<=j)/\∀y l,x+1<=y->t.2[y]?=some l->l=[]) ?_
  lia
  refine am (by omega) (by omega) λd f hd0 hd1=>?_
  ac_nf
  lia
  refine⟨⟨by omega,by omega⟩,(f,s.2),by cbv,⟨hL,λl hl=>by rw[hE x l (DY _) hl];simp,λy l hy hl=>hE y l (by omega) hl⟩,λj t hj ⟨hL,hc,hE⟩=>?_,λt ⟨hL,_,hE⟩=>by lia;exact⟨t,by cbv,hL,hE⟩⟩
  obtain⟨l,hl,hl3,hlP⟩:=hL.get (n:=x) (by omega)
  iterate 2 infer_instance
  refine uS (ls:=t.2) x rfl rfl rfl hl (by omega) (by cbv) ?_
  lia
  refine am (by omega) (by omega) λe f he0 he1=>?_
  ac_nf
  lia
  refine ut h1 h2 λis f hil hib=>?_
  ac_nf
  lia
  have:=hc l hl
  refine⟨(e,is),rfl,rfl,?_⟩
  lia
  refine⟨(f,t.2.set x (l++[(e,is)])),by cbv,hL.set hl (by simp;omega) (aS hlP ⟨he0,he1,hil,hib⟩),λl' hl'=>?_,λy l' hy hl'=>?_⟩
  ·rcases dE hl' with⟨_,rfl⟩|⟨z,_⟩
   ·simp;omega
   ·exact absurd rfl z
  ·rcases dE hl' with⟨z,_⟩|⟨_,hl'⟩
   ·omega
   ·exact hE y l' hy hl'
 ·lia
  exact q s.2 s.1 hL
def mY (w m:Int)(x:Nat)(p:Int×List Int):Prop:=jK w m p/\((p.1<x/\∀e∈p.2,e=0) ∨ ∃(k:Nat) (y:Int) (r:List Int),p.2=DV k 0++y::r/\y<0)
theorem oQ {f:Int×Int}{w m:Int}(h1:1<=w)(h2:w<=3)(h3:1<=m)(h4:m<=6){Q:T->T->Prop}(q:∀ls f',Looks (mY w m) 3 m.toNat ls->Q (.lst (ls.map aA)) (fT f')):W2 (cc [fT f,.im (.int w),.im (.int m)]) Q:=by
 refine f7 rfl rfl ?_
 unfold bW
 lia
 refine jJ (λ_:Unit=>[some ⟨.io 0,fT f⟩,some ⟨.ow,.im (.int w)⟩,some ⟨.ow,.im (.int m)⟩,none,none,none]) aA eB (λ_ _ l=>∀x∈l,x=[]) ?_
 lia
 refine⟨⟨by omega,by omega⟩,by cbv,(),by cbv,by simp,λj _ l hj hl=>?_,λ_ l hl hn=>?_⟩
 ·lia
  exact⟨[],(),rfl,by cbv,aS hl rfl⟩
 lia
 refine cr (λs:(Int×Int)×List (List (Int×List Int))=>[some ⟨.io 0,fT s.1⟩,some ⟨.ow,.im (.int w)⟩,some ⟨.ow,.im (.int m)⟩,some ⟨.ow,.lst (s.2.map aA)⟩,none,none]) (λj s=>Looks (mY w m) 3 m.toNat s.2/\∀y l,j<=y->s.2[y]?=some l->l=[]) ?_
 lia
 refine⟨⟨by omega,by omega⟩,(f,l),by cbv,⟨⟨hn,λx l' hx=>by rw[hl l' (ymG hx)];simp⟩,λy l' _ hx=>hl l' (ymG hx)⟩,λx s hx ⟨hL,hE⟩=>?_,λs ⟨hL,_⟩=>?_⟩
 ·lia
  refine cr (λt:(Int×Int)×List (List (Int×List Int))=>[some ⟨.io 0,fT t.1⟩,some ⟨.ow,.im (.int w)⟩,some ⟨.ow,.im (.int m)⟩,some ⟨.ow,.lst (t.2.map aA)⟩,some ⟨.ow,.im (.int x)⟩,none]) (λj t=>Looks (mY w m) 3 m.toNat t.2/\(∀l,t.2[x]?=some l->l.length<=j)/\∀y l,x+1<=y->t.2[y]?=some l->l=[]) ?_
  lia
  refine am (by omega) (by omega) λd f hd0 hd1=>?_
  ac_nf
  lia
  refine⟨⟨by omega,by omega⟩,(f,s.2),by cbv,⟨hL,λl hl=>by rw[hE x l (DY _) hl];simp,λy l hy hl=>hE y l (by omega) hl⟩,λj t hj ⟨hL,hc,hE⟩=>?_,λt ⟨hL,_,hE⟩=>by lia;exact⟨t,by cbv,hL,hE⟩⟩
  obtain⟨l,hl,hl3,hlP⟩:=hL.get (n:=x) (by omega)
  have hcl:=hc l hl
  have fin:∀(e:Int) (is:List Int) (f:Int×Int),mY w m x (e,is)->Looks (mY w m) 3 m.toNat (t.2.set x (l++[(e,is)]))/\(∀l',(t.2.set x (l++[(e,is)]))[x]?=some l'->l'.length<=j+1)/\∀y l',x+1<=y->(t.2.set x (l++[(e,is)]))[y]?=some l'->l'=[]:=λe is f hP=>by
   refine⟨hL.set hl (by simp;omega) (aS hlP hP),λl' hl'=>?_,λy l' hy hl'=>?_⟩
   ·rcases dE hl' with⟨_,rfl⟩|⟨z,_⟩
    ·simp;omega
    ·exact absurd rfl z
   ·rcases dE hl' with⟨z,_⟩|⟨_,hl'⟩
    ·omega
    ·exact hE y l' hy hl'
  have hback:∀f,WS (bp (cH 3 [] apT (mIx (ah 3) (ah 4)) (aa (av [] (aa (ak 0 0 aj (ac 0 (ac 2 mNil))) (aa (ak 0 0 cZ (ac 0 (ac 1 mNil))) mNil))) mNil))) [some ⟨.io 0,fT f⟩,some ⟨.ow,.im (.int w)⟩,some ⟨.ow,.im (.int m)⟩,some ⟨.ow,.lst (t.2.map aA)⟩,some ⟨.ow,.im (.int x)⟩,some ⟨.ow,.im (.int j)⟩] λfl ρ=>fl=.nx/\∃e is f,ρ=[some ⟨.io 0,fT f⟩,some ⟨.ow,.im (.int w)⟩,some ⟨.ow,.im (.int m)⟩,some ⟨.ow,.lst ((t.2.set x (l++[(e,is)])).map aA)⟩,some ⟨.ow,.im (.int x)⟩,some ⟨.ow,.im (.int j)⟩]/\mY w m x (e,is):=λf=>by
   refine uS (ls:=t.2) x rfl rfl rfl hl (by omega) (by cbv) ?_
   lia
   refine am (by omega) (by omega) λe f he0 he1=>?_
   ac_nf
   lia
   refine vc h1 h2 λis f hil hib hb=>?_
   ac_nf
   lia
   exact⟨(e,is),rfl,rfl,by trivial,e,is,f,by cbv,⟨he0,he1,hil,hib⟩,.inr hb⟩
  have hzero:∀f,(0:Int)<x->WS (bp (cH 3 [] apT (mIx (ah 3) (ah 4)) (aa (av [] (aa (ak 0 0 aj (ac 0 (ac 4 mNil))) (aa (mOp cX (av [] (aa (mC (.int 0)) mNil)) (ah 1)) mNil))) mNil))) [some ⟨.io 0,fT f⟩,some ⟨.ow,.im (.int w)⟩,some ⟨.ow,.im (.int m)⟩,some ⟨.ow,.lst (t.2.map aA)⟩,some ⟨.ow,.im (.int x)⟩,some ⟨.ow,.im (.int j)⟩] λfl ρ=>fl=.nx/\∃e is f,ρ=[some ⟨.io 0,fT f⟩,some ⟨.ow,.im (.int w)⟩,some ⟨.ow,.im (.int m)⟩,some ⟨.ow,.lst ((t.2.set x (l++[(e,is)])).map aA)⟩,some ⟨.ow,.im (.int x)⟩,some ⟨.ow,.im (.int j)⟩]/\mY w m x (e,is):=λf hx0=>by
   refine uS (ls:=t.2) x rfl rfl rfl hl (by omega) (by cbv) ?_
   lia
   refine am (by omega) (by omega) λe f he0 he1=>?_
   ac_nf
   lia
   refine sB (is:=[.int 0]) ⟨by simp,by decide,by omega,by omega⟩ ?_
   have er:(DV w.toNat [I.int 0]).flatten=(DV w.toNat (0:Int)).map .int:=by simp
   rw[er]
   lia
   refine⟨(e,DV w.toNat 0),rfl,rfl,by trivial,e,_,f,by cbv,⟨he0,by omega,by simp,λy hy=>?_⟩,.inl ⟨he1,λy hy=>(Ft.mp hy).2⟩⟩
   rw[(Ft.mp hy).2];decide
  lia
  (refine bo ?_;lia;clear_value hx0)
  ·lia
   refine am (by omega) (by omega) λz f hz0 hz1=>?_
   ac_nf
   lia
   clear_value hz
   ·refine WS.mono (hzero f hx0) ?_
    rintro fl ρ ⟨rfl,e,is,f,rfl,hP⟩
    lia
    exact⟨(f,_),by cbv,fin e is f hP⟩
   ·refine WS.mono (hback f) ?_
    rintro fl ρ ⟨rfl,e,is,f,rfl,hP⟩
    lia
    exact⟨(f,_),by cbv,fin e is f hP⟩
  ·refine⟨λz=>absurd z (by decide),λ_=>?_⟩
   refine WS.mono (hback _) ?_
   rintro fl ρ ⟨rfl,e,is,f,rfl,hP⟩
   lia
   exact⟨(f,_),by cbv,fin e is f hP⟩
 ·lia
  exact q s.2 s.1 hL
theorem Looks.mono {P:Nat->Int×List Int->Prop}{c c' m:Nat}{ls:List (List (Int×List Int))}(h:Looks P c m ls)(hc:c<=c'):Looks P c' m ls:=⟨h.1,λx l hx=>⟨Ev (h.2 x l hx).1 hc,(h.2 x l hx).2⟩⟩
noncomputable def tTr (p:Int×Int×List Int):I:=.tup [.int p.1,.int p.2.1,.tup (p.2.2.map .int)]
def Df (w:Int)(p:Int×Int×List Int):Prop:=0<=p.1/\p.1<w/\0<=p.2.1/\p.2.1<w/\p.2.2.length=w.toNat/\∀x∈p.2.2,-2<=x/\x<=2
theorem nY {row signs:List Int}{way:Int}(h1:1<=row.length)(h2:row.length<=1000)(hw:0<=way)(hs:signs.length=row.length)(hr:∀x∈row,-2<=x/\x<=2)(hg:∀x∈signs,x=1∨x = -1){Q:T->Prop}(q:∀is:List Int,is.length=row.length->(∀x∈is,-2<=x/\x<=2)->(∀(k:Nat) x s,row[(k+way.toNat) % row.length]?=some x->signs[k]?=some s->is[k]?=some (x*s))->Q (nS is)):W1 (cg [nS row,.im (.int way),.li (signs.map .int)]) Q:=by
 refine qS h1 h2 hw hs (λx hx=>by have:=hr x hx;omega) λis hl hi=>q is hl (λy hy=>?_) hi
 obtain⟨k,hk⟩:=Fj.mp hy
 have hkl:=(DR.mp hk).1
 have hm:(k+way.toNat) % row.length<row.length:=F8 _ (by omega)
 have e1:row[(k+way.toNat) % row.length]?=some row[(k+way.toNat) % row.length]:=Eh hm
 have e2:signs[k]?=some signs[k]:=Eh (by omega)
 have e3:=hi k _ _ e1 e2
 rw[hk]at e3
 have b1:=hr _ (ymG e1)
 have b2:=hg _ (ymG e2)
 have:y=row[(k+way.toNat) % row.length]*signs[k]:=by simpa using e3
 rw[this]
 rcases b2 with z|z<;>rw[z]<;>omega
theorem zr {f:Int×Int}{w m:Int}(h1:2<=w)(h2:w<=3)(h3:w<=m)(h4:m<=6){Q:T->T->Prop}(q:∀ls f',Looks (λ_ p=>jK w m p) 7 m.toNat ls->Q (.lst (ls.map aA)) (fT f')):W2 (ce [fT f,.im (.int w),.im (.int m)]) Q:=by
 refine runI_ok' [some ⟨.io 0,fT f⟩,some ⟨.ow,.im (.int w)⟩,some ⟨.ow,.im (.int m)⟩,none,none,none,none,none,none,none,none] rfl rfl rfl ?_
 unfold bt
 lia
 refine am (by omega) (by omega) λd1 f a1 b1=>?_
 ac_nf
 lia
 refine am (by omega) (by omega) λd2 f a2 b2=>?_
 ac_nf
 lia
 refine am (by omega) (by omega) λd3 f a3 b3=>?_
 ac_nf
 lia
 refine am (by omega) (by omega) λd4 f a4 b4=>?_
 ac_nf
 lia
 refine cG (by simp;rw[sizeLine_eq];omega) ?_
 refine oJ (yu ?_)
 refine WS.mono (Q:=λfl ρ=>fl=.nx/\∃(f:Int×Int) (es:List (Int×Int×List Int)),ρ=[some ⟨.io 0,fT f⟩,some ⟨.ow,.im (.int w)⟩,some ⟨.ow,.im (.int m)⟩,some ⟨.ow,.im (.int (1+d1))⟩,some ⟨.ow,.li (es.map tTr)⟩,none,none,none,none,none,none]/\(∀p∈es,Df w p)/\es.length<=7) ?_ ?_
 ·lia
  (refine bo ?_;lia;clear_value hw)
  ·subst hw
   lia
   refine am (by omega) (by omega) λd5 f a5 b5=>?_
   ac_nf
   lia
   refine am (by omega) (by omega) λd6 f a6 b6=>?_
   ac_nf
   lia
   refine jr (by simp;rw[sizeLine_eq];omega) ?_
   lia
   refine⟨by trivial,f,[(0,0,[0,0,1+d1]),(1,1,[0,0,0-1]),(0,1,[0,0-1,0]),(1,0,[0,0,d5]),(2,2,[0,1+d6,0]),(0,2,[0-1,0,1]),(2,0,[0,0,0])],by cbv,?_,by simp⟩
   simp only[Er,Ex,or_false]
   rintro p (rfl|rfl|rfl|rfl|rfl|rfl|rfl)<;>(refine⟨by simp,by simp,by simp,by simp,rfl,?_⟩;simp only[Er,Ex,or_false];omega)
  ·have hw2:w=2:=by omega
   subst hw2
   lia
   refine⟨by trivial,f,[(0,0,[0,1+d1]),(1,1,[0,0-1-d2]),(0,1,[0-1,d3-1]),(1,0,[0-d4,0])],by cbv,?_,by simp⟩
   simp only[Er,Ex,or_false]
   rintro p (rfl|rfl|rfl|rfl)<;>(refine⟨by simp,by simp,by simp,by simp,rfl,?_⟩;simp only[Er,Ex,or_false];omega)
 rintro fl ρ ⟨rfl,f,es,rfl,hes,hel⟩
 lia
 refine am (by omega) (by omega) λway f aw bw=>?_
 ac_nf
 lia
 refine bK (λf:Int×Int=>[some ⟨.io 0,fT f⟩,some ⟨.ow,.im (.int w)⟩,some ⟨.ow,.im (.int m)⟩,some ⟨.ow,.im (.int (1+d1))⟩,some ⟨.ow,.li (es.map tTr)⟩,none,none,none,none,none,none]) I.int (λj _ l=>l.length=j/\∀x∈l,x=1∨x = -1) ?_
 lia
 refine⟨⟨by omega,by omega⟩,by cbv,f,by cbv,⟨rfl,by simp⟩,λj f l hj ⟨hl,hx⟩=>?_,λf signs ⟨hsl,hsx⟩=>?_⟩
 ·lia
  refine am (by omega) (by omega) λd f hd0 hd1=>?_
  ac_nf
  lia
  exact⟨1-2*d,f,rfl,by cbv,by simp[hl],aS hx (by omega)⟩
 lia
 refine jJ (λ_:Unit=>[some ⟨.io 0,fT f⟩,some ⟨.ow,.im (.int w)⟩,some ⟨.ow,.im (.int m)⟩,some ⟨.ow,.im (.int (1+d1))⟩,some ⟨.ow,.li (es.map tTr)⟩,some ⟨.ow,.im (.int way)⟩,some ⟨.ow,.li (signs.map .int)⟩,none,none,none,none]) aA eB (λ_ _ l=>∀x∈l,x=[]) ?_
 lia
 refine⟨⟨by omega,by omega⟩,by cbv,(),by cbv,by simp,λj _ l hj hl=>?_,λ_ l hl hn=>?_⟩
 ·lia
  exact⟨[],(),rfl,by cbv,aS hl rfl⟩
 lia
 refine dF (λt:List (List (Int×List Int))=>[some ⟨.io 0,fT f⟩,some ⟨.ow,.im (.int w)⟩,some ⟨.ow,.im (.int m)⟩,some ⟨.ow,.im (.int (1+d1))⟩,some ⟨.ow,.li (es.map tTr)⟩,some ⟨.ow,.im (.int way)⟩,some ⟨.ow,.li (signs.map .int)⟩,some ⟨.ow,.lst (t.map aA)⟩,none,none,none]) (λj t=>Looks (λ_ p=>jK w m p) j m.toNat t/\∀y l,3<=y->t[y]?=some l->l=[]) ?_
 lia
 refine⟨_,(show eH _=some ((es.map tTr).map _)from rfl),by cbv,l,by cbv,⟨⟨hn,λx l' hx=>by rw[hl l' (ymG hx)];simp⟩,λy l' _ hx=>hl l' (ymG hx)⟩,λj x t hx ⟨hL,hE⟩=>?_,λt ⟨hL,hE⟩=>?_⟩
 ·rw[DZ]at hx
  cases e:es[j]? with
  | none=>rw[e]at hx;cases hx
  | some p=>
   rw[e]at hx;cases hx
   obtain⟨x,o,row⟩:=p
   have hp:=hes _ (ymG e)
   obtain⟨p1,p2,p3,p4,p5,p6⟩:=hp
   simp only at p1 p2 p3 p4 p5 p6
   have hj:=(DR.mp e).1
   obtain⟨l,hl,hl3,hlP⟩:=hL.get (n:=x.toNat) (by omega)
   iterate 9 infer_instance
   refine uS (ls:=t) x.toNat rfl rfl (by omega) hl (by omega) (by cbv) ?_
   lia
   refine nY (row:=row) (signs:=signs) (by omega) (by omega) aw (by omega) p6 hsx λis hil hib _=>?_
   lia
   refine⟨(o,is),rfl,rfl,?_⟩
   lia
   refine⟨t.set x.toNat (l++[(o,is)]),by cbv,(hL.mono (HD j)).set hl (by simp;omega) (aS hlP ⟨p3,(by omega:o<m),hil.trans p5,hib⟩),λy l' hy hl'=>?_⟩
   rcases dE hl' with⟨z,_⟩|⟨_,hl'⟩
   ·omega
   ·exact hE y l' hy hl'
 ·lia
  refine uR (λs:(Int×Int)×List (List (Int×List Int))=>[some ⟨.io 0,fT s.1⟩,some ⟨.ow,.im (.int w)⟩,some ⟨.ow,.im (.int m)⟩,some ⟨.ow,.im (.int (1+d1))⟩,some ⟨.ow,.li (es.map tTr)⟩,some ⟨.ow,.im (.int way)⟩,some ⟨.ow,.li (signs.map .int)⟩,some ⟨.ow,.lst (s.2.map aA)⟩,none,none,none]) (λj s=>Looks (λ_ p=>jK w m p) 7 m.toNat s.2/\∀y l,3+j<=y->s.2[y]?=some l->l=[]) ?_
  lia
  rw[DX]at hL
  refine⟨⟨by omega,by omega,by omega,by omega⟩,(f,t),by cbv,⟨hL.mono hel,λy l' hy hl'=>hE y l' (by omega) hl'⟩,λj s hj ⟨hL,hE⟩=>?_,λs ⟨hL,_⟩=>?_⟩
  ·obtain⟨l,hl,hl3,hlP⟩:=hL.get (n:=3+j) (by omega)
   have hl0:=hE _ l (DY _) hl
   iterate 2 infer_instance
   refine uS (ls:=s.2) (3+j) rfl rfl (by omega) hl (by omega) (by cbv) ?_
   lia
   refine am (by omega) (by omega) λe f he0 he1=>?_
   ac_nf
   lia
   refine ut (by omega) h2 λis f hil hib=>?_
   ac_nf
   lia
   refine⟨(e,is),rfl,rfl,?_⟩
   lia
   refine⟨(f,s.2.set (3+j) (l++[(e,is)])),by cbv,hL.set hl (by simp[hl0]) (aS hlP ⟨he0,(by omega:e<m),hil,hib⟩),λy l' hy hl'=>?_⟩
   rcases dE hl' with⟨z,_⟩|⟨_,hl'⟩
   ·omega
   ·exact hE y l' (by omega) hl'
  ·lia
   exact q s.2 s.1 hL
theorem qx {ls:List (List (Int×List Int))}{n:Nat}{l:List (Int×List Int)}{p:Int×List Int}(h:ls[n]?=some l):T.put (.lst (ls.map aA)) [.ix n] (.li (tRd p::l.map tRd))=.lst ((ls.set n (p::l)).map aA):=by
 rw[tI (u:=aA l) (by rw[DZ,h];rfl),Gv]
 simp[aA]
theorem Db {ρ:Rho}{Q:Fl->Rho->Prop}{L X:Nat}{args:MA}{ls:List (List (Int×List Int))}{i:Int}(n:Nat){l:List (Int×List Int)}(hL : ρ[L]?=some (some ⟨.ow,.lst (ls.map aA)⟩))(hX : ρ[X]?=some (some ⟨.ow,.im (.int i)⟩))(hi:i=(n:Int))(hl:ls[n]?=some l)(hz:l.length<1000)(hm:args.mu.contains L=false)
  (ha:WA args ρ λrs ρ1=>∃p,rs=[⟨.ow,.im (.int 0)⟩,⟨.ow,.im (tRd p)⟩]/\ρ1[L]?=some (some ⟨.ow,.lst (ls.map aA)⟩)/\Q .nx ((ao [L] ρ1).set L (some ⟨.ow,.lst ((ls.set n (p::l)).map aA)⟩))):WS (bp (cH L [] lc (mIx (ah L) (ah X)) args)) ρ Q:=by
 subst hi
 refine n8 (uT (A6 (mU hL (mU hX (gu (by cbv) ?_)))))
 have hl':(ls.map aA)[(n:Int).toNat]?=some (aA l):=by rw[Ee,DZ,hl];rfl
 refine nF (u:=aA l) (kd:=.vw (some L) (some [.ix (n:Int).toNat])) (by omega) hl' (eB l) rfl ?_
 rw[Ee]
 refine WA.mono ha λrs ρ1 ⟨p,e,hL',q⟩=>?_
 subst e
 refine gu ?_ (n9 rfl (oo (oo (nh (yz hL' rfl ?_)))))
 ·show cN args.mu ⟨.vw (some L) (some [.ix n]),aA l⟩=true
  unfold cN
  simp only[Kd.root]
  rw[hm];rfl
 ·refine xS (is:=l.map tRd) ⟨by omega,by simp,by simp;rw[sizeLine_eq];omega⟩ ?_
  show Q _ (List.set _ _ (some ⟨_,T.put _ _ (.li (tRd p::l.map tRd))⟩))
  rw[qx hl]
  exact q
def RR (rest row:List Int):Prop:=row.length=rest.length/\∀(i:Nat) y r,row[i]?=some y->rest[i]?=some r->-2<=y/\y<=2/\-2<=r+y/\r+y<=2
theorem xj {f:Int×Int}{w m:Int}(h1:1<=w)(h2:w<=3)(h3:1<=m)(h4:m<=6){Q:T->T->Prop}(q:∀ls f',Looks (λ_ p=>jK w m p) 4 m.toNat ls->Q (.lst (ls.map aA)) (fT f')):W2 (dt [fT f,.im (.int w),.im (.int m)]) Q:=by
 refine runI_ok' [some ⟨.io 0,fT f⟩,some ⟨.ow,.im (.int w)⟩,some ⟨.ow,.im (.int m)⟩,none,none,none,none,none] rfl rfl rfl ?_
 unfold bX
 lia
 refine oQ h1 h2 h3 h4 λls f hLs=>?_
 ac_nf
 lia
 refine am (by omega) (by omega) λd f hd0 hd1=>?_
 ac_nf
 lia
 refine sA (is:=[.int 0]) ⟨by omega,by omega,by simp;rw[sizeLine_eq];omega⟩ ?_
 have er:(DV w.toNat [I.int 0]).flatten=(DV w.toNat (0:Int)).map .int:=by simp
 rw[er]
 lia
 refine cr (λs:(Int×Int)×List (List (Int×List Int))×List Int=>[some ⟨.io 0,fT s.1⟩,some ⟨.ow,.im (.int w)⟩,some ⟨.ow,.im (.int m)⟩,some ⟨.ow,.lst (s.2.1.map aA)⟩,some ⟨.ow,.im (.int (1+d))⟩,some ⟨.ow,.li (s.2.2.map .int)⟩,none,none]) (λj s=>Looks (λ_ p=>jK w m p) 4 m.toNat s.2.1/\(∀y l,j<=y->s.2.1[y]?=some l->l.length<=3)/\s.2.2.length=w.toNat/\∀x∈s.2.2,-2<=x/\x<=2) ?_
 lia
 refine⟨⟨by omega,by omega⟩,(f,ls,DV w.toNat 0),by cbv,⟨⟨hLs.1,λx l hx=>⟨by have:=(hLs.2 x l hx).1;omega,λp hp=>((hLs.2 x l hx).2 p hp).1⟩⟩,λy l _ hx=>(hLs.2 y l hx).1,by simp,λx hx=>by rw[(Ft.mp hx).2];decide⟩,λk s hk ⟨hL,hE,hrl,hrb⟩=>?_,λs ⟨hL,_⟩=>?_⟩
 ·obtain⟨f,ls,rest⟩:=s
  simp only at hL hE hrl hrb
  obtain⟨l,hl,hl4,hlP⟩:=hL.get (n:=k) (by omega)
  have hl3:=hE k l (DY _) hl
  lia
  refine bK (λf:Int×Int=>[some ⟨.io 0,fT f⟩,some ⟨.ow,.im (.int w)⟩,some ⟨.ow,.im (.int m)⟩,some ⟨.ow,.lst (ls.map aA)⟩,some ⟨.ow,.im (.int (1+d))⟩,some ⟨.ow,.li (rest.map .int)⟩,some ⟨.ow,.im (.int k)⟩,none]) I.int (λj _ l=>l.length=j/\∀x∈l,-1<=x/\x<=1) ?_
  lia
  refine⟨⟨by omega,by omega⟩,by cbv,f,by cbv,⟨rfl,by simp⟩,λj f l hj ⟨hl,hx⟩=>?_,λf r1 ⟨hl1,hx1⟩=>?_⟩
  ·lia
   refine am (by omega) (by omega) λd f hd0 hd1=>?_
   ac_nf
   lia
   exact⟨d-1,f,rfl,by cbv,by simp[hl],aS hx (by omega)⟩
  lia
  refine bK (λ_:Unit=>[some ⟨.io 0,fT f⟩,some ⟨.ow,.im (.int w)⟩,some ⟨.ow,.im (.int m)⟩,some ⟨.ow,.lst (ls.map aA)⟩,some ⟨.ow,.im (.int (1+d))⟩,some ⟨.ow,.li (rest.map .int)⟩,some ⟨.ow,.im (.int k)⟩,some ⟨.ow,.li (r1.map .int)⟩]) I.int (λj _ l=>l.length=j/\∀(i:Nat) y r,l[i]?=some y->rest[i]?=some r->-2<=y/\y<=2/\-2<=r+y/\r+y<=2) ?_
  lia
  refine⟨⟨by omega,by omega⟩,by cbv,(),by cbv,⟨rfl,by simp⟩,λj _ l hj ⟨hl,hx⟩=>?_,λ_ r2 ⟨hl2,hx2⟩=>?_⟩
  ·lia
   refine be (ns:=rest) (by omega) (by omega) λr hr er=>?_
   lia
   refine be (ns:=r1) (by omega) (by omega) λy hy ey=>?_
   lia
   refine be (ns:=rest) (by omega) (by omega) λr' hr' er'=>?_
   rw[er]at er'
   cases er'
   lia
   have b1:=hrb r hr
   have b2:=hx1 y hy
   refine⟨_,(),rfl,by cbv,by simp[hl],λi y' r' hy' hr'=>?_⟩
   by_cases hij:i<l.length
   ·rw[EF hij]at hy'
    exact hx i y' r' hy' hr'
   ·have:=(DR.mp hy').1
    simp at this
    have hie:i=j:=by omega
    subst hie
    rw[EW (by omega)]at hy'
    simp[hl]at hy'
    rw[Ee]at er
    rw[er]at hr'
    cases hr'
    subst hy'
    split<;>split<;>omega
  lia
  refine WS.mono (Q:=λfl ρ=>fl=.nx/\∃r3:List Int,ρ=[some ⟨.io 0,fT f⟩,some ⟨.ow,.im (.int w)⟩,some ⟨.ow,.im (.int m)⟩,some ⟨.ow,.lst (ls.map aA)⟩,some ⟨.ow,.im (.int (1+d))⟩,some ⟨.ow,.li (rest.map .int)⟩,some ⟨.ow,.im (.int k)⟩,some ⟨.ow,.li (List.map .int r3)⟩]/\RR rest r3) ?_ ?_
  ·(refine bo ?_;lia;clear_value hlast)
   ·lia
    refine jI (λ_:Unit=>[some ⟨.io 0,fT f⟩,some ⟨.ow,.im (.int w)⟩,some ⟨.ow,.im (.int m)⟩,some ⟨.ow,.lst (ls.map aA)⟩,some ⟨.ow,.im (.int (1+d))⟩,some ⟨.ow,.li (rest.map .int)⟩,some ⟨.ow,.im (.int k)⟩,some ⟨.ow,.li (r2.map .int)⟩]) I.int (λj _ l=>l.length=j/\∀(i:Nat) y r,l[i]?=some y->rest[i]?=some r->y = -r) ?_
    lia
    refine⟨rest.map .int,rfl,by simp;rw[sizeLine_eq];omega,by cbv,(),by cbv,⟨rfl,by simp⟩,λj x _ l hx ⟨hl,hq⟩=>?_,λ_ r3 ⟨hl3',hq3⟩=>?_⟩
    ·rw[DZ]at hx
     cases e:rest[j]? with
     | none=>rw[e]at hx;cases hx
     | some r=>
      rw[e]at hx;cases hx
      lia
      refine⟨0-r,(),rfl,by cbv,by simp[hl],λi y' r' hy' hr'=>?_⟩
      by_cases hij:i<l.length
      ·rw[EF hij]at hy'
       exact hq i y' r' hy' hr'
      ·have:=(DR.mp hy').1
       simp at this
       have hie:i=j:=by omega
       subst hie
       rw[EW (by omega)]at hy'
       simp[hl]at hy'
       rw[e]at hr'
       cases hr'
       omega
    ·lia
     refine⟨by trivial,r3,by cbv,by simpa using hl3',λi y r hy hr=>?_⟩
     have:=hq3 i y r hy hr
     have:=hrb r (ymG hr)
     omega
   ·lia
    exact⟨by trivial,r2,by cbv,by omega,hx2⟩
  ·rintro fl ρ ⟨rfl,r3,rfl,hr3l,hr3⟩
   lia
   refine bK (λ_:Unit=>[some ⟨.io 0,fT f⟩,some ⟨.ow,.im (.int w)⟩,some ⟨.ow,.im (.int m)⟩,some ⟨.ow,.lst (ls.map aA)⟩,some ⟨.ow,.im (.int (1+d))⟩,some ⟨.ow,.li (rest.map .int)⟩,some ⟨.ow,.im (.int k)⟩,some ⟨.ow,.li (r3.map .int)⟩]) I.int (λj _ l=>l.length=j/\∀x∈l,-2<=x/\x<=2) ?_
   lia
   refine⟨⟨by omega,by omega⟩,by cbv,(),by cbv,⟨rfl,by simp⟩,λj _ l hj ⟨hl,hx⟩=>?_,λ_ r4 ⟨hl4,hx4⟩=>?_⟩
   ·lia
    refine be (ns:=rest) (by omega) (by omega) λr hr er=>?_
    lia
    refine be (ns:=r3) (by omega) (by omega) λy hy ey=>?_
    lia
    have:=hr3 _ y r ey er
    exact⟨r+y,(),rfl,by cbv,by simp[hl],aS hx (by omega)⟩
   iterate 2 infer_instance
   refine Db (ls:=ls) k rfl rfl rfl hl (by omega) (by cbv) ?_
   lia
   have hkm:((k:Int)+1) % (1+d)<m:=by have:=E4 ((k:Int)+1) (show 0<1+d by omega);omega
   have hk0:0<=((k:Int)+1) % (1+d):=Fm _ (by omega)
   refine⟨(((k:Int)+1) % (1+d),r3),rfl,rfl,?_⟩
   lia
   refine⟨(f,ls.set k ((((k:Int)+1) % (1+d),r3)::l),r4),by cbv,hL.set hl (by simp;omega) (λp hp=>?_),λy l' hy hl'=>?_,by omega,hx4⟩
   ·rcases ycM hp with rfl|hp
    ·refine⟨hk0,hkm,by simpa[hrl]using hr3l,λx hx=>?_⟩
     obtain⟨i,hi⟩:=Fj.mp hx
     have hil:=(DR.mp hi).1
     have:i<rest.length:=by simp only at hil;omega
     have:=hr3 i x _ hi (Eh this)
     omega
    ·exact hlP p hp
   ·rcases dE hl' with⟨z,_⟩|⟨_,hl'⟩
    ·omega
    ·exact hE y l' (by omega) hl'
 ·lia
  exact q s.2.1 s.1 hL
theorem Looks.imp {P P':Nat->Int×List Int->Prop}{c c' m:Nat}{ls:List (List (Int×List Int))}(h:Looks P c m ls)(hc:c<=c')(hp:∀x p,P x p->P' x p):Looks P' c' m ls:=⟨h.1,λx l hx=>⟨Ev (h.2 x l hx).1 hc,λp hm=>hp x p ((h.2 x l hx).2 p hm)⟩⟩
theorem tY {f:Int×Int}{Q:T->T->Prop}(q:∀(w m:Int) ls f',1<=w->w<=3->1<=m->m<=6->Looks (λ_ p=>jK w m p) 7 m.toNat ls->Q (.tup [.im (.int w),.lst (ls.map aA)]) (fT f')):W2 (iu [fT f]) Q:=by
 refine runI_ok' [some ⟨.io 0,fT f⟩,none,none,none,none] rfl rfl rfl ?_
 unfold fS
 lia
 refine am (by omega) (by omega) λform f hf0 hf1=>?_
 ac_nf
 lia
 refine am (by omega) (by omega) λwide f hw0 hw1=>?_
 ac_nf
 lia
 try ac_nf
 refine be (ns:=[1,2,2,2,2,1,2,3]) (Fm _ (by omega)) (by have:=E4 wide (show(0:Int)<8 by omega);simpa using this) λw hw _=>?_
 have hw13:1<=w/\w<=3:=by simp at hw;omega
 lia
 refine be (ns:=[3,6]) (by omega) (by simp;omega) λmm hmm _=>?_
 have hmm':3<=mm/\mm<=6:=by simp at hmm;omega
 lia
 refine am (by omega) (by omega) λd f hd0 hd1=>?_
 ac_nf
 lia
 (refine bo ?_;lia;clear_value h1)
 ·lia
  refine vg hw13.1 hw13.2 (by omega) (by omega) λls f hL=>?_
  ac_nf
  lia
  exact q w (1+d) ls f hw13.1 hw13.2 (by omega) (by omega) (hL.mono (by omega))
 lia
 (refine bo ?_;lia;clear_value h2)
 ·lia
  refine oQ hw13.1 hw13.2 (by omega) (by omega) λls f hL=>?_
  ac_nf
  lia
  exact q w (1+d) ls f hw13.1 hw13.2 (by omega) (by omega) (hL.imp (by omega) λx p hp=>hp.1)
 lia
 (refine bo ?_;lia;clear_value h3)
 ·lia
  refine xj hw13.1 hw13.2 (by omega) (by omega) λls f hL=>?_
  ac_nf
  lia
  exact q w (1+d) ls f hw13.1 hw13.2 (by omega) (by omega) (hL.mono (by omega))
 lia
 try ac_nf
 refine zr (by split<;>omega) (by split<;>omega) (by split<;>split<;>split<;>omega) (by split<;>split<;>split<;>omega) λls f hL=>?_
 ac_nf
 lia
 exact q _ _ ls f (by split<;>omega) (by split<;>omega) (by split<;>split<;>split<;>omega) (by split<;>split<;>split<;>omega) hL
inductive Ru where
 | num (n:Int)|rd (x:Str) (row:List Int)|op (s:Str) (a b:Ru)|cond (a b c:Ru)
noncomputable def tRu:Ru->I
 | .num n=>.tup [.str "num",.int n]
 | .rd x row=>.tup [.str "at",.str x,.tup (row.map .int)]
 | .op s a b=>.tup [.str "op",.str s,tRu a,tRu b]
 | .cond a b c=>.tup [.str "if",tRu a,tRu b,tRu c]
noncomputable def Ru.leaves:Ru->List Ru
 | .op _ a b=>a.leaves++b.leaves
 | .cond a b c=>a.leaves++(b.leaves++c.leaves)
 | r=>[r]
noncomputable def Ru.depth:Ru->Nat
 | .op _ a b=>max a.depth b.depth+1
 | .cond a b c=>max a.depth (max b.depth c.depth)+1
 | _=>0
noncomputable def nO:List Str:=["+","-","*","min","max","rest","less"]
def Ru.ok:Ru->Prop
 | .op s a b=>s∈nO/\a.ok/\b.ok
 | .cond a b c=>a.ok/\b.ok/\c.ok
 | _=>True
theorem Ru.depth_lt:∀r:Ru,r.depth<r.leaves.length
 | .num _=>Hh
 | .rd _ _=>Hh
 | .op _ a b=>by have:=a.depth_lt;have:=b.depth_lt;simp only[Ru.depth,Ru.leaves,D8];omega
 | .cond a b c=>by have:=a.depth_lt;have:=b.depth_lt;have:=c.depth_lt;simp only[Ru.depth,Ru.leaves,D8];omega
theorem iM {α:Type}{emb : α->I}{ns:List α}{kd:Kd}{a:Int}{QR:R->Prop}(h0:0<=a)(h1:a<ns.length)(q:∀y,ns[a.toNat]?=some y->QR ⟨.ow,.im (emb y)⟩):W1 (ixR ⟨kd,.li (ns.map emb)⟩ (.im (.int a))) QR:=by
 refine nH h0 (by simpa using h1) λx hx=>?_
 rw[DZ]at hx
 cases e:ns[a.toNat]? with
 | none=>rw[e]at hx;cases hx
 | some y=>rw[e]at hx;cases hx;exact q y e
theorem Da {ct:MT}{s1 s2:MS}{ρ:Rho}{Q:Fl->Rho->Prop}(M:Bool->Rho->Prop)(h:WT ct ρ M)(h1:∀ρ,M true ρ->WS s1 ρ Q)(h2:∀ρ,M false ρ->WS s2 ρ Q):WS (mIf ct s1 s2) ρ Q:=bo (WT.mono h λb ρ m=>⟨λe=>h1 ρ (e▸m),λe=>h2 ρ (e▸m)⟩)
theorem Ds {α:Type}{l:List α}{n:Nat}{a b : α}(ha:l[n]?=some a)(hb:l[n+1]?=some b):l=l.take n++a::b::l.drop (n+2):=by
 obtain⟨h1,e1⟩:=DR.mp ha
 obtain⟨h2,e2⟩:=DR.mp hb
 rw[←e1,←e2,Fe,Fe,Fv]
theorem Dt {α:Type}{l:List α}{n:Nat}{a b c : α}(ha:l[n]?=some a)(hb:l[n+1]?=some b)(hc:l[n+2]?=some c):l=l.take n++a::b::c::l.drop (n+3):=by
 obtain⟨h1,e1⟩:=DR.mp ha
 obtain⟨h2,e2⟩:=DR.mp hb
 obtain⟨h3,e3⟩:=DR.mp hc
 rw[←e1,←e2,←e3,Fe,Fe,Fe,Fv]
theorem rN {f:Int×Int}{rs:List Ru}(hne:rs≠[])(hl:rs.length<=1000)(hok:∀r∈rs,r.ok){Q:T->T->Prop}(q:∀r f',r.leaves=rs.flatMap Ru.leaves->r.ok->Q (.im (tRu r)) (fT f')):W2 (ip [fT f,.li (rs.map tRu)]) Q:=by
 refine runI_ok' [some ⟨.io 0,fT f⟩,some ⟨.vw none none,.li (rs.map tRu)⟩,none,none,none] rfl rfl rfl ?_
 unfold fO
 lia
 refine mV (λs:(Int×Int)×List Ru=>[some ⟨.io 0,fT s.1⟩,some ⟨.vw none none,.li (rs.map tRu)⟩,some ⟨.ow,.li (s.2.map tRu)⟩,none,none]) (λs=>s.2≠[]/\s.2.length<=1000/\(∀r∈s.2,r.ok)/\s.2.flatMap Ru.leaves=rs.flatMap Ru.leaves) (λs=>s.2.length) (f,rs) (by cbv) ⟨hne,hl,hok,rfl⟩ λs ⟨hne,hl,hok,hfl⟩=>?_
 obtain⟨f,cs⟩:=s
 dsimp only at hne hl hok hfl⊢
 lia
 rw[DX]
 clear_value hlen
 ·lia
  rw[DX]
  refine am (by omega) (by omega) λat0 f ha0 ha1=>?_
  ac_nf
  lia
  refine Da (λb ρ=>∃f:Int×Int,ρ=[some ⟨.io 0,fT f⟩,some ⟨.vw none none,.li (rs.map tRu)⟩,some ⟨.ow,.li (cs.map tRu)⟩,some ⟨.ow,.im (.int at0)⟩,none]/\(b=true->2<cs.length)) ?_ ?_ ?_
  ·lia
   rw[DX]
   clear_value h2
   ·lia
    refine am (by omega) (by omega) λd f hd0 hd1=>?_
    ac_nf
    lia
    exact⟨f,rfl,λ_=>by omega⟩
   ·exact⟨f,rfl,λz=>absurd z (by decide)⟩
  ·rintro ρ ⟨f,rfl,h2⟩
   have h2:=h2 rfl
   lia
   rw[DX]
   generalize hat:(if(cs.length:Int)-3<at0 then(cs.length:Int)-3 else at0)=at1
   have ha:0<=at1/\at1+3<=cs.length:=by subst hat;split<;>omega
   refine iM (ns:=cs) ha.1 (by omega) λa ea=>?_
   lia
   refine iM (ns:=cs) (by omega) (by omega) λb eb=>?_
   lia
   refine iM (ns:=cs) (by omega) (by omega) λc ec=>?_
   lia
   rw[show(at1+1).toNat=at1.toNat+1 by omega]at eb
   rw[show(at1+2).toNat=at1.toNat+2 by omega]at ec
   have ecut:=Dt ea eb ec
   refine⟨[],cs.map tRu,_,_,at1,at1+3,rfl,rfl,rfl,by cbv,⟨ha.1,by omega,by simp;omega,by simp;rw[sizeLine_eq];omega⟩,rfl,rfl,?_⟩
   ac_nf
   lia
   refine⟨(f,cs.take at1.toNat++Ru.cond a b c::cs.drop (at1.toNat+3)),?_,?_,by simp,?_,?_,?_⟩
   ·rw[D9,DS,Fu,FN,show(at1+3).toNat=at1.toNat+3 by omega,Ea]
    cbv
   ·simp;omega
   ·simp;omega
   ·intro r hr
    rcases yaM hr with hr|hr
    ·exact hok r (EJ hr)
    ·rcases ycM hr with rfl|hr
     ·exact⟨hok a (ymG ea),hok b (ymG eb),hok c (ymG ec)⟩
     ·exact hok r (Fo hr)
   ·rw[←hfl]
    conv=>rhs;rw[ecut]
    simp[Ru.leaves]
  ·rintro ρ ⟨f,rfl,_⟩
   lia
   refine am (by omega) (by omega) λd f hd0 hd1=>?_
   ac_nf
   lia
   refine iM (emb:=I.str) (ns:=nO) hd0 (by simpa[nO]using hd1) λsg esg=>?_
   lia
   refine iM (ns:=cs) ha0 (by omega) λa ea=>?_
   lia
   refine iM (ns:=cs) (by omega) (by omega) λb eb=>?_
   lia
   rw[show(at0+1).toNat=at0.toNat+1 by omega]at eb
   have ecut:=Ds ea eb
   refine⟨[],cs.map tRu,_,_,at0,at0+2,rfl,rfl,rfl,by cbv,⟨ha0,by omega,by simp;omega,by simp;rw[sizeLine_eq];omega⟩,rfl,rfl,?_⟩
   ac_nf
   lia
   refine⟨(f,cs.take at0.toNat++Ru.op sg a b::cs.drop (at0.toNat+2)),?_,?_,by simp,?_,?_,?_⟩
   ·rw[D9,DS,Fu,FN,show(at0+2).toNat=at0.toNat+2 by omega,Ea]
    cbv
   ·simp;omega
   ·simp;omega
   ·intro r hr
    rcases yaM hr with hr|hr
    ·exact hok r (EJ hr)
    ·rcases ycM hr with rfl|hr
     ·exact⟨ymG esg,hok a (ymG ea),hok b (ymG eb)⟩
     ·exact hok r (Fo hr)
   ·rw[←hfl]
    conv=>rhs;rw[ecut]
    simp[Ru.leaves]
 ·lia
  obtain⟨r,rfl⟩:∃r,cs=[r]:=by
   match cs,hne,hlen with
   | [r],_,_=>exact⟨r,rfl⟩
   | _::_::_,_,h=>simp at h;omega
  lia
  exact q r f (by simpa using hfl) (hok r (by simp))
noncomputable def fiveS:List Str:=["min","max","rest","less","if"]
noncomputable def nmB (S:List Nat) (a:Nat) (ch k:Nat):List Nat:=S.take a++ch::S.drop a++(if k % 2=1 then [113]else [])
noncomputable def nmS (S:List Nat) (a:Nat) (ch k:Nat):Str:=if oL (nmB S a ch k)∈fiveS then oL (nmB S a ch k++[119])else oL (nmB S a ch k)
theorem DD:113∈sL LET:=by decide +kernel
theorem DN:119∈sL LET:=by decide +kernel
theorem u6:∀i<26,∀j<26,(sL LET).getD i 0=(sL LET).getD j 0->i=j:=by decide +kernel
theorem yJ:∀z∈fiveS,oL (sL z++[119])∉fiveS:=by decide +kernel
theorem dB {S:List Nat}{a ch k:Nat}:(nmB S a ch k).length=S.length+1+k % 2:=by
 unfold nmB
 have h:k % 2=0∨k % 2=1:=by omega
 rw[D8,D8,D5,Ew,EM]
 rcases h with h|h<;>simp[h]<;>omega
theorem zb {S:List Nat}{a ch k:Nat}(hS:∀c∈S,c∈sL LET)(hc:ch∈sL LET):∀c∈nmB S a ch k,c∈sL LET:=λc h=>by
 unfold nmB at h
 rcases yaM h with h|h
 ·rcases yaM h with h|h
  ·exact hS c (EJ h)
  ·rcases ycM h with rfl|h
   ·exact hc
   ·exact hS c (Fo h)
 ·split at h
  ·rw[ysM h];exact DD
  ·cases h
theorem oS {S:List Nat}{a ch ch' k k':Nat}(h:nmB S a ch k=nmB S a ch' k'):ch=ch'/\k % 2=k' % 2:=by
 have hl:=congrArg E9 h
 rw[dB,dB]at hl
 have hk:k % 2=k' % 2:=by omega
 refine⟨?_,hk⟩
 unfold nmB at h
 rw[hk]at h
 have h2:=Gd h
 have h3:=List.append_cancel_left h2
 exact(ES.inj h3).1
theorem mj {S:List Nat}{a ch k:Nat}(hk:k % 2=1):(nmB S a ch k).getLast?=some 113:=by
 unfold nmB
 rw[if_pos hk,FP]
 rfl
theorem lj {x y:List Nat}(h:oL x=oL y):x=y:=congrArg sL h
theorem vL {S:List Nat}{a ch ch' k k':Nat}(h:nmS S a ch k=nmS S a ch' k'):ch=ch'/\k % 2=k' % 2:=by
 unfold nmS at h
 split at h<;>split at h
 ·exact oS (Gd (lj h))
 ·have h':=lj h
  have hl:=congrArg E9 h'
  rw[D8,dB,dB]at hl
  have hk:k' % 2=1:=by simp at hl;omega
  have:=mj (S:=S) (a:=a) (ch:=ch') hk
  rw[←h',FP]at this
  cases this
 ·have h':=lj h
  have hl:=congrArg E9 h'
  rw[D8,dB,dB]at hl
  have hk:k % 2=1:=by simp at hl;omega
  have:=mj (S:=S) (a:=a) (ch:=ch) hk
  rw[h',FP]at this
  cases this
 ·exact oS (lj h)
def eC (z:Str):Prop:=1<=z.length/\z.length<=8/\z∉fiveS/\∀c∈sL z,c∈sL LET
theorem zc {S:List Nat}{a ch k:Nat}(hS:∀c∈S,c∈sL LET)(hc:ch∈sL LET)(hl:S.length<=5):eC (nmS S a ch k):=by
 have hb:=zb (a:=a) (k:=k) hS hc
 have hlen:=dB (S:=S) (a:=a) (ch:=ch) (k:=k)
 unfold eC nmS
 split
 ·rename_i c
  have h1:(oL (nmB S a ch k++[119])).length=S.length+1+k % 2+1:=by rw[dN,dw,D8,hlen];rfl
  refine⟨by omega,by omega,yJ _ c,λx hx=>?_⟩
  rw[dw]at hx
  rcases yaM hx with h|h
  ·exact hb x h
  ·rw[ysM h];exact DN
 ·rename_i c
  have h1:(oL (nmB S a ch k)).length=S.length+1+k % 2:=by rw[dN,dw,hlen]
  exact⟨by omega,by omega,c,λx hx=>hb x (by rwa [dw]at hx)⟩
theorem rq {α:Type}{xs:List α}{n:Nat}(h:n<=xs.length):cu xs none (some (n:Int))=xs.take n:=by
 unfold cu
 rw[HT.sIx_none,HT.sIx_nat,FX h]
 simp
theorem rn {α:Type}{xs:List α}{n:Nat}(h:n<=xs.length):cu xs (some (n:Int)) none=xs.drop n:=by
 unfold cu
 rw[HT.sIx_none,HT.sIx_nat,FX h]
 exact Eg (by rw[EM];exact DY _)
theorem kF:∀{zs:List Str},mR (zs.map I.str)=some zs
 | []=>rfl
 | z::zs=>by rw[DS,mR,kF];rfl
theorem zy {z:Str}{zs:List Str}{QT1:T->Prop}(h:(zs.map (·.length)).sum+zs.length*z.length<=16777216)(q:QT1 (.im (.str (Txt.join z zs)))):W1 (jf (.im (.str z)) [.li (zs.map .str)]) QT1:=w1 (by simp only[jf,kF];rw[if_pos h]) q
theorem nE {β:Type}{g:Nat->β}{n:Nat}(hf:∀x<n,∀y<n,g x=g y->x=y):((Es n).map g).Nodup:=ii List.nodup_range λx hx y hy e=>hf x (E8.mp hx) y (E8.mp hy) e
noncomputable def ft (S:List Nat) (a fn m:Nat):List Str:=(Es m).map λk=>nmS S a ((sL LET).getD ((fn+5*k) % 26) 0) k
theorem oh {i:Nat}(h:i<26):(sL LET)[i]?=some ((sL LET).getD i 0):=by
 rw[Eb,Eh (by rw[kK];exact h)];rfl
theorem sk {S:List Nat}{a fn m:Nat}(hS:∀c∈S,c∈sL LET)(hl:S.length<=5)(hm:m<=6):(ft S a fn m).length=m/\(ft S a fn m).Nodup/\∀z∈ft S a fn m,eC z:=by
 refine⟨by simp[ft],nE λx hx y hy e=>?_,λz hz=>?_⟩
 ·have:=u6 _ (F8 _ (by decide)) _ (F8 _ (by decide)) (vL e).1
  omega
 ·obtain⟨k,hk,rfl⟩:=D4.mp hz
  exact zc hS (ymG (oh (F8 _ (by decide)))) hl
theorem sj {f:Int×Int}{m:Int}(h1:0<=m)(h2:m<=6){Q:T->T->Prop}(q:∀(zs:List Str) f',zs.length=m.toNat->zs.Nodup->(∀z∈zs,eC z)->Q (.li (zs.map .str)) (fT f')):W2 (ir [fT f,.im (.int m)]) Q:=by
 refine runI_ok' [some ⟨.io 0,fT f⟩,some ⟨.ow,.im (.int m)⟩,none,none,none,none,none,none,none] rfl rfl rfl ?_
 unfold fR
 lia
 refine bK (λf:Int×Int=>[some ⟨.io 0,fT f⟩,some ⟨.ow,.im (.int m)⟩,some ⟨.ow,.im (.str LET)⟩,none,none,none,none,none,none]) I.str (λj _ l=>l.length=j/\∀z∈l,∃ch,ch∈sL LET/\z=⟨#[ch]⟩) ?_
 lia
 refine am (by omega) (by omega) λd f hd0 hd1=>?_
 ac_nf
 lia
 refine⟨⟨by omega,by omega⟩,by cbv,f,by cbv,⟨rfl,by simp⟩,λj f l hj ⟨hl,hx⟩=>?_,λf zs ⟨hl,hx⟩=>?_⟩
 ·lia
  refine am (by omega) (by omega) λd f hd0 hd1=>?_
  ac_nf
  lia
  refine sv (s:=LET) (by rw[LET_len',sizeLine_eq];omega) hd0 (by rw[kK];exact hd1) λc hc=>?_
  exact⟨⟨#[c]⟩,f,rfl,by cbv,by simp[hl],aS hx ⟨c,ymG hc,rfl⟩⟩
 lia
 have sum1:∀zs:List Str,(∀z∈zs,∃ch,ch∈sL LET/\z=⟨#[ch]⟩)->(zs.map (·.length)).sum=zs.length:=λzs h=>by
  induction zs with
  | nil=>rfl
  | cons z zs ih=>
   obtain⟨ch,_,e⟩:=h z ymS
   rw[DS,Ge,ih λy hy=>h y (ymC _ hy),D5,e]
   show 1+zs.length=_
   omega
 have e0:("" : Str)=oL []:=by decide +kernel
 have e1:(("" : Str)).length=0:=by decide +kernel
 refine zy (zs:=zs) (by rw[sum1 zs hx,e1];omega) ?_
 have hst:sL (Txt.join "" zs)=(zs.map sL).flatten:=by rw[e0];exact pN zs
 have hSl:(sL (Txt.join "" zs)).length<=5:=by
  rw[hst,List.length_flatten,Eo]
  have:(zs.map (E9∘sL)).sum=zs.length:=by rw[←sum1 zs hx];congr 1
  omega
 have hS:∀c∈sL (Txt.join "" zs),c∈sL LET:=λc hc=>by
  rw[hst]at hc
  obtain⟨l,hl',hc⟩:=Hb.mp hc
  obtain⟨z,hz,rfl⟩:=D4.mp hl'
  obtain⟨ch,hch,rfl⟩:=hx z hz
  have:c=ch:=by simpa using hc
  rw[this];exact hch
 generalize Txt.join "" zs=stem at *
 have hst5:stem.length<=5:=by rw[dN];exact hSl
 have hlc:∀l:List Nat,(oL l).length=l.length:=λl=>by rw[dN,dw]
 lia
 refine am (by omega) (by omega) λfi f hf0 hf1=>?_
 ac_nf
 lia
 refine zB (by rw[sizeLine_eq];omega) ?_
 lia
 refine am (by omega) (by omega) λat0 f ha0 ha1=>?_
 ac_nf
 lia
 obtain⟨a,rfl⟩:∃a:Nat,at0=(a:Int):=⟨at0.toNat,by omega⟩
 obtain⟨fn,rfl⟩:∃a:Nat,fi=(a:Int):=⟨fi.toNat,by omega⟩
 have ha5:a<=(sL stem).length:=by rw[←dN];omega
 try ac_nf
 lia
 refine cr (λk:Nat=>[some ⟨.io 0,fT f⟩,some ⟨.ow,.im (.int m)⟩,some ⟨.ow,.im (.str LET)⟩,some ⟨.ow,.im (.str stem)⟩,some ⟨.ow,.im (.int fn)⟩,some ⟨.ow,.im (.int a)⟩,some ⟨.ow,.li ((ft (sL stem) a fn k).map .str)⟩,none,none]) (λj k=>k=j) ?_
 lia
 refine⟨⟨by omega,by omega⟩,0,by cbv,rfl,λi k hi hk=>?_,λk hk=>?_⟩
 ·subst hk
  have hidx:((fn:Int)+5*(k:Int)) % 26=(((fn+5*k) % 26:Nat):Int):=by omega
  have hilt:(fn+5*k) % 26<26:=F8 _ (by decide)
  have hche:=oh hilt
  have hne:ft (sL stem) a fn (k+1)=ft (sL stem) a fn k++[nmS (sL stem) a ((sL LET).getD ((fn+5*k) % 26) 0) k]:=by simp[ft,FY]
  generalize (sL LET).getD ((fn+5*k) % 26) 0=ch at hche hne
  lia
  refine xW (by rw[sizeLine_eq];omega) ?_
  rw[rq ha5]
  lia
  rw[hidx]
  refine sv (s:=LET) (by rw[LET_len',sizeLine_eq];omega) (by omega) (by rw[kK];omega) λc hc=>?_
  rw[Ee,hche]at hc
  cases hc
  lia
  refine ll (by rw[hlc,Ew,sizeLine_eq];show _+1<=_;omega) ?_
  lia
  refine xW (by rw[sizeLine_eq];omega) ?_
  rw[rn ha5]
  lia
  refine ll (by rw[dN,jE,dw,hlc,sizeLine_eq,D8,Ew,EM];show _+1+_<=_;omega) ?_
  have en:(oL ((sL stem).take a)++(⟨#[ch]⟩:Str))++oL ((sL stem).drop a)=oL ((sL stem).take a++ch::(sL stem).drop a):=by
   apply lC
   rw[jE,jE,dw,dw,dw]
   simp
  rw[en]
  lia
  refine WS.mono (Q:=λfl ρ=>fl=.nx/\ρ=[some ⟨.io 0,fT f⟩,some ⟨.ow,.im (.int m)⟩,some ⟨.ow,.im (.str LET)⟩,some ⟨.ow,.im (.str stem)⟩,some ⟨.ow,.im (.int fn)⟩,some ⟨.ow,.im (.int a)⟩,some ⟨.ow,.li ((ft (sL stem) a fn k).map .str)⟩,some ⟨.ow,.im (.int k)⟩,some ⟨.ow,.im (.str (oL (nmB (sL stem) a ch k)))⟩]) ?_ ?_
  ·(refine bo ?_;lia;clear_value hk2)
   ·lia
    refine ll (by rw[hlc,D8,D5,Ew,EM,sizeLine_eq];show _+1<=_;omega) ?_
    have eq:oL ((sL stem).take a++ch::(sL stem).drop a)++("q" : Str)=oL (nmB (sL stem) a ch k):=by
     apply lC
     rw[jE,dw,dw]
     unfold nmB
     rw[if_pos (by omega)]
     rfl
    rw[eq]
    lia
    exact⟨by trivial,by first|trivial|cbv⟩
   ·lia
    have eq:(sL stem).take a++ch::(sL stem).drop a=nmB (sL stem) a ch k:=by
     unfold nmB
     rw[if_neg (by omega)]
     simp
    rw[eq]
    exact⟨by trivial,by first|trivial|cbv⟩
  rintro fl ρ ⟨rfl,rfl⟩
  have hnl:(oL (nmB (sL stem) a ch k)).length<=7:=by rw[hlc,dB];omega
  lia
  refine WS.mono (Q:=λfl ρ=>fl=.nx/\ρ=[some ⟨.io 0,fT f⟩,some ⟨.ow,.im (.int m)⟩,some ⟨.ow,.im (.str LET)⟩,some ⟨.ow,.im (.str stem)⟩,some ⟨.ow,.im (.int fn)⟩,some ⟨.ow,.im (.int a)⟩,some ⟨.ow,.li ((ft (sL stem) a fn k).map .str)⟩,some ⟨.ow,.im (.int k)⟩,some ⟨.ow,.im (.str (nmS (sL stem) a ch k))⟩]) ?_ ?_
  ·refine bo ?_
   lia
   refine BW (is:=fiveS.map .str) ⟨rfl,by decide +kernel,by decide +kernel⟩ ?_
   lia
   clear_value hw
   ·have hw':oL (nmB (sL stem) a ch k)∈fiveS:=by simpa using hw
    lia
    have hw1:(("w" : Str)).length=1:=by decide +kernel
    refine ll (by rw[sizeLine_eq];omega) ?_
    have eq:oL (nmB (sL stem) a ch k)++("w" : Str)=nmS (sL stem) a ch k:=by
     unfold nmS
     rw[if_pos hw']
     apply lC
     rw[jE,dw,dw]
     rfl
    rw[eq]
    lia
    exact⟨by trivial,by first|trivial|cbv⟩
   ·have hw':oL (nmB (sL stem) a ch k)∉fiveS:=by simpa using hw
    have eq:oL (nmB (sL stem) a ch k)=nmS (sL stem) a ch k:=by unfold nmS;rw[if_neg hw']
    rw[eq]
    lia
    exact⟨by trivial,by first|trivial|cbv⟩
  rintro fl ρ ⟨rfl,rfl⟩
  lia
  refine cG (by simp[ft];rw[sizeLine_eq];omega) ?_
  ac_nf
  lia
  refine⟨k+1,?_,rfl⟩
  rw[hne,D9]
  cbv
 ·subst hk
  lia
  obtain⟨n1,n2,n3⟩:=sk (S:=sL stem) (a:=a) (fn:=fn) (m:=m.toNat) hS hSl (by omega)
  exact q _ f n1 n2 n3
noncomputable def fc (p:Str×Ru):I:=.tup [.str p.1,tRu p.2]
noncomputable def bg (w wh:Int) (ds:List (Str×Ru)):I:=.tup [.int w,.int wh,.tup (ds.map fc)]
def ld:Ru->Prop
 | .num _=>True
 | .rd _ _=>True
 | _=>False
theorem pX {r:Ru}(h:ld r):r.leaves=[r]:=by cases r<;>first|rfl|cases h
theorem j8:∀{rs:List Ru},(∀r∈rs,ld r)->rs.flatMap Ru.leaves=rs
 | [],_=>rfl
 | r::rs,h=>by rw[D3,pX (h r ymS),j8 λx hx=>h x (ymC _ hx)];rfl
def LeafOk (ns:List Str)(w:Int):Ru->Prop
 | .num n=>0<=n/\n<=1000000000
 | .rd x row=>x∈ns/\row.length=w.toNat
 | _=>False
theorem LeafOk.leaf {ns:List Str}{w:Int}{r:Ru}(h:LeafOk ns w r):ld r:=by cases r<;>first|trivial|cases h
theorem vC {r:Ru}(h:ld r):r.ok:=by cases r<;>first|trivial|cases h
def Cov (n:Nat)(rs:List Ru):Prop:=∃L:List (Str×List Int),L.length<=n/\∀x row,Ru.rd x row∈rs->(x,row)∈L
def q5 (c:Nat)(ns:List Str)(w:Int)(n:Nat)(r:Ru):Prop:=r.ok/\r.leaves.length<=c/\(∀l∈r.leaves,LeafOk ns w l)/\Cov n r.leaves
def og (c:Nat)(w wh:Int)(ds:List (Str×Ru)):Prop:=1<=w/\w<=3/\2<=wh/\wh<=1000000000/\1<=ds.length/\ds.length<=6/\(ds.map (·.1)).Nodup/\(∀z∈ds.map (·.1),eC z)/\∃n,n*ds.length<=16/\∀p∈ds,q5 c (ds.map (·.1)) w n p.2
theorem lv:∀{l:List (Str×List Int)},I.doks (l.map λp=>tRu (.rd p.1 p.2))=true/\I.deps (l.map λp=>tRu (.rd p.1 p.2))<=50
 | []=>⟨rfl,by decide⟩
 | p::l=>by
  have ih:=lv (l:=l)
  have hi:∀row:List Int,I.doks (row.map I.int)=true/\I.deps (row.map I.int)=0:=λrow=>by
   induction row with
   | nil=>exact⟨rfl,rfl⟩
   | cons x row ih=>exact⟨by rw[DS,I.doks,ih.1];rfl,by rw[DS,I.deps,ih.2];rfl⟩
  refine⟨?_,?_⟩
  ·rw[DS,I.doks,ih.1]
   simp only[tRu,I.dok,I.doks,(hi p.2).1]
   rfl
  ·rw[DS,I.deps]
   have h1:I.dep (tRu (.rd p.1 p.2))<=50:=by simp only[tRu,I.dep,I.deps,(hi p.2).2];decide
   have:=ih.2
   omega
theorem fH {α:Type}{xs:List α}{v:Int}(h:0<=v):cu xs none (some v)=xs.take v.toNat:=by
 obtain⟨n,rfl⟩:∃n:Nat,v=n:=⟨v.toNat,by omega⟩
 unfold cu
 rw[HT.sIx_none,HT.sIx_nat,Ee,Hk,Nat.sub_zero]
 rcases Nat.le_total n xs.length with h|h
 ·rw[FX h]
 ·rw[Nat.min_eq_right h,Eg h,Eg (DY _)]
theorem rP {f:Int×Int}{Q:T->T->Prop}(q:∀w wh ds f',og 10 w wh ds->Q (.im (bg w wh ds)) (fT f')):W2 (iq [fT f]) Q:=by
 refine runI_ok' [some ⟨.io 0,fT f⟩,none,none,none,none,none,none,none,none,none] rfl rfl rfl ?_
 unfold fQ
 lia
 refine tY λw m ls f hw1 hw2 hm1 hm2 hL=>?_
 ac_nf
 lia
 refine am (by omega) (by omega) λd1 f a1 b1=>?_
 ac_nf
 lia
 refine am (by omega) (by omega) λd2 f a2 b2=>?_
 ac_nf
 lia
 refine am (by omega) (by omega) λd3 f a3 b3=>?_
 ac_nf
 lia
 refine am (by omega) (by omega) λd4 f a4 b4=>?_
 ac_nf
 lia
 refine be (ns:=[2+d1,2+d2,1000000000-d3]) a4 (by simpa using b4) λwh hwh _=>?_
 have hwh':2<=wh/\wh<=1000000000:=by simp at hwh;omega
 lia
 have hlm:((ls.map aA).length:Int)=m:=by rw[DX,hL.1];omega
 rw[hlm]
 refine sj (by omega) hm2 λzs f hzl hzn hzo=>?_
 ac_nf
 lia
 refine cr (λs:(Int×Int)×List (Str×Ru)=>[some ⟨.io 0,fT s.1⟩,some ⟨.ow,.im (.int w)⟩,some ⟨.ow,.lst (ls.map aA)⟩,some ⟨.ow,.im (.int wh)⟩,some ⟨.ow,.li (zs.map .str)⟩,some ⟨.ow,.li (s.2.map fc)⟩,none,none,none,none]) (λj s=>s.2.map (·.1)=zs.take j/\∀p∈s.2,q5 10 zs w (16 / m.toNat) p.2) ?_
 lia
 rw[hlm]
 refine⟨⟨by omega,by omega⟩,(f,[]),by cbv,⟨rfl,by simp⟩,λx s hx ⟨hd1,hd2⟩=>?_,λs ⟨hd1,hd2⟩=>?_⟩
 ·obtain⟨f,ds⟩:=s
  dsimp only at hd1 hd2⊢
  obtain⟨l,hl,hl7,hlP⟩:=hL.get (n:=x) (by omega)
  lia
  refine jI (λ_:Unit=>[some ⟨.io 0,fT f⟩,some ⟨.ow,.im (.int w)⟩,some ⟨.ow,.lst (ls.map aA)⟩,some ⟨.ow,.im (.int wh)⟩,some ⟨.ow,.li (zs.map .str)⟩,some ⟨.ow,.li (ds.map fc)⟩,some ⟨.ow,.im (.int x)⟩,none,none,none]) (λp:Str×List Int=>tRu (.rd p.1 p.2)) (λj _ L=>L.length=j/\∀p∈L,p.1∈zs/\p.2.length=w.toNat) ?_
  lia
  refine nF (u:=aA l) (kd:=.vw (some 2) (some [.ix x])) (by omega) (by rw[Ee,DZ,hl];rfl) (eB l) rfl ?_
  lia
  rw[hlm]
  rw[fH (Int.ediv_nonneg (by omega) (by omega)),←Fu]
  refine⟨(l.take (16 / m).toNat).map tRd,rfl,by simp;rw[sizeLine_eq];omega,by cbv,(),by cbv,⟨rfl,by simp⟩,λj x' _ L hx' ⟨hLl,hLx⟩=>?_,λ_ L ⟨hLl,hLx⟩=>?_⟩
  ·rw[DZ]at hx'
   cases e:(l.take (16 / m).toNat)[j]? with
   | none=>rw[e]at hx';cases hx'
   | some p=>
    rw[e]at hx';cases hx'
    have hp:=hlP p (EJ (ymG e))
    obtain⟨p0,p1,p2,p3⟩:=hp
    lia
    refine iM (emb:=I.str) (ns:=zs) p0 (by omega) λz hz=>?_
    lia
    exact⟨(z,p.2),(),rfl,by cbv,by simp[hLl],aS hLx ⟨ymG hz,p2⟩⟩
  rw[DX]at hLl
  have hLn:L.length<=16 / m.toNat:=by
   rw[hLl,Ew]
   have:(16 / m).toNat=16 / m.toNat:=by
    obtain⟨n,rfl⟩:∃n:Nat,m=n:=⟨m.toNat,by omega⟩
    rw[Ee];exact congrArg Int.toNat (Int.natCast_ediv 16 n).symm
   omega
  have hL7:L.length<=7:=by rw[hLl,Ew];omega
  lia
  refine cr (λs:(Int×Int)×List Ru=>[some ⟨.io 0,fT s.1⟩,some ⟨.ow,.im (.int w)⟩,some ⟨.ow,.lst (ls.map aA)⟩,some ⟨.ow,.im (.int wh)⟩,some ⟨.ow,.li (zs.map .str)⟩,some ⟨.ow,.li (ds.map fc)⟩,some ⟨.ow,.im (.int x)⟩,some ⟨.ow,.li (s.2.map tRu)⟩,none,none]) (λj s=>s.2.length=L.length+j/\(∀r∈s.2,LeafOk zs w r)/\∀y row,Ru.rd y row∈s.2->(y,row)∈L) ?_
  lia
  refine am (by omega) (by omega) λd f hd0 hd1'=>?_
  ac_nf
  lia
  refine BU (js:=[]) ⟨lv.1,rfl,lv.2⟩ ?_
  lia
  have hk:∀b:Bool,0<=(if b then 1 else 0:Int)/\(if b then 1 else 0:Int)<=1:=λb=>by cases b<;>decide
  have hk':=hk (decide (L.map (λp=>tRu (.rd p.1 p.2))=[]))
  have hk0:L=[]->(if(decide (L.map (λp=>tRu (.rd p.1 p.2))=[]))=true then 1 else 0:Int)=1:=λz=>by rw[z];rfl
  generalize (if(decide (L.map (λp=>tRu (.rd p.1 p.2))=[]))=true then 1 else 0:Int)=kk at *
  refine⟨⟨by omega,by omega⟩,(f,L.map λp=>.rd p.1 p.2),by rw[Eo];cbv,⟨by simp,λr hr=>?_,λy row hr=>?_⟩,λj s hj ⟨hs1,hs2,hs3⟩=>?_,λs ⟨hs1,hs2,hs3⟩=>?_⟩
  ·obtain⟨p,hp,rfl⟩:=D4.mp hr
   exact hLx p hp
  ·obtain⟨p,hp,e⟩:=D4.mp hr
   cases e;exact hp
  ·obtain⟨f,rs⟩:=s
   dsimp only at hs1 hs2 hs3⊢
   lia
   refine am (by omega) (by omega) λe1 f he0 he1=>?_
   ac_nf
   lia
   refine be (ns:=[9,1000000001]) he0 (by simpa using he1) λtop htop _=>?_
   have htop':1<=top/\top<=1000000001:=by simp at htop;omega
   lia
   refine am (by omega) (by omega) λnum f hn0 hn1=>?_
   ac_nf
   lia
   rw[DX]
   refine am (by omega) (by omega) λat0 f ha0 ha1=>?_
   ac_nf
   lia
   refine xS (is:=rs.map tRu) ⟨ha0,by simp;omega,by simp;rw[sizeLine_eq];omega⟩ ?_
   ac_nf
   lia
   refine⟨(f,rs.take at0.toNat++Ru.num num::rs.drop at0.toNat),?_,by simp;omega,λr hr=>?_,λy row hr=>?_⟩
   ·rw[D9,DS,Fu,FN]
    cbv
   ·rcases yaM hr with hr|hr
    ·exact hs2 r (EJ hr)
    ·rcases ycM hr with rfl|hr
     ·exact⟨hn0,by omega⟩
     ·exact hs2 r (Fo hr)
   ·rcases yaM hr with hr|hr
    ·exact hs3 y row (EJ hr)
    ·rcases ycM hr with hr|hr
     ·cases hr
     ·exact hs3 y row (Fo hr)
  ·obtain⟨f,rs⟩:=s
   dsimp only at hs1 hs2 hs3⊢
   lia
   refine iM (emb:=I.str) (ns:=zs) (by omega) (by omega) λz hz=>?_
   lia
   refine rN (rs:=rs) (λh0=>?_) (by omega) (λr hr=>vC (hs2 r hr).leaf) λr f hrl hro=>?_
   ·rw[h0]at hs1
    have hL0:L=[]:=Fq (by simp at hs1;omega)
    have:=hk0 hL0
    simp at hs1
    omega
   rw[j8 λr hr=>(hs2 r hr).leaf]at hrl
   ac_nf
   lia
   refine cG (is:=ds.map fc) (by
    have:ds.length<=zs.length:=by rw[←DX (f:=λp:Str×Ru=>p.1),hd1];simp;omega
    simp;rw[sizeLine_eq];omega) ?_
   ac_nf
   lia
   refine⟨(f,ds++[(z,r)]),?_,?_,aS hd2 ⟨hro,by rw[hrl];omega,by rw[hrl];exact hs2,L,hLn,by rw[hrl];exact hs3⟩⟩
   ·rw[D9]
    cbv
   ·rw[D9,hd1,GK]
    rw[Ee]at hz
    rw[hz];rfl
 ·obtain⟨f,ds⟩:=s
  dsimp only at hd1 hd2⊢
  lia
  rw[Eg (by omega)]at hd1
  have hlen:ds.length=m.toNat:=by rw[←hzl,←hd1,DX]
  refine q w wh ds f ⟨hw1,hw2,hwh'.1,hwh'.2,by omega,by omega,by rw[hd1];exact hzn,by rw[hd1];exact hzo,16 / m.toNat,?_,by rw[hd1];exact hd2⟩
  rw[hlen];exact Nat.div_mul_le_self 16 m.toNat
section
variable  {a b m:ME}{ρ:Rho}{QF:R->Rho->Prop}{QG':Rho->Prop}{Q:T->Prop}
theorem DM (q:QF ⟨.ow,.di []⟩ ρ):WE mDN ρ QF:=by with_unfolding_all exact⟨_,_,rfl,q⟩
theorem A5 (h:WE m ρ λr ρ1=>∃i,rJ r=some i/\QF ⟨.ow,.im i⟩ ρ1):WE (ke m) ρ QF:=by with_unfolding_all
 obtain⟨r,ρ1,e,i,e2,q⟩:=h
 exact⟨_,_,by simp only[ke,e,e2],q⟩
theorem xA {j:Nat}{tv:T}(h:WE a ρ λra ρ1=>WE b ρ1 λrb ρ2=>AtS j ra λp s=>Gu (!b.mu.contains j) (AtM j ρ2 λk t=>W1 (oE s rb.t tv) λs'=>QG' ((ao [j] ρ2).set j (some ⟨k,t.put p s'⟩)))):WG (ka j a b) ⟨.ow,tv⟩ ρ QG':=by
 obtain⟨ra,ρ1,e1,rb,ρ2,e2,p,s,rfl,hm,k,t,e3,ow,s',e4,q⟩:=h
 refine⟨_,?_,q⟩
 simp only[ka,e1,e2,hm,decide_true,FD,if_true,e4,e3,ow]
theorem j4:∀ns:List Int,jc (ns.map .int)=some ns
 | []=>rfl
 | n::ns=>by rw[DS,jc,j4 ns];rfl
theorem xX {ns:List Int}(q:Q (.im (.int ns.sum))):W1 (qP [.li (ns.map .int)]) Q:=by with_unfolding_all
 refine w1 (x:=.im (.int ns.sum)) ?_ q
 show(jc (ns.map .int)).map _=_
 rw[j4];rfl
theorem zz {kvs:List (I×I)}(q:Q (.li (kvs.map (·.1)))):W1 (l4 [.di kvs]) Q:=by with_unfolding_all exact⟨_,rfl,q⟩
theorem oT {ks:List Key}{is:List I}{z:Str}{v:I}(h:iI ks is (.inr z)=some v)(q:Q (.im v)):W1 (lU (.im (.fd ks is)) (.im (.str z))) Q:=by with_unfolding_all
 refine w1 (x:=.im v) ?_ q
 show(iI ks is (.inr z)).map _=_
 rw[h];rfl
theorem sD {i:I}(h0:yQ i=true)(h:gp i=true)(q:Q (.im (.str i.pd.shown))):W1 (kz [.im i]) Q:=by with_unfolding_all
 refine w1 (x:=.im (.str i.pd.shown)) ?_ q
 show(if(yQ i&&gp i)=true then _ else _)=_
 rw[if_pos (by rw[h0,h];rfl)]
theorem zu {kvs:List (I×I)}{z:Str}{v:I}(h:(bP kvs (.str z) v).length<=sizeLine)(q:Q (.di (bP kvs (.str z) v))):W1 (oE (.di kvs) (.im (.str z)) (.im v)) Q:=by
 refine w1 (x:=.di (bP kvs (.str z) v)) ?_ q
 show(if(bP kvs (.str z) v).length<=sizeLine then _ else _)=_
 rw[if_pos h]
end
noncomputable def big:Int:=1000000000
theorem lW {f:Int×Int}{Q:T->T->Prop}(q:∀x f',-1000000000<=x->x<=1000000000->Q (.im (.int x)) (fT f')):W2 (fY [fT f]) Q:=by
 refine runI_ok' [some ⟨.io 0,fT f⟩] rfl rfl rfl ?_
 unfold fN
 lia
 refine am (by omega) (by omega) λd1 f a1 b1=>?_
 ac_nf
 lia
 refine am (by omega) (by omega) λd2 f a2 b2=>?_
 ac_nf
 lia
 refine am (by omega) (by omega) λd3 f a3 b3=>?_
 ac_nf
 lia
 refine be (ns:=[d1-4,d2-1000000000]) (by omega) (by simp;omega) λy hy _=>?_
 have hy':y=d1-4∨y=d2-1000000000:=by simpa using hy
 lia
 exact q y f (by omega) (by omega)
noncomputable def dot (a b:List Int):Int:=((a.zip b).map λp=>p.1*p.2).sum
theorem rj {a b:List Int}(ha:a.length<=1000)(hb:∀x∈a,-1000000000<=x/\x<=1000000000){Q:T->Prop}(q:Q (.im (.int (dot a b)))):W1 (iz [.im (.tup (a.map .int)),.im (.tup (b.map .int))]) Q:=by
 refine runP_ok' [some ⟨.ow,.im (.tup (a.map .int))⟩,some ⟨.ow,.im (.tup (b.map .int))⟩] rfl rfl rfl ?_
 unfold fW
 lia
 refine uP (λ_:Unit=>[some ⟨.ow,.im (.tup (a.map .int))⟩,some ⟨.ow,.im (.tup (b.map .int))⟩]) I.int (λj _ l=>l=((a.zip b).take j).map λp=>p.1*p.2) ?_
 lia
 refine⟨_,_,false,false,a.map .int,b.map .int,rfl,rfl,rfl,by simp;rw[sizeLine_eq];omega,by cbv,(),by cbv,rfl,λj x y _ l hx hy hP=>?_,λ_ l hP=>?_⟩
 ·obtain⟨x',hx',rfl⟩:=aQ hx
  obtain⟨y',hy',rfl⟩:=aQ hy
  lia
  have h1:=hb x' (ymG hx')
  refine mq (vJ (by omega) (by omega)) ?_
  refine⟨x'*y',(),rfl,by cbv,?_⟩
  rw[hP,FK,show(a.zip b)[j]?=some (x',y')from by rw[Fk];exact⟨hx',hy'⟩]
  simp
 ·rw[DX,DX,←FU,FA]at hP
  subst hP
  lia
  refine xX ?_
  lia
  exact q
def Bnd (x:Int):Prop:=-1000000000<=x/\x<=1000000000
theorem o9:∀(a b:List Int),a.length=b.length->((Es a.length).map λk=>a.getD k 0*b.getD k 0).sum=dot a b
 | [],_,_=>rfl
 | x::a,[],h=>by cases h
 | x::a,y::b,h=>by
  have ih:=o9 a b (by simpa using h)
  rw[D5,Gr,DS,Eo,Ge]
  unfold dot at ih⊢
  rw[GX,DS,Ge,←ih]
  rfl
theorem BS {kvs:List (I×I)}{z:Str}{v:I}(h:iG kvs (.str z)=some v){Q:T->Prop}(q:Q (.im v)):W1 (dgT (.di kvs) (.im (.str z))) Q:=by with_unfolding_all
 refine w1 (x:=.im v) ?_ q
 show dg1 kvs (.str z)=_
 unfold dg1 le
 dsimp only
 rw[h];rfl
theorem pH {α:Type}{xs:List α}{v:Int}(h:0<=v)(h2:v.toNat<=xs.length):cu xs (some v) none=xs.drop v.toNat:=by
 obtain⟨n,rfl⟩:∃n:Nat,v=(n:Int):=⟨v.toNat,by omega⟩
 unfold cu
 rw[HT.sIx_none,HT.sIx_nat,Ee,FX (by simpa using h2),Eg (by rw[EM];omega)]
def Sh (i:I)(n k:Nat):Prop:=i.nls=true/\i.pd.showable=true/\i.pd.leavesShort 13=true/\i.pd.weight<=n/\i.pd.depth<=k
theorem Sh.mono {i:I}{n k n' k':Nat}(h:Sh i n k)(h1:n<=n')(h2:k<=k'):Sh i n' k':=⟨h.1,h.2.1,h.2.2.1,Ev h.2.2.2.1 h1,Ev h.2.2.2.2 h2⟩
theorem uA {x:Int}(h:Bnd x):Sh (.int x) 31 0:=by
 have hx:x.natAbs<2^30:=by unfold Bnd at h;omega
 have hl:x.natAbs.log2<31:=by
  by_cases e:x.natAbs=0
  ·rw[e];decide
  ·have:=(HE e).mpr hx
   omega
 refine⟨rfl,?_,?_,?_,DY _⟩
 ·show decide (x.natAbs.log2<1920)=true
  rw[decide_eq_true_eq];omega
 ·show decide ((PyData.shown (.int x)).length<=13)=true
  rw[decide_eq_true_eq]
  exact PyData.shown_int_le (by omega)
 ·show(if(x==0)=true then 0 else x.natAbs.log2+1)<=31
  split<;>omega
theorem uz {n k:Nat}:∀{is:List I},(∀i∈is,Sh i n k)->I.nlss is=true/\PyData.showableAll (I.pds is)=true/\PyData.leavesShortAll 13 (I.pds is)=true/\PyData.weightAll (I.pds is)<=is.length*(n+1)/\PyData.depthAll (I.pds is)<=k
 | [],_=>⟨rfl,rfl,rfl,by simp[I.pds,PyData.weightAll],by simp[I.pds,PyData.depthAll]⟩
 | i::is,h=>by
  obtain⟨a1,a2,a3,a4,a5⟩:=h i ymS
  obtain⟨b1,b2,b3,b4,b5⟩:=uz λx hx=>h x (ymC _ hx)
  refine⟨by rw[I.nlss,a1,b1];rfl,by rw[I.pds,PyData.showableAll,a2,b2];rfl,by rw[I.pds,PyData.leavesShortAll,a3,b3];rfl,?_,?_⟩
  ·rw[I.pds,PyData.weightAll,D5,G4];omega
  ·rw[I.pds,PyData.depthAll];omega
theorem uC {n k L:Nat}{is:List I}(h:∀i∈is,Sh i n k)(hl:is.length<=L):Sh (.tup is) (L*(n+1)) (k+1):=by
 obtain⟨b1,b2,b3,b4,b5⟩:=uz h
 refine⟨b1,by rw[I.pd,PyData.showable];exact b2,by rw[I.pd,PyData.leavesShort];exact b3,?_,?_⟩
 ·rw[I.pd,PyData.weight]
  exact Ev b4 (Nat.mul_le_mul_right _ hl)
 ·rw[I.pd,PyData.depth];omega
theorem xl {l:List Int}(h:∀x∈l,Bnd x)(hl:l.length<=3):Sh (.tup (l.map .int)) 96 1:=
 uC (n:=31) (k:=0) (L:=3) (λi hi=>by obtain⟨x,hx,rfl⟩:=D4.mp hi;exact uA (h x hx)) (by rw[DX];exact hl)
theorem xm {z:Str}(h:eC z):PyData.leavesShort 13 (.str z)=true/\PyData.weight (.str z)<=8:=by
 obtain⟨h1,h2,_,h4⟩:=h
 refine⟨?_,h2⟩
 rw[PyData.leavesShort,EH]
 intro c hc
 have hm:c∈sL LET:=h4 c hc
 have:∀c∈sL LET,c<1000:=by decide +kernel
 have:=this c hm
 rw[decide_eq_true_eq]
 exact Ec this (by decide)
noncomputable def Ru.kids:Ru->List Ru
 | .op _ a b=>[a,b]
 | .cond a b c=>[a,b,c]
 | _=>[]
noncomputable def Ru.pre:Ru->List Ru
 | .num n=>[.num n]
 | .rd x row=>[.rd x row]
 | .op s a b=>.op s a b::(a.pre++b.pre)
 | .cond a b c=>.cond a b c::(a.pre++(b.pre++c.pre))
theorem nJ (r:Ru):r.pre=r::r.kids.flatMap Ru.pre:=by cases r<;>simp[Ru.pre,Ru.kids]
theorem wl (r:Ru):1<=r.pre.length:=by rw[nJ];simp
theorem gq:∀r:Ru,r.pre.length<2*r.leaves.length
 | .num _=>by simp[Ru.pre,Ru.leaves]
 | .rd _ _=>by simp[Ru.pre,Ru.leaves]
 | .op _ a b=>by have:=gq a;have:=gq b;simp only[Ru.pre,Ru.leaves,D5,D8];omega
 | .cond a b c=>by have:=gq a;have:=gq b;have:=gq c;simp only[Ru.pre,Ru.leaves,D5,D8];omega
theorem rY (r:Ru):r.kids.length<=3:=by cases r<;>simp[Ru.kids]
theorem rR {r:Ru}{Q:T->Prop}(q:Q (.im (.tup (r.kids.map tRu)))):W1 (cI [.im (tRu r)]) Q:=by
 refine runP_ok' [some ⟨.ow,.im (tRu r)⟩] rfl rfl rfl ?_
 unfold bL
 cases r with
 | num k=>
  rw[tRu]
  lia
  (refine bo ?_;lia;clear_value h)
  ·exact absurd h (by decide +kernel)
  lia
  (refine bo ?_;lia;clear_value h')
  ·exact absurd h' (by decide +kernel)
  lia
  exact q
 | rd x row=>
  rw[tRu]
  lia
  (refine bo ?_;lia;clear_value h)
  ·exact absurd h (by decide +kernel)
  lia
  (refine bo ?_;lia;clear_value h')
  ·exact absurd h' (by decide +kernel)
  lia
  exact q
 | op s a b=>
  rw[tRu]
  lia
  (refine bo ?_;lia;clear_value h)
  ·lia
   refine oU (is:=[.str "op",.str s,tRu a,tRu b]) (show ¬((2:Nat)=0/\4=4) by decide) ?_
   lia
   exact q
  ·exact absurd rfl h
 | cond a b c=>
  rw[tRu]
  lia
  (refine bo ?_;lia;clear_value h)
  ·exact absurd h (by decide +kernel)
  lia
  (refine bo ?_;lia;clear_value h')
  ·lia
   refine oU (is:=[.str "if",tRu a,tRu b,tRu c]) (show ¬((1:Nat)=0/\4=4) by decide) ?_
   lia
   exact q
  ·exact absurd rfl h'
theorem zG {is:List I}{Q:Bool->Prop}(q:Q (!is.isEmpty)):W1 (tru (.li is)) Q:=w1 rfl q
theorem sH {r:Ru}(hl:r.leaves.length<=1000){Q:T->Prop}(q:Q (.li (r.pre.map tRu))):W1 (eP [.im (tRu r)]) Q:=by
 have hpre:=gq r
 refine runP_ok' [some ⟨.ow,.im (tRu r)⟩,none,none,none] rfl rfl rfl ?_
 unfold cV
 lia
 refine mV (λs:List Ru×List Ru=>[some ⟨.ow,.im (tRu r)⟩,some ⟨.ow,.li (s.1.map tRu)⟩,some ⟨.ow,.li (s.2.map tRu)⟩,none]) (λs=>s.1++s.2.reverse.flatMap Ru.pre=r.pre) (λs=>(s.2.flatMap Ru.pre).length) ([],[r]) (by cbv) (by simp) λs hs=>?_
 obtain⟨ps,st⟩:=s
 dsimp only at hs⊢
 lia
 refine zG ?_
 refine bsp (λhne=>?_) (λhe=>?_)
 ·obtain⟨st',p,rfl⟩:∃st' p,st=st'++[p]:=by
   rcases List.eq_nil_or_concat st with z|⟨a,b,z⟩
   ·rw[z]at hne;cases hne
   ·exact⟨a,b,by simpa using z⟩
  rw[D9]at *
  lia
  refine B2 ?_
  ac_nf
  lia
  have hlen:=congrArg E9 hs
  simp only[GP,Fw,List.reverse_nil,EK,D6,D3,FM,El,D8,Ej]at hlen hs
  have hk:(st'.reverse.flatMap Ru.pre).length=(st'.flatMap Ru.pre).length:=by simp[GQ,Go,He]
  have hst:st'.length<=(st'.flatMap Ru.pre).length:=by
   clear hs hne hlen hk
   induction st' with
   | nil=>simp
   | cons a l ih=>rw[D3,D5,D8];have:=wl a;omega
  refine cG (is:=ps.map tRu) (by simp;rw[sizeLine_eq];omega) ?_
  ac_nf
  lia
  refine rR ?_
  lia
  have hkid:=rY p
  refine zv (is:=st'.map tRu) (js:=(p.kids.map tRu).reverse) (by simp;rw[sizeLine_eq];omega) ?_
  ac_nf
  lia
  refine⟨(ps++[p],st'++p.kids.reverse),?_,?_,?_⟩
  ·rw[D9,D9,Go]
   cbv
  ·rw[D6,D6,D8,D8,D3,FM,El,nJ p,D5]
   have:(p.kids.reverse.flatMap Ru.pre).length=(p.kids.flatMap Ru.pre).length:=by simp[GQ,Go,He]
   omega
  ·rw[←hs,GP,List.reverse_reverse,D6,nJ p]
   simp
 ·have:st=[]:=by cases st<;>first|rfl|cases he
  subst this
  lia
  simp at hs
  subst hs
  exact q
noncomputable def tR2 (p:Str×List Int):I:=.tup [.str p.1,.tup (p.2.map .int)]
noncomputable def aN (z:Str) (p:Str×List Int):I:=.tup [.str z,.str p.1,.tup (p.2.map .int)]
theorem df {z:Str}:∀{L:List (Str×List Int)},I.doks (L.map (aN z))=true/\I.deps (L.map (aN z))<=50
 | []=>⟨rfl,Ff _⟩
 | p::l=>by
  have ih:=df (z:=z) (L:=l)
  have hi:∀row:List Int,I.doks (row.map I.int)=true/\I.deps (row.map I.int)=0:=λrow=>by
   induction row with
   | nil=>exact⟨rfl,rfl⟩
   | cons x row ih=>exact⟨by rw[DS,I.doks,ih.1];rfl,by rw[DS,I.deps,ih.2];rfl⟩
  refine⟨?_,?_⟩
  ·rw[DS,I.doks,ih.1]
   simp only[aN,I.dok,I.doks,(hi p.2).1]
   rfl
  ·rw[DS,I.deps]
   have h1:I.dep (aN z p)<=50:=by simp only[aN,I.dep,I.deps,(hi p.2).2];decide
   have:=ih.2
   omega
theorem mP {z:Str}{p:Str×List Int}:(aN z p).dok=true:=by
 have:=(df (z:=z) (L:=[p])).1
 rw[DS,E7,I.doks,DU]at this
 exact this.1
noncomputable def tW:Ru->Option (Str×List Int)
 | .rd x row=>some (x,row)
 | _=>none
noncomputable def rds (r:Ru):List (Str×List Int):=r.leaves.filterMap tW
theorem fZ:∀r:Ru,r.pre.filterMap tW=rds r
 | .num _=>rfl
 | .rd _ _=>rfl
 | .op s a b=>by
  have h1:=fZ a
  have h2:=fZ b
  unfold rds at h1 h2⊢
  rw[Ru.pre,Ru.leaves,Gf rfl,Ek,Ek,h1,h2]
 | .cond a b c=>by
  have h1:=fZ a
  have h2:=fZ b
  have h3:=fZ c
  unfold rds at h1 h2 h3⊢
  rw[Ru.pre,Ru.leaves,Gf rfl,Ek,Ek,Ek,Ek,h1,h2,h3]
theorem db (r:Ru):(rds r).length<=r.leaves.length:=List.length_filterMap_le _ _
noncomputable def gE (acc:List (Str×List Int)) (p:Str×List Int):List (Str×List Int):=if p∈acc then acc else acc++[p]
noncomputable def ded (L:List (Str×List Int)):List (Str×List Int):=L.foldl gE []
theorem lO (L:List (Str×List Int))(p:Str×List Int):ded (L++[p])=gE (ded L) p:=by unfold ded;rw[List.foldl_append];rfl
theorem oy:∀(L acc:List (Str×List Int)),(L.foldl gE acc).length<=acc.length+L.length
 | [],acc=>by simp
 | p::L,acc=>by
  have h:=oy L (gE acc p)
  have h2:(gE acc p).length<=acc.length+1:=by unfold gE;split<;>simp
  simp only[FR,D5]at h⊢
  omega
theorem kU (L:List (Str×List Int)):(ded L).length<=L.length:=by have:=oy L [];unfold ded;simpa using this
theorem cz {α:Type}{L:List α}{j:Nat}{x : α}(e:L[j]?=some x):L.take (j+1)=L.take j++[x]:=by rw[GK,e];rfl
theorem qk {r:Ru}(hl:r.leaves.length<=1000){Q:T->Prop}(q:Q (.im (.tup ((rds r).map tR2)))):W1 (iA [.im (tRu r)]) Q:=by
 have hpre:=gq r
 refine runP_ok' [some ⟨.ow,.im (tRu r)⟩] rfl rfl rfl ?_
 unfold fX
 lia
 refine uN (λ_:Unit=>[some ⟨.ow,.im (tRu r)⟩]) tR2 (λj _ L=>L=(r.pre.take j).filterMap tW) ?_
 lia
 refine sH hl ?_
 refine⟨r.pre.map tRu,rfl,by simp;rw[sizeLine_eq];omega,by cbv,(),by cbv,rfl,λj x' _ L hx' hL=>?_,λ_ L hL=>?_⟩
 ·rw[DZ]at hx'
  cases e:r.pre[j]? with
  | none=>rw[e]at hx';cases hx'
  | some y=>
   rw[e]at hx';cases hx'
   have ht:(r.pre.take (j+1)).filterMap tW=L++(tW y).toList:=by
    rw[cz e,Ek,←hL]
    cases y<;>rfl
   cases y with
   | num k=>
    rw[tRu]
    lia
    clear_value h
    ·exact absurd h (by decide +kernel)
    ·exact⟨(),by cbv,by rw[ht];exact(El _).symm⟩
   | rd x row=>
    rw[tRu]
    lia
    clear_value h
    ·lia
     exact⟨(x,row),(),rfl,by cbv,by rw[ht];rfl⟩
    ·exact absurd rfl h
   | op s a b=>
    rw[tRu]
    lia
    clear_value h
    ·exact absurd h (by decide +kernel)
    ·exact⟨(),by cbv,by rw[ht];exact(El _).symm⟩
   | cond a b c=>
    rw[tRu]
    lia
    clear_value h
    ·exact absurd h (by decide +kernel)
    ·exact⟨(),by cbv,by rw[ht];exact(El _).symm⟩
 ·rw[DX,Eg (DY _),fZ]at hL
  subst hL
  lia
  exact q
theorem pJ {z:Str}{r:Ru}(hl:r.leaves.length<=1000){Q:T->Prop}(q:Q (.li ((ded (rds r)).map (aN z)))):W1 (du [.im (.str z),.im (tRu r)]) Q:=by
 have hrl:=db r
 refine runP_ok' [some ⟨.ow,.im (.str z)⟩,some ⟨.ow,.im (tRu r)⟩,none,none,none,none] rfl rfl rfl ?_
 unfold bZ
 lia
 refine dF (λL:List (Str×List Int)=>[some ⟨.ow,.im (.str z)⟩,some ⟨.ow,.im (tRu r)⟩,some ⟨.ow,.li (L.map (aN z))⟩,none,none,none]) (λj L=>L=ded ((rds r).take j)) ?_
 lia
 refine qk hl ?_
 refine⟨(rds r).map tR2,rfl,by cbv,[],by cbv,rfl,λj x' L hx' hL=>?_,λL hL=>?_⟩
 ·rw[DZ]at hx'
  cases e:(rds r)[j]? with
  | none=>rw[e]at hx';cases hx'
  | some p=>
   rw[e]at hx';cases hx'
   have hj:=(DR.mp e).1
   have hLl:L.length<=1000:=by rw[hL];have:=kU ((rds r).take j);rw[Ew]at this;omega
   have hs:ded ((rds r).take (j+1))=gE L p:=by rw[cz e,lO,hL]
   lia
   refine bo ?_
   lia
   refine sC (i:=aN z p) (is:=L.map (aN z)) ⟨mP,df.1,df.2⟩ ?_
   lia
   clear_value h
   ·lia
    refine cG (is:=L.map (aN z)) (i:=aN z p) (by simp;rw[sizeLine_eq];omega) ?_
    ac_nf
    lia
    have hp:p∉L:=λm=>h (D4.mpr ⟨_,m,rfl⟩)
    refine⟨L++[p],?_,?_⟩
    ·rw[D9]
     cbv
    ·rw[hs,gE,if_neg hp]
   ·lia
    have hp:p∈L:=by
     obtain⟨p',m,e'⟩:=D4.mp h
     have:p'=p:=by
      unfold aN at e'
      simp only[I.tup.injEq,ES.injEq,I.str.injEq,and_true,true_and]at e'
      obtain⟨e1,e2⟩:=e'
      exact HC e1 (GY (λa b h=>by cases h;rfl) |>.mp e2)
     exact this▸m
    exact⟨L,by cbv,by rw[hs,gE,if_pos hp]⟩
 ·rw[DX,Eg (DY _)]at hL
  subst hL
  lia
  exact q
noncomputable def aZ (ds:List (Str×Ru)):List I:=ds.flatMap λd=>(ded (rds d.2)).map (aN d.1)
theorem nP {w wh:Int}{ds:List (Str×Ru)}(hd:ds.length<=6)(h:∀p∈ds,p.2.leaves.length<=40){Q:T->Prop}(q:Q (.im (.tup (aZ ds)))):W1 (eQ [.im (bg w wh ds)]) Q:=by
 refine runP_ok' [some ⟨.ow,.im (bg w wh ds)⟩] rfl rfl rfl ?_
 unfold cW
 lia
 refine xv (oa ?_)
 rw[bg]
 lia
 refine w1 (x:=(ds.map fc).map λi=>⟨.ow,.im i⟩) rfl (gu (by cbv) ⟨λj acc ρ=>ρ=[some ⟨.ow,.im (bg w wh ds)⟩]/\acc=(aZ (ds.take j)).map T.im/\(aZ (ds.take j)).length<=40*j,⟨rfl,rfl,Ff _⟩,?_,?_⟩)
 ·rintro j r acc ρ hr ⟨rfl,rfl,hil⟩
  obtain⟨x,hx,rfl⟩:=aQ hr
  obtain⟨p,hp,rfl⟩:=aQ hx
  have hj:=(DR.mp hp).1
  have hpl:=h p (ymG hp)
  have hL:(ded (rds p.2)).length<=40:=by have:=kU (rds p.2);have:=db p.2;omega
  have ht:aZ (ds.take (j+1))=aZ (ds.take j)++(ded (rds p.2)).map (aN p.1):=by unfold aZ;rw[cz hp,D6];simp
  lia
  refine oa ?_
  lia
  refine pJ (by omega) ?_
  refine w1 (x:=((ded (rds p.2)).map (aN p.1)).map λi=>⟨.ow,.im i⟩) rfl (gu (by cbv) ⟨by simp;rw[sizeLine_eq];omega,?_⟩)
  refine pG _ (λx=>?_) _ ⟨by cbv,by rw[ht,D9],by rw[ht];simp;omega⟩
  lia
  exact⟨rfl,by cbv⟩
 ·rintro acc ρ ⟨rfl,rfl,hil⟩
  simp only[DX,FA]at hil⊢
  refine⟨by rw[sizeLine_eq];omega,?_⟩
  rw[me]
  lia
  exact q
theorem AE {s:Str}{a b:Ru}:rds (.op s a b)=rds a++rds b:=by simp[rds,Ru.leaves,Ek]
theorem tX {a b c:Ru}:rds (.cond a b c)=rds a++(rds b++rds c):=by simp[rds,Ru.leaves,Ek]
theorem ie:∀(n:Nat) (r:Ru),r.depth<n->r.leaves.length<=1000->∀{Q:T->Prop},Q (.li ((rds r).map tR2))->W1 (cf n [.im (tRu r)]) Q
 | 0,r,hd,_,Q,q=>absurd hd (Hg _)
 | n+1,r,hd,hl,Q,q=>by
  refine runP_ok' [some ⟨.ow,.im (tRu r)⟩,none,none] rfl rfl rfl ?_
  unfold cT
  cases r with
  | num k=>
   rw[tRu]
   lia
   (refine bo ?_;lia;clear_value h)
   ·lia
    exact q
   ·exact absurd rfl h
  | rd x row=>
   rw[tRu]
   lia
   (refine bo ?_;lia;clear_value h)
   ·exact absurd h (by decide +kernel)
   lia
   (refine bo ?_;lia;clear_value h')
   ·lia
    exact q
   ·exact absurd rfl h'
  | op s a b=>
   have ha:a.depth<n/\b.depth<n:=by simp only[Ru.depth]at hd;omega
   have hal:a.leaves.length+b.leaves.length<=1000:=by simpa[Ru.leaves]using hl
   have ra:=db a
   have rb:=db b
   rw[tRu]
   lia
   (refine bo ?_;lia;clear_value h)
   ·exact absurd h (by decide +kernel)
   lia
   (refine bo ?_;lia;clear_value h')
   ·exact absurd h' (by decide +kernel)
   lia
   refine dF (λL:List (Str×List Int)=>[some ⟨.ow,.im (.tup [.str "op",.str s,tRu a,tRu b])⟩,some ⟨.ow,.li (L.map tR2)⟩,none]) (λj L=>L=([a,b].take j).flatMap rds) ?_
   lia
   simp only[decide_true,if_true,Int.reduceAdd]
   refine oU (is:=[.str "op",.str s,tRu a,tRu b]) (show ¬((2:Nat)=0/\4=4) by decide) ?_
   refine⟨[a,b].map tRu,rfl,by cbv,[],by cbv,rfl,λj x' L hx' hL=>?_,λL hL=>?_⟩
   ·rw[DZ]at hx'
    cases e:([a,b]:List Ru)[j]? with
    | none=>rw[e]at hx';cases hx'
    | some y=>
     rw[e]at hx';cases hx'
     have hy:y=a∨y=b:=by have:=ymG e;simpa using this
     have hyl:(rds y).length<=1000:=by rcases hy with rfl|rfl<;>omega
     have hLl:L.length<=1000:=by
      rw[hL]
      match j with
      | 0=>simp
      | 1=>simp;omega
      | _+2=>simp;omega
     lia
     refine ie n y (by rcases hy with rfl|rfl<;>omega) (by rcases hy with rfl|rfl<;>omega) ?_
     lia
     refine sr (is:=L.map tR2) (js:=(rds y).map tR2) (by simp;rw[sizeLine_eq];omega) ?_
     ac_nf
     lia
     refine⟨L++rds y,?_,by rw[hL,cz e,D6];simp⟩
     rw[D9]
     try cbv
   ·rw[DX,Eg (DY _)]at hL
    subst hL
    lia
    rw[AE]at q
    simpa using q
  | cond a b c=>
   have ha:a.depth<n/\b.depth<n/\c.depth<n:=by simp only[Ru.depth]at hd;omega
   have hal:a.leaves.length+(b.leaves.length+c.leaves.length)<=1000:=by simpa[Ru.leaves]using hl
   have ra:=db a
   have rb:=db b
   have rc:=db c
   rw[tRu]
   lia
   (refine bo ?_;lia;clear_value h)
   ·exact absurd h (by decide +kernel)
   lia
   (refine bo ?_;lia;clear_value h')
   ·exact absurd h' (by decide +kernel)
   lia
   refine dF (λL:List (Str×List Int)=>[some ⟨.ow,.im (.tup [.str "if",tRu a,tRu b,tRu c])⟩,some ⟨.ow,.li (L.map tR2)⟩,none]) (λj L=>L=([a,b,c].take j).flatMap rds) ?_
   lia
   rw[show(1+if decide (("if" : Str) = "op")=true then 1 else 0:Int)=1 by decide +kernel]
   refine oU (is:=[.str "if",tRu a,tRu b,tRu c]) (show ¬((1:Nat)=0/\4=4) by decide) ?_
   refine⟨[a,b,c].map tRu,rfl,by cbv,[],by cbv,rfl,λj x' L hx' hL=>?_,λL hL=>?_⟩
   ·rw[DZ]at hx'
    cases e:([a,b,c]:List Ru)[j]? with
    | none=>rw[e]at hx';cases hx'
    | some y=>
     rw[e]at hx';cases hx'
     have hy:y=a∨y=b∨y=c:=by have:=ymG e;simpa using this
     have hyl:(rds y).length<=1000:=by rcases hy with rfl|rfl|rfl<;>omega
     have hLl:L.length<=1000:=by
      rw[hL]
      match j with
      | 0=>simp
      | 1=>simp;omega
      | 2=>simp;omega
      | _+3=>simp;omega
     lia
     refine ie n y (by rcases hy with rfl|rfl|rfl<;>omega) (by rcases hy with rfl|rfl|rfl<;>omega) ?_
     lia
     refine sr (is:=L.map tR2) (js:=(rds y).map tR2) (by simp;rw[sizeLine_eq];omega) ?_
     ac_nf
     lia
     refine⟨L++rds y,?_,by rw[hL,cz e,D6];simp⟩
     rw[D9]
     try cbv
   ·rw[DX,Eg (DY _)]at hL
    subst hL
    lia
    rw[tX]at q
    simpa using q
theorem qQ {z:Str}{p p':Str×List Int}(e':aN z p'=aN z p):p'=p:=by
 unfold aN at e'
 simp only[I.tup.injEq,ES.injEq,I.str.injEq,and_true,true_and]at e'
 obtain⟨e1,e2⟩:=e'
 exact HC e1 (GY (λa b h=>by cases h;rfl) |>.mp e2)
theorem nT {z z':Str}{p p':Str×List Int}(e:aN z p=aN z' p'):z=z':=by
 unfold aN at e
 simp only[I.tup.injEq,ES.injEq,I.str.injEq]at e
 exact e.1
theorem oB {a b:List I}(ha:I.doks a=true/\I.deps a<=50)(hb:I.doks b=true/\I.deps b<=50):I.doks (a++b)=true/\I.deps (a++b)<=50:=by
 induction a with
 | nil=>exact hb
 | cons x a ih=>
  rw[I.doks,DU,I.deps]at ha
  have:=ih ⟨ha.1.2,by omega⟩
  rw[Ej,I.doks,I.deps,ha.1.1,this.1]
  exact⟨rfl,by omega⟩
theorem i9:∀{ds:List (Str×Ru)},I.doks (aZ ds)=true/\I.deps (aZ ds)<=50
 | []=>⟨rfl,by decide⟩
 | d::ds=>by
  have ih:=i9 (ds:=ds)
  unfold aZ at ih⊢
  rw[D3]
  exact oB df ih
theorem jl {ds:List (Str×Ru)}{i:I}(h:i∈aZ ds):∃d∈ds,∃p∈ded (rds d.2),i=aN d.1 p:=by
 unfold aZ at h
 obtain⟨d,hd,h⟩:=EN.mp h
 obtain⟨p,hp,rfl⟩:=D4.mp h
 exact⟨d,hd,p,hp,rfl⟩
theorem gj:∀{ds:List (Str×Ru)},(∀p∈ds,p.2.leaves.length<=22)->(aZ ds).length<=22*ds.length
 | [],_=>by simp[aZ]
 | d::ds,h=>by
  have ih:=gj (ds:=ds) λp hp=>h p (ymC _ hp)
  have h1:=h d ymS
  have h2:=kU (rds d.2)
  have h3:=db d.2
  unfold aZ at ih⊢
  rw[D3,D8,DX,D5]
  omega
theorem pY {w wh:Int}{ds:List (Str×Ru)}(hd:ds.length<=6)(hn:(ds.map (·.1)).Nodup)(h:∀p∈ds,p.2.leaves.length<=22){Q:T->Prop}(q:Q (.li (aZ ds))):W1 (iw [.im (bg w wh ds)]) Q:=by
 refine runP_ok' [some ⟨.ow,.im (bg w wh ds)⟩,none,none,none,none,none] rfl rfl rfl ?_
 unfold fU
 lia
 refine dF (λL:List I=>[some ⟨.ow,.im (bg w wh ds)⟩,some ⟨.ow,.li L⟩,none,none,none,none]) (λj L=>L=aZ (ds.take j)) ?_
 rw[bg]
 lia
 refine⟨ds.map fc,rfl,by cbv,[],by cbv,rfl,λj x' L hx' hL=>?_,λL hL=>?_⟩
 ·rw[DZ]at hx'
  cases e:ds[j]? with
  | none=>rw[e]at hx';cases hx'
  | some p=>
   rw[e]at hx';cases hx'
   have hp:=h p (ymG e)
   have hj:=(DR.mp e).1
   have hdp:=Ru.depth_lt p.2
   have hrl:=db p.2
   have hLl:L.length<=22*6:=by
    rw[hL]
    have:=gj (ds:=ds.take j) λp hp=>h p (EJ hp)
    rw[Ew]at this
    omega
   have hLd:I.doks L=true/\I.deps L<=50:=by rw[hL];exact i9
   have hLz:∀pr,aN p.1 pr∉L:=by
    intro pr hm
    rw[hL]at hm
    obtain⟨d,hdm,pr',_,e2⟩:=jl hm
    obtain⟨k,hk⟩:=Fj.mp hdm
    have hkj:k<j:=by have:=(DR.mp hk).1;simp at this;omega
    rw[FC hkj]at hk
    have h2:(ds.map (·.1))[j]?=some p.1:=by rw[DZ,e];rfl
    have h1:(ds.map (·.1))[k]?=some d.1:=by rw[DZ,hk];rfl
    have h3:=DR.mp h1
    have h4:=DR.mp h2
    exact(List.pairwise_iff_getElem.mp hn k j h3.1 h4.1 hkj) (h3.2.trans ((nT e2).symm.trans h4.2.symm))
   rw[fc]
   lia
   refine dF (λL2:List (Str×List Int)=>[some ⟨.ow,.im (bg w wh ds)⟩,some ⟨.ow,.li (L++L2.map (aN p.1))⟩,some ⟨.ow,.im (.str p.1)⟩,some ⟨.ow,.im (tRu p.2)⟩,none,none]) (λi L2=>L2=ded ((rds p.2).take i)) ?_
   lia
   refine ie 24 p.2 (by omega) (by omega) ?_
   refine⟨(rds p.2).map tR2,rfl,by cbv,[],by simp only[E7,El];cbv,rfl,λi y' L2 hy' hL2=>?_,λL2 hL2=>?_⟩
   ·rw[DZ]at hy'
    cases e2:(rds p.2)[i]? with
    | none=>rw[e2]at hy';cases hy'
    | some pr=>
     rw[e2]at hy';cases hy'
     have hs:ded ((rds p.2).take (i+1))=gE L2 pr:=by rw[cz e2,lO,hL2]
     have hL2l:L2.length<=1000:=by rw[hL2];have:=kU ((rds p.2).take i);rw[Ew]at this;omega
     have hdk:I.doks (L++L2.map (aN p.1))=true/\I.deps (L++L2.map (aN p.1))<=50:=oB hLd df
     rw[tR2]
     lia
     refine bo ?_
     lia
     refine sC (i:=aN p.1 pr) (is:=L++L2.map (aN p.1)) ⟨mP,hdk.1,hdk.2⟩ ?_
     lia
     clear_value c
     ·lia
      refine cG (is:=L++L2.map (aN p.1)) (i:=aN p.1 pr) (by simp;rw[sizeLine_eq];omega) ?_
      ac_nf
      lia
      have hp':pr∉L2:=λm=>c (yaR _ (D4.mpr ⟨_,m,rfl⟩))
      refine⟨L2++[pr],?_,by rw[hs,gE,if_neg hp']⟩
      rw[D9,←Ea]
      cbv
     ·lia
      have hp':pr∈L2:=by
       rcases yaM c with m|m
       ·exact absurd m (hLz pr)
       ·obtain⟨p',m,e'⟩:=D4.mp m
        exact qQ e'▸m
      exact⟨L2,by cbv,by rw[hs,gE,if_pos hp']⟩
   ·rw[DX,Eg (DY _)]at hL2
    subst hL2
    lia
    refine⟨L++(ded (rds p.2)).map (aN p.1),by cbv,?_⟩
    rw[hL,cz e]
    unfold aZ
    rw[D6]
    simp
 ·rw[DX,Eg (DY _)]at hL
  subst hL
  lia
  exact q
abbrev Hrs:=List (Str×Int)
noncomputable def iS (c:Hrs):I:=.fd (c.map λp=>.inr p.1) (c.map λp=>.int p.2)
noncomputable def dP (c:Hrs):List (I×I):=c.map λp=>(.str p.1,.int p.2)
noncomputable def xt (p:Str×Int):I:=.tup [.str p.1,.int p.2]
theorem dX {z:Str}{v:Int}:∀{c:Hrs},(c.map (·.1)).Nodup->(z,v)∈c->iI (c.map λp=>.inr p.1) (c.map λp=>.int p.2) (.inr z)=some (.int v)
 | d::ds,hn,hm=>by
  rw[DS,Ep]at hn
  rw[DS,DS,iI]
  rcases ycM hm with rfl|hm
  ·rw[if_pos rfl]
  ·have:d.1≠z:=λe=>hn.1 (e▸D4.mpr ⟨_,hm,rfl⟩)
   rw[if_neg (λe=>this (Sum.inr.inj e))]
   exact dX hn.2 hm
theorem j1 {z:Str}{v:Int}:∀{c:Hrs},(c.map (·.1)).Nodup->(z,v)∈c->iG (dP c) (.str z)=some (.int v)
 | d::ds,hn,hm=>by
  rw[DS,Ep]at hn
  show iG ((.str d.1,.int d.2)::dP ds) _=_
  rw[iG]
  rcases ycM hm with rfl|hm
  ·rw[if_pos rfl]
  ·have:d.1≠z:=λe=>hn.1 (e▸D4.mpr ⟨_,hm,rfl⟩)
   rw[if_neg (λe=>this (I.str.inj e))]
   exact j1 hn.2 hm
theorem mD:∀c:Hrs,qw (c.map xt)=some (c.map λd=>(Sum.inr d.1,.int d.2))
 | []=>rfl
 | d::ds=>by rw[DS,qw,mD ds];rfl
theorem vS {c:Hrs}(hn:(c.map (·.1)).Nodup){Q:T->Prop}(q:Q (.di (dP c))):W1 (lP [.li (c.map xt)]) Q:=by with_unfolding_all
 refine w1 (x:=.di (dP c)) ?_ q
 show rB (c.map xt)=_
 unfold rB
 rw[mD]
 dsimp only
 rw[if_pos ?_,Eo]
 ·rfl
 ·rw[Eo]
  have:(c.map λd=>(Sum.inr d.1:Key))=(c.map (·.1)).map Sum.inr:=by rw[Eo];rfl
  show(c.map λd=>(Sum.inr d.1:Key)).Nodup
  rw[this]
  exact List.Pairwise.map _ (λa b h e=>h (Sum.inr.inj e)) hn
theorem j6:∀c:Hrs,gJ (dP c)=some (c.map λp=>.inr p.1)
 | []=>rfl
 | d::ds=>by
  show gJ ((.str d.1,.int d.2)::dP ds)=_
  rw[gJ,j6 ds];rfl
theorem vh (c:Hrs):rJ ⟨.ow,.di (dP c)⟩=some (iS c):=by
 show(gJ (dP c)).map _=_
 rw[j6]
 show some (I.fd _ ((dP c).map (·.2)))=_
 rw[dP,Eo];rfl
theorem uI {c:Hrs}{f:Int×Int}(hc:1<=c.length/\c.length<=6)(hn:(c.map (·.1)).Nodup){Q:T->T->Prop}(q:∀c' f',c'.Perm c->Q (.im (iS c')) (fT f')):W2 (dL [fT f,.di (dP c)]) Q:=by
 refine runI_ok' [some ⟨.io 0,fT f⟩,some ⟨.vw none none,.di (dP c)⟩,none,none] rfl rfl rfl ?_
 unfold cA
 lia
 refine zz ?_
 have hk:(dP c).map (·.1)=(c.map (·.1)).map I.str:=by rw[dP,Eo,Eo];rfl
 rw[hk]
 lia
 rw[DX,DX]
 refine am (by omega) (by omega) λa f a0 a1=>?_
 ac_nf
 lia
 refine A5 ?_
 lia
 refine jI (λ_:Unit=>[some ⟨.io 0,fT f⟩,some ⟨.vw none none,.di (dP c)⟩,some ⟨.ow,.li ((c.map (·.1)).map .str)⟩,some ⟨.ow,.im (.int a)⟩]) xt (λj _ l=>l=(c.drop a.toNat++c.take a.toNat).take j) ?_
 lia
 rw[pH a0 (by rw[DX,DX];omega),fH a0,←FN,←FN,←Fu,←Fu]
 refine jr (by simp;rw[sizeLine_eq];omega) ?_
 rw[←D9,←D9]
 generalize hr:c.drop a.toNat++c.take a.toNat=c'
 have hp:c'.Perm c:=by rw[←hr];exact GD.trans (by rw[Fv])
 refine⟨(c'.map (·.1)).map .str,rfl,by rw[DX,DX,hp.length_eq,sizeLine_eq];omega,by cbv,(),by cbv,rfl,λj x _ l hx hP=>?_,λ_ l hP=>?_⟩
 ·obtain⟨z,hz,rfl⟩:=aQ hx
  obtain⟨p,hp',rfl⟩:=aQ hz
  have hm:p∈c:=hp.mem_iff.mp (ymG hp')
  lia
  refine BS (j1 (v:=p.2) hn hm) ?_
  lia
  exact⟨p,(),rfl,by cbv,by rw[hP,FK,hp'];rfl⟩
 ·rw[DX,DX,FA]at hP
  subst hP
  lia
  refine vS ((hp.map _).nodup_iff.mpr hn) ?_
  refine⟨_,vh _,?_⟩
  lia
  exact q _ f hp
theorem mE {z:Str}{v:Int}:∀{c:Hrs},z∉c.map (·.1)->bP (dP c) (.str z) (.int v)=dP (c++[(z,v)])
 | [],_=>rfl
 | d::ds,h=>by
  rw[DS,Er,not_or]at h
  show bP ((.str d.1,.int d.2)::dP ds) _ _=(.str d.1,.int d.2)::dP (ds++[(z,v)])
  rw[bP,if_neg (λe=>h.1 (I.str.inj e).symm),mE h.2]
theorem oM {w wh:Int}{ds:List (Str×Ru)}{f:Int×Int}(hok:og 10 w wh ds){Q:T->T->Prop}
  (q:∀(row:List Int) (c:Hrs) f',row.length=w.toNat->(∀x∈row,Bnd x)->(c.map (·.1)).Nodup->(c.map (·.1)).Perm (ds.map (·.1))->(∀p∈c,Bnd p.2)->Q (.im (.tup [.tup (row.map .int),iS c])) (fT f')):W2 (gU [fT f,.im (bg w wh ds)]) Q:=by
 obtain⟨a1,a2,a3,a4,a5,a6,a7,_⟩:=hok
 refine runI_ok' [some ⟨.io 0,fT f⟩,some ⟨.ow,.im (bg w wh ds)⟩,none,none,none,none] rfl rfl rfl ?_
 unfold gN
 rw[bg]
 lia
 refine bK (λf:Int×Int=>[some ⟨.io 0,fT f⟩,some ⟨.ow,.im (.tup [.int w,.int wh,.tup (ds.map fc)])⟩,none,none,none,none]) I.int (λj _ l=>l.length=j/\∀x∈l,Bnd x) ?_
 lia
 refine⟨⟨by omega,by omega⟩,by cbv,f,by cbv,⟨rfl,by simp⟩,λk f l hk hl2=>?_,λf row hl2=>?_⟩
 ·obtain⟨hl2,hb⟩:=hl2
  lia
  refine lW λx f x0 x1=>?_
  ac_nf
  exact⟨x,f,rfl,by cbv,by simp[hl2],aS hb ⟨x0,x1⟩⟩
 obtain⟨hrl,hrb⟩:=hl2
 lia
 refine DM ?_
 lia
 refine dF (λs:(Int×Int)×Hrs=>[some ⟨.io 0,fT s.1⟩,some ⟨.ow,.im (.tup [.int w,.int wh,.tup (ds.map fc)])⟩,some ⟨.ow,.im (.tup (row.map .int))⟩,some ⟨.ow,.di (dP s.2)⟩,none,none]) (λj s=>s.2.map (·.1)=(ds.map (·.1)).take j/\∀p∈s.2,Bnd p.2) ?_
 lia
 refine⟨ds.map fc,rfl,by cbv,(f,[]),by cbv,⟨rfl,by simp⟩,λj x s hx hP=>?_,λs hP=>?_⟩
 ·obtain⟨d,hd,rfl⟩:=aQ hx
  obtain⟨f,c⟩:=s
  obtain⟨p1,p2⟩:=hP
  dsimp only at p1 p2
  rw[fc]
  lia
  refine lW λkn f k0 k1=>?_
  ac_nf
  lia
  refine xA ?_
  lia
  have hj:j<ds.length:=(DR.mp hd).1
  have hlen:c.length=j:=by have:=congrArg E9 p1;simp at this;omega
  have hnew:d.1∉c.map (·.1):=by
   rw[p1]
   intro hm
   obtain⟨i,hi⟩:=Fj.mp hm
   have hij:i<j:=by
    have:=(DR.mp hi).1
    simp at this;omega
   rw[FC hij]at hi
   have hdj:(ds.map (·.1))[j]?=some d.1:=by rw[DZ,hd];rfl
   have:=(List.getElem?_inj (by simp;omega) a7).mp (hi.trans hdj.symm)
   omega
  have e:=mE (v:=kn) hnew
  refine zu (v:=.int kn) (by rw[e];simp[dP];rw[sizeLine_eq];omega) ?_
  rw[e]
  ac_nf
  lia
  refine⟨(f,c++[(d.1,kn)]),by cbv,?_,aS p2 ⟨k0,k1⟩⟩
  rw[D9,p1,FK,DZ,hd];rfl
 ·obtain⟨f,c⟩:=s
  obtain⟨p1,p2⟩:=hP
  rw[DX,←DX (f:=(·.1)),FA]at p1
  dsimp only at p1 p2
  have hlen:c.length=ds.length:=by have:=congrArg E9 p1;simpa using this
  lia
  refine uI (c:=c) (by omega) (by rw[p1];exact a7) λc' f hp=>?_
  ac_nf
  lia
  exact q row c' f hrl hrb ((hp.map _).nodup_iff.mpr (by rw[p1];exact a7)) (by rw[←p1];exact hp.map _) λp hm=>p2 p (hp.mem_iff.mp hm)
theorem ve {ns:List Int}{k:Int}(hn:ns.length<=1000)(h1:0<=k)(h2:k<=1000000){Q:T->Prop}(q:∀f,Q (fT f)):W1 (jx [.li (ns.map .int),.im (.int k)]) Q:=by
 refine runP_ok' [some ⟨.vw none none,.li (ns.map .int)⟩,some ⟨.ow,.im (.int k)⟩,none,none] rfl rfl rfl ?_
 unfold gM
 lia
 refine WS.mono (Q:=λfl ρ=>fl=.nx/\∃cell:Int,ρ=[some ⟨.vw none none,.li (ns.map .int)⟩,some ⟨.ow,.im (.int k)⟩,some ⟨.ow,.im (.int cell)⟩,none]) ?_ ?_
 ·(refine bo ?_;lia;clear_value hk)
  ·rw[DX]at hk
   lia
   refine be (ns:=ns) h1 hk λy hy _=>?_
   lia
   exact⟨by trivial,y,by first|trivial|cbv⟩
  ·(refine bo ?_;lia;clear_value hl)
   ·rw[DX]at hl
    lia
    rw[DX]
    refine sy (by omega) ?_
    lia
    refine be (ns:=ns) (Fm _ (by omega)) (E4 _ (by omega)) λy hy _=>?_
    lia
    exact⟨by trivial,_,by first|trivial|cbv⟩
   ·lia
    exact⟨by trivial,_,by first|trivial|cbv⟩
 rintro fl ρ ⟨rfl,cell,rfl⟩
 lia
 refine WS.mono (Q:=λfl ρ=>fl=.nx/\∃own:Int,ρ=[some ⟨.vw none none,.li (ns.map .int)⟩,some ⟨.ow,.im (.int k)⟩,some ⟨.ow,.im (.int cell)⟩,some ⟨.ow,.im (.int own)⟩]) ?_ ?_
 ·refine bo ?_
  lia
  refine xV ⟨by omega,by omega,by decide⟩ ?_
  lia
  clear_value hc
  ·lia
   exact⟨by trivial,_,by first|trivial|cbv⟩
  ·lia
   exact⟨by trivial,_,by first|trivial|cbv⟩
 rintro fl ρ ⟨rfl,own,rfl⟩
 lia
 have m0:=Fm cell (show(2147483629:Int)≠0 by omega)
 have m1:=E4 cell (show(0:Int)<2147483629 by omega)
 refine xV ⟨by omega,by omega,by omega⟩ ?_
 lia
 exact q (own,_)
theorem uY {x:Int}{Q:T->Prop}(q:Q (.im (.bl true))):W1 (iy [.im (.int x)]) Q:=by
 refine runP_ok' [some ⟨.ow,.im (.int x)⟩] rfl rfl rfl ?_
 unfold fV
 (repeat first|infer_instance|refine spT ?_|refine spF ?_|refine bo ?_)
 exact q
theorem vF {L:List (Str×List Int)}{p:Str×List Int}(h:p∈ded L):p∈L:=by
 have:∀(L acc:List (Str×List Int)),p∈L.foldl gE acc->p∈acc∨p∈L:=by
  intro L
  induction L with
  | nil=>intro acc h;exact .inl h
  | cons x L ih=>
   intro acc h
   rcases ih _ h with h|h
   ·unfold gE at h
    split at h
    ·exact .inl h
    ·rcases yaM h with h|h
     ·exact .inl h
     ·exact .inr (ysM h▸ymS)
   ·exact .inr (ymC _ h)
 rcases this L [] h with h|h
 ·cases h
 ·exact h
theorem vG {r:Ru}{p:Str×List Int}(h:p∈rds r):Ru.rd p.1 p.2∈r.leaves:=by
 obtain⟨l,hl,e⟩:=Ey.mp h
 cases l with
 | rd x row=>cases e;exact hl
 | _=>cases e
def RuL (r:Ru):Prop:=r.leaves.length<=22/\∀x row,Ru.rd x row∈r.leaves->row.length<=1000
def H6 (ds:List (Str×Ru)):Prop:=ds.length<=6/\(ds.map (·.1)).Nodup/\∀p∈ds,RuL p.2
noncomputable def SL (ds:List (Str×Ru)):List (Str×Str×List Int):=ds.flatMap λd=>(ded (rds d.2)).map λp=>(d.1,p)
noncomputable def sF (a b:List Int):Int:=((Es a.length).map λk=>a.getD k 0*b.getD k 0).sum
theorem xK {row pl:List Int}{h:Int}(hl:row.length=pl.length)(h3:row.length<=3)(hb:∀x∈row,Bnd x){Q:T->Prop}(q:Q (.im (.int (h+sF row pl)))):W1 (lu [.im (.tup (row.map .int)),.im (.int h),.im (.tup (pl.map .int))]) Q:=by
 refine runP_ok' [some ⟨.ow,.im (.tup (row.map .int))⟩,some ⟨.ow,.im (.int h)⟩,some ⟨.ow,.im (.tup (pl.map .int))⟩] rfl rfl rfl ?_
 unfold lh
 lia
 refine bK (λ_:Unit=>[some ⟨.ow,.im (.tup (row.map .int))⟩,some ⟨.ow,.im (.int h)⟩,some ⟨.ow,.im (.tup (pl.map .int))⟩]) I.int (λj _ l=>l=(Es j).map λk=>row.getD k 0*pl.getD k 0) ?_
 lia
 rw[DX]
 refine⟨⟨by omega,by omega⟩,by cbv,(),by cbv,rfl,λk _ l hk hP2=>?_,λ_ l hP2=>?_⟩
 ·lia
  refine eA (ns:=row) (by omega) (by omega) λy hy ey=>?_
  lia
  refine eA (ns:=pl) (by omega) (by omega) λy2 hy2 ey2=>?_
  have hb:=hb y hy
  unfold Bnd at hb
  lia
  refine mq (vJ (by omega) (by omega)) ?_
  refine⟨y*y2,(),rfl,by cbv,?_⟩
  rw[Ee]at ey ey2
  rw[hP2,FY,D9,GZ,Eb,Eb,ey,ey2]
  rfl
 ·rw[Ee]at hP2
  lia
  refine xX ?_
  lia
  subst hP2
  exact q
theorem vm {w wh:Int}{ds:List (Str×Ru)}{row aw:List Int}{c:Hrs}{k:Nat}{z o:Str}{hz ho:Int}(hd:ds.length<=6)(hlv:∀p∈ds,p.2.leaves.length<=40)(hk:(aZ ds)[k]?=some (aN z (o,aw)))
  (hn:(c.map (·.1)).Nodup) (h1:(z,hz)∈c) (h2:(o,ho)∈c) (hr:row.length<=1000) (hb:∀x∈row,Bnd x) {Q:T->Prop} (q:Q (.im (.int (hz-ho-dot row aw)))):W1 (jy [.im (bg w wh ds),.im (.int k),.im (.tup (row.map .int)),.im (iS c)]) Q:=by
 refine runP_ok' [some ⟨.ow,.im (bg w wh ds)⟩,some ⟨.ow,.im (.int k)⟩,some ⟨.ow,.im (.tup (row.map .int))⟩,some ⟨.ow,.im (iS c)⟩,none,none,none] rfl rfl rfl ?_
 unfold gP
 lia
 refine nP hd hlv ?_
 lia
 have hkl:=(DR.mp hk).1
 refine sw (by omega) (by omega) λx hx=>?_
 rw[Ee,hk]at hx
 cases hx
 rw[aN]
 lia
 refine oT (dX hn h1) ?_
 lia
 refine oT (dX hn h2) ?_
 lia
 refine rj (a:=row) (b:=aw) hr hb ?_
 lia
 exact q
theorem AO {row pl aw th:List Int}(h:∀k<row.length,th.getD k 0=pl.getD k 0+aw.getD k 0):sF row th=sF row pl+sF row aw:=by
 unfold sF
 have:∀n,n<=row.length->((Es n).map λk=>row.getD k 0*th.getD k 0).sum=((Es n).map λk=>row.getD k 0*pl.getD k 0).sum+((Es n).map λk=>row.getD k 0*aw.getD k 0).sum:=by
  intro n
  induction n with
  | zero=>intro _;rfl
  | succ n ih=>
   intro hn
   have h1:=ih (by omega)
   have h2:=h n (by omega)
   rw[FY,D9,D9,D9,FW,FW,FW,h1]
   simp only[DS,E7,Ge,List.sum_nil]
   rw[h2,Int.mul_add]
   omega
 exact this _ (DY _)
theorem AQ {a b:List Int}(h:a.length=b.length):sF a b=dot a b:=o9 a b h
theorem qL {w wh:Int}{ds:List (Str×Ru)}{row aw pl:List Int}{c:Hrs}{k:Nat}{z o:Str}{hz ho:Int}(hd:ds.length<=6)(hlv:∀p∈ds,p.2.leaves.length<=40)(hk:(aZ ds)[k]?=some (aN z (o,aw)))
  (hn:(c.map (·.1)).Nodup) (h1:(z,hz)∈c) (h2:(o,ho)∈c) (hw:row.length=aw.length) (hp:pl.length=aw.length) (h3:aw.length<=3) (hb:∀x∈row,Bnd x) {Q:T->Prop} (q:Q (.im (.bl true))) :
  W1 (eN [.im (bg w wh ds),.im (aN z (o,aw)),.im (.int k),.im (.tup [.tup (row.map .int),iS c]),.im (.tup (pl.map .int))]) Q:=by
 refine runP_ok' [some ⟨.ow,.im (bg w wh ds)⟩,some ⟨.ow,.im (aN z (o,aw))⟩,some ⟨.ow,.im (.int k)⟩,some ⟨.ow,.im (.tup [.tup (row.map .int),iS c])⟩,some ⟨.ow,.im (.tup (pl.map .int))⟩,none,none,none,none,none,none,none,none] rfl rfl rfl ?_
 unfold cU
 rw[aN]
 lia
 refine bK (λ_:Unit=>[some ⟨.ow,.im (bg w wh ds)⟩,some ⟨.ow,.im (aN z (o,aw))⟩,some ⟨.ow,.im (.int k)⟩,some ⟨.ow,.im (.tup [.tup (row.map .int),iS c])⟩,some ⟨.ow,.im (.tup (pl.map .int))⟩,some ⟨.ow,.im (.tup (row.map .int))⟩,some ⟨.ow,.im (iS c)⟩,some ⟨.ow,.im (.str z)⟩,some ⟨.ow,.im (.str o)⟩,some ⟨.ow,.im (.tup (aw.map .int))⟩,none,none,none]) I.int (λj _ l=>l=(Es j).map λk=>pl.getD k 0+aw.getD k 0) ?_
 lia
 rw[DX]
 refine⟨⟨by omega,by omega⟩,by cbv,(),by cbv,rfl,λk _ l hk hP2=>?_,λ_ th hP2=>?_⟩
 ·lia
  refine eA (ns:=pl) (by omega) (by omega) λy hy ey=>?_
  lia
  refine eA (ns:=aw) (by omega) (by omega) λy2 hy2 ey2=>?_
  lia
  refine⟨y+y2,(),rfl,by cbv,?_⟩
  rw[Ee]at ey ey2
  rw[hP2,FY,D9,GZ,Eb,Eb,ey,ey2]
  rfl
 rw[Ee]at hP2
 have htl:th.length=aw.length:=by rw[hP2];simp
 lia
 refine vm hd hlv hk hn h1 h2 (by omega) hb ?_
 lia
 refine oT (dX hn h1) ?_
 lia
 refine xK (row:=row) (pl:=pl) (by omega) (by omega) hb ?_
 lia
 refine oT (dX hn h2) ?_
 lia
 refine xK (row:=row) (pl:=th) (by omega) (by omega) hb ?_
 lia
 have e:hz-ho-dot row aw=hz+sF row pl-(ho+sF row th):=by
  rw[AO (pl:=pl) (aw:=aw) (th:=th) (λi hi=>by rw[hP2,Eb,DZ,GN (by omega)];rfl),AQ hw]
  omega
 rw[←e]
 refine uY ?_
 (repeat first|infer_instance|refine spT ?_|refine spF ?_|refine bo ?_)
 rw[decide_eq_true rfl]
 (repeat first|infer_instance|refine spT ?_|refine spF ?_|refine bo ?_)
 exact q
theorem uB:∀{c:Hrs},(∀p∈c,Bnd p.2/\eC p.1)->I.nlss (c.map λp=>I.int p.2)=true ∧
  ∀kvs,kvs=((c.map λp=>(Sum.inr p.1:Key)).map kPD).zip (I.pds (c.map λp=>I.int p.2))->PyData.showableKv kvs=true/\PyData.leavesShortKv 13 kvs=true/\PyData.weightKv kvs<=c.length*41/\PyData.depthKv kvs<=0
 | [],_=>⟨rfl,λkvs e=>by subst e;exact⟨rfl,rfl,by simp[I.pds,PyData.weightKv],by simp[I.pds,PyData.depthKv]⟩⟩
 | p::c,h=>by
  obtain⟨hv,hz⟩:=h p ymS
  obtain⟨a1,a2,a3,a4,a5⟩:=uA hv
  obtain⟨z1,z2⟩:=xm hz
  obtain⟨b0,b⟩:=uB λx hx=>h x (ymC _ hx)
  obtain⟨b1,b2,b3,b4⟩:=b _ rfl
  refine⟨by rw[DS,I.nlss,a1,b0];rfl,λkvs e=>?_⟩
  rw[DS,DS,DS,I.pds,GX]at e
  subst e
  have ek:kPD (Sum.inr p.1)=.str p.1:=rfl
  rw[ek,PyData.showableKv,PyData.leavesShortKv,PyData.weightKv,PyData.depthKv,a2,b1,z1,a3,b2]
  refine⟨rfl,rfl,?_,?_⟩
  ·rw[D5,G4]
   omega
  ·have:PyData.depth (.str p.1)=0:=rfl
   rw[this];omega
theorem AR {c:Hrs}(hl:c.length<=6)(h:∀p∈c,Bnd p.2/\eC p.1):Sh (iS c) 246 1:=by
 obtain⟨a,b⟩:=uB h
 obtain⟨b1,b2,b3,b4⟩:=b _ rfl
 unfold iS
 refine⟨by rw[I.nls];exact a,by rw[I.pd,PyData.showable];exact b1,by rw[I.pd,PyData.leavesShort];exact b2,by rw[I.pd,PyData.weight];omega,by rw[I.pd,PyData.depth];omega⟩
theorem Sh.ok {i:I}{n k:Nat}(h:Sh i n k)(hn:n<=2^20)(hk:k<=50):gp i=true:=by
 obtain⟨a1,a2,a3,a4,a5⟩:=h
 have hs:=PyData.shown_fits (B:=13) (by decide) (by decide) (d:=i.pd) a3 (Ev a4 hn)
 unfold gp
 rw[a1,a2,decide_eq_true (show i.pd.depth<=50 from Ev a5 hk),decide_eq_true hs]
 rfl
noncomputable def tHd (p:List Int×Hrs):I:=.tup [.tup (p.1.map .int),iS p.2]
def u5 (n:Nat)(ns:List Str)(p:List Int×Hrs):Prop:=p.1.length=n/\(∀x∈p.1,Bnd x)/\(p.2.map (·.1)).Nodup/\(p.2.map (·.1)).Perm ns/\∀q∈p.2,Bnd q.2
theorem xi {n:Nat}{ns:List Str}{p:List Int×Hrs}(h:u5 n ns p)(hn:n<=3)(hl:ns.length<=6)(hz:∀z∈ns,eC z):gp (tHd p)=true:=by
 obtain⟨h1,h2,h3,h4,h5⟩:=h
 refine Sh.ok (n:=494) (k:=2) ?_ (by decide) (by decide)
 refine uC (n:=246) (k:=1) (L:=2) (λi hi=>?_) (DY 2)
 rcases ycM hi with rfl|hi
 ·exact(xl h2 (by omega)).mono (by decide) (by decide)
 ·rw[ysM hi]
  exact AR (by have:=h4.length_eq;simp at this;omega) λq hq=>⟨h5 q hq,hz _ (h4.mem_iff.mp (D4.mpr ⟨q,hq,rfl⟩))⟩
theorem k22_law {ns:List Int}(hn:ns.length<=63):W1 (r_l_law_v5 [.li (ns.map .int)]) λt=>t=.im (.bl true):=by
 refine runP_ok' [some ⟨.vw none none,.li (ns.map .int)⟩,none,none,none,none,none,none,none,none,none] rfl rfl rfl ?_
 unfold eK
 lia
 refine cr (λ_:Unit=>[some ⟨.vw none none,.li (ns.map .int)⟩,none,none,none,none,none,none,none,none,none]) (λ_ _=>True) ?_
 lia
 rw[fH (by omega),Ew,DX]
 generalize hc:(if((min (6:Int).toNat ns.length:Nat):Int)>3 then((min (6:Int).toNat ns.length:Nat):Int)else 3)=n
 have hc8:3<=n/\n<=6:=by
  subst hc
  have:(6:Int).toNat=6:=rfl
  rw[this]
  split<;>omega
 refine⟨⟨by omega,by omega⟩,(),by cbv,trivial,λj _ hj _=>?_,λ_ _=>?_⟩
 ·lia
  refine ve (ns:=ns) (by omega) (by omega) (by omega) λf=>?_
  lia
  refine rP λw wh ds f hok=>?_
  have hok0:=hok
  obtain⟨a1,a2,a3,a4,a5,a6,a7,a8,nn,a9,a10⟩:=hok0
  ac_nf
  lia
  refine pY a6 a7 (λp hp=>by have:=(a10 p hp).2.1;omega) ?_
  lia
  refine oM hok λr1 c1 f x1 x2 x3 x4 x5=>?_
  ac_nf
  lia
  refine oM hok λr2 c2 f y1 y2 y3 y4 y5=>?_
  ac_nf
  lia
  have H1:u5 w.toNat (ds.map (·.1)) (r1,c1):=⟨x1,x2,x3,x4,x5⟩
  have H2:u5 w.toNat (ds.map (·.1)) (r2,c2):=⟨y1,y2,y3,y4,y5⟩
  refine bK (λf:Int×Int=>[some ⟨.vw none none,.li (ns.map .int)⟩,some ⟨.ow,.im (.int j)⟩,some ⟨.ow,fT f⟩,some ⟨.ow,.im (bg w wh ds)⟩,some ⟨.ow,.li (aZ ds)⟩,some ⟨.ow,.li ([(r1,c1),(r2,c2)].map tHd)⟩,none,none,none,none]) I.int (λj _ l=>l.length=j) ?_
  rw[bg]
  lia
  refine⟨⟨by omega,by omega⟩,by cbv,f,by cbv,rfl,λk f l hk hl3=>?_,λf pl hl3=>?_⟩
  ·lia
   refine am (by omega) (by omega) λx f x0 x1=>?_
   ac_nf
   lia
   exact⟨x-1000,f,rfl,by cbv,by simp[hl3]⟩
  lia
  have hSl:=gj (ds:=ds) λp hp=>by have:=(a10 p hp).2.1;omega
  refine cr (λ_:Unit=>[some ⟨.vw none none,.li (ns.map .int)⟩,some ⟨.ow,.im (.int j)⟩,some ⟨.ow,fT f⟩,some ⟨.ow,.im (bg w wh ds)⟩,some ⟨.ow,.li (aZ ds)⟩,some ⟨.ow,.li ([(r1,c1),(r2,c2)].map tHd)⟩,some ⟨.ow,.im (.tup (pl.map .int))⟩,none,none,none]) (λ_ _=>True) ?_
  lia
  refine⟨⟨by omega,by omega⟩,(),by cbv,trivial,λk _ hk _=>?_,λ_ _=>?_⟩
  ·have hk':k<(aZ ds).length:=by omega
   obtain⟨x,hx⟩:∃x,(aZ ds)[k]?=some x:=⟨_,Eh hk'⟩
   obtain⟨d,hdm,p,hp,rfl⟩:=jl (ymG hx)
   have hleaf:=(a10 d hdm).2.2.1 _ (vG (vF hp))
   have hlf:p.1∈ds.map (·.1)/\p.2.length=w.toNat:=hleaf
   lia
   refine dF (λ_:Unit=>[some ⟨.vw none none,.li (ns.map .int)⟩,some ⟨.ow,.im (.int j)⟩,some ⟨.ow,fT f⟩,some ⟨.ow,.im (bg w wh ds)⟩,some ⟨.ow,.li (aZ ds)⟩,some ⟨.ow,.li ([(r1,c1),(r2,c2)].map tHd)⟩,some ⟨.ow,.im (.tup (pl.map .int))⟩,some ⟨.ow,.im (.int k)⟩,none,none]) (λ_ _=>True) ?_
   lia
   rw[fH (by omega),←Fu]
   refine jr (is:=[(r1,c1),(r2,c2)].map tHd) (by simp;rw[sizeLine_eq];omega) ?_
   rw[←D9]
   refine⟨([(r1,c1),(r2,c2)]++[(r1,c1),(r2,c2)].take (1:Int).toNat).map tHd,rfl,by cbv,(),by cbv,trivial,λi y _ hy _=>?_,λ_ _=>?_⟩
   ·obtain⟨g,hg,rfl⟩:=aQ hy
    have hgm:g=(r1,c1)∨g=(r2,c2):=by
     have:=(yaM (ymG hg)).elim id λz=>EJ z
     simpa using this
    have hG:u5 w.toNat (ds.map (·.1)) g:=by rcases hgm with rfl|rfl<;>assumption
    have hR:=xi hG (by omega) (by simpa using a6) a8
    obtain⟨g1,g2,g3,g4,g5⟩:=hG
    obtain⟨row,c⟩:=g
    dsimp only at g1 g2 g3 g4 g5
    obtain⟨q1,hq1,e1⟩:=D4.mp (g4.mem_iff.mpr (D4.mpr ⟨d,hdm,rfl⟩))
    obtain⟨q2,hq2,e2⟩:=D4.mp (g4.mem_iff.mpr hlf.1)
    lia
    refine sD rfl hR ?_
    lia
    refine bo ?_
    (repeat first|infer_instance|refine spT ?_|refine spF ?_|refine bo ?_)
    refine nH (by omega) (by omega) λx' hx'=>?_
    rw[Ee,hx]at hx'
    cases hx'
    (repeat first|infer_instance|refine spT ?_|refine spF ?_|refine bo ?_)
    refine qL (w:=w) (wh:=wh) (ds:=ds) (row:=row) (aw:=p.2) (pl:=pl) (c:=c) (z:=d.1) (o:=p.1) (hz:=q1.2) (ho:=q2.2) a6 (λp hp=>by have:=(a10 p hp).2.1;omega) hx g3 (by rw[←e1];exact hq1) (by rw[←e2];exact hq2) (by rw[g1,hlf.2]) (by rw[hl3,hlf.2]) (by rw[hlf.2];omega) g2 ?_
    (repeat first|infer_instance|refine spT ?_|refine spF ?_|refine bo ?_)
    refine sD rfl hR ?_
    (repeat first|infer_instance|refine spT ?_|refine spF ?_|refine bo ?_)
    rw[decide_eq_true rfl]
    (repeat first|infer_instance|refine spT ?_|refine spF ?_|refine bo ?_)
    exact⟨(),by cbv,trivial⟩
   ·lia
    exact⟨(),by cbv,trivial⟩
  ·lia
   exact⟨(),by cbv,trivial⟩
 ·lia
  rfl
end L2
namespace K22
open PySem PySem.Spec PyProof.Rows L2
local macro_rules|`(tactic| exfalso)=>`(tactic| exact⟨rfl,rfl,rfl,by decide +kernel,rfl,by decide +kernel,by decide +kernel⟩)
structure Adr (mg:Str->Option Value)(K:yF):Prop where
 d0:Def0 K mg "_law_feed" fB ["_law_script","_law_k"]
 d1:Def0 K mg "_law_take" fE ["_law_feed_here","_law_many"]
 d2:Def0 K mg "_law_turned_row" cq ["_law_row_here","_law_way","_law_signs"]
 d3:Def0 K mg "_law_row" gt ["_law_feed_here","_law_ways"]
 d4:Def0 K mg "_law_opposed_reads" bA ["_law_feed_here","_law_ways","_law_many"]
 d5:Def0 K mg "_law_free_reads" cj ["_law_feed_here","_law_ways","_law_many"]
 d6:Def0 K mg "_law_back_row" cK ["_law_feed_here","_law_ways"]
 d7:Def0 K mg "_law_late_reads" cm ["_law_feed_here","_law_ways","_law_many"]
 d8:Def0 K mg "_law_ring_reads" cn ["_law_feed_here","_law_ways","_law_many"]
 d9:Def0 K mg "_law_reads" eV ["_law_feed_here"]
 d10:Def0 K mg "_law_names" eU ["_law_feed_here","_law_many"]
 d11:Def0 K mg "_law_grown" eS ["_law_feed_here","_law_leaves"]
 d12:Def0 K mg "_law_house" eT ["_law_feed_here"]
 d13:Def0 K mg "_law_reads_of" cL ["_law_rule"]
 d14:Def0 K mg "_law_steps" eX ["_law_house_here"]
 d15:Def0 K mg "_law_great" eR ["_law_feed_here"]
 d16:Def0 K mg "_law_told_from" cy ["_law_feed_here","_law_some"]
 d17:Def0 K mg "_law_hand" fD ["_law_feed_here","_law_house_here"]
 d18:Def0 K mg "inner_parts" dO ["part"]
 d19:Def0 K mg "parts_of" gv ["rule"]
 d20:Def0 K mg "reads" lE ["rule"]
 d21:Def0 K mg "desk_steps" e7 ["name","rule"]
 d22:Def0 K mg "steps_of" gx ["house"]
 d23:Def0 K mg "along" lD ["row","place"]
 d24:Def0 K mg "gain" nN ["house","number","row","hours"]
 d25:Def0 K mg "_law_at" iC ["_law_row_here","_law_hour","_law_place"]
 d26:Def0 K mg "_law_whole" eY ["_law_number"]
 d27:Def0 K mg "_law_right" eW ["_law_house_here","_law_step","_law_number","_law_hand_here","_law_place"]
 d28:Def0 K mg "law" s_law ["_law_script"]
 T:Bi mg
 G:GT K mg
theorem adr_less (mg:Str->Option Value)(K:yF)(a:Addr)(A:Adr mg K)(l:LsAt K a):Adr mg (less K a):=
 ⟨A.d0.less l,A.d1.less l,A.d2.less l,A.d3.less l,A.d4.less l,A.d5.less l,A.d6.less l,A.d7.less l,A.d8.less l,A.d9.less l,A.d10.less l,A.d11.less l,A.d12.less l,A.d13.less l,A.d14.less l,A.d15.less l,A.d16.less l,A.d17.less l,A.d18.less l,A.d19.less l,A.d20.less l,A.d21.less l,A.d22.less l,A.d23.less l,A.d24.less l,A.d25.less l,A.d26.less l,A.d27.less l,A.d28.less l,A.T,⟨trivial⟩⟩
noncomputable abbrev pm0:Value:=(vs "law_clockhouse_k22_gains_of_steps" 253)
noncomputable abbrev pm1:Value:=(vs "clockhouse.rules" 187)
noncomputable abbrev pm2:Value:=(vs "clockhouse.houses" 212)
noncomputable abbrev pm3:Value:=(vs "clockhouse.bundles" 238)
noncomputable def KF (P:Params):yF:=[(3,oD [(eO P "__name__" 165 (vs "law_clockhouse_k22_gains_of_steps" 253)),(eO P "__doc__" 166 .none),(eO P "__package__" 167 .none),(eO P "__loader__" 168 (Value.builtin "__main__.__loader__#opaque")),(eO P "__spec__" 169 .none),(eO P "__annotations__" 170 (vr 6)),(eO P "__builtins__" 171 (vr 4)),(eO P "__file__" 173 (vs "/claim/cut.py" 172)),(eO P "__cached__" 174 .none),(eO P "inner_parts" 195 (vr 21)),(eO P "parts_of" 205 (vr 28)),(eO P "reads" 211 (vr 33)),(eO P "desk_steps" 225 (vr 40)),(eO P "steps_of" 231 (vr 45)),(eO P "along" 237 (vr 50)),(eO P "gain" 252 (vr 57)),(eO P "_law_feed" 264 (vr 64)),(eO P "_law_take" 274 (vr 71)),(eO P "_law_names" 280 (vr 76)),(eO P "_law_row" 286 (vr 81)),(eO P "_law_back_row" 292 (vr 86)),(eO P "_law_free_reads" 298 (vr 91)),(eO P "_law_late_reads" 304 (vr 96)),(eO P "_law_turned_row" 315 (vr 103)),(eO P "_law_opposed_reads" 321 (vr 108)),(eO P "_law_ring_reads" 327 (vr 113)),(eO P "_law_reads" 338 (vr 120)),(eO P "_law_grown" 349 (vr 127)),(eO P "_law_house" 355 (vr 132)),(eO P "_law_reads_of" 364 (vr 139)),(eO P "_law_steps" 376 (vr 146)),(eO P "_law_whole" 383 (vr 153)),(eO P "_law_great" 390 (vr 160)),(eO P "_law_told_from" 396 (vr 165)),(eO P "_law_hand" 402 (vr 170)),(eO P "_law_at" 408 (vr 175)),(eO P "_law_right" 414 (vr 180)),(eO P "law" 420 (vr 185))] 38),
 (64,oF "_law_feed" fB pm0 63),
 (63,oc "_law_feed" 255 35 2 58 (some (60,61)) 62 262),
 (71,oF "_law_take" fE pm0 70),
 (70,oc "_law_take" 265 45 2 65 (some (67,68)) 69 272),
 (103,oF "_law_turned_row" cq pm0 102),
 (102,oc "_law_turned_row" 305 89 3 97 (some (99,100)) 101 313),
 (81,oF "_law_row" gt pm0 80),
 (80,oc "_law_row" 281 66 2 77 none 79 284),
 (108,oF "_law_opposed_reads" bA pm0 107),
 (107,oc "_law_opposed_reads" 316 94 3 104 none 106 319),
 (91,oF "_law_free_reads" cj pm0 90),
 (90,oc "_law_free_reads" 293 74 3 87 none 89 296),
 (86,oF "_law_back_row" cK pm0 85),
 (85,oc "_law_back_row" 287 70 2 82 none 84 290),
 (96,oF "_law_late_reads" cm pm0 95),
 (95,oc "_law_late_reads" 299 80 3 92 none 94 302),
 (113,oF "_law_ring_reads" cn pm0 112),
 (112,oc "_law_ring_reads" 322 108 3 109 none 111 325),
 (120,oF "_law_reads" eV pm0 119),
 (119,oc "_law_reads" 328 120 1 114 (some (116,117)) 118 336),
 (76,oF "_law_names" eU pm0 75),
 (75,oc "_law_names" 275 53 2 72 none 74 278),
 (127,oF "_law_grown" eS pm0 126),
 (126,oc "_law_grown" 339 132 2 121 (some (123,124)) 125 347),
 (132,oF "_law_house" eT pm0 131),
 (131,oc "_law_house" 350 143 1 128 none 130 353),
 (139,oF "_law_reads_of" cL pm0 138),
 (138,oc "_law_reads_of" 356 155 1 133 (some (135,136)) 137 362),
 (146,oF "_law_steps" eX pm0 145),
 (145,oc "_law_steps" 365 164 1 140 (some (142,143)) 144 374),
 (160,oF "_law_great" eR pm0 159),
 (159,oc "_law_great" 384 173 1 154 (some (156,157)) 158 388),
 (165,oF "_law_told_from" cy pm0 164),
 (164,oc "_law_told_from" 391 175 2 161 none 163 394),
 (170,oF "_law_hand" fD pm0 169),
 (169,oc "_law_hand" 397 179 2 166 none 168 400),
 (21,oF "inner_parts" dO pm1 20),
 (20,oc "inner_parts" 189 2 1 15 (some (17,18)) 19 193),
 (28,oF "parts_of" gv pm1 27),
 (27,oc "parts_of" 196 8 1 22 (some (24,25)) 26 203),
 (33,oF "reads" lE pm1 32),
 (32,oc "reads" 206 16 1 29 none 31 209),
 (40,oF "desk_steps" e7 pm2 39),
 (39,oc "desk_steps" 214 19 2 34 (some (36,37)) 38 223),
 (45,oF "steps_of" gx pm2 44),
 (44,oc "steps_of" 226 26 1 41 none 43 229),
 (50,oF "along" lD pm2 49),
 (49,oc "along" 232 28 2 46 none 48 235),
 (57,oF "gain" nN pm3 56),
 (56,oc "gain" 240 31 4 51 (some (53,54)) 55 250),
 (175,oF "_law_at" iC pm0 174),
 (174,oc "_law_at" 403 185 3 171 none 173 406),
 (153,oF "_law_whole" eY pm0 152),
 (152,oc "_law_whole" 377 171 1 147 (some (149,150)) 151 381),
 (180,oF "_law_right" eW pm0 179),
 (179,oc "_law_right" 409 187 5 176 none 178 412),
 (185,oF "law" s_law pm0 184),
 (184,oc "law" 415 194 1 181 none 183 418)]
noncomputable def KL:List Str:=["inner_parts","parts_of","reads","desk_steps","steps_of","along","gain","_law_feed","_law_take","_law_names","_law_row","_law_back_row","_law_free_reads","_law_late_reads","_law_turned_row","_law_opposed_reads","_law_ring_reads","_law_reads","_law_grown","_law_house","_law_reads_of","_law_steps","_law_whole","_law_great","_law_told_from","_law_hand","_law_at","_law_right"].map Str.ofString
noncomputable def KH:PySem.W.Hook:=PySem.W.kHook KF [3,64,63,71,70,103,102,81,80,108,107,91,90,86,85,96,95,113,112,120,119,76,75,127,126,132,131,139,138,146,145,160,159,165,164,170,169,21,20,28,27,33,32,40,39,45,44,50,49,57,56,175,174,153,152,180,179,185,184] (λ_=>rfl)
noncomputable def KQ:Program:=PySem.W.view PySem.Challenge.pw_clockhouse_k22_gains_of_steps [32]
theorem left:PySem.W.LeftO PySem.Challenge.pw_clockhouse_k22_gains_of_steps KQ KL (λs=>PySem.W.xlAt KQ [] s&&PySem.W.recOk [] s) KH.obs KH.val 4000:=λw=>by rfl'
theorem adr0 (w:World)(mg:Str->Option Value)(h:Heap)(X:(KF w.params).In h)(G:h.Ns mainGlobals mg):Adr mg (KF w.params):=
 ⟨Def0.mkO X G 64 pm0 63 (by2 λ_ _ _ _ _ _ _ _=>rfl),
   Def0.mkO X G 71 pm0 70 (by2 λ_ _ _ _ _ _ _ _=>rfl),
   Def0.mkO X G 103 pm0 102 (by3 λ_ _ _ _ _ _ _ _ _=>rfl),
   Def0.mkO X G 81 pm0 80 (by2 λ_ _ _ _ _ _ _ _=>rfl),
   Def0.mkO X G 108 pm0 107 (by3 λ_ _ _ _ _ _ _ _ _=>rfl),
   Def0.mkO X G 91 pm0 90 (by3 λ_ _ _ _ _ _ _ _ _=>rfl),
   Def0.mkO X G 86 pm0 85 (by2 λ_ _ _ _ _ _ _ _=>rfl),
   Def0.mkO X G 96 pm0 95 (by3 λ_ _ _ _ _ _ _ _ _=>rfl),
   Def0.mkO X G 113 pm0 112 (by3 λ_ _ _ _ _ _ _ _ _=>rfl),
   Def0.mkO X G 120 pm0 119 (by1 λ_ _ _ _ _ _ _=>rfl),
   Def0.mkO X G 76 pm0 75 (by2 λ_ _ _ _ _ _ _ _=>rfl),
   Def0.mkO X G 127 pm0 126 (by2 λ_ _ _ _ _ _ _ _=>rfl),
   Def0.mkO X G 132 pm0 131 (by1 λ_ _ _ _ _ _ _=>rfl),
   Def0.mkO X G 139 pm0 138 (by1 λ_ _ _ _ _ _ _=>rfl),
   Def0.mkO X G 146 pm0 145 (by1 λ_ _ _ _ _ _ _=>rfl),
   Def0.mkO X G 160 pm0 159 (by1 λ_ _ _ _ _ _ _=>rfl),
   Def0.mkO X G 165 pm0 164 (by2 λ_ _ _ _ _ _ _ _=>rfl),
   Def0.mkO X G 170 pm0 169 (by2 λ_ _ _ _ _ _ _ _=>rfl),
   Def0.mkO X G 21 pm1 20 (by1 λ_ _ _ _ _ _ _=>rfl),
   Def0.mkO X G 28 pm1 27 (by1 λ_ _ _ _ _ _ _=>rfl),
   Def0.mkO X G 33 pm1 32 (by1 λ_ _ _ _ _ _ _=>rfl),
   Def0.mkO X G 40 pm2 39 (by2 λ_ _ _ _ _ _ _ _=>rfl),
   Def0.mkO X G 45 pm2 44 (by1 λ_ _ _ _ _ _ _=>rfl),
   Def0.mkO X G 50 pm2 49 (by2 λ_ _ _ _ _ _ _ _=>rfl),
   Def0.mkO X G 57 pm3 56 (by4 λ_ _ _ _ _ _ _ _ _ _=>rfl),
   Def0.mkO X G 175 pm0 174 (by3 λ_ _ _ _ _ _ _ _ _=>rfl),
   Def0.mkO X G 153 pm0 152 (by1 λ_ _ _ _ _ _ _=>rfl),
   Def0.mkO X G 180 pm0 179 (by5 λ_ _ _ _ _ _ _ _ _ _ _=>rfl),
   Def0.mkO X G 185 pm0 184 (by1 λ_ _ _ _ _ _ _=>rfl),
   ⟨bN X G,bN X G,bN X G,bN X G,bN X G,bN X G,bN X G,bN X G,bN X G,bN X G,bN X G,bN X G,bN X G,bN X G,bN X G,bN X G,bN X G,bN X G,bN X G,bN X G,bN X G⟩,⟨trivial⟩⟩
theorem c0:FnScope ["_law_script","_law_k","_law_cell","_law_own"] ["_law_script","_law_k"] (ai fB):=by exfalso
theorem c1:FnScope ["_law_feed_here","_law_many","_law_digit","_law_one"] ["_law_feed_here","_law_many"] (ai fE):=by exfalso
theorem c2:FnScope ["_law_row_here","_law_way","_law_signs","_law_found","_law_k"] ["_law_row_here","_law_way","_law_signs"] (ai cq):=by exfalso
theorem c3:FnScope ["_law_feed_here","_law_ways"] ["_law_feed_here","_law_ways"] (ai gt):=by exfalso
theorem c4:FnScope ["_law_feed_here","_law_ways","_law_many","_law_far","_law_some","_law_way","_law_signs","_law_looks","_law_x","_law_other","_law_row_here"] ["_law_feed_here","_law_ways","_law_many"] (ai bA):=by exfalso
theorem c5:FnScope ["_law_feed_here","_law_ways","_law_many","_law_looks","_law_x","_law_k"] ["_law_feed_here","_law_ways","_law_many"] (ai cj):=by exfalso
theorem c6:FnScope ["_law_feed_here","_law_ways","_law_at_here","_law_more"] ["_law_feed_here","_law_ways"] (ai cK):=by exfalso
theorem c7:FnScope ["_law_feed_here","_law_ways","_law_many","_law_looks","_law_x","_law_k"] ["_law_feed_here","_law_ways","_law_many"] (ai cm):=by exfalso
theorem c8:FnScope ["_law_feed_here","_law_ways","_law_many","_law_looks","_law_long","_law_rest","_law_k","_law_row_here"] ["_law_feed_here","_law_ways","_law_many"] (ai cn):=by exfalso
theorem c9:FnScope ["_law_feed_here","_law_form","_law_wide","_law_ways","_law_many"] ["_law_feed_here"] (ai eV):=by exfalso
theorem c10:FnScope ["_law_feed_here","_law_many","_law_letters","_law_stem","_law_first","_law_at_here","_law_found","_law_k","_law_name"] ["_law_feed_here","_law_many"] (ai eU):=by exfalso
theorem c11:FnScope ["_law_feed_here","_law_leaves","_law_found","_law_at_here","_law_sign"] ["_law_feed_here","_law_leaves"] (ai eS):=by exfalso
theorem c12:FnScope ["_law_feed_here","_law_ways","_law_looks","_law_wheel","_law_names_here","_law_desks","_law_x","_law_leaves","_law_k","_law_number"] ["_law_feed_here"] (ai eT):=by exfalso
theorem c13:FnScope ["_law_rule","_law_found","_law_part"] ["_law_rule"] (ai cL):=by exfalso
theorem c14:FnScope ["_law_house_here","_law_found","_law_name","_law_rule","_law_other","_law_row_here"] ["_law_house_here"] (ai eX):=by exfalso
theorem c15:FnScope ["_law_feed_here"] ["_law_feed_here"] (ai eR):=by exfalso
theorem c16:FnScope ["_law_feed_here","_law_some","_law_names_here","_law_at_here"] ["_law_feed_here","_law_some"] (ai cy):=by exfalso
theorem c17:FnScope ["_law_feed_here","_law_house_here","_law_row_here","_law_hours","_law_name","_law_rule"] ["_law_feed_here","_law_house_here"] (ai fD):=by exfalso
theorem c18:FnScope ["part"] ["part"] (ai dO):=by exfalso
theorem c19:FnScope ["rule","parts","due","part"] ["rule"] (ai gv):=by exfalso
theorem c20:FnScope ["rule"] ["rule"] (ai lE):=by exfalso
theorem c21:FnScope ["name","rule","steps","other","row","step"] ["name","rule"] (ai e7):=by exfalso
theorem c22:FnScope ["house"] ["house"] (ai gx):=by exfalso
theorem c23:FnScope ["row","place"] ["row","place"] (ai lD):=by exfalso
theorem c24:FnScope ["house","number","row","hours","name","other","away"] ["house","number","row","hours"] (ai nN):=by exfalso
theorem c25:FnScope ["_law_row_here","_law_hour","_law_place"] ["_law_row_here","_law_hour","_law_place"] (ai iC):=by exfalso
theorem c26:FnScope ["_law_number"] ["_law_number"] (ai eY):=by exfalso
theorem c27:FnScope ["_law_house_here","_law_step","_law_number","_law_hand_here","_law_place","_law_row_here","_law_hours","_law_name","_law_other","_law_away","_law_there","_law_found","_law_due"] ["_law_house_here","_law_step","_law_number","_law_hand_here","_law_place"] (ai eW):=by exfalso
theorem c28:FnScope ["_law_script","_law_k","_law_feed_here","_law_house_here","_law_steps_here","_law_hands","_law_place","_law_number","_law_hand_here","_law_kept"] ["_law_script"] (ai s_law):=by exfalso
local macro_rules|`(tactic| ac_nf)=>`(tactic| first|exact rm|exact CK.blk rm)
local macro_rules|`(tactic| infer_instance)=>`(tactic| first
 | ((with_reducible show QE _ _ _ _);first|exact Cl|exact Cz _|exact Cv|exact DB|refine DE (by ac_nf) ?_ ?_|refine Cy _ ?_|refine Cn _ ?_|refine Ce (by ac_nf) ?_ ?_|refine Cw (by ac_nf) ?_ ?_|refine Cp (by ac_nf) ?_ ?_|refine Co (by ac_nf) ?_ ?_|refine z8 (by ac_nf) ?_ ?_|refine Ct (by ac_nf) ?_ ?_|refine Cj _ (by ac_nf) (by with_reducible assumption) ?_|refine Cg (by ac_nf) (by with_reducible first|exact b_len|exact b_max|exact b_min|exact b_sum) ?_ ?_|refine DG (by ac_nf) (by with_reducible first|exact b_tuple|exact b_int|exact vb|exact b_list|exact b_dict) ?_ ?_|refine Ck (by ac_nf) (by with_reducible assumption) ?_|refine DF (by ac_nf) ?_ ?_ ?_|refine Cu (by ac_nf) ?_|refine Cq _ _ (by ac_nf) (by with_reducible first|exact sd|exact se|exact sf) ?_ ?_|refine Ad _ (by ac_nf) BL ?_|refine Ab (by ac_nf) y8 ?_ ?_|refine Ch (by ac_nf) ?_ ?_ ?_ (by with_unfolding_all rfl)|refine Cm (by ac_nf) (Bi.b_isinstance (by assumption)) (by with_reducible first|exact Bi.b_bool (by assumption)|exact Bi.b_int (by assumption)) (by with_reducible first|exact Hy|exact GE) (by decide) ?_|exact DC|refine z9 (by ac_nf) ?_ ?_|refine Aa ?_|refine Ae (by ac_nf) ?_ ?_|refine Ci (by ac_nf) ?_ ?_|refine Cr ?_|refine Cf ?_ ?_|refine Cs ?_)
 | ((with_reducible show QA _ _ _ _);first|exact Af|refine tK _ ?_|refine wB ?_ ?_)
 | ((with_reducible show QSs _ _ _ _);first|exact Al|exact ku|refine wI _ ?_|refine wG ?_ ?_|refine Am ?_)
 | ((with_reducible show QS _ _ _ _);first|refine Ap _ ?_ ?_|refine Ao ?_|refine wH ?_|refine Aj ?_ ?_|refine An _ _ (by ac_nf) ?_ ?_|refine CA ?_ ?_ ?_|refine Ak (by ac_nf) (λ_=>PassesOwn.never) ?_ ?_ ?_|refine tN (λ_=>PassesOwn.never) ?_ ?_|refine qs_fgt _ ?_)
 | ((with_reducible show QT _ _ _ _);first|refine Aq (by ac_nf) ?_ ?_ ?_ (by with_unfolding_all rfl)|refine Ar ?_|refine As (by ac_nf) ?_|refine At ?_|refine QW.t ?_)
 | ((with_reducible show QW _ _ _ _);first|refine Au ?_ ?_|refine wL ?_)
 | ((with_reducible show QG _ _ _ _ _);first|refine wD _ ?_|refine tM (by ac_nf) (fw ?_ (fw ?_ oZ))|refine tM (by ac_nf) (fw ?_ (fw ?_ (fw ?_ oZ)))|refine Ag _ ?_ ?_|refine wC _ ?_ ?_|refine tL _ ?_ ?_ ?_)
 | ((with_reducible show QI _ _ _ _ _);first|refine qA (by ac_nf) ?_ ?_|refine qB (by ac_nf) ?_ ?_|refine Ai (by ac_nf) ?_ ?_|refine Ah (by ac_nf) ?_)
 | ((with_reducible show QO _ _ _ _);first|exact wE|refine wF ?_)
 | ((with_reducible show QTs _ _ _ _);first|exact wJ|refine wK ?_)
 | ((with_reducible show f8 _ _);first|exact Dm|exact Dn|exact Do|exact Dp|exact Dq|exact Dr|exact Bv)
 | ((with_reducible show∀_,List.Nodup _);intro _;first|assumption|exact km (by rfl'))
 | with_reducible first|assumption|exact Bi.b_bool (by assumption)|exact Bi.b_dict (by assumption)|exact Bi.b_int (by assumption)|exact Bi.b_isinstance (by assumption)|exact Bi.b_len (by assumption)|exact Bi.b_list (by assumption)|exact Bi.b_max (by assumption)|exact Bi.b_min (by assumption)|exact Bi.b_repr (by assumption)|exact Bi.b_sum (by assumption)|exact Bi.b_tuple (by assumption))
local macro_rules|`(tactic| lia)=>`(tactic| repeat' (first|infer_instance|fail))
section
variable  {P:Program}{W:World}{K:yF}{mg:Str->Option Value}{base:Heap}(A:Adr mg K)
include A
theorem v0:Has P W K mg base 1 "_law_feed" ["_law_script","_law_k"] (spP K jx):=by
 have:=c0.nd;have:=A.T
 refine Def.qp A.d0.to c0 (m:=gM) ?_ (λ_=>rfl)
 unfold gM
 lia
theorem v1:Has P W K mg base 1 "_law_take" ["_law_feed_here","_law_many"] (spI K 0 aj):=by
 have:=c1.nd;have:=A.T
 refine Def.qi A.d1.to c1 (m:=gO) ?_ (λ_=>rfl)
 unfold gO
 lia
theorem v2:Has P W K mg base 1 "_law_turned_row" ["_law_row_here","_law_way","_law_signs"] (spP K cg):=by
 have:=c2.nd;have:=A.T
 refine Def.qp A.d2.to c2 (m:=bY) ?_ (λ_=>rfl)
 unfold bY
 lia
theorem v3:Has P W K mg base 2 "_law_row" ["_law_feed_here","_law_ways"] (spI K 0 iX):=by
 have:=@v1 P W K mg base A
 have:=c3.nd;have:=A.T
 refine Def.qi A.d3.to c3 (m:=iV) ?_ (λ_=>rfl)
 unfold iV
 lia
 ·refine cb (N':=["_law_feed_here","_law_ways","_law_k"]) (by ac_nf) (λ_=>Blk.of (by rfl')) ?_ ?_ ?_ ?_<;>lia
theorem v4:Has P W K mg base 3 "_law_opposed_reads" ["_law_feed_here","_law_ways","_law_many"] (spI K 0 ce):=by
 have:=@v1 P W K mg base A
 have:=@v2 P W K mg base A
 have:=@v3 P W K mg base A
 have:=c4.nd;have:=A.T
 refine Def.qi A.d4.to c4 (m:=bt) ?_ (λ_=>rfl)
 unfold bt
 lia
 ·refine cb (N':=["_law_feed_here","_law_ways","_law_many","_law_far","_law_some","_law_way","_law_signs","_law_looks","_law_x","_law_other","_law_row_here","_law_k"]) (by ac_nf) (λ_=>Blk.of (by rfl')) ?_ ?_ ?_ ?_<;>lia
 ·refine dq _ (N':=["_law_feed_here","_law_ways","_law_many","_law_far","_law_some","_law_way","_law_signs","_law_looks","_law_x","_law_other","_law_row_here"]) (by ac_nf) (λ_=>(by first|assumption|exact km (by rfl'))) (λ_=>Blk.of (by rfl')) ?_ ?_ ?_ ?_<;>lia
theorem v5:Has P W K mg base 3 "_law_free_reads" ["_law_feed_here","_law_ways","_law_many"] (spI K 0 dr):=by
 have:=@v1 P W K mg base A
 have:=@v3 P W K mg base A
 have:=c5.nd;have:=A.T
 refine Def.qi A.d5.to c5 (m:=bV) ?_ (λ_=>rfl)
 unfold bV
 lia
 ·refine dq _ (N':=["_law_feed_here","_law_ways","_law_many","_law_looks","_law_x","_law_k"]) (by ac_nf) (λ_=>(by first|assumption|exact km (by rfl'))) (λ_=>Blk.of (by rfl')) ?_ ?_ ?_ ?_<;>lia
theorem v6:Has P W K mg base 2 "_law_back_row" ["_law_feed_here","_law_ways"] (spI K 0 cZ):=by
 have:=@v1 P W K mg base A
 have:=c6.nd;have:=A.T
 refine Def.qi A.d6.to c6 (m:=cS) ?_ (λ_=>rfl)
 unfold cS
 lia
 ·refine dq _ (N':=["_law_feed_here","_law_ways","_law_at_here","_law_more","_law_k"]) (by ac_nf) (λ_=>(by first|assumption|exact km (by rfl'))) (λ_=>Blk.of (by rfl')) ?_ ?_ ?_ ?_<;>lia
theorem v7:Has P W K mg base 3 "_law_late_reads" ["_law_feed_here","_law_ways","_law_many"] (spI K 0 cc):=by
 have:=@v1 P W K mg base A
 have:=@v6 P W K mg base A
 have:=c7.nd;have:=A.T
 refine Def.qi A.d7.to c7 (m:=bW) ?_ (λ_=>rfl)
 unfold bW
 lia
 ·refine dq _ (N':=["_law_feed_here","_law_ways","_law_many","_law_looks","_law_x","_law_k"]) (by ac_nf) (λ_=>(by first|assumption|exact km (by rfl'))) (λ_=>Blk.of (by rfl')) ?_ ?_ ?_ ?_<;>lia
theorem v8:Has P W K mg base 4 "_law_ring_reads" ["_law_feed_here","_law_ways","_law_many"] (spI K 0 dt):=by
 have:=@v7 P W K mg base A
 have:=@v1 P W K mg base A
 have:=c8.nd;have:=A.T
 refine Def.qi A.d8.to c8 (m:=bX) ?_ (λ_=>rfl)
 unfold bX
 lia
 ·refine cb (N':=["_law_feed_here","_law_ways","_law_many","_law_looks","_law_long","_law_rest","_law_k","_law_row_here","_law_j"]) (by ac_nf) (λ_=>Blk.of (by rfl')) ?_ ?_ ?_ ?_<;>lia
 ·refine cb (N':=["_law_feed_here","_law_ways","_law_many","_law_looks","_law_long","_law_rest","_law_k","_law_row_here","_law_j"]) (by ac_nf) (λ_=>Blk.of (by rfl')) ?_ ?_ ?_ ?_<;>lia
 ·refine cb (N':=["_law_feed_here","_law_ways","_law_many","_law_looks","_law_long","_law_rest","_law_k","_law_row_here","_law_number"]) (by ac_nf) (λ_=>Blk.of (by rfl')) ?_ ?_ ?_ ?_<;>lia
 ·refine cb (N':=["_law_feed_here","_law_ways","_law_many","_law_looks","_law_long","_law_rest","_law_k","_law_row_here","_law_j"]) (by ac_nf) (λ_=>Blk.of (by rfl')) ?_ ?_ ?_ ?_<;>lia
theorem v9:Has P W K mg base 5 "_law_reads" ["_law_feed_here"] (spI K 0 iu):=by
 have:=@v1 P W K mg base A
 have:=@v5 P W K mg base A
 have:=@v7 P W K mg base A
 have:=@v8 P W K mg base A
 have:=@v4 P W K mg base A
 have:=c9.nd;have:=A.T
 refine Def.qi A.d9.to c9 (m:=fS) ?_ (λ_=>rfl)
 unfold fS
 lia
theorem v10:Has P W K mg base 2 "_law_names" ["_law_feed_here","_law_many"] (spI K 0 ir):=by
 have:=@v1 P W K mg base A
 have:=c10.nd;have:=A.T
 refine Def.qi A.d10.to c10 (m:=fR) ?_ (λ_=>rfl)
 unfold fR
 lia
 ·refine cb (N':=["_law_feed_here","_law_many","_law_letters","_law_stem","_law_first","_law_at_here","_law_found","_law_k","_law_name"]) (by ac_nf) (λ_=>Blk.of (by rfl')) ?_ ?_ ?_ ?_<;>lia
theorem v11:Has P W K mg base 2 "_law_grown" ["_law_feed_here","_law_leaves"] (spI K 0 ip):=by
 have:=@v1 P W K mg base A
 have:=c11.nd;have:=A.T
 refine Def.qi A.d11.to c11 (m:=fO) ?_ (λ_=>rfl)
 unfold fO
 lia
theorem v12:Has P W K mg base 6 "_law_house" ["_law_feed_here"] (spI K 0 iq):=by
 have:=@v9 P W K mg base A
 have:=@v1 P W K mg base A
 have:=@v10 P W K mg base A
 have:=@v11 P W K mg base A
 have:=c12.nd;have:=A.T
 refine Def.qi A.d12.to c12 (m:=fQ) ?_ (λ_=>rfl)
 unfold fQ
 lia
 ·refine dq _ (N':=["_law_feed_here","_law_ways","_law_looks","_law_wheel","_law_names_here","_law_desks","_law_x","_law_leaves","_law_k","_law_number","_law_other","_law_row_here"]) (by ac_nf) (λ_=>(by first|assumption|exact km (by rfl'))) (λ_=>Blk.of (by rfl')) ?_ ?_ ?_ ?_<;>lia
theorem v13:∀n,Has P W K mg base (1+n) "_law_reads_of" ["_law_rule"] (spP K (cf n))
 | 0=>Def.qp A.d13.to c13 (m:=lg) ku (λ_=>rfl)
 | n+1=>by
  have h_l_reads_of:=v13 n
  have:=c13.nd;have:=A.T
  refine Def.qp (k:=1+n) A.d13.to c13 (m:=cT (cf n)) ?_ (λ_=>rfl)
  unfold cT
  lia
theorem v14:Has P W K mg base 26 "_law_steps" ["_law_house_here"] (spP K iw):=by
 have:=@v13 P W K mg base A 24
 have:=c14.nd;have:=A.T
 refine Def.qp A.d14.to c14 (m:=fU) ?_ (λ_=>rfl)
 unfold fU
 lia
theorem v15:Has P W K mg base 2 "_law_great" ["_law_feed_here"] (spI K 0 fY):=by
 have:=@v1 P W K mg base A
 have:=c15.nd;have:=A.T
 refine Def.qi A.d15.to c15 (m:=fN) ?_ (λ_=>rfl)
 unfold fN
 lia
theorem v16:Has P W K mg base 2 "_law_told_from" ["_law_feed_here","_law_some"] (spI K 0 dL):=by
 have:=@v1 P W K mg base A
 have:=c16.nd;have:=A.T
 refine Def.qi A.d16.to c16 (m:=cA) ?_ (λ_=>rfl)
 unfold cA
 lia
 ·refine cb (N':=["_law_feed_here","_law_some","_law_names_here","_law_at_here","_law_name"]) (by ac_nf) (λ_=>Blk.of (by rfl')) ?_ ?_ ?_ ?_<;>lia
theorem v17:Has P W K mg base 3 "_law_hand" ["_law_feed_here","_law_house_here"] (spI K 0 gU):=by
 have:=@v15 P W K mg base A
 have:=@v16 P W K mg base A
 have:=c17.nd;have:=A.T
 refine Def.qi A.d17.to c17 (m:=gN) ?_ (λ_=>rfl)
 unfold gN
 lia
 ·refine cb (N':=["_law_feed_here","_law_house_here","_law_row_here","_law_hours","_law_name","_law_rule","_law_k"]) (by ac_nf) (λ_=>Blk.of (by rfl')) ?_ ?_ ?_ ?_<;>lia
theorem v18:Has P W K mg base 1 "inner_parts" ["part"] (spP K cI):=by
 have:=c18.nd;have:=A.T
 refine Def.qp A.d18.to c18 (m:=bL) ?_ (λ_=>rfl)
 unfold bL
 lia
theorem v19:Has P W K mg base 2 "parts_of" ["rule"] (spP K eP):=by
 have:=@v18 P W K mg base A
 have:=c19.nd;have:=A.T
 refine Def.qp A.d19.to c19 (m:=cV) ?_ (λ_=>rfl)
 unfold cV
 lia
theorem v20:Has P W K mg base 3 "reads" ["rule"] (spP K iA):=by
 have:=@v19 P W K mg base A
 have:=c20.nd;have:=A.T
 refine Def.qp A.d20.to c20 (m:=fX) ?_ (λ_=>rfl)
 unfold fX
 lia
 ·refine cb (N':=["rule","part"]) (by ac_nf) (λ_=>Blk.of (by rfl')) ?_ ?_ ?_ ?_<;>lia
theorem v21:Has P W K mg base 4 "desk_steps" ["name","rule"] (spP K du):=by
 have:=@v20 P W K mg base A
 have:=c21.nd;have:=A.T
 refine Def.qp A.d21.to c21 (m:=bZ) ?_ (λ_=>rfl)
 unfold bZ
 lia
theorem v22:Has P W K mg base 5 "steps_of" ["house"] (spP K eQ):=by
 have:=@v21 P W K mg base A
 have:=c22.nd;have:=A.T
 refine Def.qp A.d22.to c22 (m:=cW) ?_ (λ_=>rfl)
 unfold cW
 lia
 ·refine wA (N':=["house","name","rule","step"]) (by ac_nf) (λ_=>Blk.of (by rfl')) rfl ?_ ?_ ?_ ?_ ?_ ?_<;>lia
theorem v23:Has P W K mg base 1 "along" ["row","place"] (spP K iz):=by
 have:=c23.nd;have:=A.T
 refine Def.qp A.d23.to c23 (m:=fW) ?_ (λ_=>rfl)
 unfold fW
 lia
 ·refine cb (N':=["row","place","number","other"]) (by ac_nf) (λ_=>Blk.of (by rfl')) ?_ ?_ ?_ ?_<;>lia
theorem v24:Has P W K mg base 6 "gain" ["house","number","row","hours"] (spP K jy):=by
 have:=@v22 P W K mg base A
 have:=@v23 P W K mg base A
 have:=c24.nd;have:=A.T
 refine Def.qp A.d24.to c24 (m:=gP) ?_ (λ_=>rfl)
 unfold gP
 lia
theorem v25:Has P W K mg base 1 "_law_at" ["_law_row_here","_law_hour","_law_place"] (spP K lu):=by
 have:=c25.nd;have:=A.T
 refine Def.qp A.d25.to c25 (m:=lh) ?_ (λ_=>rfl)
 unfold lh
 lia
 ·refine cb (N':=["_law_row_here","_law_hour","_law_place","_law_k"]) (by ac_nf) (λ_=>Blk.of (by rfl')) ?_ ?_ ?_ ?_<;>lia
theorem v26:Has P W K mg base 1 "_law_whole" ["_law_number"] (spP K iy):=by
 have:=c26.nd;have:=A.T
 refine Def.qp A.d26.to c26 (m:=fV) ?_ (λ_=>rfl)
 unfold fV
 lia
theorem v27:Has P W K mg base 7 "_law_right" ["_law_house_here","_law_step","_law_number","_law_hand_here","_law_place"] (spP K eN):=by
 have:=@v24 P W K mg base A
 have:=@v25 P W K mg base A
 have:=@v26 P W K mg base A
 have:=c27.nd;have:=A.T
 refine Def.qp A.d27.to c27 (m:=cU) ?_ (λ_=>rfl)
 unfold cU
 lia
 ·refine cb (N':=["_law_house_here","_law_step","_law_number","_law_hand_here","_law_place","_law_row_here","_law_hours","_law_name","_law_other","_law_away","_law_there","_law_found","_law_due","_law_k"]) (by ac_nf) (λ_=>Blk.of (by rfl')) ?_ ?_ ?_ ?_<;>lia
theorem v28:Has P W K mg base 27 "law" ["_law_script"] (spP K r_l_law_v5):=by
 have:=@v0 P W K mg base A
 have:=@v12 P W K mg base A
 have:=@v14 P W K mg base A
 have:=@v17 P W K mg base A
 have:=@v1 P W K mg base A
 have:=@v27 P W K mg base A
 have:=c28.nd;have:=A.T
 refine Def.qp A.d28.to c28 (m:=eK) ?_ (λ_=>rfl)
 unfold eK
 lia
 ·refine cb (N':=["_law_script","_law_k","_law_feed_here","_law_house_here","_law_steps_here","_law_hands","_law_place","_law_number","_law_hand_here","_law_kept","_law_j"]) (by ac_nf) (λ_=>Blk.of (by rfl')) ?_ ?_ ?_ ?_<;>lia
end
end K22
open PySem PySem.W PyProof.Rows
set_option maxRecDepth 100000 in
set_option maxHeartbeats 0 in
theorem PySem.Challenge.cw_clockhouse_k22_gains_of_steps_holds : PySem.Challenge.rw_clockhouse_k22_gains_of_steps.Holds := by
 refine holds_law K22.ws λsaid=>?_
 refine holds_open (q:=K22.KQ) (loose:=K22.KL) (XP:=XL K22.KQ []) (YP:=K22.KH.says) K22.left K22.KH.of K22.KH.keeps (λs e=>xl_of s (Fy.mp e).1) XL.keeps (by rfl) (by rfl) (by rfl) (λs e=>recFacts_of (Fy.mp e).2) (by rfl) said (by rfl') ⟨rfl,rfl,rfl,rfl,rfl,by decide +kernel⟩ ?hw ?hc
 case hw=>w_witness2
 exact L2.walkP (l:=PySem.Challenge.rw_clockhouse_k22_gains_of_steps) (k:=27) (x:="_law_script") (st:=K22.s_law) (run:=L2.r_l_law_v5) (A:=K22.Adr) (K:=K22.KF) rfl rfl ⟨rfl,rfl,by decide,by decide⟩ (λw h Y=>Y) K22.adr0 K22.adr_less (λmg K A=>A.d28.to) (λ_ _ _ _ _ _ s v=>.of_eq rfl) (λw mg K base A=>K22.v28 A) (λns hn=>by obtain⟨t,h1,h2⟩:=L2.k22_law (ns:=ns) hn;rw[h1,h2])
