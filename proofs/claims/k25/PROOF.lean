import PyProof.Rows.All
import Wide.All
import OpenK.AllK
import Wide.FinOn
import Lean
import PyProof.EqAt
import PyProof.EqKinds
import PyProof.TupleCall
import PyProof.CompFree
import PyProof.ConsumeWalk
import PyProof.StrWalks
import PyProof.SliceStr2
import PyProof.Rows.StrJoin2
import PyProof.StrOps2
import PyProof.ListMulRoad
import PyProof.TupleOps
import PyProof.NeKinds
import KE.KRevIter
import PyProof.Rows.SortWalk
import PyProof.Draws
import PyProof.EnumMake
import PyProof.AutoListH
import PyProof.ZipIter
import KE.KDictOf
import PyProof.AttrMissHeap
import KE.KDictList
import PyProof.SumWalkG
import PyProof.ReprRoads
import PySem.Challenge.RW_clockhouse_k25_times_of_cells
set_option Elab.async false
set_option linter.all false
set_option maxRecDepth 100000
set_option maxHeartbeats 4000000
set_option genSizeOf false
set_option compiler.extract_closed false
open List renaming getElem?_eq_some_iff → Bs,map_cons → Bt,replicate → Bu,size_toArray → Bv,length_map → Bw,nodup_append → Bx,mem_map → BB,mem_filter → BC,getElem?_map → BD,flatMap_cons → BE,length_cons → BF,flatMap_append → BH,getElem?_set_ne → BJ,append_assoc → BK,map_append → BL,length_append → BN,getD_eq_getElem?_getD → BO,filterMap_cons → BP,map_map → BR,nodup_cons → BS,mem_cons → BT,getElem?_eq_getElem → BU,cons_append → BV,mem_map_of_mem → BW,not_mem_nil → BX,replicate_succ → BY,perm_middle → BZ,range → B1,mem_filterMap → B2,append_nil → B4,lookup_cons → B5,take_of_length_le → B6,length_take → B9,getElem?_append_left → Ca,getElem?_set_self → Cc,length_drop → Cd,filter_sublist → Ce,nil_append → Cf,all_eq_true → Ch,mem_flatMap → Ci,contains_eq_mem → Cj,getElem?_cons_succ → Ck,mem_of_mem_take → Cl,getElem?_append_right → Cm,flatten_cons → Cn,cons → Cu,getElem?_cons_zero → Cv,filter_eq_self → Cy,getElem_cons_drop → CA,filter_cons → CB,nodup_nil → CD,filterMap_append → CF,getElem?_zip_eq_some → CG,drop_eq_getElem_cons → CH,length → CJ,map_nil → CL,take_add_one → CM,mem_of_mem_drop → CN,all_cons → CO,take_length → CS,eq_nil_of_length_eq_zero → CT,mem_replicate → CU,map_take → CW,mem_iff_getElem? → CY,take_append_drop → CZ,ext_getElem? → C0,mem_range → C1,length_set → C7,forIn_cons → C8,filterMap_map → C9,append_of_mem → Da,map_drop → Dc,lookup → Dd,getLast?_append → Df,mem_append → Dg,filter_map → Dh,length_zip → Di,find?_cons → Dj,filter_filter → Do,perm_ext_iff_of_nodup → Dp,getElem?_take_of_lt → Dt,any_cons → Du,append_cancel_right → Dv,getElem?_replicate → Dw,length_eq_zero_iff → DB,drop_length → DC,flatMap_eq_nil_iff → DD,foldl → DF,range_succ_eq_map → DG,sublist_cons_self → DH,map_set → DJ,of_mem_zip → DL,foldl_cons → DM,perm_append_comm → DP,set_append_left → DT,sum_cons → DY,filter_append → DZ,set_cons_succ → D0,zip_cons_cons → D3,all_nil → D7,mem_flatten → Ec,flatMap_nil → Ee,head?_drop → Eg,range_succ → Eh,forIn_nil → Ej,drop_zero → Ek,take_zero → El,drop_drop → Eo,all_map → Et
open Bool renaming and_eq_true → By,false_ne_true → BA,not_eq_true' → B7,eq_iff_iff → Cp,and_eq_true_iff → C3,and_self → C6,false_eq_true → Dn,or_eq_true → DN,false_or → DW,true_and → DX,not_eq_true → Eb,false_and → Ei,not_false → Em,and_true → Ep,true_or → Es
open Nat renaming le_refl → Bz,ne_of_lt → BG,lt_of_lt_of_le → BI,le_trans → B3,zero_add → Cb,le_add_right → Cg,lt_of_le_of_lt → Cq,lt_irrefl → Cs,zero_lt_succ → CQ,ne_of_gt → C4,zero_le → De,min_eq_left → Dk,le_of_lt → Dl,mod_lt → Dq,lt_succ_of_lt → Ds,lt_succ_self → Dz,le_max_right → DA,le_max_left → DO,le_of_ble_eq_true → DR,mul_le_mul → DS,add_le_add_left → DV,succ_mul → D5,mul_comm → D6,lt_trans → D9,min_self → Eu,le_succ → ED,log2_lt → EF
open Int renaming toNat_natCast → BM,emod_lt_of_pos → Cr,emod_nonneg → CI,eq_ofNat_of_zero_le → Dy,zero_add → Ev
open Option renaming some → BQ,map_eq_some_iff → B8,map_some → CV,isSome_iff_exists → C5,getD_none → Dx
open Array renaming length_toList → Co,toList → Er
open PySem.W renaming fnOf → Ct,keepIn → CC,codeIn → C2,cellsFrom_some → Db,findIn → Dm,methodObj → Dr,kitOne → DU,specialIn → D4,nsIn → D8,instObj → Ef
open PySem renaming mem_of_lookup → Cw,seqSlot_of → Ed
open PyProof.Rows renaming callWith_type1 → Cz,slot_tuple_getitem → CP,boot_tuple → DE,boot_list → DK,boot_int → DQ,callWith_builtin1 → Ea,boot_dict → Ew,boot_repr → Ex,boot_bool → Ey,boot_min → Ez,boot_max → EA,boot_all → EB,boot_sum → EC
local macro_rules|`(tactic| rfl')=>`(tactic| kernel_rfl)
theorem K25.ws:PySem.Challenge.rw_clockhouse_k25_times_of_cells.wellSaid=true:=by rfl'
theorem yaR {α:Type}{b : α}(x:List α){y:List α}(h:b∈y):b∈x++y:=List.mem_append_right x h
theorem yaL {α:Type}{b : α}{x:List α}(y:List α)(h:b∈x):b∈x++y:=List.mem_append_left y h
theorem ymS {α:Type}{b : α}{x:List α}:b∈b::x:=List.mem_cons_self
theorem ymC {α:Type}{b : α}(y : α){x:List α}(h:b∈x):b∈y::x:=List.mem_cons_of_mem y h
theorem yaM {α:Type}{b : α}{x y:List α}(h:b∈x++y):b∈x∨b∈y:=Dg.mp h
theorem ycM {α:Type}{b a : α}{x:List α}(h:b∈a::x):b=a∨b∈x:=BT.mp h
theorem ysM {α:Type}{b a : α}(h:b∈[a]):b=a:=List.mem_singleton.mp h
theorem ymG {α:Type}{x:List α}{i:Nat}{a : α}(h:x[i]?=some a):a∈x:=List.mem_of_getElem? h
abbrev yF:=PySem.W.Frag
namespace L2
open PySem PySem.Spec PyProof.Rows
abbrev Key:=Sum Int Str
noncomputable def il:Key->Value->Bool
 | .inl k,v=>Value.isInt k v
 | .inr x,v=>Value.isStrOf x v
noncomputable def Ba (w:World):Key->Int
 | .inl k=>hashInt k
 | .inr x=>hashStr w x
theorem aO:∀{k:Key} {v:Value},il k v=true->(∃i t,k=Sum.inl i/\v=Value.int i t)∨(∃x t,k=Sum.inr x/\v=Value.str x t)
 | .inl i,v,h=>by
  obtain⟨t,e⟩:=Value.isInt_shape (k:=i) (v:=v) h
  exact .inl ⟨i,t,rfl,e⟩
 | .inr x,v,h=>by
  obtain⟨t,e⟩:=Value.isStrOf_shape (x:=x) (v:=v) h
  exact .inr ⟨x,t,rfl,e⟩
theorem nX (i:Int)(t:Tok):il (.inl i) (.int i t)=true:=by simp[il,Value.isInt]
theorem nY (x:Str)(t:Tok):il (.inr x) (.str x t)=true:=by simp[il,Value.isStrOf]
theorem wx (a b:Int):decide ((Sum.inl a:Key)=Sum.inl b)=(a==b):=by
 by_cases e:a=b
 ·subst e;simp
 ·have h:¬ (Sum.inl a:Key)=Sum.inl b:=λq=>e (Sum.inl.inj q)
  rw[decide_eq_false h]
  exact(beq_eq_false_iff_ne.mpr e).symm
theorem wA (a b:Str):decide ((Sum.inr a:Key)=Sum.inr b)=decide (a=b):=by
 by_cases e:a=b
 ·subst e;simp
 ·have h:¬ (Sum.inr a:Key)=Sum.inr b:=λq=>e (Sum.inr.inj q)
  rw[decide_eq_false h,decide_eq_false e]
theorem wy (a:Int)(b:Str):decide ((Sum.inl a:Key)=Sum.inr b)=false:=decide_eq_false (λq=>nomatch q)
theorem wz (a:Str)(b:Int):decide ((Sum.inr a:Key)=Sum.inl b)=false:=decide_eq_false (λq=>nomatch q)
noncomputable def bH (prog:Program) (w:World):PySem.KeyKind prog w Key where
 is:=il
 hash:=Ba w
 inj:=λv a b ha hb=>by
  rcases aO ha with⟨i,t,rfl,rfl⟩|⟨x,t,rfl,rfl⟩
  ·rcases aO hb with⟨j,u,rfl,e⟩|⟨y,u,rfl,e⟩
   ·injection e with e1 _;rw[e1]
   ·exact nomatch e
  ·rcases aO hb with⟨j,u,rfl,e⟩|⟨y,u,rfl,e⟩
   ·exact nomatch e
   ·injection e with e1 _;rw[e1]
 byValue:=λk v h=>by
  rcases aO h with⟨i,t,rfl,rfl⟩|⟨x,t,rfl,rfl⟩<;>rfl
 pyHash:=λhv h=>by
  rcases aO hv with⟨i,t,rfl,rfl⟩|⟨x,t,rfl,rfl⟩
  ·exact wpAny_pyHash_int h
  ·exact wpAny_pyHash_str h
 eqBool:=λhu hv h=>by
  rcases aO hu with⟨i,t,rfl,rfl⟩|⟨x,t,rfl,rfl⟩
  ·rcases aO hv with⟨j,u,rfl,rfl⟩|⟨y,u,rfl,rfl⟩
   ·rw[wx]at h;exact wpAny_eqBool_int h
   ·rw[wy]at h;exact SeqAt.EqAt.int_str i t y u _ _ _ _ h
  ·rcases aO hv with⟨j,u,rfl,rfl⟩|⟨y,u,rfl,rfl⟩
   ·rw[wz]at h;exact SeqAt.EqAt.str_int x t j u _ _ _ _ h
   ·rw[wA]at h;exact wpAny_eqBool_str h
 «strs»:=λk x t v h=>by
  rcases aO h with⟨i,u,rfl,e⟩|⟨y,u,rfl,e⟩
  ·exact nomatch e
  ·injection e with e1 _
   subst e1
   cases v<;>rfl
theorem kU (prog:Program)(w:World)(i:Int)(t:Tok):(bH prog w).is (.inl i) (.int i t)=true:=nX i t
theorem kW (prog:Program)(w:World)(x:Str)(t:Tok):(bH prog w).is (.inr x) (.str x t)=true:=nY x t
inductive V where
 | non|bl (b:Bool)|int (i:Int)|str (x:Str)|byt (b:Array UInt8)|flt (b:UInt64)|ref (a:Addr)|ty (n:String)
 deriving DecidableEq
def RelV:V->Value->Prop
 | .non,u=>u=Value.none
 | .bl b,u=>u=Value.bool b
 | .int i,u=>∃t,u=Value.int i t
 | .str x,u=>∃t,u=Value.str x t
 | .byt b,u=>∃t,u=Value.bytes b t
 | .flt b,u=>∃t,u=Value.float b t
 | .ref a,u=>u=Value.ref a
 | .ty n,u=>u=Value.type n
abbrev Vals:List V->List Value->Prop:=Paired RelV
theorem Vals.length {xs:List V}{us:List Value}(r:Vals xs us):xs.length=us.length:=Paired.length r
theorem Vals.get:∀{xs:List V} {us:List Value} {i:Nat} {x:V},Vals xs us->xs[i]?=some x->∃u,us[i]?=some u/\RelV x u
 | _,_,_,_,.nil,e=>by simp at e
 | _,_,0,_,.cons r _,e=>by simp at e;subst e;exact⟨_,rfl,r⟩
 | _,_,i+1,x,.cons _ t,e=>by
  obtain⟨u,h1,h2⟩:=Vals.get (i:=i) (x:=x) t (by simpa using e)
  exact⟨u,by simpa using h1,h2⟩
theorem Vals.set {x:V}{u:Value}(r:RelV x u):∀{xs:List V} {us:List Value} (i:Nat),Vals xs us->Vals (xs.set i x) (us.set i u)
 | _,_,_,.nil=>.nil
 | _,_,0,.cons _ t=>.cons r t
 | _,_,i+1,.cons q t=>.cons q (Vals.set r i t)
theorem Vals.append:∀{xs ys:List V} {us ws:List Value},Vals xs us->Vals ys ws->Vals (xs++ys) (us++ws)
 | _,_,_,_,.nil,s=>s
 | _,_,_,_,.cons r t,s=>.cons r (Vals.append t s)
theorem Vals.take:∀{xs:List V} {us:List Value} (n:Nat),Vals xs us->Vals (xs.take n) (us.take n)
 | _,_,0,_=>.nil
 | _,_,_+1,.nil=>.nil
 | _,_,n+1,.cons r t=>.cons r (Vals.take n t)
theorem Vals.drop:∀{xs:List V} {us:List Value} (n:Nat),Vals xs us->Vals (xs.drop n) (us.drop n)
 | _,_,0,r=>r
 | _,_,_+1,.nil=>.nil
 | _,_,n+1,.cons _ t=>Vals.drop n t
def RelO:Option V->Option Value->Prop
 | some v,some u=>RelV v u
 | none,none=>True
 | _,_=>False
def KV {κ : Type}:List (κ×V)->List (κ×Value)->Prop:=Paired λ(p : κ×V) (q : κ×Value)=>p.1=q.1/\RelV p.2 q.2
noncomputable def kV:Key->V
 | .inl i=>.int i
 | .inr x=>.str x
inductive HO where
 | lst (xs:List V)
 | tup (xs:List V)
 | dK (kvs:List (Key×V))|dT (kvs:List (List Key×V))
 | set (S:Int->Bool) (n:Nat)
 | ins (C dx:Addr) (fs:List (Str×V))
 | own (x:Addr)
 | xd (fs:List (Str×V))
 | met (f x:Addr)
 | rng (lo hi:Int)
 | frz (o:Obj) (u:HO)
 | tbl (ps:Array Value)
 | ext (φ : Heap->Prop)
abbrev Hp:=Addr->Option HO
noncomputable def upd (H:Hp) (a:Addr) (o:HO):Hp:=λb=>if b=a then some o else H b
theorem ar {H:Hp}{a:Addr}{o:HO}:upd H a o a=some o:=by unfold upd;rw[if_pos rfl]
theorem upd_ne {H:Hp}{a b:Addr}{o:HO}(h:b≠a):upd H a o b=H b:=by unfold upd;rw[if_neg h]
theorem aT {H:Hp}{a b:Addr}{o:HO}(h:H a=some o)(h':H b=none):a≠b:=by
 intro e;subst e;rw[h]at h';cases h'
def IsTupN (h:Heap)(a:Addr)(items:Array Value):Prop:=∃o,h.get? a=some o/\(o.cls=.type "tuple" ∧ o.dict=none)/\∃n,o.data=.seq items n
theorem IsTupN.to {h:Heap}{a:Addr}{items:Array Value}(x:IsTupN h a items):IsTup h a items:=let ⟨o,e,c,d⟩:=x;⟨o,e,c.1,d⟩
theorem IsTupN.new (h:Heap)(items:Array Value):IsTupN (h.push {cls:=.type "tuple",data:=.seq items}) h.objs.size items:=⟨_,Heap.get?_push_size _ rfl,⟨rfl,rfl⟩,_,rfl⟩
section
variable  (P:Program)(w:World)
def ObjOk (H:Hp)(h:Heap)(a:Addr):HO->Prop
 | .lst xs=>xs.length<=sizeLine/\∃(its:List Value) (n:Nat),Vals xs its/\h.get? a=some {cls:=.type "list",data:=.seq its.toArray n}
 | .tup xs=>xs.length<=sizeLine/\∃its:List Value,Vals xs its/\IsTupN h a its.toArray
 | .dK kvs=>kvs.length<=sizeLine/\(a==sysModules)=false/\∃vs,KV kvs vs/\h.DictOf (bH P w) a vs
 | .dT kvs=>kvs.length<=sizeLine/\(a==sysModules)=false/\∃xs:List (List Key×Addr×Value),
   Paired (λ(p:List Key×V) (q:List Key×Addr×Value)=>p.1=q.1/\H q.2.1=some (.tup (p.1.map kV))/\RelV p.2 q.2.2) kvs xs ∧
   ∃o es ep,h.get? a=some o/\o.ExactDict/\o.data=.dict es ep/\es.toList=xs.map (entryOfKey (tupleKind (bH P w)))/\(xs.map (·.1)).Nodup
 | .set S n=>h.SetOf (intKind P w) a S n
 | .ins C dx fs=>H dx=some (.own a)/\fs.length<=1000/\dx≠a/\h.get? a=some (Ef C dx) ∧
   ∃mA,h.Ns1 dx mA/\(∀f,RelO (fs.lookup f) (mA f))/\PySem.Within mA (fs.map (·.1))
 | .own _=>∃o,h.get? a=some o
 | .xd fs=>∃mA,h.Ns1 a mA/\∀f,RelO (fs.lookup f) (mA f)
 | .rng lo hi=>∃t u v,h.get? a=some {cls:=.type "range",data:=.fields #[.int lo t,.int hi u,.int 1 v]}
 | .frz o u=>h.get? a=some o/\ObjOk H h a u
 | .tbl ps=>h.get? a=some {cls:=.none,data:=.fields ps}
 | .met f x=>h.get? a=some (Dr (.ref f) (.ref x))
 | .ext φ=>φ h/\(∃o,h.get? a=some o)/\∀h1 h2:Heap,φ h1->(∀o,h1.get? a=some o->h2.get? a=some o)->φ h2
def HOk (H:Hp)(h:Heap):Prop:=∀a o,H a=some o->ObjOk P w H h a o
end
section
variable  {P:Program}{w:World}{H H':Hp}{h h':Heap}{a:Addr}{o:HO}
theorem ObjOk.lt (x:ObjOk P w H h a o):a<h.objs.size:=by
 cases o with
 | lst xs=>obtain⟨_,_,_,_,e⟩:=x;exact Heap.lt_size e
 | tup xs=>obtain⟨_,_,_,p⟩:=x;exact p.to.lt
 | dK kvs=>obtain⟨_,_,_,_,o,_,_,e,_⟩:=x;exact Heap.lt_size e
 | dT kvs=>obtain⟨_,_,_,_,o,_,_,e,_⟩:=x;exact Heap.lt_size e
 | set S n=>obtain⟨o,_,_,_,e,_⟩:=x;exact Heap.lt_size e
 | ins C dx fs=>obtain⟨_,_,_,e,_⟩:=x;exact Heap.lt_size e
 | own y=>obtain⟨_,e⟩:=x;exact Heap.lt_size e
 | xd fs=>obtain⟨_,⟨_,_,_,e,_⟩,_⟩:=x;exact Heap.lt_size e
 | rng lo hi=>obtain⟨_,_,_,e⟩:=x;exact Heap.lt_size e
 | frz ob u=>obtain⟨e,_⟩:=x;exact Heap.lt_size e
 | tbl ps=>exact Heap.lt_size (show h.get? a=some _ from x)
 | met f y=>exact Heap.lt_size (show h.get? a=some _ from x)
 | ext φ=>obtain⟨_,⟨_,e⟩,_⟩:=x;exact Heap.lt_size e
theorem Paired.mapP {α β:Type}{F G : α->β->Prop}:∀{l₁ : List α} {l₂ : List β},Paired F l₁ l₂->(∀a b,F a b->G a b)->Paired G l₁ l₂
 | _,_,.nil,_=>.nil
 | _,_,.cons r t,f=>.cons (f _ _ r) (Paired.mapP t f)
theorem ObjOk.stay (x:ObjOk P w H h a o)(k:∀b u,(b=a∨H b=some (.own a))->h.get? b=some u->h'.get? b=some u)
  (ho:∀b,H b=some (.own a)->H' b=some (.own a)) (ht:∀b xs,H b=some (.tup xs)->H' b=some (.tup xs)):ObjOk P w H' h' a o:=by
 induction o with
 | lst xs=>obtain⟨z,its,n,r,e⟩:=x;exact⟨z,its,n,r,k _ _ (.inl rfl) e⟩
 | tup xs=>obtain⟨z,its,r,ob,e,c⟩:=x;exact⟨z,its,r,ob,k _ _ (.inl rfl) e,c⟩
 | dK kvs=>obtain⟨z,y,vs,r,ob,es,ep,e,c⟩:=x;exact⟨z,y,vs,r,ob,es,ep,k _ _ (.inl rfl) e,c⟩
 | dT kvs=>
  obtain⟨z,y,xs,r,ob,es,ep,e,c⟩:=x
  exact⟨z,y,xs,Paired.mapP r λp q z=>⟨z.1,ht _ _ z.2.1,z.2.2⟩,ob,es,ep,k _ _ (.inl rfl) e,c⟩
 | set S n=>obtain⟨ob,es,ep,t,e,c⟩:=x;exact⟨ob,es,ep,t,k _ _ (.inl rfl) e,c⟩
 | ins C dx fs=>
  obtain⟨d,z,ne,e,mA,⟨od,es,ep,e2,c⟩,r⟩:=x
  exact⟨ho _ d,z,ne,k _ _ (.inl rfl) e,mA,⟨od,es,ep,k _ _ (.inr d) e2,c⟩,r⟩
 | own y=>obtain⟨ob,e⟩:=x;exact⟨ob,k _ _ (.inl rfl) e⟩
 | xd fs=>obtain⟨mA,⟨od,es,ep,e,c⟩,r⟩:=x;exact⟨mA,⟨od,es,ep,k _ _ (.inl rfl) e,c⟩,r⟩
 | rng lo hi=>obtain⟨t,u,v,e⟩:=x;exact⟨t,u,v,k _ _ (.inl rfl) e⟩
 | frz ob u ih=>obtain⟨e,q⟩:=x;exact⟨k _ _ (.inl rfl) e,ih q⟩
 | tbl ps=>
  have e:h.get? a=some {cls:=.none,data:=.fields ps}:=x
  show h'.get? a=some {cls:=.none,data:=.fields ps}
  exact k a _ (.inl rfl) e
 | met f y=>
  have e:h.get? a=some (Dr (.ref f) (.ref y)):=x
  show h'.get? a=some (Dr (.ref f) (.ref y))
  exact k a _ (.inl rfl) e
 | ext φ=>obtain⟨p,⟨o,e⟩,st⟩:=x;exact⟨st _ _ p λo q=>k _ _ (.inl rfl) q,⟨o,k _ _ (.inl rfl) e⟩,st⟩
theorem HOk.lt (x:HOk P w H h)(e:H a=some o):a<h.objs.size:=(x a o e).lt
theorem HOk.fresh (x:HOk P w H h)(e:h.objs.size<=a):H a=none:=by
 cases q:H a with
 | none=>rfl
 | some u=>exact absurd (BI (x.lt q) e) (Cs _)
theorem HOk.kept (x:HOk P w H h)(k:∀b u,h.get? b=some u->h'.get? b=some u):HOk P w H h':=λa o e=>
 (x a o e).stay (λb u _ q=>k b u q) (λ_ q=>q) λ_ _ q=>q
theorem HOk.laid (x:HOk P w H h)(k:∀b u,h.get? b=some u->h'.get? b=some u)(hp:h.objs.size<=a)(new:ObjOk P w (upd H a o) h' a o):HOk P w (upd H a o) h':=λb u e=>by
 have hn:=x.fresh hp
 by_cases hb:b=a
 ·subst hb;rw[ar]at e;cases e;exact new
 ·rw[upd_ne hb]at e
  exact(x b u e).stay (λc v _ q=>k c v q) (λc q=>by rw[upd_ne (aT q hn)];exact q) λc xs q=>by rw[upd_ne (aT q hn)];exact q
end
def Rd (H:Hp)(a:Addr)(u:HO):Prop:=H a=some u ∨ ∃o,H a=some (.frz o u)
theorem Rd.ok {P:Program}{w:World}{H:Hp}{h:Heap}{a:Addr}{u:HO}(r:Rd H a u)(x:HOk P w H h):ObjOk P w H h a u:=by
 rcases r with r|⟨o,r⟩
 ·exact x a u r
 ·obtain⟨_,q⟩:=x a _ r
  exact q
def Mut:Option HO->Prop
 | some (.lst _)=>True
 | some (.dK _)=>True
 | some (.dT _)=>True
 | some (.set _ _)=>True
 | some (.ins _ _ _)=>True
 | some (.ext _)=>True
 | _=>False
section
variable  {P:Program}{w:World}{H:Hp}{h h':Heap}{x e:Addr}{o':HO}
theorem HOk.write (ok:HOk P w H h)(mu:Mut (H x))(he:e=x∨H e=some (.own x))(k:∀b u,b≠e->h.get? b=some u->h'.get? b=some u)(heo:∃u,h'.get? e=some u)
  (new:ObjOk P w (upd H x o') h' x o'):HOk P w (upd H x o') h':=λb u q=>by
 have nown:∀c y,H c=some (.own y)->c≠x:=λc y r z=>by subst z;rw[r]at mu;exact mu
 have ntup:∀c xs,H c=some (.tup xs)->c≠x:=λc xs r z=>by subst z;rw[r]at mu;exact mu
 by_cases hb:b=x
 ·subst hb;rw[ar]at q;cases q;exact new
 ·rw[upd_ne hb]at q
  by_cases hbe:b=e
  ·have q':H b=some (.own x):=by
    rcases he with z|z
    ·exact absurd (hbe.trans z) hb
    ·rw[hbe];exact z
   rw[q]at q';cases q'
   obtain⟨v,hv⟩:=heo
   exact⟨v,by rw[hbe];exact hv⟩
  ·refine(ok b u q).stay (λc v hc r=>k c v ?_ r) (λc r=>by rw[upd_ne (nown c b r)];exact r) λc xs r=>by rw[upd_ne (ntup c xs r)];exact r
   rcases hc with rfl|hc
   ·exact hbe
   ·rintro rfl
    rcases he with z|z
    ·exact nown c b hc z
    ·rw[hc]at z;cases z;exact hb rfl
end
structure Un (fs ex:List Addr)(H H':Hp)(h h':Heap):Prop where
 keep:∀b o,h.get? b=some o->H b=none->b∉fs->b∉ex->h'.get? b=some o
 slot:∀b o,h.get? b=some o->H b=none->b∈fs->b∉ex->∃sl,h'.get? b=some {o with slots:=sl}
 free:∀b o,h.get? b=some o->H b=none->b∉ex->H' b=none
 there:∀b o,h.get? b=some o->b∉ex->∃o',h'.get? b=some o'
 tups:∀b xs,H b=some (.tup xs)->H' b=some (.tup xs)
 frzs:∀b o u,H b=some (.frz o u)->H' b=some (.frz o u)
 tbls:∀b ps,H b=some (.tbl ps)->∃more,H' b=some (.tbl (ps++more))
section
variable  {fs fs' ex ex':List Addr}{H H1 H2:Hp}{h h1 h2 h':Heap}{a x e:Addr}{o:HO}
theorem Un.any (u:Un fs ex H H1 h h1){b:Addr}{ob:Obj}(q:h.get? b=some ob)(n:H b=none)(hx:b∉ex):∃sl,h1.get? b=some {ob with slots:=sl}:=by
 by_cases hb:b∈fs
 ·exact u.slot b ob q n hb hx
 ·exact⟨ob.slots,u.keep b ob q n hb hx⟩
theorem Un.kept (k:∀b u,h.get? b=some u->h'.get? b=some u):Un fs ex H H h h':=
 ⟨λb ob q _ _ _=>k b ob q,λb ob q _ _ _=>⟨ob.slots,k b ob q⟩,λ_ _ _ n _=>n,λb ob q _=>⟨ob,k b ob q⟩,λ_ _ q=>q,λ_ _ _ q=>q,λ_ ps q=>⟨#[],by rw[q];simp⟩⟩
theorem Un.refl:Un fs ex H H h h:=Un.kept λ_ _ q=>q
theorem Un.laid (k:∀b u,h.get? b=some u->h'.get? b=some u)(hp:h.objs.size<=a)(hn:H a=none):Un fs ex H (upd H a o) h h' where
 keep:=λb u q _ _ _=>k b u q
 slot:=λb u q _ _ _=>⟨u.slots,k b u q⟩
 free:=λb u q n _=>by rw[upd_ne (BG (BI (Heap.lt_size q) hp))];exact n
 there:=λb u q _=>⟨u,k b u q⟩
 tups:=λb xs q=>by rw[upd_ne (aT q hn)];exact q
 frzs:=λb u xs q=>by rw[upd_ne (aT q hn)];exact q
 tbls:=λb ps q=>⟨#[],by rw[upd_ne (aT q hn),q];simp⟩
theorem Un.write (mu:Mut (H x))(he:e=x∨H e=some (.own x))(k:∀b u,b≠e->h.get? b=some u->h'.get? b=some u)(heo:∃u,h'.get? e=some u):Un fs ex H (upd H x o) h h':=by
 have hx:∀b,H b=none->b≠x:=λb n z=>by subst z;rw[n]at mu;exact mu
 have hb:∀b,H b=none->b≠e:=λb n z=>by
  subst z
  rcases he with r|r
  ·exact hx b n r
  ·rw[n]at r;cases r
 have hm:∀b u,H b=some u->¬ Mut (some u)->b≠x:=λb u q nm z=>by subst z;rw[q]at mu;exact nm mu
 refine⟨λb u q n _ _=>k b u (hb b n) q,λb u q n _ _=>⟨u.slots,k b u (hb b n) q⟩,λb u q n _=>by rw[upd_ne (hx b n)];exact n,λb u q _=>?_,
  λb xs q=>by rw[upd_ne (hm b _ q λz=>z)];exact q,λb u xs q=>by rw[upd_ne (hm b _ q λz=>z)];exact q,λb ps q=>⟨#[],by rw[upd_ne (hm b _ q λz=>z),q];simp⟩⟩
 by_cases hbe:b=e
 ·subst hbe;exact heo
 ·exact⟨u,k b u hbe q⟩
end
noncomputable def trk (h:Heap) (H:Hp):List Addr:=(B1 h.objs.size).filter λa=>(H a).isSome
noncomputable def jY (h:Heap) (H:Hp):Heap:=PySem.W.hideAll h (trk h H)
theorem nS (h:Heap)(H:Hp):(jY h H).objs.size=h.objs.size:=PySem.W.hideAll_size _ _
theorem pG {h:Heap}{H:Hp}{b:Addr}{o:Obj}(e:h.get? b=some o)(n:H b=none):(jY h H).get? b=some o:=
 PySem.W.hideAll_get _ e λhm=>by
  have q:(H b).isSome=true:=(BC.mp hm).2
  rw[n]at q;simp at q
theorem tp {h:Heap}{H:Hp}{b:Addr}{o:Obj}(e:(jY h H).get? b=some o):h.get? b=some o/\H b=none:=by
 have e':h.get? b=some o:=PySem.W.of_hideAll (trk h H) e
 refine⟨e',?_⟩
 cases q:H b with
 | none=>rfl
 | some x=>
  have hm:b∈trk h H:=BC.mpr ⟨C1.mpr (Heap.lt_size e'),by simp[q]⟩
  have z:(jY h H).get? b=none:=PySem.W.hideAll_none (trk h H) hm
  rw[z]at e;cases e
noncomputable def sA (g h:Heap) (L:Addr):List (Addr×Obj):=(B1 h.objs.size).filterMap λa=>if a=L∨(g.get? a).isSome=true then none else(h.get? a).map λo=>(a,o)
noncomputable def rest (g h:Heap) (L d:Addr):List (Addr×Obj):=(sA g h L).filter λp=>decide (p.1≠d)
structure Mod (K:yF)(mg:Str->Option Value)(base:Heap):Prop where
 kin:K.In base
 glob:base.Ns mainGlobals mg
 blt:∃mb,base.Ns builtinsNs mb/\∀x:Str,x ≠ "__name__" → mb x=bootBuiltins x
 nolimit:base.NoLimit
structure Cx where
 prog:Program
 w:World
 K:yF
 mg:Str->Option Value
 base:Heap
 A:Around
 N:List Str
 s₀ : Shared
 H₀ : Hp
 env:Env
 outer:List Env
 stack:List Env
 ex:List Addr
 fn:Str->Bool
 calm:Bool
 pn:List (Addr×Obj)
 xe:Value->Shared->Prop
def frs (l:List Env):List Addr:=l.filterMap (·.frame)
noncomputable abbrev Cx.fs (X:Cx):List Addr:=frs X.outer
def Vis (sc:Scope)(x:Str):Prop:=sc.names.lookup x=some .local∨sc.names.lookup x=some .cell∨sc.names.lookup x=some .free
def Loc (sc:Scope)(x:Str):Prop:=sc.names.lookup x=some .local∨sc.names.lookup x=some .cell
def AR (env:Env)(h:Heap)(m:Str->Option Value)(x:Str)(u:Value):Prop:=
 (env.kindOf x=some .local/\m x=some u)∨((env.kindOf x=some .cell∨env.kindOf x=some .free)/\∃c,env.cells.lookup x=some c/\h.IsCell c (some u))
structure Cx.Ok (X:Cx):Prop where
 mod:Mod X.K X.mg X.base
 kind:X.env.scope.kind=.function
 glob:X.env.globals=mainGlobals
 blt:X.env.builtins=builtinsNs
 above:X.s₀.heap.objs.size<=X.env.locals
 inj:∀x y c,X.env.cells.lookup x=some c->X.env.cells.lookup y=some c->x=y
 has:∀x,(X.env.kindOf x=some .cell∨X.env.kindOf x=some .free)->∃c,X.env.cells.lookup x=some c
 cab:∀x c,X.fn x=true->X.env.cells.lookup x=some c->X.s₀.heap.objs.size<=c
 hd:X.calm=true->X.A.handled=none
 gd:X.calm=true->X.A.guards=some []
 frames:X.A.frames=some X.stack
 stk:X.stack=X.outer∨(X.stack=X.env::X.outer/\X.env.frame=some X.env.locals)
 exf:∀b∈X.ex,b≠X.env.locals/\∀x c,X.env.cells.lookup x=some c->c≠b
 bs:∀b o,X.base.get? b=some o->X.s₀.heap.get? b=some o/\X.H₀ b=none
 bsz:X.base.objs.size<=X.s₀.heap.objs.size
 noex:∀b o,X.base.get? b=some o->b∉X.ex
 exfs:∀b∈X.ex,b∉X.fs
 funs:X.s₀.heap.FunFrames X.base X.outer
 frf:∀b∈X.fs,X.H₀ b=none
structure Inv (X:Cx)(pins:List (Addr×Obj))(Z:List (Option V))(H:Hp)(s:Shared):Prop where
 ok:X.Ok
 os:s.os=X.s₀.os
 bare:AllBare s.gens
 base:Un X.fs X.ex X.H₀ H X.s₀.heap s.heap
 loc:∃m,s.heap.Ns X.env.locals m/\∀(i:Nat) (x:Str) (v:V),X.N[i]?=some x->Z[i]?=some (some v)->Vis X.env.scope x->∃u,RelV v u/\AR X.env s.heap m x u
 cell:∀x c,X.env.cells.lookup x=some c->∃v,s.heap.IsCell c v
 free:H X.env.locals=none
 freeC:∀x c,X.env.cells.lookup x=some c->H c=none
 pin:∀p∈X.pn++pins,s.heap.get? p.1=some p.2/\H p.1=none/\p.1≠X.env.locals/\p.1∉X.fs/\∀v,p.2.data ≠ .cell v
 hok:HOk X.prog X.w H s.heap
 len:Z.length=X.N.length
section
variable  {X:Cx}{pins:List (Addr×Obj)}{Z:List (Option V)}{H H':Hp}{s:Shared}{h':Heap}
theorem Cx.Ok.nofr (ok:X.Ok){b:Addr}{o:Obj}(e:X.base.get? b=some o):b∉X.fs:=λhb=>by
 have:=(ok.funs.mem hb).1
 rw[e]at this;cases this
theorem Inv.bs (I:Inv X pins Z H s):∀b o,X.base.get? b=some o->s.heap.get? b=some o/\H b=none:=λb o e=>
 ⟨I.base.keep b o (I.ok.bs b o e).1 (I.ok.bs b o e).2 (I.ok.nofr e) (I.ok.noex b o e),I.base.free b o (I.ok.bs b o e).1 (I.ok.bs b o e).2 (I.ok.noex b o e)⟩
theorem Inv.bk (I:Inv X pins Z H s):∀b o,X.base.get? b=some o->s.heap.get? b=some o:=λb o e=>(I.bs b o e).1
theorem Inv.mod (I:Inv X pins Z H s):Mod X.K X.mg X.base:=I.ok.mod
theorem Inv.kIn (I:Inv X pins Z H s):X.K.In s.heap:=I.ok.mod.kin.keeps I.bk
theorem Inv.fr (I:Inv X pins Z H s):∃m,Fr X.base X.env.locals s.heap m:=
 let ⟨m,hn,_⟩:=I.loc
 ⟨m,hn,I.bk,B3 I.ok.bsz I.ok.above⟩
theorem Inv.lt (I:Inv X pins Z H s):X.env.locals<s.heap.objs.size:=let ⟨_,hn,_⟩:=I.loc;hn.lt
theorem Inv.sz (I:Inv X pins Z H s):X.s₀.heap.objs.size<=s.heap.objs.size:=B3 I.ok.above (Dl I.lt)
theorem Inv.nofs (I:Inv X pins Z H s){a:Addr}(h:s.heap.objs.size<=a):a∉X.fs:=λhb=>by
 obtain⟨_,o,ho,_⟩:=I.ok.funs.mem hb
 exact absurd (BI (Heap.lt_size ho) (B3 I.sz h)) (Cs _)
theorem Inv.cne (I:Inv X pins Z H s):∀x c,X.env.cells.lookup x=some c->c≠X.env.locals:=λx c e z=>by
 obtain⟨v,o,ho,hd⟩:=I.cell x c e
 obtain⟨m,⟨o',es,ep,ho',hd',_⟩,_⟩:=I.loc
 rw[z,ho']at ho;cases ho;rw[hd']at hd;cases hd
theorem Inv.funs (I:Inv X pins Z H s):s.heap.FunFrames X.base X.outer:=by
 have all:∀(l:List Env),(∀b∈frs l,b∈X.fs)->X.s₀.heap.FunFrames X.base l->s.heap.FunFrames X.base l:=by
  intro l
  induction l with
  | nil=>intro _ _;trivial
  | cons env r ih=>
   intro hs hl
   obtain⟨hk,⟨L,o,hf,hn,ho,hd⟩,hr⟩:=hl
   have hL:L∈X.fs:=hs L (by unfold frs;rw[BP,hf];exact ymS)
   obtain⟨sl,e⟩:=I.base.slot L o ho (I.ok.frf L hL) hL λz=>I.ok.exfs L z hL
   exact⟨hk,⟨L,_,hf,hn,e,hd⟩,ih (λb hb=>hs b (by unfold frs;rw[BP,hf];exact ymC _ hb)) hr⟩
 exact all X.outer (λ_ hb=>hb) I.ok.funs
theorem Inv.stack (I:Inv X pins Z H s):s.heap.FunFrames X.base X.stack:=by
 rcases I.ok.stk with e|⟨e,hf⟩
 ·rw[e];exact I.funs
 ·rw[e]
  obtain⟨m,hn,_⟩:=I.loc
  refine .cons (by rw[I.ok.kind];decide) hf hn ?_ I.funs
  exact Heap.get?_none_of_le (B3 I.ok.bsz I.ok.above)
theorem Inv.stkSub (I:Inv X pins Z H s):∀b∈frs X.stack,b∈X.env.locals::X.fs:=λb hb=>by
 rcases I.ok.stk with e|⟨e,hf⟩
 ·rw[e]at hb;exact ymC _ hb
 ·rw[e]at hb
  unfold frs at hb
  rw[BP,hf]at hb
  exact hb
theorem Inv.stkFree (I:Inv X pins Z H s):∀b∈frs X.stack,H b=none:=λb hb=>by
 rcases ycM (I.stkSub b hb)with e|hb
 ·rw[e];exact I.free
 ·obtain⟨_,o,ho,_⟩:=I.ok.funs.mem hb
  exact I.base.free b o ho (I.ok.frf b hb) λz=>I.ok.exfs b z hb
theorem Inv.step {g':Array GenState}{t':Nat}{d':Drawn}{ch:List Addr}(I:Inv X pins Z H s)
  (hch:∀b∈ch,(b∈X.ex∨X.s₀.heap.objs.size<=b)/\b≠X.env.locals/\(∀x c,X.env.cells.lookup x=some c->c≠b)/\∀p∈X.pn++pins,p.1≠b)
  (keep:∀b o,b≠X.env.locals->b∉X.fs->b∉ch->s.heap.get? b=some o->H b=none->h'.get? b=some o)
  (slot:∀b o,b≠X.env.locals->b∈X.fs->b∉ch->s.heap.get? b=some o->H b=none->∃sl,h'.get? b=some {o with slots:=sl}) (free:∀b o,b∉ch->s.heap.get? b=some o->H b=none->H' b=none)
  (there:∀b o,b∉ch->s.heap.get? b=some o->∃o',h'.get? b=some o')
  (tups:∀b xs,H b=some (.tup xs)->H' b=some (.tup xs)) (frzs:∀b o u,H b=some (.frz o u)->H' b=some (.frz o u)) (tbls:∀b ps,H b=some (.tbl ps)->∃more,H' b=some (.tbl (ps++more)))
  (ns:∀m,s.heap.Ns X.env.locals m->h'.Ns X.env.locals m) (hok:HOk X.prog X.w H' h') (hg:AllBare g') :
  Inv X pins Z H' {s with heap:=h',gens:=g',drawn:=d',toks:=t'}:=by
 have neL:∀b o,X.s₀.heap.get? b=some o->b≠X.env.locals:=λb o e=>BG (BI (Heap.lt_size e) I.ok.above)
 have neC:∀b o,X.s₀.heap.get? b=some o->b∉X.ex->b∉ch:=λb o e hx hb=>by
  rcases(hch b hb).1 with z|z
  ·exact hx z
  ·exact absurd (BI (Heap.lt_size e) z) (Cs _)
 have cellK:∀x c,X.env.cells.lookup x=some c->∀v,s.heap.IsCell c v->h'.IsCell c v:=λx c e v ⟨o,ho,hd⟩=>by
  have nch:c∉ch:=λz=>(hch c z).2.2.1 x c e rfl
  by_cases hc:c∈X.fs
  ·obtain⟨sl,q⟩:=slot c o (I.cne x c e) hc nch ho (I.freeC x c e)
   exact⟨_,q,hd⟩
  ·exact⟨o,keep c o (I.cne x c e) hc nch ho (I.freeC x c e),hd⟩
 refine⟨I.ok,I.os,hg,⟨λb o e n hb hx=>?_,λb o e n hb hx=>?_,λb o e n hx=>?_,λb o e hx=>?_,λb xs e=>tups b xs (I.base.tups b xs e),λb o xs e=>frzs b o xs (I.base.frzs b o xs e),λb ps e=>?_⟩,?_,λx c e=>?_,?_,λx c e=>?_,λp hp=>?_,hok,I.len⟩
 ·exact keep b o (neL b o e) hb (neC b o e hx) (I.base.keep b o e n hb hx) (I.base.free b o e n hx)
 ·obtain⟨sl,e1⟩:=I.base.slot b o e n hb hx
  obtain⟨sl',e2⟩:=slot b _ (neL b o e) hb (neC b o e hx) e1 (I.base.free b o e n hx)
  exact⟨sl',e2⟩
 ·obtain⟨o',e1⟩:=I.base.there b o e hx
  exact free b o' (neC b o e hx) e1 (I.base.free b o e n hx)
 ·obtain⟨o',e1⟩:=I.base.there b o e hx
  exact there b o' (neC b o e hx) e1
 ·obtain⟨m1,e1⟩:=I.base.tbls b ps e
  obtain⟨m2,e2⟩:=tbls b _ e1
  exact⟨m1++m2,by rw[e2,Array.append_assoc]⟩
 ·obtain⟨m,hn,hl⟩:=I.loc
  refine⟨m,ns m hn,λi x v e1 e2 e3=>?_⟩
  obtain⟨u,r,l⟩:=hl i x v e1 e2 e3
  refine⟨u,r,?_⟩
  rcases l with l|⟨k,c,e,z⟩
  ·exact .inl l
  ·exact .inr ⟨k,c,e,cellK x c e _ z⟩
 ·obtain⟨v,z⟩:=I.cell x c e
  exact⟨v,cellK x c e v z⟩
 ·obtain⟨m,⟨o,_,_,ho,_⟩,_⟩:=I.loc
  exact free _ o (λz=>(hch _ z).2.1 rfl) ho I.free
 ·obtain⟨v,o,ho,hd⟩:=I.cell x c e
  exact free c o (λz=>(hch c z).2.2.1 x c e rfl) ho (I.freeC x c e)
 ·obtain⟨e,n,ne,nf,d⟩:=I.pin p hp
  have nch:p.1∉ch:=λz=>(hch p.1 z).2.2.2 p hp rfl
  exact⟨keep p.1 p.2 ne nf nch e n,free p.1 p.2 nch e n,ne,nf,d⟩
theorem Inv.un {t':Nat}(I:Inv X pins Z H s)(u:Un X.fs [] H H' s.heap h')(hok:HOk X.prog X.w H' h'):Inv X pins Z H' {s with heap:=h',toks:=t'}:=by
 obtain⟨m,⟨o,es,ep,ho,r⟩,_⟩:=id I.loc
 obtain⟨sl,hL⟩:=u.any ho I.free (by simp)
 exact I.step (g':=s.gens) (d':=s.drawn) (ch:=[]) (λ_ z=>nomatch z) (λb o _ hb _ e n=>u.keep b o e n hb (by simp)) (λb o _ hb _ e n=>u.slot b o e n hb (by simp)) (λb o _ e n=>u.free b o e n (by simp)) (λb o _ e=>u.there b o e (by simp)) u.tups u.frzs u.tbls (λm' hm=>by
  obtain⟨o',es',ep',ho',r'⟩:=hm
  rw[ho]at ho';cases ho'
  exact⟨_,es',ep',hL,r'⟩) hok I.bare
theorem Inv.call {g':Array GenState}{t':Nat}{d':Drawn}{ch:List Addr}(I:Inv X pins Z H s)(u:Un (frs X.stack) ch H H' s.heap h')(hok:HOk X.prog X.w H' h')(hg:AllBare g')
  (hch:∀b∈ch,(b∈X.ex∨X.s₀.heap.objs.size<=b)/\b≠X.env.locals/\(∀x c,X.env.cells.lookup x=some c->c≠b)/\∀p∈X.pn++pins,p.1≠b) :
  Inv X pins Z H' {s with heap:=h',gens:=g',drawn:=d',toks:=t'}:=by
 obtain⟨m,⟨o,es,ep,ho,r⟩,_⟩:=id I.loc
 obtain⟨sl,hL⟩:=u.any ho I.free λz=>(hch _ z).2.1 rfl
 exact I.step (ch:=ch) hch (λb o hL hb hc e n=>u.keep b o e n (λz=>(ycM (I.stkSub b z)).elim hL hb) hc) (λb o _ _ hc e n=>u.any e n hc) (λb o hc e n=>u.free b o e n hc) (λb o hc e=>u.there b o e hc) u.tups u.frzs u.tbls (λm' hm=>by
  obtain⟨o',es',ep',ho',r'⟩:=hm
  rw[ho]at ho';cases ho'
  exact⟨_,es',ep',hL,r'⟩) hok hg
theorem Inv.turned {t':Nat}{it:Addr}(I:Inv X pins Z H s)(k:∀b o,b≠it->s.heap.get? b=some o->h'.get? b=some o)(hn:H it=none)(hL:it≠X.env.locals)
  (h1:it∈X.ex∨X.s₀.heap.objs.size<=it) (h2:∀x c,X.env.cells.lookup x=some c->c≠it) (h3:∀p∈X.pn++pins,p.1≠it):Inv X pins Z H {s with heap:=h',toks:=t'}:=by
 have nit:∀b u,H b=some u->b≠it:=λb u e z=>by rw[z,hn]at e;cases e
 refine I.step (g':=s.gens) (d':=s.drawn) (ch:=[it]) (λb hb=>?_) (λb o _ _ hc e _=>k b o (λz=>hc (by simp[z])) e) (λb o _ _ hc e _=>⟨o.slots,k b o (λz=>hc (by simp[z])) e⟩) (λ_ _ _ _ n=>n)
  (λb o hc e=>⟨o,k b o (λz=>hc (by simp[z])) e⟩) (λ_ _ e=>e) (λ_ _ _ e=>e) (λb ps e=>⟨#[],by rw[e];simp⟩) (λm hm=>?_) (λb u e=>?_) I.bare
 ·have e:b=it:=by simpa using hb
  subst e
  exact⟨h1,hL,h2,h3⟩
 ·obtain⟨o,es,ep,ho,r⟩:=hm
  exact⟨o,es,ep,k _ o (Ne.symm hL) ho,r⟩
 ·refine(I.hok b u e).stay (λc v hc q=>k c v ?_ q) (λ_ q=>q) λ_ _ q=>q
  rcases hc with z|z
  ·rw[z];exact nit b u e
  ·exact nit c _ z
theorem Inv.tok (I:Inv X pins Z H s)(t:Nat):Inv X pins Z H {s with toks:=t}:=I.un (h':=s.heap) (t':=t) Un.refl I.hok
theorem Inv.kept {t':Nat}(I:Inv X pins Z H s)(k:∀b u,s.heap.get? b=some u->h'.get? b=some u):Inv X pins Z H {s with heap:=h',toks:=t'}:=I.un (Un.kept k) (I.hok.kept k)
theorem Inv.laid {a:Addr}{o:HO}{t':Nat}(I:Inv X pins Z H s)(k:∀b u,s.heap.get? b=some u->h'.get? b=some u)(hp:s.heap.objs.size<=a)(new:ObjOk X.prog X.w (upd H a o) h' a o) :
  Inv X pins Z (upd H a o) {s with heap:=h',toks:=t'}:=I.un (Un.laid k hp (I.hok.fresh hp)) (I.hok.laid k hp new)
theorem Inv.write {x e:Addr}{o:HO}{t':Nat}(I:Inv X pins Z H s)(mu:Mut (H x))(he:e=x∨H e=some (.own x))(k:∀b u,b≠e->s.heap.get? b=some u->h'.get? b=some u)(heo:∃u,h'.get? e=some u)
  (new:ObjOk X.prog X.w (upd H x o) h' x o):Inv X pins Z (upd H x o) {s with heap:=h',toks:=t'}:=I.un (Un.write mu he k heo) (I.hok.write mu he k heo new)
theorem Inv.weak {Z':List (Option V)}(I:Inv X pins Z H s)(hl:Z'.length=Z.length)(w:∀(i:Nat) v,Z'[i]?=some (some v)->Z[i]?=some (some v)):Inv X pins Z' H s:=
 ⟨I.ok,I.os,I.bare,I.base,let ⟨m,hn,hl'⟩:=I.loc;⟨m,hn,λi x v e1 e2 e3=>hl' i x v e1 (w i v e2) e3⟩,I.cell,I.free,I.freeC,I.pin,I.hok,hl.trans I.len⟩
theorem Inv.pins_of {pins':List (Addr×Obj)}(I:Inv X pins Z H s)(h:∀p∈pins',s.heap.get? p.1=some p.2/\H p.1=none/\p.1≠X.env.locals/\p.1∉X.fs/\∀v,p.2.data ≠ .cell v):Inv X pins' Z H s:=
 ⟨I.ok,I.os,I.bare,I.base,I.loc,I.cell,I.free,I.freeC,λp hp=>(yaM hp).elim (λz=>I.pin p (yaL _ z)) (h p),I.hok,I.len⟩
theorem k5 {N:List Str}(hN:N.Nodup){i j:Nat}{x:Str}(a:N[i]?=some x)(b:N[j]?=some x):i=j:=by
 obtain⟨h1,e1⟩:=Bs.mp a
 obtain⟨h2,e2⟩:=Bs.mp b
 exact(List.getElem_inj hN).mp (e1.trans e2.symm)
theorem jz {M:Model}{A:Around}{E:Value->Shared->Prop}{i:Nat}{x:Str}{v:V}{u:Value}{Q:Unit->Shared->Prop}(I:Inv X pins Z H s)(hN:X.N.Nodup)(hi:X.N[i]?=some x)(hx:Loc X.env.scope x)(r:RelV v u)
  (h:∀s',Inv X pins (Z.set i (some v)) H s'->(∃a,Heap.SameBut a s.heap s'.heap/\(a=X.env.locals∨X.env.cells.lookup x=some a))->Q () s') (hf:X.fn x=true∨X.env.scope.names.lookup x=some .local:=by first|exact .inl rfl|exact .inr rfl|assumption):wpAny M A (storeName X.env x u) Q E s:=by
 obtain⟨m,hn,hl⟩:=id I.loc
 have hcls:(X.env.scope.kind == .class||(X.env.scope.kind == .module&&X.env.locals != X.env.globals))=false:=by rw[I.ok.kind];rfl
 have hiZ:i<Z.length:=by rw[I.len];exact(Bs.mp hi).1
 have cne:=I.cne
 have tracked:∀{a:Addr} {h':Heap},(∃o,s.heap.get? a=some o/\H a=none)->Heap.SameBut a s.heap h'->HOk X.prog X.w H h':=λ{a h'} ha hs b ob e=>by
  obtain⟨_,_,hfree⟩:=ha
  refine(I.hok b ob e).stay (λc w' hc q=>(hs.2 c ?_).trans q) (λ_ q=>q) λ_ _ q=>q
  rintro rfl
  rcases hc with rfl|hc
  ·rw[hfree]at e;cases e
  ·rw[hfree]at hc;cases hc
 rcases hx with hk|hk
 ·refine wpAny_storeName_local hk hn (λh' hn' hs=>?_) hcls
  obtain⟨oL,_,_,hoL,_⟩:=id hn
  refine h _ ⟨I.ok,I.os,I.bare,⟨λb o e n hb hx=>?_,λb o e n hb hx=>?_,I.base.free,λb o e hx=>?_,I.base.tups,I.base.frzs,I.base.tbls⟩,⟨_,hn',λj y v' e1 e2 e3=>?_⟩,λy c e=>?_,I.free,I.freeC,λp hp=>?_,tracked ⟨oL,hoL,I.free⟩ hs,by simpa using I.len⟩ ⟨_,hs,.inl rfl⟩
  ·exact(hs.2 b (BG (BI (Heap.lt_size e) I.ok.above))).trans (I.base.keep b o e n hb hx)
  ·obtain⟨sl,e1⟩:=I.base.slot b o e n hb hx
   exact⟨sl,(hs.2 b (BG (BI (Heap.lt_size e) I.ok.above))).trans e1⟩
  ·obtain⟨o',e1⟩:=I.base.there b o e hx
   exact⟨o',(hs.2 b (BG (BI (Heap.lt_size e) I.ok.above))).trans e1⟩
  ·by_cases hj:j=i
   ·subst hj
    rw[hi]at e1;cases e1
    rw[Cc hiZ]at e2
    cases e2
    exact⟨u,r,.inl ⟨hk,by simp⟩⟩
   ·rw[BJ (Ne.symm hj)]at e2
    obtain⟨u',r',q⟩:=hl j y v' e1 e2 e3
    refine⟨u',r',?_⟩
    rcases q with⟨k,e⟩|⟨k,c,e,z⟩
    ·refine .inl ⟨k,?_⟩
     have:y≠x:=λe=>hj (k5 hN e1 (e▸hi))
     simp[this,e]
    ·exact .inr ⟨k,c,e,z.sameBut hs (cne y c e)⟩
  ·obtain⟨w',z⟩:=I.cell y c e
   exact⟨w',z.sameBut hs (cne y c e)⟩
  ·obtain⟨e,n,ne,nf,d⟩:=I.pin p hp
   exact⟨(hs.2 p.1 ne).trans e,n,ne,nf,d⟩
 ·have hfn:X.fn x=true:=by
   rcases hf with z|z
   ·exact z
   ·rw[z]at hk;cases hk
  obtain⟨c,hc⟩:=I.ok.has x (.inl hk)
  obtain⟨w',z⟩:=I.cell x c hc
  refine wpAny_storeName_cell I.ok.kind hk hc z (λh' hc' hs=>?_)
  obtain⟨oc,hoc,hocd⟩:=id z
  refine h {s with heap:=h'} ⟨I.ok,I.os,I.bare,⟨λb o e n hb hx=>?_,λb o e n hb hx=>?_,I.base.free,λb o e hx=>?_,I.base.tups,I.base.frzs,I.base.tbls⟩,⟨m,hn.sameBut hs (Ne.symm (cne x c hc)),λj y v' e1 e2 e3=>?_⟩,λy c' e=>?_,I.free,I.freeC,λp hp=>?_,tracked ⟨oc,hoc,I.freeC x c hc⟩ hs,by simpa using I.len⟩ ⟨c,hs,.inr hc⟩
  ·exact(hs.2 b (BG (BI (Heap.lt_size e) (I.ok.cab x c hfn hc)))).trans (I.base.keep b o e n hb hx)
  ·obtain⟨sl,e1⟩:=I.base.slot b o e n hb hx
   exact⟨sl,(hs.2 b (BG (BI (Heap.lt_size e) (I.ok.cab x c hfn hc)))).trans e1⟩
  ·obtain⟨o',e1⟩:=I.base.there b o e hx
   exact⟨o',(hs.2 b (BG (BI (Heap.lt_size e) (I.ok.cab x c hfn hc)))).trans e1⟩
  ·by_cases hj:j=i
   ·subst hj
    rw[hi]at e1;cases e1
    rw[Cc hiZ]at e2
    cases e2
    exact⟨u,r,.inr ⟨.inl hk,c,hc,hc'⟩⟩
   ·rw[BJ (Ne.symm hj)]at e2
    obtain⟨u',r',q⟩:=hl j y v' e1 e2 e3
    refine⟨u',r',?_⟩
    rcases q with q|⟨k,c',e,z'⟩
    ·exact .inl q
    ·refine .inr ⟨k,c',e,z'.sameBut hs ?_⟩
     rintro rfl
     exact hj (k5 hN e1 (I.ok.inj _ _ _ e hc▸hi))
  ·by_cases hcc:c'=c
   ·subst hcc;exact⟨_,hc'⟩
   ·obtain⟨w2,z2⟩:=I.cell y c' e
    exact⟨w2,z2.sameBut hs hcc⟩
  ·obtain⟨e,n,ne,nf,d⟩:=I.pin p hp
   refine⟨(hs.2 p.1 ?_).trans e,n,ne,nf,d⟩
   intro q
   rw[q,hoc]at e
   have q':oc=p.2:=BQ.inj e
   exact d w' (by rw[←q'];exact hocd)
theorem fZ {M:Model}{A:Around}{E:Value->Shared->Prop}{i:Nat}{x:Str}{v:V}{u:Value}{Q:Unit->Shared->Prop}(I:Inv X pins Z H s)(hN:X.N.Nodup)(hi:X.N[i]?=some x)(hx:Loc X.env.scope x)(r:RelV v u)
  (h:∀s',Inv X pins (Z.set i (some v)) H s'->Q () s') (hf:X.fn x=true∨X.env.scope.names.lookup x=some .local:=by first|exact .inl rfl|exact .inr rfl|assumption):wpAny M A (storeName X.env x u) Q E s:=
 jz I hN hi hx r (λs' I' _=>h s' I') hf
theorem Inv.call' {s':Shared}{ch:List Addr}(I:Inv X pins Z H s)(ho:s'.os=s.os)(u:Un (frs X.stack) ch H H' s.heap s'.heap)(hok:HOk X.prog X.w H' s'.heap)(hg:AllBare s'.gens)
  (hch:∀b∈ch,(b∈X.ex∨X.s₀.heap.objs.size<=b)/\b≠X.env.locals/\(∀x c,X.env.cells.lookup x=some c->c≠b)/\∀p∈X.pn++pins,p.1≠b):Inv X pins Z H' s':=by
 obtain⟨h',g',d',t',o'⟩:=s'
 have e:o'=s.os:=ho
 subst e
 exact I.call (g':=g') (t':=t') (d':=d') u hok hg hch
end
abbrev XK:=Value->Option Addr->Hp->Prop
abbrev St:=List (Option V)
abbrev VK:=V->Hp->Prop
abbrev TE:=St->Hp->VK->Prop
abbrev TT:=St->Hp->(Bool->Hp->Prop)->Prop
abbrev TA:=St->Hp->(List V->Hp->Prop)->Prop
structure Ends where
 nx:St->Hp->Prop
 rt:VK
 bk:St->Hp->Prop:=λ_ _=>False
 ct:St->Hp->Prop:=λ_ _=>False
abbrev TS:=Ends->St->Hp->Prop
def EP (X:Cx)(pins:List (Addr×Obj))(Z:St)(Q:VK)(u:Value)(s':Shared):Prop:=∃v H',Inv X pins Z H' s'/\RelV v u/\Q v H'
def TP (X:Cx)(pins:List (Addr×Obj))(Z:St)(Q:Bool->Hp->Prop)(b:Bool)(s':Shared):Prop:=∃H',Inv X pins Z H' s'/\Q b H'
def AP (X:Cx)(pins:List (Addr×Obj))(Z:St)(Q:List V->Hp->Prop)(us:List Value)(s':Shared):Prop:=∃vs H',Inv X pins Z H' s'/\Vals vs us/\Q vs H'
def SP (X:Cx)(pins:List (Addr×Obj))(D:Ends)(f:Flow)(s':Shared):Prop:=
 match f with
 | .next=>∃Z' H',Inv X pins Z' H' s'/\D.nx Z' H'
 | .brk=>∃Z' H',Inv X pins Z' H' s'/\D.bk Z' H'
 | .cont=>∃Z' H',Inv X pins Z' H' s'/\D.ct Z' H'
 | .ret u=>∃v Z' H',Inv X pins Z' H' s'/\RelV v u/\D.rt v H'
def PE (X:Cx)(e:Expr)(t:TE):Prop:=
 ∀(pins:List (Addr×Obj)) (s:Shared) (Z:St) (H:Hp) (Q:VK),Inv X pins Z H s->t Z H Q->wpAny (model X.prog X.w) X.A (eval e X.env) (EP X pins Z Q) X.xe s
def PT (X:Cx)(e:Expr)(t:TT):Prop:=
 ∀(pins:List (Addr×Obj)) (s:Shared) (Z:St) (H:Hp) (Q:Bool->Hp->Prop),Inv X pins Z H s->t Z H Q->wpAny (model X.prog X.w) X.A (isTrue e X.env (eval e X.env)) (TP X pins Z Q) X.xe s
def PW (X:Cx)(e:Expr)(t:TT):Prop:=
 ∀(whole:Sem Value) (pins:List (Addr×Obj)) (s:Shared) (Z:St) (H:Hp) (Q:Bool->Hp->Prop),Inv X pins Z H s->t Z H Q->wpAny (model X.prog X.w) X.A (isTrue e X.env whole) (TP X pins Z Q) X.xe s
theorem PW.pt {X:Cx}{e:Expr}{t:TT}(h:PW X e t):PT X e t:=h _
def PA (X:Cx)(es:List Expr)(t:TA):Prop:=
 ∀(pos:Pos) (pins:List (Addr×Obj)) (s:Shared) (Z:St) (H:Hp) (Q:List V->Hp->Prop),Inv X pins Z H s->t Z H Q->wpAny (model X.prog X.w) X.A (spliced (backTo pos (starEach es X.env))) (AP X pins Z Q) X.xe s
def PS (X:Cx)(st:Stmt)(t:TS):Prop:=
 ∀(pins:List (Addr×Obj)) (s:Shared) (Z:St) (H:Hp) (D:Ends),Inv X pins Z H s->t D Z H->wpAny (model X.prog X.w) X.A (exec st X.env) (SP X pins D) X.xe s
def PSs (X:Cx)(st:List Stmt)(t:TS):Prop:=
 ∀(pins:List (Addr×Obj)) (s:Shared) (Z:St) (H:Hp) (D:Ends),Inv X pins Z H s->t D Z H->wpAny (model X.prog X.w) X.A (execs st X.env) (SP X pins D) X.xe s
theorem thn {α:Type}{t:Sem α}{Q Q' : α->Shared->Prop}{M:Model}{A:Around}{E:Value->Shared->Prop}{s:Shared}(h:wpAny M A t Q E s)(hQ:∀a s,Q a s->Q' a s):wpAny M A t Q' E s:=wpAny_mono h hQ λ_ _ x=>x
section
variable  {X:Cx}
theorem bin {a b:Expr}{ta tb:TE}(ha:PE X a ta)(hb:PE X b tb){pins:List (Addr×Obj)}{s:Shared}{Z:St}{H:Hp}{R:V->V->Hp->Prop}(I:Inv X pins Z H s)(h:ta Z H λx H1=>tb Z H1 λy H2=>R x y H2)
  {α:Type} {Q : α->Shared->Prop} {f:Value->Value->Sem α}
  (hf:∀v u s2 x y H2,Inv X pins Z H2 s2->RelV x v->RelV y u->R x y H2->wpAny (model X.prog X.w) X.A (f v u) Q X.xe s2) :
  wpAny (model X.prog X.w) X.A (eval a X.env) (λv s₁=>wpAny (model X.prog X.w) X.A (eval b X.env) (λu s₂=>wpAny (model X.prog X.w) X.A (f v u) Q X.xe s₂) X.xe s₁) X.xe s:=by
 refine thn (ha pins s Z H _ I h) λv s1 ⟨x,H1,I1,r1,q1⟩=>?_
 refine thn (hb pins s1 Z H1 _ I1 q1) λu s2 ⟨y,H2,I2,r2,q2⟩=>?_
 exact hf v u s2 x y H2 I2 r1 r2 q2
def yw (i:Nat):TE:=λZ H Q=>∃v,Z[i]?=some (some v)/\Q v H
def tC (v:V):TE:=λ_ H Q=>Q v H
theorem qu {i:Nat}{x:Str}{pos:Pos}(hN:X.N[i]?=some x)(hv:Vis X.env.scope x)(hd:(x==("__debug__" : Str))=false:=by decide)(hcd:(x==("__classdict__" : Str))=false:=by decide):PE X (.Name x pos) (yw i):=by
 intro pins s Z H Q I h
 obtain⟨v,e,h⟩:=h
 obtain⟨m,hn,hl⟩:=I.loc
 obtain⟨u,r,l⟩:=hl i x v hN e hv
 have fin:EP X pins Z Q u s:=⟨v,H,I,r,h⟩
 rcases l with⟨hk,hm⟩|⟨hk,c,hc,hcell⟩
 ·exact wpAny_Name (wpAny_loadName_local I.ok.kind hk hn hm fin) hd
 ·rcases hk with hk|hk
  ·exact wpAny_Name (wpAny_loadName_cell I.ok.kind hk hc hcell fin) hd
  ·exact wpAny_Name (wpAny_loadName_free I.ok.kind hk hc hcell fin hcd) hd
theorem xm {i j pos}:PE X (.Constant (.int i) j pos) (tC (.int i)):=λ_ _ _ H _ I h=>wpAny_Constant_int ⟨.int i,H,I.tok _,⟨_,rfl⟩,h⟩
theorem zE {b j pos}:PE X (.Constant (.bool b) j pos) (tC (.bl b)):=λ_ _ _ H _ I h=>Constant_bool ⟨.bl b,H,I,rfl,h⟩
theorem xq {x j pos}:PE X (.Constant (.str x) j pos) (tC (.str x)):=λ_ _ _ H _ I h=>Calls.Constant_str ⟨.str x,H,I.tok _,⟨_,rfl⟩,h⟩
def Gl (X:Cx)(x:Str):Prop:=X.env.kindOf x=some .globalImplicit
theorem sV {E:Value->Shared->Prop}{pins:List (Addr×Obj)}{s:Shared}{Z:St}{H:Hp}{x:Str}{u:Value}{pos:Pos}{Q:Value->Shared->Prop}(I:Inv X pins Z H s)(hg:Gl X x)(hm:X.mg x=some u)(h:Q u s)
  (hd:(x==("__debug__" : Str))=false:=by decide):wpAny (model X.prog X.w) X.A (eval (.Name x pos) X.env) Q E s:=
 Calls.Name_function_global I.ok.kind hg (Calls.loadGlobal_global (by rw[I.ok.glob];exact I.mod.glob.keeps I.bk) hm h) hd
theorem gf {E:Value->Shared->Prop}{pins:List (Addr×Obj)}{s:Shared}{Z:St}{H:Hp}{x:Str}{u:Value}{pos:Pos}{Q:Value->Shared->Prop}(I:Inv X pins Z H s)(hg:Gl X x)(hm:X.mg x=none)(hv:bootBuiltins x=some u)(h:Q u s)
  (hn:x ≠ "__name__" :=by decide) (hd:(x==("__debug__" : Str))=false:=by decide):wpAny (model X.prog X.w) X.A (eval (.Name x pos) X.env) Q E s:=by
 obtain⟨mb,h1,h2⟩:=I.mod.blt
 exact Calls.Name_function_global I.ok.kind hg (Calls.loadGlobal_builtin (by rw[I.ok.glob];exact I.mod.glob.keeps I.bk) hm (by rw[I.ok.blt];exact h1.keeps I.bk) ((h2 x hn).trans hv) h) hd
theorem tH {x:Str}{v:V}{u:Value}{pos:Pos}(hg:Gl X x)(hm:X.mg x=none)(hv:bootBuiltins x=some u)(r:RelV v u)(hn:x ≠ "__name__" :=by decide)(hd:(x==("__debug__" : Str))=false:=by decide):PE X (.Name x pos) (tC v):=
 λ_ _ _ H _ I h=>gf I hg hm hv ⟨v,H,I,r,h⟩ hn hd
variable  {a b:Expr}{ta tb:TE}{pos:Pos}
def PC (X:Cx)(op:CmpOp)(a b:Expr)(t:TE):Prop:=
 ∀(pins:List (Addr×Obj)) (s:Shared) (Z:St) (H:Hp) (Q:VK),Inv X pins Z H s->t Z H Q →
  wpAny (model X.prog X.w) X.A (eval a X.env) (λv s₁=>wpAny (model X.prog X.w) X.A (eval b X.env) (λu s₂=>wpAny (model X.prog X.w) X.A (compareOp op v u) (EP X pins Z Q) X.xe s₂) X.xe s₁) X.xe s
def tB (t:TE):TT:=λZ H Q=>t Z H λx H1=>∃c,x=.bl c/\Q c H1
theorem pt_cmp {op:CmpOp}{t:TE}(h:PC X op a b t)(h1:behindInMarks op b=false:=by first|exact nobehind _ (by decide) (by decide)|rfl):PT X (.Compare a [op] [b] pos) (tB t):=by
 intro pins s Z H Q I hw
 refine wpAny_isTrue_Compare1 (thn (h pins s Z H _ I hw) λv s1 h1=>thn h1 λu s2 h2=>thn h2 λc s3 ⟨x,H1,I1,r1,q1⟩=>?_) h1
 obtain⟨d,rfl,q⟩:=q1
 cases r1
 exact wpAny_truthy_bool ⟨H1,I1,q⟩
theorem xE {e:Expr}{t:TE}(h:PE X e t)(he:∀whole,isTrue e X.env whole=(do let v ←whole;standAt e.pos;holding [v] (truthy v)):=by intro _;rfl):PT X e (tB t):=by
 intro pins s Z H Q I hw
 refine isTrue_plain (thn (h pins s Z H _ I hw) λv s1 ⟨x,H1,I1,r1,q1⟩=>?_) (he _)
 obtain⟨d,rfl,q⟩:=q1
 cases r1
 exact wpAny_truthy_bool ⟨H1,I1,q⟩
variable  {tA tB':TT}{rest:List Expr}
def Av (t u:TT):TT:=λZ H Q=>t Z H λc H1=>if c=true then u Z H1 Q else Q false H1
def tOr (t u:TT):TT:=λZ H Q=>t Z H λc H1=>if c=true then Q true H1 else u Z H1 Q
def AC (t:TT):TT:=λZ H Q=>t Z H λc H1=>Q (!c) H1
theorem t8 (ha:PT X a tA):PW X (.BoolOp .And [a] pos) tA:=by
 intro wh pins s Z H Q I h
 refine isTrue_and (thn (ha pins s Z H Q I h) λc s1 e=>?_)
 cases c with
 | true=>exact isTrue_and_nil e
 | false=>exact e
theorem xH (ha:PT X a tA):PW X (.BoolOp .Or [a] pos) tA:=by
 intro wh pins s Z H Q I h
 refine isTrue_or (thn (ha pins s Z H Q I h) λc s1 e=>?_)
 cases c with
 | false=>exact isTrue_or_nil e
 | true=>exact e
theorem xG (ha:PT X a tA)(hb:PW X (.BoolOp .And (b::rest) pos) tB'):PW X (.BoolOp .And (a::b::rest) pos) (Av tA tB'):=by
 intro wh pins s Z H Q I h
 refine isTrue_and (thn (ha pins s Z H _ I h) λc s1 ⟨H1,I1,q1⟩=>?_)
 cases c with
 | true=>exact hb wh pins s1 Z H1 Q I1 q1
 | false=>exact⟨H1,I1,q1⟩
theorem zK (ha:PT X a tA)(hb:PW X (.BoolOp .Or (b::rest) pos) tB'):PW X (.BoolOp .Or (a::b::rest) pos) (tOr tA tB'):=by
 intro wh pins s Z H Q I h
 refine isTrue_or (thn (ha pins s Z H _ I h) λc s1 ⟨H1,I1,q1⟩=>?_)
 cases c with
 | true=>exact⟨H1,I1,q1⟩
 | false=>exact hb wh pins s1 Z H1 Q I1 q1
theorem xD (ha:PT X a tA):PT X (.UnaryOp .Not a pos) (AC tA):=by
 intro pins s Z H Q I h
 exact isTrue_not (ha pins s Z H (λc H1=>Q (!c) H1) I h)
def vJ (ta tb:TE):TE:=λZ H Q=>ta Z H λx H1=>∃c,x=.bl c/\if c=true then tb Z H1 Q else Q (.bl false) H1
def vO (ta:TE):TE:=λZ H Q=>ta Z H λx H1=>∃c,x=.bl c/\Q (.bl (!c)) H1
theorem xp {op}{t:TE}(h:PE X a t):PE X (.BoolOp op [a] pos) t:=λpins s Z H Q I hw=>BoolOp_one (h pins s Z H Q I hw)
theorem xl (ha:PE X a ta)(hb:PE X (.BoolOp .And (b::rest) pos) tb):PE X (.BoolOp .And (a::b::rest) pos) (vJ ta tb):=by
 intro pins s Z H Q I h
 refine BoolOp_and (thn (ha pins s Z H _ I h) λv s1 ⟨x,H1,I1,r1,q1⟩=>?_)
 obtain⟨c,rfl,q1⟩:=q1
 cases r1
 refine wpAny_truthy_bool ?_
 cases c with
 | true=>exact hb pins s1 Z H1 Q I1 q1
 | false=>exact⟨.bl false,H1,I1,rfl,q1⟩
theorem xo (ha:PE X a ta):PE X (.UnaryOp .Not a pos) (vO ta):=by
 intro pins s Z H Q I h
 refine UnaryOp_ (thn (ha pins s Z H _ I h) λv s1 ⟨x,H1,I1,r1,q1⟩=>?_)
 obtain⟨c,rfl,q1⟩:=q1
 cases r1
 exact not_of (wpAny_truthy_bool ⟨.bl (!c),H1,I1,rfl,q1⟩)
end
def SqL (K:yF)(H:Hp)(a:Addr)(xs:List V):Prop:=
 Rd H a (.lst xs) ∨
  ∃(o:Obj) (its:Array Value) (n:Nat),K.lookup a=some o/\o.cls=.type "list" ∧ o.dict=none/\o.data=.seq its n/\its.size<=sizeLine/\Vals xs its.toList
def SqT (K:yF)(H:Hp)(a:Addr)(xs:List V):Prop:=
 Rd H a (.tup xs) ∨
  ∃(o:Obj) (its:Array Value) (n:Nat),K.lookup a=some o/\(o.cls=.type "tuple" ∧ o.dict=none)/\o.data=.seq its n/\its.size<=sizeLine/\Vals xs its.toList
noncomputable def AT:Value->Option V
 | .none=>some .non
 | .bool b=>some (.bl b)
 | .int i _=>some (.int i)
 | .str x _=>some (.str x)
 | .bytes b _=>some (.byt b)
 | .float b _=>some (.flt b)
 | .ref a=>some (.ref a)
 | .type n=>some (.ty n)
 | _=>none
theorem RelV.abs {x:V}{u:Value}(r:RelV x u):AT u=some x:=by
 cases x with
 | non=>cases r;rfl
 | bl _=>cases r;rfl
 | int _=>obtain⟨t,rfl⟩:=r;rfl
 | str _=>obtain⟨t,rfl⟩:=r;rfl
 | byt _=>obtain⟨t,rfl⟩:=r;rfl
 | flt _=>obtain⟨t,rfl⟩:=r;rfl
 | ref _=>cases r;rfl
 | ty _=>cases r;rfl
theorem RelV.inj {x y:V}{u:Value}(r:RelV x u)(q:RelV y u):x=y:=BQ.inj (r.abs.symm.trans q.abs)
theorem Vals.inj:∀{xs ys:List V} {us:List Value},Vals xs us->Vals ys us->xs=ys
 | _,_,_,.nil,.nil=>rfl
 | _,_,_,.cons r t,.cons r' t'=>by rw[r.inj r',Vals.inj t t']
section
variable  {X:Cx}{pins:List (Addr×Obj)}{Z:St}{H:Hp}{s:Shared}{a:Addr}{xs ys:List V}
theorem SqL.of {K:yF}(h:H a=some (.lst xs)):SqL K H a xs:=.inl (.inl h)
theorem SqT.of {K:yF}(h:H a=some (.tup xs)):SqT K H a xs:=.inl (.inl h)
theorem Inv.list (I:Inv X pins Z H s)(h:SqL X.K H a xs):∃its:List Value,Vals xs its/\PlainL s.heap a its.toArray/\xs.length<=sizeLine:=by
 rcases h with h|⟨o,its,n,hk,hc,hd,hs,hz,r⟩
 ·obtain⟨z,its,n,r,e⟩:=h.ok I.hok
  exact⟨its,r,⟨_,n,e,rfl,rfl,rfl⟩,z⟩
 ·refine⟨its.toList,r,⟨o,n,I.kIn a o hk,hc,hd,by simpa using hs⟩,?_⟩
  have e:=r.length
  simp only[Co]at e
  omega
theorem Inv.tuple (I:Inv X pins Z H s)(h:SqT X.K H a xs):∃its:List Value,Vals xs its/\IsTup s.heap a its.toArray/\xs.length<=sizeLine:=by
 rcases h with h|⟨o,its,n,hk,hc,hs,hz,r⟩
 ·obtain⟨z,its,r,p⟩:=h.ok I.hok
  exact⟨its,r,p.to,z⟩
 ·refine⟨its.toList,r,⟨o,I.kIn a o hk,hc.1,n,by simpa using hs⟩,?_⟩
  have e:=r.length
  simp only[Co]at e
  omega
theorem Inv.list_inj (I:Inv X pins Z H s)(h:SqL X.K H a xs)(h':SqL X.K H a ys):xs=ys:=by
 obtain⟨its,r,⟨o,n,e,_,_,d⟩,_⟩:=I.list h
 obtain⟨its',r',⟨o',n',e',_,_,d'⟩,_⟩:=I.list h'
 rw[e]at e';cases e'
 rw[d]at d'
 injection d' with d1 _
 have:its=its':=by simpa using congrArg Er d1
 subst this
 exact r.inj r'
theorem Inv.tuple_inj (I:Inv X pins Z H s)(h:SqT X.K H a xs)(h':SqT X.K H a ys):xs=ys:=by
 obtain⟨its,r,⟨o,e,_,n,d⟩,_⟩:=I.tuple h
 obtain⟨its',r',⟨o',e',_,n',d'⟩,_⟩:=I.tuple h'
 rw[e]at e';cases e'
 rw[d]at d'
 injection d' with d1 _
 have:its=its':=by simpa using congrArg Er d1
 subst this
 exact r.inj r'
end
noncomputable abbrev Cx.wish (X:Cx) (E:Value->Shared->Prop):Cx:={X with xe:=E}
noncomputable abbrev Cx.nox (X:Cx):Cx:=X.wish λ_ _=>False
theorem Cx.Ok.wish {X:Cx}(ok:X.Ok)(E:Value->Shared->Prop):(X.wish E).Ok:=
 ⟨ok.mod,ok.kind,ok.glob,ok.blt,ok.above,ok.inj,ok.has,ok.cab,ok.hd,ok.gd,ok.frames,ok.stk,ok.exf,ok.bs,ok.bsz,ok.noex,ok.exfs,ok.funs,ok.frf⟩
theorem Cx.Ok.unwish {X:Cx}{E:Value->Shared->Prop}(ok:(X.wish E).Ok):X.Ok:=
 ⟨ok.mod,ok.kind,ok.glob,ok.blt,ok.above,ok.inj,ok.has,ok.cab,ok.hd,ok.gd,ok.frames,ok.stk,ok.exf,ok.bs,ok.bsz,ok.noex,ok.exfs,ok.funs,ok.frf⟩
section
variable  {X:Cx}{pins:List (Addr×Obj)}{Z:St}{H:Hp}{s:Shared}{E:Value->Shared->Prop}
theorem Inv.wish (I:Inv X pins Z H s)(E:Value->Shared->Prop):Inv (X.wish E) pins Z H s:=⟨I.ok.wish E,I.os,I.bare,I.base,I.loc,I.cell,I.free,I.freeC,I.pin,I.hok,I.len⟩
theorem Inv.unwish (I:Inv (X.wish E) pins Z H s):Inv X pins Z H s:=⟨I.ok.unwish,I.os,I.bare,I.base,I.loc,I.cell,I.free,I.freeC,I.pin,I.hok,I.len⟩
theorem SP.unwish {D:Ends}{f:Flow}{s':Shared}(h:SP (X.wish E) pins D f s'):SP X pins D f s':=by
 cases f with
 | next=>obtain⟨Z',H',I,q⟩:=h;exact⟨Z',H',I.unwish,q⟩
 | brk=>obtain⟨Z',H',I,q⟩:=h;exact⟨Z',H',I.unwish,q⟩
 | cont=>obtain⟨Z',H',I,q⟩:=h;exact⟨Z',H',I.unwish,q⟩
 | ret u=>obtain⟨v,Z',H',I,r,q⟩:=h;exact⟨v,Z',H',I.unwish,r,q⟩
theorem PSs.nox {st:List Stmt}{t:TS}(h:PSs X.nox st t):PSs X st t:=λpins s Z H D I hw=>
 wpAny_mono (h pins s Z H D (I.wish _) hw) (λ_ _ q=>q.unwish) λ_ _ z=>False.elim z
end
section
variable  {X:Cx}{st:Stmt}{rest:List Stmt}{t u:TS}{e:Expr}{te:TE}{pos:Pos}
def vN:TS:=λD Z H=>D.nx Z H
def AF (t u:TS):TS:=λD Z H=>t {D with nx:=u D} Z H
theorem tZ:PSs X [] vN:=λ_ _ Z H _ I h=>wpAny_execs_nil ⟨Z,H,I,h⟩
theorem qR (h1:PS X st t)(h2:PSs X rest u):PSs X (st::rest) (AF t u):=by
 intro pins s Z H D I h
 refine wpAny_execs_cons (thn (h1 pins s Z H {D with nx:=u D} I h) λf s1 q=>?_)
 cases f with
 | next=>
  obtain⟨Z',H',I',q⟩:=q
  exact h2 pins s1 Z' H' D I' q
 | ret v=>exact q
 | brk=>exact q
 | cont=>exact q
theorem t3 (h1:PS X st t):PSs X [st] t:=by
 intro pins s Z H D I h
 refine wpAny_execs_cons (thn (h1 pins s Z H D I h) λf s1 q=>?_)
 cases f with
 | next=>exact wpAny_execs_nil q
 | ret v=>exact q
 | brk=>exact q
 | cont=>exact q
theorem Inv.quiet {pins:List (Addr×Obj)}{Z:St}{H:Hp}{s:Shared}(I:Inv X pins Z H s):interactive X.env=false:=by simp[interactive,I.ok.kind]
def vL (te:TE):TS:=λD Z H=>te Z H λ_ H1=>D.nx Z H1
theorem tY (he:PE X e te)(hs:swapsWith e none pos.line X.env=pure false:=by rfl):PS X (.Expr e pos) (vL te):=by
 intro pins s Z H D I h
 exact wpAny_Expr_any (thn (he pins s Z H _ I h) λv s1 ⟨x,H1,I1,r1,q1⟩=>⟨Z,H1,I1,q1⟩) I.quiet hs
def AE (te:TE):TS:=λD Z H=>te Z H D.rt
theorem xB (he:PE X e te):PS X (.Return (some e) pos) (AE te):=by
 intro pins s Z H D I h
 exact wpAny_Return_some (thn (he pins s Z H _ I h) λv s1 ⟨x,H1,I1,r1,q1⟩=>⟨x,Z,H1,I1,r1,q1⟩)
def Ay (c:TT)(t u:TS):TS:=λD Z H=>c Z H λb H1=>if b=true then t D Z H1 else u D Z H1
theorem zJ {c:Expr}{a b:List Stmt}{tc:TT}(hc:PT X c tc)(ha:PSs X a t)(hb:PSs X b u):PS X (.If c a b pos) (Ay tc t u):=by
 intro pins s Z H D I h
 refine wpAny_If (thn (hc pins s Z H _ I h) λd s1 ⟨H1,I1,q1⟩=>?_)
 cases d with
 | true=>exact ha pins s1 Z H1 D I1 q1
 | false=>exact hb pins s1 Z H1 D I1 q1
end
abbrev TG:=V->St->Hp->(St->Hp->Prop)->Prop
abbrev TGs:=List V->St->Hp->(St->Hp->Prop)->Prop
def PG (X:Cx)(target:Expr)(t:TG):Prop:=
 ∀(pins:List (Addr×Obj)) (s:Shared) (Z:St) (H:Hp) (v:V) (u:Value) (Q:St->Hp->Prop),Inv X pins Z H s->RelV v u->t v Z H Q →
  wpAny (model X.prog X.w) X.A (assign target X.env u) (λ_ s'=>∃Z' H',Inv X pins Z' H' s'/\Q Z' H') X.xe s
def PGs (X:Cx)(ts:List Expr)(t:TGs):Prop:=
 ∀(pins:List (Addr×Obj)) (s:Shared) (Z:St) (H:Hp) (vs:List V) (us:List Value) (Q:St->Hp->Prop),Inv X pins Z H s->Vals vs us->t vs Z H Q →
  wpAny (model X.prog X.w) X.A (assignInOrder ((assignEach ts X.env).map (·.2)) us) (λ_ s'=>∃Z' H',Inv X pins Z' H' s'/\Q Z' H') X.xe s
abbrev sy:=V->V->V->Hp->(Hp->Prop)->Prop
def vT (X:Cx)(t:sy):Prop:=
 ∀(pins:List (Addr×Obj)) (s:Shared) (Z:St) (H:Hp) (o i v:V) (ov iv u:Value) (Q:Hp->Prop),Inv X pins Z H s->RelV o ov->RelV i iv->RelV v u->t o i v H Q →
  wpAny (model X.prog X.w) X.A (setItem ov iv u) (λ_ s'=>∃H',Inv X pins Z H' s'/\Q H') X.xe s
section
variable  {X:Cx}{pos:Pos}
def jg (i:Nat):TG:=λv Z H Q=>Q (Z.set i (some v)) H
theorem tN {i:Nat}{x:Str}(hN:X.N.Nodup)(hi:X.N[i]?=some x)(hx:Loc X.env.scope x)(hf:X.fn x=true∨X.env.scope.names.lookup x=some .local:=by first|exact .inl rfl|exact .inr rfl|assumption):PG X (.Name x pos) (jg i):=by
 intro pins s Z H v u Q I r h
 exact wpAny_assign_Name (fZ I hN hi hx r (λs' I'=>⟨_,H,I',h⟩) hf)
def wj:TGs:=λvs Z H Q=>vs=[]/\Q Z H
def pD (t:TG)(u:TGs):TGs:=λvs Z H Q=>∃v r,vs=v::r/\t v Z H λZ' H'=>u r Z' H' Q
theorem tO:PGs X [] wj:=by
 intro pins s Z H vs us Q I r h
 obtain⟨e,h⟩:=h
 subst e
 cases r
 exact assignInOrder_nil ⟨Z,H,I,h⟩
theorem qx {e:Expr}{es:List Expr}{t:TG}{u:TGs}(h1:PG X e t)(h2:PGs X es u)
  (hs:(assignEach (e::es) X.env).map (·.2)=assign e X.env::(assignEach es X.env).map (·.2):=by rfl):PGs X (e::es) (pD t u):=by
 intro pins s Z H vs us Q I r h
 obtain⟨v,vr,e1,h⟩:=h
 subst e1
 cases r with
 | cons r rr=>
  rw[hs]
  refine assignInOrder_cons (thn (h1 pins s Z H _ _ _ I r h) λ_ s1 ⟨Z1,H1,I1,q1⟩=>?_)
  exact h2 pins s1 Z1 H1 _ _ Q I1 rr q1
def sJ (K:yF)(n:Nat)(t:TGs):TG:=λv Z H Q=>∃a xs,v=.ref a/\SqT K H a xs/\xs.length=n/\t xs Z H Q
theorem xt {es:List Expr}{k:Nat}{t:TGs}{n:Nat}(hc:X.calm=true)(h:PGs X es t)
  (hn:(assignEach es X.env).length=n:=by rfl) (hst:(assignEach es X.env).findIdx? (·.1)=none:=by rfl):PG X (.Tuple es k pos) (sJ X.K n t):=by
 intro pins s Z H v u Q I r hw
 obtain⟨a,xs,e1,hq,hl,hw⟩:=hw
 subst e1
 cases r
 obtain⟨its,rv,ht,hz⟩:=I.tuple hq
 refine assign_Tuple_tuple (I.ok.hd hc) ht (by simp[hn,←hl,rv.length]) hst λh' hx=>?_
 have I1:Inv X pins Z H {s with heap:=h'}:=I.kept (t':=s.toks) λb o e=>hx b o (BG (Heap.lt_size e)) e
 exact h pins _ Z H xs _ Q I1 (by simpa using rv) hw
def wl (to ti:TE)(t:sy):TG:=λv Z H Q=>to Z H λo H1=>ti Z H1 λi H2=>t o i v H2 λH3=>Q Z H3
theorem qv {o i:Expr}{to ti:TE}{t:sy}(ho:PE X o to)(hi:PE X i ti)(hs:vT X t)
  (ha:∀v,assign (.Subscript o i pos) X.env v=(do
   let ov ←holding [v] (eval o X.env)
   let iv ←holding [v,ov] (eval i X.env)
   standAt pos
   holding [v,ov,iv] (setItem ov iv v)
   release [v,ov,iv] []):=by intro _;rfl):PG X (.Subscript o i pos) (wl to ti t):=by
 intro pins s Z H v u Q I r h
 rw[ha]
 refine wpAny_bind (wpAny_holding (thn (ho pins s Z H _ I h) λov s1 ⟨x,H1,I1,r1,q1⟩=>?_))
 refine wpAny_bind (wpAny_holding (thn (hi pins s1 Z H1 _ I1 q1) λiv s2 ⟨y,H2,I2,r2,q2⟩=>?_))
 refine wpAny_bind (wpAny_standAt (wpAny_bind (wpAny_holding (thn (hs pins s2 Z H2 x y v ov iv u _ I2 r1 r2 r q2) λ_ s3 ⟨H3,I3,q3⟩=>?_))))
 exact wpAny_release ⟨Z,H3,I3,q3⟩
def uN (te:TE)(g:TG):TS:=λD Z H=>te Z H λx H1=>g x Z H1 D.nx
theorem xy {tg e:Expr}{te:TE}{g:TG}(he:PE X e te)(hg:PG X tg g)(hs:swapsWithSole [tg] e pos.line X.env=pure false:=by rfl)(hw:swappedStores [tg] e X.env=pure none:=by rfl)
  (h1:(assignEach [tg] X.env).map (·.2)=[assign tg X.env]:=by rfl):PS X (.Assign [tg] e pos) (uN te g):=by
 intro pins s Z H D I h
 refine wpAny_Assign_stores (thn (he pins s Z H _ I h) λv s1 ⟨x,H1,I1,r1,q1⟩=>?_) hs hw
 rw[h1]
 exact thn (hg pins s1 Z H1 x v _ I1 r1 q1) λ_ s2 q=>q
theorem xC {i:Nat}{x:Str}{e:Expr}{te:TE}{pos':Pos}(hN:X.N.Nodup)(hi:X.N[i]?=some x)(hx:Loc X.env.scope x)(he:PE X e te)(hs:swapsWith e (some (.Name x pos')) pos.line X.env=pure false:=by rfl)(hf:X.fn x=true∨X.env.scope.names.lookup x=some .local:=by first|exact .inl rfl|exact .inr rfl|assumption) :
  PS X (.Assign [.Name x pos'] e pos) (uN te (jg i)):=by
 intro pins s Z H D I h
 refine wpAny_Assign_Name (thn (he pins s Z H _ I h) λv s1 ⟨y,H1,I1,r1,q1⟩=>?_) hs
 exact fZ I1 hN hi hx r1 (λs2 I2=>⟨_,H1,I2,q1⟩) hf
def AD (i j:Nat)(ta:TA):TS:=λD Z H=>ta Z H λvs H1=>∃v w,vs=[v,w]/\D.nx ((Z.set i (some v)).set j (some w)) H1
theorem xA {i j:Nat}{x y:Str}{a b:Expr}{ta:TA}{px py pt:Pos}{kt k2 pt2}(hc:X.calm=true)(hN:X.N.Nodup)(hi:X.N[i]?=some x)(hj:X.N[j]?=some y)(hij:i≠j)
  (hx:X.env.scope.names.lookup x=some .local) (hy:X.env.scope.names.lookup y=some .local) (ha:PA X [a,b] ta)
  (hw:swappedStores [.Tuple [.Name x px,.Name y py] kt pt] (.Tuple [a,b] k2 pt2) X.env=pure (some [x,y]))
  (hs:swapsWithSole [.Tuple [.Name x px,.Name y py] kt pt] (.Tuple [a,b] k2 pt2) pos.line X.env=pure false:=by rfl) :
  PS X (.Assign [.Tuple [.Name x px,.Name y py] kt pt] (.Tuple [a,b] k2 pt2) pos) (AD i j ta):=by
 intro pins s Z H D I h
 rw[exec_Assign_arm]
 refine wpAny_bind (wpAny_standAt ?_)
 rw[hs]
 refine wpAny_bind (wpAny_pure ?_)
 rw[if_neg (by decide)]
 refine wpAny_bind (Tuple_ (thn (ha _ pins s Z H _ I h) λus s1 ⟨vs,H1,I1,r1,q1⟩=>?_))
 obtain⟨v,w,e1,q1⟩:=q1
 subst e1
 obtain⟨u1,u2,rfl,rv,rw'⟩:∃u1 u2,us=[u1,u2]/\RelV v u1/\RelV w u2:=by
  cases r1 with
  | cons p q=>
   cases q with
   | cons p' q'=>
    cases q'
    exact⟨_,_,rfl,p,p'⟩
 refine wpAny_newObj_type ?_ (by show 2<=sizeLine;decide)
 have I2:Inv X pins Z H1 {s1 with heap:=s1.heap.push {cls:=.type "tuple",data:=.seq [u1,u2].toArray}}:=I1.kept (t':=s1.toks) λb o e=>Heap.get?_push_of_some _ e
 rw[hw]
 refine wpAny_bind (wpAny_pure ?_)
 show wpAny (model X.prog X.w) X.A (do rule "assign.swapped-stores";let items ←unpackItems (.ref s1.heap.objs.size) 2 none;assignInOrder [λv=>bindName X.env y v,λv=>bindName X.env x v] items.reverse;pure Flow.next) _ _ _
 refine wpAny_bind (wpAny_rule (wpAny_bind (unpackItems_tuple (items:=#[u1,u2]) (I.ok.hd hc) (IsTup.new s1.heap _) λh' hx'=>?_)))
 have I3:=I2.kept (h':=h') (t':=s1.toks) λb o e=>hx' b o (BG (Heap.lt_size e)) e
 show wpAny _ _ (assignInOrder [λv=>bindName X.env y v,λv=>bindName X.env x v] [u2,u1] >>= λ_=>pure Flow.next) _ _ _
 refine wpAny_bind (assignInOrder_cons (wpAny_bindName (fZ I3 hN hj (.inl hy) rw' (λs2 I4=>?_) (.inr hy))))
 refine assignInOrder_cons (wpAny_bindName (fZ I4 hN hi (.inl hx) rv (λs3 I5=>assignInOrder_nil (wpAny_pure ?_)) (.inr hx)))
 rw[List.set_comm _ _ (Ne.symm hij)]at I5
 exact⟨_,H1,I5,q1⟩
end
section
variable  {X:Cx}{pos:Pos}
def rW (c:TT)(tb:TS):TS:=λD Z H=>∃W:Nat->St->Hp->Prop,(∃m,W m Z H)/\∀m Z H,W m Z H →
 c Z H λb H1=>if b=true then∃N:St->Hp->Prop,(∀Z' H',N Z' H'->∃m',m'<m/\W m' Z' H')/\tb {D with nx:=N,ct:=N,bk:=D.nx} Z H1 else D.nx Z H1
theorem qQ {c:Expr}{body:List Stmt}{tc:TT}{tb:TS}(hp:PassesOwn (model X.prog X.w) X.A X.env X.xe)(hc:PT X c tc)(hb:PSs X body tb):PS X (.While c body [] pos) (rW tc tb):=by
 intro pins s Z H D I h
 obtain⟨W,⟨m0,w0⟩,turn⟩:=h
 refine wpAny_While (codeAny_whileLoop (λn s'=>∃Z' H',Inv X pins Z' H' s'/\W n Z' H') ?_ m0 ⟨Z,H,I,w0⟩)
 rintro n s1 ⟨Z1,H1,I1,w1⟩
 refine wpAny_passesOwn hp (thn (hc pins s1 Z1 H1 _ I1 (turn n Z1 H1 w1)) λb s2 ⟨H2,I2,q2⟩=>?_)
 cases b with
 | true=>
  obtain⟨N,hN,q2⟩:=q2
  rw[if_pos rfl]
  refine wpAny_passesOwn hp (thn (hb pins s2 Z1 H2 _ I2 q2) λf s3 q3=>?_)
  cases f with
  | next=>
   obtain⟨Z3,H3,I3,n3⟩:=q3
   obtain⟨m',hm,w3⟩:=hN Z3 H3 n3
   exact⟨m',hm,Z3,H3,I3,w3⟩
  | cont=>
   obtain⟨Z3,H3,I3,n3⟩:=q3
   obtain⟨m',hm,w3⟩:=hN Z3 H3 n3
   exact⟨m',hm,Z3,H3,I3,w3⟩
  | brk=>exact q3
  | ret v=>exact q3
 | false=>
  rw[if_neg BA]
  exact wpAny_execs_nil ⟨Z1,H2,I2,q2⟩
end
structure It where
 go:Nat->Hp->Prop
 yld:Nat->Hp->V->Hp->Prop
 stop:Nat->Hp->Prop
def fh (X:Cx)(pins:List (Addr×Obj))(H:Hp)(b:Addr):Prop:=
 H b=none/\b≠X.env.locals/\b∉X.fs/\(b∈X.ex∨X.s₀.heap.objs.size<=b)/\(∀x c,X.env.cells.lookup x=some c->c≠b)/\∀p∈X.pn++pins,p.1≠b
theorem Inv.fpOk {X:Cx}{pins:List (Addr×Obj)}{Z:St}{H H':Hp}{s:Shared}{b:Addr}(I:Inv X pins Z H s)(hb:s.heap.objs.size<=b)(hn:H' b=none):fh X pins H' b:=by
 refine⟨hn,C4 (BI I.lt hb),I.nofs hb,.inr (B3 I.sz hb),λx c e z=>?_,λp hp z=>?_⟩
 ·obtain⟨v,q⟩:=I.cell x c e
  exact absurd (BI q.lt (by rw[z];exact hb)) (Cs _)
 ·exact absurd (BI (Heap.lt_size (I.pin p hp).1) (by rw[z];exact hb)) (Cs _)
structure Turn (P:Program)(w:World)(K:yF)(tg:Expr)(J:It)(fp:List Addr)(it:Addr)(tn:Nat->Heap->Prop):Prop where
 mem:it∈fp
 obj:∀i h,tn i h->∀b∈fp,∃o,h.get? b=some o/\∀v,o.data ≠ .cell v
 keep:∀i h h',tn i h->(∀b∈fp,∀o,h.get? b=some o->h'.get? b=some o)->tn i h'
 item:∀(X:Cx),X.prog=P->X.w=w->X.K=K->X.calm=true->∀(i:Nat) (pins:List (Addr×Obj)) (s:Shared) (Z:St) (H:Hp) (E:Value->Shared->Prop),Inv X pins Z H s->(∀b∈fp,fh X pins H b)->tn i s.heap->J.go i H →
  wpAny (model P w) X.A (pyNext (.ref it)) (λr s1=>∃u,r=some u ∧
   wpAny (model P w) X.A (letOwnedTupleGo tg (.ref it) u) (λ_ s2=>∃x H',Inv X pins Z H' s2/\RelV x u/\J.yld i H x H'/\tn (i+1) s2.heap/\∀b∈fp,H' b=none) E s1) E s
 done:∀(X:Cx),X.prog=P->X.w=w->X.K=K->X.calm=true->∀(i:Nat) (pins:List (Addr×Obj)) (s:Shared) (Z:St) (H:Hp) (E:Value->Shared->Prop),Inv X pins Z H s->(∀b∈fp,fh X pins H b)->tn i s.heap->J.stop i H →
  wpAny (model P w) X.A (pyNext (.ref it)) (λr s1=>r=none/\Inv X pins Z H s1) E s
 self:∀(A:Around) (i:Nat) (s:Shared) (Q:Value->Shared->Prop) (E:Value->Shared->Prop),tn i s.heap->Q (.ref it) s->wpAny (model P w) A (pyIter (.ref it)) Q E s
abbrev TI:=St->Hp->(It->Hp->Prop)->Prop
def PIE (X:Cx)(pins:List (Addr×Obj))(Z:St)(tg:Expr)(R:It->Hp->Prop)(itv:Value)(s2:Shared):Prop:=
 ∃(it:Addr) (fp:List Addr) (tn:Nat->Heap->Prop) (J:It) (H':Hp),itv=.ref it/\Inv X pins Z H' s2/\Turn X.prog X.w X.K tg J fp it tn/\tn 0 s2.heap/\(∀b∈fp,fh X pins H' b)/\R J H'
def PI (X:Cx)(tg iter:Expr)(wi:TI):Prop:=
 ∀(pins:List (Addr×Obj)) (s:Shared) (Z:St) (H:Hp) (R:It->Hp->Prop),Inv X pins Z H s->wi Z H R →
  wpAny (model X.prog X.w) X.A (eval iter X.env) (λv s1=>wpAny (model X.prog X.w) X.A (pyIter v) (PIE X pins Z tg R) X.xe s1) X.xe s
theorem mP {M:Model}{A:Around}{E:Value->Shared->Prop}{s:Shared}{tg:Expr}{it:Addr}{u:Value}{o:Obj}{n:String}{vs:Array Value}{Q:Unit->Shared->Prop}(ho:s.heap.get? it=some o)(hc:o.cls=.type n)(hd:o.data=.fields vs)
  (hn:["enumerate","zip","dict_itemiterator","dict_reverseitemiterator","odict_iterator","itertools.zip_longest","itertools.pairwise"].contains n=false) (hQ:Q () s):wpAny M A (letOwnedTupleGo tg (.ref it) u) Q E s:=by
 unfold letOwnedTupleGo
 cases tg<;>first
  | exact wpAny_pure hQ
  | (cases u<;>first
    | exact wpAny_pure hQ
    | (refine wpAny_bind (wpAny_load ho ?_)
       rw[hc,hd]
       show wpAny M A (if(["enumerate","zip","dict_itemiterator","dict_reverseitemiterator","odict_iterator","itertools.zip_longest","itertools.pairwise"].contains n&&vs[0]? == some (rawInt _))=true then _ else _) Q E s
       rw[if_neg (by intro h;rw[hn,Ei]at h;cases h)]
       exact wpAny_pure hQ))
noncomputable def Itl (K:yF) (a:Addr):It:=
 ⟨λi H=>∃xs x,SqL K H a xs/\xs[i]?=some x,λi H x H'=>H'=H/\∀xs,SqL K H a xs->xs[i]?=some x,λi H=>∃xs,SqL K H a xs/\xs.length<=i⟩
noncomputable def Itt (K:yF) (a:Addr):It:=
 ⟨λi H=>∃xs x,SqT K H a xs/\xs[i]?=some x,λi H x H'=>H'=H/\∀xs,SqT K H a xs->xs[i]?=some x,λi H=>∃xs,SqT K H a xs/\xs.length<=i⟩
noncomputable def Itr (lo:Int) (n:Nat):It:=⟨λi _=>i<n,λi H x H'=>H'=H/\x=.int (lo+i),λi _=>n<=i⟩
theorem oU {P:Program}{w:World}{K:yF}{tg:Expr}(a it:Addr):Turn P w K tg (Itl K a) [it] it (λi h=>h.IsListIter it a i) where
 mem:=by simp
 obj:=λi h st b hb=>by
  have e:b=it:=by simpa using hb
  subst e
  obtain⟨o,e,c,d⟩:=st
  exact⟨o,e,λv z=>by rw[d]at z;cases z⟩
 keep:=λi h h' st k=>st.at λo e=>k it (by simp) o e
 item:=by
  intro X hP hw hK hc i pins s Z H E I hf st hg
  subst hP hw hK
  obtain⟨xs,x,hq,hx⟩:=hg
  obtain⟨its,rv,p,hz⟩:=I.list hq
  obtain⟨u,hu,ru⟩:=rv.get hx
  obtain⟨f0,f1,f2,f3,f4,f5⟩:=hf it (by simp)
  refine wpAny_pyNext_list_item st p.isList (x:=u) (by simpa using hu) λh' st' sb=>?_
  have I1:Inv X pins Z H {s with heap:=h'}:=I.turned (t':=s.toks) (λb o hb e=>(sb.2 b hb).trans e) f0 f1 f3 f4 f5
  obtain⟨o,e,c,d⟩:=id st'
  exact⟨u,rfl,mP (s:={s with heap:=h'}) e c d (by decide) ⟨x,H,I1,ru,⟨rfl,λys hy=>by rw[I.list_inj hy hq];exact hx⟩,st',λb hb=>(hf b hb).1⟩⟩
 done:=by
  intro X hP hw hK hc i pins s Z H E I hf st hg
  subst hP hw hK
  obtain⟨xs,hq,hx⟩:=hg
  obtain⟨its,rv,p,hz⟩:=I.list hq
  obtain⟨f0,f1,f2,f3,f4,f5⟩:=hf it (by simp)
  have hl:=rv.length
  exact wpAny_pyNext_list_end (I.ok.hd hc) st p.isList (by simp;omega) λh' eb=>⟨rfl,I.turned (t':=s.toks) (λb o hb e=>eb b o hb e) f0 f1 f3 f4 f5⟩
 self:=λ_ _ _ _ _ st h=>wpAny_pyIter_listiter st h
theorem l5 {P:Program}{w:World}{K:yF}{tg:Expr}(a it:Addr):Turn P w K tg (Itt K a) [it] it (λi h=>h.IsTupleIter it a i) where
 mem:=by simp
 obj:=λi h st b hb=>by
  have e:b=it:=by simpa using hb
  subst e
  obtain⟨o,e,c,d⟩:=st
  exact⟨o,e,λv z=>by rw[d]at z;cases z⟩
 keep:=λi h h' st k=>st.at λo e=>k it (by simp) o e
 item:=by
  intro X hP hw hK hc i pins s Z H E I hf st hg
  subst hP hw hK
  obtain⟨xs,x,hq,hx⟩:=hg
  obtain⟨its,rv,p,hz⟩:=I.tuple hq
  obtain⟨u,hu,ru⟩:=rv.get hx
  obtain⟨f0,f1,f2,f3,f4,f5⟩:=hf it (by simp)
  refine wpAny_pyNext_tuple_item st (show s.heap.IsTuple a its.toArray from p) (x:=u) (by simpa using hu) λh' st' sb=>?_
  have I1:Inv X pins Z H {s with heap:=h'}:=I.turned (t':=s.toks) (λb o hb e=>(sb.2 b hb).trans e) f0 f1 f3 f4 f5
  obtain⟨o,e,c,d⟩:=id st'
  exact⟨u,rfl,mP (s:={s with heap:=h'}) e c d (by decide) ⟨x,H,I1,ru,⟨rfl,λys hy=>by rw[I.tuple_inj hy hq];exact hx⟩,st',λb hb=>(hf b hb).1⟩⟩
 done:=by
  intro X hP hw hK hc i pins s Z H E I hf st hg
  subst hP hw hK
  obtain⟨xs,hq,hx⟩:=hg
  obtain⟨its,rv,p,hz⟩:=I.tuple hq
  obtain⟨f0,f1,f2,f3,f4,f5⟩:=hf it (by simp)
  have hl:=rv.length
  exact wpAny_pyNext_tuple_end (I.ok.hd hc) st (show s.heap.IsTuple a its.toArray from p) (by simp;omega) λh' eb=>⟨rfl,I.turned (t':=s.toks) (λb o hb e=>eb b o hb e) f0 f1 f3 f4 f5⟩
 self:=λ_ _ _ _ _ st h=>wpAny_pyIter_tupleiter st h
theorem l4 {P:Program}{w:World}{K:yF}{tg:Expr}(it:Addr)(lo:Int)(n:Nat):Turn P w K tg (Itr lo n) [it] it (λi h=>IsRangeIter h it (lo+(i:Nat)*1) ((n:Int)-(i:Nat)) 1) where
 mem:=by simp
 obj:=λi h st b hb=>by
  have e:b=it:=by simpa using hb
  subst e
  exact⟨_,st,λv z=>by
   have z':Data.fields _=Data.cell v:=z
   cases z'⟩
 keep:=λi h h' st k=>k it (by simp) _ st
 item:=by
  intro X hP hw hK hc i pins s Z H E I hf st hg
  subst hP hw hK
  obtain⟨f0,f1,f2,f3,f4,f5⟩:=hf it (by simp)
  have W:=Walks.range (prog:=X.prog) (w:=X.w) (I.ok.hd hc) it lo 1 n
  refine W.item i s _ _ hg st λv h' tk hv st' kk=>?_
  obtain⟨t,rfl⟩:=hv
  have I1:Inv X pins Z H {s with heap:=h',toks:=tk}:=I.turned (λb o hb e=>kk b o (by simpa using hb) e) f0 f1 f3 f4 f5
  refine⟨_,rfl,mP (s:={s with heap:=h',toks:=tk}) (n:="range_iterator") st' rfl rfl (by decide) ⟨.int (lo+i),H,I1,⟨t,?_⟩,⟨rfl,rfl⟩,st',λb hb=>(hf b hb).1⟩⟩
  rw[Int.mul_one]
 done:=by
  intro X hP hw hK hc i pins s Z H E I hf st hg
  subst hP hw hK
  obtain⟨f0,f1,f2,f3,f4,f5⟩:=hf it (by simp)
  exact wpAny_pyNext_range_end (I.ok.hd hc) st (by have:n<=i:=hg;omega) λh' eb=>⟨rfl,I.turned (t':=s.toks) (λb o hb e=>eb b o hb e) f0 f1 f3 f4 f5⟩
 self:=λ_ _ _ _ _ st h=>wpAny_pyIter_rangeiter st h
section
variable  {X:Cx}{tg:Expr}
def mQ (K:yF)(tl:TE):TI:=λZ H R=>tl Z H λx H1=>∃a,x=.ref a/\(∃xs,SqL K H1 a xs)/\R (Itl K a) H1
def sN (K:yF)(tl:TE):TI:=λZ H R=>tl Z H λx H1=>∃a,x=.ref a/\(∃xs,SqT K H1 a xs)/\R (Itt K a) H1
theorem tQ {l:Expr}{tl:TE}(hl:PE X l tl):PI X tg l (mQ X.K tl):=by
 intro pins s Z H R I h
 refine thn (hl pins s Z H _ I h) λv s1 ⟨x,H1,I1,r1,q1⟩=>?_
 obtain⟨a,e,⟨xs,hq⟩,q⟩:=q1
 subst e
 cases r1
 obtain⟨its,rv,p,hz⟩:=I1.list hq
 refine wpAny_pyIter_list p.isList ?_
 refine⟨s1.heap.objs.size,[s1.heap.objs.size],_,_,H1,rfl,I1.kept (t':=s1.toks) λb o e=>Heap.get?_push_of_some _ e,oU a _,⟨_,Heap.get?_push_size _ rfl,rfl,rfl⟩,λb hb=>?_,q⟩
 have e:b=s1.heap.objs.size:=by simpa using hb
 subst e
 exact I1.fpOk (Bz _) (I1.hok.fresh (Bz _))
theorem xv {l:Expr}{tl:TE}(hl:PE X l tl):PI X tg l (sN X.K tl):=by
 intro pins s Z H R I h
 refine thn (hl pins s Z H _ I h) λv s1 ⟨x,H1,I1,r1,q1⟩=>?_
 obtain⟨a,e,⟨xs,hq⟩,q⟩:=q1
 subst e
 cases r1
 obtain⟨its,rv,p,hz⟩:=I1.tuple hq
 refine wpAny_pyIter_tuple (show s1.heap.IsTuple a its.toArray from p) ?_
 refine⟨s1.heap.objs.size,[s1.heap.objs.size],_,_,H1,rfl,I1.kept (t':=s1.toks) λb o e=>Heap.get?_push_of_some _ e,l5 a _,⟨_,Heap.get?_push_size _ rfl,rfl,rfl⟩,λb hb=>?_,q⟩
 have e:b=s1.heap.objs.size:=by simpa using hb
 subst e
 exact I1.fpOk (Bz _) (I1.hok.fresh (Bz _))
theorem le {pins:List (Addr×Obj)}{Z:St}{H:Hp}{s:Shared}{R:It->Hp->Prop}{E:Value->Shared->Prop}{lo hi:Int}{t u v:Tok}{tk:Nat}(I:Inv X pins Z H s)(h1 : -(2^62)<=lo)(h2:lo<2^62)(h3 : -(2^62)<=hi)(h4:hi<2^62)
  (q:R (Itr lo (hi-lo).toNat) H):wpAny (model X.prog X.w) X.A (pyIter (.ref s.heap.objs.size)) (PIE X pins Z tg R) E {s with heap:=s.heap.push {cls:=.type "range",data:=.fields #[.int lo t,.int hi u,.int 1 v]},toks:=tk}:=by
 refine wpAny_pyIter_range (IsRange.new ..) (small_one h1 h2 h3 h4) ?_
 have I1:Inv X pins Z H {s with heap:=s.heap.push {cls:=.type "range",data:=.fields #[.int lo t,.int hi u,.int 1 v]},toks:=tk}:=I.kept λb o e=>Heap.get?_push_of_some _ e
 refine⟨(s.heap.push {cls:=.type "range",data:=.fields #[.int lo t,.int hi u,.int 1 v]}).objs.size,[(s.heap.push {cls:=.type "range",data:=.fields #[.int lo t,.int hi u,.int 1 v]}).objs.size],_,_,H,rfl,
  I1.kept (t':=tk) λb o e=>Heap.get?_push_of_some _ e,l4 _ lo (hi-lo).toNat,?_,λb hb=>?_,q⟩
 ·have e1:lo+((0:Nat):Int)*1=lo:=by simp
  have e2:(((hi-lo).toNat:Nat):Int)-((0:Nat):Int)=Builtin.Range.rangeSize lo hi 1:=by rw[rangeSize_one];split<;>omega
  show IsRangeIter _ _ (lo+((0:Nat):Int)*1) ((((hi-lo).toNat:Nat):Int)-((0:Nat):Int)) 1
  rw[e1,e2]
  exact Heap.get?_push_size _ rfl
 ·have e:b=(s.heap.push {cls:=.type "range",data:=.fields #[.int lo t,.int hi u,.int 1 v]}).objs.size:=by simpa using hb
  subst e
  exact I1.fpOk (Bz _) (I1.hok.fresh (Bz _))
def ve (ta:TA):TI:=λZ H R=>ta Z H λvs H1=>∃j:Int,vs=[.int j]/\-(2^62)<=j/\j<2^62/\R (Itr 0 j.toNat) H1
def vf (ta:TA):TI:=λZ H R=>ta Z H λvs H1=>∃i j:Int,vs=[.int i,.int j]/\(-(2^62)<=i/\i<2^62/\-(2^62)<=j/\j<2^62)/\R (Itr i (j-i).toNat) H1
theorem on {a:Expr}{ta:TA}{p pos:Pos}(hg:Gl X "range")(hm:X.mg "range" = none)(ha:PA X [a] ta)(hs:starEach [a] X.env=[(false,eval a X.env)]:=by rfl):PI X tg (.Call (.Name "range" p) [a] [] pos) (ve ta):=by
 intro pins s Z H R I h
 refine Call_ (gf I hg hm boot_range (Cz (thn (ha pos pins s Z H _ I h) λus s1 ⟨vs,H1,I1,r1,q1⟩=>?_) hs rfl))
 obtain⟨j,e,q1,q2,q⟩:=q1
 subst e
 cases r1 with
 | cons r rr=>
  cases rr
  obtain⟨t,rfl⟩:=r
  exact call_range_1 (le I1 (by omega) (by omega) q1 q2 (by simpa using q))
theorem oo {a b:Expr}{ta:TA}{p pos:Pos}(hg:Gl X "range")(hm:X.mg "range" = none)(ha:PA X [a,b] ta)(hs:starEach [a,b] X.env=[(false,eval a X.env),(false,eval b X.env)]:=by rfl)(hs2:starEach [b] X.env=[(false,eval b X.env)]:=by rfl) :
  PI X tg (.Call (.Name "range" p) [a,b] [] pos) (vf ta):=by
 intro pins s Z H R I h
 refine Call_ (gf I hg hm boot_range (Cz (thn (ha pos pins s Z H _ I h) λus s1 ⟨vs,H1,I1,r1,q1⟩=>?_) (by rw[hs,hs2]) (by rw[hs2];rfl)))
 obtain⟨i,j,e,⟨q1,q2,q3,q4⟩,q⟩:=q1
 subst e
 cases r1 with
 | cons r rr=>
  cases rr with
  | cons r' rr=>
   cases rr
   obtain⟨t,rfl⟩:=r
   obtain⟨t',rfl⟩:=r'
   exact call_range_2 (le I1 q1 q2 q3 q4 q)
def Ax (wi:TI)(g:TG)(tb:TS):TS:=λD Z H=>wi Z H λJ H1=>∃W:Nat->Nat->St->Hp->Prop,(∃m,W 0 m Z H1)/\∀i m Z H,W i m Z H →
 (J.stop i H/\D.nx Z H)∨(J.go i H/\∃N:St->Hp->Prop,(∀Z' H',N Z' H'->∃m',m'<m/\W (i+1) m' Z' H')/\∀x H',J.yld i H x H'->g x Z H' λZ2 H2=>tb {D with nx:=N,ct:=N,bk:=D.nx} Z2 H2)
noncomputable def iC (fp:List Addr) (h:Heap):List (Addr×Obj):=fp.filterMap λb=>(h.get? b).map λo=>(b,o)
theorem dz {fp:List Addr}{h:Heap}{b:Addr}{o:Obj}(hb:b∈fp)(e:h.get? b=some o):(b,o)∈iC fp h:=B2.mpr ⟨b,hb,by rw[e];rfl⟩
theorem oh {fp:List Addr}{h:Heap}{p:Addr×Obj}(hp:p∈iC fp h):p.1∈fp/\h.get? p.1=some p.2:=by
 obtain⟨b,hb,e⟩:=B2.mp hp
 cases q:h.get? b with
 | none=>rw[q]at e;cases e
 | some o=>
  rw[q]at e
  have e':(b,o)=p:=BQ.inj e
  subst e'
  exact⟨hb,q⟩
theorem Inv.pinned {pins:List (Addr×Obj)}{Z:St}{H:Hp}{s:Shared}{fp:List Addr}(I:Inv X pins Z H s)(hf:∀b∈fp,fh X pins H b)(ho:∀b∈fp,∃o,s.heap.get? b=some o/\∀v,o.data ≠ .cell v):Inv X (pins++iC fp s.heap) Z H s:=
 I.pins_of λp hp=>(yaM hp).elim (λz=>I.pin p (yaR _ z)) λz=>by
  obtain⟨hb,e⟩:=oh z
  obtain⟨f0,f1,f2,_⟩:=hf p.1 hb
  obtain⟨o,e',d⟩:=ho p.1 hb
  rw[e]at e';cases e'
  exact⟨e,f0,f1,f2,d⟩
theorem Inv.unpinned {pins pl:List (Addr×Obj)}{Z:St}{H:Hp}{s:Shared}(I:Inv X (pins++pl) Z H s):Inv X pins Z H s:=I.pins_of λp hp=>I.pin p (yaR _ (yaL _ hp))
theorem xz {iter:Expr}{body:List Stmt}{wi:TI}{g:TG}{tb:TS}{pos:Pos}(hp:PassesOwn (model X.prog X.w) X.A X.env X.xe)(hc:X.calm=true)(hi:PI X tg iter wi)(hg:PG X tg g)(hb:PSs X body tb)
  (hs:∀x,foldedSetIterable iter X.env x=pure x:=by intro _;rfl):PS X (.For tg iter body [] pos) (Ax wi g tb):=by
 intro pins s Z H D I h
 refine wpAny_For (thn (hi pins s Z H _ I h) λv s1 h1=>thn h1 λitv s2 h2=>?_) hs
 obtain⟨it,fp,tn,J,H2,e,I2,T,st2,f2,W,⟨m0,w0⟩,turn⟩:=h2
 subst e
 have stat:∀{H':Hp},(∀b∈fp,H' b=none)->∀b∈fp,fh X pins H' b:=λhn b hb=>⟨hn b hb,(f2 b hb).2⟩
 refine codeAny_forLoop_any (λn s'=>∃i Z' H',Inv X pins Z' H' s'/\tn i s'.heap/\(∀b∈fp,H' b=none)/\W i n Z' H') ?_ m0 ⟨0,Z,H2,I2,st2,λb hb=>(f2 b hb).1,w0⟩
 rintro n s3 ⟨i,Z3,H3,I3,st3,fr3,w3⟩
 rcases turn i n Z3 H3 w3 with⟨stop,qn⟩|⟨go,N,hN,step⟩
 ·refine wpAny_passesOwn hp (thn (T.done X rfl rfl rfl hc i pins s3 Z3 H3 X.xe I3 (stat fr3) st3 stop) λr s4 ⟨hr,I4⟩=>?_)
  subst hr
  exact wpAny_execs_nil ⟨Z3,H3,I4,qn⟩
 ·refine wpAny_passesOwn hp (thn (T.item X rfl rfl rfl hc i pins s3 Z3 H3 X.xe I3 (stat fr3) st3 go) λr s4 ⟨u,hr,h4⟩=>?_)
  subst hr
  refine wpAny_passesOwn hp (thn h4 λ_ s5 ⟨x,H5,I5,r5,y5,st5,fr5⟩=>?_)
  have I5':=I5.pinned (stat fr5) (T.obj _ _ st5)
  refine wpAny_passesOwn hp (thn (hg _ s5 Z3 H5 x u _ I5' r5 (step x H5 y5)) λ_ s6 ⟨Z6,H6,I6,q6⟩=>?_)
  refine wpAny_passesOwn hp (thn (hb _ s6 Z6 H6 _ I6 q6) λf s7 q7=>?_)
  have again:∀{Z7:St} {H7:Hp},Inv X (pins++iC fp s5.heap) Z7 H7 s7->N Z7 H7->∃m,m<n/\∃i Z' H',Inv X pins Z' H' s7/\tn i s7.heap/\(∀b∈fp,H' b=none)/\W i m Z' H':=λ{Z7 H7} I7 n7=>by
   obtain⟨m',hm,w7⟩:=hN Z7 H7 n7
   refine⟨m',hm,i+1,Z7,H7,I7.unpinned,T.keep _ _ _ st5 λb hb o e=>(I7.pin (b,o) (yaR _ (yaR _ (dz hb e)))).1,λb hb=>?_,w7⟩
   obtain⟨o,e,d⟩:=T.obj _ _ st5 b hb
   exact(I7.pin (b,o) (yaR _ (yaR _ (dz hb e)))).2.1
  cases f with
  | next=>obtain⟨Z7,H7,I7,n7⟩:=q7;exact again I7 n7
  | cont=>obtain⟨Z7,H7,I7,n7⟩:=q7;exact again I7 n7
  | brk=>obtain⟨Z7,H7,I7,q7⟩:=q7;exact⟨Z7,H7,I7.unpinned,q7⟩
  | ret v=>obtain⟨x7,Z7,H7,I7,r7,q7⟩:=q7;exact⟨x7,Z7,H7,I7.unpinned,r7,q7⟩
end
abbrev R2:=V->V->Hp->VK->Prop
def OpR (X:Cx)(f:Value->Value->Sem Value)(r:R2):Prop:=
 ∀(pins:List (Addr×Obj)) (s:Shared) (Z:St) (H:Hp) (x y:V) (v u:Value) (Q:VK),Inv X pins Z H s->RelV x v->RelV y u->r x y H Q →
  wpAny (model X.prog X.w) X.A (f v u) (EP X pins Z Q) X.xe s
def CallR (X:Cx)(f:Value)(r:List V->Hp->VK->Prop):Prop:=
 ∀(pins:List (Addr×Obj)) (s:Shared) (Z:St) (H:Hp) (xs:List V) (us:List Value) (Q:VK),Inv X pins Z H s->Vals xs us->r xs H Q →
  wpAny (model X.prog X.w) X.A (call f us) (EP X pins Z Q) X.xe s
def tOp (r:R2)(ta tb:TE):TE:=λZ H Q=>ta Z H λx H1=>tb Z H1 λy H2=>r x y H2 Q
def tUn (r:V->Hp->VK->Prop)(ta:TE):TE:=λZ H Q=>ta Z H λx H1=>r x H1 Q
def rI (C:Int->Int->Prop)(g:Int->Int->V):R2:=λx y H Q=>∃i j,x=.int i/\y=.int j/\C i j/\Q (g i j) H
def rI0 (g:Int->Int->V):R2:=λx y H Q=>∃i j,x=.int i/\y=.int j/\Q (g i j) H
section
variable  {X:Cx}{a b c:Expr}{ta tb tc:TE}{pos:Pos}
theorem vX (ha:PE X a ta)(hb:PE X b tb){pins:List (Addr×Obj)}{s:Shared}{Z:St}{H:Hp}{R:V->V->Hp->Prop}(I:Inv X pins Z H s)
  (h:ta Z H λx H1=>tb Z H1 λy H2=>R x y H2) {Q:Value->Shared->Prop} {f:Value->Value->Sem Value}
  (hf:∀v u s2 x y H2,Inv X pins Z H2 s2->RelV x v->RelV y u->R x y H2->wpAny (model X.prog X.w) X.A (f v u) Q X.xe s2) :
  wpAny (model X.prog X.w) X.A (eval a X.env) (λv s₁=>wpAny (model X.prog X.w) X.A (eval b X.env) (λu s₂=>wpAny (model X.prog X.w) X.A (f v u) Q X.xe s₂) X.xe s₁) X.xe s:=by
 refine thn (ha pins s Z H _ I h) λv s1 ⟨x,H1,I1,r1,q1⟩=>?_
 refine thn (hb pins s1 Z H1 _ I1 q1) λu s2 ⟨y,H2,I2,r2,q2⟩=>?_
 exact hf v u s2 x y H2 I2 r1 r2 q2
theorem zI {op:Operator}{r:R2}(ho:OpR X (binaryOp op) r)(ha:PE X a ta)(hb:PE X b tb):PE X (.BinOp a op b pos) (tOp r ta tb):=by
 intro pins s Z H Q I h
 exact wpAny_BinOp (vX ha hb I h λv u s2 x y H2 I2 rx ry q=>ho pins s2 Z H2 x y v u Q I2 rx ry q)
theorem opI {f:Value->Value->Sem Value}{C:Int->Int->Prop}{g:Int->Int->Int}
  (rule:∀(i j:Int) (t u:Tok) (s:Shared) (Q:Value->Shared->Prop) (E:Value->Shared->Prop),C i j->Q (.int (g i j) s.toks) {s with toks:=s.toks+1}->wpAny (model X.prog X.w) X.A (f (.int i t) (.int j u)) Q E s) :
  OpR X f (rI C λi j=>.int (g i j)):=by
 intro pins s Z H x y v u Q I rx ry h
 obtain⟨i,j,rfl,rfl,hc,q⟩:=h
 obtain⟨t,rfl⟩:=rx
 obtain⟨t',rfl⟩:=ry
 exact rule i j t t' s _ _ hc ⟨.int (g i j),H,I.tok _,⟨_,rfl⟩,q⟩
theorem zm {f:Value->Value->Sem Value}{g:Int->Int->Int}
  (rule:∀(i j:Int) (t u:Tok) (s:Shared) (Q:Value->Shared->Prop) (E:Value->Shared->Prop),Q (.int (g i j) s.toks) {s with toks:=s.toks+1}->wpAny (model X.prog X.w) X.A (f (.int i t) (.int j u)) Q E s) :
  OpR X f (rI0 λi j=>.int (g i j)):=by
 intro pins s Z H x y v u Q I rx ry h
 obtain⟨i,j,rfl,rfl,q⟩:=h
 obtain⟨t,rfl⟩:=rx
 obtain⟨t',rfl⟩:=ry
 exact rule i j t t' s _ _ ⟨.int (g i j),H,I.tok _,⟨_,rfl⟩,q⟩
theorem wH {f:Value->Value->Sem Value}{g:Int->Int->Bool}
  (rule:∀(i j:Int) (t u:Tok) (s:Shared) (Q:Value->Shared->Prop) (E:Value->Shared->Prop),Q (.bool (g i j)) s->wpAny (model X.prog X.w) X.A (f (.int i t) (.int j u)) Q E s) :
  OpR X f (rI0 λi j=>.bl (g i j)):=by
 intro pins s Z H x y v u Q I rx ry h
 obtain⟨i,j,rfl,rfl,q⟩:=h
 obtain⟨t,rfl⟩:=rx
 obtain⟨t',rfl⟩:=ry
 exact rule i j t t' s _ _ ⟨.bl (g i j),H,I,rfl,q⟩
def vS (i j:Int):Prop:=0<=j/\j<=1000000/\i.natAbs<2^64
def CMul (i j:Int):Prop:=(-(2^64)<i/\i<2^64)∨(-(2^64)<j/\j<2^64)
theorem CMul.ok {i j:Int}(h:CMul i j):IntMulOk i j:=by
 rcases h with⟨h1,h2⟩|⟨h1,h2⟩
 ·exact .of_left (intBits_le_64 h1 h2)
 ·exact .of_right (intBits_le_64 h1 h2)
theorem op_add:OpR X (binaryOp .Add) (rI0 λi j=>.int (i+j)):=zm λ_ _ _ _ _ _ _ q=>add_int q
theorem wS:OpR X (binaryOp .Sub) (rI0 λi j=>.int (i-j)):=zm λ_ _ _ _ _ _ _ q=>sub_int q
theorem op_mul:OpR X (binaryOp .Mult) (rI CMul λi j=>.int (i*j)):=opI λ_ _ _ _ _ _ _ hc q=>mul_int q hc.ok
theorem wN:OpR X (binaryOp .Mod) (rI (λ_ j=>0<j) λi j=>.int (i % j)):=opI λi j _ _ _ _ _ hc q=>by
 have h1:(0:Int)<j:=hc
 exact mod_int' (by omega) (by rw[Int.fmod_eq_emod_of_nonneg i (by omega)];exact q)
theorem wR:OpR X (binaryOp .Pow) (rI vS λi j=>.int (i^j.toNat)):=opI λ_ _ _ _ _ _ _ hc q=>pow_int_small hc.1 hc.2.1 hc.2.2 q
end
noncomputable def rP:V->V->Bool
 | .non,.non=>true|.non,.int _=>true|.int _,.non=>true|.non,.bl _=>true|.bl _,.non=>true|.non,.str _=>true|.str _,.non=>true
 | .int _,.int _=>true|.bl _,.bl _=>true|.str _,.str _=>true|.byt _,.byt _=>true
 | .int _,.str _=>true|.str _,.int _=>true|.bl _,.str _=>true|.str _,.bl _=>true
 | _,_=>false
def rEq:R2:=λx y H Q=>rP x y=true/\Q (.bl (decide (x=y))) H
def rNe:R2:=λx y H Q=>rP x y=true/\Q (.bl (!decide (x=y))) H
theorem mE {i j:Int}:decide (V.int i=V.int j)=(i==j):=by
 rw[Cp]
 simp
theorem ph {i j:Bool}:decide (V.bl i=V.bl j)=(i==j):=by
 rw[Cp]
 simp
theorem mF {i j:Str}:decide (V.str i=V.str j)=(i==j):=by
 rw[Cp]
 simp
theorem mD {i j:Array UInt8}:decide (V.byt i=V.byt j)=(i.toList==j.toList):=by
 rw[Cp]
 cases i
 cases j
 simp
section
variable  {X:Cx}{a b c:Expr}{ta tb tc:TE}{pos:Pos}
theorem aH {pins:List (Addr×Obj)}{Z:St}{H:Hp}{s:Shared}{Q:VK}{k k':Bool}(I:Inv X pins Z H s)(q:Q (.bl k) H)(e:k=k'):EP X pins Z Q (.bool k') s:=by
 subst e
 exact⟨.bl k,H,I,rfl,q⟩
theorem op_eq:OpR X (compareOp .Eq) rEq:=by
 intro pins s Z H x y v u Q I rx ry h
 obtain⟨hs,q⟩:=h
 cases x with
 | non=>
  cases rx
  cases y with
  | non=>cases ry;exact PySem.EqNone.eq_none_none (aH I q (by simp))
  | bl j=>cases ry;exact PySem.EqNone.eq_none_bool (aH I q (by simp))
  | int j=>obtain⟨t',rfl⟩:=ry;exact PySem.EqNone.eq_none_int (aH I q (by simp))
  | str j=>obtain⟨t',rfl⟩:=ry;exact PySem.EqNone.eq_none_str (aH I q (by simp))
  | _=>exact absurd (show false=true from hs) BA
 | bl i=>
  cases rx
  cases y with
  | non=>cases ry;exact PySem.EqNone.eq_bool_none (aH I q (by simp))
  | bl j=>cases ry;exact eq_bool (aH I q ph)
  | str j=>obtain⟨t',rfl⟩:=ry;exact PySem.EqMixed.eq_bool_str (aH I q (by simp))
  | _=>exact absurd (show false=true from hs) BA
 | int i=>
  obtain⟨t,rfl⟩:=rx
  cases y with
  | non=>cases ry;exact PySem.EqNone.eq_int_none (aH I q (by simp))
  | int j=>obtain⟨t',rfl⟩:=ry;exact eq_int (aH I q mE)
  | str j=>obtain⟨t',rfl⟩:=ry;exact PySem.EqMixed.eq_int_str (aH I q (by simp))
  | _=>exact absurd (show false=true from hs) BA
 | str i=>
  obtain⟨t,rfl⟩:=rx
  cases y with
  | non=>cases ry;exact PySem.EqNone.eq_str_none (aH I q (by simp))
  | bl j=>cases ry;exact PySem.EqMixed.eq_str_bool (aH I q (by simp))
  | int j=>obtain⟨t',rfl⟩:=ry;exact PySem.EqMixed.eq_str_int (aH I q (by simp))
  | str j=>obtain⟨t',rfl⟩:=ry;exact eq_str (aH I q mF)
  | _=>exact absurd (show false=true from hs) BA
 | byt i=>
  obtain⟨t,rfl⟩:=rx
  cases y with
  | byt j=>obtain⟨t',rfl⟩:=ry;exact PySem.W.eq_bytes (aH I q mD)
  | _=>exact absurd (show false=true from hs) BA
 | _=>cases y<;>exact absurd (show false=true from hs) BA
theorem op_ne:OpR X (compareOp .NotEq) rNe:=by
 intro pins s Z H x y v u Q I rx ry h
 obtain⟨hs,q⟩:=h
 cases x with
 | non=>
  cases rx
  cases y with
  | non=>cases ry;exact PySem.EqNone.ne_none_none (aH I q (by simp))
  | bl j=>cases ry;exact PySem.EqNone.ne_none_bool (aH I q (by simp))
  | int j=>obtain⟨t',rfl⟩:=ry;exact PySem.EqNone.ne_none_int (aH I q (by simp))
  | str j=>obtain⟨t',rfl⟩:=ry;exact PySem.EqNone.ne_none_str (aH I q (by simp))
  | _=>exact absurd (show false=true from hs) BA
 | bl i=>
  cases rx
  cases y with
  | non=>cases ry;exact PySem.EqNone.ne_bool_none (aH I q (by simp))
  | bl j=>cases ry;exact ne_bool (aH I q (congrArg not ph))
  | str j=>obtain⟨t',rfl⟩:=ry;exact PySem.EqMixed.ne_bool_str (aH I q (by simp))
  | _=>exact absurd (show false=true from hs) BA
 | int i=>
  obtain⟨t,rfl⟩:=rx
  cases y with
  | non=>cases ry;exact PySem.EqNone.ne_int_none (aH I q (by simp))
  | int j=>obtain⟨t',rfl⟩:=ry;exact ne_int (aH I q (congrArg not mE))
  | str j=>obtain⟨t',rfl⟩:=ry;exact PySem.EqMixed.ne_int_str (aH I q (by simp))
  | _=>exact absurd (show false=true from hs) BA
 | str i=>
  obtain⟨t,rfl⟩:=rx
  cases y with
  | non=>cases ry;exact PySem.EqNone.ne_str_none (aH I q (by simp))
  | bl j=>cases ry;exact PySem.EqMixed.ne_str_bool (aH I q (by simp))
  | int j=>obtain⟨t',rfl⟩:=ry;exact PySem.EqMixed.ne_str_int (aH I q (by simp))
  | str j=>obtain⟨t',rfl⟩:=ry;exact ne_str (aH I q (congrArg not mF))
  | _=>exact absurd (show false=true from hs) BA
 | byt i=>
  obtain⟨t,rfl⟩:=rx
  cases y with
  | byt j=>obtain⟨t',rfl⟩:=ry;exact PySem.W.ne_bytes (aH I q (congrArg not mD))
  | _=>exact absurd (show false=true from hs) BA
 | _=>cases y<;>exact absurd (show false=true from hs) BA
theorem zq:OpR X (compareOp .Lt) (rI0 λi j=>.bl (decide (i<j))):=wH λ_ _ _ _ _ _ _ q=>lt_int q
theorem zp:OpR X (compareOp .Gt) (rI0 λi j=>.bl (decide (j<i))):=wH λ_ _ _ _ _ _ _ q=>gt_int q
theorem zn:OpR X (compareOp .GtE) (rI0 λi j=>.bl (decide (j<=i))):=wH λ_ _ _ _ _ _ _ q=>ge_int q
theorem op_in_str:OpR X (compareOp .In) (λx y H Q=>∃i j,x=.str i/\y=.str j/\Q (.bl (!(Builtin.Str.occurrences j i 0 j.length 1).isEmpty)) H):=by
 intro pins s Z H x y v u Q I rx ry h
 obtain⟨i,j,rfl,rfl,q⟩:=h
 obtain⟨t,rfl⟩:=rx
 obtain⟨t',rfl⟩:=ry
 exact in_str (aH I q rfl)
theorem OpR.or {f:Value->Value->Sem Value}{r r':R2}(h:OpR X f r)(h':OpR X f r'):OpR X f (λx y H Q=>r x y H Q∨r' x y H Q):=by
 intro pins s Z H x y v u Q I rx ry q
 rcases q with q|q
 ·exact h pins s Z H x y v u Q I rx ry q
 ·exact h' pins s Z H x y v u Q I rx ry q
theorem tJ {op:CmpOp}{r:R2}(ho:OpR X (compareOp op) r)(ha:PE X a ta)(hb:PE X b tb)(hm:behindInMarks op b=false):PE X (.Compare a [op] [b] pos) (tOp r ta tb):=by
 intro pins s Z H Q I h
 exact wpAny_Compare1 (vX ha hb I h λv u s2 x y H2 I2 rx ry q=>ho pins s2 Z H2 x y v u Q I2 rx ry q) hm
def vP (t:TE):TT:=λZ H Q=>t Z H λx H'=>∃k,x=.bl k/\Q k H'
theorem t5 {op:CmpOp}{r:R2}(ho:OpR X (compareOp op) r)(ha:PE X a ta)(hb:PE X b tb)(hm:behindInMarks op b=false):PT X (.Compare a [op] [b] pos) (vP (tOp r ta tb)):=by
 intro pins s Z H Q I h
 refine wpAny_isTrue_Compare1 (thn (ha pins s Z H _ I h) λv s1 ⟨x,H1,I1,r1,q1⟩=>thn (hb pins s1 Z H1 _ I1 q1) λu s2 ⟨y,H2,I2,r2,q2⟩=>
  thn (ho pins s2 Z H2 x y v u _ I2 r1 r2 q2) λc s3 ⟨z,H3,I3,r3,k,e,q3⟩=>?_) hm
 subst e
 cases r3
 exact wpAny_truthy_bool ⟨H3,I3,q3⟩
theorem gj:(sizeLine:Nat)<2^63:=by rw[sizeLine_eq];decide
theorem op_add_str:OpR X (binaryOp .Add) (λx y H Q=>∃i j,x=.str i/\y=.str j/\i.length+j.length<=sizeLine/\Q (.str (i++j)) H):=by
 intro pins s Z H x y v u Q I rx ry h
 obtain⟨i,j,rfl,rfl,hz,q⟩:=h
 obtain⟨t,rfl⟩:=rx
 obtain⟨t',rfl⟩:=ry
 exact add_str (λt' tk=>⟨.str (i++j),H,I.tok _,⟨_,rfl⟩,q⟩) hz
theorem dN {x:V}{us:List Value}(r:Vals [x] us):∃u,us=[u]/\RelV x u:=by
 cases r with
 | cons r1 r2=>cases r2;exact⟨_,rfl,r1⟩
theorem lq {x y:V}{us:List Value}(r:Vals [x,y] us):∃u w',us=[u,w']/\RelV x u/\RelV y w':=by
 cases r with
 | cons r1 r2=>
  cases r2 with
  | cons r3 r4=>cases r4;exact⟨_,_,rfl,r1,r3⟩
theorem nH (hc:X.calm=true):CallR X (.builtin "max") (λxs H Q=>∃i j,xs=[.int i,.int j]/\Q (.int (if j>i then j else i)) H):=by
 intro pins s Z H xs us Q I r h
 obtain⟨i,j,rfl,q⟩:=h
 obtain⟨u,w',rfl,⟨t,rfl⟩,⟨t',rfl⟩⟩:=lq r
 refine max_two_ints (I.ok.hd hc) λh' tk k=>⟨_,H,I.kept k,?_,q⟩
 by_cases hj:j>i
 ·rw[if_pos hj,if_pos hj];exact⟨_,rfl⟩
 ·rw[if_neg hj,if_neg hj];exact⟨_,rfl⟩
theorem nI (hc:X.calm=true):CallR X (.builtin "min") (λxs H Q=>∃i j,xs=[.int i,.int j]/\Q (.int (if j<i then j else i)) H):=by
 intro pins s Z H xs us Q I r h
 obtain⟨i,j,rfl,q⟩:=h
 obtain⟨u,w',rfl,⟨t,rfl⟩,⟨t',rfl⟩⟩:=lq r
 refine min_two_ints (I.ok.hd hc) λh' tk k=>⟨_,H,I.kept k,?_,q⟩
 by_cases hj:j<i
 ·rw[if_pos hj,if_pos hj];exact⟨_,rfl⟩
 ·rw[if_neg hj,if_neg hj];exact⟨_,rfl⟩
theorem nE:CallR X (.type "int") (λxs H Q=>(∃i,xs=[.int i]/\Q (.int i) H) ∨ ∃k,xs=[.bl k]/\Q (.int (if k then 1 else 0)) H):=by
 intro pins s Z H xs us Q I r h
 rcases h with⟨i,rfl,q⟩|⟨k,rfl,q⟩
 ·obtain⟨u,rfl,t,rfl⟩:=dN r
  exact call_int_int ⟨.int i,H,I,⟨_,rfl⟩,q⟩
 ·obtain⟨u,rfl,r1⟩:=dN r
  cases r1
  exact call_int_bool ⟨.int (if k then 1 else 0),H,I.tok _,⟨_,rfl⟩,q⟩
end
structure ObjM (h:Heap)(x dx C:Addr)(mA:Str->Option Value):Prop where
 obj:h.get? x=some (Ef C dx)
 ns:h.Ns1 dx mA
 ne:dx≠x
section
variable  {prog:Program}{w:World}{A:Around}{E:Value->Shared->Prop}{s:Shared}{K:yF}{x dx C f:Addr}{mA:Str->Option Value}{name:Str}{v:Value}
end
theorem RelO.some_of {v:V}{o:Option Value}(r:RelO (some v) o):∃u,o=some u/\RelV v u:=by
 cases o with
 | none=>exact(show False from r).elim
 | some u=>exact⟨u,rfl,r⟩
section
variable  {P:Program}{w:World}{H H':Hp}{h h':Heap}{a C dx:Addr}{fs fs':List (Str×V)}
end
structure Cls (K:yF)(C:Addr):Prop where
 pg:PySem.W.plainGet K C Str.empty=true
 hd:PySem.W.hasDictIn K C=true
 po:PySem.W.plainOver K C=true
 sa:Dm K (.ref C) "__setattr__" = some (some (.builtin "object.__setattr__"))
structure Con (K:yF)(C:Addr)(f:Str)(v:V)(u:Value):Prop where
 at_:Dm K (.ref C) f=some (some u)
 rel:RelV v u
 get:D4 K u "__get__" = some none
 cp:PySem.W.copiedNames.contains f=false
structure Meth (K:yF)(C:Addr)(m:Str)(f:Addr):Prop where
 at_:Dm K (.ref C) m=some (some (.ref f))
 fn:PySem.W.isFn K (.ref f)=true
 kp:CC K (.ref f)=true
section
variable  {X:Cx}{pins:List (Addr×Obj)}{Z:St}{H:Hp}{s:Shared}{a C dx:Addr}{fs:List (Str×V)}{f:Str}{v:V}{A:Around}{E:Value->Shared->Prop}
end
section
variable  {X:Cx}{o e value:Expr}{f:Str}{pos pos' tpos:Pos}{ta tv:TE}
end
section
variable  {X:Cx}{pins:List (Addr×Obj)}{Z:St}{H:Hp}{s:Shared}{A:Around}{E:Value->Shared->Prop}{Q:Value->Shared->Prop}{c:Value}{b:Bool}
inductive TyOf (K:yF) (H:Hp):V->Value->Prop where
 | non:TyOf K H .non (.type "NoneType")
 | bl (x:Bool):TyOf K H (.bl x) (.type "bool")
 | int (i:Int):TyOf K H (.int i) (.type "int")
 | str (x:Str):TyOf K H (.str x) (.type "str")
 | flt (x:UInt64):TyOf K H (.flt x) (.type "float")
 | lst {a:Addr} {xs:List V} (e:H a=some (.lst xs)):TyOf K H (.ref a) (.type "list")
 | frz {a:Addr} {o:Obj} {xs:List V} (e:H a=some (.frz o (.lst xs))):TyOf K H (.ref a) (.type "list")
 | tup {a:Addr} {xs:List V} (e:H a=some (.tup xs)):TyOf K H (.ref a) (.type "tuple")
 | dK {a:Addr} {kvs:List (Key×V)} (e:H a=some (.dK kvs)):TyOf K H (.ref a) (.type "dict")
 | dT {a:Addr} {kvs:List (List Key×V)} (e:H a=some (.dT kvs)):TyOf K H (.ref a) (.type "dict")
 | ins {a C dx:Addr} {fs:List (Str×V)} (e:H a=some (.ins C dx fs)) (cl:Cls K C) (ha:Dm K (.ref C) "__class__" = some (some (.builtin "object.__class__")))
   (hn:D4 K (.builtin "object.__class__") "__get__" = some (some (.builtin "getset_descriptor.__get__"))) (htk:PySem.W.takesIn K (.builtin "object.__class__")=some true)
   (hm:PySem.W.mroIn K C (.type "object")=some true):TyOf K H (.ref a) (.ref C)
end
structure Room (k:Nat)(A:Around):Prop where
 hd:A.handled=none
 gd:A.guards=some []
 dp:A.depth+3*k+5<recursionLimit
 un:A.units+16*k+200<cLine
theorem Room.mono {j k:Nat}{A:Around}(r:Room k A)(h:j<=k):Room j A:=⟨r.hd,r.gd,by have:=r.dp;omega,by have:=r.un;omega⟩
theorem Room.deeper {k:Nat}{A:Around}(r:Room (k+1) A)(env:Env):Room k (A.deeper env):=
 ⟨r.hd,r.gd,by have:=r.dp;show A.depth+1+3*k+5<_;omega,by have:=r.un;show A.units+3+16*k+200<_;omega⟩
theorem Room.in1 {k:Nat}{A:Around}(r:Room (k+1) A):Room k A.in1:=
 ⟨r.hd,r.gd,by have:=r.dp;show A.depth+3*k+5<_;omega,by have:=r.un;show A.units+1+16*k+200<_;omega⟩
theorem Room.depth {k:Nat}{A:Around}(r:Room k A):A.depth<recursionLimit:=by have:=r.dp;omega
theorem Room.units {k:Nat}{A:Around}(r:Room k A):A.units+64<cLine:=by have:=r.un;omega
def AB:TA:=λ_ H Q=>Q [] H
def nr (ta:TE)(tr:TA):TA:=λZ H Q=>ta Z H λx H1=>tr Z H1 λxs H2=>Q (x::xs) H2
section
variable  {X:Cx}{e:Expr}{es:List Expr}{te:TE}{t:TA}{pos:Pos}
theorem qk:PA X [] AB:=λ_ _ _ _ H Q I h=>Calls.spliced_nil ⟨[],H,I,.nil,h⟩
theorem tG (ha:PE X e te)(hr:PA X es t)(hs:starEach (e::es) X.env=(false,eval e X.env)::starEach es X.env:=by rfl):PA X (e::es) (nr te t):=by
 intro pos pins s Z H Q I h
 rw[hs]
 show wpAny _ _ (spliced ((false,eval e X.env)::backTo pos (starEach es X.env))) _ _ s
 refine Calls.spliced_cons (thn (ha pins s Z H _ I h) λu s1 ⟨x,H1,I1,r1,q1⟩=>?_)
 exact thn (hr pos pins s1 Z H1 _ I1 q1) λus s2 ⟨xs,H2,I2,r2,q2⟩=>⟨x::xs,H2,I2,.cons r1 r2,q2⟩
def AG (t:TA):TE:=λZ H Q=>t Z H λxs H1=>xs.length<=sizeLine/\∀p,H1 p=none->Q (.ref p) (upd H1 p (.tup xs))
def Az (t:TA):TE:=λZ H Q=>t Z H λxs H1=>xs.length<=sizeLine/\∀p,H1 p=none->Q (.ref p) (upd H1 p (.lst xs))
theorem xr {x1}(h:PA X es t):PE X (.Tuple es x1 pos) (AG t):=by
 intro pins s Z H Q I hq
 refine wpAny_Tuple_spliced (thn (h pos pins s Z H _ I hq) λus s1 ⟨xs,H1,I1,r,z,q⟩=>⟨by rw[←r.length];exact z,?_⟩)
 have hf:H1 s1.heap.objs.size=none:=I1.hok.fresh (Bz _)
 refine⟨.ref s1.heap.objs.size,upd H1 s1.heap.objs.size (.tup xs),I1.laid (t':=s1.toks) (λb u e=>Heap.get?_push_of_some _ e) (Bz _) ?_,rfl,q _ hf⟩
 exact⟨z,us,r,⟨_,Heap.get?_push_size _ rfl,⟨rfl,rfl⟩,_,rfl⟩⟩
theorem xn (h:PA X es t):PE X (.List es pos) (Az t):=by
 intro pins s Z H Q I hq
 refine wpAny_List_spliced (thn (h pos pins s Z H _ I hq) λus s1 ⟨xs,H1,I1,r,z,q⟩=>⟨by rw[←r.length];exact z,?_⟩)
 have hf:H1 s1.heap.objs.size=none:=I1.hok.fresh (Bz _)
 refine⟨.ref s1.heap.objs.size,upd H1 s1.heap.objs.size (.lst xs),I1.laid (t':=s1.toks) (λb u e=>Heap.get?_push_of_some _ e) (Bz _) ?_,rfl,q _ hf⟩
 exact⟨z,us,0,r,Heap.get?_push_size _ rfl⟩
end
abbrev Sp:=List V->Hp->VK->XK->Prop
abbrev CXT:=List Env->Hp->Shared->XK->Value->Shared->Prop
structure Env0 (P:Program)(w:World)(K:yF)(mg:Str->Option Value)(base:Heap)(A:Around)(outer:List Env)(s:Shared)(H:Hp):Prop where
 frames:A.frames=some outer
 mod:Mod K mg base
 bs:∀b o,base.get? b=some o->s.heap.get? b=some o/\H b=none
 bsz:base.objs.size<=s.heap.objs.size
 funs:s.heap.FunFrames base outer
 frf:∀b∈frs outer,H b=none
 hok:HOk P w H s.heap
 bare:AllBare s.gens
def CE (outer:List Env)(P:Program)(w:World)(H:Hp)(s:Shared)(Q:VK)(u:Value)(s':Shared):Prop:=
 ∃v H',s'.os=s.os/\AllBare s'.gens/\Un (frs outer) [] H H' s.heap s'.heap/\HOk P w H' s'.heap/\RelV v u/\Q v H'
def CR (CX:CXT)(outer:List Env)(P:Program)(w:World)(H:Hp)(s:Shared)(Q:VK)(E:XK)(r:Result)(s':Shared):Prop:=
 match r with
 | .ok (.ret u)=>CE outer P w H s Q u s'
 | .ok _=>False
 | .error e=>CX outer H s E e s'
structure FnOk (P:Program)(w:World)(K:yF)(mg:Str->Option Value)(base:Heap)(CX:CXT)(k:Nat)(f:Addr)(fd:FuncData)(ps:List Str)(sp:Sp):Prop where
 len:∀vs H Q E,sp vs H Q E->vs.length=ps.length
 run:∀(A:Around) (outer:List Env) (s:Shared) (H:Hp) (args:Args) (us:List Value) (vs:List V) (Q:VK) (E:XK),Room k A->Env0 P w K mg base A outer s H->BindsTo s fd args (ps.zip us)->Vals vs us->sp vs H Q E →
  codeAny (model P w) A (.call (.ref f) args) (CR CX outer P w H s Q E) s
theorem Env0.in1 {P:Program}{w:World}{K:yF}{mg:Str->Option Value}{base:Heap}{A:Around}{outer:List Env}{s:Shared}{H:Hp}(e:Env0 P w K mg base A outer s H) :
  Env0 P w K mg base A.in1 outer s H:=⟨e.frames,e.mod,e.bs,e.bsz,e.funs,e.frf,e.hok,e.bare⟩
section
variable  {X:Cx}{pins:List (Addr×Obj)}{Z:St}{H:Hp}{s s':Shared}
theorem Inv.env0 (I:Inv X pins Z H s):Env0 X.prog X.w X.K X.mg X.base X.A X.stack s H:=
 ⟨I.ok.frames,I.ok.mod,I.bs,B3 I.ok.bsz I.sz,I.stack,I.stkFree,I.hok,I.bare⟩
theorem Inv.after {Q:VK}{u:Value}(I:Inv X pins Z H s)(h:CE X.stack X.prog X.w H s Q u s'):EP X pins Z Q u s':=by
 obtain⟨v,H',os,bare,un,hok,r,q⟩:=h
 obtain⟨hh,g,d,t,os'⟩:=s'
 obtain rfl:os'=s.os:=os
 exact⟨v,H',I.call (h':=hh) (g':=g) (d':=d) (t':=t) (ch:=[]) un hok bare (λb z=>absurd z (by simp)),r,q⟩
end
def jC (sp:Sp)(dvs:List V)(E:XK)(t:TA):TE:=λZ H Q=>t Z H λvs H1=>sp (vs++dvs) H1 Q E
def Binds (K:yF)(fd:FuncData)(ps:List Str)(ds:List Value):Prop:=
 ∀(s:Shared) (us:List Value),K.In s.heap->(us++ds).length=ps.length->BindsTo s fd ⟨us,[]⟩ (ps.zip (us++ds))
theorem Binds.all {K:yF}{fd:FuncData}{ps:List Str}(h:∀us:List Value,us.length=ps.length->bindArgs fd ⟨us,[]⟩=pure (ps.zip us)):Binds K fd ps []:=λs us _ hl=>by
 rw[B4]at hl⊢
 exact .of_eq (h us hl)
def ly (CX:CXT)(X:Cx)(E:XK):Prop:=∀(pins:List (Addr×Obj)) (Z:St) (H:Hp) (s:Shared) (e:Value) (s':Shared),Inv X pins Z H s->CX X.stack H s E e s'->X.xe e s'
section
variable  {X:Cx}{CX:CXT}{k:Nat}{f C:Addr}{fd:FuncData}{ps:List Str}{sp:Sp}{dvs:List V}{ds:List Value}{E:XK}{x m:Str}{p pos apos:Pos}{e o:Expr}{es:List Expr}{ta:TE}{t:TA}
theorem yr {pins:List (Addr×Obj)}{Z:St}{H:Hp}{s:Shared}{Q:VK}{us:List Value}{vs:List V}(F:FnOk X.prog X.w X.K X.mg X.base CX k f fd ps sp)(hr:Room k X.A)(hb:Binds X.K fd ps ds)(hd:Vals dvs ds)(hx:ly CX X E)
  (I:Inv X pins Z H s) (r:Vals vs us) (h:sp (vs++dvs) H Q E):wpAny (model X.prog X.w) X.A (call (.ref f) us) (EP X pins Z Q) X.xe s:=by
 have r2:Vals (vs++dvs) (us++ds):=r.append hd
 have hl:(us++ds).length=ps.length:=by rw[←r2.length];exact F.len _ _ _ _ h
 refine wpAny_call (codeAny_mono (F.run X.A X.stack s H ⟨us,[]⟩ (us++ds) (vs++dvs) Q E hr I.env0 (hb s us I.kIn hl) r2 h) λr s' hq=>?_)
 cases r with
 | error e=>exact hx pins Z H s e s' I hq
 | ok fl=>
  cases fl with
  | ret u=>exact I.after hq
  | next=>exact False.elim hq
  | brk=>exact False.elim hq
  | cont=>exact False.elim hq
theorem tI (F:FnOk X.prog X.w X.K X.mg X.base CX k f fd ps sp)(hr:Room k X.A)(hg:Gl X x)(hm:X.mg x=some (.ref f))(hk:CC X.K (.ref f)=true)(hb:Binds X.K fd ps ds)(hd:Vals dvs ds)(hx:ly CX X E)
  (ha:PA X (e::es) t) (hdb:(x==("__debug__" : Str))=false:=by decide) (he:starEach (e::es) X.env=(false,eval e X.env)::starEach es X.env:=by rfl) (hpl:(backTo pos (starEach es X.env)).any (·.1)=false:=by rfl) :
  PE X (.Call (.Name x p) (e::es) [] pos) (jC sp dvs E t):=by
 intro pins s Z H Q I h
 refine wpAny_Call_Name_kw (sV I hg hm ?_ hdb)
 refine PySem.W.callWith_K (h₀:=X.base) I.ok.mod.kin hk (thn (ha pos pins s Z H _ I h) λus s1 ⟨vs,H1,I1,r,q⟩=>⟨I1.kIn,?_⟩) he hpl
 exact yr F hr hb hd hx I1 r q
end
section
variable  {X:Cx}{CX:CXT}{k:Nat}{f C:Addr}{fd:FuncData}{ps ks:List Str}{sp:Sp}{E:XK}{x m:Str}{p pos apos kpos:Pos}{e o:Expr}{es:List Expr}{kws:List Keyword}{te ta:TE}{t tk:TA}{nm:Option Str}
structure KBinds (K:yF)(fd:FuncData)(ps ks:List Str)(g:List Value->List Value->List Value)(gV:List V->List V->List V):Prop where
 to:∀(s:Shared) (us ws:List Value),K.In s.heap->(g us ws).length=ps.length->BindsTo s fd ⟨us,ks.zip ws⟩ (ps.zip (g us ws))
 rel:∀{vs:List V} {us:List Value} {zs:List V} {ws:List Value},Vals vs us->Vals zs ws->Vals (gV vs zs) (g us ws)
variable  {g:List Value->List Value->List Value}{gV:List V->List V->List V}
end
structure FnScope (N P:List Str)(sc:Scope):Prop where
 kind:sc.kind=.function
 co:sc.isCoroutine=false
 gen:sc.isGenerator=false
 nd:N.Nodup
 pre:N.take P.length=P
 par:∀x∈P,sc.names.lookup x=some .local∨sc.names.lookup x=some .cell
 nofree:∀y∈sc.names,y.2 ≠ .free
theorem jc {kindOf:Str->Option NameKind}{x:Str}:∀{binds:List (Str×Value)} {m:Str->Option Value},(∀v,(x,v)∉binds)->bindL kindOf binds m x=m x
 | [],_,_=>rfl
 | (n,v)::r,m,h=>by
  unfold bindL
  rw[jc λw hw=>h w (ymC _ hw)]
  split
  ·have:x≠n:=by rintro rfl;exact h v ymS
   simp[this]
  ·rfl
theorem ja {kindOf:Str->Option NameKind}{x:Str}:∀{binds:List (Str×Value)} {m:Str->Option Value},(∀v,(x,v)∉binds)->bindC kindOf binds m x=m x
 | [],_,_=>rfl
 | (n,v)::r,m,h=>by
  unfold bindC
  rw[ja λw hw=>h w (ymC _ hw)]
  split
  ·rfl
  ·have:x≠n:=by rintro rfl;exact h v ymS
   simp[this]
theorem jb {kindOf:Str->Option NameKind}{x:Str}{v:Value}:∀{P:List Str} {vs:List Value} {i:Nat} {m:Str->Option Value},P.Nodup->P[i]?=some x->vs[i]?=some v->kindOf x=some .local →
  bindL kindOf (P.zip vs) m x=some v
 | [],_,_,_,_,h,_,_=>by simp at h
 | _::_,[],_,_,_,_,h,_=>by simp at h
 | p::P,w::vs,0,m,nd,h1,h2,hk=>by
  simp at h1 h2;subst h1;subst h2
  show bindL kindOf ((p,w)::P.zip vs) m p=_
  unfold bindL
  rw[jc λv hv=>(BS.mp nd).1 (DL hv).1,if_pos hk]
  simp
 | p::P,w::vs,i+1,m,nd,h1,h2,hk=>by
  show bindL kindOf ((p,w)::P.zip vs) m x=_
  unfold bindL
  exact jb (i:=i) (BS.mp nd).2 (by simpa using h1) (by simpa using h2) hk
theorem i9 {kindOf:Str->Option NameKind}{x:Str}{v:Value}:∀{P:List Str} {vs:List Value} {i:Nat} {m:Str->Option Value},P.Nodup->P[i]?=some x->vs[i]?=some v->kindOf x≠some .local →
  bindC kindOf (P.zip vs) m x=some v
 | [],_,_,_,_,h,_,_=>by simp at h
 | _::_,[],_,_,_,_,h,_=>by simp at h
 | p::P,w::vs,0,m,nd,h1,h2,hk=>by
  simp at h1 h2;subst h1;subst h2
  show bindC kindOf ((p,w)::P.zip vs) m p=_
  unfold bindC
  rw[ja λv hv=>(BS.mp nd).1 (DL hv).1,if_neg hk]
  simp
 | p::P,w::vs,i+1,m,nd,h1,h2,hk=>by
  show bindC kindOf ((p,w)::P.zip vs) m x=_
  unfold bindC
  exact i9 (i:=i) (BS.mp nd).2 (by simpa using h1) (by simpa using h2) hk
noncomputable def bi (N:List Str) (vs:List V):St:=vs.map some++Bu (N.length-vs.length) none
noncomputable def iW (CX:CXT) (P:Program) (w:World) (K:yF) (mg:Str->Option Value) (base:Heap) (N:List Str) (qual:Str) (scope:Scope) (f:Addr) (cd:Value) (A:Around) (outer:List Env) (s:Shared) (H:Hp) (E:XK):Cx where
 prog:=P
 w:=w
 K:=K
 mg:=mg
 base:=base
 A:=A.deeper (envOfC qual scope s.heap.objs.size f cd)
 N:=N
 s₀:=s
 H₀:=H
 env:=envOfC qual scope s.heap.objs.size f cd
 outer:=outer
 stack:=envOfC qual scope s.heap.objs.size f cd::outer
 ex:=[]
 calm:=true
 fn:=λ_=>true
 pn:=[]
 xe:=λe s'=>wpAny (model P w) (A.deeper (envOfC qual scope s.heap.objs.size f cd)) (leaving (envOfC qual scope s.heap.objs.size f cd) e) (λ_ s''=>CX outer H s E e s'') (λe' s''=>CX outer H s E e' s'') s'
theorem kF {sc:Scope}{n:Nat}{x:Str}(h:sc.names.lookup x=some .cell):∃c,(cellsFrom n sc.names []).lookup x=some c:=by
 have q:=Db sc.names n [] (.inl h)
 exact C5.mp q
theorem nT {CX:CXT}{P:Program}{w:World}{K:yF}{mg:Str->Option Value}{base:Heap}{N ps:List Str}{qual:Str}{scope:Scope}{f:Addr}{cd:Value}{A:Around}{outer:List Env}{s s1:Shared}{H:Hp}{E:XK}{us:List Value}{vs:List V}
  (S:FnScope N ps scope) (hd:A.handled=none) (gd:A.guards=some []) (e0:Env0 P w K mg base A outer s H) (hl:vs.length=ps.length) (r:Vals vs us)
  (x:InCallC s s.heap.objs.size (bindL (envOfC qual scope s.heap.objs.size f cd).kindOf (ps.zip us) λ_=>none) (cellsFrom (s.heap.objs.size+1) scope.names []) (bindC (envOfC qual scope s.heap.objs.size f cd).kindOf (ps.zip us) λ_=>none) s1) :
  Inv (iW CX P w K mg base N qual scope f cd A outer s H E) [] (bi N vs) H s1:=by
 have hpl:ps.length<=N.length:=by have:=congrArg CJ S.pre;rw[B9]at this;omega
 obtain⟨h1,tk,rfl,hk⟩:=x.done
 have noA:∀b:Addr,b∉(iW CX P w K mg base N qual scope f cd A outer s H E).ex:=λb z=>absurd (show b∈([]:List Addr)from z) (by simp)
 refine⟨⟨e0.mod,S.kind,rfl,rfl,Bz _,λy z c h1 h2=>?_,λy hy=>?_,λy c _ h=>?_,λ_=>hd,λ_=>gd,Around.frames_deeper e0.frames,.inr ⟨rfl,rfl⟩,λb z=>absurd z (noA b),e0.bs,e0.bsz,λb _ _=>noA b,λb z=>absurd z (noA b),e0.funs,e0.frf⟩,
  rfl,e0.bare,Un.kept hk,⟨_,x.toInCall.ns,λi y v h1 h2 h3=>?_⟩,λy c h=>⟨_,x.cell y c h⟩,e0.hok.fresh (Bz _),λy c h=>?_,λp hp=>absurd (show p∈([]:List (Addr×Obj))from hp) (by simp),e0.hok.kept hk,?_⟩
 ·exact name_of_addr x.apart (Cw h1) (Cw h2)
 ·have hy:scope.names.lookup y=some .cell∨scope.names.lookup y=some .free:=hy
  rcases hy with hy|hy
  ·exact kF hy
  ·exact absurd rfl (S.nofree _ (Cw hy))
 ·exact Dl (x.above y c (Cw h))
 ·have hi:i<vs.length:=by
   unfold bi at h2
   by_cases hi:i<vs.length
   ·exact hi
   ·rw[Cm (by simpa using hi)]at h2
    rw[Dw]at h2
    split at h2<;>cases h2
  have ha:vs[i]?=some v:=by
   unfold bi at h2
   rw[Ca (by simpa using hi),BD]at h2
   cases e:vs[i]? with
   | none=>rw[e]at h2;cases h2
   | some a=>rw[e]at h2;cases h2;rfl
  obtain⟨u,hu,rv⟩:=r.get ha
  have hp:ps[i]?=some y:=by
   rw[←S.pre,Dt (by omega)];exact h1
  have ndP:ps.Nodup:=by rw[←S.pre];exact S.nd.sublist (List.take_sublist _ _)
  refine⟨u,rv,?_⟩
  rcases S.par y (ymG hp)with k|k
  ·exact .inl ⟨k,jb ndP hp hu k⟩
  ·obtain⟨c,e⟩:=kF (n:=s.heap.objs.size+1) k
   refine .inr ⟨.inl k,c,e,?_⟩
   have q:=x.cell y c e
   rw[i9 ndP hp hu (by show scope.names.lookup y≠_;rw[k];decide)]at q
   exact q
 ·exact e0.hok.fresh (Dl (x.above y c (Cw h)))
 ·unfold bi
  show _=N.length
  rw[BN,Bw,List.length_replicate]
  omega
theorem y8 {CX:CXT}{P:Program}{w:World}{K:yF}{mg:Str->Option Value}{base:Heap}{k:Nat}{f:Addr}{name qual:Str}{params:Arguments}{body:List Stmt}{scope:Scope}{dV kV doc pm cdv ct oc:Value}{an od:Option Addr}
  {osl:Array (Option Value)} {N ps:List Str} {sp:Sp} (lk:K.lookup f=some ⟨oc,od,.func (Ct name qual params body scope dV kV doc pm an cdv ct),osl⟩) (hcd:C2 K cdv qual=true) (S:FnScope N ps scope)
  (len:∀vs H Q E,sp vs H Q E->vs.length=ps.length)
  (hbody:∀(A:Around) (outer:List Env) (s:Shared) (H:Hp) (vs:List V) (Q:VK) (E:XK),Room k (A.deeper (envOfC qual scope s.heap.objs.size f cdv))->sp vs H Q E →
   ∃t,PSs (iW CX P w K mg base N qual scope f cdv A outer s H E) body t/\t {nx:=λ_ H'=>Q .non H',rt:=Q} (bi N vs) H) :
  FnOk P w K mg base CX (k+1) f (Ct name qual params body scope dV kV doc pm an cdv ct) ps sp:=by
 refine⟨len,λA outer s H args us vs Q E hr e0 hb r hsp=>?_⟩
 have hl:=len _ _ _ _ hsp
 have KX:K.In s.heap:=e0.mod.kin.keeps λb o e=>(e0.bs b o e).1
 have lim:s.heap.NoLimit:=e0.mod.nolimit.keeps λb o e=>(e0.bs b o e).1
 have hkind:∀y∈ps.zip us,scope.names.lookup y.1=some .local∨(scope.names.lookup y.1=some .cell/\((cellsFrom (s.heap.objs.size+1) scope.names []).lookup y.1).isSome=true):=fun⟨n,v⟩ hy=>by
  rcases S.par n (DL hy).1 with q|q
  ·exact .inl q
  ·exact .inr ⟨q,Db _ _ _ (.inl q)⟩
 refine codeAny_call_function hr.depth (KX _ _ lk) rfl S.co S.gen rfl (PySem.W.codeRec_of KX hcd) (hb _ _ _ _ ?_)
 refine wpAny_newFunctionEnv_cells S.kind hkind λenv he s1 x=>?_
 subst he
 refine⟨lim.keeps x.toInCall.keep,codeAny_func ?_⟩
 obtain⟨t,ht,hq⟩:=hbody A outer s H vs Q E (hr.deeper _) hsp
 have I:Inv (iW CX P w K mg base N qual scope f cdv A outer s H E) [] (bi N vs) H s1:=nT S hr.hd hr.gd e0 hl r x
 refine wpAny_mono (ht [] s1 (bi N vs) H _ I hq) (λfl s' hs=>?_) λe s' hs=>hs
 have fin:∀{Z':St} {H':Hp} {v:V} {u:Value},Inv (iW CX P w K mg base N qual scope f cdv A outer s H E) [] Z' H' s'->RelV v u->Q v H'->CE outer P w H s Q u s':=
  λ{Z' H' v u} J rv q=>⟨v,H',J.os,J.bare,J.base,J.hok,rv,q⟩
 cases fl with
 | ret u=>
  obtain⟨v,Z',H',J,rv,q⟩:=hs
  exact fin J rv q
 | next=>
  obtain⟨Z',H',J,q⟩:=hs
  exact fin (v:=V.non) (u:=Value.none) J rfl q
 | brk=>
  obtain⟨_,_,_,q⟩:=hs
  exact False.elim q
 | cont=>
  obtain⟨_,_,_,q⟩:=hs
  exact False.elim q
section
variable  {X:Cx}{x:Str}{p pos:Pos}{e:Expr}{es:List Expr}{t:TA}{id T:String}{r:List V->Hp->VK->Prop}
def tCB (r:List V->Hp->VK->Prop)(t:TA):TE:=λZ H Q=>t Z H λvs H1=>r vs H1 Q
theorem qm (hc:CallR X (.builtin id) r)(hg:Gl X x)(hm:X.mg x=none)(hv:bootBuiltins x=some (.builtin id))(ha:PA X (e::es) t)(hn:x ≠ "__name__" :=by decide)(hdb:(x==("__debug__" : Str))=false:=by decide)
  (he:starEach (e::es) X.env=(false,eval e X.env)::starEach es X.env:=by rfl) (hpl:(backTo pos (starEach es X.env)).any (·.1)=false:=by rfl):PE X (.Call (.Name x p) (e::es) [] pos) (tCB r t):=by
 intro pins s Z H Q I h
 refine wpAny_Call_Name_kw (gf I hg hm hv ?_ hn hdb)
 exact Ea (thn (ha pos pins s Z H _ I h) λus s1 ⟨vs,H1,I1,r1,q1⟩=>hc pins s1 Z H1 vs us Q I1 r1 q1) he hpl
theorem om (hc:CallR X (.type T) r)(hg:Gl X x)(hm:X.mg x=none)(hv:bootBuiltins x=some (.type T))(ha:PA X (e::es) t)(hn:x ≠ "__name__" :=by decide)(hdb:(x==("__debug__" : Str))=false:=by decide)
  (he:starEach (e::es) X.env=(false,eval e X.env)::starEach es X.env:=by rfl) (hpl:(backTo pos (starEach es X.env)).any (·.1)=false:=by rfl):PE X (.Call (.Name x p) (e::es) [] pos) (tCB r t):=by
 intro pins s Z H Q I h
 refine wpAny_Call_Name_kw (gf I hg hm hv ?_ hn hdb)
 exact Cz (thn (ha pos pins s Z H _ I h) λus s1 ⟨vs,H1,I1,r1,q1⟩=>hc pins s1 Z H1 vs us Q I1 r1 q1) he hpl
end
end L2
namespace HT
open PySem PyProof.Rows
section
open PySem.SeqAt
open PySem.AutoSeq1 (wpAny_loadPart')
open PySem.MeetsSeq PySem.MeetsSeq2 PySem.MeetsSeq3
end
section
variable  {prog:Program}{w:World}{A:Around}{E:Value->Shared->Prop}{s:Shared}
theorem cat_tup {t b:Addr}{vs ws:List Value}{Q:Value->Shared->Prop}(ht:IsTup s.heap t vs.toArray)(hb:IsTup s.heap b ws.toArray)(hv:vs≠[])
  (h1:ws=[]->Q (.ref t) s) (h2:ws≠[]->Q (.ref s.heap.objs.size) {s with heap:=s.heap.push {cls:=.type "tuple",data:=.seq (vs++ws).toArray}})
  (hsz:vs.length+ws.length<=sizeLine):wpAny (model prog w) A (binaryOp .Add (.ref t) (.ref b)) Q E s:=by
 obtain⟨⟨cls,dd,data,sl⟩,ho,hc,n,hd⟩:=id ht
 obtain⟨⟨cls2,dd2,data2,sl2⟩,ho2,hc2,n2,hd2⟩:=id hb
 simp only at hc hd hc2 hd2
 subst hc hd hc2 hd2
 have e:vs.toArray++ws.toArray=(vs++ws).toArray:=by simp
 by_cases hw:ws=[]
 ·exact concat_meets ⟨_,ho,rfl⟩ ⟨_,ho2,rfl⟩ noFill_tuple_add seq_tuple_add PySem.F.slot_tuple_add PySem.F.entry_tuple_add (PySem.F.args_tuple_add_2 _ _)
   (tuple_addW1 t b vs.toArray ws.toArray n n2 dd dd2 sl sl2 (by simpa using hv) (by simp[hw])) ⟨ho,ho2,h1 hw⟩
 ·refine concat_meets ⟨_,ho,rfl⟩ ⟨_,ho2,rfl⟩ noFill_tuple_add seq_tuple_add PySem.F.slot_tuple_add PySem.F.entry_tuple_add (PySem.F.args_tuple_add_2 _ _)
   (tuple_addW2 t b vs.toArray ws.toArray n n2 dd dd2 sl sl2 (by simpa using hv) (by simpa using hw) (by rw[Bv,Bv];exact hsz)) ⟨ho,ho2,?_⟩
  rw[e]
  exact h2 hw
noncomputable def sIx (n d:Nat):Option Int->Nat
 | none=>d
 | some v=>if v<0 then(v+(n:Int)).toNat else min v.toNat n
theorem sIx_none (n d:Nat):sIx n d none=d:=rfl
theorem sIx_nat (n d k:Nat):sIx n d (some (k:Int))=min k n:=by
 show(if(k:Int)<0 then((k:Int)+(n:Int)).toNat else min (k:Int).toNat n)=min k n
 rw[if_neg (by omega),BM]
theorem sIx_le (n d:Nat)(hd:d<=n)(o:Option Int):sIx n d o<=n:=by
 cases o with
 | none=>exact hd
 | some v=>
  show(if v<0 then(v+(n:Int)).toNat else min v.toNat n)<=n
  by_cases hv:v<0
  ·rw[if_pos hv];omega
  ·rw[if_neg hv];exact Nat.min_le_right _ _
theorem clip_eq (v:Int)(n d:Nat):(if v<0 then max (v+(n:Int)) 0 else min v (n:Int))=((sIx n d (some v):Nat):Int):=by
 show(if v<0 then max (v+(n:Int)) 0 else min v (n:Int))=(((if v<0 then(v+(n:Int)).toNat else min v.toNat n):Nat):Int)
 by_cases hv:v<0
 ·simp only[if_pos hv];omega
 ·simp only[if_neg hv];omega
theorem adjust_gen (lo hi:Option Int)(n:Nat):Builtin.Slice.sliceAdjust lo hi 1 (n:Int)=(((sIx n 0 lo:Nat):Int),((sIx n n hi:Nat):Int)):=by
 have h1:¬ ((1:Int)<0):=by omega
 unfold Builtin.Slice.sliceAdjust
 simp only[h1,if_false]
 refine Prod.ext ?_ ?_
 ·cases lo with
  | none=>rfl
  | some v=>exact clip_eq v n 0
 ·cases hi with
  | none=>rfl
  | some v=>exact clip_eq v n n
theorem places_gen (i j:Nat):Builtin.Slice.slicePlaces (i:Int) (j:Int) 1=j-i:=by
 unfold Builtin.Slice.slicePlaces
 have h1:(1:Int)>0:=by omega
 simp only[h1,if_true,Int.ediv_one]
 split<;>omega
theorem slicePart_ {v:Value}{o:Option Int}{Q:Option Int->Shared->Prop}(p:IsPart v o)(h:Q o s):wpAny (model prog w) A (Builtin.Slice.slicePartIndex v) Q E s:=by
 cases p with
 | none=>exact slicePart_none h
 | int i t=>exact slicePart_int h
theorem sliceApplied_gen {sl:Addr}{vl vu:Value}{lo hi:Option Int}{n:Nat}{Q:Int×Int×Nat->Shared->Prop}(hs:s.heap.IsSliceOf sl vl vu .none)(pl:IsPart vl lo)(pu:IsPart vu hi)
  (h:Q (((sIx n 0 lo:Nat):Int),1,sIx n n hi-sIx n 0 lo) s):wpAny (model prog w) A (Builtin.Slice.sliceApplied (.ref sl) (pure (n:Int))) Q E s:=by
 obtain⟨os,hos,hcs,hds⟩:=id hs
 unfold Builtin.Slice.sliceApplied Builtin.Slice.sliceFields
 refine wpAny_bind (wpAny_bind (wpAny_field hos hds (x:=vl) rfl (wpAny_bind (wpAny_field hos hds (x:=vu) rfl (wpAny_bind (wpAny_field hos hds (x:=.none) rfl (wpAny_pure ?_)))))))
 refine wpAny_bind (slicePart_none ?_)
 show wpAny _ _ (if((1:Int)==0)=true then _ else _) _ _ s
 rw[if_neg (by decide)]
 refine wpAny_bind (slicePart_ pl (wpAny_bind (slicePart_ pu (wpAny_bind (wpAny_pure ?_)))))
 show wpAny _ _ (match Builtin.Slice.sliceAdjust lo hi 1 (n:Int)with|(lo,hi)=>pure (lo,(1:Int),Builtin.Slice.slicePlaces lo hi 1)) _ _ s
 rw[adjust_gen lo hi n]
 show wpAny _ _ (pure (((sIx n 0 lo:Nat):Int),(1:Int),Builtin.Slice.slicePlaces ((sIx n 0 lo:Nat):Int) ((sIx n n hi:Nat):Int) 1)) _ _ s
 rw[places_gen]
 exact wpAny_pure h
theorem pick_gen (xs:Array Value)(i k:Nat):((B1 k).filterMap λ(m:Nat)=>xs[((i:Int)+(m:Int)*1).toNat]?).toArray=((xs.toList.drop i).take k).toArray:=by
 have e:(λ(m:Nat)=>xs[((i:Int)+(m:Int)*1).toNat]?)=λm=>xs[i+m]?:=by
  funext m
  have:((i:Int)+(m:Int)*1).toNat=i+m:=by omega
  rw[this]
 rw[e]
 have:=pick_run xs i k
 rw[C9]at this
 have e2:((λx=>xs[x]?)∘λx=>i+x)=λm=>xs[i+m]?:=rfl
 rw[e2]at this
 rw[this]
theorem getItem_tuple_cut {t sl:Addr}{items:Array Value}{vl vu:Value}{lo hi:Option Int}{Q:Value->Shared->Prop}(ht:IsTup s.heap t items)(hs:s.heap.IsSliceOf sl vl vu .none)(pl:IsPart vl lo)(pu:IsPart vu hi)
  (hw:¬ (sIx items.size 0 lo=0/\sIx items.size items.size hi=items.size))
  (h:Q (.ref s.heap.objs.size) {s with heap:=s.heap.push {cls:=.type "tuple",data:=.seq ((items.toList.drop (sIx items.size 0 lo)).take (sIx items.size items.size hi-sIx items.size 0 lo)).toArray}})
  (hsz:items.size<=sizeLine):wpAny (model prog w) A (getItem (.ref t) (.ref sl)) Q E s:=by
 have htake:sizeOk (.seq ((items.toList.drop (sIx items.size 0 lo)).take (sIx items.size items.size hi-sIx items.size 0 lo)).toArray):=by
  show((items.toList.drop (sIx items.size 0 lo)).take (sIx items.size items.size hi-sIx items.size 0 lo)).toArray.size<=sizeLine
  rw[Bv,B9,Cd,Co]
  omega
 have hj:sIx items.size items.size hi<=items.size:=sIx_le _ _ (Bz _) hi
 obtain⟨os,hos,hcs,hds⟩:=id hs
 have hTs:s.TypeIs (.ref sl) "slice" :=⟨os,hos,hcs⟩
 unfold getItem
 try with_reducible refine wpAny_holding ?_
 first|refine wpAny_bind (wpAny_pure ?_)|skip
 refine wpAny_bind (wpAny_sequenceKey ht.typeIs (by decide) ?_)
 refine wpAny_bind (wpAny_callSpecial?_slot (name:=Str.ofString "__getitem__") ht.typeIs CP
  (wpAny_call_entry CP ht.typeIs entry_tuple_getitem ?_ (args_tuple_getitem _ _)))
 show wpAny _ _ (Builtin.Tuple.tupleItemsOf (.ref t) >>= _) _ _ s
 refine wpAny_bind (tupleItemsOf_ ht ?_)
 refine wpAny_bind (wpAny_typeOf hTs ?_)
 rw[if_pos (by decide)]
 refine wpAny_bind (sliceApplied_gen hs pl pu ?_)
 have hno:¬ ((((sIx items.size 0 lo:Nat):Int)==0&&(1:Int)==1&&(sIx items.size items.size hi-sIx items.size 0 lo)==items.size)=true):=by
  intro q
  rw[By,By]at q
  have q1:((sIx items.size 0 lo:Nat):Int)=0:=eq_of_beq q.1.1
  have q2:sIx items.size items.size hi-sIx items.size 0 lo=items.size:=eq_of_beq q.2
  exact hw ⟨by omega,by omega⟩
 show wpAny _ _ (if(((sIx items.size 0 lo:Nat):Int)==0&&(1:Int)==1&&(sIx items.size items.size hi-sIx items.size 0 lo)==items.size)=true then _ else _) _ _ s
 rw[if_neg hno,pick_gen]
 first
  | exact wpAny_bind (m:=Builtin.Tuple.tupleExact _) (wpAny_newObj_type (wpAny_pure ⟨_,rfl,wpAny_pure h⟩) htake)
  | exact wpAny_bind (m:=Builtin.Tuple.tupleExact _) (wpAny_newObj_type (wpAny_bind (wpAny_pure (wpAny_pure ⟨_,rfl,wpAny_pure h⟩))) htake)
  | exact wpAny_bind (wpAny_bind (m:=Builtin.Tuple.tupleExact _) (wpAny_newObj_type (wpAny_pure (wpAny_pure ⟨_,rfl,wpAny_pure h⟩)) htake))
  | exact wpAny_bind (wpAny_bind (m:=Builtin.Tuple.tupleExact _) (wpAny_newObj_type (wpAny_pure ⟨_,rfl,wpAny_pure h⟩) htake))
end
end HT
namespace L2
open PySem PySem.Spec PyProof.Rows
abbrev TO:=St->Hp->(Option Int->Hp->Prop)->Prop
def PO (X:Cx)(e:Option Expr)(t:TO):Prop:=
 ∀(pins:List (Addr×Obj)) (s:Shared) (Z:St) (H:Hp) (Q:Option Int->Hp->Prop),Inv X pins Z H s->t Z H Q →
  wpAny (model X.prog X.w) X.A (evalPart e X.env) (λu s'=>∃o H',Inv X pins Z H' s'/\IsPart u o/\Q o H') X.xe s
def nt:TO:=λ_ H Q=>Q none H
def nu (t:TE):TO:=λZ H Q=>t Z H λx H1=>∃i,x=.int i/\Q (some i) H1
section
variable  {X:Cx}{e:Expr}{te:TE}{lo hi:Option Expr}{tl th:TO}{pos p2:Pos}
theorem tT:PO X none nt:=by
 intro pins s Z H Q I h
 rw[evalPart_none]
 exact wpAny_pure ⟨none,H,I,.none,h⟩
theorem j7 (h:PE X e te):PO X (some e) (nu te):=by
 intro pins s Z H Q I hw
 rw[evalPart_some]
 refine thn (h pins s Z H _ I hw) λu s1 ⟨x,H1,I1,r1,q1⟩=>?_
 obtain⟨i,rfl,q⟩:=q1
 obtain⟨t,rfl⟩:=r1
 exact⟨some i,H1,I1,.int i t,q⟩
def SlR (X:Cx)(r:V->Option Int->Option Int->Hp->VK->Prop):Prop:=
 ∀(pins:List (Addr×Obj)) (s:Shared) (Z:St) (H:Hp) (x:V) (v vl vu:Value) (lo hi:Option Int) (sl:Addr) (Q:VK),Inv X pins Z H s->RelV x v->s.heap.IsSliceOf sl vl vu .none->IsPart vl lo->IsPart vu hi->r x lo hi H Q →
  ∃T id,typeLookup (.type T) "__getitem__" = pure (some (.builtin id))/\s.TypeIs v T/\wpAny (model X.prog X.w) X.A (getItem v (.ref sl)) (EP X pins Z Q) X.xe s
theorem SlR.or {r r':V->Option Int->Option Int->Hp->VK->Prop}(h:SlR X r)(h':SlR X r'):SlR X (λx lo hi H Q=>r x lo hi H Q∨r' x lo hi H Q):=by
 intro pins s Z H x v vl vu lo hi sl Q I rx hs pl pu q
 rcases q with q|q
 ·exact h pins s Z H x v vl vu lo hi sl Q I rx hs pl pu q
 ·exact h' pins s Z H x v vl vu lo hi sl Q I rx hs pl pu q
def tSl (r:V->Option Int->Option Int->Hp->VK->Prop)(te:TE)(tl th:TO):TE:=λZ H Q=>te Z H λx H1=>tl Z H1 λl H2=>th Z H2 λu H3=>r x l u H3 Q
theorem qr {r:V->Option Int->Option Int->Hp->VK->Prop}(hr:SlR X r)(he:PE X e te)(hl:PO X lo tl)(hu:PO X hi th):PE X (.Subscript e (.Slice lo hi none p2) pos) (tSl r te tl th):=by
 intro pins s Z H Q I h
 refine Subscript_ (thn (he pins s Z H _ I h) λv s1 ⟨x,H1,I1,r1,q1⟩=>?_)
 refine wpAny_Slice (thn (hl pins s1 Z H1 _ I1 q1) λvl s2 ⟨l,H2,I2,pl,q2⟩=>thn (hu pins s2 Z H2 _ I2 q2) λvu s3 ⟨u,H3,I3,pu,q3⟩=>?_)
 rw[evalPart_none]
 refine wpAny_pure ?_
 have I4:Inv X pins Z H3 {s3 with heap:=s3.heap.push {cls:=.type "slice",data:=.fields #[vl,vu,.none]}}:=I3.kept (t':=s3.toks) λb ob q=>Heap.get?_push_of_some _ q
 obtain⟨T,id,hT,ht,hg⟩:=hr pins {s3 with heap:=s3.heap.push {cls:=.type "slice",data:=.fields #[vl,vu,.none]}} Z H3 x v vl vu l u s3.heap.objs.size Q I4 r1 (Heap.IsSliceOf.new ..) pl pu q3
 show wpAny (model X.prog X.w) X.A (subscriptTail e (.Slice lo hi none p2) v (.ref s3.heap.objs.size)) (EP X pins Z Q) X.xe {s3 with heap:=s3.heap.push {cls:=.type "slice",data:=.fields #[vl,vu,.none]}}
 exact tail_any (ops:=[.ref s3.heap.objs.size,v]) ht hT hg (by with_unfolding_all rfl)
noncomputable def hV (xs:List V) (lo hi:Option Int):List V:=(xs.drop (HT.sIx xs.length 0 lo)).take (HT.sIx xs.length xs.length hi-HT.sIx xs.length 0 lo)
theorem gG (xs:List V)(lo hi:Option Int):(hV xs lo hi).length<=xs.length:=by
 unfold hV
 rw[B9,Cd]
 omega
def Ap (K:yF):V->Option Int->Option Int->Hp->VK->Prop:=λx lo hi H Q=>∃a xs,x=.ref a/\SqT K H a xs ∧
 ¬ (HT.sIx xs.length 0 lo=0/\HT.sIx xs.length xs.length hi=xs.length)/\∀p,H p=none->Q (.ref p) (upd H p (.tup (hV xs lo hi)))
theorem sl_tup:SlR X (Ap X.K):=by
 intro pins s Z H x v vl vu lo hi sl Q I rx hs pl pu h
 obtain⟨a,xs,rfl,hx,hw,q⟩:=h
 cases rx
 obtain⟨its,r,ht,hz⟩:=I.tuple hx
 have hlen:its.toArray.size=xs.length:=by rw[Bv];exact r.length.symm
 refine⟨"tuple",_,CP.lookup,ht.typeIs,?_⟩
 refine HT.getItem_tuple_cut ht hs pl pu (by rw[hlen];exact hw) ?_ (by rw[hlen];exact hz)
 rw[hlen]
 refine⟨.ref s.heap.objs.size,_,I.laid (t':=s.toks) (o:=.tup (hV xs lo hi)) (λb ob q=>Heap.get?_push_of_some _ q) (Bz _) ?_,rfl,q _ (I.hok.fresh (Bz _))⟩
 exact⟨B3 (gG xs lo hi) hz,_,(r.drop (HT.sIx xs.length 0 lo)).take (HT.sIx xs.length xs.length hi-HT.sIx xs.length 0 lo),IsTupN.new _ _⟩
def vv (K:yF):R2:=λx y H Q=>∃a b xs ys,x=.ref a/\y=.ref b/\SqT K H a xs/\SqT K H b ys/\xs≠[]/\xs.length+ys.length<=sizeLine ∧
 (ys=[]->Q (.ref a) H)/\(ys≠[]->∀p,H p=none->Q (.ref p) (upd H p (.tup (xs++ys))))
theorem Vals.nil_iff {xs:List V}{us:List Value}(r:Vals xs us):us=[]↔xs=[]:=by
 cases r with
 | nil=>simp
 | cons _ _=>simp
theorem tu:OpR X (binaryOp .Add) (vv X.K):=by
 intro pins s Z H x y v u Q I rx ry h
 obtain⟨a,b,xs,ys,rfl,rfl,ha,hb,hx,hz,q1,q2⟩:=h
 cases rx
 cases ry
 obtain⟨its,r1,p1,_⟩:=I.tuple ha
 obtain⟨its2,r2,p2,_⟩:=I.tuple hb
 refine HT.cat_tup p1 p2 (λz=>hx (r1.nil_iff.mp z)) (λz=>⟨.ref a,H,I,rfl,q1 (r2.nil_iff.mp z)⟩) (λz=>?_) (by rw[←r1.length,←r2.length];exact hz)
 refine⟨.ref s.heap.objs.size,_,I.laid (t':=s.toks) (o:=.tup (xs++ys)) (λb ob q=>Heap.get?_push_of_some _ q) (Bz _) ?_,rfl,q2 (λw=>z (r2.nil_iff.mpr w)) _ (I.hok.fresh (Bz _))⟩
 exact⟨by rw[BN];exact hz,_,r1.append r2,IsTupN.new _ _⟩
end
noncomputable def ixN (n:Nat) (i:Int):Option Nat:=if 0<=i then(if i<n then some i.toNat else none)else if -(n:Int)<=i then some (i+n).toNat else none
noncomputable def atI {α:Type} (xs:List α) (i:Int):Option α:=(ixN xs.length i).bind λj=>xs[j]?
theorem mS {n:Nat}{i:Int}{j:Nat}(h:ixN n i=some j):seqIndex? i n=some j/\j<n/\-(n:Int)<=i/\i<n:=by
 unfold ixN at h
 by_cases h0:0<=i
 ·rw[if_pos h0]at h
  by_cases h1:i<n
  ·rw[if_pos h1]at h
   have e:i.toNat=j:=BQ.inj h
   exact⟨by rw[seqIndex_of h0 h1,e],by omega,by omega,h1⟩
  ·rw[if_neg h1]at h;cases h
 ·rw[if_neg h0]at h
  by_cases h1 : -(n:Int)<=i
  ·rw[if_pos h1]at h
   have e:(i+n).toNat=j:=BQ.inj h
   exact⟨by rw[seqIndex_neg (by omega) h1,e],by omega,h1,by omega⟩
  ·rw[if_neg h1]at h;cases h
theorem jM {α:Type}{xs:List α}{i:Int}{v : α}(h:atI xs i=some v):∃j,seqIndex? i xs.length=some j/\xs[j]?=some v/\j<xs.length/\-(xs.length:Int)<=i/\i<xs.length:=by
 unfold atI at h
 cases e:ixN xs.length i with
 | none=>rw[e]at h;cases h
 | some j=>
  rw[e]at h
  obtain⟨h1,h2,h3,h4⟩:=mS e
  exact⟨j,h1,h,h2,h3,h4⟩
def mq (b:Expr):Prop:=∀o i,subscripted b false o i=operate [o,i] (getItem o i)
def IxR (X:Cx)(r:R2):Prop:=
 ∀(value slice:Expr) (pins:List (Addr×Obj)) (s:Shared) (Z:St) (H:Hp) (x y:V) (v u:Value) (Q:VK),Inv X pins Z H s->RelV x v->RelV y u->r x y H Q →
  subscripted slice false v u=operate [v,u] (getItem v u)->wpAny (model X.prog X.w) X.A (subscriptTail value slice v u) (EP X pins Z Q) X.xe s
def MtR (X:Cx)(id:String)(r:V->List V->Hp->VK->Prop):Prop:=
 ∀(pins:List (Addr×Obj)) (s:Shared) (Z:St) (H:Hp) (x:V) (xs:List V) (v:Value) (us:List Value) (Q:VK),Inv X pins Z H s->RelV x v->Vals xs us->r x xs H Q →
  wpAny (model X.prog X.w) X.A (call (.builtin id) (v::us)) (EP X pins Z Q) X.xe s
section
variable  {X:Cx}{a b:Expr}{ta tb:TE}{pos:Pos}
theorem IxR.or {r r':R2}(h:IxR X r)(h':IxR X r'):IxR X (λx y H Q=>r x y H Q∨r' x y H Q):=by
 intro value slice pins s Z H x y v u Q I rx ry q hs
 rcases q with q|q
 ·exact h value slice pins s Z H x y v u Q I rx ry q hs
 ·exact h' value slice pins s Z H x y v u Q I rx ry q hs
theorem zH {r:R2}(hr:IxR X r)(ha:PE X a ta)(hb:PE X b tb)(hs:mq b):PE X (.Subscript a b pos) (tOp r ta tb):=by
 intro pins s Z H Q I h
 exact Subscript_ (vX ha hb I h λv u s2 x y H2 I2 rx ry q=>hr a b pins s2 Z H2 x y v u Q I2 rx ry q (hs _ _))
def Ai (K:yF):R2:=λx y H Q=>∃p xs i v,x=.ref p/\y=.int i/\SqL K H p xs/\atI xs i=some v/\Q v H
def Ak (K:yF):R2:=λx y H Q=>∃p xs i v,x=.ref p/\y=.int i/\SqT K H p xs/\atI xs i=some v/\Q v H
def Aj:R2:=λx y H Q=>∃z i c,x=.str z/\y=.int i/\z.length<=sizeLine/\atI z.cps.toList i=some c/\Q (.str ⟨#[c]⟩) H
theorem ix_list:IxR X (Ai X.K):=by
 intro value slice pins s Z H x y v u Q I rx ry h hs
 obtain⟨p,xs,i,z,rfl,rfl,hq,he,q⟩:=h
 cases rx
 obtain⟨t,rfl⟩:=ry
 obtain⟨its,r,pl,hz⟩:=I.list hq
 obtain⟨j,h1,h2,h3,h4,h5⟩:=jM he
 obtain⟨w,ew,rw'⟩:=r.get h2
 have hl:=r.length
 have hn:=gj
 have fin:EP X pins Z Q w s:=⟨z,H,I,rw',q⟩
 by_cases h0:0<=i
 ·have hj:i.toNat=j:=by
   rw[seqIndex_of h0 h5]at h1
   exact BQ.inj h1
  exact item_listR pl.isList h0 (by omega) (by rw[hj];simpa using ew) fin hs
 ·have hj:(i+(its.toArray.size:Int)).toNat=j:=by
   rw[seqIndex_neg (by omega) h4]at h1
   rw[Bv,←hl]
   exact BQ.inj h1
  exact subscriptTail_builtinR (x:=w) pl.isList.typeIs slot_list_getitem.lookup
   (wpAny_getItem_list_neg (Q:=λr s'=>r=w/\EP X pins Z Q r s') pl.isList (by omega) (by rw[Bv]<;>omega) (by omega) (by rw[hj];simpa using ew) ⟨rfl,fin⟩) hs
theorem ix_tup:IxR X (Ak X.K):=by
 intro value slice pins s Z H x y v u Q I rx ry h hs
 obtain⟨p,xs,i,z,rfl,rfl,hq,he,q⟩:=h
 cases rx
 obtain⟨t,rfl⟩:=ry
 obtain⟨its,r,pl,hz⟩:=I.tuple hq
 obtain⟨j,h1,h2,h3,h4,h5⟩:=jM he
 obtain⟨w,ew,rw'⟩:=r.get h2
 have hl:=r.length
 have hn:=gj
 have fin:EP X pins Z Q w s:=⟨z,H,I,rw',q⟩
 exact subscriptTail_builtinR (x:=w) pl.typeIs slot_tuple_getitem.lookup
  (getItem_tuple (j:=j) (Q:=λr s'=>r=w/\EP X pins Z Q r s') pl (by omega) (by omega) (by rw[Bv,←hl];exact h1) (by simpa using ew) ⟨rfl,fin⟩) hs
theorem wu:IxR X Aj:=by
 intro value slice pins s Z H x y v u Q I rx ry h hs
 obtain⟨z,i,c,rfl,rfl,hz,he,q⟩:=h
 obtain⟨t,rfl⟩:=rx
 obtain⟨t',rfl⟩:=ry
 obtain⟨j,h1,h2,h3,h4,h5⟩:=jM he
 have hl:z.cps.toList.length=z.length:=by simp[Str.length]
 rw[hl]at h1 h4 h5
 have hn:=gj
 exact tail_any (typeIs_str s z t) slot_str_getitem.lookup (getItem_str (c:=c) (by
  have e1:decide (i < -(2^63:Int))=false:=decide_eq_false (by omega)
  have e2:decide (i≥2^63)=false:=decide_eq_false (by omega)
  rw[e1,e2,Bool.or_false]) (by rw[h1];simpa using h2) ⟨.str ⟨#[c]⟩,H,I.tok _,⟨_,rfl⟩,q⟩) hs
def rIx (K:yF):R2:=λx y H Q=>Ai K x y H Q∨Ak K x y H Q∨Aj x y H Q
theorem wt:IxR X (rIx X.K):=ix_list.or (ix_tup.or wu)
theorem lN (its:List Value)(n j:Nat)(u:Value):Obj.mapSeq (·.setIfInBounds j u) {cls:=.type "list",data:=.seq its.toArray n}={cls:=.type "list",data:=.seq (its.set j u).toArray n}:=by
 simp[Obj.mapSeq]
theorem Inv.lst {pins:List (Addr×Obj)}{Z:St}{H:Hp}{s:Shared}{p:Addr}{xs:List V}(I:Inv X pins Z H s)(h:H p=some (.lst xs)) :
  ∃(its:List Value) (n:Nat),Vals xs its/\s.heap.get? p=some {cls:=.type "list",data:=.seq its.toArray n}/\xs.length<=sizeLine:=by
 obtain⟨z,its,n,r,e⟩:=I.hok p _ h
 exact⟨its,n,r,e,z⟩
theorem Inv.lstUpd {pins:List (Addr×Obj)}{Z:St}{H:Hp}{s:Shared}{p:Addr}{xs ys:List V}{its its':List Value}{n n':Nat}{f:Obj->Obj}(I:Inv X pins Z H s)(h:H p=some (.lst xs))
  (ho:s.heap.get? p=some {cls:=.type "list",data:=.seq its.toArray n}) (hf:f {cls:=.type "list",data:=.seq its.toArray n}={cls:=.type "list",data:=.seq its'.toArray n'}) (r:Vals ys its') (hz:ys.length<=sizeLine) (t:Nat) :
  Inv X pins Z (upd H p (.lst ys)) {s with heap:=s.heap.update p f,toks:=t}:=by
 have e:(s.heap.update p f).get? p=some {cls:=.type "list",data:=.seq its'.toArray n'}:=by
  rw[Heap.get?_update_self f ho (by rw[hf]<;>rfl),hf]
 refine I.write (x:=p) (e:=p) (by rw[h];trivial) (.inl rfl) (λb u hb q=>(Heap.get?_update_other _ _ (Ne.symm hb)).trans q) ⟨_,e⟩ ?_
 exact⟨hz,its',n',r,e⟩
def vE:V->V->V->Hp->(Hp->Prop)->Prop:=λo i v H Q=>∃p xs k j,o=.ref p/\i=.int k/\H p=some (.lst xs)/\ixN xs.length k=some j/\Q (upd H p (.lst (xs.set j v)))
theorem rS:vT X vE:=by
 intro pins s Z H o i v ov iv u Q I ro ri rv h
 obtain⟨p,xs,k,j,rfl,rfl,hp,hj,q⟩:=h
 cases ro
 obtain⟨t,rfl⟩:=ri
 obtain⟨its,n,r,ho,hz⟩:=I.lst hp
 obtain⟨h1,h2,h3,h4⟩:=mS hj
 have hl:=r.length
 have hn:=gj
 have I':Inv X pins Z (upd H p (.lst (xs.set j v))) {s with heap:=s.heap.update p (Obj.mapSeq (·.setIfInBounds j u))}:=
  I.lstUpd hp ho (lN its n j u) (r.set rv j) (by rw[C7];exact hz) s.toks
 by_cases h0:0<=k
 ·have hk:k.toNat=j:=by
   rw[seqIndex_of h0 h4]at h1
   exact BQ.inj h1
  exact PySem.W.ki_setAt ho h0 (by omega) (by rw[Bv,←hl];exact h4) (by rw[hk];exact⟨_,I',q⟩)
 ·have hk:(k+(its.toArray.size:Int)).toNat=j:=by
   rw[seqIndex_neg (by omega) h3]at h1
   rw[Bv,←hl]
   exact BQ.inj h1
  exact PySem.W.ki_setBack ho (by omega) (by rw[Bv,←hl];exact h3) (by omega) (by rw[hk];exact⟨_,I',q⟩)
theorem kw (lo hi:Option Int)(n:Nat):(sliceBounds lo hi none n).1=((HT.sIx n 0 lo:Nat):Int)/\(sliceBounds lo hi none n).2.1=((HT.sIx n n hi:Nat):Int)/\(sliceBounds lo hi none n).2.2=1:=by
 refine⟨?_,?_,rfl⟩
 ·cases lo with
  | none=>simp[sliceBounds,HT.sIx]
  | some i=>
   simp only[sliceBounds,HT.sIx,Dx,show(1:Int)>0 by decide,if_true]
   by_cases h:i<0
   ·simp only[h,if_true]<;>omega
   ·simp only[h,if_false]<;>omega
 ·cases hi with
  | none=>simp[sliceBounds,HT.sIx]
  | some i=>
   simp only[sliceBounds,HT.sIx,Dx,show(1:Int)>0 by decide,if_true]
   by_cases h:i<0
   ·simp only[h,if_true]<;>omega
   ·simp only[h,if_false]<;>omega
theorem i6 (its:List Value)(lo hi:Option Int):slicePick its.toArray lo hi none=((its.drop (HT.sIx its.length 0 lo)).take (HT.sIx its.length its.length hi-HT.sIx its.length 0 lo)).toArray:=by
 obtain⟨h1,h2,h3⟩:=kw lo hi its.toArray.size
 unfold slicePick
 rw[h1,h2,h3]
 simp only[sliceRange_one,pick_run,Bv]<;>rfl
def Ao (K:yF):V->Option Int->Option Int->Hp->VK->Prop:=λx lo hi H Q=>∃a xs,x=.ref a/\SqL K H a xs/\∀p,H p=none->Q (.ref p) (upd H p (.lst (hV xs lo hi)))
theorem sl_list:SlR X (Ao X.K):=by
 intro pins s Z H x v vl vu lo hi sl Q I rx hs pl pu h
 obtain⟨a,xs,rfl,hx,q⟩:=h
 cases rx
 obtain⟨its,r,ht,hz⟩:=I.list hx
 have hlen:=r.length
 refine⟨"list",_,slot_list_getitem.lookup,ht.isList.typeIs,?_⟩
 refine wpAny_getItem_list_slice ht.isList hs pl pu .none (by simp) ?_ (by rw[Bv]<;>omega)
 rw[i6,←hlen]
 refine⟨.ref s.heap.objs.size,_,I.laid (t':=s.toks) (o:=.lst (hV xs lo hi)) (λb ob q=>Heap.get?_push_of_some _ q) (Bz _) ?_,rfl,q _ (I.hok.fresh (Bz _))⟩
 exact⟨B3 (gG xs lo hi) hz,_,0,(r.drop (HT.sIx xs.length 0 lo)).take (HT.sIx xs.length xs.length hi-HT.sIx xs.length 0 lo),Heap.get?_push_size _ rfl⟩
noncomputable def gI:V->Bool
 | .non=>true
 | .bl _=>true
 | .int _=>true
 | .str _=>true
 | _=>false
noncomputable def eqV:V->V->Bool
 | .non,.non=>true
 | .bl a,.bl b=>a==b
 | .bl a,.int b=>(if a then 1 else 0)==b
 | .int a,.bl b=>a==(if b then 1 else 0)
 | .int a,.int b=>a==b
 | .str a,.str b=>a==b
 | _,_=>false
theorem wb {A:Around}{s:Shared}{y x:V}{u v:Value}(ry:RelV y u)(rx:RelV x v)(fy:gI y=true)(fx:gI x=true):SeqAt.EqAt A s u v (eqV y x):=by
 cases y with
 | non=>
  cases ry
  cases x with
  | non=>cases rx;exact SeqAt.EqAt.same _
  | bl b=>cases rx;exact SeqAt.EqAt.none_bool b
  | int b=>obtain⟨t,rfl⟩:=rx;exact SeqAt.EqAt.none_int b t
  | str b=>obtain⟨t,rfl⟩:=rx;exact SeqAt.EqAt.none_str b t
  | _=>exact absurd (show false=true from fx) BA
 | bl a=>
  cases ry
  cases x with
  | non=>cases rx;exact SeqAt.EqAt.bool_none a
  | bl b=>cases rx;exact SeqAt.EqAt.bool_bool a b
  | int b=>obtain⟨t,rfl⟩:=rx;exact SeqAt.EqAt.bool_int a b t
  | str b=>obtain⟨t,rfl⟩:=rx;exact SeqAt.EqAt.bool_str a b t
  | _=>exact absurd (show false=true from fx) BA
 | int a=>
  obtain⟨t',rfl⟩:=ry
  cases x with
  | non=>cases rx;exact SeqAt.EqAt.int_none a t'
  | bl b=>cases rx;exact SeqAt.EqAt.int_bool a t' b
  | int b=>obtain⟨t,rfl⟩:=rx;exact SeqAt.EqAt.int_int a t' b t
  | str b=>obtain⟨t,rfl⟩:=rx;exact SeqAt.EqAt.int_str a t' b t
  | _=>exact absurd (show false=true from fx) BA
 | str a=>
  obtain⟨t',rfl⟩:=ry
  cases x with
  | non=>cases rx;exact SeqAt.EqAt.str_none a t'
  | bl b=>cases rx;exact SeqAt.EqAt.str_bool a t' b
  | int b=>obtain⟨t,rfl⟩:=rx;exact SeqAt.EqAt.str_int a t' b t
  | str b=>obtain⟨t,rfl⟩:=rx;exact SeqAt.EqAt.str_str a t' b t
  | _=>exact absurd (show false=true from fx) BA
 | _=>exact absurd (show false=true from fy) BA
noncomputable def eqU (x:V) (u:Value):Bool:=match u with
 | .none=>eqV .non x
 | .bool b=>eqV (.bl b) x
 | .int i _=>eqV (.int i) x
 | .str z _=>eqV (.str z) x
 | _=>false
theorem pz {x y:V}{u:Value}(r:RelV y u)(f:gI y=true):eqU x u=eqV y x:=by
 cases y with
 | non=>cases r;rfl
 | bl b=>cases r;rfl
 | int i=>obtain⟨t,rfl⟩:=r;rfl
 | str z=>obtain⟨t,rfl⟩:=r;rfl
 | _=>exact absurd (show false=true from f) BA
theorem jK {x:V}:∀{xs:List V} {us:List Value},Vals xs us->xs.all gI=true->us.any (eqU x)=xs.any λy=>eqV y x
 | _,_,.nil,_=>rfl
 | y::xs,u::us,.cons r t,f=>by
  rw[CO,By]at f
  rw[Du,Du,pz r f.1,jK t f.2]
theorem iy {A:Around}{s:Shared}{x:V}{v:Value}(rx:RelV x v)(fx:gI x=true):∀{xs:List V} {us:List Value},Vals xs us->xs.all gI=true->∀u∈us,SeqAt.EqAt A s u v (eqU x u)
 | _,_,.nil,_=>λu hu=>by cases hu
 | y::xs,u::us,.cons r t,f=>λu' hu=>by
  rw[CO,By]at f
  rcases ycM hu with rfl|hu
  ·rw[pz r f.1];exact wb r rx f.1 fx
  ·exact iy rx fx t f.2 u' hu
noncomputable def inV (x:V) (xs:List V):Bool:=xs.any λy=>eqV y x
def rIn (K:yF)(neg:Bool):R2:=λx y H Q=>∃p xs,y=.ref p/\(SqL K H p xs∨SqT K H p xs)/\gI x=true/\xs.all gI=true/\Q (.bl (if neg then !inV x xs else inV x xs)) H
theorem op_in_seq:OpR X (compareOp .In) (rIn X.K false):=by
 intro pins s Z H x y v u Q I rx ry h
 obtain⟨p,xs,rfl,hq,fx,fs,q⟩:=h
 cases ry
 rcases hq with hq|hq
 ·obtain⟨its,r,pl,hz⟩:=I.list hq
  refine SeqAt.in_listAt (eqU x) pl.isList (λw hw=>iy rx fx r fs w (by simpa using hw)) ⟨.bl _,H,I,rfl,?_⟩
  rw[show its.toArray.any (eqU x)=its.any (eqU x) by simp,jK r fs]
  exact q
 ·obtain⟨its,r,pl,hz⟩:=I.tuple hq
  refine SeqAt.in_tupleAt (eqU x) pl (λw hw=>iy rx fx r fs w (by simpa using hw)) ⟨.bl _,H,I,rfl,?_⟩
  rw[show its.toArray.any (eqU x)=its.any (eqU x) by simp,jK r fs]
  exact q
theorem jP:CallR X (.builtin "len") (λxs H Q=>∃p ys,xs=[.ref p]/\(SqL X.K H p ys∨SqT X.K H p ys)/\Q (.int ys.length) H):=by
 intro pins s Z H xs us Q I r h
 obtain⟨p,ys,rfl,hq,q⟩:=h
 obtain⟨u,rfl,rx⟩:=dN r
 cases rx
 have hn:=gj
 rcases hq with hq|hq
 ·obtain⟨its,r',pl,hz⟩:=I.list hq
  have hlen:=r'.length
  exact Calls.call_len_list pl.isList (by simp only[Bv]<;>omega) ⟨.int ys.length,H,I.tok _,⟨s.toks+1,by rw[Bv,hlen]⟩,q⟩
 ·obtain⟨its,r',pl,hz⟩:=I.tuple hq
  have hlen:=r'.length
  exact len_tuple pl (by simp only[Bv]<;>omega) ⟨.int ys.length,H,I.tok _,⟨s.toks+1,by rw[Bv,hlen]⟩,q⟩
theorem jQ:CallR X (.builtin "len") (λxs H Q=>∃z,xs=[.str z]/\z.length<=sizeLine/\Q (.int z.length) H):=by
 intro pins s Z H xs us Q I r h
 obtain⟨z,rfl,hz,q⟩:=h
 obtain⟨u,rfl,t,rfl⟩:=dN r
 have hn:=gj
 exact len_str (by omega) ⟨.int z.length,H,I.tok _,⟨_,rfl⟩,q⟩
theorem CallR.or {f:Value}{r r':List V->Hp->VK->Prop}(h:CallR X f r)(h':CallR X f r'):CallR X f (λxs H Q=>r xs H Q∨r' xs H Q):=by
 intro pins s Z H xs us Q I rs q
 rcases q with q|q
 ·exact h pins s Z H xs us Q I rs q
 ·exact h' pins s Z H xs us Q I rs q
theorem jR:CallR X (.type "list") (λxs H Q=>∃p ys,xs=[.ref p]/\(SqL X.K H p ys∨SqT X.K H p ys)/\∀l,H l=none->Q (.ref l) (upd H l (.lst ys))):=by
 intro pins s Z H xs us Q I r h
 obtain⟨p,ys,rfl,hq,q⟩:=h
 obtain⟨u,rfl,rx⟩:=dN r
 cases rx
 have fin:∀(its:List Value),Vals ys its->ys.length<=sizeLine->∀(h':Heap) (c':Nat),(∀b o',s.heap.get? b=some o'->h'.get? b=some o') →
   h'.get? s.heap.objs.size=some {cls:=.type "list",dict:=none,data:=.seq its.toArray c',slots:=#[]}->EP X pins Z Q (.ref s.heap.objs.size) {s with heap:=h'}:=λits r' hz h' c' kp e=>
  ⟨.ref s.heap.objs.size,_,I.laid (t':=s.toks) kp (Bz _) (show ObjOk X.prog X.w _ h' _ (.lst ys)from⟨hz,its,c',r',e⟩),rfl,q _ (I.hok.fresh (Bz _))⟩
 rcases hq with hq|hq
 ·obtain⟨its,r',pl,hz⟩:=I.list hq
  have hlen:=r'.length
  obtain⟨o,ho,hc,n,hd⟩:=pl.isList
  exact call_list_seq p (.inl rfl) ho hc hd (λh' c' kp e=>fin its r' hz h' c' kp e) (by simp only[Bv]<;>omega)
 ·obtain⟨its,r',pl,hz⟩:=I.tuple hq
  have hlen:=r'.length
  obtain⟨o,ho,hc,n,hd⟩:=pl
  exact call_list_seq p (.inr rfl) ho hc hd (λh' c' kp e=>fin its r' hz h' c' kp e) (by simp only[Bv]<;>omega)
theorem iV:CallR X (.type "tuple") (λxs H Q=>∃p ys,xs=[.ref p]/\((SqL X.K H p ys/\∀l,H l=none->Q (.ref l) (upd H l (.tup ys)))∨(SqT X.K H p ys/\Q (.ref p) H))):=by
 intro pins s Z H xs us Q I r h
 obtain⟨p,ys,rfl,h⟩:=h
 obtain⟨u,rfl,rx⟩:=dN r
 cases rx
 rcases h with⟨hq,q⟩|⟨hq,q⟩
 ·obtain⟨its,r',pl,hz⟩:=I.list hq
  have hlen:=r'.length
  refine call_tuple_list pl.isList (λh' kp=>?_) (by simp only[Bv]<;>omega)
  have I1:Inv X pins Z H {s with heap:=h'}:=I.kept (t':=s.toks) kp
  have I2:Inv X pins Z (upd H h'.objs.size (.tup ys)) {s with heap:=h'.push {cls:=.type "tuple",data:=.seq its.toArray}}:=
   I1.laid (t':=s.toks) (λb o e=>Heap.get?_push_of_some _ e) (Bz _) (show ObjOk X.prog X.w _ _ _ (.tup ys)from⟨hz,its,r',IsTupN.new _ _⟩)
  exact⟨.ref h'.objs.size,_,I2,rfl,q _ (I1.hok.fresh (Bz _))⟩
 ·obtain⟨its,r',pl,hz⟩:=I.tuple hq
  exact call_tuple_same pl ⟨.ref p,H,I,rfl,q⟩
def tyV (K:yF)(T:String)(x:V)(H:Hp):Prop:=match x with
 | .str _=>T = "str"
 | .int _=>T = "int"
 | .ref p=>(T = "list" ∧ ∃xs,SqL K H p xs)∨(T = "tuple" ∧ ∃o,K.lookup p=some o/\o.cls=.type "tuple" ∧ o.dict=none) ∨
   (T = "dict" ∧ ((∃kvs,H p=some (.dK kvs)) ∨ ∃kvs,H p=some (.dT kvs)))∨(T = "set" ∧ ∃S n,H p=some (.set S n))
 | _=>False
theorem yz {pins:List (Addr×Obj)}{Z:St}{H:Hp}{s:Shared}{T:String}{x:V}{v:Value}(I:Inv X pins Z H s)(r:RelV x v)(ty:tyV X.K T x H) :
  s.TypeIs v T/\∀a,v=.ref a->∃ob,s.heap.get? a=some ob/\ob.dict=none:=by
 cases x with
 | str z=>
  obtain⟨t,rfl⟩:=r
  cases (show T = "str" from ty)
  exact⟨typeIs_str s z t,λ_ e=>nomatch e⟩
 | int i=>
  obtain⟨t,rfl⟩:=r
  cases (show T = "int" from ty)
  exact⟨typeIs_int s i t,λ_ e=>nomatch e⟩
 | ref p=>
  cases r
  rcases ty with⟨rfl,xs,hq⟩|⟨rfl,o,hk,hc,hd⟩|⟨rfl,hk⟩|⟨rfl,S,n,hk⟩
  ·obtain⟨its,_,pl,_⟩:=I.list hq
   refine⟨pl.isList.typeIs,λa e=>?_⟩
   cases e
   obtain⟨o,n,e,c,hd,_⟩:=pl
   exact⟨o,e,hd⟩
  ·refine⟨⟨o,I.kIn p o hk,hc⟩,λa e=>?_⟩
   cases e
   exact⟨o,I.kIn _ o hk,hd⟩
  ·have z:∃o,s.heap.get? p=some o/\o.ExactDict:=by
    rcases hk with⟨kvs,hk⟩|⟨kvs,hk⟩
    ·obtain⟨_,_,_,_,o,_,_,e,ex,_⟩:=I.hok p _ hk
     exact⟨o,e,ex⟩
    ·obtain⟨_,_,_,_,o,_,_,e,ex,_⟩:=I.hok p _ hk
     exact⟨o,e,ex⟩
   obtain⟨o,e,ex⟩:=z
   refine⟨⟨o,e,ex.1⟩,λa e2=>?_⟩
   cases e2
   exact⟨o,e,ex.2.1⟩
  ·obtain⟨o,_,_,_,e,ex,_⟩:=I.hok p _ hk
   refine⟨⟨o,e,ex.1⟩,λa e2=>?_⟩
   cases e2
   exact⟨o,e,ex.2.1⟩
 | _=>exact False.elim ty
def tBM (K:yF)(T:String)(r:V->List V->Hp->VK->Prop)(to:TE)(t:TA):TE:=λZ H Q=>to Z H λx H1=>tyV K T x H1/\t Z H1 λxs H2=>r x xs H2 Q
variable  {o e:Expr}{es:List Expr}{to:TE}{t:TA}{name:Str}{apos cpos:Pos}{T id:String}{r:V->List V->Hp->VK->Prop}
theorem zF (pa:PlainAttrs T)(slot:Slot T name id)(hty:typeOf (.builtin id)=pure (.type "method_descriptor"))(hm:MtR X id r)(ho:PE X o to)(ha:PA X (e::es) t)
  (hbase:attributeBase o name X.env (eval o X.env)=eval o X.env:=by rfl)
  (hfew:((backTo cpos (starEach (e::es) X.env)).all (λx=>!x.1)&&(backToKw cpos (keywordEach [] X.env)).all (λx=>x.1.isSome)
   && decide ((e::es).length+([]:List Keyword).length+(if([]:List Keyword).isEmpty then 0 else 1)<30))=true:=by rfl)
  (hline:(apos.endLine==cpos.line)=true:=by rfl) (hs:starEach (e::es) X.env=(false,eval e X.env)::starEach es X.env:=by rfl) (hplain:(backTo cpos (starEach es X.env)).any (·.1)=false:=by rfl) :
  PE X (.Call (.Attribute o name apos) (e::es) [] cpos) (tBM X.K T r to t):=by
 intro pins s Z H Q I h
 refine wpAny_Call_method_late hbase hfew hline rfl (thn (ho pins s Z H _ I h) λv s1 ⟨x,H1,I1,r1,ty,q1⟩=>?_)
 obtain⟨h1,h2⟩:=yz I1 r1 ty
 refine⟨T,id,pa,slot,hty,h1,h2,?_⟩
 have hA:=ha cpos pins s1 Z H1 _ I1 q1
 rw[hs]at hA⊢
 refine Calls.callWith_builtin (by show(false||(backTo cpos (starEach es X.env)).any (·.1))=false;rw[hplain]<;>rfl) (Calls.evalArgs_plain ?_)
 exact thn hA λus s2 ⟨vs,H2,I2,r2,q2⟩=>hm pins s2 Z H2 x vs v us Q I2 r1 r2 q2
end
def MtM (X:Cx)(id:String)(r:V->List V->Hp->VK->Prop):Prop:=
 ∀(pins:List (Addr×Obj)) (s:Shared) (Z:St) (H:Hp) (x:V) (xs:List V) (v:Value) (us:List Value) (Q:VK),Inv X pins Z H s->RelV x v->Vals xs us->r x xs H Q →
  wpAny (model X.prog X.w) X.A (call (.builtin id) (v::us)) (EP X pins Z Q) X.xe s
theorem Vals.one:∀{x:V} {us:List Value},Vals [x] us->∃u,us=[u]/\RelV x u
 | _,_,.cons r .nil=>⟨_,rfl,r⟩
theorem Vals.rep {xs:List V}{us:List Value}(h:Vals xs us):∀k:Nat,Vals (Bu k xs).flatten (Bu k us).flatten
 | 0=>.nil
 | k+1=>by
  rw[BY,BY,Cn,Cn]
  exact Vals.append h (Vals.rep h k)
theorem dg (its:List Value):∀(k:Nat) (acc:List Value),
  DF (λx1 x2=>x1++x2) acc.toArray (Bu k its.toArray)=(acc++(Bu k its).flatten).toArray
 | 0,acc=>by simp
 | k+1,acc=>by
  have e:acc.toArray++its.toArray=(acc++its).toArray:=by simp
  have e2:(acc++its)++(Bu k its).flatten=acc++(Bu (k+1) its).flatten:=by
   rw[BY,Cn,BK]
  rw[←e2,←dg its k (acc++its),←e,BY,DM]
section
variable  {X:Cx}{pins:List (Addr×Obj)}{Z:St}{H:Hp}{s:Shared}{l b:Addr}{xs ys zs:List V}
theorem Inv.lset {its its':List Value}{n:Nat}{f:Array Value->Array Value}{t':Nat}(I:Inv X pins Z H s)(hH:H l=some (.lst xs))
  (e:s.heap.get? l=some {cls:=.type "list",data:=.seq its.toArray n}) (hf:f its.toArray=its'.toArray) (hv:Vals ys its') (hz:ys.length<=sizeLine) :
  Inv X pins Z (upd H l (.lst ys)) {s with heap:=s.heap.update l (Obj.mapSeq f),toks:=t'}:=by
 have q:=PySem.IsL.update e f
 rw[hf]at q
 refine I.write (x:=l) (e:=l) (by rw[hH];exact trivial) (.inl rfl) (λb' u hb hu=>(Heap.get?_update_other s.heap (Obj.mapSeq f) (Ne.symm hb)).trans hu) ⟨_,q⟩ ?_
 exact⟨hz,its',_,hv,q⟩
theorem Inv.lnew {its:List Value}{t':Nat}(I:Inv X pins Z H s)(hv:Vals ys its)(hz:ys.length<=sizeLine) :
  Inv X pins Z (upd H s.heap.objs.size (.lst ys)) {s with heap:=s.heap.push {cls:=.type "list",data:=.seq its.toArray},toks:=t'}:=
 I.laid (λ_ _ q=>Heap.get?_push_of_some _ q) (Bz _) ⟨hz,its,0,hv,Heap.get?_push_size _ rfl⟩
theorem Inv.fresh (I:Inv X pins Z H s):H s.heap.objs.size=none:=I.hok.fresh (Bz _)
theorem Inv.lstM (I:Inv X pins Z H s)(hH:H l=some (.lst xs)):xs.length<=sizeLine/\∃(its:List Value) (n:Nat),Vals xs its/\xs.length=its.length/\s.heap.get? l=some {cls:=.type "list",data:=.seq its.toArray n}:=by
 obtain⟨z,its,n,r,e⟩:=I.hok l _ hH
 exact⟨z,its,n,r,r.length,e⟩
theorem eg {n:Nat}(h:n<=sizeLine):Builtin.List.listTooLong n=false:=by
 unfold Builtin.List.listTooLong
 exact decide_eq_false (by omega)
end
section
variable  {X:Cx}
def j8:V->List V->Hp->VK->Prop:=λx vs H Q=>∃l xs y,x=.ref l/\vs=[y]/\H l=some (.lst xs)/\xs.length<sizeLine/\Q .non (upd H l (.lst (xs++[y])))
theorem oa:MtM X "list.append" j8:=by
 intro pins s Z H x vs v us Q I rx rv h
 obtain⟨l,xs,y,rfl,rfl,hH,hz,q⟩:=h
 cases rx
 obtain⟨u,rfl,ru⟩:=rv.one
 obtain⟨z,its,n,r,hl,e⟩:=I.lstM hH
 refine call_meets F.slot_list_append ⟨_,e,rfl⟩ F.entry_list_append (F.args_list_append_2 _ _) (PySem.list_append l its.toArray n u (by rw[Bv];omega)) ⟨e,?_⟩
 refine⟨.non,_,I.lset (its':=its++[u]) hH e (by simp) (r.append (.cons ru .nil)) ?_,rfl,q⟩
 rw[BN,List.length_singleton]
 omega
def uj:V->List V->Hp->VK->Prop:=λx vs H Q=>∃l b xs zs,x=.ref l/\vs=[.ref b]/\H l=some (.lst xs)/\H b=some (.lst zs)/\xs.length+zs.length<=sizeLine/\Q .non (upd H l (.lst (xs++zs)))
theorem mt_extend:MtM X "list.extend" uj:=by
 intro pins s Z H x vs v us Q I rx rv h
 obtain⟨l,b,xs,zs,rfl,rfl,hH,hB,hz,q⟩:=h
 cases rx
 obtain⟨u,rfl,ru⟩:=rv.one
 cases ru
 obtain⟨z,its,n,r,hl,e⟩:=I.lstM hH
 obtain⟨z2,its2,n2,r2,hl2,e2⟩:=I.lstM hB
 have hsz:its.toArray.size+its2.toArray.size<=sizeLine:=by rw[Bv,Bv];omega
 have hlong:¬ (!its.toArray.isEmpty&&Builtin.List.listTooLong (its.toArray.size+its2.toArray.size))=true:=by
  rw[eg hsz,Bool.and_false]
  exact BA
 refine call_meets F.slot_list_extend ⟨_,e,rfl⟩ F.entry_list_extend (F.args_list_extend_2 _ _)
  (AutoSeq1.list_extend_list_list_0 l its.toArray n b its2.toArray n2 hlong (by rw[Bv];omega) (by omega)) ⟨e,e2,?_⟩
 refine⟨.non,_,I.lset (its':=its++its2) hH e (by simp) (r.append r2) ?_,rfl,q⟩
 rw[BN]
 omega
def Ae:R2:=λx y H Q=>∃l b xs zs,x=.ref l/\y=.ref b/\H l=some (.lst xs)/\H b=some (.lst zs)/\xs.length+zs.length<=sizeLine/\∀p,H p=none->Q (.ref p) (upd H p (.lst (xs++zs)))
theorem op_cat:OpR X (binaryOp .Add) Ae:=by
 intro pins s Z H x y v u Q I rx ry h
 obtain⟨l,b,xs,zs,rfl,rfl,hH,hB,hz,q⟩:=h
 cases rx
 cases ry
 obtain⟨z,its,n,r,hl,e⟩:=I.lstM hH
 obtain⟨z2,its2,n2,r2,hl2,e2⟩:=I.lstM hB
 refine PySem.P.add_list e e2 ?_ (by rw[Bv,Bv];omega)
 have ea:its.toArray++its2.toArray=(its++its2).toArray:=by simp
 rw[ea]
 exact⟨.ref _,_,I.lnew (t':=s.toks) (r.append r2) (by rw[BN];omega),rfl,q _ I.fresh⟩
def An:R2:=λx y H Q=>∃l k xs,x=.ref l/\y=.int k/\H l=some (.lst xs)/\-(2^63)<=k/\k<2^63/\xs.length*k.toNat<=sizeLine ∧
 ∀p,H p=none->Q (.ref p) (upd H p (.lst (Bu k.toNat xs).flatten))
theorem fN {α:Type}(xs:List α)(k:Nat):(Bu k xs).flatten.length=k*xs.length:=by
 induction k with
 | zero=>simp
 | succ k ih=>rw[BY,Cn,BN,ih,D5,Nat.add_comm]
theorem op_rep:OpR X (binaryOp .Mult) An:=by
 intro pins s Z H x y v u Q I rx ry h
 obtain⟨l,k,xs,rfl,rfl,hH,h1,h2,hz,q⟩:=h
 cases rx
 obtain⟨t,rfl⟩:=ry
 obtain⟨z,its,n,r,hl,e⟩:=I.lstM hH
 have hlen:its.toArray.size*k.toNat<=sizeLine:=by rw[Bv,←hl];exact hz
 have hcap:¬ its.toArray.size*k.toNat>(2^63-1) / 8:=by
  have:(sizeLine:Nat)<=(2^63-1) / 8:=by decide
  omega
 have hfit:¬ (!Builtin.List.listFitsIndex k)=true:=by
  rw[fitsIndex_both h1 h2]
  exact BA
 have hlong:¬ Builtin.List.listTooLong (its.toArray.size*k.toNat)=true:=by
  rw[eg hlen]
  exact BA
 have hnew:DF (λx1 x2=>x1++x2) #[] (Bu (if its.toArray.isEmpty=true then 0 else k.toNat) its.toArray)=(Bu k.toNat its).flatten.toArray:=by
  have f0:∀m:Nat,DF (λx1 x2=>x1++x2) #[] (Bu m its.toArray)=(Bu m its).flatten.toArray:=λm=>by
   have:=dg its m []
   rw[Cf]at this
   exact this
  rw[f0]
  cases its with
  | nil=>simp
  | cons a r'=>rw[if_neg (by simp)]
 refine wpAny_binaryOp_repeat_ref (T:="list") (U:="int") (by decide) ⟨_,e,rfl⟩ (λs'=>typeIs_int s' k t) noFill_list_mul F.fills_int_mul F.slot_int_rmul repeat_list F.slot_int_index.lookup
  (call_meets F.slot_int_rmul (typeIs_int s k t) F.entry_int_rmul (F.args_int_rmul_2 _ _) (int___rmul___int_list k t l its.toArray n)
   ⟨e,rfl,⟨_,e,rfl⟩,call_meets F.slot_list_mul ⟨_,e,rfl⟩ F.entry_list_mul (F.args_list_mul_2 _ _) (AutoListH.list___mul___list_int_3 l its.toArray n k t hfit hcap hlong) ⟨e,?_⟩⟩)
 rw[hnew]
 exact⟨.ref _,_,I.lnew (t':=s.toks) (r.rep k.toNat) (by rw[fN,D6];exact hz),rfl,q _ I.fresh⟩
end
section
variable  {prog:Program}{w:World}{A:Around}{E:Value->Shared->Prop}{s:Shared}
theorem oS (its its2:List Value)(a c:Nat):its.toArray.extract 0 a++its2.toArray++its.toArray.extract c its.toArray.size=(its.take a++its2++its.drop c).toArray:=by
 apply Array.toList_inj.mp
 first
  | (simp
     exact B6 (by simp))
  | simp[B6]
  | simp
theorem lD {a c n:Nat}(hac:a<=c)(hc:c<=n):sliceBounds (some (a:Int)) (some (c:Int)) none n=((a:Int),(c:Int),1):=by
 simp only[sliceBounds,Dx]
 have h1:¬ ((a:Int)<0):=by omega
 have h2:¬ ((c:Int)<0):=by omega
 simp only[h1,h2,if_false,show(1:Int)>0 by decide,if_true]
 congr 1
 ·omega
 ·congr 1;omega
set_option maxRecDepth 100000 in
theorem i5 {l b sl:Addr}{items new:Array Value}{n n2:Nat}{vl vu:Value}{a c:Nat}{Q:Unit->Shared->Prop}
  (e:s.heap.get? l=some {cls:=.type "list",data:=.seq items n}) (e2:s.heap.get? b=some {cls:=.type "list",data:=.seq new n2}) (hne:l≠b)
  (hs:s.heap.IsSliceOf sl vl vu .none) (pl:IsPart vl (some (a:Int))) (pu:IsPart vu (some (c:Int))) (hac:a<=c) (hc:c<=items.size)
  (hsz:items.size+new.size<=sizeLine) (h:Q () {s with heap:=s.heap.update l (Obj.mapSeq λxs=>xs.extract 0 a++new++xs.extract c xs.size)}) :
  wpAny (model prog w) A (setItem (.ref l) (.ref sl) (.ref b)) Q E s:=by
 have hl:s.heap.IsList l items:=PySem.IsL.isList e
 have hb:s.heap.IsList b new:=PySem.IsL.isList e2
 obtain⟨os,hos,hcs,hds⟩:=id hs
 have hTs:s.TypeIs (.ref sl) "slice" :=⟨os,hos,hcs⟩
 have hstep:¬ ((rawPart none==rawInt 0)=true):=BA
 have hsame:Builtin.List.listSameRef (.ref l) (.ref b)=false:=by
  unfold Builtin.List.listSameRef
  exact beq_eq_false_iff_ne.mpr hne
 have hmax:(max (a:Int) (c:Int)).toNat=c:=by omega
 have hz':((λxs:Array Value=>xs.extract 0 a++new++xs.extract c xs.size) items).size<=sizeLine+1:=by
  simp only[Array.size_append,Array.size_extract]
  omega
 unfold setItem
 try with_reducible refine wpAny_holding ?_
 first|refine wpAny_bind (wpAny_pure ?_)|skip
 refine wpAny_bind (wpAny_sequenceKey hl.typeIs (by decide) ?_)
 refine wpAny_bind (wpAny_callSpecial?_slot (name:=Str.ofString "__setitem__") hl.typeIs slot_list_setitem
  (wpAny_call_entry slot_list_setitem hl.typeIs entry_list_setitem ?_ (args_list_setitem _ _ _)))
 show wpAny _ _ (Builtin.List.listSubscript? (.ref sl) >>= _) _ _ s
 refine wpAny_bind ?_
 unfold Builtin.List.listSubscript?
 refine wpAny_bind (wpAny_specialOf hTs slice_no_index ?_)
 simp only[Option.isNone_none,if_true]
 refine wpAny_pure ?_
 show wpAny _ _ (typeOf (.ref sl) >>= _) _ _ s
 refine wpAny_bind (wpAny_typeOf hTs ?_)
 first
  | rw[if_neg (by decide)]
  | refine PySem.W.KFB.if_not (by decide) ?_
 rw[listSliceParts_eq]
 refine wpAny_bind (wpAny_bind (wpAny_field hos hds (x:=.none) rfl (wpAny_bind (wpAny_listPart .none ?_))))
 rw[if_neg hstep]
 refine wpAny_bind (wpAny_field hos hds (x:=vl) rfl (wpAny_bind (wpAny_listPart pl ?_)))
 refine wpAny_bind (wpAny_field hos hds (x:=vu) rfl (wpAny_bind (wpAny_listPart pu (wpAny_pure ?_))))
 first
  | simp only[hsame,Dn,if_false]
  | refine PySem.W.KFB.if_not hsame ?_
  | (dsimp only
     rw[if_neg (by rw[hsame];exact BA)])
 refine wpAny_bind (m:=Builtin.List.listAllItems (.ref b) "must assign iterable to extended slice") ?_
 unfold Builtin.List.listAllItems
 refine wpAny_bind (wpAny_typeOf hb.typeIs ?_)
 first
  | refine PySem.W.KFB.if_so (by decide) ?_
  | rw[if_pos (by decide)]
  | simp only[beq_self_eq_true,Es,if_true]
 unfold Builtin.List.listItems
 refine wpAny_bind (wpAny_seqItems e2 rfl (wpAny_pure ?_))
 refine wpAny_bind (wpAny_bind (wpAny_seqItems e rfl (wpAny_pure ?_)))
 refine wpAny_bind (wpAny_of_eq ((sliceIndices_raw (some (a:Int)) (some (c:Int)) none items.size (by simp)).trans (congrArg (pure:Int×Int×Int->Sem (Int×Int×Int)) (lD hac hc))) ?_)
 show wpAny _ _ (if((1:Int)==1)=true then _ else _) _ _ s
 rw[if_pos (by decide)]
 refine wpAny_bind (wpAny_rule ?_)
 first
  | simp only[eg hsz,Dn,if_false]
  | refine PySem.W.KFB.if_not (eg hsz) ?_
 first|refine wpAny_bind (wpAny_pure ?_)|skip
 show wpAny _ _ (updateSeq l (λxs=>xs.extract 0 ((a:Int)).toNat++new++xs.extract (max (a:Int) (c:Int)).toNat xs.size) >>= _) _ _ s
 rw[hmax,BM]
 refine wpAny_bind (wpAny_updateSeq (hz:=B3 (Cg _ _) hsz) (_hz':=hz') e rfl ?_)
 refine wpAny_bind (wpAny_letGo ?_)
 first
  | exact wpAny_bind (wpAny_pure (wpAny_pure ⟨.none,rfl,wpAny_pure h⟩))
  | exact wpAny_pure ⟨.none,rfl,wpAny_pure h⟩
end
section
variable  {X:Cx}
theorem oR {pins:List (Addr×Obj)}{s:Shared}{Z:St}{H:Hp}{l b sl:Addr}{xs ys:List V}{a c:Int}{vl vu:Value}{Q:Unit->Shared->Prop}(I:Inv X pins Z H s)
  (hH:H l=some (.lst xs)) (hB:H b=some (.lst ys)) (hne:l≠b) (hs:s.heap.IsSliceOf sl vl vu .none) (ra:RelV (.int a) vl) (rc:RelV (.int c) vu) (h0:0<=a) (hac:a<=c) (hc:c<=xs.length)
  (hz:xs.length+ys.length<=sizeLine) (h:∀s',Inv X pins Z (upd H l (.lst (xs.take a.toNat++ys++xs.drop c.toNat))) s'->Q () s') :
  wpAny (model X.prog X.w) X.A (setItem (.ref l) (.ref sl) (.ref b)) Q X.xe s:=by
 obtain⟨ta,rfl⟩:=ra
 obtain⟨tc,rfl⟩:=rc
 obtain⟨z,its,n,r,hl,e⟩:=I.lstM hH
 obtain⟨z2,its2,n2,r2,hl2,e2⟩:=I.lstM hB
 obtain⟨a',rfl⟩:=Dy h0
 obtain⟨c',rfl⟩:=Dy (Int.le_trans h0 hac)
 simp only[BM]at h
 refine i5 (a:=a') (c:=c') e e2 hne hs (.int _ _) (.int _ _) (by omega) (by rw[Bv];omega) (by rw[Bv,Bv];omega) (h _ ?_)
 refine I.lset (its':=its.take a'++its2++its.drop c') (t':=s.toks) hH e ?_ (Vals.append (Vals.append (r.take _) r2) (r.drop _)) ?_
 ·exact oS its its2 a' c'
 ·rw[BN,BN,B9,Cd]
  omega
end
end L2
namespace Att
open PySem PySem.W PySem.Calls PyProof.Rows
theorem ints_of_wellAll {P:Params}{h:Heap}:∀(ns:List Int) (vs:List Value),WellAll P h vs (ns.map WData.int)->IntsAre vs ns:=by
 intro ns
 induction ns with
 | nil=>
  intro vs w
  rw[CL]at w
  cases w
  exact .nil
 | cons n ns ih=>
  intro vs w
  rw[Bt]at w
  cases w with
  | cons a b=>
   cases a
   exact .cons _ _ (ih _ b)
theorem script_of {l:OpenLaw}{n:Nat}(hn:l.most=some n){P:Params}{h:Heap}{args:List WData}{vals:List Value}
  (hpre:l.row.toRowW.claim.pre args=true) (hwl:WellAll P h vals args) :
  ∃a vs ns,vals=[Value.ref a]/\args=[WData.list (ns.map WData.int)]/\h.get? a=some {cls:=.type "list",data:=.seq vs.toArray}/\IntsAre vs ns/\ns.length<=n:=by
 have hsh:WShape.hasAll [] args [.list .int]=true:=(pre_splitW hpre).1
 have hc:l.pre.holds [] {args:=args}=true:=(pre_splitW hpre).2
 obtain⟨d,r,rfl,h1,h2⟩:=hasAllW_cons hsh
 obtain rfl:=hasAllW_nil h2
 obtain⟨xs,rfl,h3⟩:=hasW_list h1
 obtain⟨ns,rfl⟩:=items_int h3
 have hlen:ns.length<=n:=by
  unfold OpenLaw.pre at hc
  have h4:(WTm.not (.lt (.lit (.int (n:Int))) (.len (.arg 0)))).holds [] {args:=[.list (ns.map .int)]}=true:=by
   have h4:=(holds_andW hc).1
   rw[hn]at h4
   exact h4
  have h5:=condW_of h4 (w_not (w_lt w_lit (w_len_list (w_arg rfl))))
  rw[Bw]at h5
  refine Nat.le_of_not_lt λq=>?_
  have q':(n:Int)<((ns.length:Nat):Int):=by omega
  first
   | (rw[decide_eq_true q']at h5;exact absurd h5 (by decide))
   | (simp at h5;omega)
 cases hwl with
 | cons w1 w2=>
  cases w2
  cases w1 with
  | list ho hall=>exact⟨_,_,ns,rfl,rfl,ho,ints_of_wellAll ns _ hall,hlen⟩
theorem post_true (l:OpenLaw)(args:List WData):l.row.toRowW.claim.post args (.bool true) args=true:=
 postW_of (r:=l.row.toRowW) (X:=(true==true))
  (show WShape.has [] (.bool true) .bool=true by first|rfl|decide|simp[WShape.has,WShape.arms,WShape.armsAll])
  (show(WTm.eq .res (.lit (.bool true))).value [] {args:=args,res:=some (.bool true),after:=args}=some (.bool (true==true))from w_eq_bool (w_res rfl) w_lit) rfl
theorem attach_call {l:OpenLaw}{n:Nat}{q:Program}{loose:List Str}{XP:(Str->Option Value)->Heap->Prop}{YP:World->Heap->Prop}{d:DefRec}
  (hn:l.most=some n) (hdf:d.params.defaults=[])
  (call:∀(w:World) (s₀ s₁ : Shared) (mg mb:Str->Option Value) (fa:Addr) (o:Obj) (pm cd doc:Value) (a:Addr) (vs:List Value) (ns:List Int),
   Ground q loose [] XP w s₀ mg mb s₁.heap->YP w s₁.heap →
   s₁.heap.get? fa=some o->o.data=.func (docDef d.name d.params d.body d.scope pm cd doc)->s₁.heap.CodeRec cd d.name->mg d.name=some (.ref fa) →
   s₁.heap.get? a=some {cls:=.type "list",data:=.seq vs.toArray}->IntsAre vs ns->ns.length<=n->s₁.gens = #[] →
   codeAny (model l.prog w) callerA (.call (.ref fa) ⟨[.ref a],[]⟩) (λr s'=>r=.ok (.ret (.bool true))/\OldK s₁.heap s'.heap/\s'.os=s₁.os/\AllBare s'.gens) s₁) :
  WalkO q loose XP YP l.row.toRowW d [] (λf vs=>PySem.call f vs):=by
 intro w s₀ s₁ mg mb G Y fa o pm cd doc dV kV ho hd hcd hD hmg hg args vals as hpre hlay hrd hwl hlo
 obtain rfl:dV=.none:=Dflts.none hD hdf
 obtain rfl:kV=.none:=Dflts.noKw hD
 obtain⟨a,vs,ns,rfl,rfl,hobj,hints,hlen⟩:=script_of hn hpre hwl
 refine enter_call (codeAny_mono (call w s₀ s₁ mg mb fa o pm cd doc a vs ns G Y ho (fd_plain hd) hcd hmg hobj hints hlen hg) λr s' hq=>?_)
 obtain⟨rfl,h2,h3,h4⟩:=hq
 exact⟨.inl ⟨.bool true,.bool true,[],rfl,λ_=>rfl,.bool true,post_true l _,λ_=>⟨List.Pairwise.nil,λ_ hm=>(nomatch hm)⟩⟩,h2,h3,h4⟩
section
variable  {prog:Program}{w:World}{A:Around}{E:Value->Shared->Prop}{s:Shared}{K:Frag}
end
end Att
namespace L2
open PySem PySem.Spec PyProof.Rows
theorem jF:∀{vs:List Value} {ns:List Int},IntsAre vs ns->Vals (ns.map V.int) vs
 | _,_,.nil=>.nil
 | _,_,.cons n t h=>.cons ⟨t,rfl⟩ (jF h)
def yW (H:Hp):Prop:=∀b,H b=none ∨ ∃o xs,H b=some (.frz o (.lst xs))
theorem pP {P:Program}{w:World}{K:yF}{mg mb:Str->Option Value}{CX:CXT}{k:Nat}{fa a:Addr}{fd:FuncData}{x:Str}{sp:Sp}{s₁ : Shared}{vs:List Value}{ns:List Int}
  (KX:K.In s₁.heap) (hns:s₁.heap.Ns mainGlobals mg) (hb:s₁.heap.Ns builtinsNs mb) (hbb:∀x:Str,x ≠ "__name__" → mb x=bootBuiltins x) (hlim:s₁.heap.NoLimit) (hg:s₁.gens = #[])
  (ha:s₁.heap.get? a=some {cls:=.type "list",data:=.seq vs.toArray}) (hi:IntsAre vs ns) (hl:ns.length<=sizeLine) (hr:Room k callerA)
  (F:∀base:Heap,K.In base->base.Ns mainGlobals mg->FnOk P w K mg base CX k fa fd [x] sp) (hbind:∀(s:Shared) (u:Value),BindsTo s fd ⟨[u],[]⟩ [(x,u)])
  (hsp:∀H:Hp,yW H->SqL K H a (ns.map V.int)->sp [.ref a] H (λv _=>v=.bl true) λ_ _ _=>False)
  (hCX:∀H e s',CX [] H s₁ (λ_ _ _=>False) e s'->False) :
  codeAny (model P w) callerA (.call (.ref fa) ⟨[.ref a],[]⟩) (λr s'=>r=.ok (.ret (.bool true))/\OldK s₁.heap s'.heap/\s'.os=s₁.os/\AllBare s'.gens) s₁:=by
 have rv:=jF hi
 have lenV:=hi.length
 have core:∀H:Hp,yW H->SqL K H a (ns.map V.int)->HOk P w H s₁.heap->(∀b,H b≠none->b=a)->(H a≠none->K.lookup a=none) →
   codeAny (model P w) callerA (.call (.ref fa) ⟨[.ref a],[]⟩) (λr s'=>r=.ok (.ret (.bool true))/\OldK s₁.heap s'.heap/\s'.os=s₁.os/\AllBare s'.gens) s₁:=by
  intro H hO hS hok hA hK
  have base_of:∀{b:Addr} {o:Obj},s₁.heap.get? b=some o->H b=none->(jY s₁.heap H).get? b=some o:=λe n=>pG e n
  have noA:∀{b:Addr} {o:Obj} {es:Array DictEntry} {ep:Nat},s₁.heap.get? b=some o->o.data=.dict es ep->H b=none:=λ{b o es ep} e d=>by
   cases q:H b with
   | none=>rfl
   | some u=>
    have e':b=a:=hA b (by rw[q];simp)
    subst e'
    rw[ha]at e;cases e
    have d':Data.seq vs.toArray _=Data.dict es ep:=d
    cases d'
  have nsK:∀{b:Addr} {m:Str->Option Value},s₁.heap.Ns b m->(jY s₁.heap H).Ns b m:=λ{b m} ⟨o,es,ep,e,d,r⟩=>⟨o,es,ep,base_of e (noA e d),d,r⟩
  have hKb:K.In (jY s₁.heap H):=λb o e=>base_of (KX b o e) (by
   cases q:H b with
   | none=>rfl
   | some u=>
    have e':b=a:=hA b (by rw[q];simp)
    subst e'
    rw[hK (by rw[q];simp)]at e;cases e)
  have hM:Mod K mg (jY s₁.heap H):=⟨hKb,nsK hns,⟨mb,nsK hb,hbb⟩,let ⟨mc,h1,h2⟩:=hlim;⟨mc,nsK h1,h2⟩⟩
  have e0:Env0 P w K mg (jY s₁.heap H) callerA [] s₁ H:=⟨rfl,hM,λb o e=>tp e,Nat.le_of_eq (nS _ _),trivial,λb hb=>absurd (show b∈([]:List Addr)from hb) (by simp),hok,.of_eq hg⟩
  refine codeAny_mono ((F _ hKb (nsK hns)).run callerA [] s₁ H ⟨[.ref a],[]⟩ [.ref a] [.ref a] _ _ hr e0 (hbind s₁ (.ref a)) (.cons rfl .nil) (hsp H hO hS)) λr s' h=>?_
  cases r with
  | error e=>exact(hCX H e s' h).elim
  | ok fl=>
   cases fl with
   | next=>exact False.elim h
   | brk=>exact False.elim h
   | cont=>exact False.elim h
   | ret u=>
    obtain⟨v,H',os,bare,un,hok',r',q⟩:=h
    have q':v=.bl true:=q
    subst q'
    obtain rfl:u=Value.bool true:=r'
    refine⟨rfl,OldK.of_keep λb o e=>?_,os,bare⟩
    cases q:H b with
    | none=>exact un.keep b o e q (by intro z;exact absurd (show b∈([]:List Addr)from z) (by simp)) (by simp)
    | some u=>
     rcases hO b with z|⟨ob,xs,z⟩
     ·rw[q]at z;cases z
     ·have z2:=un.frzs b ob _ z
      obtain⟨e1,_⟩:=hok b _ z
      obtain⟨e2,_⟩:=hok' b _ z2
      rw[e]at e1;cases e1
      exact e2
 cases hk:K.lookup a with
 | some o=>
  have e:=KX a o hk
  rw[ha]at e
  cases e
  refine core (λ_=>none) (λ_=>.inl rfl) (.inr ⟨_,vs.toArray,_,hk,rfl,rfl,rfl,by rw[Bv,lenV];exact hl,by simpa using rv⟩) (λb u z=>by have z':(none:Option HO)=some u:=z;cases z') (λb z=>absurd rfl z) λz=>absurd rfl z
 | none=>
  refine core (λb=>if b=a then some (.frz {cls:=.type "list",data:=.seq vs.toArray} (.lst (ns.map V.int)))else none) (λb=>?_) (.inl (.inr ⟨{cls:=.type "list",data:=.seq vs.toArray},if_pos rfl⟩)) (λb u z=>?_) (λb z=>?_) λ_=>hk
  ·by_cases hb:b=a
   ·exact .inr ⟨_,_,if_pos hb⟩
   ·exact .inl (if_neg hb)
  ·by_cases hb:b=a
   ·have z':=(if_pos hb).symm.trans z
    cases z'
    subst hb
    exact⟨ha,by rw[Bw];exact hl,vs,_,rv,ha⟩
   ·have z':=(if_neg hb).symm.trans z
    cases z'
  ·by_cases hb:b=a
   ·exact hb
   ·exact absurd (if_neg hb) z
noncomputable def cu (s:Stmt):Arguments:=match s with
 | .FunctionDef _ a _ _ _ _ _ _ _ _=>a
 | _=>{posonlyargs:=[],args:=[],vararg:=none,kwonlyargs:=[],kw_defaults:=[],kwarg:=none,defaults:=[]}
noncomputable def bc (s:Stmt):List Stmt:=match s with
 | .FunctionDef _ _ b _ _ _ _ _ _ _=>b
 | _=>[]
noncomputable def ak (s:Stmt):Scope:=match s with
 | .FunctionDef _ _ _ _ _ _ sc _ _ _=>sc
 | _=>{kind:=.function,names:=[],isGenerator:=false,isCoroutine:=false}
abbrev CX0:CXT:=λ_ _ _ _ _ _=>False
abbrev E0:XK:=λ_ _ _=>False
theorem zD {X:Cx}:ly CX0 X E0:=λ_ _ _ _ _ _ _ h=>h.elim
structure Fun (K:yF)(x qual:Str)(st:Stmt)(f:Addr)(fd:FuncData):Prop where
 ex:∃(oc:Value) (od:Option Addr) (kV doc pm:Value) (an:Option Addr) (cdv ct:Value) (osl:Array (Option Value)),
  fd=Ct x qual (cu st) (bc st) (ak st) .none kV doc pm an cdv ct/\K.lookup f=some ⟨oc,od,.func fd,osl⟩/\C2 K cdv qual=true
 kp:CC K (.ref f)=true
section
variable  {P:Program}{w:World}{K:yF}{mg:Str->Option Value}{base:Heap}
theorem Fun.ok {x qual:Str}{st:Stmt}{f:Addr}{fd:FuncData}{N ps:List Str}{k:Nat}{sp:Sp}(F:Fun K x qual st f fd)(S:FnScope N ps (ak st))(len:∀vs H Q E,sp vs H Q E->vs.length=ps.length)
  (hbody:∀(cdv:Value) (A:Around) (outer:List Env) (s:Shared) (H:Hp) (vs:List V) (Q:VK) (E:XK),Room k (A.deeper (envOfC qual (ak st) s.heap.objs.size f cdv))->sp vs H Q E →
   ∃t,PSs (iW CX0 P w K mg base N qual (ak st) f cdv A outer s H E).nox (bc st) t/\t {nx:=λ_ H'=>Q .non H',rt:=Q} (bi N vs) H):FnOk P w K mg base CX0 (k+1) f fd ps sp:=by
 obtain⟨oc,od,kV,doc,pm,an,cdv,ct,osl,rfl,lk,hcd⟩:=F.ex
 refine y8 lk hcd S len λA outer s H vs Q E hr hsp=>?_
 obtain⟨t,h,q⟩:=hbody cdv A outer s H vs Q E hr hsp
 exact⟨t,h.nox,q⟩
theorem wg {x qual:Str}{st:Stmt}{f:Addr}{oc:Value}{od an:Option Addr}{osl:Array (Option Value)}{kV doc pm cdv ct:Value}(l:K.lookup f=some ⟨oc,od,.func (Ct x qual (cu st) (bc st) (ak st) .none kV doc pm an cdv ct),osl⟩)
  (c:C2 K cdv qual=true) (k:CC K (.ref f)=true):Fun K x qual st f (Ct x qual (cu st) (bc st) (ak st) .none kV doc pm an cdv ct):=⟨⟨oc,od,kV,doc,pm,an,cdv,ct,osl,rfl,l,c⟩,k⟩
end
theorem vd {A:Around}{k:Nat}(hr:Room k A):A.units+1<cLine:=Cq (DV (by decide:1<=64) _) hr.units
section
variable  {X:Cx}
end
theorem nU {A B:Prop}(h:B):if false=true then A else B:=by
 rw[if_neg BA]
 exact h
theorem nV {A B:Prop}(h:A):if true=true then A else B:=by
 rw[if_pos rfl]
 exact h
def Same (H H':Hp):Prop:=∀b o,H b=some o->H' b=some o
theorem Same.refl (H:Hp):Same H H:=λ_ _ h=>h
theorem Same.seq {K:yF}{H H':Hp}{a:Addr}{xs:List V}(e:Same H H')(h:SqL K H a xs):SqL K H' a xs:=by
 rcases h with(h|⟨o,h⟩)|h
 ·exact .inl (.inl (e _ _ h))
 ·exact .inl (.inr ⟨o,e _ _ h⟩)
 ·exact .inr h
noncomputable def bo (env:Env):List (Str×NameKind)->List (Str×Addr)->List (Str×Addr)
 | [],acc=>acc
 | (n,k)::r,acc=>if k == .free then bo env r ((n,(env.cells.lookup n).getD 0)::acc)else bo env r acc
theorem ga {env:Env}:∀(names:List (Str×NameKind)) (acc:List (Str×Addr)),(∀x∈names,x.2=.free->∃c,env.cells.lookup x.1=some c) →
  (forIn names acc λ(x:Str×NameKind) (cs:List (Str×Addr))=>if x.2 == .free then(do let c ←cellOf env x.1;pure (ForInStep.yield ((x.1,c)::cs)):Sem _)else pure (ForInStep.yield cs))=(pure (bo env names acc):Sem _)
 | [],acc,_=>rfl
 | (n,k)::r,acc,h=>by
  have hr:∀x∈r,x.2=.free->∃c,env.cells.lookup x.1=some c:=λx hx=>h x (ymC _ hx)
  rw[C8]
  unfold bo
  by_cases hk:(k==NameKind.free)=true
  ·obtain⟨c,hc⟩:=h (n,k) ymS (by simpa using hk)
   have hc':env.cells.lookup n=some c:=hc
   have e:cellOf env n=pure c:=by unfold cellOf;rw[hc']
   simp only[hk,if_true,e,hc',Option.getD_some,pure_bind]
   exact ga r _ hr
  ·have hk':(k==NameKind.free)=false:=by simpa using hk
   simp only[hk',Dn,if_false,pure_bind]
   exact ga r _ hr
theorem fc {env:Env}{scope:Scope}(h:∀x∈scope.names,x.2=.free->∃c,env.cells.lookup x.1=some c):closureFor scope env=pure (bo env scope.names []):=by
 have:=ga (env:=env) scope.names [] h
 simp only[closureFor]
 rw[this,pure_bind]
theorem f9 {env:Env}{x:Str}{c:Addr}:∀(names:List (Str×NameKind)) (acc:List (Str×Addr)),(∀y∈names,y.2=.free->∃c,env.cells.lookup y.1=some c)->(acc.lookup x=some c->env.cells.lookup x=some c) →
  (bo env names acc).lookup x=some c->env.cells.lookup x=some c
 | [],acc,_,h0,h=>h0 h
 | (n,k)::r,acc,hn,h0,h=>by
  have hr:∀y∈r,y.2=.free->∃c,env.cells.lookup y.1=some c:=λy hy=>hn y (ymC _ hy)
  unfold bo at h
  by_cases hk:(k==NameKind.free)=true
  ·rw[if_pos hk]at h
   refine f9 r _ hr (λe=>?_) h
   obtain⟨c',hc'⟩:=hn (n,k) ymS (by simpa using hk)
   have hc'':env.cells.lookup n=some c':=hc'
   rw[B5]at e
   by_cases hx:(x==n)=true
   ·rw[hx]at e
    have hxn:x=n:=by simpa using hx
    subst hxn
    rw[hc'']at e⊢
    exact e
   ·have hx':(x==n)=false:=by simpa using hx
    rw[hx']at e
    exact h0 e
  ·rw[if_neg hk]at h
   exact f9 r acc hr h0 h
theorem f8 {env:Env}{x:Str}:∀(names:List (Str×NameKind)) (acc:List (Str×Addr)),(acc.lookup x).isSome=true->((bo env names acc).lookup x).isSome=true
 | [],_,h=>h
 | (n,k)::r,acc,h=>by
  unfold bo
  by_cases hk:(k==NameKind.free)=true
  ·rw[if_pos hk]
   refine f8 r _ ?_
   rw[B5]
   cases hx:(x==n)with
   | true=>rfl
   | false=>exact h
  ·rw[if_neg hk]
   exact f8 r acc h
theorem du {env:Env}{x:Str}:∀(names:List (Str×NameKind)) (acc:List (Str×Addr)),(x,NameKind.free)∈names->((bo env names acc).lookup x).isSome=true
 | [],_,h=>by cases h
 | (n,k)::r,acc,h=>by
  unfold bo
  rcases ycM h with e|h
  ·cases e
   rw[if_pos (by rfl)]
   refine f8 r _ ?_
   rw[B5,beq_self_eq_true]
   rfl
  ·by_cases hk:(k==NameKind.free)=true
   ·rw[if_pos hk]
    exact du r _ h
   ·rw[if_neg hk]
    exact du r _ h
theorem hC {x:Str}{c:Addr}:∀(names:List (Str×NameKind)) (n:Nat) (acc:List (Str×Addr)),(cellsFrom n names acc).lookup x=some c->(n<=c/\(x,NameKind.cell)∈names)∨acc.lookup x=some c
 | [],_,_,h=>.inr h
 | (y,k)::r,n,acc,h=>by
  unfold cellsFrom at h
  by_cases hk:(k==NameKind.cell)=true
  ·rw[if_pos hk]at h
   rcases hC r (n+1) _ h with⟨h1,h2⟩|h1
   ·exact .inl ⟨by omega,ymC _ h2⟩
   ·rw[B5]at h1
    by_cases hx:(x==y)=true
    ·rw[hx]at h1
     have hxy:x=y:=by simpa using hx
     have hkc:k=.cell:=by simpa using hk
     subst hxy hkc
     cases h1
     exact .inl ⟨Bz _,ymS⟩
    ·have hx':(x==y)=false:=by simpa using hx
     rw[hx']at h1
     exact .inr h1
  ·rw[if_neg hk]at h
   rcases hC r n _ h with⟨h1,h2⟩|h1
   ·exact .inl ⟨h1,ymC _ h2⟩
   ·exact .inr h1
theorem lF:∀(names:List (Str×NameKind)) (n:Nat) (acc:List (Str×Addr)),(∀x c,acc.lookup x=some c->c<n)->(∀x y c,acc.lookup x=some c->acc.lookup y=some c->x=y) →
  ∀x y c,(cellsFrom n names acc).lookup x=some c->(cellsFrom n names acc).lookup y=some c->x=y
 | [],_,_,_,hi,x,y,c,h1,h2=>hi x y c h1 h2
 | (z,k)::r,n,acc,hb,hi,x,y,c,h1,h2=>by
  unfold cellsFrom at h1 h2
  by_cases hk:(k==NameKind.cell)=true
  ·rw[if_pos hk]at h1 h2
   refine lF r (n+1) ((z,n)::acc) (λa b e=>?_) (λa b d e1 e2=>?_) x y c h1 h2
   ·rw[B5]at e
    cases q:(a==z)with
    | true=>rw[q]at e;cases e;exact Dz _
    | false=>rw[q]at e;exact Ds (hb a b e)
   ·rw[B5]at e1 e2
    cases q1:(a==z)with
    | true=>
     cases q2:(b==z)with
     | true=>rw[beq_iff_eq.mp q1,beq_iff_eq.mp q2]
     | false=>rw[q1]at e1;rw[q2]at e2;cases e1;exact absurd (hb b n e2) (Cs _)
    | false=>
     cases q2:(b==z)with
     | true=>rw[q1]at e1;rw[q2]at e2;cases e2;exact absurd (hb a n e1) (Cs _)
     | false=>rw[q1]at e1;rw[q2]at e2;exact hi a b d e1 e2
  ·rw[if_neg hk]at h1 h2
   exact lF r n acc hb hi x y c h1 h2
theorem hJ {x:Str}:∀(names:List (Str×NameKind)) (n:Nat) (acc:List (Str×Addr)),(x,NameKind.cell)∉names->(cellsFrom n names acc).lookup x=acc.lookup x
 | [],_,_,_=>rfl
 | (y,k)::r,n,acc,h=>by
  unfold cellsFrom
  by_cases hk:(k==NameKind.cell)=true
  ·rw[if_pos hk,hJ r _ _ (λz=>h (ymC _ z)),B5]
   have hkc:k=.cell:=by simpa using hk
   have hx:(x==y)=false:=by
    cases q:(x==y)with
    | false=>rfl
    | true=>exact absurd (by rw[beq_iff_eq.mp q,hkc];exact ymS) h
   rw[hx]
  ·rw[if_neg hk]
   exact hJ r _ _ λz=>h (ymC _ z)
theorem jS {x:Str}{c:Addr}:∀(names:List (Str×NameKind)) (n:Nat) (acc:List (Str×Addr)),((x,NameKind.cell)∈names ∨ ∀c',acc.lookup x=some c'->n<=c')->(cellsFrom n names acc).lookup x=some c->∀lo,lo<=n->(∀c',acc.lookup x=some c'->lo<=c')∨(x,NameKind.cell)∈names->lo<=c
 | [],n,acc,_,h,lo,hl,h2=>by
  rcases h2 with h2|h2
  ·exact h2 c h
  ·cases h2
 | (y,k)::r,n,acc,_,h,lo,hl,h2=>by
  unfold cellsFrom at h
  by_cases hk:(k==NameKind.cell)=true
  ·rw[if_pos hk]at h
   have key:(∀c',((y,n)::acc).lookup x=some c'->lo<=c')∨(x,NameKind.cell)∈r:=by
    by_cases hx:(x==y)=true
    ·refine .inl λc' e=>?_
     rw[B5,hx]at e
     cases e
     exact hl
    ·have hx':(x==y)=false:=by simpa using hx
     rcases h2 with h2|h2
     ·refine .inl λc' e=>?_
      rw[B5,hx']at e
      exact h2 c' e
     ·rcases ycM h2 with e|h2
      ·cases e
       simp at hx
      ·exact .inr h2
   have key2:(x,NameKind.cell)∈r ∨ ∀c',((y,n)::acc).lookup x=some c'->n+1<=c'∨True:=.inr λ_ _=>.inr trivial
   rcases key with key|key
   ·by_cases hm:(x,NameKind.cell)∈r
    ·exact jS r (n+1) _ (.inl hm) h lo (by omega) (.inr hm)
    ·rw[hJ r _ _ hm]at h
     exact key c h
   ·exact jS r (n+1) _ (.inl key) h lo (by omega) (.inr key)
  ·rw[if_neg hk]at h
   have key:(∀c',acc.lookup x=some c'->lo<=c')∨(x,NameKind.cell)∈r:=by
    rcases h2 with h2|h2
    ·exact .inl h2
    ·rcases ycM h2 with e|h2
     ·cases e
      exact absurd rfl hk
     ·exact .inr h2
   by_cases hm:(x,NameKind.cell)∈r
   ·exact jS r n _ (.inl hm) h lo hl (.inr hm)
   ·rcases key with key|key
    ·rw[hJ r _ _ hm]at h
     exact key c h
    ·exact absurd key hm
theorem cW {x:Str}{c:Addr}:∀(names:List (Str×NameKind)) (h:Heap) (acc:List (Str×Addr)),(cellsFrom h.objs.size names acc).lookup x=some c->(pushCells h names).IsCell c none∨acc.lookup x=some c
 | [],_,_,e=>.inr e
 | (y,k)::r,h,acc,e=>by
  unfold cellsFrom at e
  unfold pushCells
  by_cases hk:(k==NameKind.cell)=true
  ·rw[if_pos hk]at e⊢
   have e':(cellsFrom (h.push {cls:=.type "cell",data:=.cell none}).objs.size r ((y,h.objs.size)::acc)).lookup x=some c:=by rw[Heap.size_push];exact e
   rcases cW r (h.push {cls:=.type "cell",data:=.cell none}) ((y,h.objs.size)::acc) e' with q|q
   ·exact .inl q
   ·rw[B5]at q
    cases hx:(x==y)with
    | true=>
     rw[hx]at q
     cases q
     exact .inl ⟨_,pushCells_keeps r _ _ _ (Heap.get?_push_size _ rfl),rfl⟩
    | false=>rw[hx]at q;exact .inr q
  ·rw[if_neg hk]at e⊢
   exact cW r h acc e
theorem iS {M:Model}{A:Around}{E:Value->Shared->Prop}{s:Shared}{scope:Scope}{globals:Addr}{cl:List (Str×Addr)}{qual:Str}{env:Env}{Q:Env->Shared->Prop}
  (hQ:∀h',h'.Ns s.heap.objs.size (λ_=>none)->(∀b o,s.heap.get? b=some o->h'.get? b=some o)->(∀x c,(cellsFrom (s.heap.objs.size+1) scope.names cl).lookup x=some c->h'.IsCell c none∨cl.lookup x=some c) →
   Q (newEnv scope s.heap.objs.size globals (cellsFrom (s.heap.objs.size+1) scope.names cl) qual none .none (some env) builtinsNs) {s with heap:=h'}) :
  wpAny M A (newFunctionEnv scope globals cl [] qual none .none (some env)) Q E s:=by
 simp only[newFunctionEnv,Option.isSome_some,if_true]
 refine wpAny_bind (wpAny_alloc ?_)
 refine wpAny_bind (wpAny_layCells _ (λname kind cells=>by cases hkc:kind==NameKind.cell<;>simp[hkc]) _ _ _ _ ?_)
 rw[show({s with heap:=s.heap.push {cls:=.type "dict",data:=.dict #[]}}:Shared).heap.objs.size=s.heap.objs.size+1 from Heap.size_push ..]
 rw[Ej]
 refine wpAny_bind (wpAny_pure (wpAny_pure (hQ _ ?_ ?_ ?_)))
 ·exact(Heap.Ns.new s.heap (.type "dict")).keeps (pushCells_keeps _ _)
 ·exact λb o e=>pushCells_keeps _ _ b o (Heap.get?_push_of_some _ e)
 ·intro x c e
  have e':(cellsFrom (s.heap.push {cls:=.type "dict",data:=.dict #[]}).objs.size scope.names cl).lookup x=some c:=by rw[Heap.size_push];exact e
  exact cW _ _ _ e'
noncomputable def rlK (env:Env) (n:Str) (k:NameKind):NameKind:=if(k == .free&&env.scope.kind == .function&&env.kindOf n==some .cell)then .cell else k
theorem jm {env:Env}{x:Str}:∀(names:List (Str×NameKind)),
  (names.map λ(n,k)=>if(k==NameKind.free&&env.scope.kind == .function&&env.kindOf n==some .cell)then(n,NameKind.cell)else(n,k)).lookup x=(names.lookup x).map (rlK env x)
 | []=>rfl
 | (n,k)::r=>by
  have ih:=jm (env:=env) (x:=x) r
  rw[Bt,B5]
  have e1:(if(k==NameKind.free&&env.scope.kind == .function&&env.kindOf n==some .cell)then(n,NameKind.cell)else(n,k))=(n,rlK env n k):=by
   unfold rlK;split<;>rfl
  show Dd x ((if(k==NameKind.free&&env.scope.kind == .function&&env.kindOf n==some .cell)then(n,NameKind.cell)else(n,k))::_)=_
  rw[e1,B5,B5]
  cases hx:(x==n)with
  | true=>
   have e2:=beq_iff_eq.mp hx
   subst e2
   rfl
  | false=>exact ih
theorem dW {scope:Scope}{env:Env}{x:Str}:(relabel scope env).names.lookup x=(scope.names.lookup x).map (rlK env x):=jm scope.names
structure Blk (osc sc:Scope)(N N':List Str)(fr:List (Option Nat)):Prop where
 kind:sc.kind=.function
 nd:N'.Nodup
 len:fr.length=N'.length
 free:∀(i j:Nat) (x:Str),fr[i]?=some (some j)->N'[i]?=some x->N[j]?=some x/\sc.names.lookup x=some .free
 out:∀x∈sc.names,x.2=.free->(osc.names.lookup x.1=some .cell∨osc.names.lookup x.1=some .free)/\(x.1,NameKind.cell)∉sc.names
 locl:∀x∈sc.names,x.2=.local->sc.names.lookup x.1=some .local
noncomputable def y0 (osc sc:Scope) (N N':List Str) (fr:List (Option Nat)):Bool:=
 (sc.kind == .function)&&decide N'.Nodup&&(fr.length==N'.length) &&
 (fr.zip N').all (λp=>match p.1 with|none=>true|some j=>N[j]? == some p.2&&sc.names.lookup p.2==some .free) &&
 sc.names.all (λp=>(p.2 != .free||((osc.names.lookup p.1==some .cell||osc.names.lookup p.1==some .free) && !sc.names.contains (p.1,.cell)))&&(p.2 != .local||sc.names.lookup p.1==some .local))
theorem Blk.of {osc sc:Scope}{N N':List Str}{fr:List (Option Nat)}(h:y0 osc sc N N' fr=true):Blk osc sc N N' fr:=by
 unfold y0 at h
 simp only[By]at h
 obtain⟨⟨⟨⟨h1,h2⟩,h3⟩,h4⟩,h5⟩:=h
 refine⟨by simpa using h1,of_decide_eq_true h2,by simpa using h3,λi j x e1 e2=>?_,λx hx hk=>?_,λx hx hk=>?_⟩
 ·have hm:(some j,x)∈fr.zip N':=by
   refine CY.mpr ⟨i,?_⟩
   rw[CG]
   exact⟨e1,e2⟩
  have:=Ch.mp h4 _ hm
  simp only[By]at this
  exact⟨by simpa using this.1,by simpa using this.2⟩
 ·have:=Ch.mp h5 x hx
  simp only[By]at this
  have t1:=this.1
  rw[hk]at t1
  simp only[bne_self_eq_false,DW,By,DN,B7]at t1
  refine⟨t1.1.imp (λz=>by simpa using z) (λz=>by simpa using z),λhm=>?_⟩
  have t2:=t1.2
  rw[List.contains_iff_mem.mpr hm]at t2
  cases t2
 ·have:=Ch.mp h5 x hx
  simp only[By]at this
  have t1:=this.2
  rw[hk]at t1
  simp only[bne_self_eq_false,DW]at t1
  simpa using t1
noncomputable def ce (fr:List (Option Nat)) (Z:St):St:=fr.map λo=>match o with
 | none=>none
 | some j=>Z.getD j none
theorem fL (fr:List (Option Nat))(Z:St):(ce fr Z).length=fr.length:=by unfold ce;rw[Bw]
noncomputable def vZ (X:Cx) (scope:Scope) (N':List Str) (cells:List (Str×Addr)) (C:Addr) (s:Shared) (H:Hp) (ex:List Addr) (pn:List (Addr×Obj)) (xe:Value->Shared->Prop):Cx where
 prog:=X.prog
 w:=X.w
 K:=X.K
 mg:=X.mg
 base:=X.base
 A:=X.A
 N:=N'
 s₀:=s
 H₀:=H
 env:=compEnvC scope cells C X.env
 outer:=X.stack
 stack:=X.stack
 ex:=ex
 fn:=λx=>scope.names.lookup x==some .cell
 calm:=X.calm
 pn:=pn
 xe:=xe
section
variable  {X:Cx}{pins:List (Addr×Obj)}{Z:St}{H H':Hp}{s:Shared}{scope:Scope}{N':List Str}{fr:List (Option Nat)}{ex:List Addr}{xe:Value->Shared->Prop}
theorem cE {sc:Scope}{x:Str}{k:NameKind}(h:sc.names.lookup x=some k):(x,k)∈sc.names:=Cw h
theorem Inv.freeCells (I:Inv X pins Z H s)(B:Blk X.env.scope scope X.N N' fr):∀x∈scope.names,x.2=.free->∃c,X.env.cells.lookup x.1=some c:=λx hx hk=>I.ok.has x.1 (B.out x hx hk).1
theorem Inv.enter {h':Heap}(I:Inv X pins Z H s)(B:Blk X.env.scope scope X.N N' fr)(hex:∀b∈ex,fh X pins H b/\∃o,s.heap.get? b=some o)
  (hns:h'.Ns s.heap.objs.size (λ_=>none)) (hk:∀b o,s.heap.get? b=some o->h'.get? b=some o)
  (hc:∀x c,(cellsFrom (s.heap.objs.size+1) scope.names (bo X.env scope.names [])).lookup x=some c->h'.IsCell c none∨(bo X.env scope.names []).lookup x=some c) :
  Inv (vZ X scope N' (cellsFrom (s.heap.objs.size+1) scope.names (bo X.env scope.names [])) s.heap.objs.size s H ex (X.pn++pins) xe) [] (ce fr Z) H {s with heap:=h'}:=by
 have hfc:=I.freeCells B
 have old:∀x c,(bo X.env scope.names []).lookup x=some c->X.env.cells.lookup x=some c:=λx c e=>f9 scope.names [] hfc (λz=>by cases z) e
 have lt:∀x c,X.env.cells.lookup x=some c->c<s.heap.objs.size:=λx c e=>by
  obtain⟨v,q⟩:=I.cell x c e
  exact q.lt
 have cases2:∀x c,(cellsFrom (s.heap.objs.size+1) scope.names (bo X.env scope.names [])).lookup x=some c->s.heap.objs.size+1<=c∨X.env.cells.lookup x=some c:=λx c e=>
  (hC _ _ _ e).imp (λz=>z.1) (old x c)
 have hlt:∀b∈ex,b<s.heap.objs.size:=λb hb=>by
  obtain⟨o,e⟩:=(hex b hb).2
  exact Heap.lt_size e
 have has:∀x,scope.names.lookup x=some .cell∨scope.names.lookup x=some .free->∃c,(cellsFrom (s.heap.objs.size+1) scope.names (bo X.env scope.names [])).lookup x=some c:=λx hx=>by
  refine C5.mp (Db _ _ _ (hx.imp id λz=>du _ _ (cE z)))
 refine⟨⟨I.ok.mod,?_,I.ok.glob,I.ok.blt,Bz _,?_,?_,?_,I.ok.hd,I.ok.gd,I.ok.frames,.inl rfl,?_,I.bs,B3 I.ok.bsz I.sz,?_,?_,I.stack,I.stkFree⟩,rfl,I.bare,Un.kept hk,⟨_,hns,?_⟩,?_,?_,?_,?_,I.hok.kept hk,?_⟩
 ·exact B.kind
 ·exact lF _ _ _ (λx c e=>Ds (lt x c (old x c e))) (λx y c e1 e2=>I.ok.inj x y c (old x c e1) (old y c e2))
 ·intro x hx
  refine has x ?_
  have hx':(relabel scope X.env).names.lookup x=some .cell∨(relabel scope X.env).names.lookup x=some .free:=hx
  rw[dW]at hx'
  cases q:scope.names.lookup x with
  | none=>rw[q]at hx';rcases hx' with z|z<;>cases z
  | some k=>
   rw[q]at hx'
   have hx2:rlK X.env x k=.cell∨rlK X.env x k=.free:=hx'.imp (λz=>BQ.inj z) (λz=>BQ.inj z)
   unfold rlK at hx2
   split at hx2
   ·rename_i hc
    simp only[By]at hc
    have:k=.free:=by simpa using hc.1.1
    rw[this];exact .inr rfl
   ·rcases hx2 with z|z<;>rw[z]
    ·exact .inl rfl
    ·exact .inr rfl
 ·intro x c hf e
  have hf':scope.names.lookup x=some .cell:=by
   have:(scope.names.lookup x==some NameKind.cell)=true:=hf
   simpa using this
  exact jS _ _ _ (.inl (cE hf')) e _ (ED _) (.inr (cE hf'))
 ·intro b hb
  obtain⟨⟨_,_,_,_,f4,_⟩,_⟩:=hex b hb
  refine⟨BG (hlt b hb),λx c e z=>?_⟩
  rcases cases2 x c e with q|q
  ·rw[z]at q
   exact absurd (BI (hlt b hb) (Nat.le_of_succ_le q)) (Cs _)
  ·exact f4 x c q z
 ·intro b o e hb
  obtain⟨⟨_,_,_,f3,_,_⟩,_⟩:=hex b hb
  rcases f3 with z|z
  ·exact I.ok.noex b o e z
  ·exact absurd (BI (Heap.lt_size e) (B3 I.ok.bsz z)) (Cs _)
 ·intro b hb hf
  obtain⟨⟨_,f1,f2,_,_,_⟩,_⟩:=hex b hb
  rcases ycM (I.stkSub b hf)with z|z
  ·exact f1 z
  ·exact f2 z
 ·intro i x v e1 e2 e3
  unfold ce at e2
  rw[BD]at e2
  cases q:fr[i]? with
  | none=>rw[q]at e2;cases e2
  | some o=>
   rw[q]at e2
   cases o with
   | none=>simp at e2
   | some j=>
    have e2':Z.getD j none=some v:=by simpa using e2
    obtain⟨b1,b2⟩:=B.free i j x q e1
    have e4:Z[j]?=some (some v):=by
     rw[BO]at e2'
     cases q2:Z[j]? with
     | none=>rw[q2]at e2';cases e2'
     | some y=>rw[q2]at e2';simp at e2';rw[e2']
    obtain⟨o1,o2⟩:=B.out (x,.free) (cE b2) rfl
    obtain⟨m,hn,hl⟩:=I.loc
    have vis:Vis X.env.scope x:=o1.elim (λz=>.inr (.inl z)) λz=>.inr (.inr z)
    obtain⟨u,r,l⟩:=hl j x v b1 e4 vis
    refine⟨u,r,.inr ?_⟩
    have nl:∃c,X.env.cells.lookup x=some c/\s.heap.IsCell c (some u):=by
     rcases l with⟨kl,_⟩|⟨_,c,h1,h2⟩
     ·have kl':X.env.scope.names.lookup x=some .local:=kl
      rcases o1 with z|z<;>· have z':X.env.scope.names.lookup x=_:=z;rw[kl']at z';cases z'
     ·exact⟨c,h1,h2⟩
    obtain⟨c,h1,h2⟩:=nl
    have kd:(compEnvC scope (cellsFrom (s.heap.objs.size+1) scope.names (bo X.env scope.names [])) s.heap.objs.size X.env).kindOf x=some .cell∨(compEnvC scope (cellsFrom (s.heap.objs.size+1) scope.names (bo X.env scope.names [])) s.heap.objs.size X.env).kindOf x=some .free:=by
     show(relabel scope X.env).names.lookup x=some .cell∨(relabel scope X.env).names.lookup x=some .free
     rw[dW,b2]
     show some (rlK X.env x .free)=_∨some (rlK X.env x .free)=_
     unfold rlK
     split
     ·exact .inl rfl
     ·exact .inr rfl
    refine⟨kd,c,?_,h2.keeps hk⟩
    show(cellsFrom (s.heap.objs.size+1) scope.names (bo X.env scope.names [])).lookup x=some c
    rw[hJ _ _ _ o2]
    obtain⟨c',hc'⟩:=C5.mp (du (env:=X.env) scope.names [] (cE b2))
    rw[hc']
    have:=old x c' hc'
    rw[h1]at this
    exact this.symm
 ·intro x c e
  rcases hc x c e with q|q
  ·exact⟨_,q⟩
  ·obtain⟨v,z⟩:=I.cell x c (old x c q)
   exact⟨v,z.keeps hk⟩
 ·exact I.hok.fresh (Bz _)
 ·intro x c e
  rcases cases2 x c e with q|q
  ·exact I.hok.fresh (by omega)
  ·exact I.freeC x c q
 ·intro p hp
  have hp':p∈X.pn++pins:=by
   have:p∈(X.pn++pins)++[]:=hp
   rwa [B4]at this
  obtain⟨e,n,ne,nf,d⟩:=I.pin p hp'
  refine⟨hk _ _ e,n,BG (Heap.lt_size e),λz=>?_,d⟩
  rcases ycM (I.stkSub p.1 z)with q|q
  ·exact ne q
  ·exact nf q
 ·show(ce fr Z).length=N'.length
  rw[fL,B.len]
theorem Inv.leave {cells:List (Str×Addr)}{C:Addr}{pins':List (Addr×Obj)}{Z':St}{s':Shared}{pn:List (Addr×Obj)}(I:Inv X pins Z H s)(hex:∀b∈ex,fh X pins H b)
  (J:Inv (vZ X scope N' cells C s H ex pn xe) pins' Z' H' s'):Inv X pins Z H' s':=
 I.call' J.os J.base J.hok J.bare λb hb=>by
  obtain⟨_,f1,_,f3,f4,f5⟩:=hex b hb
  exact⟨f3,f1,f4,f5⟩
theorem Inv.track {d:Addr}{o:HO}(I:Inv X pins Z H s)(hd:fh X pins H d)(hX:d∉X.ex∨X.s₀.heap.objs.size<=d)(h0:X.s₀.heap.objs.size<=d)(new:ObjOk X.prog X.w (upd H d o) s.heap d o):Inv X pins Z (upd H d o) s:=by
 obtain⟨f0,f1,f2,f3,f4,f5⟩:=hd
 refine⟨I.ok,I.os,I.bare,⟨I.base.keep,I.base.slot,λb u q n hx=>?_,I.base.there,λb xs q=>?_,λb u xs q=>?_,λb ps q=>?_⟩,I.loc,I.cell,?_,λx c e=>?_,λp hp=>?_,λb u q=>?_,I.len⟩
 ·rw[upd_ne (BG (BI (Heap.lt_size q) h0))]
  exact I.base.free b u q n hx
 ·have:=I.base.tups b xs q
  rw[upd_ne (aT this f0)]
  exact this
 ·have:=I.base.frzs b u xs q
  rw[upd_ne (aT this f0)]
  exact this
 ·obtain⟨m,this⟩:=I.base.tbls b ps q
  exact⟨m,by rw[upd_ne (aT this f0)];exact this⟩
 ·rw[upd_ne (Ne.symm f1)]
  exact I.free
 ·rw[upd_ne (f4 x c e)]
  exact I.freeC x c e
 ·obtain⟨e,n,ne,nf,dd⟩:=I.pin p hp
  exact⟨e,by rw[upd_ne (f5 p hp)];exact n,ne,nf,dd⟩
 ·by_cases hb:b=d
  ·subst hb
   rw[ar]at q
   cases q
   exact new
  ·rw[upd_ne hb]at q
   exact(I.hok b u q).stay (λ_ _ _ z=>z) (λc z=>by rw[upd_ne (aT z f0)];exact z) λc xs z=>by rw[upd_ne (aT z f0)];exact z
end
noncomputable abbrev nv (ifs:List Expr) (env:Env):Sem Bool:=forIn ifs true λc r=>if r=true then do let ok ←isTrue c env (eval c env);pure (ForInStep.yield ok)else pure (ForInStep.yield r)
theorem dQ {prog:Program}{w:World}{A:Around}{R:Result->Shared->Prop}{s:Shared}{elt target iter:Expr}{ifs:List Expr}{scope:Scope}{pos:Pos}{it acc:Value}{env:Env}(I:Nat->Shared->Prop)
  (turn:∀n s,I n s->wpAny (model prog w) A (pyNext it) (λr s₁=>match r with
   | none=>R (.ok .next) s₁
   | some v=>wpAny (model prog w) A (letOwnedTupleGo target it v) (λ_ s₁'=>wpAny (model prog w) A (assign target env v) (λ_ s₂=>
     wpAny (model prog w) A (nv ifs env) (λok s₃=>
      if ok=true then wpAny (model prog w) A (eval elt env) (λx s₄=>
       wpAny (model prog w) A (call (.builtin "list.append") [acc,x]) (λ_ s₅=>∃m,m<n/\I m s₅) (notedBy (model prog w) A env λe s'=>R (.error e) s') s₄) (notedBy (model prog w) A env λe s'=>R (.error e) s') s₃
      else∃m,m<n/\I m s₃) (notedBy (model prog w) A env λe s'=>R (.error e) s') s₂) (notedBy (model prog w) A env λe s'=>R (.error e) s') s₁') (notedBy (model prog w) A env λe s'=>R (.error e) s') s₁) (notedBy (model prog w) A env λe s'=>R (.error e) s') s)
  (n:Nat) (h:I n s):codeAny (model prog w) A (.compLoop (.ListComp elt [⟨target,iter,ifs,0⟩] scope pos) 0 it acc env) R s:=by
 refine codeAny_loop rfl I (λn s hI=>?_) n h
 show wpAny _ A ((compTurn (.ListComp elt [⟨target,iter,ifs,0⟩] scope pos) 0 it acc env).onRaise (λx=>do noteFrame x env;theTreesLotGoes x)) _ _ s
 refine wpAny_noted ?_
 rw[compTurn_list]
 refine wpAny_bind (wpAny_standAt (wpAny_bind (wpAny_mono (turn n s hI) (λr s₁ h₁=>?_) λ_ _ h'=>h')))
 cases r with
 | none=>exact wpAny_pure h₁
 | some v=>
  refine wpAny_bind (wpAny_mono h₁ (λ_ s₁' h₁'=>?_) λ_ _ h'=>h')
  refine wpAny_bind (wpAny_mono h₁' (λ_ s₂ h₂=>wpAny_bind (wpAny_mono h₂ (λok s₃ h₃=>?_) λ_ _ h'=>h')) λ_ _ h'=>h')
  cases ok with
  | false=>exact wpAny_pure ⟨rfl,h₃⟩
  | true=>
   exact wpAny_bind (wpAny_bind (wpAny_mono h₃ (λx s₄ h₄=>wpAny_bind (wpAny_mono h₄ (λ_ s₅ h₅=>wpAny_pure (wpAny_pure ⟨rfl,h₅⟩)) λ_ _ h'=>h')) λ_ _ h'=>h'))
def PTs (X:Cx)(ifs:List Expr)(t:TT):Prop:=
 ∀(pins:List (Addr×Obj)) (s:Shared) (Z:St) (H:Hp) (Q:Bool->Hp->Prop),Inv X pins Z H s->t Z H Q->wpAny (model X.prog X.w) X.A (nv ifs X.env) (TP X pins Z Q) X.xe s
def AH:TT:=λ_ H Q=>Q true H
theorem t6 {X:Cx}:PTs X [] AH:=λ_ _ _ H _ I h=>wpAny_tests_nil ⟨H,I,h⟩
def Kp (fr:List (Option Nat))(Z Z':St):Prop:=Z'.length=Z.length/\∀i j:Nat,fr[i]?=some (some j)->Z'[i]?=Z[i]?
theorem Kp.refl (fr:List (Option Nat))(Z:St):Kp fr Z Z:=⟨rfl,λ_ _ _=>rfl⟩
theorem Kp.trans {fr:List (Option Nat)}{Z Z' Z'':St}(a:Kp fr Z Z')(b:Kp fr Z' Z''):Kp fr Z Z'':=⟨b.1.trans a.1,λi j e=>(b.2 i j e).trans (a.2 i j e)⟩
def fE (fr:List (Option Nat))(g:TG):Prop:=∀v Z H (Q Q':St->Hp->Prop),(∀Z' H',Q Z' H'->Kp fr Z Z'->Q' Z' H')->g v Z H Q->g v Z H Q'
def g8 (fr:List (Option Nat))(g:TGs):Prop:=∀v Z H (Q Q':St->Hp->Prop),(∀Z' H',Q Z' H'->Kp fr Z Z'->Q' Z' H')->g v Z H Q->g v Z H Q'
theorem sM {fr:List (Option Nat)}{i:Nat}(h:fr[i]?=some none):fE fr (jg i):=λv Z H Q Q' k q=>by
 refine k _ _ q ⟨C7,λi' j e=>?_⟩
 have:i≠i':=λz=>by subst z;rw[h]at e;cases e
 exact BJ this
theorem wm {fr:List (Option Nat)}:g8 fr wj:=λv Z H Q Q' k q=>⟨q.1,k _ _ q.2 (Kp.refl _ _)⟩
theorem sK {fr:List (Option Nat)}{g:TG}{gs:TGs}(h1:fE fr g)(h2:g8 fr gs):g8 fr (pD g gs):=λvs Z H Q Q' k q=>by
 obtain⟨v,r,e,q⟩:=q
 refine⟨v,r,e,h1 v Z H _ _ (λZ1 H1 q1 k1=>h2 r Z1 H1 _ _ (λZ2 H2 q2 k2=>k Z2 H2 q2 (k1.trans k2)) q1) q⟩
theorem wn {fr:List (Option Nat)}{K:yF}{n:Nat}{gs:TGs}(h:g8 fr gs):fE fr (sJ K n gs):=λv Z H Q Q' k q=>by
 obtain⟨a,xs,e1,e2,e3,q⟩:=q
 exact⟨a,xs,e1,e2,e3,h xs Z H Q Q' k q⟩
structure Bk where
 cells:List (Str×Addr)
 C:Addr
 s:Shared
 H:Hp
 ex:List Addr
 pn:List (Addr×Obj)
noncomputable abbrev cxB (X:Cx) (scope:Scope) (N':List Str) (b:Bk):Cx:=vZ X scope N' b.cells b.C b.s b.H b.ex b.pn λ_ _=>False
def rV (wi:TI)(fr:List (Option Nat))(g:TG)(tc:TT)(te:TE):TE:=λZ H Q=>
 wi Z H λJ H1=>∃W:Nat->Nat->List V->Hp->Prop,(∃m,W 0 m [] H1)/\∀i m acc H,W i m acc H->acc.length<sizeLine ∧
  ((J.stop i H/\∀d,H d=none->Q (.ref d) (upd H d (.lst acc))) ∨
  (J.go i H/\∃N:List V->Hp->Prop,(∀acc' H',N acc' H'->∃m',m'<m/\W (i+1) m' acc' H') ∧
   ∀x H',J.yld i H x H'->g x (ce fr Z) H' λZ2 H2=>tc Z2 H2 λb H3=>if b=true then te Z2 H3 λv H4=>N (acc++[v]) H4 else N acc H3))
section
variable  {X:Cx}{elt tg iter:Expr}{ifs:List Expr}{scope:Scope}{pos:Pos}{N':List Str}{fr:List (Option Nat)}{wi:TI}{g:TG}{tc:TT}{te:TE}
theorem hR (hc:X.calm=true)(B:Blk X.env.scope scope X.N N' fr)
  (hg:∀b,PG (cxB X scope N' b) tg g) (hgk:fE fr g) (ht:∀b,PTs (cxB X scope N' b) ifs tc) (he:∀b,PE (cxB X scope N' b) elt te)
  {pins:List (Addr×Obj)} {Z:St} {Q:VK} {itv:Value} {s2:Shared} {E:Value->Shared->Prop} {RR:Value->Addr->Result->Shared->Prop}
  (h2:PIE X pins Z tg (λJ H1=>∃W:Nat->Nat->List V->Hp->Prop,(∃m,W 0 m [] H1)/\∀i m acc H,W i m acc H->acc.length<sizeLine ∧
   ((J.stop i H/\∀d,H d=none->Q (.ref d) (upd H d (.lst acc))) ∨
   (J.go i H/\∃N:List V->Hp->Prop,(∀acc' H',N acc' H'->∃m',m'<m/\W (i+1) m' acc' H') ∧
    ∀x H',J.yld i H x H'->g x (ce fr Z) H' λZ2 H2=>tc Z2 H2 λb H3=>if b=true then te Z2 H3 λv H4=>N (acc++[v]) H4 else N acc H3))) itv s2)
  (hRR:∀(d C:Addr) (v:V) (H':Hp) (s':Shared) m',Inv X pins Z H' s'->v=.ref d->Q v H'->s'.heap.Ns C m'->fh X pins H' C->C≠d->RR (.ref d) C (.ok .next) s') :
  wpAny (model X.prog X.w) X.A (newList []) (λacc s₃=>wpAny (model X.prog X.w) X.A (newFunctionEnv scope X.env.globals (bo X.env scope.names []) [] X.env.qual none .none (some X.env)) (λcenv s₄=>
   codeAny (model X.prog X.w) X.A (.compStart (.ListComp elt [⟨tg,iter,ifs,0⟩] scope pos) 0 itv acc {cenv with scope:=relabel scope X.env}) (RR acc cenv.locals) s₄) E s₃) E s2:=by
 obtain⟨it,fp,tn,J,H2,rfl,I2,T,st2,f2,W,⟨m0,w0⟩,turn⟩:=h2
 refine wpAny_newObj_type ?_
 generalize hd:s2.heap.objs.size=d
 have I3:Inv X pins Z H2 {s2 with heap:=s2.heap.push {cls:=.type "list",dict:=none,data:=.seq ([]:List Value).toArray}}:=I2.kept (t':=s2.toks) λb o e=>Heap.get?_push_of_some _ e
 have fd:fh X pins H2 d:=I2.fpOk (by rw[hd];exact Bz _) (I2.hok.fresh (by rw[hd];exact Bz _))
 have od:(s2.heap.push {cls:=.type "list",dict:=none,data:=.seq ([]:List Value).toArray}).get? d=some {cls:=.type "list",dict:=none,data:=.seq ([]:List Value).toArray}:=by rw[←hd];exact Heap.get?_push_size _ rfl
 have st3:tn 0 (s2.heap.push {cls:=.type "list",dict:=none,data:=.seq ([]:List Value).toArray}):=T.keep _ _ _ st2 λb _ o e=>Heap.get?_push_of_some _ e
 have ne_d:∀b∈fp,b≠d:=λb hb=>by
  obtain⟨o,e,_⟩:=T.obj _ _ st2 b hb
  rw[←hd]
  exact BG (Heap.lt_size e)
 have hd0:X.s₀.heap.objs.size<=d:=by rw[←hd];exact I2.sz
 generalize hs3:({s2 with heap:=s2.heap.push {cls:=.type "list",dict:=none,data:=.seq ([]:List Value).toArray}}:Shared)=s3 at I3
 have od3:s3.heap.get? d=some {cls:=.type "list",dict:=none,data:=.seq ([]:List Value).toArray}:=by rw[←hs3];exact od
 have st3':tn 0 s3.heap:=by rw[←hs3];exact st3
 have hex:∀b∈d::fp,fh X pins H2 b/\∃o,s3.heap.get? b=some o:=λb hb=>by
  rcases ycM hb with e|hb
  ·subst e;exact⟨fd,_,od3⟩
  ·obtain⟨o,e,_⟩:=T.obj _ _ st3' b hb
   exact⟨f2 b hb,o,e⟩
 refine iS λh4 hns hk hcl=>?_
 have J0:=I3.enter (ex:=d::fp) (xe:=λ_ _=>False) B hex hns hk hcl
 generalize hCs:cellsFrom (s3.heap.objs.size+1) scope.names (bo X.env scope.names [])=cells at J0
 have hCd:s3.heap.objs.size≠d:=λz=>by have:=Heap.lt_size od3;rw[z]at this;exact Cs _ this
 let bk:Bk:=⟨cells,s3.heap.objs.size,s3,H2,d::fp,X.pn++pins⟩
 have J0':Inv (cxB X scope N' bk) [] (ce fr Z) H2 {s3 with heap:=h4}:=J0
 show codeAny (model X.prog X.w) X.A (.compStart (.ListComp elt [⟨tg,iter,ifs,0⟩] scope pos) 0 (.ref it) (.ref d) (cxB X scope N' bk).env) (RR (.ref d) s3.heap.objs.size) {s3 with heap:=h4}
 have ne_pn:∀p∈X.pn++pins,p.1≠d/\∀b∈fp,p.1≠b:=λp hp=>⟨fd.2.2.2.2.2 p hp,λb hb=>(f2 b hb).2.2.2.2.2 p hp⟩
 have fpk:∀{Hx:Hp} {o:Obj},(∀b∈fp,Hx b=none)->∀b∈fp,fh (cxB X scope N' bk) [(d,o)] Hx b:=λ{Hx o} hn b hb=>by
  have hb':b∈d::fp:=ymC _ hb
  refine⟨hn b hb,(J0'.ok.exf b hb').1,J0'.ok.exfs b hb',.inl hb',λx c e=>(J0'.ok.exf b hb').2 x c e,λp hp=>?_⟩
  have hp':p∈(X.pn++pins)++[(d,o)]:=hp
  rcases yaM hp' with z|z
  ·exact(ne_pn p z).2 b hb
  ·have:p=(d,o):=by simpa using z
   rw[this]
   exact Ne.symm (ne_d b hb)
 have loop:∀s4:Shared,Inv (cxB X scope N' bk) [] (ce fr Z) H2 s4->tn 0 s4.heap->s4.heap.PlainList d #[] →
   codeAny (model X.prog X.w) X.A (.compLoop (.ListComp elt [⟨tg,iter,ifs,0⟩] scope pos) 0 (.ref it) (.ref d) (cxB X scope N' bk).env) (RR (.ref d) s3.heap.objs.size) s4:=by
  intro s4 J4 st4 pl4
  refine dQ (λn s'=>∃i acc its H' Z',Inv (cxB X scope N' bk) [] Z' H' s'/\Kp fr (ce fr Z) Z'/\tn i s'.heap/\(∀b∈fp,H' b=none)/\H' d=none/\s'.heap.PlainList d (List.toArray its)/\Vals acc its/\W i n acc H') ?_ m0
   ⟨0,[],[],H2,ce fr Z,J4,Kp.refl _ _,st4,λb hb=>(f2 b hb).1,fd.1,pl4,.nil,w0⟩
  rintro n s5 ⟨i,acc,its,H5,Z5,J5,kp5,st5,fr5,hd5,⟨n5,pl5⟩,va5,w5⟩
  obtain⟨hz,cs⟩:=turn i n acc H5 w5
  have J5p:Inv (cxB X scope N' bk) [(d,{cls:=.type "list",data:=.seq its.toArray n5})] Z5 H5 s5:=J5.pins_of λp hp=>by
   have:p=(d,{cls:=.type "list",data:=.seq its.toArray n5}):=by simpa using hp
   subst this
   exact⟨pl5,hd5,(J0'.ok.exf d ymS).1,J0'.ok.exfs d ymS,λv z=>by cases z⟩
  rcases cs with⟨stop,q⟩|⟨go,N,hN,step⟩
  ·refine thn (T.done (cxB X scope N' bk) rfl rfl rfl hc i _ s5 Z5 H5 _ J5p (fpk fr5) st5 stop) λr s6 ⟨hr,J6⟩=>?_
   subst hr
   obtain⟨e6,n6,_⟩:=J6.pin (d,{cls:=.type "list",data:=.seq its.toArray n5}) (yaR _ (by simp))
   have I6:Inv X pins Z H5 s6:=I3.leave (λb hb=>(hex b hb).1) J6
   have I6t:Inv X pins Z (upd H5 d (.lst acc)) s6:=I6.track ⟨hd5,fd.2⟩ (.inr hd0) hd0 ⟨by omega,its,n5,va5,e6⟩
   obtain⟨m6,hn6,_⟩:=J6.loc
   refine hRR d s3.heap.objs.size (.ref d) _ s6 m6 I6t rfl (q d hd5) hn6 ?_ hCd
   exact I3.fpOk (Bz _) (by rw[upd_ne hCd];exact J6.free)
  ·refine thn (T.item (cxB X scope N' bk) rfl rfl rfl hc i _ s5 Z5 H5 _ J5p (fpk fr5) st5 go) λr s6 ⟨u,hr,h6⟩=>?_
   subst hr
   refine thn h6 λ_ s7 ⟨x,H7,J7,r7,y7,st7,fr7⟩=>?_
   have J7w:Inv (cxB X scope N' bk) [(d,{cls:=.type "list",data:=.seq its.toArray n5})] (ce fr Z) H7 s7:=J7.weak kp5.1.symm λk v e=>by
    cases q:fr[k]? with
    | none=>
     unfold ce at e
     rw[BD,q]at e
     cases e
    | some o=>
     cases o with
     | none=>
      unfold ce at e
      rw[BD,q]at e
      simp at e
     | some j=>rw[kp5.2 k j q];exact e
   have J7p:=J7w.pinned (fpk fr7) (T.obj _ _ st7)
   have never:∀{α:Type} {t:Sem α} {QQ : α->Shared->Prop} {EE:Value->Shared->Prop} {ss:Shared},wpAny (model X.prog X.w) X.A t QQ (λ_ _=>False) ss->wpAny (model X.prog X.w) X.A t QQ EE ss:=λhh=>wpAny_mono hh (λ_ _ z=>z) λ_ _ z=>z.elim
   have G:=hgk x (ce fr Z) H7 _ (λZ2 H2=>(tc Z2 H2 λb H3=>if b=true then te Z2 H3 λv H4=>N (acc++[v]) H4 else N acc H3)/\Kp fr (ce fr Z) Z2) (λZ' H' a b=>⟨a,b⟩) (step x H7 y7)
   refine never (thn (hg bk _ s7 (ce fr Z) H7 x u _ J7p r7 G) λ_ s8 ⟨Z8,H8,J8,q8,kp8⟩=>?_)
   refine never (thn (ht bk _ s8 Z8 H8 _ J8 q8) λok s9 ⟨H9,J9,q9⟩=>?_)
   have keepT:∀{Zx:St} {Hx:Hp} {sx:Shared},Inv (cxB X scope N' bk) ([(d,{cls:=.type "list",data:=.seq its.toArray n5})]++iC fp s7.heap) Zx Hx sx->(∀b∈fp,∀o,s7.heap.get? b=some o->sx.heap.get? b=some o)/\(∀b∈fp,Hx b=none)/\sx.heap.get? d=some {cls:=.type "list",data:=.seq its.toArray n5}/\Hx d=none:=λ{Zx Hx sx} Jx=>by
    refine⟨λb hb o e=>(Jx.pin (b,o) (yaR _ (yaR _ (dz hb e)))).1,λb hb=>?_,?_⟩
    ·obtain⟨o,e,_⟩:=T.obj _ _ st7 b hb
     exact(Jx.pin (b,o) (yaR _ (yaR _ (dz hb e)))).2.1
    ·have:=Jx.pin (d,{cls:=.type "list",data:=.seq its.toArray n5}) (yaR _ (yaL _ (by simp)))
     exact⟨this.1,this.2.1⟩
   cases ok with
   | false=>
    rw[if_neg (by decide)]at q9⊢
    obtain⟨m',hm,w9⟩:=hN _ _ q9
    obtain⟨k1,k2,k3,k4⟩:=keepT J9
    exact⟨m',hm,i+1,acc,its,H9,Z8,J9.pins_of (λp hp=>by simp at hp),kp8,T.keep _ _ _ st7 k1,k2,k4,⟨n5,k3⟩,va5,w9⟩
   | true=>
    rw[if_pos rfl]at q9⊢
    refine never (thn (he bk _ s9 Z8 H9 _ J9 q9) λy s10 ⟨v,H10,J10,r10,q10⟩=>?_)
    obtain⟨m',hm,w10⟩:=hN _ _ q10
    obtain⟨k1,k2,k3,k4⟩:=keepT J10
    have hzs:its.toArray.size<=sizeLine:=by rw[Bv,←va5.length];omega
    refine wpAny_list_append_plain (hsz:=hzs) ⟨n5,k3⟩ λh11 pl11 sb11=>?_
    have J10':Inv (cxB X scope N' bk) [] Z8 H10 s10:=J10.pins_of (λp hp=>by simp at hp)
    have J11:Inv (cxB X scope N' bk) [] Z8 H10 {s10 with heap:=h11}:=J10'.turned (it:=d) (t':=s10.toks) (λb o hb e=>(sb11.2 b hb).trans e) k4 (J0'.ok.exf d ymS).1 (.inl ymS) (λx c e=>(J0'.ok.exf d ymS).2 x c e) λp hp=>by
     have hp':p∈(X.pn++pins)++[]:=hp
     rw[B4]at hp'
     exact(ne_pn p hp').1
    refine⟨m',hm,i+1,acc++[v],its++[y],H10,Z8,J11,kp8,T.keep _ _ _ st7 (λb hb o e=>(sb11.2 b (ne_d b hb)).trans (k1 b hb o e)),k2,k4,?_,va5.append (.cons r10 .nil),w10⟩
    have:(its++[y]).toArray=its.toArray.push y:=by simp
    rw[this]
    exact pl11
 have st4:tn 0 h4:=T.keep _ _ _ st3' λb _ o e=>hk b o e
 have pl4:h4.PlainList d #[]:=⟨0,hk d _ od3⟩
 have L4:=loop {s3 with heap:=h4} J0' st4 pl4
 exact codeAny_compStart_list L4 (T.self X.A 0 _ _ _ st4 L4)
theorem tK (hc:X.calm=true)(B:Blk X.env.scope scope X.N N' fr)(hi:PI X tg iter wi)
  (hg:∀b,PG (cxB X scope N' b) tg g) (hgk:fE fr g) (ht:∀b,PTs (cxB X scope N' b) ifs tc) (he:∀b,PE (cxB X scope N' b) elt te)
  (hs:∀x,foldedSetIterable iter X.env x=pure x:=by intro _;rfl):PE X (.ListComp elt [⟨tg,iter,ifs,0⟩] scope pos) (rV wi fr g tc te):=by
 intro pins s Z H Q I h
 rw[eval_ListComp]
 refine wpAny_comprehension_free (use:=none) rfl hs (fc (I.freeCells B)) B.kind B.locl (thn (hi pins s Z H _ I h) λv s1 h1=>thn h1 λitv s2 h2=>?_)
 refine hR (RR:=λacc C=>compPost (model X.prog X.w) X.A X.xe none (EP X pins Z Q) acc C) hc B hg hgk ht he h2 ?_
 intro d C v H' s' m' I' hv q hn fC hCd
 refine⟨m',hn,λh'' sb=>?_⟩
 obtain⟨c0,c1,c2,c3,c4,c5⟩:=fC
 exact⟨v,H',I'.turned (it:=C) (t':=s'.toks) (λb o hb e=>(sb.2 b hb).trans e) c0 c1 c3 c4 c5,by rw[hv];rfl,q⟩
theorem lT {i:Nat}{x:Str}{pos' spos:Pos}(hc:X.calm=true)(hN:X.N.Nodup)(hi':X.N[i]?=some x)(hx:X.env.scope.names.lookup x=some .local)(B:Blk X.env.scope scope X.N N' fr)(hi:PI X tg iter wi)
  (hg:∀b,PG (cxB X scope N' b) tg g) (hgk:fE fr g) (ht:∀b,PTs (cxB X scope N' b) ifs tc) (he:∀b,PE (cxB X scope N' b) elt te)
  (hsw:swapsWith (.ListComp elt [⟨tg,iter,ifs,0⟩] scope pos) (some (.Name x pos')) spos.line X.env=pure true:=by rfl)
  (hs:∀x,foldedSetIterable iter X.env x=pure x:=by intro _;rfl):PS X (.Assign [.Name x pos'] (.ListComp elt [⟨tg,iter,ifs,0⟩] scope pos) spos) (uN (rV wi fr g tc te) (jg i)):=by
 intro pins s Z H D I h
 rw[exec_Assign_Name_used _ _ _ _ hsw]
 refine wpAny_bind (wpAny_standAt (wpAny_bind ?_))
 show wpAny _ _ (do let _ ←comprehension (.ListComp elt [⟨tg,iter,ifs,0⟩] scope pos) scope X.env _ (newList []) false (eval iter X.env) (some (assign (.Name x pos') X.env))) _ _ s
 refine wpAny_bind (wpAny_mono (wpAny_comprehension_free (use:=some (assign (.Name x pos') X.env)) (Q:=λ_ s'=>SP X pins D .next s') rfl hs (fc (I.freeCells B)) B.kind B.locl (thn (hi pins s Z H _ I h) λv s1 h1=>thn h1 λitv s2 h2=>?_)) (λ_ s' hq=>wpAny_pure (wpAny_pure hq)) λ_ _ e=>e)
 refine hR (Q:=λv H1=>jg i v Z H1 D.nx) (RR:=λacc C=>compPost (model X.prog X.w) X.A X.xe (some (assign (.Name x pos') X.env)) (λ_ s'=>SP X pins D .next s') acc C) hc B hg hgk ht he h2 ?_
 intro d C v H' s' m' I' hv q hn fC hCd
 obtain⟨c0,c1,c2,c3,c4,c5⟩:=fC
 subst hv
 refine wpAny_assign_Name (jz I' hN hi' (.inl hx) (show RelV (.ref d) (.ref d)from rfl) (λs6 I6 ⟨a,sa,ha⟩=>?_) (.inr hx))
 have haC:C≠a:=by
  rcases ha with z|z
  ·rw[z];exact c1
  ·exact λz'=>c4 x a z z'.symm
 refine⟨m',hn.sameBut sa haC,λh'' sb=>?_⟩
 exact⟨_,H',I6.turned (it:=C) (t':=s6.toks) (λb o hb e=>(sb.2 b hb).trans e) c0 c1 c3 c4 c5,q⟩
end
inductive D where
 | int (i:Int)|str (x:Str)|tup (ds:List D)
mutual
def Rep (K:yF)(H:Hp):D->V->Prop
 | .int i,v=>v=.int i
 | .str x,v=>v=.str x
 | .tup ds,v=>∃a xs,v=.ref a/\SqT K H a xs/\Reps K H ds xs
def Reps (K:yF)(H:Hp):List D->List V->Prop
 | [],xs=>xs=[]
 | d::ds,xs=>∃x r,xs=x::r/\Rep K H d x/\Reps K H ds r
end
mutual
noncomputable def D.depth:D->Nat
 | .int _=>0
 | .str _=>0
 | .tup ds=>aF ds+1
noncomputable def aF:List D->Nat
 | []=>0
 | d::ds=>max d.depth (aF ds)
end
theorem jd {d:D}:∀{ds:List D},d∈ds->d.depth<=aF ds
 | [],h=>by cases h
 | e::ds,h=>by
  rw[aF]
  rcases ycM h with z|z
  ·rw[z];exact DO _ _
  ·exact B3 (jd z) (DA _ _)
theorem Reps.length {K:yF}{H:Hp}:∀{ds:List D} {xs:List V},Reps K H ds xs->xs.length=ds.length
 | [],xs,h=>by rw[Reps]at h;rw[h];rfl
 | d::ds,xs,h=>by
  rw[Reps]at h
  obtain⟨x,r,rfl,_,h3⟩:=h
  rw[BF,BF,h3.length]
theorem Rep.tup_iff {K:yF}{H:Hp}{ds:List D}{v:V}:Rep K H (.tup ds) v ↔ ∃a xs,v=.ref a/\SqT K H a xs/\Reps K H ds xs:=by rw[Rep]
theorem Same.laid {H:Hp}{p:Addr}{o:HO}(hp:H p=none):Same H (upd H p o):=λb u e=>by rw[upd_ne (aT e hp)];exact e
section
variable  {X:Cx}{pins:List (Addr×Obj)}{Z:St}{H:Hp}{s:Shared}
mutual
theorem Rep.inj (I:Inv X pins Z H s):∀{d e:D} {v:V},Rep X.K H d v->Rep X.K H e v->d=e
 | .int i,.int j,v,h,h'=>by simp only[Rep]at h h';subst h;cases h';rfl
 | .int i,.str j,v,h,h'=>by simp only[Rep]at h h';subst h;cases h'
 | .int i,.tup j,v,h,h'=>by simp only[Rep]at h h';subst h;obtain⟨_,_,z,_⟩:=h';cases z
 | .str i,.int j,v,h,h'=>by simp only[Rep]at h h';subst h;cases h'
 | .str i,.str j,v,h,h'=>by simp only[Rep]at h h';subst h;cases h';rfl
 | .str i,.tup j,v,h,h'=>by simp only[Rep]at h h';subst h;obtain⟨_,_,z,_⟩:=h';cases z
 | .tup i,.int j,v,h,h'=>by simp only[Rep]at h h';subst h';obtain⟨_,_,z,_⟩:=h;cases z
 | .tup i,.str j,v,h,h'=>by simp only[Rep]at h h';subst h';obtain⟨_,_,z,_⟩:=h;cases z
 | .tup ds,.tup es,v,h,h'=>by
  simp only[Rep]at h h'
  obtain⟨a,xs,rfl,h2,h3⟩:=h
  obtain⟨b,ys,z,h4,h5⟩:=h'
  cases z
  rw[I.tuple_inj h4 h2]at h5
  rw[Reps.inj I h3 h5]
theorem Reps.inj (I:Inv X pins Z H s):∀{ds es:List D} {xs:List V},Reps X.K H ds xs->Reps X.K H es xs->ds=es
 | [],[],xs,h,h'=>rfl
 | [],e::es,xs,h,h'=>by simp only[Reps]at h h';subst h;obtain⟨_,_,z,_⟩:=h';cases z
 | d::ds,[],xs,h,h'=>by simp only[Reps]at h h';subst h';obtain⟨_,_,z,_⟩:=h;cases z
 | d::ds,e::es,xs,h,h'=>by
  simp only[Reps]at h h'
  obtain⟨x,r,rfl,h2,h3⟩:=h
  obtain⟨y,q,z,h4,h5⟩:=h'
  cases z
  rw[Rep.inj I h2 h4,Reps.inj I h3 h5]
end
open SeqAt in
mutual
theorem pv (I:Inv X pins Z H s):∀(d e:D) {x y:V} {u v:Value} {A:Around},Rep X.K H d x->Rep X.K H e y->RelV x u->RelV y v->A.units+d.depth<cLine->∃b,(b=true↔d=e)/\EqAt A s u v b
 | .int i,.int j,x,y,u,v,A,h,h',r,r',_=>by
  simp only[Rep]at h h';subst h h';obtain⟨t,rfl⟩:=r;obtain⟨t',rfl⟩:=r'
  exact⟨_,by simp,EqAt.int_int i t j t'⟩
 | .int i,.str j,x,y,u,v,A,h,h',r,r',_=>by
  simp only[Rep]at h h';subst h h';obtain⟨t,rfl⟩:=r;obtain⟨t',rfl⟩:=r'
  exact⟨_,by simp,EqAt.int_str i t j t'⟩
 | .str i,.int j,x,y,u,v,A,h,h',r,r',_=>by
  simp only[Rep]at h h';subst h h';obtain⟨t,rfl⟩:=r;obtain⟨t',rfl⟩:=r'
  exact⟨_,by simp,EqAt.str_int i t j t'⟩
 | .str i,.str j,x,y,u,v,A,h,h',r,r',_=>by
  simp only[Rep]at h h';subst h h';obtain⟨t,rfl⟩:=r;obtain⟨t',rfl⟩:=r'
  exact⟨_,by simp,EqAt.str_str i t j t'⟩
 | .int i,.tup j,x,y,u,v,A,h,h',r,r',hu=>by
  simp only[Rep]at h h';subst h;obtain⟨t,rfl⟩:=r
  obtain⟨a,xs,rfl,h2,_⟩:=h'
  cases r'
  obtain⟨its,_,p,_⟩:=I.tuple h2
  exact⟨false,by simp,EqAt.int_tuple i t (show s.heap.IsTuple a its.toArray from p) (Cq (Cg _ _) hu)⟩
 | .str i,.tup j,x,y,u,v,A,h,h',r,r',hu=>by
  simp only[Rep]at h h';subst h;obtain⟨t,rfl⟩:=r
  obtain⟨a,xs,rfl,h2,_⟩:=h'
  cases r'
  obtain⟨its,_,p,_⟩:=I.tuple h2
  exact⟨false,by simp,EqAt.str_tuple i t (show s.heap.IsTuple a its.toArray from p) (Cq (Cg _ _) hu)⟩
 | .tup j,.int i,x,y,u,v,A,h,h',r,r',hu=>by
  simp only[Rep]at h h';subst h';obtain⟨t,rfl⟩:=r'
  obtain⟨a,xs,rfl,h2,_⟩:=h
  cases r
  obtain⟨its,_,p,_⟩:=I.tuple h2
  exact⟨false,by simp,EqAt.tuple_int i t (show s.heap.IsTuple a its.toArray from p) (Cq (Cg _ _) hu)⟩
 | .tup j,.str i,x,y,u,v,A,h,h',r,r',hu=>by
  simp only[Rep]at h h';subst h';obtain⟨t,rfl⟩:=r'
  obtain⟨a,xs,rfl,h2,_⟩:=h
  cases r
  obtain⟨its,_,p,_⟩:=I.tuple h2
  exact⟨false,by simp,EqAt.tuple_str i t (show s.heap.IsTuple a its.toArray from p) (Cq (Cg _ _) hu)⟩
 | .tup ds,.tup es,x,y,u,v,A,h,h',r,r',hu=>by
  by_cases hne:u=v
  ·subst hne
   have hxy:x=y:=r.inj r'
   subst hxy
   exact⟨true,by simp[Rep.inj I h h'],EqAt.same u⟩
  ·simp only[Rep]at h h'
   obtain⟨a,xs,rfl,h2,h3⟩:=h
   obtain⟨b,ys,rfl,h4,h5⟩:=h'
   cases r
   cases r'
   obtain⟨its,rv,p,_⟩:=I.tuple h2
   obtain⟨its',rv',p',_⟩:=I.tuple h4
   have hab:a≠b:=λz=>hne (by rw[z])
   have hu':A.in1.units+aF ds<cLine:=by
    have:A.units+(aF ds+1)<cLine:=by rw[D.depth]at hu;exact hu
    show A.units+1+aF ds<cLine
    omega
   obtain⟨e,he,hE⟩:=eN I ds es (A:=A.in1) h3 h5 rv rv' hu'
   have R:=RcAt.tuples (A:=A) (s:=s) (l:=a) (b:=b) (items:=its.toArray) (items2:=its'.toArray) (e:=e) (show s.heap.IsTuple a its.toArray from p) (show s.heap.IsTuple b its'.toArray from p') (Cq (Cg _ _) hu) (λj h1 h2=>by
    simpa using hE j (its[j]'(by simpa using h1)) (its'[j]'(by simpa using h2)) (by simp) (by simp))
   refine⟨_,?_,EqAt.of_refs hab R⟩
   rw[he.symm]
   have l1:its.toArray.size=ds.length:=by rw[Bv,←rv.length,h3.length]
   have l2:its'.toArray.size=es.length:=by rw[Bv,←rv'.length,h5.length]
   rw[l1,l2]
   simp
theorem eN (I:Inv X pins Z H s):∀(ds es:List D) {xs ys:List V} {us vs:List Value} {A:Around},Reps X.K H ds xs->Reps X.K H es ys->Vals xs us->Vals ys vs->A.units+aF ds<cLine →
  ∃e:Nat->Bool,(((B1 (min ds.length es.length)).all e=true/\ds.length=es.length)↔D.tup ds=D.tup es)/\∀(j:Nat) u v,us[j]?=some u->vs[j]?=some v->EqAt A s u v (e j)
 | [],es,xs,ys,us,vs,A,h,h',r,r',_=>by
  rw[Reps]at h;subst h;cases r
  refine⟨λ_=>true,?_,λj u v e=>by simp at e⟩
  cases es<;>simp
 | d::ds,[],xs,ys,us,vs,A,h,h',r,r',_=>by
  rw[Reps]at h';subst h';cases r'
  exact⟨λ_=>true,by simp,λj u v _ e=>by simp at e⟩
 | d::ds,e::es,xs,ys,us,vs,A,h,h',r,r',hu=>by
  simp only[Reps]at h h'
  obtain⟨x,q,rfl,h2,h3⟩:=h
  obtain⟨y,q',rfl,h4,h5⟩:=h'
  cases r with
  | cons r1 r2=>
   cases r' with
   | cons r3 r4=>
    rw[aF]at hu
    have m1:=DO d.depth (aF ds)
    have m2:=DA d.depth (aF ds)
    obtain⟨b,hb,hB⟩:=pv I d e (A:=A) h2 h4 r1 r3 (by omega)
    obtain⟨f,hf,hF⟩:=eN I ds es (A:=A) h3 h5 r2 r4 (by omega)
    refine⟨λj=>match j with|0=>b|j+1=>f j,?_,λj u v e1 e2=>?_⟩
    ·have hf':((B1 (min ds.length es.length)).all f=true/\ds.length=es.length)↔ds=es:=by rw[hf];simp
     rw[BF,BF,Nat.succ_min_succ,DG,CO,Et]
     simp only[D.tup.injEq,Cu.injEq,By,Nat.add_right_cancel_iff]
     rw[←hf',←hb]
     constructor
     ·rintro⟨⟨a1,a2⟩,a3⟩;exact⟨a1,a2,a3⟩
     ·rintro⟨a1,a2,a3⟩;exact⟨⟨a1,a2⟩,a3⟩
    ·cases j with
     | zero=>simp at e1 e2;subst e1 e2;exact hB
     | succ j=>exact hF j u v (by simpa using e1) (by simpa using e2)
end
end
section
variable  {X:Cx}
def Af (K:yF):R2:=λx y H Q=>∃ds es,Rep K H (.tup ds) x/\Rep K H (.tup es) y/\aF ds<=50/\∀b,(b=true↔ds=es)->Q (.bl b) H
def Al (K:yF):R2:=λx y H Q=>∃ds es,Rep K H (.tup ds) x/\Rep K H (.tup es) y/\aF ds<=50/\∀b,(b=true↔ds≠es)->Q (.bl b) H
theorem wI (hu:X.A.units+64<cLine):OpR X (compareOp .Eq) (Af X.K):=by
 intro pins s Z H x y v u Q I rx ry h
 obtain⟨ds,es,h1,h2,hd,q⟩:=h
 rw[Rep.tup_iff]at h1 h2
 obtain⟨a,xs,rfl,h3,h4⟩:=h1
 obtain⟨b,ys,rfl,h5,h6⟩:=h2
 cases rx
 cases ry
 obtain⟨its,rv,p,_⟩:=I.tuple h3
 obtain⟨its',rv',p',_⟩:=I.tuple h5
 have hu':X.A.in1.units+aF ds<cLine:=by show X.A.units+1+aF ds<cLine;omega
 obtain⟨e,he,hE⟩:=eN I ds es (A:=X.A.in1) h4 h6 rv rv' hu'
 have R:=SeqAt.RcAt.tuples (A:=X.A) (s:=s) (l:=a) (b:=b) (items:=its.toArray) (items2:=its'.toArray) (e:=e) (show s.heap.IsTuple a its.toArray from p) (show s.heap.IsTuple b its'.toArray from p') (by omega) (λj h1 h2=>by
  simpa using hE j (its[j]'(by simpa using h1)) (its'[j]'(by simpa using h2)) (by simp) (by simp))
 refine R X.prog X.w X.xe _ ⟨.bl _,H,I,rfl,q _ ?_⟩
 have l1:its.toArray.size=ds.length:=by rw[Bv,←rv.length,h4.length]
 have l2:its'.toArray.size=es.length:=by rw[Bv,←rv'.length,h6.length]
 have he':((B1 (min ds.length es.length)).all e=true/\ds.length=es.length)↔ds=es:=by rw[he];simp
 rw[l1,l2,←he']
 simp
theorem wO (hu:X.A.units+64<cLine):OpR X (compareOp .NotEq) (Al X.K):=by
 intro pins s Z H x y v u Q I rx ry h
 obtain⟨ds,es,h1,h2,hd,q⟩:=h
 rw[Rep.tup_iff]at h1 h2
 obtain⟨a,xs,rfl,h3,h4⟩:=h1
 obtain⟨b,ys,rfl,h5,h6⟩:=h2
 cases rx
 cases ry
 obtain⟨its,rv,p,_⟩:=I.tuple h3
 obtain⟨its',rv',p',_⟩:=I.tuple h5
 have hu':X.A.in1.units+aF ds<cLine:=by show X.A.units+1+aF ds<cLine;omega
 obtain⟨e,he,hE⟩:=eN I ds es (A:=X.A.in1) h4 h6 rv rv' hu'
 have R:=SeqAt.RcNeAt.tuples (A:=X.A) (s:=s) (l:=a) (b:=b) (items:=its.toArray) (items2:=its'.toArray) (e:=e) (show s.heap.IsTuple a its.toArray from p) (show s.heap.IsTuple b its'.toArray from p') (by omega) (λj h1 h2=>by
  simpa using hE j (its[j]'(by simpa using h1)) (its'[j]'(by simpa using h2)) (by simp) (by simp))
 refine R X.prog X.w X.xe _ ⟨.bl _,H,I,rfl,q _ ?_⟩
 have l1:its.toArray.size=ds.length:=by rw[Bv,←rv.length,h4.length]
 have l2:its'.toArray.size=es.length:=by rw[Bv,←rv'.length,h6.length]
 have he':((B1 (min ds.length es.length)).all e=true/\ds.length=es.length)↔ds=es:=by rw[he];simp
 rw[l1,l2,ne_eq,←not_congr he',B7,←Eb,By,beq_iff_eq]
def Ag (K:yF):R2:=λx y H Q=>∃a b xs ys ds es,x=.ref a/\y=.ref b/\SqL K H a xs/\SqL K H b ys/\Reps K H ds xs/\Reps K H es ys/\aF ds<=50/\∀c,(c=true↔ds=es)->Q (.bl c) H
def Am (K:yF):R2:=λx y H Q=>∃a b xs ys ds es,x=.ref a/\y=.ref b/\SqL K H a xs/\SqL K H b ys/\Reps K H ds xs/\Reps K H es ys/\aF ds<=50/\∀c,(c=true↔ds≠es)->Q (.bl c) H
theorem wJ (hu:X.A.units+64<cLine):OpR X (compareOp .Eq) (Ag X.K):=by
 intro pins s Z H x y v u Q I rx ry h
 obtain⟨a,b,xs,ys,ds,es,rfl,rfl,h3,h5,h4,h6,hd,q⟩:=h
 cases rx
 cases ry
 obtain⟨its,rv,p,_⟩:=I.list h3
 obtain⟨its',rv',p',_⟩:=I.list h5
 have hu':X.A.in1.units+aF ds<cLine:=by show X.A.units+1+aF ds<cLine;omega
 obtain⟨e,he,hE⟩:=eN I ds es (A:=X.A.in1) h4 h6 rv rv' hu'
 have l1:its.toArray.size=ds.length:=by rw[Bv,←rv.length,h4.length]
 have l2:its'.toArray.size=es.length:=by rw[Bv,←rv'.length,h6.length]
 have he':((B1 (min ds.length es.length)).all e=true/\ds.length=es.length)↔ds=es:=by rw[he];simp
 by_cases hl:ds.length=es.length
 ·have R:=SeqAt.RcAt.lists (A:=X.A) (s:=s) (l:=a) (b:=b) (items:=its.toArray) (items2:=its'.toArray) (e:=e) p.isList p'.isList (by rw[l1,l2];exact hl) (by omega) (λj h1 h2=>by
   simpa using hE j (its[j]'(by simpa using h1)) (its'[j]'(by simpa using h2)) (by simp) (by simp))
  refine R X.prog X.w X.xe _ ⟨.bl _,H,I,rfl,q _ ?_⟩
  rw[l1,←he',←hl,Eu]
  simp
 ·have R:=SeqAt.RcAt.lists_lengths (A:=X.A) (s:=s) (l:=a) (b:=b) (items:=its.toArray) (items2:=its'.toArray) p.isList p'.isList (by rw[l1,l2];simpa using hl) (by omega)
  refine R X.prog X.w X.xe _ ⟨.bl _,H,I,rfl,q _ ?_⟩
  constructor
  ·intro z;cases z
  ·intro z;exact absurd (by rw[z]) hl
theorem wP (hu:X.A.units+64<cLine):OpR X (compareOp .NotEq) (Am X.K):=by
 intro pins s Z H x y v u Q I rx ry h
 obtain⟨a,b,xs,ys,ds,es,rfl,rfl,h3,h5,h4,h6,hd,q⟩:=h
 cases rx
 cases ry
 obtain⟨its,rv,p,_⟩:=I.list h3
 obtain⟨its',rv',p',_⟩:=I.list h5
 have hu':X.A.in1.units+aF ds<cLine:=by show X.A.units+1+aF ds<cLine;omega
 obtain⟨e,he,hE⟩:=eN I ds es (A:=X.A.in1) h4 h6 rv rv' hu'
 have l1:its.toArray.size=ds.length:=by rw[Bv,←rv.length,h4.length]
 have l2:its'.toArray.size=es.length:=by rw[Bv,←rv'.length,h6.length]
 have he':((B1 (min ds.length es.length)).all e=true/\ds.length=es.length)↔ds=es:=by rw[he];simp
 by_cases hl:ds.length=es.length
 ·have R:=SeqAt.RcNeAt.lists (A:=X.A) (s:=s) (l:=a) (b:=b) (items:=its.toArray) (items2:=its'.toArray) (e:=e) p.isList p'.isList (by rw[l1,l2];exact hl) (by omega) (λj h1 h2=>by
   simpa using hE j (its[j]'(by simpa using h1)) (its'[j]'(by simpa using h2)) (by simp) (by simp))
  refine R X.prog X.w X.xe _ ⟨.bl _,H,I,rfl,q _ ?_⟩
  rw[l1,ne_eq,←not_congr he',←hl,Eu]
  simp
 ·have R:=SeqAt.RcNeAt.lists_lengths (A:=X.A) (s:=s) (l:=a) (b:=b) (items:=its.toArray) (items2:=its'.toArray) p.isList p'.isList (by rw[l1,l2];simpa using hl) (by omega)
  refine R X.prog X.w X.xe _ ⟨.bl _,H,I,rfl,q _ ?_⟩
  constructor
  ·intro _ z;exact absurd (by rw[z]) hl
  ·intro _;rfl
open Classical in
noncomputable def isD (K:yF) (H:Hp) (d:D) (u:Value):Bool:=decide (∃v,RelV v u/\Rep K H d v)
open Classical in
theorem mR {K:yF}{H:Hp}{d:D}{u:Value}:isD K H d u=true ↔ ∃v,RelV v u/\Rep K H d v:=by
 unfold isD
 exact decide_eq_true_iff
theorem jL {pins:List (Addr×Obj)}{Z:St}{H:Hp}{s:Shared}(I:Inv X pins Z H s){d:D}:∀{ds:List D} {xs:List V} {us:List Value},Reps X.K H ds xs->Vals xs us->(us.any (isD X.K H d)=true↔d∈ds)
 | [],xs,us,h,r=>by rw[Reps]at h;subst h;cases r;simp
 | e::ds,xs,us,h,r=>by
  rw[Reps]at h
  obtain⟨x,q,rfl,h2,h3⟩:=h
  cases r with
  | @cons _ u0 _ us0 r1 r2=>
   rw[Du,DN,jL I h3 r2,BT]
   have:isD X.K H d u0=true↔d=e:=by
    rw[mR]
    constructor
    ·rintro⟨v,rv,hv⟩
     rw[rv.inj r1]at hv
     exact Rep.inj I hv h2
    ·intro z
     subst z
     exact⟨x,r1,h2⟩
   rw[this]
theorem h9 {pins:List (Addr×Obj)}{Z:St}{H:Hp}{s:Shared}(I:Inv X pins Z H s){A:Around}{d:D}{x:V}{v:Value}(hx:Rep X.K H d x)(rx:RelV x v){ds:List D}(hu:A.units+aF ds<cLine) :
  ∀{es:List D} {xs:List V} {us:List Value},(∀e∈es,e∈ds)->Reps X.K H es xs->Vals xs us->∀u∈us,SeqAt.EqAt A s u v (isD X.K H d u)
 | [],xs,us,_,h,r=>by rw[Reps]at h;subst h;cases r;intro u hu;cases hu
 | e::es,xs,us,hs,h,r=>by
  rw[Reps]at h
  obtain⟨y,q,rfl,h2,h3⟩:=h
  cases r with
  | cons r1 r2=>
   intro u hu'
   rcases ycM hu' with z|z
   ·subst z
    obtain⟨b,hb,hB⟩:=pv I e d (A:=A) h2 hx r1 rx (Cq (DV (jd (hs e ymS)) _) hu)
    have:isD X.K H d u=b:=by
     have h5:isD X.K H d u=true↔e=d:=by
      rw[mR]
      constructor
      ·rintro⟨w,rw',hw⟩
       rw[rw'.inj r1]at hw
       exact(Rep.inj I hw h2).symm
      ·intro z
       subst z
       exact⟨y,r1,h2⟩
     rw[Cp,h5,hb]
    rw[this]
    exact hB
   ·exact h9 I hx rx hu (λe' h'=>hs e' (ymC _ h')) h3 r2 u z
def Ah (K:yF)(neg:Bool):R2:=λx y H Q=>∃p xs d ds,y=.ref p/\(SqL K H p xs∨SqT K H p xs)/\Rep K H d x/\Reps K H ds xs/\aF ds<=50/\∀b,(b=true↔(if neg=true then d∉ds else d∈ds))->Q (.bl b) H
theorem wL (hu:X.A.units+64<cLine):OpR X (compareOp .In) (Ah X.K false):=by
 intro pins s Z H x y v u Q I rx ry h
 obtain⟨p,xs,d,ds,rfl,hq,hx,hs,hd,q⟩:=h
 cases ry
 have hu':X.A.in1.units+aF ds<cLine:=by show X.A.units+1+aF ds<cLine;omega
 rcases hq with hq|hq
 ·obtain⟨its,rv,pl,_⟩:=I.list hq
  refine SeqAt.in_listAt (isD X.K H d) pl.isList (λy hy=>h9 I hx rx hu' (λ_ z=>z) hs rv y (by simpa using hy)) ⟨.bl _,H,I,rfl,q _ ?_⟩
  rw[if_neg (by decide),←jL I hs rv];simp
 ·obtain⟨its,rv,pl,_⟩:=I.tuple hq
  refine SeqAt.in_tupleAt (isD X.K H d) (show s.heap.IsTuple p its.toArray from pl) (λy hy=>h9 I hx rx hu' (λ_ z=>z) hs rv y (by simpa using hy)) ⟨.bl _,H,I,rfl,q _ ?_⟩
  rw[if_neg (by decide),←jL I hs rv];simp
def lv (i j:Int):Prop:=0<j/\j<2^64
theorem oj:OpR X (binaryOp .FloorDiv) (rI lv λi j=>.int (i / j)):=opI λi j _ _ _ _ _ hc q=>by
 have h1:(0:Int)<j:=hc.1
 have h2:j<2^64:=hc.2
 refine floordiv_int (by omega) (by rw[Int.fdiv_eq_ediv_of_nonneg i (by omega)];exact q) (.inl (PyProof.noPylong_of_log2 ?_))
 have h3:j.natAbs<2^64:=by omega
 have h4:j.natAbs≠0:=by omega
 have:=(EF h4).mpr h3
 omega
theorem xu {tg e:Expr}{te:TE}(he:PE X e te):PI X tg e (λZ H R=>te Z H λx H1=>∃z:Str,x=.str z/\R ⟨λi _=>i<z.cps.size,λi H y H'=>H'=H/\∃c,z.cps[i]?=some c/\y=.str ⟨#[c]⟩,λi _=>z.cps.size<=i⟩ H1):=by
 intro pins s Z H R I h
 refine thn (he pins s Z H _ I h) λv s1 ⟨x,H1,I1,r1,q1⟩=>?_
 obtain⟨z,rfl,q⟩:=q1
 obtain⟨t,rfl⟩:=r1
 have main:∀(n:String) (o:Obj),(["enumerate","zip","dict_itemiterator","dict_reverseitemiterator","odict_iterator","itertools.zip_longest","itertools.pairwise"].contains n=false) →
   o={cls:=.type n,data:=.fields #[.str z t,.int 0 0]}->(∀A':Around,A'.handled=none->Walks X.prog X.w A' s1.heap.objs.size [s1.heap.objs.size] [s1.heap.objs.size] z.cps.size (SignAt z) (λi h=>h.IsStrIter s1.heap.objs.size n z t i)) →
   (∀(A:Around) (i:Nat) (s:Shared) (Q:Value->Shared->Prop) (E:Value->Shared->Prop),s.heap.IsStrIter s1.heap.objs.size n z t i->Q (.ref s1.heap.objs.size) s->wpAny (model X.prog X.w) A (pyIter (.ref s1.heap.objs.size)) Q E s) →
   PIE X pins Z tg R (.ref s1.heap.objs.size) {s1 with heap:=s1.heap.push o}:=by
  intro n o hn ho W hself
  subst ho
  refine⟨s1.heap.objs.size,[s1.heap.objs.size],λi h=>h.IsStrIter s1.heap.objs.size n z t i/\i<=z.cps.size,_,H1,rfl,I1.kept (t':=s1.toks) λb o e=>Heap.get?_push_of_some _ e,?_,⟨⟨_,Heap.get?_push_size _ rfl,rfl,rfl⟩,De _⟩,λb hb=>?_,q⟩
  ·refine⟨by simp,λi h st b hb=>?_,λi h h' st k=>⟨?_,st.2⟩,?_,?_,λA i s Q E st h=>?_⟩
   ·have e:b=s1.heap.objs.size:=by simpa using hb
    subst e
    obtain⟨o,e,c,d⟩:=st.1
    exact⟨o,e,λv z=>by rw[d]at z;cases z⟩
   ·obtain⟨o,ho,r⟩:=st.1
    exact⟨o,k _ (by simp) o ho,r⟩
   ·intro Y hP hw hK hc i pins' s' Z' H' E I' hf st hg
    obtain⟨f0,f1,f2,f3,f4,f5⟩:=hf s1.heap.objs.size (by simp)
    refine(W Y.A (I'.ok.hd hc)).item i s' _ _ hg st.1 λv h' tk hv st' kk=>?_
    obtain⟨c,u,hc',rfl⟩:=hv
    have I1':Inv Y pins' Z' H' {s' with heap:=h',toks:=tk}:=I'.turned (λb o hb e=>kk b o (by simpa using hb) e) f0 f1 f3 f4 f5
    obtain⟨o,e,cl,d⟩:=id st'
    exact⟨_,rfl,mP (s:={s' with heap:=h',toks:=tk}) e cl d hn ⟨.str ⟨#[c]⟩,H',I1',⟨u,rfl⟩,⟨rfl,c,hc',rfl⟩,⟨st',hg⟩,λb hb=>(hf b hb).1⟩⟩
   ·intro Y hP hw hK hc i pins' s' Z' H' E I' hf st hg
    obtain⟨f0,f1,f2,f3,f4,f5⟩:=hf s1.heap.objs.size (by simp)
    have hi:i=z.cps.size:=Nat.le_antisymm st.2 hg
    refine(W Y.A (I'.ok.hd hc)).done s' _ _ (hi▸st.1) λh' tk kk=>⟨rfl,?_⟩
    exact I'.turned (λb o hb e=>kk b o (by simpa using hb) e) f0 f1 f3 f4 f5
   ·exact hself A i s Q E st.1 h
  ·have e:b=s1.heap.objs.size:=by simpa using hb
   subst e
   exact I1.fpOk (Bz _) (I1.hok.fresh (Bz _))
 cases ha:z.cps.all (· < 128)
 ·exact wpAny_pyIter_wide ha (main "str_iterator" _ (by decide) rfl (λA' hA=>Walks.strWide hA _ z t) λA i s Q E st h=>wpAny_pyIter_striter_wide st h)
 ·exact wpAny_pyIter_ascii ha (main "str_ascii_iterator" _ (by decide) rfl (λA' hA=>Walks.strAscii hA _ z t) λA i s Q E st h=>wpAny_pyIter_striter_ascii st h)
end
noncomputable abbrev sL (z:Str):List Nat:=z.cps.toList
noncomputable abbrev oL (l:List Nat):Str:=⟨l.toArray⟩
theorem cK (l:List Nat):sL (oL l)=l:=rfl
theorem p7 (z:Str):oL (sL z)=z:=by cases z;rfl
theorem cZ (z:Str):z.length=(sL z).length:=by unfold Str.length sL;rw[Co]
theorem iM (x y:Str):sL (x++y)=sL x++sL y:=by
 show(x.cps++y.cps).toList=_
 rw[Array.toList_append]
theorem ko {x y:Str}(h:sL x=sL y):x=y:=by rw[←p7 x,h,p7]
noncomputable def cb {α:Type} (xs:List α) (lo hi:Option Int):List α:=(xs.drop (HT.sIx xs.length 0 lo)).take (HT.sIx xs.length xs.length hi-HT.sIx xs.length 0 lo)
theorem lm (lo hi:Option Int)(n:Nat):Builtin.Str.strSliceIndices lo hi 1 n=(B1 (HT.sIx n n hi-HT.sIx n 0 lo)).map (HT.sIx n 0 lo + ·):=by
 have h1:(1:Int)>0:=by omega
 have clip:∀(v:Option Int) (d:Nat),(match v with|none=>(d:Int)|some i=>(if(1:Int)>0 then max 0 (min (if i<0 then i+(n:Int)else i) (n:Int))else max (-1) (min (if i<0 then i+(n:Int)else i) ((n:Int)-1))))=((HT.sIx n d v:Nat):Int):=by
  intro v d
  cases v with
  | none=>rfl
  | some i=>
   show(if(1:Int)>0 then max 0 (min (if i<0 then i+(n:Int)else i) (n:Int))else _)=(((if i<0 then(i+(n:Int)).toNat else min i.toNat n):Nat):Int)
   rw[if_pos h1]
   by_cases hi:i<0
   ·simp only[if_pos hi];omega
   ·simp only[if_neg hi];omega
 have e:Builtin.Str.strSliceIndices lo hi 1 n=sliceRange ((HT.sIx n 0 lo:Nat):Int) ((HT.sIx n n hi:Nat):Int) 1:=by
  unfold Builtin.Str.strSliceIndices
  simp only[h1,if_true]
  have c1:=clip lo 0
  have c2:=clip hi n
  simp only[h1,if_true]at c1 c2
  rw[←c1,←c2]
  rfl
 rw[e,sliceRange_one]
theorem jI (x:Str)(lo hi:Option Int):Txt.slice x lo hi=oL (cb (sL x) lo hi):=by
 have hn:x.length=(sL x).length:=cZ x
 have key:((Builtin.Str.strSliceIndices lo hi 1 x.length).filterMap (x.cps[·]?))=cb (sL x) lo hi:=by
  rw[lm,hn]
  unfold cb
  exact pick_run x.cps _ _
 unfold Txt.slice
 split
 ·rename_i h
  have h2:(Builtin.Str.strSliceIndices lo hi 1 x.length).length=x.length:=by
   simp only[By]at h
   simpa using h.2
  have h3:(cb (sL x) lo hi)=sL x:=by
   unfold cb
   rw[lm,Bw,List.length_range,hn]at h2
   have a1:=HT.sIx_le (sL x).length (sL x).length (Bz _) hi
   have a2:HT.sIx (sL x).length 0 lo=0∨(sL x).length=0:=by omega
   rcases a2 with a2|a2
   ·rw[a2,Ek]
    exact B6 (by omega)
   ·rw[CT a2]
    simp
  rw[h3,p7]
 ·rw[key]
section
variable  {X:Cx}
theorem yv:SlR X (λx lo hi H Q=>∃z,x=.str z/\z.length<=sizeLine/\Q (.str (oL (cb (sL z) lo hi))) H):=by
 intro pins s Z H x v vl vu lo hi sl Q I rx hs pl pu h
 obtain⟨z,rfl,hz,q⟩:=h
 obtain⟨t,rfl⟩:=rx
 have hp:∀{v:Value} {o:Option Int},IsPart v o->∃p:Option (Int×Tok),v=partValue p/\p.map (·.1)=o:=λ{v o} p=>by
  cases p with
  | none=>exact⟨none,rfl,rfl⟩
  | int i t=>exact⟨some (i,t),rfl,rfl⟩
 obtain⟨l,rfl,rfl⟩:=hp pl
 obtain⟨u,rfl,rfl⟩:=hp pu
 refine⟨"str",_,F.slot_str_getitem.lookup,typeIs_str _ _ _,?_⟩
 refine wpAny_getItem_str_slice (l:=l) (u:=u) (st:=none) hs rfl ?_
 have e:sliceMade z t l u none=if((1:Int)==1&&(Builtin.Str.strSliceIndices (l.map (·.1)) (u.map (·.1)) 1 z.length).length==z.length)=true then Made.val (.str z t)else Made.str ⟨((Builtin.Str.strSliceIndices (l.map (·.1)) (u.map (·.1)) 1 z.length).filterMap (z.cps[·]?)).toArray⟩:=rfl
 rw[e]
 refine post_val_or_str ⟨B3 (Txt.slice_le z _ _) hz,λt' k=>?_⟩
 refine⟨.str (Txt.slice z (l.map (·.1)) (u.map (·.1))),H,I.tok k,⟨t',rfl⟩,?_⟩
 rw[jI]
 exact q
def rSl (K:yF):V->Option Int->Option Int->Hp->VK->Prop:=λx lo hi H Q=>Ap K x lo hi H Q∨Ao K x lo hi H Q ∨ ∃z,x=.str z/\z.length<=sizeLine/\Q (.str (oL (cb (sL z) lo hi))) H
theorem lZ {zs:List Str}:∀{us:List Value},Vals (zs.map V.str) us->StrsAre us zs:=by
 induction zs with
 | nil=>intro us r;rw[CL]at r;cases r;exact .nil
 | cons n ns ih=>
  intro us r
  rw[Bt]at r
  cases r with
  | cons r1 r2=>
   obtain⟨t,e⟩:=r1
   subst e
   exact .cons n t (ih r2)
theorem sZ:MtR X "str.join" (λx vs H Q=>∃z a zs,x=.str z/\vs=[.ref a]/\SqL X.K H a (zs.map V.str)/\(zs.map (·.length)).sum+zs.length*z.length<=16777216/\Q (.str (Txt.join z zs)) H):=by
 intro pins s Z H x xs v us Q I rx rv h
 obtain⟨z,a,zs,rfl,rfl,hq,hz,q⟩:=h
 obtain⟨t,rfl⟩:=rx
 obtain⟨u,rfl,ru⟩:=dN rv
 cases ru
 obtain⟨its,r,p,_⟩:=I.list hq
 exact join_list p.isList (by simpa using lZ r) hz λt' k=>⟨.str (Txt.join z zs),H,I.tok k,⟨t',rfl⟩,q⟩
theorem nR (zs:List Str):sL (Txt.join (oL []) zs)=(zs.map sL).flatten:=by
 have key:∀(zs:List Str) (acc:Array Nat),(zs.foldl (λacc p=>acc++(oL []).cps++p.cps) acc).toList=acc.toList++(zs.map sL).flatten:=by
  intro zs
  induction zs with
  | nil=>intro acc;simp
  | cons z zs ih=>
   intro acc
   rw[DM,ih]
   simp
 cases zs with
 | nil=>rfl
 | cons z zs=>
  show(zs.foldl (λacc p=>acc++(oL []).cps++p.cps) z.cps).toList=_
  rw[key]
  simp
theorem op_mulS:OpR X (binaryOp .Mult) (λx y H Q=>∃z n,x=.str z/\y=.int n/\1<=n/\n<=1000/\z.length<=1000/\Q (.str (oL (Bu n.toNat (sL z)).flatten)) H):=by
 intro pins s Z H x y v u Q I rx ry h
 obtain⟨z,n,rfl,rfl,h1,h2,h3,q⟩:=h
 obtain⟨t,rfl⟩:=rx
 obtain⟨t',rfl⟩:=ry
 have hf:∀(m:Nat) (acc:Array Nat),(Bu m z.cps).foldl (· ++ ·) acc=acc++(Bu m (sL z)).flatten.toArray:=by
  intro m
  induction m with
  | zero=>intro acc;simp
  | succ m ih=>intro acc;rw[BY,DM,ih,BY,Cn];apply Array.ext';simp
 have hlen:z.length*n.toNat<=1000*1000:=DS h3 (by omega)
 have e3:¬ n<1:=by omega
 refine P.mul_str ?_ ?_ ?_ ?_
 ·rw[decide_eq_false (by omega),decide_eq_false (by omega)];rfl
 ·intro _ _
  have a1:n*9223372036854775<=2^63-1:=by omega
  have:(9223372036854775:Int)<=(2^63-1) / n:=(Int.le_ediv_iff_mul_le (by omega)).mpr (by omega)
  omega
 ·intro _ _
  unfold Builtin.Str.tooLong
  exact decide_eq_false (by rw[sizeLine_eq];omega)
 ·rw[if_neg e3]
  refine post_val_or_str ?_
  have hv:(if(n==1||z.length==0)=true then z else(⟨(Bu n.toNat z.cps).foldl (· ++ ·) #[]⟩:Str))=oL (Bu n.toNat (sL z)).flatten:=by
   split
   ·rename_i hc
    rcases Bool.or_eq_true_iff.mp hc with c|c
    ·have:n=1:=by simpa using c
     subst this
     show z=oL (Bu 1 (sL z)).flatten
     simp only[BY,List.replicate_zero,Cn,List.flatten_nil,B4]
    ·have h0:(sL z).length=0:=by rw[←cZ];simpa using c
     have h00:sL z=[]:=CT h0
     rw[h00]
     apply ko
     rw[h00,cK]
     symm
     exact List.eq_nil_iff_forall_not_mem.mpr λa ha=>by
      obtain⟨l,hl,hal⟩:=Ec.mp ha
      rw[List.eq_of_mem_replicate hl]at hal
      cases hal
   ·rw[hf];simp
  rw[hv]
  refine⟨?_,λt2 k=>⟨.str (oL (Bu n.toNat (sL z)).flatten),H,I.tok k,⟨t2,rfl⟩,q⟩⟩
  rw[cZ,cK,fN,←cZ,sizeLine_eq,D6]
  omega
theorem gl:fillsNumberSlot (.type "tuple") "mul" = pure false:=
 PySem.fillsNumberSlot_seq (id:="tuple.__mul__") (r:=some (.builtin "tuple.__rmul__")) F.slot_tuple_mul.lookup (by decide +kernel) F.slot_tuple_rmul.lookup (by decide +kernel)
theorem kj:seqRepeat? (.type "tuple")=pure (some (.builtin "tuple.__mul__")):=by
 unfold seqRepeat?
 rw[Ed (T:="tuple") (name:="__mul__") (id:="tuple.__mul__") F.slot_tuple_mul.lookup (by decide +kernel),Ed (T:="tuple") (name:="__rmul__") (id:="tuple.__rmul__") F.slot_tuple_rmul.lookup (by decide +kernel)]
 rfl
theorem ie (a:Int)(t:Tok)(l:Addr)(items:Array Value)(n:Nat)(dd:Option Addr)(sl:Array (Option Value)) :
  Meets (Builtin.«int.__rmul__» ⟨[.int a t,.ref l],[]⟩) (λ_ R s=>s.heap.get? l=some {cls:=.type "tuple",dict:=dd,data:=.seq items n,slots:=sl}/\R (.ok (.ret Value.notImplemented)) s):=
 .of_wp λprog w A R s h=>by obtain⟨hp,g,d,tk,os⟩:=s;obtain⟨hl,h⟩:=h;wp_walk;exact⟨_,rfl,h⟩
theorem gT (l:Addr)(items:Array Value)(n:Nat)(dd:Option Addr)(sl:Array (Option Value))(k:Int)(t:Tok)(h1:2<=k)(h2:k<=1000)(hne:items.isEmpty=false)(hz:items.size<=1000) :
  Meets (Builtin.«tuple.__mul__» ⟨[.ref l,.int k t],[]⟩) (λ_ R s=>s.heap.get? l=some {cls:=.type "tuple",dict:=dd,data:=.seq items n,slots:=sl} ∧
   R (.ok (.ret (.ref s.heap.objs.size))) {s with heap:=s.heap.push {cls:=.type "tuple",data:=.seq ((Bu k.toNat items).foldl (· ++ ·) #[])}}):=
 .of_wp λprog w A R s h=>by
  obtain⟨hp,g,d,tk,os⟩:=s;obtain⟨hl,h⟩:=h
  have c1:¬ (decide (k < -(2^63))||decide (k≥2^63))=true:=by rw[decide_eq_false (by omega),decide_eq_false (by omega)];decide
  have c2:¬ (items.isEmpty||k==1)=true:=by rw[hne];simp;omega
  have c3:¬ (decide (k<=0)||items.isEmpty)=true:=by rw[hne,decide_eq_false (by omega)];decide
  have c0:((items.size:Nat):Int)*k<=1000*1000:=Int.mul_le_mul (by omega) h2 (by omega) (by omega)
  have c4:¬ ((items.size:Int)*k>(2^63-1) / 8):=by omega
  have c5:¬ Builtin.Tuple.tupleTooMany ((items.size:Int)*k)=true:=by unfold Builtin.Tuple.tupleTooMany;simp;rw[sizeLine_eq];omega
  have f1:=AutoSeq1.idx_int
  wp_walk using AutoSeq1.wpAny_loadPart' hl
  rw[if_neg c1]
  refine wpAny_bind (tupleItemsOf_ ⟨_,hl,rfl,n,rfl⟩ ?_)
  dsimp only
  rw[if_neg c2,if_neg c3,if_neg c4,if_neg c5]
  have hsz:sizeOk (.seq ((Bu k.toNat items).foldl (· ++ ·) #[])):=by
   show((Bu k.toNat items).foldl (· ++ ·) #[]).size<=sizeLine
   have f0:=dg items.toList k.toNat []
   have e0:(Bu k.toNat items.toList.toArray).foldl (· ++ ·) #[]=(Bu k.toNat items.toList).flatten.toArray:=by simpa using f0
   have e1:items.toList.toArray=items:=by simp
   rw[e1]at e0
   rw[e0,Bv,fN,Co,sizeLine_eq]
   have a1:k.toNat*items.size<=1000*1000:=DS (by omega) hz
   omega
  first
   | exact wpAny_bind (m:=Builtin.Tuple.tupleExact _) (wpAny_newObj_type (wpAny_pure ⟨_,rfl,h⟩) hsz)
   | exact wpAny_bind (wpAny_bind (m:=Builtin.Tuple.tupleExact _) (wpAny_newObj_type (wpAny_pure ⟨_,rfl,h⟩) hsz))
def vB (K:yF):R2:=λx y H Q=>∃l k xs,x=.ref l/\y=.int k/\SqT K H l xs/\xs≠[]/\xs.length<=1000/\1<=k/\k<=1000 ∧
 (k=1->Q (.ref l) H)/\(2<=k->∀p,H p=none->Q (.ref p) (upd H p (.tup (Bu k.toNat xs).flatten)))
theorem tD:OpR X (binaryOp .Mult) (vB X.K):=by
 intro pins s Z H x y v u Q I rx ry h
 obtain⟨l,k,xs,rfl,rfl,hH,hne,hlen,h1,h2,q1,q2⟩:=h
 cases rx
 obtain⟨t,rfl⟩:=ry
 obtain⟨its,r,p,hz⟩:=I.tuple (X:=X) hH
 obtain⟨⟨cls,dd,data,sl⟩,ho,hc,n,hd⟩:=id p
 simp only at hc hd
 subst hc hd
 have hl:=r.length
 have hne':its.toArray.isEmpty=false:=by
  cases its with
  | nil=>cases r;exact absurd rfl hne
  | cons a r'=>rfl
 have hTy:s.TypeIs (.ref l) "tuple" :=⟨_,ho,rfl⟩
 refine wpAny_binaryOp_repeat_ref (T:="tuple") (U:="int") (by decide) hTy (λs'=>typeIs_int s' k t) gl F.fills_int_mul F.slot_int_rmul kj F.slot_int_index.lookup
  (call_meets F.slot_int_rmul (typeIs_int s k t) F.entry_int_rmul (F.args_int_rmul_2 _ _) (ie k t l its.toArray n dd sl)
   ⟨ho,rfl,hTy,?_⟩)
 by_cases hk:k=1
 ·subst hk
  refine wpAny_call_entry F.slot_tuple_mul hTy F.entry_tuple_mul ?_ (F.args_tuple_mul_2 _ _)
  have f1:=AutoSeq1.idx_int
  have c1:¬ (decide ((1:Int) < -(2^63))||decide ((1:Int)≥2^63))=true:=by decide
  obtain⟨hp,g,d,tk,os⟩:=s
  wp_walk using AutoSeq1.wpAny_loadPart' ho
  exact⟨_,rfl,.ref l,H,I,rfl,q1 rfl⟩
 ·refine call_meets F.slot_tuple_mul hTy F.entry_tuple_mul (F.args_tuple_mul_2 _ _) (gT l its.toArray n dd sl k t (by omega) h2 hne' (by rw[Bv,←hl];exact hlen)) ⟨ho,?_⟩
  have e0:(Bu k.toNat its.toArray).foldl (· ++ ·) #[]=(Bu k.toNat its).flatten.toArray:=by simpa using dg its k.toNat []
  rw[e0]
  refine⟨.ref s.heap.objs.size,_,I.laid (t':=s.toks) (o:=.tup (Bu k.toNat xs).flatten) (λb ob q=>Heap.get?_push_of_some _ q) (Bz _) ?_,rfl,q2 (by omega) _ (I.hok.fresh (Bz _))⟩
  refine⟨?_,_,r.rep k.toNat,IsTupN.new _ _⟩
  rw[fN,sizeLine_eq]
  have a1:k.toNat*xs.length<=1000*1000:=DS (by omega) hlen
  omega
end
section
variable  {X:Cx}
theorem l3 {A:Around}{bs:List Bool}:TruthOf X.prog X.w A (λi v=>(bs.map Value.bool)[i]?=some v) (λi=>bs.getD i false):=by
 intro i v s Q E hv hq
 rw[BD]at hv
 cases q:bs[i]? with
 | none=>rw[q]at hv;cases hv
 | some b=>
  rw[q]at hv
  cases hv
  have e:bs.getD i false=b:=by rw[BO,q];rfl
  simp only[e]at hq
  exact wpAny_truthy_bool hq
theorem AI {bs:List Bool}:∀{us:List Value},Vals (bs.map V.bl) us->us=bs.map Value.bool:=by
 induction bs with
 | nil=>intro us r;rw[CL]at r;cases r;rfl
 | cons b bs ih=>
  intro us r
  rw[Bt]at r
  cases r with
  | cons r1 r2=>rw[ih r2,Bt];cases r1;rfl
theorem range_getD (bs:List Bool):(B1 bs.length).all (λi=>bs.getD i false)=bs.all id:=by
 have:(B1 bs.length).map (λi=>bs.getD i false)=bs:=PyProof.Rows.range_getD bs false
 conv=>rhs;rw[←this]
 rw[Et]
 rfl
theorem o8 (hc:X.calm=true):CallR X (.builtin "all") (λxs H Q=>∃(a:Addr) (bs:List Bool),xs=[.ref a]/\SqL X.K H a (bs.map V.bl)/\Q (.bl (bs.all id)) H):=by
 intro pins s Z H xs us Q I rv h
 obtain⟨a,bs,rfl,hq,q⟩:=h
 obtain⟨u,rfl,ru⟩:=dN rv
 cases ru
 obtain⟨its,r,p,hz⟩:=I.list hq
 have e:=AI r
 subst e
 have hne:a≠s.heap.objs.size:=by
  obtain⟨o,n,e,_⟩:=p
  exact BG (Heap.lt_size e)
 refine call_all_walk (wpAny_pyIter_list p.isList ?_)
 refine⟨s.heap.objs.size,_,_,_,_,_,λi=>bs.getD i false,rfl,Walks.list (A:=X.A.in1) (show X.A.in1.handled=none from I.ok.hd hc) s.heap.objs.size a hne (bs.map Value.bool).toArray,⟨⟨_,Heap.get?_push_size _ rfl,rfl,rfl⟩,?_⟩,?_,λh' tk hk=>?_⟩
 ·exact p.isList.at λo e=>Heap.get?_push_of_some _ e
 ·intro i v s Q E hv hq
  exact l3 (bs:=bs) i v s Q E (by simpa using hv) hq
 ·have I1:Inv X pins Z H {s with heap:=h',toks:=tk}:=I.kept λb o e=>hk b o (λz=>absurd (ysM z) (BG (Heap.lt_size e))) (Heap.get?_push_of_some _ e)
  refine⟨.bl _,H,I1,rfl,?_⟩
  have:(B1 (bs.map Value.bool).toArray.size).all (λi=>bs.getD i false)=bs.all id:=by rw[Bv,Bw];exact range_getD bs
  rw[this]
  exact q
def pE (to:TE)(tl th:TO):TG:=λv Z H Q=>to Z H λo H1=>tl Z H1 λl H2=>th Z H2 λu H3=>∃p b xs ys a c,o=.ref p/\v=.ref b/\l=some a/\u=some c/\H3 p=some (.lst xs)/\H3 b=some (.lst ys)/\p≠b/\0<=a/\a<=c/\c<=xs.length/\xs.length+ys.length<=sizeLine ∧
 Q Z (upd H3 p (.lst (xs.take a.toNat++ys++xs.drop c.toNat)))
theorem qw {o:Expr}{lo hi:Option Expr}{to:TE}{tl th:TO}{p2 pos:Pos}(ho:PE X o to)(hl:PO X lo tl)(hu:PO X hi th)
  (ha:∀v,assign (.Subscript o (.Slice lo hi none p2) pos) X.env v=(do
   let ov ←holding [v] (eval o X.env)
   let iv ←holding [v,ov] (eval (.Slice lo hi none p2) X.env)
   standAt pos
   holding [v,ov,iv] (setItem ov iv v)
   release [iv,v,ov] []):=by intro _;rfl):PG X (.Subscript o (.Slice lo hi none p2) pos) (pE to tl th):=by
 intro pins s Z H v u Q I r h
 rw[ha]
 refine wpAny_bind (wpAny_holding (thn (ho pins s Z H _ I h) λov s1 ⟨x,H1,I1,r1,q1⟩=>?_))
 refine wpAny_bind (wpAny_holding (wpAny_Slice (thn (hl pins s1 Z H1 _ I1 q1) λvl s2 ⟨l,H2,I2,pl,q2⟩=>thn (hu pins s2 Z H2 _ I2 q2) λvu s3 ⟨w',H3,I3,pu,q3⟩=>?_)))
 rw[evalPart_none]
 refine wpAny_pure ?_
 obtain⟨p,b,xs,ys,a,c,rfl,rfl,rfl,rfl,hp,hb,hne,h0,hac,hc,hz,q⟩:=q3
 have I4:Inv X pins Z H3 {s3 with heap:=s3.heap.push {cls:=.type "slice",data:=.fields #[vl,vu,.none]}}:=I3.kept (t':=s3.toks) λb ob q=>Heap.get?_push_of_some _ q
 cases r1
 cases r
 refine wpAny_bind (wpAny_standAt (wpAny_bind (wpAny_holding ?_)))
 cases pl with
 | int _ t1=>
  cases pu with
  | int _ t2=>
   exact oR (sl:=s3.heap.objs.size) I4 hp hb hne (Heap.IsSliceOf.new ..) ⟨t1,rfl⟩ ⟨t2,rfl⟩ h0 hac hc hz λs' I'=>wpAny_release ⟨Z,_,I',q⟩
end
def Has (P:Program)(w:World)(K:yF)(mg:Str->Option Value)(base:Heap)(k:Nat)(name:Str)(ps:List Str)(sp:Sp):Prop:=
 ∃(f:Addr) (fd:FuncData),mg name=some (.ref f)/\CC K (.ref f)=true/\Binds K fd ps []/\FnOk P w K mg base CX0 k f fd ps sp/\∃oc od osl,K.lookup f=some ⟨oc,od,.func fd,osl⟩
def Def (K:yF)(mg:Str->Option Value)(name:Str)(st:Stmt)(ps:List Str):Prop:=
 ∃(f:Addr) (fd:FuncData),mg name=some (.ref f)/\Fun K name name st f fd/\Binds K fd ps []
theorem Def.has {P:Program}{w:World}{K:yF}{mg:Str->Option Value}{base:Heap}{k:Nat}{name:Str}{st:Stmt}{N ps:List Str}{sp:Sp}(d:Def K mg name st ps)(S:FnScope N ps (ak st))(len:∀vs H Q E,sp vs H Q E->vs.length=ps.length)
  (hbody:∀(f:Addr) (cdv:Value) (A:Around) (outer:List Env) (s:Shared) (H:Hp) (vs:List V) (Q:VK) (E:XK),Room k (A.deeper (envOfC name (ak st) s.heap.objs.size f cdv))->sp vs H Q E →
   ∃t,PSs (iW CX0 P w K mg base N name (ak st) f cdv A outer s H E).nox (bc st) t/\t {nx:=λ_ H'=>Q .non H',rt:=Q} (bi N vs) H):Has P w K mg base (k+1) name ps sp:=by
 obtain⟨f,fd,h1,F,b⟩:=d
 obtain⟨oc,od,kV,doc,pm,an,cdv,ct,osl,e,lk,hcd⟩:=F.ex
 exact⟨f,fd,h1,F.kp,b,F.ok S len (hbody f),oc,od,osl,lk⟩
theorem pQ {P:Program}{w:World}{K:yF}{mg:Str->Option Value}{fa:Addr}{name:Str}{st:Stmt}{x:Str}{k:Nat}{sp:Sp}(hfa:mg name=some (.ref fa))(d:Def K mg name st [x])
  (hb:∀(kV doc pm:Value) (an:Option Addr) (cdv ct:Value) (s:Shared) (v:Value),BindsTo s (Ct name name (cu st) (bc st) (ak st) .none kV doc pm an cdv ct) ⟨[v],[]⟩ [(x,v)])
  (H:∀base:Heap,K.In base->base.Ns mainGlobals mg->Has P w K mg base k name [x] sp) :
  ∃fd:FuncData,(∀(s:Shared) (v:Value),BindsTo s fd ⟨[v],[]⟩ [(x,v)])/\∀base:Heap,K.In base->base.Ns mainGlobals mg->FnOk P w K mg base CX0 k fa fd [x] sp:=by
 obtain⟨f,fd,h1,F,b⟩:=d
 rw[hfa]at h1
 cases h1
 obtain⟨oc,od,kV,doc,pm,an,cdv,ct,osl,e,lk,hcd⟩:=F.ex
 refine⟨fd,λs v=>by rw[e];exact hb _ _ _ _ _ _ s v,λbase kb nb=>?_⟩
 obtain⟨f',fd',g1,_,_,g4,oc',od',osl',lk'⟩:=H base kb nb
 rw[hfa]at g1
 cases g1
 rw[lk]at lk'
 cases lk'
 exact g4
section
variable  {X:Cx}{x:Str}{e:Expr}{es:List Expr}{p pos:Pos}{k:Nat}{ps:List Str}{sp:Sp}{t:TA}
theorem zG (h:Has X.prog X.w X.K X.mg X.base k x ps sp)(hr:Room k X.A)(hg:Gl X x)(ha:PA X (e::es) t)(hdb:(x==("__debug__" : Str))=false:=by decide)
  (he:starEach (e::es) X.env=(false,eval e X.env)::starEach es X.env:=by rfl) (hpl:(backTo pos (starEach es X.env)).any (·.1)=false:=by rfl) :
  PE X (.Call (.Name x p) (e::es) [] pos) (jC sp [] E0 t):=by
 obtain⟨f,fd,h1,h2,h3,h4,_⟩:=h
 exact tI h4 hr hg h1 h2 h3 .nil zD ha hdb he hpl
end
section
variable  {X:Cx}
def vq (K:yF):R2:=λx y H Q=>rI0 (λi j=>.int (i+j)) x y H Q∨((∃i j,x=.str i/\y=.str j/\i.length+j.length<=sizeLine/\Q (.str (i++j)) H)∨(Ae x y H Q∨vv K x y H Q))
theorem op_addX:OpR X (binaryOp .Add) (vq X.K):=op_add.or (op_add_str.or (op_cat.or tu))
def vz (K:yF):R2:=λx y H Q=>rI CMul (λi j=>.int (i*j)) x y H Q∨((∃z n,x=.str z/\y=.int n/\1<=n/\n<=1000/\z.length<=1000/\Q (.str (oL (Bu n.toNat (sL z)).flatten)) H)∨(An x y H Q∨vB K x y H Q))
theorem op_mulX:OpR X (binaryOp .Mult) (vz X.K):=op_mul.or (op_mulS.or (op_rep.or tD))
def yd (K:yF):R2:=λx y H Q=>rEq x y H Q∨(Af K x y H Q∨Ag K x y H Q)
theorem wK (hu:X.A.units+64<cLine):OpR X (compareOp .Eq) (yd X.K):=op_eq.or ((wI hu).or (wJ hu))
def yg (K:yF):R2:=λx y H Q=>rNe x y H Q∨(Al K x y H Q∨Am K x y H Q)
theorem wQ (hu:X.A.units+64<cLine):OpR X (compareOp .NotEq) (yg X.K):=op_ne.or ((wO hu).or (wP hu))
def ye (K:yF):R2:=λx y H Q=>(∃i j,x=.str i/\y=.str j/\Q (.bl (!(Builtin.Str.occurrences j i 0 j.length 1).isEmpty)) H)∨(rIn K false x y H Q∨Ah K false x y H Q)
theorem wM (hu:X.A.units+64<cLine):OpR X (compareOp .In) (ye X.K):=op_in_str.or (op_in_seq.or (wL hu))
theorem Bm:SlR X (rSl X.K):=sl_tup.or (sl_list.or yv)
def q5 (K:yF):List V->Hp->VK->Prop:=λxs H Q=>(∃p ys,xs=[.ref p]/\(SqL K H p ys∨SqT K H p ys)/\Q (.int ys.length) H)∨(∃z,xs=[.str z]/\z.length<=sizeLine/\Q (.int z.length) H)
theorem nF:CallR X (.builtin "len") (q5 X.K):=CallR.or jP jQ
theorem At (n:String):RelV (.ty n) (.type n):=rfl
end
section
variable  {Z:St}{H:Hp}{Q:VK}{D:Ends}{K:yF}
end
noncomputable def Its (z:Str):It:=⟨λi _=>i<z.cps.size,λi H y H'=>H'=H/\∃c,z.cps[i]?=some c/\y=.str ⟨#[c]⟩,λi _=>z.cps.size<=i⟩
def za (te:TE):TI:=λZ H R=>te Z H λx H1=>∃z:Str,x=.str z/\R (Its z) H1
theorem tR {X:Cx}{tg e:Expr}{te:TE}(he:PE X e te):PI X tg e (za te):=xu he
theorem jq {N:List Str}(h:decide N.Nodup=true):N.Nodup:=of_decide_eq_true h
section
variable  {X:Cx}{K:yF}
theorem A9 (h:X.K=K):IxR X (rIx K):=h▸wt
def rh (K:yF):List V->Hp->VK->Prop:=λxs H Q=>∃p ys,xs=[.ref p]/\((SqL K H p ys/\∀l,H l=none->Q (.ref l) (upd H l (.tup ys)))∨(SqT K H p ys/\Q (.ref p) H))
def re (K:yF):List V->Hp->VK->Prop:=λxs H Q=>∃p ys,xs=[.ref p]/\(SqL K H p ys∨SqT K H p ys)/\∀l,H l=none->Q (.ref l) (upd H l (.lst ys))
def Ad (K:yF):List V->Hp->VK->Prop:=λxs H Q=>∃(a:Addr) (bs:List Bool),xs=[.ref a]/\SqL K H a (bs.map V.bl)/\Q (.bl (bs.all id)) H
def vx (K:yF):V->List V->Hp->VK->Prop:=λx vs H Q=>∃z a zs,x=.str z/\vs=[.ref a]/\SqL K H a (zs.map V.str)/\(zs.map (·.length)).sum+zs.length*z.length<=16777216/\Q (.str (Txt.join z zs)) H
theorem tgK {es:List Expr}{k:Nat}{t:TGs}{n:Nat}{pos:Pos}(h:X.K=K)(hc:X.calm=true)(hs:PGs X es t)
  (hn:(assignEach es X.env).length=n:=by rfl) (hst:(assignEach es X.env).findIdx? (·.1)=none:=by rfl):PG X (.Tuple es k pos) (sJ K n t):=h▸xt hc hs hn hst
theorem ilK {tg l:Expr}{tl:TE}(h:X.K=K)(hl:PE X l tl):PI X tg l (mQ K tl):=h▸tQ hl
theorem itK {tg l:Expr}{tl:TE}(h:X.K=K)(hl:PE X l tl):PI X tg l (sN K tl):=h▸xv hl
variable  {o e:Expr}{es:List Expr}{to:TE}{t:TA}{name:Str}{apos cpos:Pos}{T id:String}{r:V->List V->Hp->VK->Prop}
theorem bmK (h:X.K=K)(pa:PlainAttrs T)(slot:Slot T name id)(hty:typeOf (.builtin id)=pure (.type "method_descriptor"))(hm:MtR X id r)(ho:PE X o to)(ha:PA X (e::es) t)
  (hbase:attributeBase o name X.env (eval o X.env)=eval o X.env:=by rfl)
  (hfew:((backTo cpos (starEach (e::es) X.env)).all (λx=>!x.1)&&(backToKw cpos (keywordEach [] X.env)).all (λx=>x.1.isSome)
   && decide ((e::es).length+([]:List Keyword).length+(if([]:List Keyword).isEmpty then 0 else 1)<30))=true:=by rfl)
  (hline:(apos.endLine==cpos.line)=true:=by rfl) (hs:starEach (e::es) X.env=(false,eval e X.env)::starEach es X.env:=by rfl) (hplain:(backTo cpos (starEach es X.env)).any (·.1)=false:=by rfl) :
  PE X (.Call (.Attribute o name apos) (e::es) [] cpos) (tBM K T r to t):=h▸zF pa slot hty hm ho ha hbase hfew hline hs hplain
end
theorem Same.put {H H1:Hp}{l:Addr}{o:HO}(s:Same H H1)(hl:H l=none):Same H (L2.upd H1 l o):=λb u h=>by rw[L2.upd_ne (aT h hl)];exact s b u h
structure Bi (mg:Str->Option Value):Prop where
 b_len:mg "len" = none
 b_all:mg "all" = none
 b_any:mg "any" = none
 b_tuple:mg "tuple" = none
 b_list:mg "list" = none
 b_range:mg "range" = none
 b_min:mg "min" = none
 b_max:mg "max" = none
 b_int:mg "int" = none
 b_bool:mg "bool" = none
 b_isinstance:mg "isinstance" = none
 b_str:mg "str" = none
 b_sorted:mg "sorted" = none
 b_sum:mg "sum" = none
 b_zip:mg "zip" = none
 b_enumerate:mg "enumerate" = none
 b_dict:mg "dict" = none
 b_abs:mg "abs" = none
 b_repr:mg "repr" = none
 b_reversed:mg "reversed" = none
 b_set:mg "set" = none
noncomputable abbrev LET:Str:="abcdefghijklmnopqrstuvwxyz"
theorem jG:(sL LET).length=26:=by decide +kernel
theorem LET_len':LET.length=26:=by decide +kernel
noncomputable def rd:D->Option D
 | .tup [.str x,nm,row]=>if x=("at" : Str)then some (.tup [nm,row])else none
 | _=>none
def Bd (m x:Int):Prop:=0<=x/\x<m
theorem Bd.mod {m:Int}(h:0<m)(x:Int):Bd m (x % m):=⟨CI _ (by omega),Cr _ h⟩
def yV (J2:It)(Zi:St)(g2:TG)(tc2:TT)(te:TE)(acc0:List V)(H3:Hp)(N:List V->Hp->Prop):Prop:=
 ∃W2:Nat->Nat->List V->Hp->Prop,(∃m,W2 0 m acc0 H3)/\∀i m acc H,W2 i m acc H->acc.length<sizeLine ∧
  ((J2.stop i H/\N acc H) ∨
  (J2.go i H/\∃N2:List V->Hp->Prop,(∀acc' H',N2 acc' H'->∃m',m'<m/\W2 (i+1) m' acc' H') ∧
   ∀x H',J2.yld i H x H'->g2 x Zi H' λZ3 H4=>tc2 Z3 H4 λb H5=>if b=true then te Z3 H5 λv H6=>N2 (acc++[v]) H6 else N2 acc H5))
section
variable  {X:Cx}{elt tg iter tg2 iter2:Expr}{ifs2:List Expr}{scope:Scope}{pos:Pos}{N':List Str}{fr fr2:List (Option Nat)}{wi wi2:TI}{g g2:TG}{tc2:TT}{te:TE}
end
open PySem.AutoSeq1 (wpAny_loadPart')
section
variable  {prog:Program}{w:World}{A:Around}{E:Value->Shared->Prop}{ss:Shared}
theorem iZ {jt tt:Addr}{k:Nat}{els:Array Value}{y:Value}{Q:Value->Shared->Prop}(qi:ss.heap.IsTupleIter jt tt k)(qt:ss.heap.IsTuple tt els)(qy:els[k]?=some y)
  (kk:∀h1,h1.IsTupleIter jt tt (k+1)->Heap.SameBut jt ss.heap h1->Q y {ss with heap:=h1}):wpAny (model prog w) A (Builtin.SmallTypes.nextOf (.ref jt)) Q E ss:=by
 obtain⟨qo,eo,ec,ed⟩:=id qi
 obtain⟨ql,el,_,nl,edl⟩:=qt
 unfold Builtin.SmallTypes.nextOf
 refine wpAny_bind (wpAny_callSpecial?_slot (name:=Str.ofString "__next__") qi.typeIs F.slot_tuple_iterator_next (wpAny_call_entry F.slot_tuple_iterator_next qi.typeIs F.entry_tuple_iterator_next ?_ (F.args_tuple_iterator_next_1 _)))
 show wpAny _ _ (field (.ref jt) 0 >>= _) _ _ ss
 refine wpAny_bind (wpAny_field eo ed (x:=.ref tt) rfl ?_)
 show wpAny _ _ (if(Value.ref tt==Value.none)=true then _ else _) _ _ ss
 rw[if_neg (show ¬ ((Value.ref tt==Value.none)=true)from BA)]
 show wpAny _ _ (field (.ref jt) 1 >>= _) _ _ ss
 refine wpAny_bind (wpAny_field eo ed (x:=.int k 0) rfl ?_)
 show wpAny _ _ (seqItems? (.ref tt) >>= _) _ _ ss
 refine wpAny_bind (wpAny_seqItems el edl ?_)
 simp only[BM,qy]
 refine wpAny_bind (wpAny_setField eo ed (by simp) (wpAny_pure ⟨y,rfl,wpAny_pure (kk _ ?_ (Heap.SameBut.update ..))⟩))
 exact⟨_,Heap.get?_update_self _ eo (Obj.isFreed_of_fields (Obj.data_mapFields ed _)),(Obj.cls_mapFields ..).trans ec,by rw[Obj.data_mapFields ed];simp[rawInt]⟩
theorem fW {jt tt:Addr}{k:Nat}{els:Array Value}{Q:Value->Shared->Prop}(hh:A.handled=none)(qi:ss.heap.IsTupleIter jt tt k)(qt:ss.heap.IsTuple tt els)(qy:els[k]?=none)
  (kk:∀h1 e,Heap.ExtBut jt ss.heap h1->(∃o,h1.get? e=some o/\o.cls=.type "StopIteration")->E (.ref e) {ss with heap:=h1}):wpAny (model prog w) A (Builtin.SmallTypes.nextOf (.ref jt)) Q E ss:=by
 obtain⟨qo,eo,ec,ed⟩:=id qi
 obtain⟨ql,el,_,nl,edl⟩:=qt
 unfold Builtin.SmallTypes.nextOf
 refine wpAny_bind (wpAny_callSpecial?_slot (name:=Str.ofString "__next__") qi.typeIs F.slot_tuple_iterator_next (wpAny_call_entry F.slot_tuple_iterator_next qi.typeIs F.entry_tuple_iterator_next ?_ (F.args_tuple_iterator_next_1 _)))
 show wpAny _ _ (field (.ref jt) 0 >>= _) _ _ ss
 refine wpAny_bind (wpAny_field eo ed (x:=.ref tt) rfl ?_)
 show wpAny _ _ (if(Value.ref tt==Value.none)=true then _ else _) _ _ ss
 rw[if_neg (show ¬ ((Value.ref tt==Value.none)=true)from BA)]
 show wpAny _ _ (field (.ref jt) 1 >>= _) _ _ ss
 refine wpAny_bind (wpAny_field eo ed (x:=.int k 0) rfl ?_)
 show wpAny _ _ (seqItems? (.ref tt) >>= _) _ _ ss
 refine wpAny_bind (wpAny_seqItems el edl ?_)
 simp only[BM,qy]
 refine wpAny_bind (wpAny_rule (wpAny_bind (wpAny_setField eo ed (by simp) ?_)))
 show wpAny _ _ (newExc (.type "StopIteration") ([]:List Value) >>= _) _ _ _
 refine wpAny_bind ?_
 simp only[newExc,newTuple]
 refine wpAny_bind (wpAny_newObj_type ?_ (by size_fits))
 refine wpAny_bind (m:=firstArgMember _ _) (wpAny_of_eq (a:=Value.none) (by first|rfl|(simp only[firstArgMember];rfl;done)) ?_)
 refine wpAny_newObj_type ?_ (by size_fits)
 simp only[raiseNew]
 refine wpAny_bind (wpAny_handled ?_)
 first|rw[show A.in1.handled=none from hh]|rw[id hh]
 refine wpAny_bind (wpAny_pure (wpAny_throw ?_))
 exact kk _ _ (((Heap.SameBut.update ..).extBut.push _).push _) ⟨_,Heap.get?_push_size _ rfl,rfl⟩
theorem kJ (hh:A.handled=none)(jt tt:Addr)(ne:tt≠jt)(els:Array Value):Draws prog w A jt [jt,tt] els.size (λk v=>els[k]?=some v) (λk h=>h.IsTupleIter jt tt k/\h.IsTuple tt els) where
 live:=λ_ _ st=>let ⟨o,ho,_⟩:=st.1;⟨o,ho⟩
 frame:=λ_ _ _ st hk=>⟨st.1.at λo e=>hk jt (by simp) o e,let ⟨o,ho,r⟩:=st.2;⟨o,hk tt (by simp) o ho,r⟩⟩
 item:=λk s Q E hi st kk=>iZ st.1 st.2 (y:=els[k]) (by simp[hi]) λh1 i1 s1=>kk _ h1 s.toks (by simp[hi]) ⟨i1,st.2.extBut s1.extBut ne⟩ s1
 done:=λs Q E st kk=>fW hh st.1 st.2 (by simp) kk
end
def j9:V->List V->Hp->VK->Prop:=λx vs H Q=>∃l xs i y,x=.ref l/\vs=[.int i,y]/\H l=some (.lst xs)/\0<=i/\i<=xs.length/\xs.length<sizeLine/\Q .non (upd H l (.lst (xs.take i.toNat++y::xs.drop i.toNat)))
theorem oe {X:Cx}:MtM X "list.insert" j9:=by
 intro pins s Z H x vs v us Q I rx rv h
 obtain⟨l,xs,i,y,rfl,rfl,hH,hi0,hi,hz0,q⟩:=h
 cases rx
 obtain⟨u1,u2,rfl,ru,ry⟩:=lq rv
 obtain⟨t,rfl⟩:=ru
 obtain⟨z,its,n,r,hl,e⟩:=I.lstM hH
 have h63:i<2^63:=by rw[sizeLine_eq]at hz0;omega
 have h62 : -(2^63)<=i:=by omega
 have hfit:¬(!Builtin.List.listFitsIndex i)=true:=by rw[fitsIndex_both h62 h63];exact BA
 have hsz:its.toArray.size<=sizeLine:=by rw[Bv];omega
 refine call_meets F.slot_list_insert ⟨_,e,rfl⟩ F.entry_list_insert (F.args_list_insert_3 _ _ _) (PySem.AutoSeq1.list_insert_list_int_val_1 l _ n i t u2 hfit hsz) ⟨e,?_⟩
 refine⟨.non,_,I.lset (its':=its.take i.toNat++u2::its.drop i.toNat) hH e ?_ ((r.take i.toNat).append (.cons ry (r.drop i.toNat))) ?_,rfl,q⟩
 ·show(its.toArray.extract 0 (if i<0 then(i+(its.toArray.size:Int)).toNat else min i.toNat its.toArray.size)).push u2++its.toArray.extract (if i<0 then(i+(its.toArray.size:Int)).toNat else min i.toNat its.toArray.size)=(its.take i.toNat++u2::its.drop i.toNat).toArray
  have hm:min i.toNat its.toArray.size=i.toNat:=by rw[Bv];omega
  rw[if_neg (by omega),hm]
  simp
  rw[B6 (by rw[Cd];exact Bz _)]
 ·rw[BN,B9,BF,Cd]
  omega
noncomputable def bt:Expr->Bool
 | .Starred _ _=>true
 | _=>false
theorem aX {e:Expr}{es:List Expr}{env:Env}(h:bt e=false):starEach (e::es) env=(false,eval e env)::starEach es env:=by
 cases e<;>first|rfl|cases h
noncomputable def aR:List Expr->Bool
 | []=>true
 | e::es=>(!bt e)&&aR es
theorem cg {env:Env}{pos:Pos}:∀{es:List Expr},aR es=true->(backTo pos (starEach es env)).any (·.1)=false
 | [],_=>rfl
 | e::es,h=>by
  rw[aR,By]at h
  have h1:bt e=false:=by simpa using h.1
  rw[aX h1]
  show(false||(backTo pos (starEach es env)).any (·.1))=false
  rw[cg h.2];rfl
theorem gM {env:Env}{pos:Pos}:∀{es:List Expr},aR es=true->(backTo pos (starEach es env)).all (λx=>!x.1)=true
 | [],_=>rfl
 | e::es,h=>by
  rw[aR,By]at h
  have h1:bt e=false:=by simpa using h.1
  rw[aX h1]
  show(!false&&(backTo pos (starEach es env)).all (λx=>!x.1))=true
  rw[gM h.2];rfl
section
variable  {X:Cx}{K:yF}{e:Expr}{es:List Expr}{te:TE}{t:TA}{x:Str}{p pos:Pos}{k:Nat}{ps:List Str}{sp:Sp}
theorem fX (ha:PE X e te)(hr:PA X es t)(hs:bt e=false:=by rfl):PA X (e::es) (nr te t):=tG ha hr (aX hs)
theorem qq (h:Has X.prog X.w X.K X.mg X.base k x ps sp)(hr:Room k X.A)(hg:Gl X x)(ha:PA X (e::es) t)(hn:aR (e::es)=true:=by rfl)(hdb:(x==("__debug__" : Str))=false:=by decide):PE X (.Call (.Name x p) (e::es) [] pos) (jC sp [] E0 t):=by
 rw[aR,By]at hn
 exact zG h hr hg ha hdb (aX (by simpa using hn.1)) (cg hn.2)
theorem gq {id:String}{r:List V->Hp->VK->Prop}(hc:CallR X (.builtin id) r)(hg:Gl X x)(hm:X.mg x=none)(hb:bootBuiltins x=some (.builtin id))(ha:PA X (e::es) t)(hn:aR (e::es)=true:=by rfl)(hx:x≠("__name__" : Str):=by decide)(hdb:(x==("__debug__" : Str))=false:=by decide):PE X (.Call (.Name x p) (e::es) [] pos) (tCB r t):=by
 rw[aR,By]at hn
 exact qm hc hg hm hb ha hx hdb (aX (by simpa using hn.1)) (cg hn.2)
theorem lS {T:String}{r:List V->Hp->VK->Prop}(hc:CallR X (.type T) r)(hg:Gl X x)(hm:X.mg x=none)(hb:bootBuiltins x=some (.type T))(ha:PA X (e::es) t)(hn:aR (e::es)=true:=by rfl)(hx:x≠("__name__" : Str):=by decide)(hdb:(x==("__debug__" : Str))=false:=by decide):PE X (.Call (.Name x p) (e::es) [] pos) (tCB r t):=by
 rw[aR,By]at hn
 exact om hc hg hm hb ha hx hdb (aX (by simpa using hn.1)) (cg hn.2)
theorem y3 {o:Expr}{to:TE}{name:Str}{apos cpos:Pos}{T id:String}{r:V->List V->Hp->VK->Prop}(h:X.K=K)(pa:PlainAttrs T)(slot:Slot T name id)(hty:typeOf (.builtin id)=pure (.type "method_descriptor"))(hm:MtR X id r)(ho:PE X o to)(ha:PA X (e::es) t)(hn:aR (e::es)=true:=by rfl)(hlen:decide ((e::es).length<30)=true:=by rfl)
  (hbase:attributeBase o name X.env (eval o X.env)=eval o X.env:=by rfl) (hline:(apos.endLine==cpos.line)=true:=by rfl):PE X (.Call (.Attribute o name apos) (e::es) [] cpos) (tBM K T r to t):=by
 have hn':=hn
 rw[aR,By]at hn'
 refine bmK h pa slot hty hm ho ha hbase ?_ hline (aX (by simpa using hn'.1)) (cg hn'.2)
 rw[gM hn]
 have:=of_decide_eq_true hlen
 simp only[DX,List.length_nil,Nat.add_zero,List.isEmpty_nil,if_true]
 rw[decide_eq_true this]
 rfl
end
inductive I where
 | non|bl (b:Bool)|int (i:Int)|str (x:Str)|tup (is:List I)|ls (is:List I)
 | fd (ks:List Key) (is:List I)
mutual
def I.beq:I->I->Bool
 | .non,.non=>true
 | .bl a,.bl b=>a==b
 | .int a,.int b=>decide (a=b)
 | .str a,.str b=>decide (a=b)
 | .tup a,.tup b=>I.beqs a b
 | .ls a,.ls b=>I.beqs a b
 | .fd k a,.fd j b=>decide (k=j)&&I.beqs a b
 | _,_=>false
def I.beqs:List I->List I->Bool
 | [],[]=>true
 | a::as,b::bs=>I.beq a b&&I.beqs as bs
 | _,_=>false
end
mutual
theorem I.beq_iff:∀{a b:I},I.beq a b=true↔a=b
 | .non,b=>by cases b<;>simp[I.beq]
 | .bl x,b=>by cases b<;>simp[I.beq]
 | .int x,b=>by cases b<;>simp[I.beq]
 | .str x,b=>by cases b<;>simp[I.beq]
 | .tup x,b=>by
  cases b with
  | tup y=>rw[I.beq,I.beqs_iff,I.tup.injEq]
  | _=>simp[I.beq]
 | .ls x,b=>by
  cases b with
  | ls y=>rw[I.beq,I.beqs_iff,I.ls.injEq]
  | _=>simp[I.beq]
 | .fd k x,b=>by
  cases b with
  | fd j y=>rw[I.beq,By,I.beqs_iff,I.fd.injEq,decide_eq_true_iff]
  | _=>simp[I.beq]
theorem I.beqs_iff:∀{a b:List I},I.beqs a b=true↔a=b
 | [],b=>by cases b<;>simp[I.beqs]
 | x::xs,b=>by
  cases b with
  | nil=>simp[I.beqs]
  | cons y ys=>rw[I.beqs,By,I.beq_iff,I.beqs_iff,Cu.injEq]
end
instance:DecidableEq I:=λa b=>decidable_of_iff (I.beq a b=true) I.beq_iff
inductive T where
 | im (i:I)|tup (ts:List T)|li (is:List I)|lst (ts:List T)|di (kvs:List (I×I))|dc (kvs:List (I×T))|ins (C:Addr) (fs:List (Str×T))
noncomputable def cD:Key->I
 | .inl i=>.int i
 | .inr x=>.str x
def DAt (K:yF)(H:Hp)(a:Addr)(ks:List (I×V)):Prop:=∃ys:List (Key×V),H a=some (.dK ys)/\ks=ys.map λp=>(cD p.1,p.2)
mutual
def RpI (K:yF)(H:Hp):I->V->Prop
 | .non,v=>v=.non
 | .bl b,v=>v=.bl b
 | .int i,v=>v=.int i
 | .str x,v=>v=.str x
 | .tup is,v=>∃a xs,v=.ref a/\SqT K H a xs/\RpIs K H is xs
 | .ls is,v=>∃a o xs,v=.ref a/\H a=some (.frz o (.lst xs))/\RpIs K H is xs
 | .fd ks is,v=>∃a o ys,v=.ref a/\H a=some (.frz o (.dK ys))/\ys.map (·.1)=ks/\RpIs K H is (ys.map (·.2))
def RpIs (K:yF)(H:Hp):List I->List V->Prop
 | [],xs=>xs=[]
 | t::ts,xs=>∃x r,xs=x::r/\RpI K H t x/\RpIs K H ts r
end
mutual
def Rp (K:yF)(H:Hp):T->V->List Addr->Prop
 | .im i,v,F=>RpI K H i v/\F=[]
 | .tup ts,v,F=>∃a xs,v=.ref a/\SqT K H a xs/\Rps K H ts xs F
 | .li is,v,F=>∃a xs,v=.ref a/\Rd H a (.lst xs)/\RpIs K H is xs/\F=[a]
 | .lst ts,v,F=>∃a xs F',v=.ref a/\Rd H a (.lst xs)/\Rps K H ts xs F'/\F=a::F'
 | .di kvs,v,F=>∃a ys,v=.ref a/\DAt K H a ys/\RpIs K H (kvs.map (·.2)) (ys.map (·.2))/\ys.map (·.1)=kvs.map (·.1)/\F=[a]
 | .dc kvs,v,F=>∃a ys F',v=.ref a/\DAt K H a ys/\Rpk K H kvs ys F'/\F=a::F'
 | .ins C fs,v,F=>∃a dx ys F',v=.ref a/\H a=some (.ins C dx ys)/\Rpf K H fs ys F'/\F=a::F'
def Rps (K:yF)(H:Hp):List T->List V->List Addr->Prop
 | [],xs,F=>xs=[]/\F=[]
 | t::ts,xs,F=>∃x r F1 F2,xs=x::r/\Rp K H t x F1/\Rps K H ts r F2/\F=F1++F2
def Rpk (K:yF)(H:Hp):List (I×T)->List (I×V)->List Addr->Prop
 | [],xs,F=>xs=[]/\F=[]
 | (k,t)::ts,xs,F=>∃x r F1 F2,xs=(k,x)::r/\Rp K H t x F1/\Rpk K H ts r F2/\F=F1++F2
def Rpf (K:yF)(H:Hp):List (Str×T)->List (Str×V)->List Addr->Prop
 | [],xs,F=>xs=[]/\F=[]
 | (k,t)::ts,xs,F=>∃x r F1 F2,xs=(k,x)::r/\Rp K H t x F1/\Rpf K H ts r F2/\F=F1++F2
end
noncomputable def A6:HO->Bool
 | .lst _=>true|.dK _=>true|.dT _=>true|.ins _ _ _=>true|.ext _=>true|_=>false
def Mu (H:Hp)(a:Addr):Prop:=∃o,H a=some o/\A6 o=true
def OffM (M:List Addr)(H H':Hp):Prop:=∀b o,H b=some o->b∉M->H' b=some o
theorem Same.offM {H H':Hp}(s:Same H H')(M:List Addr):OffM M H H':=λb o h _=>s b o h
theorem OffM.refl (M:List Addr)(H:Hp):OffM M H H:=λb o h _=>h
theorem OffM.mono {M M':List Addr}{H H1:Hp}(x:OffM M H H1)(y:∀a∈M,a∈M'):OffM M' H H1:=λb o h n=>x b o h λz=>n (y b z)
theorem OffM.upd {H:Hp}{a:Addr}{o:HO}:OffM [a] H (upd H a o):=λb u h n=>by rw[upd_ne (by simpa using n)];exact h
theorem OffM.rd {M:List Addr}{H H':Hp}{a:Addr}{o:HO}(x:OffM M H H')(n:a∉M)(h:Rd H a o):Rd H' a o:=by
 rcases h with h|⟨u,h⟩
 ·exact .inl (x a _ h n)
 ·exact .inr ⟨u,x a _ h n⟩
theorem OffM.sqT {K:yF}{M:List Addr}{H H':Hp}{a:Addr}{xs:List V}(x:OffM M H H')(hM:∀b∈M,Mu H b)(h:SqT K H a xs):SqT K H' a xs:=by
 rcases h with(h|⟨u,h⟩)|h
 ·exact .inl (.inl (x a _ h λz=>by obtain⟨o,e,m⟩:=hM a z;rw[h]at e;cases e;cases m))
 ·exact .inl (.inr ⟨u,x a _ h λz=>by obtain⟨o,e,m⟩:=hM a z;rw[h]at e;cases e;cases m⟩)
 ·exact .inr h
theorem DAt.off {K:yF}{M:List Addr}{H H':Hp}{a:Addr}{ks:List (I×V)}(x:OffM M H H')(n:a∉M)(h:DAt K H a ks):DAt K H' a ks:=by
 obtain⟨ys,h1,h2⟩:=h
 exact⟨ys,x a _ h1 n,h2⟩
theorem DAt.dom {K:yF}{H:Hp}{a:Addr}{ks:List (I×V)}(h:DAt K H a ks):∃o,H a=some o:=by
 obtain⟨ys,h1,h2⟩:=h
 exact⟨_,h1⟩
theorem Rd.dom {H:Hp}{a:Addr}{u:HO}(h:Rd H a u):∃o,H a=some o:=by
 rcases h with h|⟨o,h⟩
 ·exact⟨_,h⟩
 ·exact⟨_,h⟩
mutual
theorem RpI.off {K:yF}{M:List Addr}{H H':Hp}(x:OffM M H H')(hM:∀b∈M,Mu H b):∀{t:I} {v:V},RpI K H t v->RpI K H' t v
 | .non,_,h=>by rw[RpI]at h⊢;exact h
 | .bl _,_,h=>by rw[RpI]at h⊢;exact h
 | .int _,_,h=>by rw[RpI]at h⊢;exact h
 | .str _,_,h=>by rw[RpI]at h⊢;exact h
 | .tup ts,_,h=>by rw[RpI]at h⊢;obtain⟨a,xs,h1,h2,h3⟩:=h;exact⟨a,xs,h1,x.sqT hM h2,RpIs.off x hM h3⟩
 | .ls ts,_,h=>by
  rw[RpI]at h⊢;obtain⟨a,o,xs,h1,h2,h3⟩:=h
  exact⟨a,o,xs,h1,x a _ h2 (λz=>by obtain⟨u,e,m⟩:=hM a z;rw[h2]at e;cases e;cases m),RpIs.off x hM h3⟩
 | .fd ks ts,_,h=>by
  rw[RpI]at h⊢;obtain⟨a,o,ys,h1,h2,h3,h4⟩:=h
  exact⟨a,o,ys,h1,x a _ h2 (λz=>by obtain⟨u,e,m⟩:=hM a z;rw[h2]at e;cases e;cases m),h3,RpIs.off x hM h4⟩
theorem RpIs.off {K:yF}{M:List Addr}{H H':Hp}(x:OffM M H H')(hM:∀b∈M,Mu H b):∀{ts:List I} {xs:List V},RpIs K H ts xs->RpIs K H' ts xs
 | [],_,h=>by rw[RpIs]at h⊢;exact h
 | t::ts,_,h=>by
  rw[RpIs]at h⊢;obtain⟨y,r,h1,h2,h3⟩:=h
  exact⟨y,r,h1,RpI.off x hM h2,RpIs.off x hM h3⟩
end
mutual
theorem Rp.off {K:yF}{M:List Addr}{H H':Hp}(x:OffM M H H')(hM:∀b∈M,Mu H b):∀{t:T} {v:V} {F:List Addr},(∀a∈F,a∉M)->Rp K H t v F->Rp K H' t v F
 | .im _,_,_,_,h=>by rw[Rp]at h⊢;exact⟨RpI.off x hM h.1,h.2⟩
 | .tup ts,_,_,n,h=>by rw[Rp]at h⊢;obtain⟨a,xs,h1,h2,h3⟩:=h;exact⟨a,xs,h1,x.sqT hM h2,Rps.off x hM n h3⟩
 | .li ts,_,_,n,h=>by
  rw[Rp]at h⊢;obtain⟨a,xs,h1,h2,h3,rfl⟩:=h
  exact⟨a,xs,h1,x.rd (n a ymS) h2,RpIs.off x hM h3,rfl⟩
 | .lst ts,_,_,n,h=>by
  rw[Rp]at h⊢;obtain⟨a,xs,F',h1,h2,h3,rfl⟩:=h
  exact⟨a,xs,F',h1,x.rd (n a ymS) h2,Rps.off x hM (λb hb=>n b (ymC _ hb)) h3,rfl⟩
 | .di kvs,_,_,n,h=>by
  rw[Rp]at h⊢;obtain⟨a,xs,h1,h2,h3,h4,rfl⟩:=h
  exact⟨a,xs,h1,h2.off x (n a ymS),RpIs.off x hM h3,h4,rfl⟩
 | .dc kvs,_,_,n,h=>by
  rw[Rp]at h⊢;obtain⟨a,xs,F',h1,h2,h3,rfl⟩:=h
  exact⟨a,xs,F',h1,h2.off x (n a ymS),Rpk.off x hM (λb hb=>n b (ymC _ hb)) h3,rfl⟩
 | .ins C fs,_,_,n,h=>by
  rw[Rp]at h⊢;obtain⟨a,dx,xs,F',h1,h2,h3,rfl⟩:=h
  exact⟨a,dx,xs,F',h1,x a _ h2 (n a ymS),Rpf.off x hM (λb hb=>n b (ymC _ hb)) h3,rfl⟩
theorem Rps.off {K:yF}{M:List Addr}{H H':Hp}(x:OffM M H H')(hM:∀b∈M,Mu H b):∀{ts:List T} {xs:List V} {F:List Addr},(∀a∈F,a∉M)->Rps K H ts xs F->Rps K H' ts xs F
 | [],_,_,_,h=>by rw[Rps]at h⊢;exact h
 | t::ts,_,_,n,h=>by
  rw[Rps]at h⊢;obtain⟨y,r,F1,F2,h1,h2,h3,rfl⟩:=h
  exact⟨y,r,F1,F2,h1,Rp.off x hM (λb hb=>n b (yaL _ hb)) h2,Rps.off x hM (λb hb=>n b (yaR _ hb)) h3,rfl⟩
theorem Rpk.off {K:yF}{M:List Addr}{H H':Hp}(x:OffM M H H')(hM:∀b∈M,Mu H b):∀{ts:List (I×T)} {xs:List (I×V)} {F:List Addr},(∀a∈F,a∉M)->Rpk K H ts xs F->Rpk K H' ts xs F
 | [],_,_,_,h=>by rw[Rpk]at h⊢;exact h
 | (k,t)::ts,_,_,n,h=>by
  rw[Rpk]at h⊢;obtain⟨y,r,F1,F2,h1,h2,h3,rfl⟩:=h
  exact⟨y,r,F1,F2,h1,Rp.off x hM (λb hb=>n b (yaL _ hb)) h2,Rpk.off x hM (λb hb=>n b (yaR _ hb)) h3,rfl⟩
theorem Rpf.off {K:yF}{M:List Addr}{H H':Hp}(x:OffM M H H')(hM:∀b∈M,Mu H b):∀{ts:List (Str×T)} {xs:List (Str×V)} {F:List Addr},(∀a∈F,a∉M)->Rpf K H ts xs F->Rpf K H' ts xs F
 | [],_,_,_,h=>by rw[Rpf]at h⊢;exact h
 | (k,t)::ts,_,_,n,h=>by
  rw[Rpf]at h⊢;obtain⟨y,r,F1,F2,h1,h2,h3,rfl⟩:=h
  exact⟨y,r,F1,F2,h1,Rp.off x hM (λb hb=>n b (yaL _ hb)) h2,Rpf.off x hM (λb hb=>n b (yaR _ hb)) h3,rfl⟩
end
theorem Rps.same {K:yF}{H H':Hp}(x:Same H H'){t:List T}{v:List V}{F:List Addr}(h:Rps K H t v F):Rps K H' t v F:=Rps.off (x.offM []) (by simp) (by simp) h
theorem RpIs.same {K:yF}{H H':Hp}(x:Same H H'){t:List I}{v:List V}(h:RpIs K H t v):RpIs K H' t v:=RpIs.off (x.offM []) (by simp) h
mutual
theorem Rp.dom {K:yF}{H:Hp}:∀{t:T} {v:V} {F:List Addr},Rp K H t v F->∀a∈F,∃o,H a=some o
 | .im _,_,_,h=>by rw[Rp]at h;rw[h.2];simp
 | .tup ts,_,_,h=>by rw[Rp]at h;obtain⟨_,_,_,_,h⟩:=h;exact Rps.dom h
 | .li ts,_,_,h=>by
  rw[Rp]at h;obtain⟨a,xs,h1,h2,h3,rfl⟩:=h
  intro b hb
  rw[ysM hb];exact h2.dom
 | .lst ts,_,_,h=>by
  rw[Rp]at h;obtain⟨a,xs,F',h1,h2,h3,rfl⟩:=h
  intro b hb
  rcases ycM hb with rfl|hb
  ·exact h2.dom
  ·exact Rps.dom h3 b hb
 | .di ts,_,_,h=>by
  rw[Rp]at h;obtain⟨a,xs,h1,h2,h3,h4,rfl⟩:=h
  intro b hb
  rw[ysM hb];exact h2.dom
 | .dc ts,_,_,h=>by
  rw[Rp]at h;obtain⟨a,xs,F',h1,h2,h3,rfl⟩:=h
  intro b hb
  rcases ycM hb with rfl|hb
  ·exact h2.dom
  ·exact Rpk.dom h3 b hb
 | .ins C ts,_,_,h=>by
  rw[Rp]at h;obtain⟨a,dx,xs,F',h1,h2,h3,rfl⟩:=h
  intro b hb
  rcases ycM hb with rfl|hb
  ·exact⟨_,h2⟩
  ·exact Rpf.dom h3 b hb
theorem Rps.dom {K:yF}{H:Hp}:∀{ts:List T} {xs:List V} {F:List Addr},Rps K H ts xs F->∀a∈F,∃o,H a=some o
 | [],_,_,h=>by rw[Rps]at h;rw[h.2];simp
 | t::ts,_,_,h=>by
  rw[Rps]at h;obtain⟨y,r,F1,F2,h1,h2,h3,rfl⟩:=h
  intro b hb
  rcases yaM hb with hb|hb
  ·exact Rp.dom h2 b hb
  ·exact Rps.dom h3 b hb
theorem Rpk.dom {K:yF}{H:Hp}:∀{ts:List (I×T)} {xs:List (I×V)} {F:List Addr},Rpk K H ts xs F->∀a∈F,∃o,H a=some o
 | [],_,_,h=>by rw[Rpk]at h;rw[h.2];simp
 | (k,t)::ts,_,_,h=>by
  rw[Rpk]at h;obtain⟨y,r,F1,F2,h1,h2,h3,rfl⟩:=h
  intro b hb
  rcases yaM hb with hb|hb
  ·exact Rp.dom h2 b hb
  ·exact Rpk.dom h3 b hb
theorem Rpf.dom {K:yF}{H:Hp}:∀{ts:List (Str×T)} {xs:List (Str×V)} {F:List Addr},Rpf K H ts xs F->∀a∈F,∃o,H a=some o
 | [],_,_,h=>by rw[Rpf]at h;rw[h.2];simp
 | (k,t)::ts,_,_,h=>by
  rw[Rpf]at h;obtain⟨y,r,F1,F2,h1,h2,h3,rfl⟩:=h
  intro b hb
  rcases yaM hb with hb|hb
  ·exact Rp.dom h2 b hb
  ·exact Rpf.dom h3 b hb
end
theorem RpIs.nil {K:yF}{H:Hp}:RpIs K H [] []:=by rw[RpIs]
theorem RpIs.cons {K:yF}{H:Hp}{t:I}{ts:List I}{x:V}{xs:List V}(h:RpI K H t x)(hs:RpIs K H ts xs):RpIs K H (t::ts) (x::xs):=by rw[RpIs];exact⟨x,xs,rfl,h,hs⟩
theorem RpIs.cons_inv {K:yF}{H:Hp}{t:I}{ts:List I}{xs:List V}(h:RpIs K H (t::ts) xs):∃x r,xs=x::r/\RpI K H t x/\RpIs K H ts r:=by rw[RpIs]at h;exact h
theorem RpIs.nil_inv {K:yF}{H:Hp}{xs:List V}(h:RpIs K H [] xs):xs=[]:=by rw[RpIs]at h;exact h
theorem RpIs.length {K:yF}{H:Hp}:∀{ts:List I} {xs:List V},RpIs K H ts xs->xs.length=ts.length
 | [],xs,h=>by rw[h.nil_inv];rfl
 | d::ds,xs,h=>by obtain⟨x,r,rfl,_,h3⟩:=h.cons_inv;rw[BF,BF,h3.length]
theorem RpIs.get {K:yF}{H:Hp}:∀{ts:List I} {xs:List V} {i:Nat} {t:I},RpIs K H ts xs->ts[i]?=some t->∃x,xs[i]?=some x/\RpI K H t x
 | [],_,_,_,_,e=>by simp at e
 | d::ds,xs,0,d',h,e=>by
  obtain⟨x,r,rfl,h2,h3⟩:=h.cons_inv
  simp at e;subst e
  exact⟨x,rfl,h2⟩
 | d::ds,xs,i+1,d',h,e=>by
  obtain⟨x,r,rfl,h2,h3⟩:=h.cons_inv
  obtain⟨y,h4,h5⟩:=RpIs.get (i:=i) h3 (by simpa using e)
  exact⟨y,by simpa using h4,h5⟩
theorem RpIs.append {K:yF}{H:Hp}:∀{ds es:List I} {xs ys:List V},RpIs K H ds xs->RpIs K H es ys->RpIs K H (ds++es) (xs++ys)
 | [],es,xs,ys,h,h'=>by obtain rfl:=h.nil_inv;exact h'
 | d::ds,es,xs,ys,h,h'=>by
  obtain⟨x,r,rfl,h2,h3⟩:=h.cons_inv
  exact RpIs.cons h2 (RpIs.append h3 h')
theorem RpIs.take {K:yF}{H:Hp}:∀{ds:List I} {xs:List V} (n:Nat),RpIs K H ds xs->RpIs K H (ds.take n) (xs.take n)
 | ds,xs,0,h=>by simp only[El];exact RpIs.nil
 | [],xs,n+1,h=>by obtain rfl:=h.nil_inv;exact RpIs.nil
 | d::ds,xs,n+1,h=>by
  obtain⟨x,r,rfl,h2,h3⟩:=h.cons_inv
  exact RpIs.cons h2 (RpIs.take n h3)
theorem RpIs.drop {K:yF}{H:Hp}:∀{ds:List I} {xs:List V} (n:Nat),RpIs K H ds xs->RpIs K H (ds.drop n) (xs.drop n)
 | ds,xs,0,h=>h
 | [],xs,n+1,h=>by obtain rfl:=h.nil_inv;exact RpIs.nil
 | d::ds,xs,n+1,h=>by
  obtain⟨x,r,rfl,h2,h3⟩:=h.cons_inv
  exact RpIs.drop n h3
theorem RpIs.one {K:yF}{H:Hp}{t:I}{x:V}(h:RpI K H t x):RpIs K H [t] [x]:=.cons h .nil
theorem RpIs.set {K:yF}{H:Hp}{t:I}{x:V}(hx:RpI K H t x):∀{ds:List I} {xs:List V} (n:Nat),RpIs K H ds xs->RpIs K H (ds.set n t) (xs.set n x)
 | [],xs,n,h=>by obtain rfl:=h.nil_inv;exact RpIs.nil
 | d::ds,xs,0,h=>by obtain⟨y,r,rfl,h2,h3⟩:=h.cons_inv;exact RpIs.cons hx h3
 | d::ds,xs,n+1,h=>by obtain⟨y,r,rfl,h2,h3⟩:=h.cons_inv;exact RpIs.cons h2 (RpIs.set hx n h3)
theorem RpIs.ints {K:yF}{H:Hp}:∀(ns:List Int),RpIs K H (ns.map I.int) (ns.map V.int)
 | []=>RpIs.nil
 | n::ns=>RpIs.cons (by rw[RpI]) (RpIs.ints ns)
theorem Rps.nil {K:yF}{H:Hp}:Rps K H [] [] []:=by rw[Rps];exact⟨rfl,rfl⟩
theorem Rps.cons {K:yF}{H:Hp}{t:T}{ts:List T}{x:V}{xs:List V}{F F':List Addr}(h:Rp K H t x F)(hs:Rps K H ts xs F'):Rps K H (t::ts) (x::xs) (F++F'):=by rw[Rps];exact⟨x,xs,F,F',rfl,h,hs,rfl⟩
theorem Rps.cons_inv {K:yF}{H:Hp}{t:T}{ts:List T}{xs:List V}{F:List Addr}(h:Rps K H (t::ts) xs F):∃x r F1 F2,xs=x::r/\Rp K H t x F1/\Rps K H ts r F2/\F=F1++F2:=by rw[Rps]at h;exact h
theorem Rps.nil_inv {K:yF}{H:Hp}{xs:List V}{F:List Addr}(h:Rps K H [] xs F):xs=[]/\F=[]:=by rw[Rps]at h;exact h
theorem Rps.length {K:yF}{H:Hp}:∀{ts:List T} {xs:List V} {F:List Addr},Rps K H ts xs F->xs.length=ts.length
 | [],xs,_,h=>by rw[h.nil_inv.1];rfl
 | d::ds,xs,_,h=>by obtain⟨x,r,_,_,rfl,_,h3,_⟩:=h.cons_inv;rw[BF,BF,h3.length]
theorem Rps.append {K:yF}{H:Hp}:∀{ds es:List T} {xs ys:List V} {F G:List Addr},Rps K H ds xs F->Rps K H es ys G->Rps K H (ds++es) (xs++ys) (F++G)
 | [],es,xs,ys,F,G,h,h'=>by obtain⟨rfl,rfl⟩:=h.nil_inv;exact h'
 | d::ds,es,xs,ys,F,G,h,h'=>by
  obtain⟨x,r,F1,F2,rfl,h2,h3,rfl⟩:=h.cons_inv
  rw[BK]
  exact Rps.cons h2 (Rps.append h3 h')
theorem Rps.at {K:yF}{H:Hp}:∀{ts:List T} {xs:List V} {F:List Addr} {i:Nat} {t:T},Rps K H ts xs F->ts[i]?=some t →
  ∃x A G B,xs[i]?=some x/\Rp K H t x G/\F=A++G++B/\Rps K H (ts.take i) (xs.take i) A/\Rps K H (ts.drop (i+1)) (xs.drop (i+1)) B
 | [],_,_,_,_,_,e=>by simp at e
 | d::ds,xs,_,0,d',h,e=>by
  obtain⟨x,r,F1,F2,rfl,h2,h3,rfl⟩:=h.cons_inv
  simp at e;subst e
  exact⟨x,[],F1,F2,rfl,h2,by simp,Rps.nil,by simpa using h3⟩
 | d::ds,xs,_,i+1,d',h,e=>by
  obtain⟨x,r,F1,F2,rfl,h2,h3,rfl⟩:=h.cons_inv
  obtain⟨y,A,G,B,h4,h5,h6,h7,h8⟩:=Rps.at (i:=i) h3 (by simpa using e)
  refine⟨y,F1++A,G,B,by simpa using h4,h5,by rw[h6];simp,?_,by simpa using h8⟩
  simpa using Rps.cons h2 h7
theorem Rps.take {K:yF}{H:Hp}:∀{ds:List T} {xs:List V} {F:List Addr} (n:Nat),Rps K H ds xs F->∃G G',Rps K H (ds.take n) (xs.take n) G/\Rps K H (ds.drop n) (xs.drop n) G'/\F=G++G'
 | ds,xs,F,0,h=>⟨[],F,by simp only[El];exact Rps.nil,by simpa using h,rfl⟩
 | [],xs,F,n+1,h=>by obtain⟨rfl,rfl⟩:=h.nil_inv;exact⟨[],[],Rps.nil,Rps.nil,rfl⟩
 | d::ds,xs,F,n+1,h=>by
  obtain⟨x,r,F1,F2,rfl,h2,h3,rfl⟩:=h.cons_inv
  obtain⟨G,G',g1,g2,rfl⟩:=Rps.take n h3
  exact⟨F1++G,G',Rps.cons h2 g1,g2,by rw[BK]⟩
theorem Rps.ims {K:yF}{H:Hp}:∀{is:List I} {xs:List V} {F:List Addr},Rps K H (is.map T.im) xs F↔(RpIs K H is xs/\F=[])
 | [],xs,F=>by rw[CL,Rps,RpIs]
 | i::is,xs,F=>by
  rw[Bt,Rps,RpIs]
  constructor
  ·rintro⟨x,r,F1,F2,rfl,h1,h2,rfl⟩
   rw[Rp]at h1
   have:=Rps.ims.mp h2
   exact⟨⟨x,r,rfl,h1.1,this.1⟩,by rw[h1.2,this.2];rfl⟩
  ·rintro⟨⟨x,r,rfl,h1,h2⟩,rfl⟩
   exact⟨x,r,[],[],rfl,by rw[Rp];exact⟨h1,rfl⟩,Rps.ims.mpr ⟨h2,rfl⟩,rfl⟩
theorem ff {K:yF}{H:Hp}{i:I}{v:V}(h:RpI K H i v):Rp K H (.im i) v []:=by rw[Rp];exact⟨h,rfl⟩
theorem aZ {K:yF}{H:Hp}{i:I}{v:V}{F:List Addr}(h:Rp K H (.im i) v F):RpI K H i v/\F=[]:=by rw[Rp]at h;exact h
noncomputable def I.sc:I->Option V
 | .non=>some .non|.bl b=>some (.bl b)|.int i=>some (.int i)|.str x=>some (.str x)|.tup _=>none|.ls _=>none|.fd _ _=>none
theorem gP {t:I}{K:yF}{H:Hp}{v:V}(h:t.sc=some v):RpI K H t v:=by
 cases t<;>simp only[I.sc]at h<;>cases h<;>rw[RpI]
theorem vG {t:I}{K:yF}{H:Hp}{v w:V}(h:t.sc=some v)(r:RpI K H t w):w=v:=by
 cases t<;>simp only[I.sc]at h<;>cases h<;>rw[RpI]at r<;>exact r
inductive Ac where
 | ix (n:Nat)|ky (k:I)|fd (f:Str)
 deriving DecidableEq
noncomputable def dw {κ α:Type} [DecidableEq κ]:List (κ × α)->κ->Option α
 | [],_=>none
 | (k',t)::r,k=>if k'=k then some t else dw r k
noncomputable def iE {κ α:Type} [DecidableEq κ]:List (κ × α)->κ->α->List (κ × α)
 | [],_,_=>[]
 | (k',t)::r,k,s=>if k'=k then(k',s)::r else(k',t)::iE r k s
noncomputable def gD:T->Ac->Option T
 | .lst ts,.ix n=>ts[n]?
 | .dc kvs,.ky k=>dw kvs k
 | .ins _ fs,.fd f=>dw fs f
 | _,_=>none
noncomputable def xF:T->Ac->T->T
 | .lst ts,.ix n,s=>.lst (ts.set n s)
 | .dc kvs,.ky k,s=>.dc (iE kvs k s)
 | .ins C fs,.fd f,s=>.ins C (iE fs f s)
 | t,_,_=>t
noncomputable def T.sub:T->List Ac->Option T
 | t,[]=>some t
 | t,a::p=>(gD t a).bind λs=>s.sub p
noncomputable def T.put:T->List Ac->T->T
 | _,[],s=>s
 | t,a::p,s=>match gD t a with
  | some u=>xF t a (u.put p s)
  | none=>t
def at1 (K:yF)(H:Hp):V->Ac->V->Prop
 | v,.ix n,w=>∃a xs,v=.ref a/\H a=some (.lst xs)/\xs[n]?=some w
 | v,.ky k,w=>∃a ys,v=.ref a/\DAt K H a ys/\dw ys k=some w
 | v,.fd f,w=>∃a C dx ys,v=.ref a/\H a=some (.ins C dx ys)/\dw ys f=some w
def atP (K:yF)(H:Hp):V->List Ac->V->Prop
 | v,[],w=>w=v
 | v,a::p,w=>∃u,at1 K H v a u/\atP K H u p w
theorem DAt.det {K:yF}{H:Hp}{a:Addr}{xs ys:List (I×V)}(h:DAt K H a xs)(g:DAt K H a ys):xs=ys:=by
 obtain⟨zs,h1,rfl⟩:=h
 obtain⟨zs',h2,rfl⟩:=g
 rw[h1]at h2;cases h2;rfl
theorem mr {K:yF}{H:Hp}{v w w':V}{a:Ac}(h:at1 K H v a w)(g:at1 K H v a w'):w=w':=by
 cases a with
 | ix n=>
  obtain⟨a,xs,rfl,h1,h2⟩:=h
  obtain⟨a',xs',e,g1,g2⟩:=g
  cases e;rw[h1]at g1;cases g1;rw[h2]at g2;cases g2;rfl
 | ky k=>
  obtain⟨a,xs,rfl,h1,h2⟩:=h
  obtain⟨a',xs',e,g1,g2⟩:=g
  cases e
  have:=h1.det g1
  subst this
  rw[h2]at g2;cases g2;rfl
 | fd f=>
  obtain⟨a,C,dx,xs,rfl,h1,h2⟩:=h
  obtain⟨a',C',dx',xs',e,g1,g2⟩:=g
  cases e;rw[h1]at g1;cases g1;rw[h2]at g2;cases g2;rfl
theorem fG {K:yF}{H:Hp}:∀{p:List Ac} {v w w':V},atP K H v p w->atP K H v p w'->w=w'
 | [],v,w,w',h,g=>by rw[atP]at h g;rw[h,g]
 | a::p,v,w,w',h,g=>by
  rw[atP]at h g
  obtain⟨u,h1,h2⟩:=h
  obtain⟨u',g1,g2⟩:=g
  have:=mr h1 g1
  subst this
  exact fG h2 g2
theorem mw {K:yF}{H:Hp}{a:Ac}:∀{p:List Ac} {v w u:V},atP K H v p w->at1 K H w a u->atP K H v (p++[a]) u
 | [],v,w,u,h,g=>by rw[atP]at h;subst h;exact⟨u,g,rfl⟩
 | b::p,v,w,u,h,g=>by
  rw[atP]at h
  obtain⟨x,h1,h2⟩:=h
  exact⟨x,h1,mw h2 g⟩
theorem nj {a:Ac}:∀{p:List Ac} {t s u:T},t.sub p=some s->gD s a=some u->t.sub (p++[a])=some u
 | [],t,s,u,h,g=>by rw[T.sub]at h;cases h;rw[Cf,T.sub,g];rfl
 | b::p,t,s,u,h,g=>by
  rw[T.sub]at h
  rw[BV,T.sub]
  cases e:gD t b with
  | none=>rw[e]at h;cases h
  | some x=>rw[e]at h;exact nj (p:=p) h g
section
variable  {K:yF}{H:Hp}
theorem Rpk.at {k:I}:∀{ts:List (I×T)} {xs:List (I×V)} {F:List Addr} {t:T},Rpk K H ts xs F->dw ts k=some t →
  ∃x A G B,dw xs k=some x/\Rp K H t x G/\F=A++G++B/\∀H' s' G',(∀{u:T} {w:V} {F':List Addr},(∀a∈F',a∈A∨a∈B)->Rp K H u w F'->Rp K H' u w F')->Rp K H' s' x G'->Rpk K H' (iE ts k s') xs (A++G'++B)
 | [],xs,F,t,h,e=>by simp[dw]at e
 | (k',d)::ds,xs,F,t,h,e=>by
  rw[Rpk]at h
  obtain⟨x,r,F1,F2,rfl,h2,h3,rfl⟩:=h
  by_cases hk:k'=k
  ·subst hk
   simp[dw]at e
   subst e
   refine⟨x,[],F1,F2,by simp[dw],h2,by simp,λH' s' G' st q=>?_⟩
   simp only[iE,if_pos]
   rw[Rpk]
   refine⟨x,r,G',F2,rfl,q,?_,by simp⟩
   have:∀{ts:List (I×T)} {xs:List (I×V)} {F:List Addr},(∀a∈F,a∈F2)->Rpk K H ts xs F->Rpk K H' ts xs F:=by
    intro ts
    induction ts with
    | nil=>intro xs F _ h;rw[Rpk]at h⊢;exact h
    | cons p ts ih=>
     intro xs F hF h
     obtain⟨k2,t2⟩:=p
     rw[Rpk]at h⊢
     obtain⟨y,r,G1,G2,h1,h2,h3,rfl⟩:=h
     exact⟨y,r,G1,G2,h1,st (λa ha=>.inr (hF a (yaL _ ha))) h2,ih (λa ha=>hF a (yaR _ ha)) h3,rfl⟩
   exact this (λa ha=>ha) h3
  ·simp[dw,hk]at e
   obtain⟨y,A,G,B,h4,h5,h6,h7⟩:=Rpk.at h3 e
   refine⟨y,F1++A,G,B,by simp[dw,hk,h4],h5,by rw[h6];simp,λH' s' G' st q=>?_⟩
   simp only[iE,if_neg hk]
   rw[Rpk]
   exact⟨x,r,F1,A++G'++B,rfl,st (λa ha=>.inl (yaL _ ha)) h2,h7 H' s' G' (λha=>st (λa h=>(ha a h).imp (yaR _) id)) q,by simp⟩
theorem Rpf.at {k:Str}:∀{ts:List (Str×T)} {xs:List (Str×V)} {F:List Addr} {t:T},Rpf K H ts xs F->dw ts k=some t →
  ∃x A G B,dw xs k=some x/\Rp K H t x G/\F=A++G++B/\∀H' s' G',(∀{u:T} {w:V} {F':List Addr},(∀a∈F',a∈A∨a∈B)->Rp K H u w F'->Rp K H' u w F')->Rp K H' s' x G'->Rpf K H' (iE ts k s') xs (A++G'++B)
 | [],xs,F,t,h,e=>by simp[dw]at e
 | (k',d)::ds,xs,F,t,h,e=>by
  rw[Rpf]at h
  obtain⟨x,r,F1,F2,rfl,h2,h3,rfl⟩:=h
  by_cases hk:k'=k
  ·subst hk
   simp[dw]at e
   subst e
   refine⟨x,[],F1,F2,by simp[dw],h2,by simp,λH' s' G' st q=>?_⟩
   simp only[iE,if_pos]
   rw[Rpf]
   refine⟨x,r,G',F2,rfl,q,?_,by simp⟩
   have:∀{ts:List (Str×T)} {xs:List (Str×V)} {F:List Addr},(∀a∈F,a∈F2)->Rpf K H ts xs F->Rpf K H' ts xs F:=by
    intro ts
    induction ts with
    | nil=>intro xs F _ h;rw[Rpf]at h⊢;exact h
    | cons p ts ih=>
     intro xs F hF h
     obtain⟨k2,t2⟩:=p
     rw[Rpf]at h⊢
     obtain⟨y,r,G1,G2,h1,h2,h3,rfl⟩:=h
     exact⟨y,r,G1,G2,h1,st (λa ha=>.inr (hF a (yaL _ ha))) h2,ih (λa ha=>hF a (yaR _ ha)) h3,rfl⟩
   exact this (λa ha=>ha) h3
  ·simp[dw,hk]at e
   obtain⟨y,A,G,B,h4,h5,h6,h7⟩:=Rpf.at h3 e
   refine⟨y,F1++A,G,B,by simp[dw,hk,h4],h5,by rw[h6];simp,λH' s' G' st q=>?_⟩
   simp only[iE,if_neg hk]
   rw[Rpf]
   exact⟨x,r,F1,A++G'++B,rfl,st (λa ha=>.inl (yaL _ ha)) h2,h7 H' s' G' (λha=>st (λa h=>(ha a h).imp (yaR _) id)) q,by simp⟩
theorem Mu.lst {a:Addr}{xs:List V}(m:Mu H a)(h:Rd H a (.lst xs)):H a=some (.lst xs):=by
 rcases h with h|⟨o,h⟩
 ·exact h
 ·obtain⟨u,e,m⟩:=m;rw[h]at e;cases e;cases m
theorem Rps.stay {H':Hp}:∀{ts:List T} {xs:List V} {F:List Addr},(∀{u:T} {w:V} {F':List Addr},(∀a∈F',a∈F)->Rp K H u w F'->Rp K H' u w F')->Rps K H ts xs F->Rps K H' ts xs F
 | [],_,_,_,h=>by rw[Rps]at h⊢;exact h
 | t::ts,_,_,n,h=>by
  rw[Rps]at h⊢;obtain⟨y,r,F1,F2,h1,h2,h3,rfl⟩:=h
  exact⟨y,r,F1,F2,h1,n (λa ha=>yaL _ ha) h2,Rps.stay (λha=>n λa h=>yaR _ (ha a h)) h3,rfl⟩
theorem Rp.at1 {t s:T}{v:V}{F:List Addr}{a:Ac}(h:Rp K H t v F)(mu:∀b∈F,Mu H b)(nd:F.Nodup)(e:gD t a=some s) :
  ∃w A G B,L2.at1 K H v a w/\Rp K H s w G/\F=A++G++B/\∀H' s' G',OffM G H H'->Rp K H' s' w G'->Rp K H' (xF t a s') v (A++G'++B):=by
 have dj:∀{A G B:List Addr},F=A++G++B->∀b,(b∈A∨b∈B)->b∉G:=by
  intro A G B e b hb hg
  rw[e]at nd
  rcases hb with hb|hb
  ·exact(Bx.mp (Bx.mp nd).1).2.2 b hb b hg rfl
  ·exact(Bx.mp nd).2.2 b (yaR _ hg) b hb rfl
 have muG:∀{A G B:List Addr},F=A++G++B->∀b∈G,Mu H b:=λe b hb=>mu b (by rw[e];simp[hb])
 cases t with
 | lst ts=>
  cases a with
  | ix n=>
   rw[Rp]at h
   obtain⟨a,xs,F',rfl,h2,h3,rfl⟩:=h
   have ha:=(mu a ymS).lst h2
   obtain⟨x,A,G,B,h4,h5,h6,h7,h8⟩:=h3.at e
   have e':a::F'=(a::A)++G++B:=by rw[h6];simp
   refine⟨x,a::A,G,B,⟨a,xs,rfl,ha,h4⟩,h5,e',λH' s' G' off q=>?_⟩
   have st:∀{u:T} {w:V} {F':List Addr},(∀b∈F',b∈A∨b∈B)->Rp K H u w F'->Rp K H' u w F':=λhb r=>r.off off (muG e') (λb z=>dj e' b ((hb b z).imp (ymC _) id))
   show Rp K H' (.lst (ts.set n s')) (.ref a) _
   rw[Rp]
   refine⟨a,xs,A++G'++B,rfl,.inl (off a _ ha (dj e' a (.inl ymS))),?_,by simp⟩
   have hn:n<ts.length:=(Bs.mp e).1
   have hn':n<xs.length:=(Bs.mp h4).1
   have e1:ts.set n s'=ts.take n++s'::ts.drop (n+1):=by rw[List.set_eq_take_append_cons_drop,if_pos hn]
   have e2:xs=xs.take n++x::xs.drop (n+1):=by
    have:=Bs.mp h4
    obtain⟨hl,hx⟩:=this
    conv=>lhs;rw[←CZ n xs,CH hl,hx]
   rw[e1,e2,BK]
   exact Rps.append (Rps.stay (λhb=>st λb z=>.inl (hb b z)) h7) (Rps.cons q (Rps.stay (λhb=>st λb z=>.inr (hb b z)) h8))
  | ky k=>cases e
  | fd k=>cases e
 | dc kvs=>
  cases a with
  | ky k=>
   rw[Rp]at h
   obtain⟨a,xs,F',rfl,h2,h3,rfl⟩:=h
   obtain⟨x,A,G,B,h4,h5,h6,h7⟩:=h3.at e
   have e':a::F'=(a::A)++G++B:=by rw[h6];simp
   refine⟨x,a::A,G,B,⟨a,xs,rfl,h2,h4⟩,h5,e',λH' s' G' off q=>?_⟩
   have st:∀{u:T} {w:V} {F':List Addr},(∀b∈F',b∈A∨b∈B)->Rp K H u w F'->Rp K H' u w F':=λhb r=>r.off off (muG e') (λb z=>dj e' b ((hb b z).imp (ymC _) id))
   show Rp K H' (.dc (iE kvs k s')) (.ref a) _
   rw[Rp]
   exact⟨a,xs,A++G'++B,rfl,h2.off off (dj e' a (.inl ymS)),h7 H' s' G' st q,by simp⟩
  | ix k=>cases e
  | fd k=>cases e
 | ins C fs=>
  cases a with
  | fd k=>
   rw[Rp]at h
   obtain⟨a,dx,xs,F',rfl,h2,h3,rfl⟩:=h
   obtain⟨x,A,G,B,h4,h5,h6,h7⟩:=h3.at e
   have e':a::F'=(a::A)++G++B:=by rw[h6];simp
   refine⟨x,a::A,G,B,⟨a,C,dx,xs,rfl,h2,h4⟩,h5,e',λH' s' G' off q=>?_⟩
   have st:∀{u:T} {w:V} {F':List Addr},(∀b∈F',b∈A∨b∈B)->Rp K H u w F'->Rp K H' u w F':=λhb r=>r.off off (muG e') (λb z=>dj e' b ((hb b z).imp (ymC _) id))
   show Rp K H' (.ins C (iE fs k s')) (.ref a) _
   rw[Rp]
   exact⟨a,dx,xs,A++G'++B,rfl,off a _ h2 (dj e' a (.inl ymS)),h7 H' s' G' st q,by simp⟩
  | ix k=>cases e
  | ky k=>cases e
 | im _=>cases a<;>cases e
 | tup _=>cases a<;>cases e
 | li _=>cases a<;>cases e
 | di _=>cases a<;>cases e
theorem Rp.atP:∀{p:List Ac} {t s:T} {v:V} {F:List Addr},Rp K H t v F->(∀b∈F,Mu H b)->F.Nodup->t.sub p=some s →
  ∃w A G B,L2.atP K H v p w/\Rp K H s w G/\F=A++G++B/\∀H' s' G',OffM G H H'->Rp K H' s' w G'->Rp K H' (t.put p s') v (A++G'++B)
 | [],t,s,v,F,h,mu,nd,e=>by
  rw[T.sub]at e;cases e
  exact⟨v,[],F,[],rfl,h,by simp,λH' s' G' _ q=>by rw[T.put];simpa using q⟩
 | a::p,t,s,v,F,h,mu,nd,e=>by
  rw[T.sub]at e
  cases e1:gD t a with
  | none=>rw[e1]at e;cases e
  | some u=>
   rw[e1]at e
   obtain⟨w,A,G,B,h1,h2,rfl,h4⟩:=h.at1 mu nd e1
   have nd2:=(Bx.mp (Bx.mp nd).1).2.1
   obtain⟨x,A',G',B',g1,g2,rfl,g4⟩:=Rp.atP (p:=p) h2 (λb hb=>mu b (yaL _ (yaR _ hb))) nd2 e
   refine⟨x,A++A',G',B'++B,⟨w,h1,g1⟩,g2,by simp,λH' s' G2 off q=>?_⟩
   rw[T.put,e1]
   have:=h4 H' (u.put p s') (A'++G2++B') (off.mono λb hb=>by simp[hb]) (g4 H' s' G2 off q)
   simpa using this
end
inductive Kd where
 | ow|io (k:Nat)|vw (r:Option Nat) (p:Option (List Ac))
structure R where
 k:Kd
 t:T
structure En where
 key:Option Nat
 v:V
 r:R
structure Hd where
 e:En
 F:List Addr
structure Gm where
 K:yF
 H0:Hp
 io:List Addr
 iov:List V
noncomputable def Kd.isOw:Kd->Bool
 | .vw _ _=>false|_=>true
noncomputable def Kd.root:Kd->Option Nat
 | .vw r _=>r|_=>none
noncomputable def Hd.own (h:Hd):List Addr:=if h.e.r.k.isOw=true then h.F else []
def KdOk (Γ:Gm)(H:Hp)(L:List Hd)(h:Hd):Prop:=match h.e.r.k with
 | .ow=>∀a∈h.F,Γ.H0 a=none
 | .io k=>Γ.iov[k]?=some h.e.v
 | .vw none _=>∀a∈h.F,a∉L.flatMap Hd.own
 | .vw (some j) p=>∃g∈L,g.e.key=some j/\g.e.r.k.isOw=true/\(∀a∈h.F,a∈g.F∨a∉L.flatMap Hd.own)/\∀q,p=some q->g.e.r.t.sub q=some h.e.r.t/\atP Γ.K H g.e.v q h.e.v
structure GW (Γ:Gm)(H:Hp)(L:List Hd):Prop where
 nd:(L.flatMap Hd.own).Nodup
 ad:∀a∈L.flatMap Hd.own,Mu H a/\(Γ.H0 a=none∨a ∈ Γ.io)
 rp:∀h∈L,Rp Γ.K H h.e.r.t h.e.v h.F
 kd:∀h∈L,KdOk Γ H L h
 ks:(L.filterMap λh=>h.e.key).Nodup
 fr:∀b o,Γ.H0 b=some o->b∉Γ.io->H b=some o
 iol:∀a ∈ Γ.io,∃o,H a=some o
section
variable  {Γ:Gm}{H H':Hp}{L L':List Hd}{h:Hd}
theorem KdOk.sub (k:KdOk Γ H L h)(s:∀g∈L,g.e.r.k.isOw=true->g∈L')(o:∀a∈L'.flatMap Hd.own,a∈L.flatMap Hd.own):KdOk Γ H L' h:=by
 unfold KdOk at k⊢
 split at k
 ·exact k
 ·exact k
 ·exact λa ha z=>k a ha (o a z)
 ·obtain⟨g,h1,h2,h3,h4,h5⟩:=k
  exact⟨g,s g h1 h3,h2,h3,λa ha=>(h4 a ha).imp id λz w=>z (o a w),h5⟩
theorem GW.perm (G:GW Γ H L)(p:L.Perm L'):GW Γ H L':=
 ⟨(p.flatMap_right _).nodup_iff.mp G.nd,λa ha=>G.ad a ((p.flatMap_right _).mem_iff.mpr ha),λh hh=>G.rp h (p.mem_iff.mpr hh),λh hh=>(G.kd h (p.mem_iff.mpr hh)).sub (λg hg _=>p.mem_iff.mp hg) (λa ha=>(p.flatMap_right _).mem_iff.mpr ha),(p.filterMap _).nodup_iff.mp G.ks,G.fr,G.iol⟩
theorem gX (s:L'.Sublist L):(L'.flatMap Hd.own).Sublist (L.flatMap Hd.own):=by
 induction s with
 | slnil=>exact List.Sublist.refl _
 | cons a s ih=>rw[BE];exact ih.trans (List.sublist_append_right _ _)
 | cons_cons a s ih=>rw[BE,BE];exact(List.Sublist.refl _).append ih
theorem GW.sub (G:GW Γ H L)(s:L'.Sublist L)(ro:∀h∈L',∀j,h.e.r.k.root=some j->∀g∈L,g.e.key=some j->g.e.r.k.isOw=true->g∈L'):GW Γ H L':=by
 refine⟨(gX s).nodup G.nd,λa ha=>G.ad a ((gX s).subset ha),λh hh=>G.rp h (s.subset hh),λh hh=>?_,(s.filterMap _).nodup G.ks,G.fr,G.iol⟩
 have k:=G.kd h (s.subset hh)
 unfold KdOk at k⊢
 split at k
 ·exact k
 ·exact k
 ·exact λa ha z=>k a ha ((gX s).subset z)
 ·rename_i j p e
  obtain⟨g,h1,h2,h3,h4,h5⟩:=k
  exact⟨g,ro h hh j (by rw[e];rfl) g h1 h2 h3,h2,h3,λa ha=>(h4 a ha).imp id λz w=>z ((gX s).subset w),h5⟩
theorem GW.drop (G:GW Γ H (h::L))(hk:h.e.key=none):GW Γ H L:=by
 refine G.sub (DH _ _) λg hg j _ x hx hj _=>?_
 rcases ycM hx with rfl|hx
 ·rw[hk]at hj;cases hj
 ·exact hx
theorem GW.dropK (G:GW Γ H (h::L))(hr:∀g∈L,∀j,h.e.key=some j->g.e.r.k.root≠some j):GW Γ H L:=by
 refine G.sub (DH _ _) λg hg j hj x hx hk _=>?_
 rcases ycM hx with rfl|hx
 ·exact absurd hj (hr g hg j hk)
 ·exact hx
theorem GW.filter (G:GW Γ H L)(p:Hd->Bool)(hp:∀h∈L,h.e.r.k.isOw=true->p h=true):GW Γ H (L.filter p):=
 G.sub Ce λh hh j hj g hg hk ho=>BC.mpr ⟨hg,hp g hg ho⟩
theorem GW.new0 (G:GW Γ H L){a:Addr}(e:H a=none) : Γ.H0 a=none:=by
 cases q : Γ.H0 a with
 | none=>rfl
 | some o=>
  exfalso
  by_cases hio:a ∈ Γ.io
  ·obtain⟨o,e'⟩:=G.iol a hio;rw[e]at e';cases e'
  ·have:=G.fr a o q hio;rw[e]at this;cases this
theorem GW.push (G:GW Γ H L){v:V}{r:R}{F:List Addr}(hr:Rp Γ.K H r.t v F)(hk:KdOk Γ H L ⟨⟨none,v,r⟩,F⟩)(hF:r.k.isOw=false∨F=[]):GW Γ H (⟨⟨none,v,r⟩,F⟩::L):=by
 have e:Hd.own ⟨⟨none,v,r⟩,F⟩=[]:=by
  unfold Hd.own
  rcases hF with h|h
  ·simp[h]
  ·simp[h]
 refine⟨by rw[BE,e];exact G.nd,λa ha=>G.ad a (by rw[BE,e]at ha;exact ha),λx hx=>?_,λx hx=>?_,?_,G.fr,G.iol⟩
 ·rcases ycM hx with rfl|hx
  ·exact hr
  ·exact G.rp x hx
 ·rcases ycM hx with rfl|hx
  ·exact hk.sub (λg hg _=>ymC _ hg) (λa ha=>by rw[BE,e]at ha;exact ha)
  ·exact(G.kd x hx).sub (λg hg _=>ymC _ hg) (λa ha=>by rw[BE,e]at ha;exact ha)
 ·rw[BP];exact G.ks
theorem GW.rekey (G:GW Γ H (h::L))(hk:h.e.key=none){key:Option Nat}(hn:∀j,key=some j->j∉L.filterMap λh=>h.e.key):GW Γ H (⟨⟨key,h.e.v,h.e.r⟩,h.F⟩::L):=by
 have eo:((⟨⟨key,h.e.v,h.e.r⟩,h.F⟩:Hd)::L).flatMap Hd.own=(h::L).flatMap Hd.own:=rfl
 have ro:∀x∈L,KdOk Γ H (h::L) x->KdOk Γ H (⟨⟨key,h.e.v,h.e.r⟩,h.F⟩::L) x:=λx hx k=>by
  unfold KdOk at k⊢
  split at k
  ·exact k
  ·exact k
  ·exact k
  ·obtain⟨g,h1,h2,h3⟩:=k
   rcases ycM h1 with rfl|h1
   ·rw[hk]at h2;cases h2
   ·exact⟨g,ymC _ h1,h2,h3⟩
 refine⟨G.nd,G.ad,λx hx=>?_,λx hx=>?_,?_,G.fr,G.iol⟩
 ·rcases ycM hx with rfl|hx
  ·exact G.rp h ymS
  ·exact G.rp x (ymC _ hx)
 ·rcases ycM hx with rfl|hx
  ·have k:=G.kd h ymS
   unfold KdOk at k⊢
   split at k
   ·rename_i e;simp only[e];exact k
   ·rename_i e;simp only[e];exact k
   ·rename_i e;simp only[e];exact k
   ·rename_i e
    simp only[e]
    obtain⟨g,h1,h2,h3⟩:=k
    rcases ycM h1 with rfl|h1
    ·rw[hk]at h2;cases h2
    ·exact⟨g,ymC _ h1,h2,h3⟩
  ·exact ro x hx (G.kd x (ymC _ hx))
 ·have g:=G.ks
  rw[BP,hk]at g
  rw[BP]
  cases key with
  | none=>exact g
  | some j=>exact BS.mpr ⟨hn j rfl,g⟩
theorem fU {a:Addr}(ho:h.e.r.k.isOw=true)(ha:a∈h.F):a∈h.own:=by unfold Hd.own;rw[if_pos ho];exact ha
theorem GW.apart {hs:List Hd}(G:GW Γ H (hs++L))(hr:∀g∈L,∀h∈hs,∀j,h.e.key=some j->g.e.r.k.root≠some j)(ho:∀h∈hs,h.e.r.k.isOw=true):∀g∈L,∀a∈g.F,∀h∈hs,a∉h.F:=by
 intro g hg a ha h hh hah
 have nd:=G.nd
 rw[BH]at nd
 have h1:a∈hs.flatMap Hd.own:=Ci.mpr ⟨h,hh,fU (ho h hh) hah⟩
 have out:a∉(hs++L).flatMap Hd.own->False:=λn=>n (by rw[BH];exact yaL _ h1)
 have k:=G.kd g (yaR _ hg)
 have own:∀x∈L,x.e.r.k.isOw=true->a∈x.F->False:=λx hx ox hax=>
  (Bx.mp nd).2.2 a h1 a (Ci.mpr ⟨x,hx,fU ox hax⟩) rfl
 unfold KdOk at k
 split at k
 ·rename_i e;exact own g hg (by rw[e];rfl) ha
 ·rename_i e;exact own g hg (by rw[e];rfl) ha
 ·exact out (k a ha)
 ·rename_i j p e
  obtain⟨x,h1',h2,h3,h4,_⟩:=k
  rcases h4 a ha with z|z
  ·rcases yaM h1' with hx|hx
   ·exact hr g hg x hx j h2 (by rw[e];rfl)
   ·exact own x hx h3 z
  ·exact out z
theorem jN {M:List Addr}(off:OffM M H H'){F:List Addr}(hF:∀a∈F,a∉M)(mu:∀a∈F,Mu H a):∀{q:List Ac} {t s:T} {v w:V} {F':List Addr},(∀a∈F',a∈F)->F'.Nodup->Rp Γ.K H t v F'->t.sub q=some s->atP Γ.K H v q w->atP Γ.K H' v q w
 | [],_,_,_,_,_,_,_,_,_,h=>h
 | a::q,t,s,v,w,F',hs,nd,r,e,h=>by
  rw[atP]at h⊢
  obtain⟨u,h1,h2⟩:=h
  rw[T.sub]at e
  cases e1:gD t a with
  | none=>rw[e1]at e;cases e
  | some x=>
   rw[e1]at e
   obtain⟨y,A,G,B,g1,g2,rfl,_⟩:=r.at1 (λb hb=>mu b (hs b hb)) nd e1
   have:=mr h1 g1
   subst this
   refine⟨u,?_,jN off hF mu (λb hb=>hs b (yaL _ (yaR _ hb))) (Bx.mp (Bx.mp nd).1).2.1 g2 e h2⟩
   cases a with
   | ix n=>
    obtain⟨b,xs,rfl,z1,z2⟩:=h1
    refine⟨b,xs,rfl,off b _ z1 (hF b ?_),z2⟩
    cases t<;>simp only[gD]at e1<;>try cases e1
    rw[Rp]at r
    obtain⟨b',xs',F'',eb,_,_,eF⟩:=r
    cases eb
    exact hs b (by rw[eF];exact ymS)
   | ky n=>
    obtain⟨b,xs,rfl,z1,z2⟩:=h1
    refine⟨b,xs,rfl,z1.off off (hF b ?_),z2⟩
    cases t<;>simp only[gD]at e1<;>try cases e1
    rw[Rp]at r
    obtain⟨b',xs',F'',eb,_,_,eF⟩:=r
    cases eb
    exact hs b (by rw[eF];exact ymS)
   | fd n=>
    obtain⟨b,C,dx,xs,rfl,z1,z2⟩:=h1
    refine⟨b,C,dx,xs,rfl,off b _ z1 (hF b ?_),z2⟩
    cases t<;>simp only[gD]at e1<;>try cases e1
    rw[Rp]at r
    obtain⟨b',dx',xs',F'',eb,_,_,eF⟩:=r
    cases eb
    exact hs b (by rw[eF];exact ymS)
theorem GW.ndF (G:GW Γ H L)(hh:h∈L)(ho:h.e.r.k.isOw=true):h.F.Nodup:=by
 have nd:=G.nd
 obtain⟨s,t,rfl⟩:=Da hh
 rw[BH,BE]at nd
 have:=(Bx.mp (Bx.mp nd).2.1).1
 unfold Hd.own at this
 rw[if_pos ho]at this
 exact this
theorem GW.muF (G:GW Γ H L)(hh:h∈L)(ho:h.e.r.k.isOw=true):∀a∈h.F,Mu H a:=λa ha=>(G.ad a (Ci.mpr ⟨h,hh,fU ho ha⟩)).1
theorem em {hs:List Hd}(ho:∀h∈hs,h.e.r.k.isOw=true):hs.flatMap Hd.own=hs.flatMap (·.F):=by
 induction hs with
 | nil=>rfl
 | cons x xs ih=>
  rw[BE,BE,ih λh hh=>ho h (ymC _ hh)]
  unfold Hd.own
  rw[if_pos (ho x ymS)]
theorem GW.step {hs:List Hd}(G:GW Γ H (hs++L))(ho:∀h∈hs,h.e.r.k.isOw=true)(hr:∀g∈L,∀h∈hs,∀j,h.e.key=some j->g.e.r.k.root≠some j)
  (off:OffM (hs.flatMap (·.F)) H H') (dom:∀a∈hs.flatMap (·.F),∃o,H' a=some o) {key:Option Nat} {v:V} {r:R} {F:List Addr} (nd:F.Nodup) (hF:∀a∈F,(a∈hs.flatMap (·.F)∨H a=none)/\Mu H' a) (hp:Rp Γ.K H' r.t v F)
  (hk:(r.k=.ow/\∀h∈hs,h.e.r.k=.ow) ∨ ∃k,r.k=.io k/\Γ.iov[k]?=some v) (hkey:∀j,key=some j->j∉L.filterMap λh=>h.e.key):GW Γ H' (⟨⟨key,v,r⟩,F⟩::L):=by
 have iow:r.k.isOw=true:=by rcases hk with⟨e,_⟩|⟨k,e,_⟩<;>rw[e]<;>rfl
 have eo:=em ho
 have G':=G.nd
 rw[BH,eo]at G'
 have nd1:=(Bx.mp G').2.1
 have dj:=(Bx.mp G').2.2
 have adL:∀a∈L.flatMap Hd.own,Mu H a/\(Γ.H0 a=none∨a ∈ Γ.io):=λa ha=>G.ad a (by rw[BH];exact yaR _ ha)
 have adM:∀a∈hs.flatMap (·.F),Mu H a/\(Γ.H0 a=none∨a ∈ Γ.io):=λa ha=>G.ad a (by rw[BH,eo];exact yaL _ ha)
 have ap:=G.apart hr ho
 have apM:∀g∈L,∀a∈g.F,a∉hs.flatMap (·.F):=λg hg a ha hm=>by
  obtain⟨h,hh,hah⟩:=Ci.mp hm
  exact ap g hg a ha h hh hah
 have eF:Hd.own ⟨⟨key,v,r⟩,F⟩=F:=by unfold Hd.own;rw[if_pos iow]
 have f0:∀a∈F,Γ.H0 a=none∨a ∈ Γ.io:=λa ha=>by
  rcases(hF a ha).1 with z|z
  ·exact(adM a z).2
  ·exact .inl (G.new0 z)
 refine⟨?_,λa ha=>?_,λx hx=>?_,λx hx=>?_,?_,λb o e n=>?_,λa ha=>?_⟩
 ·rw[BE,eF]
  refine Bx.mpr ⟨nd,nd1,λa ha b hb=>?_⟩
  rintro rfl
  rcases(hF a ha).1 with z|z
  ·exact dj a z a hb rfl
  ·obtain⟨o,e,_⟩:=(adL a hb).1
   rw[z]at e;cases e
 ·rw[BE,eF]at ha
  rcases yaM ha with ha|ha
  ·exact⟨(hF a ha).2,f0 a ha⟩
  ·obtain⟨⟨o,e,m⟩,z⟩:=adL a ha
   exact⟨⟨o,off a o e λhm=>dj a hm a ha rfl,m⟩,z⟩
 ·rcases ycM hx with rfl|hx
  ·exact hp
  ·exact(G.rp x (yaR _ hx)).off off (λa ha=>(adM a ha).1) (apM x hx)
 ·rcases ycM hx with rfl|hx
  ·unfold KdOk
   rcases hk with⟨e,eh⟩|⟨k,e,ek⟩
   ·simp only[e]
    intro a ha
    rcases(hF a ha).1 with z|z
    ·obtain⟨h,hh,hah⟩:=Ci.mp z
     have q:=G.kd h (yaL _ hh)
     unfold KdOk at q
     rw[eh h hh]at q
     exact q a hah
    ·exact G.new0 z
   ·simp only[e];exact ek
  ·have k:=G.kd x (yaR _ hx)
   have st:∀a∈x.F,a∉(hs++L).flatMap Hd.own->a∉((⟨⟨key,v,r⟩,F⟩:Hd)::L).flatMap Hd.own:=λa ha n z=>by
    rw[BE,eF]at z
    rcases yaM z with z|z
    ·rcases(hF a z).1 with w|w
     ·exact n (by rw[BH,eo];exact yaL _ w)
     ·obtain⟨o,e⟩:=(G.rp x (yaR _ hx)).dom a ha
      rw[w]at e;cases e
    ·exact n (by rw[BH];exact yaR _ z)
   unfold KdOk at k⊢
   split at k
   ·exact k
   ·exact k
   ·exact λa ha=>st a ha (k a ha)
   ·rename_i j p e
    obtain⟨g,h1,h2,h3,h4,h5⟩:=k
    rcases yaM h1 with hg|hg
    ·exact absurd (by rw[e];rfl) (hr x hx g hg j h2)
    ·refine⟨g,ymC _ hg,h2,h3,λa ha=>(h4 a ha).imp id (st a ha),λq hq=>⟨(h5 q hq).1,?_⟩⟩
     exact jN off (F:=g.F) (apM g hg) (G.muF (yaR _ hg) h3) (λa ha=>ha) (G.ndF (yaR _ hg) h3) (G.rp g (yaR _ hg)) (h5 q hq).1 (h5 q hq).2
 ·have g:=G.ks
  rw[CF]at g
  have g2:=(Bx.mp g).2.1
  rw[BP]
  cases key with
  | none=>exact g2
  | some j=>exact BS.mpr ⟨hkey j rfl,g2⟩
 ·refine off b o (G.fr b o e n) λhm=>?_
  rcases(adM b hm).2 with z|z
  ·rw[z]at e;cases e
  ·exact n z
 ·obtain⟨o,e⟩:=G.iol a ha
  by_cases hm:a∈hs.flatMap (·.F)
  ·exact dom a hm
  ·exact⟨o,off a o e hm⟩
end
theorem jv {α β:Type}{f : α->β}{N M:List β}(p:N.Perm M):∀L:List α,L.map f=N->∃L',L.Perm L'/\L'.map f=M:=by
 induction p with
 | nil=>intro L h;exact⟨L,List.Perm.refl _,h⟩
 | cons x p ih=>
  intro L h
  cases L with
  | nil=>cases h
  | cons a L=>
   rw[Bt,Cu.injEq]at h
   obtain⟨L',h1,h2⟩:=ih L h.2
   exact⟨a::L',h1.cons a,by rw[Bt,h.1,h2]⟩
 | swap x y l=>
  intro L h
  cases L with
  | nil=>cases h
  | cons a L=>
   cases L with
   | nil=>cases h
   | cons b L=>
    simp only[Bt,Cu.injEq]at h
    exact⟨b::a::L,List.Perm.swap _ _ _,by simp[h.1,h.2.1,h.2.2]⟩
 | trans p q ih1 ih2=>
  intro L h
  obtain⟨L1,h1,h2⟩:=ih1 L h
  obtain⟨L2,h3,h4⟩:=ih2 L1 h2
  exact⟨L2,h1.trans h3,h4⟩
def SimL (Γ:Gm)(H:Hp)(X:List En):Prop:=∃L,GW Γ H L/\L.map (·.e)=X
section
variable  {Γ:Gm}{H H':Hp}{X Y:List En}{e:En}
theorem SimL.perm (S:SimL Γ H X)(p:X.Perm Y):SimL Γ H Y:=by
 obtain⟨L,g,e⟩:=S
 obtain⟨L',h1,h2⟩:=jv p L e
 exact⟨L',g.perm h1,h2⟩
theorem aA {α β:Type}{f : α->β}{L:List α}{b : β}{X:List β}(h:L.map f=b::X):∃a L',L=a::L'/\f a=b/\L'.map f=X:=by
 cases L with
 | nil=>cases h
 | cons a L=>rw[Bt,Cu.injEq]at h;exact⟨a,L,rfl,h.1,h.2⟩
theorem cR {α β:Type}{f : α->β}:∀{A:List β} {L:List α} {B:List β},L.map f=A++B->∃L1 L2,L=L1++L2/\L1.map f=A/\L2.map f=B
 | [],L,B,h=>⟨[],L,rfl,rfl,h⟩
 | a::A,L,B,h=>by
  obtain⟨x,L',rfl,h1,h2⟩:=aA h
  obtain⟨L1,L2,rfl,h3,h4⟩:=cR h2
  exact⟨x::L1,L2,rfl,by rw[Bt,h1,h3],h4⟩
theorem SimL.drop (S:SimL Γ H (e::X))(hk:e.key=none):SimL Γ H X:=by
 obtain⟨L,g,h⟩:=S
 obtain⟨x,L',rfl,h1,h2⟩:=aA h
 subst h1
 exact⟨L',g.drop hk,h2⟩
theorem SimL.dropK (S:SimL Γ H (e::X))(hr:∀g∈X,∀j,e.key=some j->g.r.k.root≠some j):SimL Γ H X:=by
 obtain⟨L,g,h⟩:=S
 obtain⟨x,L',rfl,h1,h2⟩:=aA h
 subst h1
 refine⟨L',g.dropK λy hy j hj=>hr y.e (by rw[←h2];exact BW hy) j hj,h2⟩
noncomputable def az (M:List Nat) (e:En):Bool:=match e.r.k.root with
 | some j=>!M.contains j
 | none=>true
noncomputable def ae (M:List Nat) (E:List En):List En:=E.filter (az M)
theorem nW (e:En):az [] e=true:=by unfold az;split<;>rfl
theorem bn (E:List En):ae [] E=E:=by unfold ae;rw[Cy];intro a _;exact nW a
theorem aD (M:List Nat)(A B:List En):ae M (A++B)=ae M A++ae M B:=DZ ..
theorem ji (M N:List Nat)(e:En):az (M++N) e=(az N e&&az M e):=by
 unfold az
 split
 ·rename_i j _
  by_cases h1:j∈M<;>by_cases h2:j∈N<;>simp[h1,h2]
 ·rfl
theorem af (M N:List Nat)(E:List En):ae N (ae M E)=ae (M++N) E:=by
 unfold ae
 rw[Do]
 congr 1
 funext e
 rw[ji]
theorem SimL.kill (S:SimL Γ H X)(M:List Nat):SimL Γ H (ae M X):=by
 obtain⟨L,g,h⟩:=S
 refine⟨L.filter λx=>az M x.e,g.filter _ λx _ ho=>?_,?_⟩
 ·unfold az
  cases k:x.e.r.k with
  | vw r p=>rw[k]at ho;cases ho
  | ow=>rfl
  | io _=>rfl
 ·rw[←h];unfold ae;rw[Dh];rfl
theorem SimL.push (S:SimL Γ H X){v:V}{i:I}(h:RpI Γ.K H i v):SimL Γ H (⟨none,v,⟨.ow,.im i⟩⟩::X):=by
 obtain⟨L,g,hX⟩:=S
 exact⟨_,g.push (v:=v) (r:=⟨.ow,.im i⟩) (ff h) (λa ha=>by cases ha) (.inr rfl),by rw[Bt,hX]⟩
theorem SimL.rekey (S:SimL Γ H (e::X))(hk:e.key=none){key:Option Nat}(hn:∀j,key=some j->∀g∈X,g.key≠some j):SimL Γ H (⟨key,e.v,e.r⟩::X):=by
 obtain⟨L,g,h⟩:=S
 obtain⟨x,L',rfl,h1,h2⟩:=aA h
 subst h1
 refine⟨_,g.rekey hk (key:=key) λj hj hm=>?_,by rw[Bt,h2]⟩
 obtain⟨y,hy,hyk⟩:=B2.mp hm
 exact hn j hj y.e (by rw[←h2];exact BW hy) hyk
theorem SimL.rd (S:SimL Γ H X)(he:e∈X):∃F,Rp Γ.K H e.r.t e.v F:=by
 obtain⟨L,g,rfl⟩:=S
 obtain⟨h,hh,rfl⟩:=BB.mp he
 exact⟨h.F,g.rp h hh⟩
theorem SimL.view (S:SimL Γ H X)(he:e∈X){j:Nat}(hk:e.key=some j)(ho:e.r.k.isOw=true):SimL Γ H (⟨none,e.v,⟨.vw (some j) (some []),e.r.t⟩⟩::X):=by
 obtain⟨L,g,rfl⟩:=S
 obtain⟨h,hh,rfl⟩:=BB.mp he
 exact⟨_,g.push (v:=h.e.v) (r:=⟨.vw (some j) (some []),h.e.r.t⟩) (g.rp h hh) ⟨h,hh,hk,ho,λa ha=>.inl ha,λq hq=>by cases hq;exact⟨rfl,rfl⟩⟩ (.inl rfl),rfl⟩
theorem SimL.copy (S:SimL Γ H X)(he:e∈X)(ho:e.r.k.isOw=false):SimL Γ H (⟨none,e.v,e.r⟩::X):=by
 obtain⟨L,g,rfl⟩:=S
 obtain⟨h,hh,rfl⟩:=BB.mp he
 exact⟨_,g.push (v:=h.e.v) (r:=h.e.r) (F:=h.F) (g.rp h hh) (g.kd h hh) (.inl ho),rfl⟩
theorem SimL.part (S:SimL Γ H X)(he:e∈X){ro:Option Nat}{p:Option (List Ac)}(ho:e.r.k=.vw ro p){P:V->Prop}{s:T}(hp:∀F,Rp Γ.K H e.r.t e.v F->∃w G,P w/\Rp Γ.K H s w G/\∀a∈G,a∈F):∃w,P w/\SimL Γ H (⟨none,w,⟨.vw ro none,s⟩⟩::X):=by
 obtain⟨L,g,rfl⟩:=S
 obtain⟨h,hh,rfl⟩:=BB.mp he
 obtain⟨w,G,h1,h2,h3⟩:=hp h.F (g.rp h hh)
 refine⟨w,h1,_,g.push (v:=w) (r:=⟨.vw ro none,s⟩) (F:=G) h2 ?_ (.inl rfl),rfl⟩
 have k:=g.kd h hh
 unfold KdOk at k⊢
 rw[ho]at k
 cases ro with
 | none=>exact λa ha=>k a (h3 a ha)
 | some j=>
  obtain⟨x,x1,x2,x3,x4,x5⟩:=k
  exact⟨x,x1,x2,x3,λa ha=>x4 a (h3 a ha),λq hq=>by cases hq⟩
theorem SimL.partP (S:SimL Γ H X)(he:e∈X){j:Nat}{q:List Ac}(ho:e.r.k=.vw (some j) (some q)){a:Ac}{s:T}(hs:gD e.r.t a=some s):∃w,at1 Γ.K H e.v a w/\SimL Γ H (⟨none,w,⟨.vw (some j) (some (q++[a])),s⟩⟩::X):=by
 obtain⟨L,g,rfl⟩:=S
 obtain⟨h,hh,rfl⟩:=BB.mp he
 have k:=g.kd h hh
 unfold KdOk at k
 rw[ho]at k
 obtain⟨x,x1,x2,x3,x4,x5⟩:=k
 obtain⟨y1,y2⟩:=x5 q rfl
 have ms:x.e.r.t.sub (q++[a])=some s:=nj y1 hs
 obtain⟨w,A,G,B,z1,z2,z3,_⟩:=(g.rp x x1).atP (g.muF x1 x3) (g.ndF x1 x3) ms
 obtain⟨w0,A0,G0,B0,u1,u2,u3,_⟩:=(g.rp x x1).atP (g.muF x1 x3) (g.ndF x1 x3) y1
 have ew:=fG u1 y2
 subst ew
 have nG:G0.Nodup:=by
  have:=g.ndF x1 x3
  rw[u3]at this
  exact(Bx.mp (Bx.mp this).1).2.1
 have mG:∀b∈G0,Mu H b:=λb hb=>g.muF x1 x3 b (by rw[u3];exact yaL _ (yaR _ hb))
 obtain⟨w',A',G',B',v1,v2,v3,_⟩:=u2.at1 mG nG hs
 have e2:=fG (mw u1 v1) z1
 subst e2
 refine⟨w',v1,_,g.push (v:=w') (r:=⟨.vw (some j) (some (q++[a])),s⟩) (F:=G) z2 ⟨x,x1,x2,x3,λb hb=>.inl (by rw[z3];exact yaL _ (yaR _ hb)),λq' hq=>?_⟩ (.inl rfl),rfl⟩
 cases hq
 exact⟨ms,z1⟩
noncomputable def aS:List V->List T->List En
 | v::vs,t::ts=>⟨none,v,⟨.ow,t⟩⟩::aS vs ts
 | _,_=>[]
theorem iO:∀{vs:List V} {ts:List T} {L:List Hd},vs.length=ts.length->L.map (·.e)=aS vs ts->(∀h∈L,Rp Γ.K H h.e.r.t h.e.v h.F)->Rps Γ.K H ts vs (L.flatMap (·.F))/\∀h∈L,h.e.r.k=.ow/\h.e.key=none
 | [],[],L,_,h,_=>by
  have:L=[]:=List.map_eq_nil_iff.mp h
  subst this
  exact⟨Rps.nil,by simp⟩
 | v::vs,t::ts,L,hl,h,hr=>by
  obtain⟨x,L',rfl,h1,h2⟩:=aA h
  obtain⟨r1,r2⟩:=iO (vs:=vs) (ts:=ts) (by simpa using hl) h2 λy hy=>hr y (ymC _ hy)
  have rx:=hr x ymS
  rw[h1]at rx
  rw[BE]
  refine⟨Rps.cons rx r1,λy hy=>?_⟩
  rcases ycM hy with rfl|hy
  ·rw[h1];exact⟨rfl,rfl⟩
  ·exact r2 y hy
 | [],_::_,_,h,_,_=>by cases h
 | _::_,[],_,h,_,_=>by cases h
theorem SimL.use {vs:List V}{ts:List T}(S:SimL Γ H (aS vs ts++X))(hl:vs.length=ts.length):∃F,Rps Γ.K H ts vs F/\F.Nodup/\(∀a∈F,Mu H a) ∧
  ∀H' v t F',OffM F H H'->(∀a∈F,∃o,H' a=some o)->F'.Nodup->(∀a∈F',(a∈F∨H a=none)/\Mu H' a)->Rp Γ.K H' t v F'->SimL Γ H' (⟨none,v,⟨.ow,t⟩⟩::X):=by
 obtain⟨L,g,h⟩:=S
 obtain⟨hs,L2,rfl,h1,h2⟩:=cR h
 obtain⟨r1,r2⟩:=iO hl h1 λy hy=>g.rp y (yaL _ hy)
 have ho:∀h∈hs,h.e.r.k.isOw=true:=λh hh=>by rw[(r2 h hh).1];rfl
 have nd:=g.nd
 rw[BH,em ho]at nd
 refine⟨_,r1,(Bx.mp nd).1,λa ha=>(g.ad a (by rw[BH,em ho];exact yaL _ ha)).1,λH' v t F' off dom nd' hF rp=>?_⟩
 refine⟨_,g.step ho (λx _ y hy j hj=>by rw[(r2 y hy).2]at hj;cases hj) off dom (key:=none) (v:=v) (r:=⟨.ow,t⟩) nd' hF rp (.inl ⟨rfl,λy hy=>(r2 y hy).1⟩) (λj hj=>by cases hj),by rw[Bt,h2]⟩
theorem SimL.mutP {vs:List V}{ts:List T}{p:List Ac}{s:T}(S:SimL Γ H (e::aS vs ts++X))(hl:vs.length=ts.length)(ho:e.r.k.isOw=true)(hr:∀g∈X,∀j,e.key=some j->g.r.k.root≠some j)(hs:e.r.t.sub p=some s)(hX:∀j,e.key=some j->∀g∈X,g.key≠some j) :
  ∃w G F,atP Γ.K H e.v p w/\Rp Γ.K H s w G/\Rps Γ.K H ts vs F/\(G++F).Nodup/\(∀a∈G++F,Mu H a) ∧
  ∀H' s' G',OffM G H H'->(∀a∈G,∃o,H' a=some o)->G'.Nodup->(∀a∈G',(a∈G++F∨H a=none)/\Mu H' a)->Rp Γ.K H' s' w G'->SimL Γ H' (⟨e.key,e.v,⟨e.r.k,e.r.t.put p s'⟩⟩::X):=by
 obtain⟨L,g,h⟩:=S
 rw[BV]at h
 obtain⟨x,L',rfl,h1,h2⟩:=aA h
 obtain⟨hs',L2,rfl,h3,h4⟩:=cR h2
 subst h1
 obtain⟨r1,r2⟩:=iO hl h3 λy hy=>g.rp y (ymC _ (yaL _ hy))
 have ho':∀h∈x::hs',h.e.r.k.isOw=true:=λh hh=>by
  rcases ycM hh with rfl|hh
  ·exact ho
  ·rw[(r2 h hh).1];rfl
 have nx:=g.ndF ymS ho
 obtain⟨w,A,G,B,z1,z2,z3,z4⟩:=(g.rp x ymS).atP (g.muF ymS ho) nx hs
 have nd:=g.nd
 rw[show x::(hs'++L2)=(x::hs')++L2 from rfl,BH,em ho']at nd
 have nd1:=(Bx.mp nd).1
 rw[BE,z3]at nd1
 have mu:∀a∈(x::hs').flatMap (·.F),Mu H a:=λa ha=>(g.ad a (by rw[show x::(hs'++L2)=(x::hs')++L2 from rfl,BH,em ho'];exact yaL _ ha)).1
 have inM:∀a,a∈G++hs'.flatMap (·.F)->a∈(x::hs').flatMap (·.F):=λa ha=>by
  rw[BE,z3]
  rcases yaM ha with z|z
  ·exact yaL _ (yaL _ (yaR _ z))
  ·exact yaR _ z
 have ndA:=(Bx.mp nd1)
 have ndG:(G++hs'.flatMap (·.F)).Nodup:=Bx.mpr ⟨(Bx.mp (Bx.mp ndA.1).1).2.1,ndA.2.1,λa ha b hb=>ndA.2.2 a (yaL _ (yaR _ ha)) b hb⟩
 refine⟨w,G,hs'.flatMap (·.F),z1,z2,r1,ndG,λa ha=>mu a (inM a ha),λH' s' G' off dom nd' hG rp=>?_⟩
 have apAB:∀a,(a∈A∨a∈B)->a∉G++hs'.flatMap (·.F):=λa ha hm=>by
  rcases yaM hm with z|z
  ·rcases ha with q|q
   ·exact(Bx.mp (Bx.mp ndA.1).1).2.2 a q a z rfl
   ·exact(Bx.mp ndA.1).2.2 a (yaR _ z) a q rfl
  ·rcases ha with q|q
   ·exact ndA.2.2 a (yaL _ (yaL _ q)) a z rfl
   ·exact ndA.2.2 a (yaR _ q) a z rfl
 have rp':=z4 H' s' G' off rp
 refine⟨_,g.step (hs:=x::hs') (L:=L2) ho' (λy hy z hz j hj=>?_) (off.mono λa ha=>inM a (yaL _ ha)) (λa ha=>?_) (key:=x.e.key) (v:=x.e.v) (r:=⟨x.e.r.k,x.e.r.t.put p s'⟩) (F:=A++G'++B) ?_ (λa ha=>?_) rp' ?_ (λj hj hm=>?_),by rw[Bt,h4]⟩
 ·rcases ycM hz with rfl|hz
  ·exact hr y.e (by rw[←h4];exact BW hy) j hj
  ·rw[(r2 z hz).2]at hj;cases hj
 ·by_cases hm:a∈G
  ·exact dom a hm
  ·obtain⟨o,e1,_⟩:=mu a ha
   exact⟨o,off a o e1 hm⟩
 ·have ab:=Bx.mp ndA.1
  have aG:=Bx.mp ab.1
  have nG:∀a,(a∈A∨a∈B)->a∉G':=λa ha hg=>by
   rcases(hG a hg).1 with z|z
   ·exact apAB a ha z
   ·have:Mu H a:=mu a (by
     rw[BE,z3]
     rcases ha with q|q
     ·exact yaL _ (yaL _ (yaL _ q))
     ·exact yaL _ (yaR _ q))
    obtain⟨o,e1,_⟩:=this
    rw[z]at e1;cases e1
  refine Bx.mpr ⟨Bx.mpr ⟨aG.1,nd',λa ha b hb e=>nG a (.inl ha) (e▸hb)⟩,ab.2.1,λa ha b hb e=>?_⟩
  subst e
  rcases yaM ha with z|z
  ·exact ab.2.2 a (yaL _ z) a hb rfl
  ·exact nG a (.inr hb) z
 ·have old:a∈A∨a∈B->(a∈(x::hs').flatMap (·.F)∨H a=none)/\Mu H' a:=λq=>by
   have hm:a∈(x::hs').flatMap (·.F):=by
    rw[BE,z3]
    rcases q with q|q
    ·exact yaL _ (yaL _ (yaL _ q))
    ·exact yaL _ (yaR _ q)
   obtain⟨o,e1,m1⟩:=mu a hm
   exact⟨.inl hm,o,off a o e1 (λz=>apAB a q (yaL _ z)),m1⟩
  rcases yaM ha with z|z
  ·rcases yaM z with z|z
   ·exact old (.inl z)
   ·exact⟨(hG a z).1.imp (inM a) id,(hG a z).2⟩
  ·exact old (.inr z)
 ·have k:=g.kd x ymS
  unfold KdOk at k
  cases ek:x.e.r.k with
  | ow=>
   refine .inl ⟨rfl,λy hy=>?_⟩
   rcases ycM hy with rfl|hy
   ·exact ek
   ·exact(r2 y hy).1
  | io n=>rw[ek]at k;exact .inr ⟨n,rfl,k⟩
  | vw a b=>rw[ek]at ho;cases ho
 ·obtain⟨y,hy,hyk⟩:=B2.mp hm
  exact hX j hj y.e (by rw[←h4];exact BW hy) hyk
end
abbrev Rho:=List (Option R)
noncomputable def au:Nat->List (Option V)->Rho->List En
 | i,some v::Z,some r::ρ=>⟨some i,v,r⟩::au (i+1) Z ρ
 | i,none::Z,_::ρ=>au (i+1) Z ρ
 | i,some _::Z,none::ρ=>au (i+1) Z ρ
 | _,_,_=>[]
theorem bd {r:R}:∀{k:Nat} {Z:List (Option V)} {ρ:Rho} {i:Nat} {v:V},Z[i]?=some (some v)->ρ[i]?=some (some r)->(au k Z ρ).Perm (⟨some (k+i),v,r⟩::au k Z (ρ.set i none))
 | _,[],_,_,_,h,_=>by simp at h
 | _,_::_,[],_,_,_,h=>by simp at h
 | k,x::Z,y::ρ,0,v,h1,h2=>by
  simp at h1 h2
  subst h1 h2
  simp[au]
 | k,x::Z,y::ρ,i+1,v,h1,h2=>by
  have ih:=bd (k:=k+1) (Z:=Z) (ρ:=ρ) (i:=i) (v:=v) (r:=r) (by simpa using h1) (by simpa using h2)
  rw[show k+1+i=k+(i+1) by omega]at ih
  cases x with
  | none=>simpa[au]using ih
  | some x=>
   cases y with
   | none=>simpa[au]using ih
   | some y=>
    simp only[au,D0]
    exact(List.Perm.cons _ ih).trans (List.Perm.swap _ _ _)
theorem jf:∀{k:Nat} {Z:List (Option V)} {ρ:Rho} {i:Nat} {x:Option V},au k (Z.set i x) (ρ.set i none)=au k Z (ρ.set i none)
 | _,[],ρ,_,_=>rfl
 | _,x::Z,[],i,y=>by cases i<;>cases x<;>simp[au]<;>cases y<;>simp[au]
 | _,x::Z,y::ρ,0,z=>by cases x<;>cases z<;>simp[au]
 | k,x::Z,y::ρ,i+1,z=>by
  have ih:=jf (k:=k+1) (Z:=Z) (ρ:=ρ) (i:=i) (x:=z)
  cases x<;>cases y<;>simp[au,ih]
theorem dR {k:Nat}{Z:List (Option V)}{ρ:Rho}{i:Nat}{v:V}{r:R}(h1:i<Z.length)(h2:i < ρ.length):(au k (Z.set i (some v)) (ρ.set i (some r))).Perm (⟨some (k+i),v,r⟩::au k Z (ρ.set i none)):=by
 have:=bd (k:=k) (Z:=Z.set i (some v)) (ρ:=ρ.set i (some r)) (i:=i) (v:=v) (r:=r) (by simp[h1]) (by simp[h2])
 rw[List.set_set,jf]at this
 exact this
theorem cc {e:En}:∀{k:Nat} {Z:List (Option V)} {ρ:Rho},e∈au k Z ρ->∃i,e.key=some (k+i)/\ρ[i]?=some (some e.r)/\Z[i]?=some (some e.v)
 | _,[],_,h=>by simp[au]at h
 | _,x::_,[],h=>by cases x<;>simp[au]at h
 | k,x::Z,y::ρ,h=>by
  have go:e∈au (k+1) Z ρ->∃i,e.key=some (k+i)/\(y::ρ)[i]?=some (some e.r)/\(x::Z)[i]?=some (some e.v):=λh=>by
   obtain⟨i,h1,h2,h3⟩:=cc h
   exact⟨i+1,by rw[h1];congr 1;omega,by simpa using h2,by simpa using h3⟩
  cases x with
  | none=>simp only[au]at h;exact go h
  | some x=>
   cases y with
   | none=>simp only[au]at h;exact go h
   | some y=>
    simp only[au]at h
    rcases ycM h with rfl|h
    ·exact⟨0,rfl,rfl,rfl⟩
    ·exact go h
noncomputable def cq (M:List Nat) (r:R):Bool:=match r.k.root with
 | some j=>!M.contains j
 | none=>true
noncomputable def bC (M:List Nat):Option R->Option R
 | some r=>if cq M r=true then some r else none
 | none=>none
noncomputable def ao (M:List Nat) (ρ:Rho):Rho:=ρ.map (bC M)
theorem aB (M:List Nat)(ρ:Rho):(ao M ρ).length=ρ.length:=by unfold ao;rw[Bw]
theorem df (M:List Nat):∀{k:Nat} {Z:List (Option V)} {ρ:Rho},au k Z (ao M ρ)=ae M (au k Z ρ)
 | _,[],_=>rfl
 | _,x::_,[]=>by cases x<;>rfl
 | k,x::Z,y::ρ=>by
  have ih:=df M (k:=k+1) (Z:=Z) (ρ:=ρ)
  have e:ao M (y::ρ)=bC M y::ao M ρ:=rfl
  rw[e]
  cases x with
  | none=>simpa[au]using ih
  | some v=>
   cases y with
   | none=>simpa[au,bC]using ih
   | some r=>
    have hk:az M ⟨some k,v,r⟩=cq M r:=rfl
    cases q:cq M r with
    | true=>simp only[au,bC,q,if_true,ae,CB,hk,ih]
    | false=>
     simp only[au,bC,q,ae,CB,hk,ih]
     simp[au,ih,ae]
theorem jk {M:List Nat}{ρ:Rho}{i:Nat}{r:R}(h:(ao M ρ)[i]?=some (some r)) : ρ[i]?=some (some r):=by
 unfold ao at h
 rw[BD]at h
 cases q : ρ[i]? with
 | none=>rw[q]at h;cases h
 | some o=>
  rw[q]at h
  cases o with
  | none=>cases h
  | some x=>
   have h':bC M (some x)=some r:=by simpa using h
   simp only[bC]at h'
   split at h'
   ·rw[BQ.inj h']
   ·exact absurd h' (by simp)
theorem nZ {M:List Nat}{ρ:Rho}{i:Nat}{r:R}(h : ρ[i]?=some (some r))(ho:r.k.isOw=true):(ao M ρ)[i]?=some (some r):=by
 unfold ao
 rw[BD,h]
 have:cq M r=true:=by
  unfold cq
  cases e:r.k with
  | vw a b=>rw[e]at ho;cases ho
  | ow=>rfl
  | io _=>rfl
 simp[bC,this]
structure Sim (Γ:Gm)(H:Hp)(ρ:Rho)(Z:St)(E:List En):Prop where
 sl:SimL Γ H (E++au 0 Z ρ)
 al:∀(i:Nat) r,ρ[i]?=some (some r)->∃v,Z[i]?=some (some v)
 len:Z.length=ρ.length
 hi:∀e∈E,∀j,e.key=some j->ρ.length<=j
section
variable  {Γ:Gm}{H H':Hp}{ρ:Rho}{Z:St}{E E':List En}{e:En}{r:R}{v w x:V}{i j:Nat}{t s:T}
theorem Sim.perm (S:Sim Γ H ρ Z E)(p:E.Perm E'):Sim Γ H ρ Z E':=⟨S.sl.perm (p.append_right _),S.al,S.len,λe he=>S.hi e (p.mem_iff.mpr he)⟩
theorem Sim.drop (S:Sim Γ H ρ Z (e::E))(hk:e.key=none):Sim Γ H ρ Z E:=⟨S.sl.drop hk,S.al,S.len,λx hx=>S.hi x (ymC _ hx)⟩
theorem Sim.swap {f:En}(S:Sim Γ H ρ Z (e::f::E)):Sim Γ H ρ Z (f::e::E):=S.perm (List.Perm.swap _ _ _)
theorem Sim.imm (S:Sim Γ H ρ Z E){i:I}(h:RpI Γ.K H i v):Sim Γ H ρ Z (⟨none,v,⟨.ow,.im i⟩⟩::E):=
 ⟨S.sl.push h,S.al,S.len,λx hx j hj=>by
  rcases ycM hx with rfl|hx
  ·cases hj
  ·exact S.hi x hx j hj⟩
theorem Sim.rd (S:Sim Γ H ρ Z E)(he:e∈E):∃F,Rp Γ.K H e.r.t e.v F:=S.sl.rd (yaL _ he)
theorem Sim.slot (S:Sim Γ H ρ Z E)(h : ρ[i]?=some (some r)):∃v,Z[i]?=some (some v)/\(⟨some i,v,r⟩:En)∈E++au 0 Z ρ:=by
 obtain⟨v,hv⟩:=S.al i r h
 refine⟨v,hv,yaR _ ((bd hv h).mem_iff.mpr ?_)⟩
 rw[Cb];exact ymS
noncomputable def rdR (i:Nat):R->R
 | ⟨.ow,.im x⟩=>⟨.ow,.im x⟩
 | ⟨.vw a b,t⟩=>⟨.vw a b,t⟩
 | ⟨_,t⟩=>⟨.vw (some i) (some []),t⟩
theorem Sim.cons (S:Sim Γ H ρ Z E)(h:SimL Γ H' (⟨none,v,r⟩::(E++au 0 Z ρ))):Sim Γ H' ρ Z (⟨none,v,r⟩::E):=
 ⟨h,S.al,S.len,λx hx j hj=>by
  rcases ycM hx with rfl|hx
  ·cases hj
  ·exact S.hi x hx j hj⟩
theorem Sim.var (S:Sim Γ H ρ Z E)(h : ρ[i]?=some (some r)):∃v,Z[i]?=some (some v)/\Sim Γ H ρ Z (⟨none,v,rdR i r⟩::E):=by
 obtain⟨v,hv,hm⟩:=S.slot h
 refine⟨v,hv,S.cons ?_⟩
 obtain⟨k,t⟩:=r
 cases k with
 | vw a b=>exact S.sl.copy (e:=⟨some i,v,⟨.vw a b,t⟩⟩) hm rfl
 | io n=>
  have:=S.sl.view (e:=⟨some i,v,⟨.io n,t⟩⟩) hm rfl rfl
  cases t<;>exact this
 | ow=>
  cases t with
  | im x=>
   obtain⟨F,rp⟩:=S.sl.rd hm
   exact S.sl.push (aZ rp).1
  | tup _=>exact S.sl.view (e:=⟨some i,v,⟨.ow,_⟩⟩) hm rfl rfl
  | li _=>exact S.sl.view (e:=⟨some i,v,⟨.ow,_⟩⟩) hm rfl rfl
  | lst _=>exact S.sl.view (e:=⟨some i,v,⟨.ow,_⟩⟩) hm rfl rfl
  | di _=>exact S.sl.view (e:=⟨some i,v,⟨.ow,_⟩⟩) hm rfl rfl
  | dc _=>exact S.sl.view (e:=⟨some i,v,⟨.ow,_⟩⟩) hm rfl rfl
  | ins _ _=>exact S.sl.view (e:=⟨some i,v,⟨.ow,_⟩⟩) hm rfl rfl
theorem Sim.kill (S:Sim Γ H ρ Z E)(M:List Nat):Sim Γ H (ao M ρ) Z (ae M E):=by
 refine⟨?_,λi r h=>S.al i r (jk h),by rw[aB];exact S.len,λx hx j hj=>by rw[aB];exact S.hi x (BC.mp hx).1 j hj⟩
 rw[df,←aD]
 exact S.sl.kill M
theorem iA {M:List Nat}{X:List En}(hi:i∈M):∀g∈ae M X,g.r.k.root≠some i:=λg hg z=>by
 have:=(BC.mp hg).2
 unfold az at this
 rw[z]at this
 simp[hi]at this
theorem Sim.out (S:Sim Γ H ρ Z E)(h : ρ[i]?=some (some r))(ho:r.k.isOw=true):∃v,Z[i]?=some (some v)/\SimL Γ H (⟨some i,v,r⟩::(ae [i] E++au 0 Z ((ao [i] ρ).set i none))) ∧
  (∀g∈ae [i] E++au 0 Z ((ao [i] ρ).set i none),g.r.k.root≠some i)/\∀g∈ae [i] E++au 0 Z ((ao [i] ρ).set i none),g.key≠some i:=by
 obtain⟨v,hv⟩:=S.al i r h
 have S2:=S.kill [i]
 have h2:=nZ (M:=[i]) h ho
 have hil:i < ρ.length:=(Bs.mp h).1
 refine⟨v,hv,S2.sl.perm ?_,λg hg=>?_,λg hg hk=>?_⟩
 ·have:=(bd (k:=0) hv h2).append_left (ae [i] E)
  rw[Cb]at this
  exact this.trans BZ
 ·rcases yaM hg with z|z
  ·exact iA (by simp) g z
  ·have:g∈au 0 Z (ao [i] ρ):=by
    obtain⟨m,h1,h3,h4⟩:=cc z
    have hm:m≠i:=λe=>by subst e;simp[aB,hil]at h3
    rw[BJ (Ne.symm hm)]at h3
    have:=(bd (k:=0) h4 h3).mem_iff.mpr (ymS)
    have e:g=⟨some (0+m),g.v,g.r⟩:=by cases g;simp only[En.mk.injEq,and_self,and_true];exact h1
    rw[e];exact this
   rw[df]at this
   exact iA (by simp) g this
 ·rcases yaM hg with z|z
  ·have:=S2.hi g z i hk
   rw[aB]at this
   omega
  ·obtain⟨m,h1,h3,h4⟩:=cc z
   rw[hk,Cb]at h1
   cases h1
   simp[aB,hil]at h3
theorem Sim.back (S:Sim Γ H ρ Z E){ρ':Rho}{Z':St}(h:SimL Γ H' (E'++au 0 Z' ρ'))(hl : ρ'.length=ρ.length)(hZ:Z'.length=Z.length)(al:∀(i:Nat) r,ρ'[i]?=some (some r)->∃v,Z'[i]?=some (some v))(hi:∀e∈E',∀j,e.key=some j->e∈E):Sim Γ H' ρ' Z' E':=
 ⟨h,al,by rw[hl,hZ];exact S.len,λe he j hj=>by rw[hl];exact S.hi e (hi e he j hj) j hj⟩
noncomputable def ef (ρ:Rho) (i:Nat):Bool:=match ρ[i]? with
 | some (some ⟨.io _,_⟩)=>false
 | some _=>true
 | none=>false
theorem vU {ρ:Rho}{Z:St}(al:∀(i:Nat) r,ρ[i]?=some (some r)->∃v,Z[i]?=some (some v))(h1:i<Z.length):∀(m:Nat) r',(ρ.set i (some r))[m]?=some (some r')->∃v',(Z.set i (some v))[m]?=some (some v'):=λm r' hm=>by
 by_cases e:m=i
 ·subst e;exact⟨v,by simp[h1]⟩
 ·rw[BJ (Ne.symm e)]at hm⊢;exact al m r' hm
theorem Sim.put (S:Sim Γ H ρ Z (⟨none,v,r⟩::E))(hi:ef ρ i=true)(hr:r.k.root≠some i):Sim Γ H ((ao [i] ρ).set i (some r)) (Z.set i (some v)) (ae [i] E):=by
 have hil:i < ρ.length:=by
  unfold ef at hi
  cases q : ρ[i]? with
  | none=>rw[q]at hi;cases hi
  | some o=>exact(Bs.mp q).1
 have hiZ:i<Z.length:=by rw[S.len];exact hil
 have hkeep:az [i] ⟨none,v,r⟩=true:=by
  unfold az
  split
  ·rename_i j hj
   have:j≠i:=λz=>hr (z▸hj)
   simp[this]
  ·rfl
 have ek:ae [i] (⟨none,v,r⟩::E)=⟨none,v,r⟩::ae [i] E:=by unfold ae;rw[CB,if_pos hkeep]
 have S2:=S.kill [i]
 rw[ek]at S2
 have S3:SimL Γ H (⟨none,v,r⟩::(ae [i] E++au 0 Z ((ao [i] ρ).set i none)))/\∀g∈ae [i] E++au 0 Z ((ao [i] ρ).set i none),g.key≠some i:=by
  cases q:(ao [i] ρ)[i]? with
  | none=>rw[List.getElem?_eq_none_iff,aB]at q;omega
  | some o=>
   cases o with
   | none=>
    have e:(ao [i] ρ).set i none=ao [i] ρ:=by
     apply C0
     intro m
     by_cases hm:m=i
     ·subst hm;rw[q];simp[aB,hil]
     ·rw[BJ (Ne.symm hm)]
    rw[e]
    refine⟨S2.sl,λg hg hk=>?_⟩
    rcases yaM hg with z|z
    ·have:=S2.hi g (ymC _ z) i hk
     rw[aB]at this;omega
    ·obtain⟨m,h1,h3,h4⟩:=cc z
     rw[hk,Cb]at h1;cases h1
     rw[q]at h3;cases h3
   | some r0=>
    have q0:=jk q
    by_cases ho:r0.k.isOw=true
    ·obtain⟨v0,hv0,h1,h2,h3⟩:=S.out q0 ho
     rw[ek]at h1 h2 h3
     refine⟨h1.dropK λg hg j hj=>by cases hj;exact h2 g hg,λg hg=>h3 g (ymC _ hg)⟩
    ·obtain⟨v0,hv0⟩:=S.al i r0 q0
     have p:=(bd (k:=0) hv0 q).append_left (⟨none,v,r⟩::ae [i] E)
     rw[Cb]at p
     have h1:=S2.sl.perm (p.trans BZ)
     refine⟨h1.dropK λg hg j hj=>?_,λg hg hk=>?_⟩
     ·cases hj
      have h1':g∈ae [i] (⟨none,v,r⟩::E)++ae [i] (au 0 Z ρ):=by
       rw[ek,←df]
       rcases yaM hg with z|z
       ·exact yaL _ z
       ·refine yaR _ ?_
        obtain⟨m,h1,h3,h4⟩:=cc z
        have hm:m≠i:=λe=>by subst e;simp[aB,hil]at h3
        rw[BJ (Ne.symm hm)]at h3
        have:=(bd (k:=0) h4 h3).mem_iff.mpr (ymS)
        have e:g=⟨some (0+m),g.v,g.r⟩:=by cases g;simp only[En.mk.injEq,and_self,and_true];exact h1
        rw[e];exact this
      rw[←aD]at h1'
      exact iA (by simp) g h1'
     ·rcases yaM hg with z|z
      ·have:=S2.hi g (ymC _ z) i hk
       rw[aB]at this;omega
      ·obtain⟨m,h1,h3,h4⟩:=cc z
       rw[hk,Cb]at h1;cases h1
       simp[aB,hil]at h3
 obtain⟨S3,hks⟩:=S3
 have S4:=S3.rekey (e:=⟨none,v,r⟩) rfl (key:=some i) λj hj g hg=>by cases hj;exact hks g hg
 refine S2.back (S4.perm ?_) (by simp[aB]) (by simp) (vU S2.al hiZ) (λe he j hj=>ymC _ he)
 have p:=(dR (k:=0) (Z:=Z) (ρ:=ao [i] ρ) (v:=v) (r:=r) hiZ (by rw[aB];exact hil)).append_left (ae [i] E)
 rw[Cb]at p
 exact(BZ.symm).trans p.symm
theorem Sim.mut {vs:List V}{ts:List T}{p:List Ac}{k:Kd}(S:Sim Γ H ρ Z (aS vs ts++⟨none,w,⟨.vw (some i) (some p),s⟩⟩::E))(hl:vs.length=ts.length)(h : ρ[i]?=some (some ⟨k,t⟩))(ho:k.isOw=true) :
  ∃G F,Rp Γ.K H s w G/\Rps Γ.K H ts vs F/\(G++F).Nodup/\(∀a∈G++F,Mu H a) ∧
  ∀H' s' G',OffM G H H'->(∀a∈G,∃o,H' a=some o)->G'.Nodup->(∀a∈G',(a∈G++F∨H a=none)/\Mu H' a)->Rp Γ.K H' s' w G'->Sim Γ H' ((ao [i] ρ).set i (some ⟨k,t.put p s'⟩)) Z (ae [i] E):=by
 have hil:i < ρ.length:=(Bs.mp h).1
 obtain⟨v0,hv0,hm⟩:=S.slot h
 have pl:t.sub p=some s/\atP Γ.K H v0 p w:=by
  obtain⟨L,g,e⟩:=S.sl
  have:(⟨none,w,⟨.vw (some i) (some p),s⟩⟩:En)∈L.map (·.e):=by rw[e];simp
  obtain⟨y,hy,ey⟩:=BB.mp this
  have kd:=g.kd y hy
  unfold KdOk at kd
  rw[ey]at kd
  obtain⟨x,x1,x2,x3,x4,x5⟩:=kd
  have hm':(⟨some i,v0,⟨k,t⟩⟩:En)∈L.map (·.e):=by rw[e];exact hm
  obtain⟨z,hz,ez⟩:=BB.mp hm'
  have:x=z:=by
   have nk:=g.ks
   by_cases q:x=z
   ·exact q
   ·exfalso
    obtain⟨A,B,rfl⟩:=Da x1
    rw[CF,BP,x2]at nk
    rcases yaM hz with hz|hz
    ·exact(Bx.mp nk).2.2 i (B2.mpr ⟨z,hz,by rw[ez]⟩) i ymS rfl
    ·rcases ycM hz with hz|hz
     ·exact q hz.symm
     ·exact(BS.mp (Bx.mp nk).2.1).1 (B2.mpr ⟨z,hz,by rw[ez]⟩)
  subst this
  have:=x5 p rfl
  rw[ez]at this
  exact this
 obtain⟨v1,hv1,h1,h2,h3⟩:=S.out h ho
 rw[hv0]at hv1;cases hv1
 have ktemps:∀{vs:List V} {ts:List T},ae [i] (aS vs ts)=aS vs ts:=by
  intro vs
  induction vs with
  | nil=>intro ts;rfl
  | cons v vs ih=>
   intro ts
   cases ts with
   | nil=>rfl
   | cons t ts=>show List.filter _ _=_;rw[aS,CB,if_pos (show az [i] ⟨none,v,⟨.ow,t⟩⟩=true from rfl)];exact congrArg _ ih
 have kv:az [i] ⟨none,w,⟨.vw (some i) (some p),s⟩⟩=false:=by unfold az;simp[Kd.root]
 have ek:ae [i] (aS vs ts++⟨none,w,⟨.vw (some i) (some p),s⟩⟩::E)=aS vs ts++ae [i] E:=by
  rw[aD,ktemps]
  unfold ae
  rw[CB,if_neg (by rw[kv];simp)]
 rw[ek]at h1 h2 h3
 rw[BK]at h1 h2 h3
 obtain⟨w',G,F,m1,m2,m3,m4,m5,m6⟩:=SimL.mutP (e:=⟨some i,v0,⟨k,t⟩⟩) (X:=ae [i] E++au 0 Z ((ao [i] ρ).set i none)) (by rw[BV];exact h1) hl ho (λg hg j hj=>by cases hj;exact h2 g (yaR _ hg)) pl.1 (λj hj g hg=>by cases hj;exact h3 g (yaR _ hg))
 have ew:=fG m1 pl.2
 subst ew
 refine⟨G,F,m2,m3,m4,m5,λH' s' G' off dom nd hG rp=>?_⟩
 have S5:=m6 H' s' G' off dom nd hG rp
 have S2:=S.kill [i]
 refine S2.back (S5.perm ?_) (by simp[aB]) rfl (λm r' hm=>?_) (λe he j hj=>by rw[ek];exact yaR _ he)
 ·have p:=(dR (k:=0) (Z:=Z) (ρ:=ao [i] ρ) (v:=v0) (r:=⟨k,t.put p s'⟩) (by rw[S.len];exact hil) (by rw[aB];exact hil)).append_left (ae [i] E)
  rw[Cb]at p
  have eZ:Z.set i (some v0)=Z:=by
   apply C0
   intro m
   by_cases hm:m=i
   ·subst hm;rw[hv0];simp[S.len,hil]
   ·rw[BJ (Ne.symm hm)]
  rw[eZ]at p
  exact(BZ.symm).trans p.symm
 ·by_cases e:m=i
  ·subst e;exact⟨v0,hv0⟩
  ·rw[BJ (Ne.symm e)]at hm;exact S2.al m r' hm
theorem Sim.move (S:Sim Γ H ρ Z (⟨none,w,⟨.vw (some i) (some []),s⟩⟩::E))(h : ρ[i]?=some (some ⟨.ow,t⟩)):Sim Γ H ((ao [i] ρ).set i none) Z (⟨none,w,⟨.ow,s⟩⟩::ae [i] E):=by
 have hil:i < ρ.length:=(Bs.mp h).1
 obtain⟨v0,hv0,hm⟩:=S.slot h
 have pl:s=t/\w=v0:=by
  obtain⟨L,g,e⟩:=S.sl
  have:(⟨none,w,⟨.vw (some i) (some []),s⟩⟩:En)∈L.map (·.e):=by rw[e];simp
  obtain⟨y,hy,ey⟩:=BB.mp this
  have kd:=g.kd y hy
  unfold KdOk at kd
  rw[ey]at kd
  obtain⟨x,x1,x2,x3,x4,x5⟩:=kd
  have hm':(⟨some i,v0,⟨.ow,t⟩⟩:En)∈L.map (·.e):=by rw[e];exact hm
  obtain⟨z,hz,ez⟩:=BB.mp hm'
  have:x=z:=by
   have nk:=g.ks
   by_cases q:x=z
   ·exact q
   ·exfalso
    obtain⟨A,B,rfl⟩:=Da x1
    rw[CF,BP,x2]at nk
    rcases yaM hz with hz|hz
    ·exact(Bx.mp nk).2.2 i (B2.mpr ⟨z,hz,by rw[ez]⟩) i ymS rfl
    ·rcases ycM hz with hz|hz
     ·exact q hz.symm
     ·exact(BS.mp (Bx.mp nk).2.1).1 (B2.mpr ⟨z,hz,by rw[ez]⟩)
  subst this
  have:=x5 [] rfl
  rw[ez]at this
  obtain⟨q1,q2⟩:=this
  rw[T.sub]at q1
  cases q1
  exact⟨rfl,q2⟩
 obtain⟨rfl,rfl⟩:=pl
 obtain⟨v1,hv1,h1,h2,h3⟩:=S.out h rfl
 rw[hv0]at hv1;cases hv1
 have kv:az [i] ⟨none,w,⟨.vw (some i) (some []),s⟩⟩=false:=by unfold az;simp[Kd.root]
 have ek:ae [i] (⟨none,w,⟨.vw (some i) (some []),s⟩⟩::E)=ae [i] E:=by
  unfold ae
  rw[CB,if_neg (by rw[kv];simp)]
 rw[ek]at h1 h2 h3
 have S2:=S.kill [i]
 refine S2.back (E':=⟨none,w,⟨.ow,s⟩⟩::ae [i] E) ?_ (by simp[aB]) rfl (λm r' hm=>?_) (λe he j hj=>?_)
 ·obtain⟨L,g,e⟩:=h1
  obtain⟨x,L',rfl,e1,e2⟩:=aA e
  have:=g.step (hs:=[x]) (L:=L') (H':=H) (λy hy=>by rw[ysM hy,e1];rfl) (λy hy z hz j hj=>by
   rw[ysM hz,e1]at hj
   cases hj
   exact h2 y.e (by rw[←e2];exact BW hy)) (OffM.refl _ _) (λa ha=>by
    obtain⟨y,hy,ha⟩:=Ci.mp ha
    rw[ysM hy]at ha
    exact(g.rp x ymS).dom a ha) (key:=none) (v:=w) (r:=⟨.ow,s⟩) (F:=x.F) (g.ndF ymS (by rw[e1];rfl)) (λa ha=>⟨.inl (by simpa using ha),g.muF ymS (by rw[e1];rfl) a ha⟩)
    (by have:=g.rp x ymS;rw[e1]at this;exact this) (.inl ⟨rfl,λy hy=>by rw[ysM hy,e1]⟩) (λj hj=>by cases hj)
  exact⟨_,this,by rw[Bt,e2];rfl⟩
 ·by_cases e:m=i
  ·subst e;simp[aB,hil]at hm
  ·rw[BJ (Ne.symm e)]at hm;exact S2.al m r' hm
 ·rcases ycM he with rfl|he
  ·cases hj
  ·rw[ek];exact he
theorem Sim.use {vs:List V}{ts:List T}(S:Sim Γ H ρ Z (aS vs ts++E))(hl:vs.length=ts.length):∃F,Rps Γ.K H ts vs F/\F.Nodup/\(∀a∈F,Mu H a) ∧
  ∀H' v t F',OffM F H H'->(∀a∈F,∃o,H' a=some o)->F'.Nodup->(∀a∈F',(a∈F∨H a=none)/\Mu H' a)->Rp Γ.K H' t v F'->Sim Γ H' ρ Z (⟨none,v,⟨.ow,t⟩⟩::E):=by
 have S1:=S.sl
 rw[BK]at S1
 obtain⟨F,h1,h2,h3,h4⟩:=S1.use hl
 refine⟨F,h1,h2,h3,λH' v t F' a b c d e=>?_⟩
 exact⟨h4 H' v t F' a b c d e,S.al,S.len,λx hx j hj=>by
  rcases ycM hx with rfl|hx
  ·cases hj
  ·exact S.hi x (yaR _ hx) j hj⟩
theorem Sim.part (S:Sim Γ H ρ Z E)(he:e∈E){ro:Option Nat}{p:Option (List Ac)}(ho:e.r.k=.vw ro p){P:V->Prop}(hp:∀F,Rp Γ.K H e.r.t e.v F->∃w G,P w/\Rp Γ.K H s w G/\∀a∈G,a∈F):∃w,P w/\Sim Γ H ρ Z (⟨none,w,⟨.vw ro none,s⟩⟩::E):=by
 obtain⟨w,h1,h2⟩:=S.sl.part (yaL _ he) ho hp
 exact⟨w,h1,S.cons h2⟩
theorem Sim.partP (S:Sim Γ H ρ Z E)(he:e∈E){q:List Ac}(ho:e.r.k=.vw (some j) (some q)){a:Ac}(hs:gD e.r.t a=some s):∃w,at1 Γ.K H e.v a w/\Sim Γ H ρ Z (⟨none,w,⟨.vw (some j) (some (q++[a])),s⟩⟩::E):=by
 obtain⟨w,h1,h2⟩:=S.sl.partP (yaL _ he) ho hs
 exact⟨w,h1,S.cons h2⟩
end
structure ME where
 run:Rho->Option (R×Rho)
 mu:List Nat
structure MT where
 run:Rho->Option (Bool×Rho)
 mu:List Nat
structure MA where
 run:Rho->Option (List R×Rho)
 mu:List Nat
inductive Fl where
 | nx|rt (t:T)|bk|ct
structure MS where
 run:Rho->Option (Fl×Rho)
 mu:List Nat
structure MG where
 run:R->Rho->Option Rho
 mu:List Nat
structure MGs where
 run:List R->Rho->Option Rho
 mu:List Nat
noncomputable def ens:List V->List R->List En
 | v::vs,r::rs=>⟨none,v,r⟩::ens vs rs
 | _,_=>[]
noncomputable def aC (M:List Nat) (r:R):Bool:=cq M r
theorem bg {M:List Nat}{r:R}{v:V}(h:aC M r=true):az M ⟨none,v,r⟩=true:=h
theorem ay {M:List Nat}{e:En}{E:List En}(h:az M e=true):ae M (e::E)=e::ae M E:=by unfold ae;rw[CB,if_pos h]
theorem ge {M:List Nat}:∀{vs:List V} {rs:List R},rs.all (aC M)=true->ae M (ens vs rs)=ens vs rs
 | [],_,_=>by cases ‹List R›<;>rfl
 | _::_,[],_=>rfl
 | v::vs,r::rs,h=>by
  rw[CO,By]at h
  rw[ens,ay (bg h.1),ge h.2]
theorem Sim.weak {Γ:Gm}{H:Hp}{ρ:Rho}{Z:St}{E:List En}(S:Sim Γ H ρ Z E)(M:List Nat):Sim Γ H ρ Z (ae M E):=by
 refine⟨?_,S.al,S.len,λe he=>S.hi e (BC.mp he).1⟩
 obtain⟨L,g,h⟩:=S.sl
 obtain⟨A,B,rfl,h1,h2⟩:=cR h
 refine⟨A.filter (λx=>az M x.e)++B,g.sub (Ce.append (List.Sublist.refl _)) λx hx j hj y hy hk ho=>?_,?_⟩
 ·rcases yaM hy with z|z
  ·refine yaL _ (BC.mpr ⟨z,?_⟩)
   unfold az
   cases e:y.e.r.k with
   | vw a b=>rw[e]at ho;cases ho
   | ow=>rfl
   | io _=>rfl
  ·exact yaR _ z
 ·rw[BL,h2,←h1]
  unfold ae
  rw[Dh];rfl
def aU (K:yF)(te:TE)(m:ME):Prop:=∀(Γ:Gm) (H:Hp) (ρ:Rho) (Z:St) (E:List En) (Q:VK) (r:R) (ρ':Rho),Γ.K=K->m.run ρ=some (r,ρ')->Sim Γ H ρ Z E->(∀v H',Sim Γ H' ρ' Z (⟨none,v,r⟩::ae m.mu E)->Q v H')->te Z H Q
def dO (K:yF)(te:TT)(m:MT):Prop:=∀(Γ:Gm) (H:Hp) (ρ:Rho) (Z:St) (E:List En) (Q:Bool->Hp->Prop) (b:Bool) (ρ':Rho),Γ.K=K->m.run ρ=some (b,ρ')->Sim Γ H ρ Z E->(∀H',Sim Γ H' ρ' Z (ae m.mu E)->Q b H')->te Z H Q
def dP (K:yF)(ta:TA)(m:MA):Prop:=∀(Γ:Gm) (H:Hp) (ρ:Rho) (Z:St) (E:List En) (Q:List V->Hp->Prop) (rs:List R) (ρ':Rho),Γ.K=K->m.run ρ=some (rs,ρ')->Sim Γ H ρ Z E->(∀vs H',vs.length=rs.length->Sim Γ H' ρ' Z (ens vs rs++ae m.mu E)->Q vs H')->ta Z H Q
def FlOk (Γ:Gm)(ρ':Rho)(E:List En)(D:Ends):Fl->Prop
 | .nx=>∀Z' H',Sim Γ H' ρ' Z' E->D.nx Z' H'
 | .bk=>∀Z' H',Sim Γ H' ρ' Z' E->D.bk Z' H'
 | .ct=>∀Z' H',Sim Γ H' ρ' Z' E->D.ct Z' H'
 | .rt t=>∀v Z' H',Sim Γ H' ρ' Z' [⟨none,v,⟨.ow,t⟩⟩]->D.rt v H'
def db (K:yF)(ts:TS)(m:MS):Prop:=∀(Γ:Gm) (H:Hp) (ρ:Rho) (Z:St) (E:List En) (D:Ends) (f:Fl) (ρ':Rho),Γ.K=K->(∀e∈E,e.key=none)->m.run ρ=some (f,ρ')->Sim Γ H ρ Z E->FlOk Γ ρ' (ae m.mu E) D f->ts D Z H
def g9 (K:yF)(g:TG)(m:MG):Prop:=∀(Γ:Gm) (H:Hp) (ρ:Rho) (Z:St) (E:List En) (Q:St->Hp->Prop) (v:V) (r:R) (ρ':Rho),Γ.K=K->m.run r ρ=some ρ'->Sim Γ H ρ Z (⟨none,v,r⟩::E)->(∀Z' H',Sim Γ H' ρ' Z' (ae m.mu E)->Q Z' H')->g v Z H Q
def kC (K:yF)(g:TGs)(m:MGs):Prop:=∀(Γ:Gm) (H:Hp) (ρ:Rho) (Z:St) (E:List En) (Q:St->Hp->Prop) (vs:List V) (rs:List R) (ρ':Rho),Γ.K=K->m.run rs ρ=some ρ'->vs.length=rs.length->Sim Γ H ρ Z (ens vs rs++E)->(∀Z' H',Sim Γ H' ρ' Z' (ae m.mu E)->Q Z' H')->g vs Z H Q
def yX (X:Cx)(st:List Stmt)(m:MS):Prop:=∃ts,PSs X st ts/\db X.K ts m
section
variable  {K:yF}{X:Cx}
@[irreducible] noncomputable def mC (i:I):ME:=⟨λρ=>some (⟨.ow,.im i⟩,ρ),[]⟩
@[irreducible] noncomputable def ah (i:Nat):ME:=⟨λρ=>match ρ[i]? with
 | some (some r)=>some (rdR i r,ρ)
 | _=>none,[]⟩
theorem rk {i:I}{v:V}(h:i.sc=some v):aU K (tC v) (mC i):=by with_unfolding_all
 intro Γ H ρ Z E Q r ρ' hK hr S q
 cases hr
 exact q v H (by rw[show(mC i).mu=[]from rfl,bn];exact S.imm (gP h))
theorem uB {i:Nat}:aU K (yw i) (ah i):=by with_unfolding_all
 intro Γ H ρ Z E Q r ρ' hK hr S q
 simp only[ah]at hr
 split at hr
 ·rename_i r0 h0
  cases hr
  obtain⟨v,hv,S2⟩:=S.var h0
  exact⟨v,hv,q v H (by rw[show(ah i).mu=[]from rfl,bn];exact S2)⟩
 ·cases hr
@[irreducible] noncomputable def mNil:MA:=⟨λρ=>some ([],ρ),[]⟩
@[irreducible] noncomputable def aa (m:ME)(ms:MA):MA:=⟨λρ=>match m.run ρ with
 | some (r,ρ1)=>match ms.run ρ1 with
  | some (rs,ρ2)=>if aC ms.mu r=true then some (r::rs,ρ2)else none
  | none=>none
 | none=>none,m.mu++ms.mu⟩
theorem uv:dP K AB mNil:=by with_unfolding_all
 intro Γ H ρ Z E Q rs ρ' hK hr S q
 cases hr
 exact q [] H rfl (by rw[show mNil.mu=[]from rfl,bn];exact S)
theorem sD {v:V}{r:R}{E:List En}:∀{vs:List V} {rs:List R},(ens vs rs++⟨none,v,r⟩::E).Perm (⟨none,v,r⟩::(ens vs rs++E)):=BZ
theorem rm {te:TE}{ta:TA}{m:ME}{ms:MA}(h1:aU K te m)(h2:dP K ta ms):dP K (nr te ta) (aa m ms):=by with_unfolding_all
 intro Γ H ρ Z E Q rs ρ' hK hr S q
 simp only[aa]at hr
 split at hr
 ·rename_i r ρ1 e1
  split at hr
  ·rename_i rs1 ρ2 e2
   split at hr
   ·rename_i al
    cases hr
    refine h1 Γ H ρ Z E _ r ρ1 hK e1 S λv H1 S1=>?_
    refine h2 Γ H1 ρ1 Z _ _ rs1 _ hK e2 S1 λvs H2 hl S2=>q (v::vs) H2 (by rw[BF,BF,hl]) ?_
    rw[ay (bg al),af]at S2
    exact S2.perm sD
   ·cases hr
  ·cases hr
 ·cases hr
@[irreducible] noncomputable def mNext:MS:=⟨λρ=>some (.nx,ρ),[]⟩
@[irreducible] noncomputable def aq (a b:MS):MS:=⟨λρ=>match a.run ρ with
 | some (.nx,ρ1)=>b.run ρ1
 | some (.rt t,ρ1)=>some (.rt t,ρ1)
 | some (.bk,ρ1)=>some (.bk,ρ1)
 | some (.ct,ρ1)=>some (.ct,ρ1)
 | none=>none,a.mu++b.mu⟩
@[irreducible] noncomputable def mIf (c:MT)(a b:MS):MS:=⟨λρ=>match c.run ρ with
 | some (true,ρ1)=>a.run ρ1
 | some (false,ρ1)=>b.run ρ1
 | none=>none,c.mu++(a.mu++b.mu)⟩
@[irreducible] noncomputable def bp (e:ME):MS:=⟨λρ=>match e.run ρ with
 | some (_,ρ1)=>some (.nx,ρ1)
 | none=>none,e.mu⟩
@[irreducible] noncomputable def aE (e:ME)(g:MG):MS:=⟨λρ=>match e.run ρ with
 | some (r,ρ1)=>match g.run r ρ1 with
  | some ρ2=>some (.nx,ρ2)
  | none=>none
 | none=>none,e.mu++g.mu⟩
@[irreducible] noncomputable def oQ:R->Rho->Option (T×Rho)
 | ⟨.ow,t⟩,ρ=>some (t,ρ)
 | ⟨.vw (some i) (some []),t⟩,ρ=>match ρ[i]? with
  | some (some ⟨.ow,_⟩)=>some (t,(ao [i] ρ).set i none)
  | _=>none
 | _,_=>none
@[irreducible] noncomputable def bq (e:ME):MS:=⟨λρ=>match e.run ρ with
 | some (r,ρ1)=>match oQ r ρ1 with
  | some (t,ρ2)=>some (.rt t,ρ2)
  | none=>none
 | none=>none,e.mu⟩
theorem FlOk.weak {Γ:Gm}{ρ':Rho}{E:List En}{D:Ends}{f:Fl}{M N:List Nat}(h:FlOk Γ ρ' (ae (M++N) E) D f):FlOk Γ ρ' (ae M E) D f:=by
 cases f with
 | rt t=>exact h
 | nx=>exact λZ' H' S=>h Z' H' (by rw[←af];exact S.weak N)
 | bk=>exact λZ' H' S=>h Z' H' (by rw[←af];exact S.weak N)
 | ct=>exact λZ' H' S=>h Z' H' (by rw[←af];exact S.weak N)
theorem lI (M N:List Nat)(E:List En):ae M (ae N E)=ae N (ae M E):=by
 unfold ae
 rw[Do,Do]
 congr 1
 funext e
 exact Bool.and_comm _ _
theorem FlOk.weak2 {Γ:Gm}{ρ':Rho}{E:List En}{D:Ends}{f:Fl}{M N:List Nat}(h:FlOk Γ ρ' (ae (M++N) E) D f):FlOk Γ ρ' (ae N E) D f:=by
 refine FlOk.weak (N:=M) ?_
 rwa [←af,lI,af]
theorem bm {M:List Nat}{E:List En}(h:∀e∈E,e.key=none):∀e∈ae M E,e.key=none:=λe he=>h e (BC.mp he).1
theorem rE:db K vN mNext:=by with_unfolding_all
 intro Γ H ρ Z E D f ρ' hK hE hr S q
 cases hr
 exact q Z H (by rw[show mNext.mu=[]from rfl,bn];exact S)
theorem uz {t u:TS}{a b:MS}(h1:db K t a)(h2:db K u b):db K (AF t u) (aq a b):=by
 intro Γ H ρ Z E D f ρ' hK hE hr S q
 show t {D with nx:=u D} Z H
 simp only[aq]at hr q
 split at hr
 ·rename_i ρ1 e1
  refine h1 Γ H ρ Z E _ .nx ρ1 hK hE e1 S λZ1 H1 S1=>?_
  refine h2 Γ H1 ρ1 Z1 _ D f ρ' hK (bm hE) hr S1 ?_
  rw[af];exact q
 ·rename_i t1 ρ1 e1
  cases hr
  exact h1 Γ H ρ Z E _ (.rt t1) _ hK hE e1 S q
 ·rename_i ρ1 e1
  cases hr
  exact h1 Γ H ρ Z E _ .bk _ hK hE e1 S (show FlOk Γ _ (ae a.mu E) D .bk from q.weak)
 ·rename_i ρ1 e1
  cases hr
  exact h1 Γ H ρ Z E _ .ct _ hK hE e1 S (show FlOk Γ _ (ae a.mu E) D .ct from q.weak)
 ·cases hr
theorem ur {c:TT}{t u:TS}{mc:MT}{a b:MS}(hc:dO K c mc)(h1:db K t a)(h2:db K u b):db K (Ay c t u) (mIf mc a b):=by
 intro Γ H ρ Z E D f ρ' hK hE hr S q
 simp only[mIf]at hr q
 rw[←af]at q
 split at hr
 ·rename_i ρ1 e1
  refine hc Γ H ρ Z E _ true ρ1 hK e1 S λH1 S1=>nV ?_
  exact h1 Γ H1 ρ1 Z _ D f ρ' hK (bm hE) hr S1 q.weak
 ·rename_i ρ1 e1
  refine hc Γ H ρ Z E _ false ρ1 hK e1 S λH1 S1=>nU ?_
  exact h2 Γ H1 ρ1 Z _ D f ρ' hK (bm hE) hr S1 q.weak2
 ·cases hr
theorem rn {te:TE}{m:ME}(h:aU K te m):db K (vL te) (bp m):=by with_unfolding_all
 intro Γ H ρ Z E D f ρ' hK hE hr S q
 simp only[bp]at hr
 split at hr
 ·rename_i r ρ1 e1
  cases hr
  exact h Γ H ρ Z E _ r _ hK e1 S λv H1 S1=>q Z H1 (S1.drop rfl)
 ·cases hr
theorem ke {te:TE}{g:TG}{m:ME}{mg:MG}(h:aU K te m)(hg:g9 K g mg):db K (uN te g) (aE m mg):=by
 intro Γ H ρ Z E D f ρ' hK hE hr S q
 simp only[aE]at hr q
 split at hr
 ·rename_i r ρ1 e1
  split at hr
  ·rename_i ρ2 e2
   cases hr
   refine h Γ H ρ Z E _ r ρ1 hK e1 S λv H1 S1=>?_
   exact hg Γ H1 ρ1 Z _ _ v r _ hK e2 S1 λZ2 H2 S2=>q Z2 H2 (by rw[←af];exact S2)
  ·cases hr
 ·cases hr
theorem Sim.only {Γ:Gm}{H:Hp}{ρ:Rho}{Z:St}{e:En}{E:List En}(S:Sim Γ H ρ Z (e::E))(hE:∀x∈E,x.key=none):Sim Γ H ρ Z [e]:=by
 induction E with
 | nil=>exact S
 | cons x E ih=>exact ih (S.swap.drop (hE x ymS)) λy hy=>hE y (ymC _ hy)
theorem uy {te:TE}{m:ME}(h:aU K te m):db K (AE te) (bq m):=by with_unfolding_all
 intro Γ H ρ Z E D f ρ' hK hE hr S q
 simp only[bq]at hr
 split at hr
 ·rename_i r ρ1 e1
  split at hr
  ·rename_i t ρ2 e2
   cases hr
   refine h Γ H ρ Z E _ r ρ1 hK e1 S λv H1 S1=>?_
   obtain⟨k,t0⟩:=r
   cases k with
   | ow=>
    cases e2
    exact q v Z H1 (S1.only (bm hE))
   | io n=>cases e2
   | vw a b=>
    cases a with
    | none=>cases e2
    | some i=>
     cases b with
     | none=>cases e2
     | some p=>
      cases p with
      | cons _ _=>cases e2
      | nil=>
       simp only[oQ]at e2
       split at e2
       ·rename_i t1 h1
        cases e2
        exact q v Z H1 ((S1.move h1).only (bm (bm hE)))
       ·cases e2
  ·cases hr
 ·cases hr
@[irreducible] noncomputable def ag (i:Nat):MG:=⟨λr ρ=>if(ef ρ i&&aC [i] r)=true then some ((ao [i] ρ).set i (some r))else none,[i]⟩
theorem fk {i:Nat}{r:R}(h:aC [i] r=true):r.k.root≠some i:=λz=>by
 unfold aC cq at h
 rw[z]at h
 simp at h
theorem iJ {i:Nat}:g9 K (jg i) (ag i):=by with_unfolding_all
 intro Γ H ρ Z E Q v r ρ' hK hr S q
 simp only[ag]at hr
 split at hr
 ·rename_i h
  cases hr
  rw[By]at h
  exact q _ H (S.put h.1 (fk h.2))
 ·cases hr
end
section
variable  {X:Cx}
theorem Inv.lstR {pins:List (Addr×Obj)}{Z:St}{H:Hp}{s:Shared}{l:Addr}{xs:List V}(I:Inv X pins Z H s)(hH:Rd H l (.lst xs)):xs.length<=sizeLine/\∃(its:List Value) (n:Nat),Vals xs its/\xs.length=its.length/\s.heap.get? l=some {cls:=.type "list",data:=.seq its.toArray n}:=by
 obtain⟨z,its,n,r,e⟩:=hH.ok I.hok
 exact⟨z,its,n,r,r.length,e⟩
def vt:R2:=λx y H Q=>∃l b xs zs,x=.ref l/\y=.ref b/\Rd H l (.lst xs)/\Rd H b (.lst zs)/\xs.length+zs.length<=sizeLine/\∀p,H p=none->Q (.ref p) (upd H p (.lst (xs++zs)))
theorem op_catR:OpR X (binaryOp .Add) vt:=by
 intro pins s Z H x y v u Q I rx ry h
 obtain⟨l,b,xs,zs,rfl,rfl,hH,hB,hz,q⟩:=h
 cases rx
 cases ry
 obtain⟨z,its,n,r,hl,e⟩:=I.lstR hH
 obtain⟨z2,its2,n2,r2,hl2,e2⟩:=I.lstR hB
 refine PySem.P.add_list e e2 ?_ (by rw[Bv,Bv];omega)
 have ea:its.toArray++its2.toArray=(its++its2).toArray:=by simp
 rw[ea]
 exact⟨.ref _,_,I.lnew (t':=s.toks) (r.append r2) (by rw[BN];omega),rfl,q _ I.fresh⟩
def qZ (K:yF):R2:=λx y H Q=>∃a b ys,x=.ref a/\y=.ref b/\SqT K H a []/\SqT K H b ys/\Q (.ref b) H
theorem p8:OpR X (binaryOp .Add) (qZ X.K):=by
 intro pins s Z H x y v u Q I rx ry h
 obtain⟨a,b,ys,rfl,rfl,ha,hb,q⟩:=h
 cases rx
 cases ry
 obtain⟨its,r1,p1,_⟩:=I.tuple ha
 obtain⟨its2,r2,p2,_⟩:=I.tuple hb
 have hv:its=[]:=r1.nil_iff.mpr rfl
 subst hv
 obtain⟨⟨cls,dd,data,sl⟩,ho,hc,n,hd⟩:=id p1
 obtain⟨⟨cls2,dd2,data2,sl2⟩,ho2,hc2,n2,hd2⟩:=id p2
 simp only at hc hd hc2 hd2
 subst hc hd hc2 hd2
 exact concat_meets ⟨_,ho,rfl⟩ ⟨_,ho2,rfl⟩ noFill_tuple_add seq_tuple_add PySem.F.slot_tuple_add PySem.F.entry_tuple_add (PySem.F.args_tuple_add_2 _ _)
   (tuple_addW0 a b #[] its2.toArray n n2 dd dd2 sl sl2 rfl) ⟨ho,ho2,⟨.ref b,H,I,rfl,q⟩⟩
def qY (K:yF):R2:=λx y H Q=>vq K x y H Q∨(vt x y H Q∨qZ K x y H Q)
theorem tq:OpR X (binaryOp .Add) (qY X.K):=op_addX.or (op_catR.or p8)
def vA:R2:=λx y H Q=>∃l k xs,x=.ref l/\y=.int k/\Rd H l (.lst xs)/\-(2^63)<=k/\k<2^63/\xs.length*k.toNat<=sizeLine/\∀p,H p=none->Q (.ref p) (upd H p (.lst (Bu k.toNat xs).flatten))
theorem tz:OpR X (binaryOp .Mult) vA:=by
 intro pins s Z H x y v u Q I rx ry h
 obtain⟨l,k,xs,rfl,rfl,hH,h1,h2,hz,q⟩:=h
 cases rx
 obtain⟨t,rfl⟩:=ry
 obtain⟨z,its,n,r,hl,e⟩:=I.lstR hH
 have hlen:its.toArray.size*k.toNat<=sizeLine:=by rw[Bv,←hl];exact hz
 have hcap:¬ its.toArray.size*k.toNat>(2^63-1) / 8:=by
  have:(sizeLine:Nat)<=(2^63-1) / 8:=by decide
  omega
 have hfit:¬ (!Builtin.List.listFitsIndex k)=true:=by
  rw[fitsIndex_both h1 h2]
  exact BA
 have hlong:¬ Builtin.List.listTooLong (its.toArray.size*k.toNat)=true:=by
  rw[eg hlen]
  exact BA
 have hnew:DF (λx1 x2=>x1++x2) #[] (Bu (if its.toArray.isEmpty=true then 0 else k.toNat) its.toArray)=(Bu k.toNat its).flatten.toArray:=by
  have f0:∀m:Nat,DF (λx1 x2=>x1++x2) #[] (Bu m its.toArray)=(Bu m its).flatten.toArray:=λm=>by
   have:=dg its m []
   rw[Cf]at this
   exact this
  rw[f0]
  cases its with
  | nil=>simp
  | cons a r'=>rw[if_neg (by simp)]
 refine wpAny_binaryOp_repeat_ref (T:="list") (U:="int") (by decide) ⟨_,e,rfl⟩ (λs'=>typeIs_int s' k t) noFill_list_mul F.fills_int_mul F.slot_int_rmul repeat_list F.slot_int_index.lookup
  (call_meets F.slot_int_rmul (typeIs_int s k t) F.entry_int_rmul (F.args_int_rmul_2 _ _) (int___rmul___int_list k t l its.toArray n)
   ⟨e,rfl,⟨_,e,rfl⟩,call_meets F.slot_list_mul ⟨_,e,rfl⟩ F.entry_list_mul (F.args_list_mul_2 _ _) (AutoListH.list___mul___list_int_3 l its.toArray n k t hfit hcap hlong) ⟨e,?_⟩⟩)
 rw[hnew]
 exact⟨.ref _,_,I.lnew (t':=s.toks) (r.rep k.toNat) (by rw[fN,D6];exact hz),rfl,q _ I.fresh⟩
def rf (K:yF):R2:=λx y H Q=>vz K x y H Q∨vA x y H Q
theorem tw:OpR X (binaryOp .Mult) (rf X.K):=op_mulX.or tz
end
def Rpx (K:yF)(H:Hp)(t:T)(v:V):Prop:=∃F,Rp K H t v F
def New (K:yF)(H H':Hp)(t:T)(v:V):Prop:=Same H H'/\∃F,Rp K H' t v F/\F.Nodup/\∀a∈F,H a=none/\Mu H' a
section
variable  {K:yF}{H H':Hp}{Γ:Gm}{ρ:Rho}{Z:St}{E:List En}{t:T}{v x y:V}{Q:VK}
theorem Sim.fresh (S:Sim Γ H ρ Z E)(n:New Γ.K H H' t v):Sim Γ H' ρ Z (⟨none,v,⟨.ow,t⟩⟩::E):=by
 obtain⟨sm,F,h1,h2,h3⟩:=n
 obtain⟨F0,r0,_,_,k⟩:=Sim.use (vs:=[]) (ts:=[]) S rfl
 have:=r0.nil_inv.2
 subst this
 exact k H' v t F (sm.offM _) (by simp) h2 (λa ha=>⟨.inr (h3 a ha).1,(h3 a ha).2⟩) h1
theorem New.im {i:I}(h:RpI K H i v):New K H H (.im i) v:=⟨Same.refl H,[],ff h,CD,by simp⟩
theorem New.sc {i:I}(h:i.sc=some v):New K H H (.im i) v:=.im (gP h)
theorem New.tup {is:List I}{xs:List V}{p:Addr}(hp:H p=none)(h:RpIs K H is xs):New K H (upd H p (.tup xs)) (.im (.tup is)) (.ref p):=by
 refine⟨Same.laid hp,[],ff ?_,CD,by simp⟩
 rw[RpI]
 exact⟨p,xs,rfl,SqT.of ar,h.same (Same.laid hp)⟩
theorem New.li {is:List I}{xs:List V}{p:Addr}(hp:H p=none)(h:RpIs K H is xs):New K H (upd H p (.lst xs)) (.li is) (.ref p):=by
 refine⟨Same.laid hp,[p],?_,by simp,λa ha=>?_⟩
 ·rw[Rp];exact⟨p,xs,rfl,.inl ar,h.same (Same.laid hp),rfl⟩
 ·rw[ysM ha];exact⟨hp,_,ar,rfl⟩
theorem bW {i:I}(h:Rpx K H (.im i) v):RpI K H i v:=by obtain⟨F,h⟩:=h;exact(aZ h).1
theorem aI {n:Int}(h:Rpx K H (.im (.int n)) v):v=.int n:=by have:=bW h;rw[RpI]at this;exact this
theorem cJ {n:Str}(h:Rpx K H (.im (.str n)) v):v=.str n:=by have:=bW h;rw[RpI]at this;exact this
theorem lh {n:Bool}(h:Rpx K H (.im (.bl n)) v):v=.bl n:=by have:=bW h;rw[RpI]at this;exact this
theorem bO {is:List I}(h:Rpx K H (.im (.tup is)) v):∃a xs,v=.ref a/\SqT K H a xs/\RpIs K H is xs:=by have:=bW h;rw[RpI]at this;exact this
theorem bA {is:List I}(h:Rpx K H (.li is) v):∃a xs,v=.ref a/\Rd H a (.lst xs)/\RpIs K H is xs:=by
 obtain⟨F,h⟩:=h;rw[Rp]at h;obtain⟨a,xs,h1,h2,h3,_⟩:=h;exact⟨a,xs,h1,h2,h3⟩
theorem vF {is:List I}(h:Rpx K H (.im (.ls is)) v):∃a xs,v=.ref a/\Rd H a (.lst xs)/\RpIs K H is xs:=by
 have:=bW h;rw[RpI]at this;obtain⟨a,o,xs,h1,h2,h3⟩:=this;exact⟨a,xs,h1,.inr ⟨o,h2⟩,h3⟩
theorem fA {ts:List T}(h:Rpx K H (.lst ts) v):∃a xs F,v=.ref a/\Rd H a (.lst xs)/\Rps K H ts xs F:=by
 obtain⟨F,h⟩:=h;rw[Rp]at h;obtain⟨a,xs,F',h1,h2,h3,_⟩:=h;exact⟨a,xs,F',h1,h2,h3⟩
theorem aM {a:Addr}{xs:List V}(h:Rd H a (.lst xs)):SqL K H a xs:=.inl h
def u9 (K:yF)(red:V->Hp->VK->Prop)(f:T->Option T):Prop:=∀(H:Hp) (x:V) (tx t:T) (Q:VK),Rpx K H tx x->f tx=some t->(∀v H',New K H H' t v->Q v H')->red x H Q
def cC (K:yF)(red:R2)(f:T->T->Option T):Prop:=∀(H:Hp) (x y:V) (tx ty t:T) (Q:VK),Rpx K H tx x->Rpx K H ty y->f tx ty=some t->(∀v H',New K H H' t v->Q v H')->red x y H Q
def Rpxs (K:yF)(H:Hp):List T->List V->Prop
 | [],vs=>vs=[]
 | t::ts,vs=>∃v r,vs=v::r/\Rpx K H t v/\Rpxs K H ts r
def cO (K:yF)(red:List V->Hp->VK->Prop)(f:List T->Option T):Prop:=∀(H:Hp) (vs:List V) (ts:List T) (t:T) (Q:VK),Rpxs K H ts vs->f ts=some t->(∀v H',New K H H' t v->Q v H')->red vs H Q
@[irreducible] noncomputable def mOp (f:T->T->Option T)(a b:ME):ME:=⟨λρ=>match a.run ρ with
 | some (ra,ρ1)=>match b.run ρ1 with
  | some (rb,ρ2)=>if aC b.mu ra=true then(match f ra.t rb.t with
   | some t=>some (⟨.ow,t⟩,ρ2)
   | none=>none)else none
  | none=>none
 | none=>none,a.mu++b.mu⟩
theorem iK {red:R2}{f:T->T->Option T}{ta tb:TE}{a b:ME}(hp:cC K red f)(ha:aU K ta a)(hb:aU K tb b):aU K (tOp red ta tb) (mOp f a b):=by with_unfolding_all
 intro Γ H ρ Z E Q r ρ' hK hr S q
 simp only[mOp]at hr
 split at hr
 ·rename_i ra ρ1 e1
  split at hr
  ·rename_i rb ρ2 e2
   split at hr
   ·rename_i al
    split at hr
    ·rename_i t e3
     cases hr
     refine ha Γ H ρ Z E _ ra ρ1 hK e1 S λx H1 S1=>?_
     refine hb Γ H1 ρ1 Z _ _ rb _ hK e2 S1 λy H2 S2=>?_
     rw[ay (bg al),af]at S2
     have r1:=S2.rd (ymC _ ymS)
     have r2:=S2.rd ymS
     rw[hK]at r1 r2
     refine hp H2 x y ra.t rb.t t Q r1 r2 e3 λv H3 n=>q v H3 ?_
     rw[←hK]at n
     exact((S2.drop rfl).drop rfl).fresh n
    ·cases hr
   ·cases hr
  ·cases hr
 ·cases hr
@[irreducible] noncomputable def mUn (f:T->Option T)(a:ME):ME:=⟨λρ=>match a.run ρ with
 | some (ra,ρ1)=>(match f ra.t with
  | some t=>some (⟨.ow,t⟩,ρ1)
  | none=>none)
 | none=>none,a.mu⟩
theorem yq {red:V->Hp->VK->Prop}{f:T->Option T}{ta:TE}{a:ME}(hp:u9 K red f)(ha:aU K ta a):aU K (tUn red ta) (mUn f a):=by with_unfolding_all
 intro Γ H ρ Z E Q r ρ' hK hr S q
 simp only[mUn]at hr
 split at hr
 ·rename_i ra ρ1 e1
  split at hr
  ·rename_i t e3
   cases hr
   refine ha Γ H ρ Z E _ ra _ hK e1 S λx H1 S1=>?_
   have r1:=S1.rd ymS
   rw[hK]at r1
   refine hp H1 x ra.t t Q r1 e3 λv H3 n=>q v H3 ?_
   rw[←hK]at n
   exact(S1.drop rfl).fresh n
  ·cases hr
 ·cases hr
theorem Sim.rds:∀{vs:List V} {rs:List R} {E:List En},Sim Γ H ρ Z (ens vs rs++E)->vs.length=rs.length->Rpxs Γ.K H (rs.map (·.t)) vs
 | [],[],E,S,_=>rfl
 | v::vs,r::rs,E,S,h=>by
  rw[ens,BV]at S
  exact⟨v,vs,rfl,S.rd ymS,Sim.rds (S.drop rfl) (by simpa using h)⟩
 | [],_::_,_,_,h=>by cases h
 | _::_,[],_,_,h=>by cases h
theorem Sim.drops:∀{vs:List V} {rs:List R} {E:List En},Sim Γ H ρ Z (ens vs rs++E)->Sim Γ H ρ Z E
 | [],rs,E,S=>by cases rs<;>exact S
 | v::vs,[],E,S=>S
 | v::vs,r::rs,E,S=>by
  rw[ens,BV]at S
  exact Sim.drops (S.drop rfl)
@[irreducible] noncomputable def mB (f:List T->Option T)(a:MA):ME:=⟨λρ=>match a.run ρ with
 | some (rs,ρ1)=>(match f (rs.map (·.t))with
  | some t=>some (⟨.ow,t⟩,ρ1)
  | none=>none)
 | none=>none,a.mu⟩
theorem nc {red:List V->Hp->VK->Prop}{f:List T->Option T}{ta:TA}{a:MA}(hp:cO K red f)(ha:dP K ta a):aU K (tCB red ta) (mB f a):=by with_unfolding_all
 intro Γ H ρ Z E Q r ρ' hK hr S q
 simp only[mB]at hr
 split at hr
 ·rename_i rs ρ1 e1
  split at hr
  ·rename_i t e3
   cases hr
   refine ha Γ H ρ Z E _ rs _ hK e1 S λvs H1 hl S1=>?_
   have r1:=S1.rds hl
   rw[hK]at r1
   refine hp H1 vs _ t Q r1 e3 λv H3 n=>q v H3 ?_
   rw[←hK]at n
   exact S1.drops.fresh n
  ·cases hr
 ·cases hr
@[irreducible] noncomputable def mM (f:T->List T->Option T)(o:ME)(a:MA):ME:=⟨λρ=>match o.run ρ with
 | some (r,ρ0)=>match a.run ρ0 with
  | some (rs,ρ1)=>if aC a.mu r=true then(match f r.t (rs.map (·.t))with
   | some t=>some (⟨.ow,t⟩,ρ1)
   | none=>none)else none
  | none=>none
 | none=>none,o.mu++a.mu⟩
def o5 (K:yF)(T0:String)(red:V->List V->Hp->VK->Prop)(f:T->List T->Option T):Prop:=∀(H:Hp) (x:V) (vs:List V) (tx:T) (ts:List T) (t:T) (Q:VK),Rpx K H tx x->Rpxs K H ts vs->f tx ts=some t->(∀v H',New K H H' t v->Q v H')->red x vs H Q
theorem As {T0:String}{red:V->List V->Hp->VK->Prop}{f:T->List T->Option T}{to:TE}{ta:TA}{o:ME}{a:MA}(hp:o5 K T0 red f)(hty:∀(H:Hp) (x:V) (tx:T) ts t,Rpx K H tx x->f tx ts=some t->tyV K T0 x H)(ho:aU K to o)(ha:dP K ta a):aU K (tBM K T0 red to ta) (mM f o a):=by with_unfolding_all
 intro Γ H ρ Z E Q r ρ' hK hr S q
 simp only[mM]at hr
 split at hr
 ·rename_i r0 ρ0 e0
  split at hr
  ·rename_i rs ρ1 e1
   split at hr
   ·rename_i al
    split at hr
    ·rename_i t e3
     cases hr
     refine ho Γ H ρ Z E _ r0 _ hK e0 S λx H1 S1=>?_
     have r0':=S1.rd ymS
     rw[hK]at r0'
     refine⟨hty H1 x _ _ _ r0' e3,?_⟩
     refine ha Γ H1 ρ0 Z _ _ rs _ hK e1 S1 λvs H2 hl S2=>?_
     rw[ay (bg al),af]at S2
     have r1:=S2.rds hl
     have S3:=S2.drops
     have r2:=S3.rd ymS
     rw[hK]at r1 r2
     refine hp H2 x vs _ _ t Q r2 r1 e3 λv H3 n=>q v H3 ?_
     rw[←hK]at n
     exact(S3.drop rfl).fresh n
    ·cases hr
   ·cases hr
  ·cases hr
 ·cases hr
@[irreducible] noncomputable def ba (a:ME):MT:=⟨λρ=>match a.run ρ with
 | some (⟨_,.im (.bl b)⟩,ρ1)=>some (b,ρ1)
 | _=>none,a.mu⟩
theorem lg {ta:TE}{a:ME}(ha:aU K ta a):dO K (vP ta) (ba a):=by with_unfolding_all
 intro Γ H ρ Z E Q b ρ' hK hr S q
 simp only[ba]at hr
 split at hr
 ·rename_i k b0 ρ1 e1
  cases hr
  refine ha Γ H ρ Z E _ _ _ hK e1 S λx H1 S1=>⟨b,?_,q H1 (S1.drop rfl)⟩
  have r1:=S1.rd ymS
  exact lh r1
 ·cases hr
theorem yp {ta:TE}{a:ME}(ha:aU K ta a):dO K (tB ta) (ba a):=lg ha
@[irreducible] noncomputable def kS (a b:MT):MT:=⟨λρ=>match a.run ρ with
 | some (true,ρ1)=>b.run ρ1
 | some (false,ρ1)=>some (false,ρ1)
 | none=>none,a.mu++b.mu⟩
@[irreducible] noncomputable def mOr (a b:MT):MT:=⟨λρ=>match a.run ρ with
 | some (true,ρ1)=>some (true,ρ1)
 | some (false,ρ1)=>b.run ρ1
 | none=>none,a.mu++b.mu⟩
@[irreducible] noncomputable def lK (a:MT):MT:=⟨λρ=>match a.run ρ with
 | some (b,ρ1)=>some (!b,ρ1)
 | none=>none,a.mu⟩
theorem um {ta tb:TT}{a b:MT}(ha:dO K ta a)(hb:dO K tb b):dO K (Av ta tb) (kS a b):=by
 intro Γ H ρ Z E Q c ρ' hK hr S q
 simp only[kS]at hr q
 split at hr
 ·rename_i ρ1 e1
  refine ha Γ H ρ Z E _ _ _ hK e1 S λH1 S1=>nV ?_
  exact hb Γ H1 ρ1 Z _ _ _ _ hK hr S1 λH2 S2=>q H2 (by rw[←af];exact S2)
 ·rename_i ρ1 e1
  cases hr
  exact ha Γ H ρ Z E _ _ _ hK e1 S λH1 S1=>nU (q H1 (by rw[←af];exact S1.weak _))
 ·cases hr
theorem yn {ta tb:TT}{a b:MT}(ha:dO K ta a)(hb:dO K tb b):dO K (tOr ta tb) (mOr a b):=by
 intro Γ H ρ Z E Q c ρ' hK hr S q
 simp only[mOr]at hr q
 split at hr
 ·rename_i ρ1 e1
  cases hr
  exact ha Γ H ρ Z E _ _ _ hK e1 S λH1 S1=>nV (q H1 (by rw[←af];exact S1.weak _))
 ·rename_i ρ1 e1
  refine ha Γ H ρ Z E _ _ _ hK e1 S λH1 S1=>nU ?_
  exact hb Γ H1 ρ1 Z _ _ _ _ hK hr S1 λH2 S2=>q H2 (by rw[←af];exact S2)
 ·cases hr
theorem uw {ta:TT}{a:MT}(ha:dO K ta a):dO K (AC ta) (lK a):=by
 intro Γ H ρ Z E Q c ρ' hK hr S q
 simp only[lK]at hr q
 split at hr
 ·rename_i b ρ1 e1
  cases hr
  exact ha Γ H ρ Z E _ _ _ hK e1 S λH1 S1=>q H1 S1
 ·cases hr
@[irreducible] noncomputable def iw (a b:ME):ME:=⟨λρ=>match a.run ρ with
 | some (⟨_,.im (.bl true)⟩,ρ1)=>b.run ρ1
 | some (⟨_,.im (.bl false)⟩,ρ1)=>some (⟨.ow,.im (.bl false)⟩,ρ1)
 | _=>none,a.mu++b.mu⟩
@[irreducible] noncomputable def jp (a:ME):ME:=⟨λρ=>match a.run ρ with
 | some (⟨_,.im (.bl b)⟩,ρ1)=>some (⟨.ow,.im (.bl !b)⟩,ρ1)
 | _=>none,a.mu⟩
theorem rl {ta tb:TE}{a b:ME}(ha:aU K ta a)(hb:aU K tb b):aU K (vJ ta tb) (iw a b):=by
 intro Γ H ρ Z E Q c ρ' hK hr S q
 simp only[iw]at hr q
 split at hr
 ·rename_i k ρ1 e1
  refine ha Γ H ρ Z E _ _ _ hK e1 S λx H1 S1=>⟨true,lh (S1.rd ymS),nV ?_⟩
  exact hb Γ H1 ρ1 Z _ _ _ _ hK hr (S1.drop rfl) λv H2 S2=>q v H2 (by rw[←af];exact S2)
 ·rename_i k ρ1 e1
  cases hr
  refine ha Γ H ρ Z E _ _ _ hK e1 S λx H1 S1=>⟨false,lh (S1.rd ymS),nU (q _ H1 ?_)⟩
  rw[←af]
  exact((S1.drop rfl).weak _).imm (gP rfl)
 ·cases hr
theorem rF {ta:TE}{a:ME}(ha:aU K ta a):aU K (vO ta) (jp a):=by
 intro Γ H ρ Z E Q c ρ' hK hr S q
 simp only[jp]at hr q
 split at hr
 ·rename_i k b ρ1 e1
  cases hr
  exact ha Γ H ρ Z E _ _ _ hK e1 S λx H1 S1=>⟨b,lh (S1.rd ymS),q _ H1 ((S1.drop rfl).imm (gP rfl))⟩
 ·cases hr
end
mutual
noncomputable def I.dok:I->Bool
 | .int _=>true|.str _=>true|.tup is=>I.doks is|_=>false
noncomputable def I.doks:List I->Bool
 | []=>true
 | i::is=>i.dok&&I.doks is
end
mutual
noncomputable def I.toD:I->D
 | .int i=>.int i|.str x=>.str x|.tup is=>.tup (I.toDs is)|_=>.int 0
noncomputable def I.toDs:List I->List D
 | []=>[]
 | i::is=>i.toD::I.toDs is
end
mutual
noncomputable def I.dep:I->Nat
 | .tup is=>I.deps is+1|_=>0
noncomputable def I.deps:List I->Nat
 | []=>0
 | i::is=>max i.dep (I.deps is)
end
mutual
theorem wa:∀(i:I),i.toD.depth=i.dep
 | .non=>rfl|.bl _=>rfl|.int _=>rfl|.str _=>rfl|.ls _=>rfl|.fd _ _=>rfl
 | .tup is=>by rw[I.toD,D.depth,I.dep,eM is]
theorem eM:∀(is:List I),aF (I.toDs is)=I.deps is
 | []=>rfl
 | i::is=>by rw[I.toDs,aF,I.deps,wa i,eM is]
end
mutual
theorem nw:∀{a b:I},a.dok=true->b.dok=true->(a.toD=b.toD↔a=b)
 | .non,_,h,_=>by simp[I.dok]at h
 | .bl _,_,h,_=>by simp[I.dok]at h
 | .ls _,_,h,_=>by simp[I.dok]at h
 | .fd _ _,_,h,_=>by simp[I.dok]at h
 | .int x,b,_,h=>by cases b<;>simp[I.dok]at h<;>simp[I.toD]
 | .str x,b,_,h=>by cases b<;>simp[I.dok]at h<;>simp[I.toD]
 | .tup x,b,h1,h=>by
  cases b with
  | tup y=>
   rw[I.dok]at h h1
   rw[I.toD,I.toD,D.tup.injEq,I.tup.injEq]
   exact f7 h1 h
  | non=>simp[I.dok]at h
  | bl _=>simp[I.dok]at h
  | ls _=>simp[I.dok]at h
  | fd _ _=>simp[I.dok]at h
  | int _=>simp[I.toD]
  | str _=>simp[I.toD]
theorem f7:∀{a b:List I},I.doks a=true->I.doks b=true->(I.toDs a=I.toDs b↔a=b)
 | [],b,_,_=>by cases b<;>simp[I.toDs]
 | x::xs,b,h1,h=>by
  cases b with
  | nil=>simp[I.toDs]
  | cons y ys=>
   rw[I.doks,By]at h h1
   rw[I.toDs,I.toDs,Cu.injEq,Cu.injEq,nw h1.1 h.1,f7 h1.2 h.2]
end
section
variable  {K:yF}{H:Hp}
mutual
theorem iL:∀{i:I} {v:V},i.dok=true->RpI K H i v->Rep K H i.toD v
 | .non,_,h,_=>by simp[I.dok]at h
 | .bl _,_,h,_=>by simp[I.dok]at h
 | .ls _,_,h,_=>by simp[I.dok]at h
 | .fd _ _,_,h,_=>by simp[I.dok]at h
 | .int _,_,_,r=>by rw[RpI]at r;rw[I.toD,Rep];exact r
 | .str _,_,_,r=>by rw[RpI]at r;rw[I.toD,Rep];exact r
 | .tup is,_,h,r=>by
  rw[RpI]at r;rw[I.dok]at h
  obtain⟨a,xs,h1,h2,h3⟩:=r
  rw[I.toD,Rep]
  exact⟨a,xs,h1,h2,e7 h h3⟩
theorem e7:∀{is:List I} {vs:List V},I.doks is=true->RpIs K H is vs->Reps K H (I.toDs is) vs
 | [],_,_,r=>by rw[RpIs]at r;rw[I.toDs,Reps];exact r
 | i::is,_,h,r=>by
  rw[RpIs]at r;rw[I.doks,By]at h
  obtain⟨x,xs,h1,h2,h3⟩:=r
  rw[I.toDs,Reps]
  exact⟨x,xs,h1,iL h.1 h2,e7 h.2 h3⟩
end
theorem iz {i:I}:∀{is:List I},i.dok=true->I.doks is=true->(i.toD∈I.toDs is↔i∈is)
 | [],_,_=>by simp[I.toDs]
 | x::xs,h,hs=>by
  rw[I.doks,By]at hs
  rw[I.toDs,BT,BT,nw h hs.1,iz h hs.2]
noncomputable def isI:T->Option Int
 | .im i=>(match i with|.int a=>some a|_=>none)
 | _=>none
noncomputable def isS:T->Option Str
 | .im i=>(match i with|.str a=>some a|_=>none)
 | _=>none
noncomputable def wr:T->Option (List I)
 | .im i=>(match i with|.tup a=>some a|_=>none)
 | _=>none
noncomputable def pJ:T->Option (List I)
 | .li a=>some a
 | _=>none
theorem cw {t:T}{a:Int}(h:isI t=some a):t=.im (.int a):=by
 cases t with
 | im i=>cases i<;>cases h;rfl
 | _=>cases h
theorem sR {t:T}{a:Str}(h:isS t=some a):t=.im (.str a):=by
 cases t with
 | im i=>cases i<;>cases h;rfl
 | _=>cases h
theorem pK {t:T}{a:List I}(h:wr t=some a):t=.im (.tup a):=by
 cases t with
 | im i=>cases i<;>cases h;rfl
 | _=>cases h
theorem ii {t:T}{a:List I}(h:pJ t=some a):t=.li a:=by
 cases t with
 | li i=>cases h;rfl
 | _=>cases h
noncomputable def i2 (g:Int->Int->Option T) (x y:T):Option T:=match isI x with
 | some a=>(match isI y with
  | some b=>g a b
  | none=>none)
 | none=>none
theorem fq {g:Int->Int->Option T}{x y t:T}(h:i2 g x y=some t):∃a b,x=.im (.int a)/\y=.im (.int b)/\g a b=some t:=by
 unfold i2 at h
 split at h
 ·rename_i a ea
  split at h
  ·rename_i b eb
   exact⟨a,b,cw ea,cw eb,h⟩
  ·cases h
 ·cases h
theorem aK {α:Type}{c:Prop}[Decidable c]{t u : α}(h:(if c then some t else none)=some u):c/\t=u:=by
 by_cases hc:c
 ·rw[if_pos hc]at h;exact⟨hc,BQ.inj h⟩
 ·rw[if_neg hc]at h;cases h
noncomputable def yZ (i:I) (y:T):Option T:=match i with
 | .int a=>(match isI y with|some b=>some (.im (.int (a+b)))|none=>none)
 | .str a=>(match isS y with|some b=>if a.length+b.length<=sizeLine then some (.im (.str (a++b)))else none|none=>none)
 | .tup a=>(match wr y with|some b=>if a.length+b.length<=sizeLine then some (.im (.tup (a++b)))else none|none=>none)
 | _=>none
@[irreducible] noncomputable def aW (x y:T):Option T:=match x with
 | .im i=>yZ i y
 | .li a=>(match pJ y with|some b=>if a.length+b.length<=sizeLine then some (.li (a++b))else none|none=>none)
 | _=>none
theorem RpIs.nil_iff {is:List I}{xs:List V}(h:RpIs K H is xs):xs=[]↔is=[]:=by
 have:=h.length
 cases is<;>cases xs<;>first|(simp;done)|(cases this;done)
theorem qz:cC K (qY K) aW:=by
 intro H x y tx ty t Q rx ry e q
 unfold aW at e
 split at e
 ·rename_i i
  unfold yZ at e
  split at e
  ·split at e
   ·rename_i b eb
    cases cw eb
    cases e
    rw[aI rx,aI ry]
    exact .inl (.inl ⟨_,_,rfl,rfl,q _ H (.sc rfl)⟩)
   ·cases e
  ·split at e
   ·rename_i b eb
    cases sR eb
    obtain⟨hl,rfl⟩:=aK e
    rw[cJ rx,cJ ry]
    exact .inl (.inr (.inl ⟨_,_,rfl,rfl,hl,q _ H (.sc rfl)⟩))
   ·cases e
  ·rename_i a
   split at e
   ·rename_i b eb
    cases pK eb
    obtain⟨hl,rfl⟩:=aK e
    obtain⟨p,xs,rfl,h1,h2⟩:=bO rx
    obtain⟨p',ys,rfl,g1,g2⟩:=bO ry
    by_cases ha:a=[]
    ·subst ha
     have:=h2.nil_inv
     subst this
     refine .inr (.inr ⟨p,p',ys,rfl,rfl,h1,g1,q _ H (.im ?_)⟩)
     rw[RpI];exact⟨p',ys,rfl,g1,g2⟩
    ·refine .inl (.inr (.inr (.inr ⟨p,p',xs,ys,rfl,rfl,h1,g1,λz=>ha (h2.nil_iff.mp z),by rw[h2.length,g2.length];exact hl,λz=>q _ H (.im ?_),λz p hp=>q _ _ (.tup hp (h2.append g2))⟩)))
     have:=g2.nil_iff.mp z
     subst this
     rw[B4,RpI]
     exact⟨p,xs,rfl,h1,h2⟩
   ·cases e
  ·cases e
 ·split at e
  ·rename_i b eb
   cases ii eb
   obtain⟨hl,rfl⟩:=aK e
   obtain⟨p,xs,rfl,h1,h2⟩:=bA rx
   obtain⟨p',ys,rfl,g1,g2⟩:=bA ry
   exact .inr (.inl ⟨p,p',xs,ys,rfl,rfl,h1,g1,by rw[h2.length,g2.length];exact hl,λp hp=>q _ _ (.li hp (h2.append g2))⟩)
  ·cases e
 ·cases e
@[irreducible] noncomputable def bT:T->T->Option T:=i2 λa b=>some (.im (.int (a-b)))
theorem qL:cC K (rI0 λi j=>.int (i-j)) bT:=by
 intro H x y tx ty t Q rx ry e q
 unfold bT at e
 obtain⟨a,b,rfl,rfl,e⟩:=fq e
 cases e
 rw[aI rx,aI ry]
 exact⟨_,_,rfl,rfl,q _ H (.sc rfl)⟩
noncomputable def gL (i j:Int):Bool:=(decide (-(2^64)<i)&&decide (i<2^64))||(decide (-(2^64)<j)&&decide (j<2^64))
theorem tj {i j:Int}(h:gL i j=true):CMul i j:=by
 unfold gL at h
 simp only[DN,By,decide_eq_true_eq]at h
 exact h
noncomputable def zk (i:I) (b:Int):Option T:=match i with
 | .int a=>if gL a b=true then some (.im (.int (a*b)))else none
 | .str a=>if 1<=b/\b<=1000/\a.length<=1000 then some (.im (.str (oL (Bu b.toNat (sL a)).flatten)))else none
 | .tup a=>if a≠[]/\a.length<=1000/\1<=b/\b<=1000 then some (.im (.tup (Bu b.toNat a).flatten))else none
 | _=>none
@[irreducible] noncomputable def cy (x y:T):Option T:=match isI y with
 | some b=>(match x with
  | .im i=>zk i b
  | .li a=>if -(2^63)<=b/\b<2^63/\a.length*b.toNat<=sizeLine then some (.li (Bu b.toNat a).flatten)else none
  | _=>none)
 | none=>none
theorem RpIs.reps {is:List I}{xs:List V}(h:RpIs K H is xs):∀n:Nat,RpIs K H (Bu n is).flatten (Bu n xs).flatten
 | 0=>.nil
 | n+1=>by
  rw[BY,BY,Cn,Cn]
  exact h.append (h.reps n)
theorem qJ:cC K (rf K) cy:=by
 intro H x y tx ty t Q rx ry e q
 unfold cy at e
 split at e
 ·rename_i b eb
  cases cw eb
  split at e
  ·unfold zk at e
   split at e
   ·obtain⟨h,rfl⟩:=aK e
    rw[aI rx,aI ry]
    exact .inl (.inl ⟨_,_,rfl,rfl,tj h,q _ H (.sc rfl)⟩)
   ·obtain⟨h,rfl⟩:=aK e
    rw[cJ rx,aI ry]
    exact .inl (.inr (.inl ⟨_,_,rfl,rfl,h.1,h.2.1,h.2.2,q _ H (.sc rfl)⟩))
   ·rename_i a
    obtain⟨h,rfl⟩:=aK e
    obtain⟨p,xs,rfl,h1,h2⟩:=bO rx
    rw[aI ry]
    refine .inl (.inr (.inr (.inr ⟨p,b,xs,rfl,rfl,h1,λz=>h.1 (h2.nil_iff.mp z),by rw[h2.length];exact h.2.1,h.2.2.1,h.2.2.2,λz=>q _ H (.im ?_),λz p hp=>q _ _ (.tup hp (h2.reps _))⟩)))
    subst z
    have e1:(Bu (1:Int).toNat a).flatten=a:=by simp
    rw[e1,RpI]
    exact⟨p,xs,rfl,h1,h2⟩
   ·cases e
  ·obtain⟨h,rfl⟩:=aK e
   obtain⟨p,xs,rfl,h1,h2⟩:=bA rx
   rw[aI ry]
   exact .inr ⟨p,b,xs,rfl,rfl,h1,h.1,h.2.1,by rw[h2.length];exact h.2.2,λp hp=>q _ _ (.li hp (h2.reps _))⟩
  ·cases e
 ·cases e
@[irreducible] noncomputable def fH:T->T->Option T:=i2 λa b=>if 0<b/\b<2^64 then some (.im (.int (a / b)))else none
theorem ou:cC K (rI lv λi j=>.int (i / j)) fH:=by
 intro H x y tx ty t Q rx ry e q
 unfold fH at e
 obtain⟨a,b,rfl,rfl,e⟩:=fq e
 obtain⟨h,rfl⟩:=aK e
 rw[aI rx,aI ry]
 exact⟨_,_,rfl,rfl,h,q _ H (.sc rfl)⟩
@[irreducible] noncomputable def dZ:T->T->Option T:=i2 λa b=>if 0<b then some (.im (.int (a % b)))else none
theorem qI:cC K (rI (λ_ j=>0<j) λi j=>.int (i % j)) dZ:=by
 intro H x y tx ty t Q rx ry e q
 unfold dZ at e
 obtain⟨a,b,rfl,rfl,e⟩:=fq e
 obtain⟨h,rfl⟩:=aK e
 rw[aI rx,aI ry]
 exact⟨_,_,rfl,rfl,h,q _ H (.sc rfl)⟩
@[irreducible] noncomputable def oq:T->T->Option T:=i2 λa b=>if 0<=b/\b<=1000000/\a.natAbs<2^64 then some (.im (.int (a^b.toNat)))else none
theorem qK:cC K (rI vS λi j=>.int (i^j.toNat)) oq:=by
 intro H x y tx ty t Q rx ry e q
 unfold oq at e
 obtain⟨a,b,rfl,rfl,e⟩:=fq e
 obtain⟨h,rfl⟩:=aK e
 rw[aI rx,aI ry]
 exact⟨_,_,rfl,rfl,h,q _ H (.sc rfl)⟩
@[irreducible] noncomputable def fm (p:Int->Int->Bool):T->T->Option T:=i2 λa b=>some (.im (.bl (p a b)))
theorem iD {p:Int->Int->Bool}:cC K (rI0 λi j=>.bl (p i j)) (fm p):=by
 intro H x y tx ty t Q rx ry e q
 unfold fm at e
 obtain⟨a,b,rfl,rfl,e⟩:=fq e
 cases e
 rw[aI rx,aI ry]
 exact⟨_,_,rfl,rfl,q _ H (.sc rfl)⟩
noncomputable def vH (a b:I):Bool:=match a.sc with
 | some v=>(match b.sc with
  | some w=>rP v w
  | none=>false)
 | none=>false
noncomputable def ofV:V->I
 | .bl b=>.bl b
 | .int i=>.int i
 | .str x=>.str x
 | _=>.non
theorem vg {a:I}{v:V}(h:a.sc=some v):ofV v=a:=by cases a<;>cases h<;>rfl
noncomputable def eqI:I->I->Option Bool
 | .tup a,.tup b=>if I.doks a=true/\I.doks b=true/\I.deps a<=50 then some (decide (a=b))else none
 | a,b=>if vH a b=true then some (decide (a=b))else none
noncomputable def eqB:T->T->Option Bool
 | .im a,.im b=>eqI a b
 | .li a,.li b=>if I.doks a=true/\I.doks b=true/\I.deps a<=50 then some (decide (a=b))else none
 | _,_=>none
@[irreducible] noncomputable def eqT (x y:T):Option T:=(eqB x y).map λb=>.im (.bl b)
@[irreducible] noncomputable def neT (x y:T):Option T:=(eqB x y).map λb=>.im (.bl !b)
theorem wc {a b:I}{c:Bool}(h:eqI a b=some c):(∃x y,a=.tup x/\b=.tup y/\I.doks x=true/\I.doks y=true/\I.deps x<=50/\c=decide (x=y)) ∨ ∃v w,a.sc=some v/\b.sc=some w/\rP v w=true/\c=decide (v=w):=by
 unfold eqI at h
 split at h
 ·rename_i x y
  split at h
  ·rename_i hh;cases h;exact .inl ⟨x,y,rfl,rfl,hh.1,hh.2.1,hh.2.2,rfl⟩
  ·cases h
 ·split at h
  ·rename_i hh
   cases h
   right
   unfold vH at hh
   split at hh
   ·rename_i v ev
    split at hh
    ·rename_i w ew
     refine⟨v,w,ev,ew,hh,?_⟩
     have:(a=b)↔(v=w):=⟨λz=>BQ.inj (ev.symm.trans ((congrArg I.sc z).trans ew)),λz=>by rw[←vg ev,←vg ew,z]⟩
     exact decide_eq_decide.mpr this
    ·cases hh
   ·cases hh
  ·cases h
theorem pw {x y:V}{tx ty:T}{b:Bool}{P:V->Prop}(rx:Rpx K H tx x)(ry:Rpx K H ty y)(e:eqB tx ty=some b) :
  (rP x y=true/\b=decide (x=y))∨(∃ds es,Rep K H (.tup ds) x/\Rep K H (.tup es) y/\aF ds<=50/\(b=true↔ds=es))∨(∃p q xs ys ds es,x=.ref p/\y=.ref q/\SqL K H p xs/\SqL K H q ys/\Reps K H ds xs/\Reps K H es ys/\aF ds<=50/\(b=true↔ds=es)):=by
 unfold eqB at e
 split at e
 ·rename_i a c
  rcases wc e with⟨x1,y1,rfl,rfl,h1,h2,h3,rfl⟩|⟨v,w,h1,h2,h3,rfl⟩
  ·refine .inr (.inl ⟨I.toDs x1,I.toDs y1,?_,?_,by rw[eM];exact h3,?_⟩)
   ·have:=iL (i:=.tup x1) (by rw[I.dok];exact h1) (bW rx)
    rwa [I.toD]at this
   ·have:=iL (i:=.tup y1) (by rw[I.dok];exact h2) (bW ry)
    rwa [I.toD]at this
   ·rw[decide_eq_true_eq,f7 h1 h2]
  ·rw[vG h1 (bW rx),vG h2 (bW ry)]
   exact .inl ⟨h3,rfl⟩
 ·split at e
  ·rename_i a c h
   cases e
   obtain⟨p,xs,rfl,h1,h2⟩:=bA rx
   obtain⟨p',ys,rfl,g1,g2⟩:=bA ry
   exact .inr (.inr ⟨p,p',xs,ys,_,_,rfl,rfl,aM h1,aM g1,e7 h.1 h2,e7 h.2.1 g2,by rw[eM];exact h.2.2,by rw[decide_eq_true_eq,f7 h.1 h.2.1]⟩)
  ·cases e
 ·cases e
theorem tV:cC K (yd K) eqT:=by
 intro H x y tx ty t Q rx ry e q
 unfold eqT at e
 cases h:eqB tx ty with
 | none=>rw[h]at e;cases e
 | some b=>
  rw[h]at e;cases e
  rcases pw (P:=λ_=>True) rx ry h with⟨h1,rfl⟩|⟨ds,es,h1,h2,h3,h4⟩|⟨p,p',xs,ys,ds,es,h1,h2,h3,h4,h5,h6,h7,h8⟩
  ·exact .inl ⟨h1,q _ H (.sc rfl)⟩
  ·refine .inr (.inl ⟨ds,es,h1,h2,h3,λc hc=>?_⟩)
   have:c=b:=by rw[Cp,hc,h4]
   subst this
   exact q _ H (.sc rfl)
  ·refine .inr (.inr ⟨p,p',xs,ys,ds,es,h1,h2,h3,h4,h5,h6,h7,λc hc=>?_⟩)
   have:c=b:=by rw[Cp,hc,h8]
   subst this
   exact q _ H (.sc rfl)
theorem tX:cC K (yg K) neT:=by
 intro H x y tx ty t Q rx ry e q
 unfold neT at e
 cases h:eqB tx ty with
 | none=>rw[h]at e;cases e
 | some b=>
  rw[h]at e;cases e
  rcases pw (P:=λ_=>True) rx ry h with⟨h1,rfl⟩|⟨ds,es,h1,h2,h3,h4⟩|⟨p,p',xs,ys,ds,es,h1,h2,h3,h4,h5,h6,h7,h8⟩
  ·exact .inl ⟨h1,q _ H (.sc rfl)⟩
  ·refine .inr (.inl ⟨ds,es,h1,h2,h3,λc hc=>?_⟩)
   have:c = !b:=by cases b<;>cases c<;>simp_all
   subst this
   exact q _ H (.sc rfl)
  ·refine .inr (.inr ⟨p,p',xs,ys,ds,es,h1,h2,h3,h4,h5,h6,h7,λc hc=>?_⟩)
   have:c = !b:=by cases b<;>cases c<;>simp_all
   subst this
   exact q _ H (.sc rfl)
noncomputable def occ (i j:Str):Bool:=!(Builtin.Str.occurrences j i 0 j.length 1).isEmpty
noncomputable def inI (i:I) (y:T):Option Bool:=match y with
 | .im j=>(match j with
  | .str b=>(match i with
   | .str a=>some (occ a b)
   | _=>none)
  | .tup is=>if i.dok=true/\I.doks is=true/\I.deps is<=50 then some (decide (i∈is))else none
  | _=>none)
 | .li is=>if i.dok=true/\I.doks is=true/\I.deps is<=50 then some (decide (i∈is))else none
 | _=>none
noncomputable def inB (x y:T):Option Bool:=match x with
 | .im i=>inI i y
 | _=>none
@[irreducible] noncomputable def inT (x y:T):Option T:=(inB x y).map λb=>.im (.bl b)
theorem wo {x y:V}{tx ty:T}{b:Bool}(rx:Rpx K H tx x)(ry:Rpx K H ty y)(e:inB tx ty=some b) :
  (∃i j,x=.str i/\y=.str j/\b=occ i j)∨(∃p xs d ds,y=.ref p/\(SqL K H p xs∨SqT K H p xs)/\Rep K H d x/\Reps K H ds xs/\aF ds<=50/\(b=true↔d∈ds)):=by
 unfold inB at e
 split at e
 ·unfold inI at e
  split at e
  ·split at e
   ·split at e
    ·cases e;exact .inl ⟨_,_,cJ rx,cJ ry,rfl⟩
    ·cases e
   ·obtain⟨h,rfl⟩:=aK e
    obtain⟨p,xs,rfl,h1,h2⟩:=bO ry
    exact .inr ⟨p,xs,_,_,rfl,.inr h1,iL h.1 (bW rx),e7 h.2.1 h2,by rw[eM];exact h.2.2,by rw[decide_eq_true_eq,iz h.1 h.2.1]⟩
   ·cases e
  ·obtain⟨h,rfl⟩:=aK e
   obtain⟨p,xs,rfl,h1,h2⟩:=bA ry
   exact .inr ⟨p,xs,_,_,rfl,.inl (aM h1),iL h.1 (bW rx),e7 h.2.1 h2,by rw[eM];exact h.2.2,by rw[decide_eq_true_eq,iz h.1 h.2.1]⟩
  ·cases e
 ·cases e
theorem tW:cC K (ye K) inT:=by
 intro H x y tx ty t Q rx ry e q
 unfold inT at e
 cases h:inB tx ty with
 | none=>rw[h]at e;cases e
 | some b=>
  rw[h]at e;cases e
  rcases wo rx ry h with⟨i,j,rfl,rfl,rfl⟩|⟨p,xs,d,ds,h1,h2,h3,h4,h5,h6⟩
  ·exact .inl ⟨i,j,rfl,rfl,q _ H (.sc rfl)⟩
  ·refine .inr (.inr ⟨p,xs,d,ds,h1,h2,h3,h4,h5,λc hc=>?_⟩)
   have:c=b:=by rw[Cp,hc,h6];simp
   subst this
   exact q _ H (.sc rfl)
noncomputable def l1 {α:Type} (g:T->Option α) (ts:List T):Option α:=match ts with
 | []=>none
 | t::r=>(match r with
  | []=>g t
  | _::_=>none)
theorem ci {α:Type}{g:T->Option α}{ts:List T}{u : α}(h:l1 g ts=some u):∃t,ts=[t]/\g t=some u:=by
 cases ts with
 | nil=>cases h
 | cons t r=>cases r with
  | nil=>exact⟨t,rfl,h⟩
  | cons _ _=>cases h
noncomputable def l2 {α:Type} (g:T->T->Option α) (ts:List T):Option α:=match ts with
 | []=>none
 | t::r=>l1 (g t) r
theorem iu {α:Type}{g:T->T->Option α}{ts:List T}{u : α}(h:l2 g ts=some u):∃t s,ts=[t,s]/\g t s=some u:=by
 cases ts with
 | nil=>cases h
 | cons t r=>
  obtain⟨s,rfl,e⟩:=ci (show l1 (g t) r=some u from h)
  exact⟨t,s,rfl,e⟩
noncomputable def zj (i:I):Option T:=match i with
 | .str x=>if x.length<=sizeLine then some (.im (.int x.length))else none
 | .tup is=>some (.im (.int is.length))
 | _=>none
noncomputable def zi (t:T):Option T:=match t with
 | .im i=>zj i
 | .li is=>some (.im (.int is.length))
 | .lst ts=>some (.im (.int ts.length))
 | .tup ts=>some (.im (.int ts.length))
 | _=>none
@[irreducible] noncomputable def cj:List T->Option T:=l1 zi
theorem gS {t:T}{vs:List V}(h:Rpxs K H [t] vs):∃v,vs=[v]/\Rpx K H t v:=by
 obtain⟨v,r,rfl,h1,h2⟩:=h
 rw[Rpxs]at h2
 subst h2
 exact⟨v,rfl,h1⟩
theorem yt {t u:T}{vs:List V}(h:Rpxs K H [t,u] vs):∃v w,vs=[v,w]/\Rpx K H t v/\Rpx K H u w:=by
 obtain⟨v,r,rfl,h1,h2⟩:=h
 obtain⟨w,rfl,h3⟩:=gS h2
 exact⟨v,w,rfl,h1,h3⟩
theorem km {ts:List T}{v:V}(h:Rpx K H (.tup ts) v):∃a xs F,v=.ref a/\SqT K H a xs/\Rps K H ts xs F:=by
 obtain⟨F,h⟩:=h;rw[Rp]at h;obtain⟨a,xs,h1,h2,h3⟩:=h;exact⟨a,xs,F,h1,h2,h3⟩
theorem qE:cO K (q5 K) cj:=by
 intro H vs ts t Q r e q
 unfold cj at e
 have e0:=ci e
 clear e
 obtain⟨x,rfl,e⟩:=e0
 obtain⟨v,rfl,r1⟩:=gS r
 unfold zi at e
 split at e
 ·unfold zj at e
  split at e
  ·obtain⟨h,rfl⟩:=aK e
   rw[cJ r1]
   exact .inr ⟨_,rfl,h,q _ H (.sc rfl)⟩
  ·cases e
   obtain⟨p,xs,rfl,h1,h2⟩:=bO r1
   exact .inl ⟨p,xs,rfl,.inr h1,q _ H (.sc (by rw[h2.length];rfl))⟩
  ·cases e
 ·cases e
  obtain⟨p,xs,rfl,h1,h2⟩:=bA r1
  exact .inl ⟨p,xs,rfl,.inl (aM h1),q _ H (.sc (by rw[h2.length];rfl))⟩
 ·cases e
  obtain⟨p,xs,F,rfl,h1,h2⟩:=fA r1
  exact .inl ⟨p,xs,rfl,.inl (aM h1),q _ H (.sc (by rw[h2.length];rfl))⟩
 ·cases e
  obtain⟨p,xs,F,rfl,h1,h2⟩:=km r1
  exact .inl ⟨p,xs,rfl,.inr h1,q _ H (.sc (by rw[h2.length];rfl))⟩
 ·cases e
@[irreducible] noncomputable def lP:List T->Option T:=l2 (i2 λa b=>some (.im (.int (if b<a then b else a))))
theorem qH:cO K (λxs H Q=>∃i j,xs=[.int i,.int j]/\Q (.int (if j<i then j else i)) H) lP:=by
 intro H vs ts t Q r e q
 unfold lP at e
 have e0:=iu e
 clear e
 obtain⟨x,y,rfl,e⟩:=e0
 obtain⟨a,b,rfl,rfl,e⟩:=fq e
 cases e
 obtain⟨v,w,rfl,r1,r2⟩:=yt r
 rw[aI r1,aI r2]
 exact⟨_,_,rfl,q _ H (.sc rfl)⟩
@[irreducible] noncomputable def kT:List T->Option T:=l2 (i2 λa b=>some (.im (.int (if b>a then b else a))))
theorem qG:cO K (λxs H Q=>∃i j,xs=[.int i,.int j]/\Q (.int (if j>i then j else i)) H) kT:=by
 intro H vs ts t Q r e q
 unfold kT at e
 have e0:=iu e
 clear e
 obtain⟨x,y,rfl,e⟩:=e0
 obtain⟨a,b,rfl,rfl,e⟩:=fq e
 cases e
 obtain⟨v,w,rfl,r1,r2⟩:=yt r
 rw[aI r1,aI r2]
 exact⟨_,_,rfl,q _ H (.sc rfl)⟩
noncomputable def zd (t:T):Option T:=match t with
 | .im i=>(match i with
  | .int a=>some (.im (.int a))
  | .bl b=>some (.im (.int (if b then 1 else 0)))
  | _=>none)
 | _=>none
@[irreducible] noncomputable def pI:List T->Option T:=l1 zd
theorem qC:cO K (λxs H Q=>(∃i,xs=[.int i]/\Q (.int i) H) ∨ ∃k,xs=[.bl k]/\Q (.int (if k then 1 else 0)) H) pI:=by
 intro H vs ts t Q r e q
 unfold pI at e
 have e0:=ci e
 clear e
 obtain⟨x,rfl,e⟩:=e0
 obtain⟨v,rfl,r1⟩:=gS r
 unfold zd at e
 split at e
 ·split at e
  ·cases e
   rw[aI r1]
   exact .inl ⟨_,rfl,q _ H (.sc rfl)⟩
  ·cases e
   rw[lh r1]
   exact .inr ⟨_,rfl,q _ H (.sc rfl)⟩
  ·cases e
 ·cases e
noncomputable def uF (g:List I->T) (t:T):Option T:=match t with
 | .im i=>(match i with
  | .tup is=>some (g is)
  | _=>none)
 | .li is=>some (g is)
 | _=>none
@[irreducible] noncomputable def gE:List T->Option T:=l1 (uF λis=>.im (.tup is))
theorem qN:cO K (rh K) gE:=by
 intro H vs ts t Q r e q
 unfold gE at e
 have e0:=ci e
 clear e
 obtain⟨x,rfl,e⟩:=e0
 obtain⟨v,rfl,r1⟩:=gS r
 unfold uF at e
 split at e
 ·split at e
  ·cases e
   obtain⟨p,xs,rfl,h1,h2⟩:=bO r1
   exact⟨p,xs,rfl,.inr ⟨h1,q _ H (.im (bW r1))⟩⟩
  ·cases e
 ·cases e
  obtain⟨p,xs,rfl,h1,h2⟩:=bA r1
  exact⟨p,xs,rfl,.inl ⟨aM h1,λl hl=>q _ _ (.tup hl h2)⟩⟩
 ·cases e
@[irreducible] noncomputable def lJ:List T->Option T:=l1 (uF λis=>.li is)
theorem qF:cO K (re K) lJ:=by
 intro H vs ts t Q r e q
 unfold lJ at e
 have e0:=ci e
 clear e
 obtain⟨x,rfl,e⟩:=e0
 obtain⟨v,rfl,r1⟩:=gS r
 unfold uF at e
 split at e
 ·split at e
  ·cases e
   obtain⟨p,xs,rfl,h1,h2⟩:=bO r1
   exact⟨p,xs,rfl,.inr h1,λl hl=>q _ _ (.li hl h2)⟩
  ·cases e
 ·cases e
  obtain⟨p,xs,rfl,h1,h2⟩:=bA r1
  exact⟨p,xs,rfl,.inl (aM h1),λl hl=>q _ _ (.li hl h2)⟩
 ·cases e
noncomputable def bls:List I->Option (List Bool)
 | []=>some []
 | .bl b::is=>(bls is).map (b :: ·)
 | _=>none
theorem vY {is:List I}{xs:List V}:∀{bs:List Bool},bls is=some bs->RpIs K H is xs->xs=bs.map V.bl:=by
 induction is generalizing xs with
 | nil=>intro bs h r;cases h;exact r.nil_inv
 | cons i is ih=>
  intro bs h r
  cases i with
  | bl b=>
   simp only[bls]at h
   cases e:bls is with
   | none=>rw[e]at h;cases h
   | some cs=>
    rw[e]at h;cases h
    obtain⟨x,r',rfl,h1,h2⟩:=r.cons_inv
    rw[RpI]at h1
    rw[h1,ih e h2];rfl
  | _=>simp[bls]at h
noncomputable def nD:List T->Option T
 | [.li is]=>(bls is).map λbs=>.im (.bl (bs.all id))
 | _=>none
theorem qA:cO K (Ad K) nD:=by
 intro H vs ts t Q r e q
 unfold nD at e
 split at e
 ·rename_i is
  cases h:bls is with
  | none=>rw[h]at e;cases e
  | some bs=>
   rw[h]at e;cases e
   obtain⟨v,rfl,r1⟩:=gS r
   obtain⟨p,xs,rfl,h1,h2⟩:=bA r1
   have:=vY h h2
   subst this
   exact⟨p,bs,rfl,aM h1,q _ H (.sc rfl)⟩
 ·cases e
noncomputable def ln:List I->Option (List Str)
 | []=>some []
 | .str b::is=>(ln is).map (b :: ·)
 | _=>none
theorem uL {is:List I}{xs:List V}:∀{bs:List Str},ln is=some bs->RpIs K H is xs->xs=bs.map V.str:=by
 induction is generalizing xs with
 | nil=>intro bs h r;cases h;exact r.nil_inv
 | cons i is ih=>
  intro bs h r
  cases i with
  | str b=>
   simp only[ln]at h
   cases e:ln is with
   | none=>rw[e]at h;cases h
   | some cs=>
    rw[e]at h;cases h
    obtain⟨x,r',rfl,h1,h2⟩:=r.cons_inv
    rw[RpI]at h1
    rw[h1,ih e h2];rfl
  | _=>simp[ln]at h
noncomputable def ik:T->List T->Option T
 | .im (.str z),[.li is]=>match ln is with
  | some zs=>if(zs.map (·.length)).sum+zs.length*z.length<=16777216 then some (.im (.str (Txt.join z zs)))else none
  | none=>none
 | _,_=>none
theorem oy:o5 K "str" (vx K) ik:=by
 intro H x vs tx ts t Q rx r e q
 unfold ik at e
 split at e
 ·rename_i z is
  split at e
  ·rename_i zs hz
   split at e
   ·cases e
    obtain⟨v,rfl,r1⟩:=gS r
    obtain⟨p,xs,rfl,h1,h2⟩:=bA r1
    have:=uL hz h2
    subst this
    rw[cJ rx]
    exact⟨z,p,zs,rfl,rfl,aM h1,by assumption,q _ H (.sc rfl)⟩
   ·cases e
  ·cases e
 ·cases e
end
section
variable  {Γ:Gm}{H H':Hp}{X:List En}{e:En}{ρ:Rho}{Z:St}{E:List En}{v:V}{t:T}{K:yF}
theorem Sim.partN (S:Sim Γ H ρ Z E)(sm:Same H H'){s:T}(he:e∈E){ro:Option Nat}{p:Option (List Ac)}(ho:e.r.k=.vw ro p){P:V->Prop}(hp:∀F,Rp Γ.K H e.r.t e.v F->∃w G,P w/\Rp Γ.K H' s w G/\∀a∈G,a∈F∨H a=none):∃w,P w/\Sim Γ H' ρ Z (⟨none,w,⟨.vw ro none,s⟩⟩::E):=by
 obtain⟨L,g,hL⟩:=S.sl
 have he':e∈L.map (·.e):=by rw[hL];exact yaL _ he
 obtain⟨h,hh,rfl⟩:=BB.mp he'
 obtain⟨w,G,h1,h2,h3⟩:=hp h.F (g.rp h hh)
 have own:∀a,H a=none->a∉L.flatMap Hd.own:=λa ha z=>by
  obtain⟨o,e,_⟩:=(g.ad a z).1
  rw[ha]at e;cases e
 have g':GW Γ H' L:=by
  have:=g.step (hs:=[]) (L:=L) (H':=H') (by simp) (by simp) (sm.offM _) (by simp) (key:=none) (v:=.non) (r:=⟨.ow,.im .non⟩) (F:=[]) CD (by simp) (ff (by rw[RpI])) (.inl ⟨rfl,by simp⟩) (λj hj=>by cases hj)
  exact this.drop rfl
 refine⟨w,h1,⟨⟨_,g'.push (v:=w) (r:=⟨.vw ro none,s⟩) (F:=G) h2 ?_ (.inl rfl),by rw[Bt,hL];rfl⟩,S.al,S.len,λx hx j hj=>?_⟩⟩
 ·have k:=g'.kd h hh
  unfold KdOk at k⊢
  rw[ho]at k
  cases ro with
  | none=>exact λa ha=>(h3 a ha).elim (k a) (own a)
  | some j=>
   obtain⟨x,x1,x2,x3,x4,x5⟩:=k
   exact⟨x,x1,x2,x3,λa ha=>(h3 a ha).elim (x4 a) (λz=>.inr (own a z)),λq hq=>by cases hq⟩
 ·rcases ycM hx with rfl|hx
  ·cases hj
  ·exact S.hi x hx j hj
theorem rO:∀{ts:List T} {xs:List V} {F:List Addr},Rps K H ts xs F->∃hs:List Hd,hs.map (·.e)=aS xs ts/\hs.flatMap (·.F)=F/\∀h∈hs,Rp K H h.e.r.t h.e.v h.F/\h.e.r.k=.ow/\h.e.key=none/\∀a∈h.F,a∈F
 | [],xs,F,r=>by
  obtain⟨rfl,rfl⟩:=r.nil_inv
  exact⟨[],rfl,rfl,by simp⟩
 | t::ts,xs,F,r=>by
  obtain⟨y,r',F1,F2,rfl,r1,r2,rfl⟩:=r.cons_inv
  obtain⟨hs,h1,h2,h3⟩:=rO r2
  refine⟨⟨⟨none,y,⟨.ow,t⟩⟩,F1⟩::hs,by rw[Bt,h1];rfl,by rw[BE,h2],λh hh=>?_⟩
  rcases ycM hh with rfl|hh
  ·exact⟨r1,rfl,rfl,λa ha=>yaL _ ha⟩
  ·obtain⟨a,b,c,d⟩:=h3 h hh
   exact⟨a,b,c,λx hx=>yaR _ (d x hx)⟩
theorem Sim.split {ts:List T}(S:Sim Γ H ρ Z (⟨none,v,⟨.ow,.tup ts⟩⟩::E)):∃a xs,v=.ref a/\SqT Γ.K H a xs/\xs.length=ts.length/\Sim Γ H ρ Z (aS xs ts++E):=by
 obtain⟨L,g,h⟩:=S.sl
 rw[BV]at h
 obtain⟨x,L',rfl,h1,h2⟩:=aA h
 have rp:=g.rp x ymS
 rw[h1,Rp]at rp
 obtain⟨a,xs,ev,hq,rps⟩:=rp
 have k0:=g.kd x ymS
 unfold KdOk at k0
 rw[h1]at k0
 have eo:x.own=x.F:=by unfold Hd.own;rw[h1];rfl
 obtain⟨hs,e1,e2,e3⟩:=rO rps
 have ho:∀h∈hs,h.e.r.k.isOw=true:=λh hh=>by rw[(e3 h hh).2.1];rfl
 have eown:(hs++L').flatMap Hd.own=(x::L').flatMap Hd.own:=by rw[BH,BE,em ho,e2,eo]
 refine⟨a,xs,ev,hq,rps.length,⟨⟨hs++L',⟨?_,?_,λy hy=>?_,λy hy=>?_,?_,g.fr,g.iol⟩,?_⟩,S.al,S.len,λy hy j hj=>?_⟩⟩
 ·rw[eown];exact g.nd
 ·rw[eown];exact g.ad
 ·rcases yaM hy with hy|hy
  ·exact(e3 y hy).1
  ·exact g.rp y (ymC _ hy)
 ·rcases yaM hy with hy|hy
  ·unfold KdOk
   rw[(e3 y hy).2.1]
   exact λb hb=>k0 b ((e3 y hy).2.2.2 b hb)
  ·have k:=g.kd y (ymC _ hy)
   unfold KdOk at k⊢
   split at k
   ·exact k
   ·exact k
   ·rw[eown];exact k
   ·obtain⟨z,z1,z2,z3,z4,z5⟩:=k
    rcases ycM z1 with rfl|z1
    ·rw[h1]at z2;cases z2
    ·exact⟨z,yaR _ z1,z2,z3,by rw[eown];exact z4,z5⟩
 ·have ks:=g.ks
  rw[BP,h1]at ks
  rw[CF,List.filterMap_eq_nil_iff.mpr λy hy=>(e3 y hy).2.2.1]
  exact ks
 ·rw[BL,e1,h2,BK]
 ·rcases yaM hy with hy|hy
  ·have:∀{xs:List V} {ts:List T},y∈aS xs ts->y.key=none:=by
    intro xs
    induction xs with
    | nil=>intro ts h;cases ts<;>cases h
    | cons x xs ih=>
     intro ts h
     cases ts with
     | nil=>cases h
     | cons t ts=>
      rcases ycM h with rfl|h
      ·rfl
      ·exact ih h
   rw[this hy]at hj;cases hj
  ·exact S.hi y (ymC _ hy) j hj
noncomputable def partV (ro:Option Nat):T->R
 | .im i=>⟨.ow,.im i⟩
 | t=>⟨.vw ro none,t⟩
noncomputable def parts:R->Option (List R)
 | ⟨_,.im (.tup is)⟩=>some (is.map λi=>⟨.ow,.im i⟩)
 | ⟨.ow,.tup ts⟩=>some (ts.map λt=>⟨.ow,t⟩)
 | ⟨.vw ro _,.tup ts⟩=>some (ts.map (partV ro))
 | _=>none
theorem jE:∀{xs:List V} {ts:List T},aS xs ts=ens xs (ts.map λt=>⟨.ow,t⟩)
 | [],ts=>by cases ts<;>rfl
 | x::xs,[]=>rfl
 | x::xs,t::ts=>by rw[aS,Bt,ens,jE]
theorem Sim.imms:∀{is:List I} {xs:List V} {E:List En},Sim Γ H ρ Z E->RpIs Γ.K H is xs->Sim Γ H ρ Z (ens xs (is.map λi=>⟨.ow,.im i⟩)++E)
 | [],xs,E,S,r=>by obtain rfl:=r.nil_inv;exact S
 | i::is,xs,E,S,r=>by
  obtain⟨x,r',rfl,h1,h2⟩:=r.cons_inv
  rw[Bt,ens,BV]
  exact(Sim.imms S h2).imm h1
theorem Sim.parts {r:R}{rs:List R}(S:Sim Γ H ρ Z (⟨none,v,r⟩::E))(h:L2.parts r=some rs):∃a xs,v=.ref a/\SqT Γ.K H a xs/\xs.length=rs.length/\Sim Γ H ρ Z (ens xs rs++E):=by
 unfold L2.parts at h
 split at h
 ·rename_i k is
  cases h
  obtain⟨F,r⟩:=S.rd ymS
  obtain⟨a,xs,e,hq,hr⟩:=bO ⟨F,r⟩
  exact⟨a,xs,e,hq,by rw[hr.length,Bw],(S.drop rfl).imms hr⟩
 ·rename_i ts
  cases h
  obtain⟨a,xs,e,hq,hl,S2⟩:=S.split
  rw[jE]at S2
  exact⟨a,xs,e,hq,by rw[hl,Bw],S2⟩
 ·rename_i ro p ts
  cases h
  obtain⟨F,r⟩:=S.rd ymS
  obtain⟨a,xs,G,e,hq,hr⟩:=km ⟨F,r⟩
  obtain⟨L,g,hL⟩:=S.sl
  rw[BV]at hL
  obtain⟨x,L',rfl,h1,h2⟩:=aA hL
  have rp:=g.rp x ymS
  rw[h1,Rp]at rp
  obtain⟨a',xs',ev,hq',rps⟩:=rp
  have S3:Sim Γ H ρ Z (ens xs' (ts.map (partV ro))++E):=by
   have go:∀(ts:List T) (xs:List V) (G:List Addr),Rps Γ.K H ts xs G->(∀a∈G,a∈x.F)->∃L1,GW Γ H (L1++x::L')/\L1.map (·.e)=ens xs (ts.map (partV ro))/\∀h∈L1,h.e.key=none:=by
    intro ts
    induction ts with
    | nil=>intro xs G r _;obtain⟨rfl,rfl⟩:=r.nil_inv;exact⟨[],g,rfl,by simp⟩
    | cons t ts ih=>
     intro xs G r hG
     obtain⟨y,r',F1,F2,rfl,r1,r2,rfl⟩:=r.cons_inv
     obtain⟨L1,g1,e1,e2⟩:=ih r' F2 r2 λa ha=>hG a (yaR _ ha)
     have kx:=g1.kd x (yaR _ ymS)
     unfold KdOk at kx
     rw[h1]at kx
     have key:∃h:Hd,GW Γ H (h::(L1++x::L'))/\h.e=⟨none,y,partV ro t⟩:=by
      have vw:GW Γ H (⟨⟨none,y,⟨.vw ro none,t⟩⟩,F1⟩::(L1++x::L')):=by
       refine g1.push (v:=y) (r:=⟨.vw ro none,t⟩) (F:=F1) r1 ?_ (.inl rfl)
       unfold KdOk
       cases ro with
       | none=>exact λa ha=>kx a (hG a (yaL _ ha))
       | some j=>
        obtain⟨z,z1,z2,z3,z4,z5⟩:=kx
        exact⟨z,z1,z2,z3,λa ha=>z4 a (hG a (yaL _ ha)),λq hq=>by cases hq⟩
      cases t with
      | im i=>exact⟨_,g1.push (v:=y) (r:=⟨.ow,.im i⟩) (F:=[]) (ff (aZ r1).1) (λa ha=>by cases ha) (.inr rfl),rfl⟩
      | _=>exact⟨_,vw,rfl⟩
     obtain⟨h,gh,eh⟩:=key
     refine⟨h::L1,gh,by rw[Bt,eh,e1];rfl,λz hz=>?_⟩
     rcases ycM hz with rfl|hz
     ·rw[eh]
     ·exact e2 z hz
   obtain⟨L1,g1,e1,e2⟩:=go ts xs' x.F rps λa ha=>ha
   have g2:GW Γ H (L1++L'):=by
    have p:(L1++x::L').Perm (x::(L1++L')):=BZ
    exact(g1.perm p).drop (by rw[h1])
   refine⟨⟨_,g2,by rw[BL,e1,h2,BK]⟩,S.al,S.len,λy hy j hj=>?_⟩
   rcases yaM hy with hy|hy
   ·rw[←e1]at hy
    obtain⟨z,hz,rfl⟩:=BB.mp hy
    rw[e2 z hz]at hj;cases hj
   ·exact S.hi y (ymC _ hy) j hj
  exact⟨a',xs',ev,hq',by rw[rps.length,Bw],S3⟩
 ·cases h
@[irreducible] noncomputable def mGNil:MGs:=⟨λrs ρ=>match rs with
 | []=>some ρ
 | _=>none,[]⟩
@[irreducible] noncomputable def aL (g:MG)(gs:MGs):MGs:=⟨λrs ρ=>match rs with
 | r::rs=>if rs.all (aC g.mu)=true then(match g.run r ρ with
  | some ρ1=>gs.run rs ρ1
  | none=>none)else none
 | []=>none,g.mu++gs.mu⟩
@[irreducible] noncomputable def cr (gs:MGs):MG:=⟨λr ρ=>match parts r with
 | some rs=>gs.run rs ρ
 | none=>none,gs.mu⟩
theorem rB:kC K wj mGNil:=by with_unfolding_all
 intro Γ H ρ Z E Q vs rs ρ' hK hr hl S q
 cases rs with
 | nil=>
  cases hr
  have:vs=[]:=DB.mp hl
  subst this
  exact⟨rfl,q Z H (by rw[show mGNil.mu=[]from rfl,bn];exact S)⟩
 | cons _ _=>cases hr
theorem oN {g:TG}{gs:TGs}{m:MG}{ms:MGs}(h1:g9 K g m)(h2:kC K gs ms):kC K (pD g gs) (aL m ms):=by with_unfolding_all
 intro Γ H ρ Z E Q vs rs ρ' hK hr hl S q
 cases rs with
 | nil=>cases hr
 | cons r rs=>
  cases vs with
  | nil=>cases hl
  | cons v vs=>
   simp only[aL]at hr q
   split at hr
   ·rename_i al
    split at hr
    ·rename_i ρ1 e1
     refine⟨v,vs,rfl,?_⟩
     rw[ens,BV]at S
     refine h1 Γ H ρ Z _ _ v r ρ1 hK e1 S λZ1 H1 S1=>?_
     rw[aD,ge al]at S1
     exact h2 Γ H1 ρ1 Z1 _ _ vs rs ρ' hK hr (by simpa using hl) S1 λZ2 H2 S2=>q Z2 H2 (by rw[←af];exact S2)
    ·cases hr
   ·cases hr
theorem rC {gs:TGs}{ms:MGs}{n:Nat}(h:kC K gs ms)(hn:∀rs ρ ρ',ms.run rs ρ=some ρ'->rs.length=n):g9 K (sJ K n gs) (cr ms):=by
 intro Γ H ρ Z E Q v r ρ' hK hr S q
 simp only[cr]at hr q
 split at hr
 ·rename_i rs e1
  obtain⟨a,xs,e,hq,hl,S2⟩:=S.parts e1
  rw[hK]at hq
  exact⟨a,xs,e,hq,by rw[hl];exact hn _ _ _ hr,h Γ H ρ Z _ _ xs rs ρ' hK hr hl S2 q⟩
 ·cases hr
noncomputable def consL (mv:List Nat):List R->Rho->Option (List T×Rho)
 | [],ρ=>some ([],ρ)
 | ⟨.ow,t⟩::rs,ρ=>match consL mv rs ρ with
  | some (ts,ρ')=>some (t::ts,ρ')
  | none=>none
 | ⟨.vw (some i) (some []),t⟩::rs,ρ=>if(mv.contains i&&rs.all (aC [i]))=true then(match ρ[i]? with
  | some (some ⟨.ow,_⟩)=>(match consL mv rs ((ao [i] ρ).set i none)with
   | some (ts,ρ')=>some (t::ts,ρ')
   | none=>none)
  | _=>none)else none
 | _,_=>none
theorem Sim.consL {mv:List Nat}:∀{rs:List R} {vs:List V} {ts:List T} {ρ ρ':Rho} {A E:List En},Sim Γ H ρ Z (A++(ens vs rs++E))->vs.length=rs.length->L2.consL mv rs ρ=some (ts,ρ')->(∀e∈A,e.r.k=.ow/\e.key=none)->vs.length=ts.length/\Sim Γ H ρ' Z (A++(aS vs ts++ae mv E))
 | [],[],ts,ρ,ρ',A,E,S,_,h,hA=>by
  cases h
  refine⟨rfl,?_⟩
  have:=S.weak mv
  rw[aD]at this
  have ea:ae mv A=A:=Cy.mpr λe he=>by unfold az;rw[(hA e he).1];rfl
  rw[ea]at this
  exact this
 | r::rs,v::vs,ts,ρ,ρ',A,E,S,hl,h,hA=>by
  rw[ens,BV]at S
  obtain⟨k,t⟩:=r
  cases k with
  | ow=>
   simp only[L2.consL]at h
   split at h
   ·rename_i ts1 ρ1 e1
    cases h
    obtain⟨h1,S1⟩:=Sim.consL (rs:=rs) (vs:=vs) (A:=A++[⟨none,v,⟨.ow,t⟩⟩]) (E:=E) (by simpa using S) (by simpa using hl) e1 (λe he=>by
     rcases yaM he with he|he
     ·exact hA e he
     ·rw[ysM he];exact⟨rfl,rfl⟩)
    exact⟨by simp[h1],by rw[aS];simpa using S1⟩
   ·cases h
  | io n=>cases h
  | vw a b=>
   cases a with
   | none=>cases h
   | some i=>
    cases b with
    | none=>cases h
    | some p=>
     cases p with
     | cons _ _=>cases h
     | nil=>
      simp only[L2.consL]at h
      split at h
      ·rename_i al
       rw[By]at al
       split at h
       ·rename_i t1 h1
        split at h
        ·rename_i ts1 ρ1 e1
         cases h
         have S0:Sim Γ H ρ Z (⟨none,v,⟨.vw (some i) (some []),t⟩⟩::(A++(ens vs rs++E))):=S.perm BZ
         have S1:=S0.move h1
         have ea:ae [i] A=A:=Cy.mpr λe he=>by unfold az;rw[(hA e he).1];rfl
         rw[aD,ea,aD,ge al.2]at S1
         obtain⟨h2,S2⟩:=Sim.consL (rs:=rs) (vs:=vs) (A:=A++[⟨none,v,⟨.ow,t⟩⟩]) (E:=ae [i] E) (S1.perm (by
          rw[BK]
          exact(BZ).symm)) (by simpa using hl) e1 (λe he=>by
          rcases yaM he with he|he
          ·exact hA e he
          ·rw[ysM he];exact⟨rfl,rfl⟩)
         refine⟨by simp[h2],?_⟩
         rw[aS]
         have ek:ae mv (ae [i] E)=ae mv E:=by
          rw[af]
          unfold ae
          congr 1
          funext e
          rw[ji]
          by_cases hk:az mv e=true
          ·rw[hk,DX]
           unfold az at hk⊢
           split
           ·rename_i j hj
            rw[hj]at hk
            have:j≠i:=λz=>by subst z;simp at hk;exact hk (by simpa using al.1)
            simp[this]
           ·rfl
          ·rw[Eb]at hk;rw[hk,Ei]
         rw[ek]at S2
         simpa using S2
        ·cases h
       ·cases h
      ·cases h
 | [],_::_,_,_,_,_,_,_,h,_,_=>by cases h
 | _::_,[],_,_,_,_,_,_,h,_,_=>by cases h
noncomputable def ims:List T->Option (List I)
 | []=>some []
 | .im i::ts=>(ims ts).map (i :: ·)
 | _=>none
theorem jZ:∀{ts:List T} {is:List I},ims ts=some is->ts=is.map T.im
 | [],is,h=>by cases h;rfl
 | .im i::ts,is,h=>by
  simp only[ims]at h
  cases e:ims ts with
  | none=>rw[e]at h;cases h
  | some js=>rw[e]at h;cases h;rw[Bt,←jZ e]
 | .tup _::_,_,h=>by cases h
 | .li _::_,_,h=>by cases h
 | .lst _::_,_,h=>by cases h
 | .di _::_,_,h=>by cases h
 | .dc _::_,_,h=>by cases h
 | .ins _ _::_,_,h=>by cases h
noncomputable def kX (ts:List T):T:=match ims ts with
 | some is=>.im (.tup is)
 | none=>.tup ts
noncomputable def bz (ts:List T):T:=match ims ts with
 | some is=>.li is
 | none=>.lst ts
@[irreducible] noncomputable def av (mv:List Nat)(a:MA):ME:=⟨λρ=>match a.run ρ with
 | some (rs,ρ1)=>if rs.length<=1000 then(match consL mv rs ρ1 with
  | some (ts,ρ2)=>some (⟨.ow,kX ts⟩,ρ2)
  | none=>none)else none
 | none=>none,a.mu++mv⟩
@[irreducible] noncomputable def aV (mv:List Nat)(a:MA):ME:=⟨λρ=>match a.run ρ with
 | some (rs,ρ1)=>if rs.length<=1000 then(match consL mv rs ρ1 with
  | some (ts,ρ2)=>some (⟨.ow,bz ts⟩,ρ2)
  | none=>none)else none
 | none=>none,a.mu++mv⟩
theorem rU {n:Nat}(h:n<=1000):n<=sizeLine:=by rw[sizeLine_eq];omega
theorem rK {ta:TA}{a:MA}{mv:List Nat}(ha:dP K ta a):aU K (AG ta) (av mv a):=by
 intro Γ H ρ Z E Q r ρ' hK hr S q
 simp only[av]at hr q
 split at hr
 ·rename_i rs ρ1 e1
  split at hr
  ·rename_i hz
   split at hr
   ·rename_i ts ρ2 e2
    cases hr
    refine ha Γ H ρ Z E _ rs ρ1 hK e1 S λvs H1 hl S1=>⟨by rw[hl];exact rU hz,λp hp=>?_⟩
    obtain⟨hl2,S2⟩:=Sim.consL (A:=[]) (by simpa using S1) hl e2 (by simp)
    rw[Cf,af]at S2
    obtain⟨F,h1,h2,h3,h4⟩:=S2.use hl2
    have sm:=Same.laid (o:=.tup vs) hp
    refine q _ _ (h4 _ (.ref p) (kX ts) F (sm.offM _) (λa ha=>let ⟨o,e,_⟩:=h3 a ha;⟨o,sm a o e⟩) h2 (λa ha=>⟨.inl ha,let ⟨o,e,m⟩:=h3 a ha;⟨o,sm a o e,m⟩⟩) ?_)
    unfold kX
    split
    ·rename_i is hi
     rw[jZ hi]at h1
     obtain⟨h5,h6⟩:=Rps.ims.mp h1
     subst h6
     refine ff ?_
     rw[RpI]
     exact⟨p,vs,rfl,SqT.of ar,h5.same sm⟩
    ·rw[Rp]
     exact⟨p,vs,rfl,SqT.of ar,h1.same sm⟩
   ·cases hr
  ·cases hr
 ·cases hr
theorem rD {ta:TA}{a:MA}{mv:List Nat}(ha:dP K ta a):aU K (Az ta) (aV mv a):=by
 intro Γ H ρ Z E Q r ρ' hK hr S q
 simp only[aV]at hr q
 split at hr
 ·rename_i rs ρ1 e1
  split at hr
  ·rename_i hz
   split at hr
   ·rename_i ts ρ2 e2
    cases hr
    refine ha Γ H ρ Z E _ rs ρ1 hK e1 S λvs H1 hl S1=>⟨by rw[hl];exact rU hz,λp hp=>?_⟩
    obtain⟨hl2,S2⟩:=Sim.consL (A:=[]) (by simpa using S1) hl e2 (by simp)
    rw[Cf,af]at S2
    obtain⟨F,h1,h2,h3,h4⟩:=S2.use hl2
    have sm:=Same.laid (o:=.lst vs) hp
    have np:p∉F:=λz=>by obtain⟨o,e,_⟩:=h3 p z;rw[hp]at e;cases e
    refine q _ _ (h4 _ (.ref p) (bz ts) (p::F) (sm.offM _) (λa ha=>let ⟨o,e,_⟩:=h3 a ha;⟨o,sm a o e⟩) (BS.mpr ⟨np,h2⟩) (λa ha=>?_) ?_)
    ·rcases ycM ha with rfl|ha
     ·exact⟨.inr hp,_,ar,rfl⟩
     ·exact⟨.inl ha,let ⟨o,e,m⟩:=h3 a ha;⟨o,sm a o e,m⟩⟩
    ·unfold bz
     split
     ·rename_i is hi
      rw[jZ hi]at h1
      obtain⟨h5,h6⟩:=Rps.ims.mp h1
      subst h6
      rw[Rp]
      exact⟨p,vs,rfl,.inl ar,h5.same sm,rfl⟩
     ·rw[Rp]
      exact⟨p,vs,F,rfl,.inl ar,h1.same sm,rfl⟩
   ·cases hr
  ·cases hr
 ·cases hr
end
section
variable  {Γ:Gm}{H H':Hp}{ρ:Rho}{Z:St}{E:List En}{v x y:V}{t:T}{K:yF}{Q:VK}
noncomputable def ixK:Kd->Option Ac->Option Kd
 | .ow,_=>some .ow
 | .io _,_=>none
 | .vw (some r) (some p),some a=>some (.vw (some r) (some (p++[a])))
 | .vw ro _,_=>some (.vw ro none)
noncomputable def ixP (k:Kd) (a:Option Ac):T->Option R
 | .im i=>some ⟨.ow,.im i⟩
 | t=>match ixK k a with
  | some k'=>some ⟨k',t⟩
  | none=>none
noncomputable def ixI (i:I) (n:Int):Option R:=match i with
 | .tup is=>(atI is n).map λi=>⟨.ow,.im i⟩
 | .str z=>if z.length<=sizeLine then(atI (sL z) n).map λc=>⟨.ow,.im (.str ⟨#[c]⟩)⟩else none
 | _=>none
noncomputable def ixX (k:Kd) (t:T) (n:Int):Option R:=match t with
 | .im i=>ixI i n
 | .li is=>(atI is n).map λi=>⟨.ow,.im i⟩
 | .lst ts=>(match ixN ts.length n with
  | some j=>(ts[j]?).bind (ixP k (some (.ix j)))
  | none=>none)
 | .tup ts=>(match ixN ts.length n with
  | some j=>(ts[j]?).bind (ixP k none)
  | none=>none)
 | _=>none
@[irreducible] noncomputable def ixR (r:R)(t:T):Option R:=match isI t with
 | some n=>ixX r.k r.t n
 | none=>none
@[irreducible] noncomputable def mIx (a b:ME):ME:=⟨λρ=>match a.run ρ with
 | some (ra,ρ1)=>match b.run ρ1 with
  | some (rb,ρ2)=>if aC b.mu ra=true then(match ixR ra rb.t with
   | some r=>some (r,ρ2)
   | none=>none)else none
  | none=>none
 | none=>none,a.mu++b.mu⟩
theorem kD {is:List I}{xs:List V}{n:Int}{i:I}(r:RpIs K H is xs)(e:atI is n=some i):∃w,atI xs n=some w/\RpI K H i w:=by
 unfold atI at e⊢
 rw[r.length]
 cases h:ixN is.length n with
 | none=>rw[h]at e;cases e
 | some j=>rw[h]at e;exact r.get e
theorem Sim.takeO {s:T}(S:Sim Γ H ρ Z (⟨none,x,⟨.ow,t⟩⟩::E)){P:V->Prop}(hp:∀F,Rp Γ.K H t x F->∃w A G B,P w/\Rp Γ.K H s w G/\F=A++G++B):∃w,P w/\Sim Γ H ρ Z (⟨none,w,⟨.ow,s⟩⟩::E):=by
 obtain⟨F,h1,h2,h3,h4⟩:=Sim.use (vs:=[x]) (ts:=[t]) S rfl
 obtain⟨y,r',F1,F2,e,r1,r2,rfl⟩:=h1.cons_inv
 cases e
 have:=r2.nil_inv.2
 subst this
 rw[B4]at h2 h3 h4
 obtain⟨w,A,G,B,p,rg,rfl⟩:=hp F1 r1
 have inF:∀a∈G,a∈A++G++B:=λa ha=>yaL _ (yaR _ ha)
 exact⟨w,p,h4 H w s G (OffM.refl _ _) (λa ha=>let ⟨o,e,_⟩:=h3 a ha;⟨o,e⟩) (Bx.mp (Bx.mp h2).1).2.1 (λa ha=>⟨.inl (inF a ha),h3 a (inF a ha)⟩) rg⟩
theorem lB {α:Type}{xs:List α}{n:Int}{j m:Nat}{w : α}(h:ixN m n=some j)(hl:xs.length=m)(hw:xs[j]?=some w):atI xs n=some w:=by
 unfold atI;rw[hl,h];exact hw
theorem Sim.ixL {k:Kd}{ts:List T}{s:T}{j:Nat}{n:Int}{r:R}(S:Sim Γ H ρ Z (⟨none,x,⟨k,.lst ts⟩⟩::E))(hn:ixN ts.length n=some j)(hj:ts[j]?=some s)(hr:L2.ixP k (some (.ix j)) s=some r) :
  ∃w,(∀Q:VK,Q w H->rIx Γ.K x (.int n) H Q)/\Sim Γ H ρ Z (⟨none,w,r⟩::E):=by
 have gen:∀F,Rp Γ.K H (.lst ts) x F->∃w A G B,(∀Q:VK,Q w H->rIx Γ.K x (.int n) H Q)/\Rp Γ.K H s w G/\F=A++G++B:=λF rp=>by
  rw[Rp]at rp
  obtain⟨a,xs,F',rfl,h2,h3,rfl⟩:=rp
  obtain⟨w,A,G,B,h4,h5,h6,_,_⟩:=h3.at hj
  exact⟨w,a::A,G,B,λQ q=>.inl ⟨a,xs,n,w,rfl,rfl,aM h2,lB hn h3.length h4,q⟩,h5,by rw[h6];simp⟩
 have hview:∀ro p,k=.vw ro p->∃w,(∀Q:VK,Q w H->rIx Γ.K x (.int n) H Q)/\Sim Γ H ρ Z (⟨none,w,⟨.vw ro none,s⟩⟩::E):=λro p hk=>by
  obtain⟨w,h1,S2⟩:=S.part (e:=⟨none,x,⟨k,.lst ts⟩⟩) ymS hk (P:=λw=>∀Q:VK,Q w H->rIx Γ.K x (.int n) H Q) (s:=s) (λF rp=>by
   obtain⟨w,A,G,B,h1,h2,h3⟩:=gen F rp
   exact⟨w,G,h1,h2,λa ha=>by rw[h3];exact yaL _ (yaR _ ha)⟩)
  exact⟨w,h1,S2.swap.drop rfl⟩
 have main:∀k',ixK k (some (.ix j))=some k'->∃w,(∀Q:VK,Q w H->rIx Γ.K x (.int n) H Q)/\Sim Γ H ρ Z (⟨none,w,⟨k',s⟩⟩::E):=λk' hk'=>by
  cases k with
  | ow=>
   cases hk'
   exact S.takeO gen
  | io m=>cases hk'
  | vw ro p=>
   cases ro with
   | none=>
    cases hk'
    exact hview none p rfl
   | some i=>
    cases p with
    | none=>cases hk';exact hview (some i) none rfl
    | some p=>
     cases hk'
     obtain⟨w,h1,S2⟩:=S.partP (e:=⟨none,x,⟨.vw (some i) (some p),.lst ts⟩⟩) ymS rfl (a:=.ix j) (s:=s) hj
     refine⟨w,λQ q=>?_,S2.swap.drop rfl⟩
     obtain⟨F,rp⟩:=S.rd ymS
     obtain⟨a,xs,G,e1,h2,h3⟩:=fA ⟨F,rp⟩
     obtain⟨a',xs',e2,g1,g2⟩:=h1
     have e1':x=.ref a:=e1
     have e2':x=.ref a':=e2
     rw[e1']at e2'
     cases e2'
     have e3:xs'=xs:=by
      rcases h2 with h2|⟨o,h2⟩
      ·rw[h2]at g1;cases g1;rfl
      ·rw[h2]at g1;cases g1
     subst e3
     rw[e1']
     exact .inl ⟨a,xs',n,w,rfl,rfl,SqL.of g1,lB hn h3.length g2,q⟩
 cases s with
 | im i=>
  cases hr
  obtain⟨F,rp⟩:=S.rd ymS
  obtain⟨w,A,G,B,h1,h2,_⟩:=gen F rp
  exact⟨w,h1,(S.drop rfl).imm (aZ h2).1⟩
 | _=>
  simp only[L2.ixP]at hr
  split at hr
  ·rename_i k' e;cases hr;exact main k' e
  ·cases hr
theorem Sim.ixT {k:Kd}{ts:List T}{s:T}{j:Nat}{n:Int}{r:R}(S:Sim Γ H ρ Z (⟨none,x,⟨k,.tup ts⟩⟩::E))(hn:ixN ts.length n=some j)(hj:ts[j]?=some s)(hr:L2.ixP k none s=some r) :
  ∃w,(∀Q:VK,Q w H->rIx Γ.K x (.int n) H Q)/\Sim Γ H ρ Z (⟨none,w,r⟩::E):=by
 have gen:∀F,Rp Γ.K H (.tup ts) x F->∃w A G B,(∀Q:VK,Q w H->rIx Γ.K x (.int n) H Q)/\Rp Γ.K H s w G/\F=A++G++B:=λF rp=>by
  rw[Rp]at rp
  obtain⟨a,xs,rfl,h2,h3⟩:=rp
  obtain⟨w,A,G,B,h4,h5,h6,_,_⟩:=h3.at hj
  exact⟨w,A,G,B,λQ q=>.inr (.inl ⟨a,xs,n,w,rfl,rfl,h2,lB hn h3.length h4,q⟩),h5,h6⟩
 have main:∀k',ixK k none=some k'->∃w,(∀Q:VK,Q w H->rIx Γ.K x (.int n) H Q)/\Sim Γ H ρ Z (⟨none,w,⟨k',s⟩⟩::E):=λk' hk'=>by
  cases k with
  | ow=>
   cases hk'
   exact S.takeO gen
  | io m=>cases hk'
  | vw ro p=>
   have hv:k'=.vw ro none:=by cases ro<;>cases p<;>cases hk'<;>rfl
   subst hv
   obtain⟨w,h1,S2⟩:=S.part (e:=⟨none,x,⟨.vw ro p,.tup ts⟩⟩) ymS rfl (P:=λw=>∀Q:VK,Q w H->rIx Γ.K x (.int n) H Q) (s:=s) (λF rp=>by
    obtain⟨w,A,G,B,h1,h2,h3⟩:=gen F rp
    exact⟨w,G,h1,h2,λa ha=>by rw[h3];exact yaL _ (yaR _ ha)⟩)
   exact⟨w,h1,S2.swap.drop rfl⟩
 cases s with
 | im i=>
  cases hr
  obtain⟨F,rp⟩:=S.rd ymS
  obtain⟨w,A,G,B,h1,h2,_⟩:=gen F rp
  exact⟨w,h1,(S.drop rfl).imm (aZ h2).1⟩
 | _=>
  simp only[L2.ixP]at hr
  split at hr
  ·rename_i k' e;cases hr;exact main k' e
  ·cases hr
theorem Sim.ixR {ra r:R}{tb:T}(h:L2.ixR ra tb=some r)(S:Sim Γ H ρ Z (⟨none,x,ra⟩::E))(ry:Rpx Γ.K H tb y):∃w,(∀Q:VK,Q w H->rIx Γ.K x y H Q)/\Sim Γ H ρ Z (⟨none,w,r⟩::E):=by
 have r1:Rpx Γ.K H ra.t x:=S.rd (e:=⟨none,x,ra⟩) ymS
 unfold L2.ixR at h
 split at h
 ·rename_i n en
  cases cw en
  obtain⟨k0,t0⟩:=ra
  replace r1:Rpx Γ.K H t0 x:=r1
  rw[aI ry]
  unfold ixX at h
  dsimp only at h
  split at h
  ·unfold ixI at h
   split at h
   ·rename_i is
    cases h0:atI is n with
    | none=>rw[h0]at h;cases h
    | some i=>
     rw[h0]at h;cases h
     obtain⟨p,xs,ex,g1,g2⟩:=bO r1
     obtain⟨w,h3,h4⟩:=kD g2 h0
     exact⟨w,λQ q=>.inr (.inl ⟨p,xs,n,w,ex,rfl,g1,h3,q⟩),(S.drop rfl).imm h4⟩
   ·rename_i z
    split at h
    ·rename_i hz
     cases h0:atI (sL z) n with
     | none=>rw[h0]at h;cases h
     | some c=>
      rw[h0]at h;cases h
      exact⟨_,λQ q=>.inr (.inr ⟨z,n,c,cJ r1,rfl,hz,h0,q⟩),(S.drop rfl).imm (gP rfl)⟩
    ·cases h
   ·cases h
  ·rename_i is
   cases h0:atI is n with
   | none=>rw[h0]at h;cases h
   | some i=>
    rw[h0]at h;cases h
    obtain⟨p,xs,ex,g1,g2⟩:=bA r1
    obtain⟨w,h3,h4⟩:=kD g2 h0
    exact⟨w,λQ q=>.inl ⟨p,xs,n,w,ex,rfl,aM g1,h3,q⟩,(S.drop rfl).imm h4⟩
  ·rename_i ts
   split at h
   ·rename_i j hj
    cases h0:ts[j]? with
    | none=>rw[h0]at h;cases h
    | some s=>
     rw[h0]at h
     exact S.ixL hj h0 h
   ·cases h
  ·rename_i ts
   split at h
   ·rename_i j hj
    cases h0:ts[j]? with
    | none=>rw[h0]at h;cases h
    | some s=>
     rw[h0]at h
     exact S.ixT hj h0 h
   ·cases h
  ·cases h
 ·cases h
theorem ym {ta tb:TE}{a b:ME}(ha:aU K ta a)(hb:aU K tb b):aU K (tOp (rIx K) ta tb) (mIx a b):=by with_unfolding_all
 intro Γ H ρ Z E Q r ρ' hK hr S q
 simp only[mIx]at hr
 split at hr
 ·rename_i ra ρ1 e1
  split at hr
  ·rename_i rb ρ2 e2
   split at hr
   ·rename_i al
    split at hr
    ·rename_i r0 e3
     cases hr
     refine ha Γ H ρ Z E _ ra ρ1 hK e1 S λx H1 S1=>?_
     refine hb Γ H1 ρ1 Z _ _ rb _ hK e2 S1 λy H2 S2=>?_
     rw[ay (bg al),af]at S2
     have r2:=S2.rd ymS
     obtain⟨w,h1,S4⟩:=Sim.ixR e3 (S2.drop rfl) r2
     rw[←hK]
     exact h1 Q (q w _ S4)
    ·cases hr
   ·cases hr
  ·cases hr
 ·cases hr
structure MO where
 run:Rho->Option (Option Int×Rho)
 mu:List Nat
def o6 (K:yF)(to:TO)(m:MO):Prop:=∀(Γ:Gm) (H:Hp) (ρ:Rho) (Z:St) (E:List En) (Q:Option Int->Hp->Prop) (o:Option Int) (ρ':Rho),Γ.K=K->m.run ρ=some (o,ρ')->Sim Γ H ρ Z E->(∀H',Sim Γ H' ρ' Z (ae m.mu E)->Q o H')->to Z H Q
@[irreducible] noncomputable def mNoPart:MO:=⟨λρ=>some (none,ρ),[]⟩
@[irreducible] noncomputable def dL (a:ME):MO:=⟨λρ=>match a.run ρ with
 | some (⟨_,.im (.int n)⟩,ρ1)=>some (some n,ρ1)
 | _=>none,a.mu⟩
theorem lV:o6 K nt mNoPart:=by with_unfolding_all
 intro Γ H ρ Z E Q o ρ' hK hr S q
 cases hr
 exact q H (by rw[show mNoPart.mu=[]from rfl,bn];exact S)
theorem rG {ta:TE}{a:ME}(ha:aU K ta a):o6 K (nu ta) (dL a):=by with_unfolding_all
 intro Γ H ρ Z E Q o ρ' hK hr S q
 simp only[dL]at hr
 split at hr
 ·rename_i k n ρ1 e1
  cases hr
  exact ha Γ H ρ Z E _ _ _ hK e1 S λx H1 S1=>⟨n,aI (S1.rd ymS),q H1 (S1.drop rfl)⟩
 ·cases hr
theorem RpIs.cut {is:List I}{xs:List V}(r:RpIs K H is xs)(lo hi:Option Int):RpIs K H (cb is lo hi) (hV xs lo hi):=by
 unfold cb hV
 rw[r.length]
 exact(r.drop _).take _
theorem Rps.cut {ts:List T}{xs:List V}{F:List Addr}(r:Rps K H ts xs F)(lo hi:Option Int):∃A G B,Rps K H (cb ts lo hi) (hV xs lo hi) G/\F=A++G++B:=by
 unfold cb hV
 rw[r.length]
 obtain⟨A,G1,h1,h2,rfl⟩:=r.take (HT.sIx ts.length 0 lo)
 obtain⟨G,B,h3,h4,rfl⟩:=h2.take (HT.sIx ts.length ts.length hi-HT.sIx ts.length 0 lo)
 exact⟨A,G,B,h3,by simp⟩
noncomputable def slI (i:I) (lo hi:Option Int):Option R:=match i with
 | .tup is=>if HT.sIx is.length 0 lo=0/\HT.sIx is.length is.length hi=is.length then none else some ⟨.ow,.im (.tup (cb is lo hi))⟩
 | .str z=>if z.length<=sizeLine then some ⟨.ow,.im (.str (oL (cb (sL z) lo hi)))⟩else none
 | _=>none
noncomputable def slX (k:Kd) (t:T) (lo hi:Option Int):Option R:=match t with
 | .li is=>some ⟨.ow,.li (cb is lo hi)⟩
 | .im i=>slI i lo hi
 | .lst ts=>(match k with
  | .vw ro _=>some ⟨.vw ro none,.lst (cb ts lo hi)⟩
  | _=>none)
 | _=>none
@[irreducible] noncomputable def slR (r:R)(lo hi:Option Int):Option R:=slX r.k r.t lo hi
@[irreducible] noncomputable def mSl (a:ME)(lo hi:MO):ME:=⟨λρ=>match a.run ρ with
 | some (ra,ρ1)=>match lo.run ρ1 with
  | some (l,ρ2)=>match hi.run ρ2 with
   | some (h,ρ3)=>if aC (lo.mu++hi.mu) ra=true then(match slR ra l h with
    | some r=>some (r,ρ3)
    | none=>none)else none
   | none=>none
  | none=>none
 | none=>none,a.mu++(lo.mu++hi.mu)⟩
theorem yo {ta:TE}{tl th:TO}{a:ME}{lo hi:MO}(ha:aU K ta a)(hl:o6 K tl lo)(hh:o6 K th hi):aU K (tSl (rSl K) ta tl th) (mSl a lo hi):=by with_unfolding_all
 intro Γ H ρ Z E Q r ρ' hK hr S q
 simp only[mSl]at hr
 split at hr
 ·rename_i ra ρ1 e1
  split at hr
  ·rename_i l ρ2 e2
   split at hr
   ·rename_i h ρ3 e3
    split at hr
    ·rename_i al
     split at hr
     ·rename_i r0 e4
      cases hr
      refine ha Γ H ρ Z E _ ra ρ1 hK e1 S λx H1 S1=>?_
      refine hl Γ H1 ρ1 Z _ _ l _ hK e2 S1 λH2 S2=>?_
      refine hh Γ H2 ρ2 Z _ _ h _ hK e3 S2 λH3 S3=>?_
      rw[af,ay (bg al),af]at S3
      have r1:=S3.rd ymS
      unfold slR slX at e4
      obtain⟨k0,t0⟩:=ra
      replace r1:Rpx Γ.K H3 t0 x:=r1
      dsimp only at e4
      split at e4
      ·cases e4
       obtain⟨p,xs,ex,g1,g2⟩:=bA r1
       exact .inr (.inl ⟨p,xs,ex,aM g1,λp hp=>q _ _ ((S3.drop rfl).fresh (.li hp (g2.cut l h)))⟩)
      ·unfold slI at e4
       split at e4
       ·rename_i is
        split at e4
        ·cases e4
        ·rename_i hw
         cases e4
         obtain⟨p,xs,ex,g1,g2⟩:=bO r1
         rw[hK]at g1
         exact .inl ⟨p,xs,ex,g1,by rw[g2.length];exact hw,λp hp=>q _ _ ((S3.drop rfl).fresh (.tup hp (g2.cut l h)))⟩
       ·split at e4
        ·rename_i hz
         cases e4
         exact .inr (.inr ⟨_,cJ r1,hz,q _ _ ((S3.drop rfl).imm (gP rfl))⟩)
        ·cases e4
       ·cases e4
      ·rename_i ts
       split at e4
       ·rename_i ro p0
        cases e4
        obtain⟨p,xs,F,ex0,g1,g2⟩:=fA r1
        have ex:x=.ref p:=ex0
        refine .inr (.inl ⟨p,xs,ex,aM g1,λp' hp=>?_⟩)
        obtain⟨w,hw,S4⟩:=S3.partN (H':=upd H3 p' (.lst (hV xs l h))) (Same.laid hp) (s:=.lst (cb ts l h)) ymS rfl (P:=λw=>w=.ref p') (λF rp=>by
         have rp':Rp Γ.K H3 (.lst ts) x F:=rp
         rw[Rp]at rp'
         obtain⟨a',xs',F',ex',g1',g2',rfl⟩:=rp'
         rw[ex]at ex'
         cases ex'
         have e3:xs'=xs:=by
          rcases g1 with g1|⟨o,g1⟩<;>rcases g1' with g1'|⟨o',g1'⟩<;>rw[g1]at g1'<;>cases g1'<;>rfl
         subst e3
         obtain⟨A,G,B,g3,rfl⟩:=g2'.cut l h
         refine⟨.ref p',p'::G,rfl,?_,λb hb=>?_⟩
         ·rw[Rp]
          exact⟨p',_,G,rfl,.inl ar,g3.same (Same.laid hp),rfl⟩
         ·rcases ycM hb with rfl|hb
          ·exact .inr hp
          ·exact .inl (ymC _ (yaL _ (yaR _ hb))))
        subst hw
        exact q _ _ (S4.swap.drop rfl)
       ·cases e4
      ·cases e4
     ·cases hr
    ·cases hr
   ·cases hr
  ·cases hr
 ·cases hr
def fF (K:yF)(red:V->List V->Hp->VK->Prop)(f:T->List T->Option (T×I)):Prop:=∀(H:Hp) (w:V) (vs:List V) (s:T) (ts:List T) (s':T) (i:I) (G F:List Addr) (Q:VK),Rp K H s w G->Rps K H ts vs F->(G++F).Nodup->(∀a∈G++F,Mu H a)->f s ts=some (s',i) →
 (∀v H' G',OffM G H H'->(∀a∈G,∃o,H' a=some o)->G'.Nodup->(∀a∈G',(a∈G++F∨H a=none)/\Mu H' a)->Rp K H' s' w G'->RpI K H' i v->Q v H')->red w vs H Q
@[irreducible] noncomputable def mutR (i:Nat)(mv:List Nat)(f:T->List T->Option (T×I))(r0:R)(rs:List R)(ρ1:Rho):Option (R×Rho):=match r0 with
 | ⟨.vw (some j) (some p),s⟩=>if(decide (j=i) && !mv.contains i)=true then(match consL mv rs ρ1 with
  | some (ts,ρ2)=>(match f s ts with
   | some (s',res)=>(match ρ2[i]? with
    | some (some ⟨k,t⟩)=>if k.isOw=true then some (⟨.ow,.im res⟩,(ao [i] ρ2).set i (some ⟨k,t.put p s'⟩))else none
    | _=>none)
   | none=>none)
  | none=>none)else none
 | _=>none
theorem Sim.mutR {i:Nat}{mv:List Nat}{red:V->List V->Hp->VK->Prop}{f:T->List T->Option (T×I)}{r0:R}{rs:List R}{r:R}{ρ1 ρ':Rho}{vs:List V}(hK : Γ.K=K)(hp:fF K red f)(h:L2.mutR i mv f r0 rs ρ1=some (r,ρ'))(hl:vs.length=rs.length)(S:Sim Γ H ρ1 Z (ens vs rs++⟨none,x,r0⟩::E))(q:∀v H',Sim Γ H' ρ' Z (⟨none,v,r⟩::ae (mv++[i]) E)->Q v H'):red x vs H Q:=by
 unfold L2.mutR at h
 split at h
 ·rename_i j p s
  split at h
  ·rename_i hc
   rw[By,decide_eq_true_eq,B7]at hc
   obtain⟨rfl,hmv⟩:=hc
   split at h
   ·rename_i ts ρ2 e1
    split at h
    ·rename_i s' res e2
     split at h
     ·rename_i k t e3
      split at h
      ·rename_i ho
       cases h
       obtain⟨hl2,S2⟩:=Sim.consL (A:=[]) (by simpa using S) hl e1 (by simp)
       rw[Cf,ay (show az mv ⟨none,x,⟨.vw (some j) (some p),s⟩⟩=true by unfold az;simp only[Kd.root];rw[hmv];rfl)]at S2
       obtain⟨G,F,h1,h2,h3,h4,h5⟩:=S2.mut hl2 e3 ho
       rw[hK]at h1 h2
       refine hp H x vs s ts s' res G F Q h1 h2 h3 h4 e2 λv H' G' a b c d e g=>q v H' ?_
       rw[←af]
       rw[←hK]at e g
       exact(h5 H' s' G' a b c d e).imm g
      ·cases h
     ·cases h
    ·cases h
   ·cases h
  ·cases h
 ·cases h
@[irreducible] noncomputable def cM (i:Nat)(mv:List Nat)(f:T->List T->Option (T×I))(o:ME)(a:MA):ME:=⟨λρ=>match o.run ρ with
 | some (r0,ρ0)=>match a.run ρ0 with
  | some (rs,ρ1)=>if aC a.mu r0=true then L2.mutR i mv f r0 rs ρ1 else none
  | none=>none
 | none=>none,(o.mu++a.mu)++(mv++[i])⟩
theorem uu {T0:String}{red:V->List V->Hp->VK->Prop}{f:T->List T->Option (T×I)}{i:Nat}{mv:List Nat}{to:TE}{ta:TA}{o:ME}{a:MA}(hp:fF K red f)(hty:∀(H:Hp) (x:V) (tx:T) ts r,Rpx K H tx x->f tx ts=some r->tyV K T0 x H)(ho:aU K to o)(ha:dP K ta a):aU K (tBM K T0 red to ta) (cM i mv f o a):=by
 intro Γ H ρ Z E Q r ρ' hK hr S q
 simp only[cM]at hr q
 split at hr
 ·rename_i r0 ρ0 e0
  split at hr
  ·rename_i rs ρ1 e1
   split at hr
   ·rename_i al
    refine ho Γ H ρ Z E _ r0 _ hK e0 S λx H1 S1=>?_
    have r0':=S1.rd ymS
    rw[hK]at r0'
    refine⟨?_,?_⟩
    ·unfold L2.mutR at hr
     split at hr
     ·split at hr
      ·split at hr
       ·split at hr
        ·rename_i e2;exact hty H1 x _ _ _ r0' e2
        ·cases hr
       ·cases hr
      ·cases hr
     ·cases hr
    ·refine ha Γ H1 ρ0 Z _ _ rs _ hK e1 S1 λvs H2 hl S2=>?_
     rw[ay (bg al),af]at S2
     exact Sim.mutR hK hp hr hl S2 λv H' S3=>q v H' (by rw[←af];exact S3)
   ·cases hr
  ·cases hr
 ·cases hr
theorem kY {is:List I}{w:V}{G:List Addr}(h:Rp K H (.li is) w G)(mu:∀a∈G,Mu H a):∃a xs,w=.ref a/\H a=some (.lst xs)/\RpIs K H is xs/\G=[a]:=by
 rw[Rp]at h
 obtain⟨a,xs,h1,h2,h3,rfl⟩:=h
 exact⟨a,xs,h1,(mu a ymS).lst h2,h3,rfl⟩
theorem wE {ts:List T}{w:V}{G:List Addr}(h:Rp K H (.lst ts) w G)(mu:∀a∈G,Mu H a):∃a xs F,w=.ref a/\H a=some (.lst xs)/\Rps K H ts xs F/\G=a::F:=by
 rw[Rp]at h
 obtain⟨a,xs,F,h1,h2,h3,rfl⟩:=h
 exact⟨a,xs,F,h1,(mu a ymS).lst h2,h3,rfl⟩
theorem kz {is':List I}{xs xs':List V}{a:Addr}{F:List Addr}{i:I}{v:V}(hH:H a=some (.lst xs))(hr:RpIs K H is' xs')(hi:RpI K H i v)
  (q:∀v H' G',OffM [a] H H'->(∀b∈[a],∃o,H' b=some o)->G'.Nodup->(∀b∈G',(b∈[a]++F∨H b=none)/\Mu H' b)->Rp K H' (.li is') (.ref a) G'->RpI K H' i v->Q v H'):Q v (upd H a (.lst xs')):=by
 have hM:∀b∈[a],Mu H b:=λb hb=>by rw[ysM hb];exact⟨_,hH,rfl⟩
 refine q v _ [a] OffM.upd (λb hb=>by rw[ysM hb];exact⟨_,ar⟩) (by simp) (λb hb=>?_) ?_ (hi.off OffM.upd hM)
 ·rw[ysM hb];exact⟨.inl (by simp),_,ar,rfl⟩
 ·rw[Rp];exact⟨a,xs',rfl,.inl ar,hr.off OffM.upd hM,rfl⟩
theorem ny {ts':List T}{xs xs':List V}{a:Addr}{G F F':List Addr}{i:I}{v:V}(hH:H a=some (.lst xs))(nd:(a::F').Nodup)(mu:∀b∈F',Mu H b)(hF:∀b∈F',b∈(a::G)++F)(hr:Rps K H ts' xs' F')(hi:RpI K H i v)
  (q:∀v H' G',OffM (a::G) H H'->(∀b∈a::G,∃o,H' b=some o)->G'.Nodup->(∀b∈G',(b∈(a::G)++F∨H b=none)/\Mu H' b)->Rp K H' (.lst ts') (.ref a) G'->RpI K H' i v->Q v H') (dG:∀b∈G,∃o,H b=some o):Q v (upd H a (.lst xs')):=by
 have hM:∀b∈[a],Mu H b:=λb hb=>by rw[ysM hb];exact⟨_,hH,rfl⟩
 have na:∀b∈F',b≠a:=λb hb z=>(BS.mp nd).1 (z▸hb)
 refine q v _ (a::F') (OffM.upd.mono λb hb=>by rw[ysM hb];exact ymS) (λb hb=>?_) nd (λb hb=>?_) ?_ (hi.off OffM.upd hM)
 ·by_cases e:b=a
  ·subst e;exact⟨_,ar⟩
  ·rcases ycM hb with z|z
   ·exact absurd z e
   ·obtain⟨o,h⟩:=dG b z;exact⟨o,by rw[upd_ne e];exact h⟩
 ·rcases ycM hb with rfl|hb
  ·exact⟨.inl (by simp),_,ar,rfl⟩
  ·refine⟨.inl (hF b hb),?_⟩
   obtain⟨o,h,m⟩:=mu b hb
   exact⟨o,by rw[upd_ne (na b hb)];exact h,m⟩
 ·rw[Rp]
  refine⟨a,xs',F',rfl,.inl ar,hr.off OffM.upd hM (λb hb z=>na b hb (ysM z)),rfl⟩
noncomputable def ap1 (s t:T):Option (T×I):=match s with
 | .li is=>(match t with
  | .im i=>if is.length<sizeLine then some (.li (is++[i]),.non)else none
  | _=>if is.length<sizeLine then some (.lst (is.map .im++[t]),.non)else none)
 | .lst ts=>if ts.length<sizeLine then some (.lst (ts++[t]),.non)else none
 | _=>none
@[irreducible] noncomputable def apT (s:T)(ts:List T):Option (T×I):=l1 (ap1 s) ts
theorem rN {t:T}{vs:List V}{F:List Addr}(h:Rps K H [t] vs F):∃v,vs=[v]/\Rp K H t v F:=by
 obtain⟨v,r,F1,F2,rfl,h1,h2,rfl⟩:=h.cons_inv
 obtain⟨rfl,rfl⟩:=h2.nil_inv
 exact⟨v,rfl,by rw[B4];exact h1⟩
theorem Bl {t u:T}{vs:List V}{F:List Addr}(h:Rps K H [t,u] vs F):∃v w F1 F2,vs=[v,w]/\Rp K H t v F1/\Rp K H u w F2/\F=F1++F2:=by
 obtain⟨v,r,F1,F2,rfl,h1,h2,rfl⟩:=h.cons_inv
 obtain⟨w,rfl,h3⟩:=rN h2
 exact⟨v,w,F1,F2,rfl,h1,h3,rfl⟩
theorem bM:RpI K H .non .non:=by rw[RpI]
theorem k8:fF K j8 apT:=by
 intro H w vs s ts s' i G F Q rw0 rs nd mu e q
 unfold apT at e
 have e0:=ci e
 clear e
 obtain⟨tt,rfl,e⟩:=e0
 obtain⟨y,rfl,h3⟩:=rN rs
 unfold ap1 at e
 split at e
 ·rename_i is
  obtain⟨a,xs,rfl,h1,h2,rfl⟩:=kY rw0 λa ha=>mu a (yaL _ ha)
  split at e
  ·obtain⟨hz,e⟩:=aK e
   cases e
   exact⟨a,xs,y,rfl,rfl,h1,by rw[h2.length];exact hz,kz h1 (h2.append (.one (aZ h3).1)) bM q⟩
  ·obtain⟨hz,e⟩:=aK e
   cases e
   refine⟨a,xs,y,rfl,rfl,h1,by rw[h2.length];exact hz,ny (G:=[]) (F:=F) (F':=F) h1 nd (λb hb=>mu b (yaR _ hb)) (λb hb=>yaR _ hb) ?_ bM q (by simp)⟩
   have:=Rps.append (Rps.ims.mpr ⟨h2,rfl⟩) (Rps.cons h3 Rps.nil)
   simpa using this
 ·obtain⟨hz,e⟩:=aK e
  cases e
  obtain⟨a,xs,F0,rfl,h1,h2,rfl⟩:=wE rw0 λa ha=>mu a (yaL _ ha)
  have mm:∀b∈F0++F,b∈(a::F0)++F:=λb hb=>(yaM hb).elim (λz=>yaL _ (ymC _ z)) λz=>yaR _ z
  refine⟨a,xs,y,rfl,rfl,h1,by rw[h2.length];exact hz,ny (G:=F0) (F:=F) (F':=F0++F) h1 (by simpa using nd) (λb hb=>mu b (mm b hb)) mm ?_ bM q (λb hb=>h2.dom b hb)⟩
  have:=Rps.append h2 (Rps.cons h3 Rps.nil)
  simpa using this
 ·cases e
theorem vQ {is:List I}{x:V}(h:Rpx K H (.li is) x):tyV K "list" x H:=by
 obtain⟨a,xs,rfl,h1,h2⟩:=bA h
 exact .inl ⟨rfl,xs,aM h1⟩
theorem yA {is:List T}{x:V}(h:Rpx K H (.lst is) x):tyV K "list" x H:=by
 obtain⟨a,xs,F,rfl,h1,h2⟩:=fA h
 exact .inl ⟨rfl,xs,aM h1⟩
theorem oW (H:Hp)(x:V)(tx:T)(ts:List T)(r:T×I)(h:Rpx K H tx x)(e:apT tx ts=some r):tyV K "list" x H:=by
 unfold apT at e
 obtain⟨t,_,e⟩:=ci e
 unfold ap1 at e
 split at e
 ·exact vQ h
 ·exact yA h
 ·cases e
noncomputable def ext1 (s t:T):Option (T×I):=match pJ s with
 | some is=>(match pJ t with
  | some js=>if is.length+js.length<=sizeLine then some (.li (is++js),.non)else none
  | none=>(match wr t with
   | some js=>if is.length+js.length<=sizeLine then some (.li (is++js),.non)else none
   | none=>none))
 | none=>none
@[irreducible] noncomputable def popT:T->List T->Option (T×I)
 | .li is,[]=>match is[is.length-1]? with
  | some i=>some (.li is.dropLast,i)
  | none=>none
 | _,_=>none
noncomputable def wp (s n t:T):Option (T×I):=match pJ s with
 | some is=>(match isI n with
  | some n=>(match t with
   | .im i=>if 0<=n/\n<=is.length/\is.length<sizeLine then some (.li (is.take n.toNat++i::is.drop n.toNat),.non)else none
   | _=>none)
  | none=>none)
 | none=>none
@[irreducible] noncomputable def j0 (s:T)(ts:List T):Option (T×I):=l2 (wp s) ts
theorem k9:fF K j9 j0:=by
 intro H w vs s ts s' i G F Q rw0 rs nd mu e q
 unfold j0 at e
 have e0:=iu e
 clear e
 obtain⟨tn,tt,rfl,e⟩:=e0
 obtain⟨y,z,F1,F2,rfl,g1,g2,rfl⟩:=Bl rs
 unfold wp at e
 split at e
 ·rename_i is es
  cases ii es
  obtain⟨a,xs,rfl,h1,h2,rfl⟩:=kY rw0 λa ha=>mu a (yaL _ ha)
  split at e
  ·rename_i n en
   cases cw en
   split at e
   ·obtain⟨hz,e⟩:=aK e
    cases e
    have e1:=aI ⟨F1,g1⟩
    subst e1
    exact⟨a,xs,n,z,rfl,rfl,h1,hz.1,by rw[h2.length];exact hz.2.1,by rw[h2.length];exact hz.2.2,kz h1 ((h2.take _).append (.cons (aZ g2).1 (h2.drop _))) bM q⟩
   ·cases e
  ·cases e
 ·cases e
theorem oX (H:Hp)(x:V)(tx:T)(ts:List T)(r:T×I)(h:Rpx K H tx x)(e:j0 tx ts=some r):tyV K "list" x H:=by
 unfold j0 at e
 obtain⟨t,u,_,e⟩:=iu e
 unfold wp at e
 split at e
 ·rename_i is es
  cases ii es
  exact vQ h
 ·cases e
@[irreducible] noncomputable def rQ (s:T)(n:T)(v:T):Option T:=match s,n,v with
 | .li is,.im (.int n),.im i=>match ixN is.length n with
  | some j=>some (.li (is.set j i))
  | none=>none
 | _,_,_=>none
@[irreducible] noncomputable def lL (j:Nat)(o i:ME):MG:=⟨λr ρ=>match r with
 | ⟨.ow,tv⟩=>match o.run ρ with
  | some (⟨.vw (some j') (some p),s⟩,ρ1)=>match i.run ρ1 with
   | some (ri,ρ2)=>if(decide (j'=j) && !i.mu.contains j)=true then(match rQ s ri.t tv with
    | some s'=>(match ρ2[j]? with
     | some (some ⟨k,t⟩)=>if k.isOw=true then some ((ao [j] ρ2).set j (some ⟨k,t.put p s'⟩))else none
     | _=>none)
    | none=>none)else none
   | none=>none
  | _=>none
 | _=>none,(o.mu++i.mu)++[j]⟩
theorem RpIs.set' {is:List I}{xs:List V}{i:I}{w:V}(hx:RpI K H i w)(n:Nat)(h:RpIs K H is xs):RpIs K H (is.set n i) (xs.set n w):=RpIs.set hx n h
theorem uA {to ti:TE}{o i:ME}{j:Nat}(ho:aU K to o)(hi:aU K ti i):g9 K (wl to ti vE) (lL j o i):=by
 intro Γ H ρ Z E Q v r ρ' hK hr S q
 simp only[lL]at hr q
 split at hr
 ·rename_i tv
  split at hr
  ·rename_i j' p s ρ1 e1
   split at hr
   ·rename_i ri ρ2 e2
    split at hr
    ·rename_i hc
     rw[By,decide_eq_true_eq,B7]at hc
     obtain⟨rfl,hmv⟩:=hc
     split at hr
     ·rename_i s' e3
      split at hr
      ·rename_i k t e4
       split at hr
       ·rename_i hw
        cases hr
        refine ho Γ H ρ Z _ _ _ _ hK e1 S λx H1 S1=>?_
        refine hi Γ H1 ρ1 Z _ _ _ _ hK e2 S1 λy H2 S2=>?_
        have k1:az i.mu ⟨none,x,⟨.vw (some j') (some p),s⟩⟩=true:=by unfold az;simp only[Kd.root];rw[hmv];rfl
        have k2:∀M:List Nat,az M ⟨none,v,⟨.ow,tv⟩⟩=true:=λM=>rfl
        rw[ay k1,af,ay (k2 _)]at S2
        have ry:=S2.rd ymS
        have S3:=S2.drop rfl
        obtain⟨G,F,h1,h2,h3,h4,h5⟩:=Sim.mut (vs:=[v]) (ts:=[tv]) (S3.perm (List.Perm.swap _ _ _)) rfl e4 hw
        generalize hri:ri.t=tri at e3
        unfold rQ at e3
        split at e3
        ·rename_i is n i0
         split at e3
         ·rename_i m hm
          cases e3
          obtain⟨a,xs,rfl,g1,g2,rfl⟩:=kY h1 λa ha=>h4 a (yaL _ ha)
          obtain⟨z,ez,g3⟩:=rN h2
          cases ez
          obtain⟨g4,rfl⟩:=aZ g3
          have ry':∃F,Rp Γ.K H2 ri.t y F:=ry
          have ey:y=.int n:=by rw[hri]at ry';exact aI ry'
          subst ey
          refine⟨a,xs,n,m,rfl,rfl,g1,by rw[g2.length];exact hm,?_⟩
          refine kz (Q:=λ_ H'=>Q Z H') (F:=[]) (v:=.non) (i:=.non) g1 (g2.set' g4 m) bM λv' H' G' a1 a2 a3 a4 a5 _=>q Z H' ?_
          have:=h5 H' _ G' a1 a2 a3 a4 a5
          rw[af]at this
          exact this
         ·cases e3
        ·cases e3
       ·cases hr
      ·cases hr
     ·cases hr
    ·cases hr
   ·cases hr
  ·cases hr
 ·cases hr
end
section
variable  {Γ:Gm}{H H':Hp}{ρ:Rho}{Z:St}{E:List En}{v x y:V}{t:T}{K:yF}{Q:VK}
theorem gc {M N:List Nat}(h:∀j∈N,j∈M){e:En}(k:az M e=true):az N e=true:=by
 unfold az at k⊢
 split at k
 ·rename_i j hj
  simp only[B7,Cj,decide_eq_false_iff_not]at k⊢
  exact λz=>k (h j z)
 ·rfl
theorem dl {M N:List Nat}(h:∀j∈N,j∈M)(E:List En):ae N (ae M E)=ae M E:=by
 unfold ae
 rw[Cy]
 intro e he
 exact gc h (BC.mp he).2
noncomputable def itW (c:MT) (b:MS):Nat->Rho->Option (Fl×Rho)
 | 0,_=>none
 | n+1,ρ=>match c.run ρ with
  | some (true,ρ1)=>(match b.run ρ1 with
   | some (.nx,ρ2)=>itW c b n ρ2
   | some (.ct,ρ2)=>itW c b n ρ2
   | some (.bk,ρ2)=>some (.nx,ρ2)
   | some (.rt t,ρ2)=>some (.rt t,ρ2)
   | none=>none)
  | some (false,ρ1)=>some (.nx,ρ1)
  | none=>none
theorem dk {c:MT}{b:MS}:∀{n:Nat} {ρ:Rho} {r:Fl×Rho},itW c b n ρ=some r->∀m,n<=m->itW c b m ρ=some r
 | 0,_,_,h,_,_=>by cases h
 | n+1,ρ,r,h,m,hm=>by
  obtain⟨m',rfl⟩:∃m',m=m'+1:=⟨m-1,by omega⟩
  rw[itW]at h⊢
  split at h
  ·rename_i ρ1 e1
   split at h
   ·rename_i ρ2 e2;exact dk h m' (by omega)
   ·rename_i ρ2 e2;exact dk h m' (by omega)
   ·exact h
   ·exact h
   ·exact h
  ·exact h
  ·exact h
noncomputable def rZ (c:MT) (b:MS) (ρ:Rho):Option (Fl×Rho):=@dite _ (∃n,(itW c b n ρ).isSome=true) (Classical.propDecidable _) (λh=>itW c b (Classical.choose h) ρ) (λ_=>none)
@[irreducible] noncomputable def dY (c:MT)(b:MS):MS:=⟨rZ c b,c.mu++b.mu⟩
theorem oZ {c:MT}{b:MS}{r:Fl×Rho}{n:Nat}(h:itW c b n ρ=some r):(dY c b).run ρ=some r:=by with_unfolding_all
 have hx:∃n,(itW c b n ρ).isSome=true:=⟨n,by rw[h];rfl⟩
 show rZ c b ρ=_
 unfold rZ
 rw[dif_pos hx]
 have h2:=Classical.choose_spec hx
 cases e:itW c b (Classical.choose hx) ρ with
 | none=>rw[e]at h2;cases h2
 | some r'=>
  have a:=dk h (max n (Classical.choose hx)) (DO _ _)
  have b':=dk e (max n (Classical.choose hx)) (DA _ _)
  rw[a]at b'
  exact b'.symm
theorem so {c:MT}{b:MS}{r:Fl×Rho}(h:(dY c b).run ρ=some r):∃n,itW c b n ρ=some r:=by with_unfolding_all
 have h':rZ c b ρ=some r:=h
 unfold rZ at h'
 split at h'
 ·exact⟨_,h'⟩
 ·cases h'
theorem oP {tc:TT}{tb:TS}{c:MT}{b:MS}(hc:dO K tc c)(hb:db K tb b):db K (rW tc tb) (dY c b):=by with_unfolding_all
 intro Γ H ρ Z E D f ρ' hK hE hr S q
 obtain⟨n,hn⟩:=so hr
 have qe:(dY c b).mu=c.mu++b.mu:=rfl
 rw[qe]at q
 have kc:ae c.mu (ae (c.mu++b.mu) E)=ae (c.mu++b.mu) E:=dl (λj hj=>yaL _ hj) E
 have kb:ae b.mu (ae (c.mu++b.mu) E)=ae (c.mu++b.mu) E:=dl (λj hj=>yaR _ hj) E
 have hE0:=bm (M:=c.mu++b.mu) hE
 have S0:=S.weak (c.mu++b.mu)
 generalize ae (c.mu++b.mu) E=E0 at q kc kb hE0 S0
 refine⟨λm Z H=>∃ρ,itW c b m ρ=some (f,ρ')/\Sim Γ H ρ Z E0,⟨n,ρ,hn,S0⟩,?_⟩
 ·rintro m Z1 H1 ⟨ρ1,h1,S1⟩
  cases m with
  | zero=>cases h1
  | succ m=>
   rw[itW]at h1
   split at h1
   ·rename_i ρ2 e1
    refine hc Γ H1 ρ1 Z1 E0 _ true ρ2 hK e1 S1 λH2 S2=>nV ?_
    rw[kc]at S2
    refine⟨λZ' H'=>∃ρ,itW c b m ρ=some (f,ρ')/\Sim Γ H' ρ Z' E0,λZ' H' ⟨ρ3,h3,S3⟩=>⟨m,Dz m,ρ3,h3,S3⟩,?_⟩
    split at h1
    ·rename_i ρ3 e2
     exact hb Γ H2 ρ2 Z1 E0 _ .nx ρ3 hK hE0 e2 S2 λZ' H' S3=>⟨ρ3,h1,by rw[kb]at S3;exact S3⟩
    ·rename_i ρ3 e2
     exact hb Γ H2 ρ2 Z1 E0 _ .ct ρ3 hK hE0 e2 S2 λZ' H' S3=>⟨ρ3,h1,by rw[kb]at S3;exact S3⟩
    ·rename_i ρ3 e2
     cases h1
     exact hb Γ H2 ρ2 Z1 E0 _ .bk _ hK hE0 e2 S2 λZ' H' S3=>q Z' H' (by rw[kb]at S3;exact S3)
    ·rename_i t ρ3 e2
     cases h1
     exact hb Γ H2 ρ2 Z1 E0 _ (.rt t) _ hK hE0 e2 S2 q
    ·cases h1
   ·rename_i ρ2 e1
    cases h1
    exact hc Γ H1 ρ1 Z1 E0 _ false _ hK e1 S1 λH2 S2=>nU (q Z1 H2 (by rw[kc]at S2;exact S2))
   ·cases h1
structure MI where
 run:Rho->Option ((List R×List R)×Rho)
 mu:List Nat
def fj (Γ:Gm)(J:It)(vs:List V)(srcs:List R)(items:List R):Prop:=∀(H:Hp) (ρ:Rho) (Z:St) (E:List En),Sim Γ H ρ Z (ens vs srcs++E)->(∀i,items.length<=i->J.stop i H)/\∀i r,items[i]?=some r->J.go i H/\∀x H',J.yld i H x H'->Sim Γ H' ρ Z (⟨none,x,r⟩::(ens vs srcs++E))
def jH (K:yF)(wi:TI)(m:MI):Prop:=∀(Γ:Gm) (H:Hp) (ρ:Rho) (Z:St) (E:List En) (Rr:It->Hp->Prop) (srcs:List R) (items:List R) (ρ':Rho),Γ.K=K->m.run ρ=some ((srcs,items),ρ')->Sim Γ H ρ Z E->(∀J vs H',vs.length=srcs.length->Sim Γ H' ρ' Z (ens vs srcs++ae m.mu E)->fj Γ J vs srcs items->Rr J H')->wi Z H Rr
theorem cB {M:List Nat}:∀{A:List En},(∀e∈A,az M e=true)->ae M A=A
 | [],_=>rfl
 | e::A,h=>by rw[ay (h e ymS),cB λx hx=>h x (ymC _ hx)]
theorem hW {M:List Nat}:∀{vs:List V} {rs:List R},rs.all (aC M)=true->∀e∈ens vs rs,az M e=true
 | [],rs,_,e,h=>by cases rs<;>cases h
 | _::_,[],_,e,h=>by cases h
 | v::vs,r::rs,ha,e,h=>by
  rw[CO,By]at ha
  rcases ycM h with rfl|h
  ·exact ha.1
  ·exact hW ha.2 e h
theorem kK:∀{vs:List V} {rs:List R},∀e∈ens vs rs,e.key=none
 | [],rs,e,h=>by cases rs<;>cases h
 | _::_,[],e,h=>by cases h
 | v::vs,r::rs,e,h=>by
  rcases ycM h with rfl|h
  ·rfl
  ·exact kK e h
noncomputable def iF (n:Int):R:=⟨.ow,.im (.int n)⟩
noncomputable def lU:R:=⟨.ow,.im .non⟩
noncomputable def fw (lo:Int) (n:Nat):List R:=(B1 n).map λi:Nat=>iF (lo+(i:Int))
theorem lu {lo:Int}{n:Nat}:fj Γ (Itr lo n) [.non] [lU] (fw lo n):=λH ρ Z E S=>by
 refine⟨λi hi=>(show n<=i by simpa[fw]using hi),λi r hr=>?_⟩
 unfold fw at hr
 rw[BD]at hr
 cases e:(B1 n)[i]? with
 | none=>rw[e]at hr;cases hr
 | some m=>
  rw[e]at hr;cases hr
  obtain⟨h1,h2⟩:=Bs.mp e
  simp at h1 h2
  subst h2
  refine⟨h1,λx H' y=>?_⟩
  obtain⟨rfl,rfl⟩:=y
  exact S.imm (gP rfl)
noncomputable def ii2 (x y:T):Option (Int×Int):=match isI x with
 | some i=>(match isI y with
  | some j=>some (i,j)
  | none=>none)
 | none=>none
theorem sO {x y:T}{i j:Int}(h:ii2 x y=some (i,j)):x=.im (.int i)/\y=.im (.int j):=by
 unfold ii2 at h
 split at h
 ·rename_i a ea
  split at h
  ·rename_i b eb
   cases h
   exact⟨cw ea,cw eb⟩
  ·cases h
 ·cases h
@[irreducible] noncomputable def aP (a:MA):MI:=⟨λρ=>match a.run ρ with
 | some (rs,ρ1)=>(match l1 isI (rs.map (·.t))with
  | some j=>if -(2^62)<=j/\j<2^62 then some (([lU],fw 0 j.toNat),ρ1)else none
  | none=>none)
 | none=>none,a.mu⟩
@[irreducible] noncomputable def dM (a:MA):MI:=⟨λρ=>match a.run ρ with
 | some (rs,ρ1)=>(match l2 ii2 (rs.map (·.t))with
  | some (i,j)=>if -(2^62)<=i/\i<2^62/\-(2^62)<=j/\j<2^62 then some (([lU],fw i (j-i).toNat),ρ1)else none
  | none=>none)
 | none=>none,a.mu⟩
theorem rH {ta:TA}{a:MA}(ha:dP K ta a):jH K (ve ta) (aP a):=by with_unfolding_all
 intro Γ H ρ Z E Rr src items ρ' hK hr S q
 simp only[aP]at hr
 split at hr
 ·rename_i rs ρ1 e1
  split at hr
  ·rename_i j ej
   obtain⟨hj,e⟩:=aK hr
   cases e
   obtain⟨t,et,ei⟩:=ci ej
   cases cw ei
   refine ha Γ H ρ Z E _ _ _ hK e1 S λvs H1 hl S1=>?_
   have r1:=S1.rds hl
   rw[et]at r1
   obtain⟨w,rfl,r2⟩:=gS r1
   refine⟨j,by rw[aI r2],hj.1,hj.2,q _ [.non] H1 rfl ?_ lu⟩
   exact S1.drops.imm bM
  ·cases hr
 ·cases hr
theorem rJ {ta:TA}{a:MA}(ha:dP K ta a):jH K (vf ta) (dM a):=by with_unfolding_all
 intro Γ H ρ Z E Rr src items ρ' hK hr S q
 simp only[dM]at hr
 split at hr
 ·rename_i rs ρ1 e1
  split at hr
  ·rename_i i j ej
   obtain⟨hj,e⟩:=aK hr
   cases e
   obtain⟨t,u,et,ei⟩:=iu ej
   obtain⟨rfl,rfl⟩:=sO ei
   refine ha Γ H ρ Z E _ _ _ hK e1 S λvs H1 hl S1=>?_
   have r1:=S1.rds hl
   rw[et]at r1
   obtain⟨w,w',rfl,r2,r3⟩:=yt r1
   refine⟨i,j,by rw[aI r2,aI r3],hj,q _ [.non] H1 rfl ?_ lu⟩
   exact S1.drops.imm bM
  ·cases hr
 ·cases hr
noncomputable def ft:R->Option (List R)
 | ⟨_,.li is⟩=>some (is.map λi=>⟨.ow,.im i⟩)
 | ⟨.vw ro _,.lst ts⟩=>some (ts.map (partV ro))
 | ⟨_,.im (.ls is)⟩=>some (is.map λi=>⟨.ow,.im i⟩)
 | _=>none
noncomputable def ij:R->Option (List R)
 | ⟨_,.im (.tup is)⟩=>some (is.map λi=>⟨.ow,.im i⟩)
 | _=>none
noncomputable def pT (a:ME):MI:=⟨λρ=>match a.run ρ with
 | some (r,ρ1)=>(match ft r with
  | some rs=>some (([r],rs),ρ1)
  | none=>none)
 | none=>none,a.mu⟩
noncomputable def wC (a:ME):MI:=⟨λρ=>match a.run ρ with
 | some (r,ρ1)=>(match ij r with
  | some rs=>some (([r],rs),ρ1)
  | none=>none)
 | none=>none,a.mu⟩
theorem Rd.det {a:Addr}{xs ys:List V}(h:Rd H a (.lst xs))(g:Rd H a (.lst ys)):xs=ys:=by
 rcases h with h|⟨o,h⟩<;>rcases g with g|⟨o',g⟩<;>rw[h]at g<;>cases g<;>rfl
theorem aN {α β:Type}{f : α->β}{l:List α}{i:Nat}{b : β}(h:(l.map f)[i]?=some b):∃a,l[i]?=some a/\f a=b:=by
 rw[BD]at h
 cases e:l[i]? with
 | none=>rw[e]at h;cases h
 | some a=>rw[e]at h;exact⟨a,rfl,BQ.inj h⟩
theorem Sim.partV {ro:Option Nat}{p:Option (List Ac)}{s:T}{e:En}{w:V}(S:Sim Γ H ρ Z E)(he:e∈E)(ho:e.r.k=.vw ro p)(hp:∀F,Rp Γ.K H e.r.t e.v F->∃G,Rp Γ.K H s w G/\∀a∈G,a∈F):Sim Γ H ρ Z (⟨none,w,L2.partV ro s⟩::E):=by
 cases s with
 | im i=>
  obtain⟨F,r⟩:=S.rd he
  obtain⟨G,g,_⟩:=hp F r
  exact S.imm (aZ g).1
 | _=>
  obtain⟨w',h1,S2⟩:=S.part he ho (P:=λw'=>w'=w) (s:=_) (λF r=>let ⟨G,g,hG⟩:=hp F r;⟨w,G,rfl,g,hG⟩)
  subst h1
  exact S2
theorem yM {a:Addr}{src:R}{items:List R}(hi:ft src=some items):fj Γ (Itl Γ.K a) [.ref a] [src] items:=λH ρ Z E S=>by
 replace S:Sim Γ H ρ Z (⟨none,.ref a,src⟩::E):=S
 have r1:Rpx Γ.K H src.t (.ref a):=S.rd (e:=⟨none,.ref a,src⟩) ymS
 unfold ft at hi
 split at hi
 ·cases hi
  obtain⟨a',xs,ea,g1,g2⟩:=bA r1
  cases ea
  refine⟨λi hi=>⟨xs,aM g1,by rw[g2.length];simpa using hi⟩,λi r hr=>?_⟩
  obtain⟨j,hj,rfl⟩:=aN hr
  obtain⟨w,hw,rw0⟩:=g2.get hj
  refine⟨⟨xs,w,aM g1,hw⟩,λx H' y=>?_⟩
  obtain⟨rfl,y⟩:=y
  have:=y xs (aM g1)
  rw[hw]at this;cases this
  exact S.imm rw0
 ·rename_i ro p ts
  cases hi
  obtain⟨a',xs,F,ea,g1,g2⟩:=fA r1
  cases ea
  refine⟨λi hi=>⟨xs,aM g1,by rw[g2.length];simpa using hi⟩,λi r hr=>?_⟩
  obtain⟨j,hj,rfl⟩:=aN hr
  obtain⟨w,A,G,B,hw,rw0,_⟩:=g2.at hj
  refine⟨⟨xs,w,aM g1,hw⟩,λx H' y=>?_⟩
  obtain⟨rfl,y⟩:=y
  have:=y xs (aM g1)
  rw[hw]at this;cases this
  refine S.partV (e:=⟨none,.ref a,⟨.vw ro p,.lst ts⟩⟩) ymS rfl λF rp=>?_
  have rp':Rp Γ.K _ (.lst ts) (.ref a) F:=rp
  rw[Rp]at rp'
  obtain⟨a'',xs',F',ea,k1,k2,rfl⟩:=rp'
  cases ea
  have:=k1.det g1
  subst this
  obtain⟨w',A',G',B',hw',rw',e',_⟩:=k2.at hj
  rw[hw]at hw';cases hw'
  exact⟨G',rw',λb hb=>by rw[e'];exact ymC _ (yaL _ (yaR _ hb))⟩
 ·cases hi
  obtain⟨a',xs,ea,g1,g2⟩:=vF r1
  cases ea
  refine⟨λi hi=>⟨xs,aM g1,by rw[g2.length];simpa using hi⟩,λi r hr=>?_⟩
  obtain⟨j,hj,rfl⟩:=aN hr
  obtain⟨w,hw,rw0⟩:=g2.get hj
  refine⟨⟨xs,w,aM g1,hw⟩,λx H' y=>?_⟩
  obtain⟨rfl,y⟩:=y
  have:=y xs (aM g1)
  rw[hw]at this;cases this
  exact S.imm rw0
 ·cases hi
theorem kf {ta:TE}{a:ME}(ha:aU K ta a):jH K (mQ K ta) (pT a):=by
 intro Γ H ρ Z E Rr srcs items ρ' hK hr S q
 simp only[pT]at hr
 split at hr
 ·rename_i src ρ1 e1
  split at hr
  ·rename_i rs e2
   cases hr
   refine ha Γ H ρ Z E _ _ _ hK e1 S λx H1 S1=>?_
   have r1:Rpx Γ.K H1 src.t x:=S1.rd (e:=⟨none,x,src⟩) ymS
   have hx:∃a xs,x=.ref a/\SqL K H1 a xs:=by
    unfold ft at e2
    split at e2
    ·obtain⟨a,xs,e,g1,g2⟩:=bA r1;exact⟨a,xs,e,aM g1⟩
    ·obtain⟨a,xs,F,e,g1,g2⟩:=fA r1;exact⟨a,xs,e,aM g1⟩
    ·obtain⟨a,xs,e,g1,g2⟩:=vF r1;exact⟨a,xs,e,aM g1⟩
    ·cases e2
   obtain⟨b,xs,rfl,h2⟩:=hx
   exact⟨b,rfl,⟨xs,h2⟩,q _ [.ref b] H1 rfl S1 (by rw[←hK];exact yM e2)⟩
  ·cases hr
 ·cases hr
theorem yN {a:Addr}{src:R}{items:List R}(hi:ij src=some items):fj Γ (Itt Γ.K a) [.ref a] [src] items:=λH ρ Z E S=>by
 replace S:Sim Γ H ρ Z (⟨none,.ref a,src⟩::E):=S
 have r1:Rpx Γ.K H src.t (.ref a):=S.rd (e:=⟨none,.ref a,src⟩) ymS
 unfold ij at hi
 split at hi
 ·cases hi
  obtain⟨a',xs,ea,g1,g2⟩:=bO r1
  cases ea
  refine⟨λi hi=>⟨xs,g1,by rw[g2.length];simpa using hi⟩,λi r hr=>?_⟩
  obtain⟨j,hj,rfl⟩:=aN hr
  obtain⟨w,hw,rw0⟩:=g2.get hj
  refine⟨⟨xs,w,g1,hw⟩,λx H' y=>?_⟩
  obtain⟨rfl,y⟩:=y
  have:=y xs g1
  rw[hw]at this;cases this
  exact S.imm rw0
 ·cases hi
theorem ut {ta:TE}{a:ME}(ha:aU K ta a):jH K (sN K ta) (wC a):=by
 intro Γ H ρ Z E Rr srcs items ρ' hK hr S q
 simp only[wC]at hr
 split at hr
 ·rename_i src ρ1 e1
  split at hr
  ·rename_i rs e2
   cases hr
   refine ha Γ H ρ Z E _ _ _ hK e1 S λx H1 S1=>?_
   have r1:Rpx Γ.K H1 src.t x:=S1.rd (e:=⟨none,x,src⟩) ymS
   have hx:∃a xs,x=.ref a/\SqT K H1 a xs:=by
    unfold ij at e2
    split at e2
    ·obtain⟨a,xs,e,g1,g2⟩:=bO r1;rw[hK]at g1;exact⟨a,xs,e,g1⟩
    ·cases e2
   obtain⟨b,xs,rfl,h2⟩:=hx
   exact⟨b,rfl,⟨xs,h2⟩,q _ [.ref b] H1 rfl S1 (by rw[←hK];exact yN e2)⟩
  ·cases hr
 ·cases hr
noncomputable def dv (g:R->Rho->Option Rho) (b:Rho->Option (Fl×Rho)):List R->Rho->Option (Fl×Rho)
 | [],ρ=>some (.nx,ρ)
 | r::rs,ρ=>match g r ρ with
  | some ρ1=>(match b ρ1 with
   | some (.nx,ρ2)=>dv g b rs ρ2
   | some (.ct,ρ2)=>dv g b rs ρ2
   | some (.bk,ρ2)=>some (.nx,ρ2)
   | some (.rt t,ρ2)=>some (.rt t,ρ2)
   | none=>none)
  | none=>none
@[irreducible] noncomputable def bX (it:MI)(g:MG)(b:MS):MS:=⟨λρ=>match it.run ρ with
 | some ((srcs,items),ρ1)=>if(srcs.all (aC (g.mu++b.mu))&&items.all (aC (g.mu++b.mu)))=true then dv g.run b.run items ρ1 else none
 | none=>none,it.mu++(g.mu++b.mu)⟩
theorem uq {wi:TI}{g:TG}{tb:TS}{it:MI}{mg:MG}{b:MS}(hi:jH K wi it)(hg:g9 K g mg)(hb:db K tb b):db K (Ax wi g tb) (bX it mg b):=by
 intro Γ H ρ Z E D f ρ' hK hE hr S q
 simp only[bX]at hr q
 split at hr
 ·rename_i srcs items ρ1 e1
  split at hr
  ·rename_i al
   rw[By]at al
   refine hi Γ H ρ Z E _ srcs items ρ1 hK e1 S λJ vs H1 hlv S1 wk=>?_
   rw[←af]at q
   have hE1:=bm (M:=it.mu) hE
   generalize ae it.mu E=E1 at q S1 hE1
   have ks:∀e∈ens vs srcs,az (mg.mu++b.mu) e=true:=hW al.1
   have kg:ae mg.mu (ens vs srcs++ae (mg.mu++b.mu) E1)=ens vs srcs++ae (mg.mu++b.mu) E1:=by
    rw[aD,cB (λe he=>gc (λj hj=>yaL _ hj) (ks e he)),dl (λj hj=>yaL _ hj)]
   have kb:ae b.mu (ens vs srcs++ae (mg.mu++b.mu) E1)=ens vs srcs++ae (mg.mu++b.mu) E1:=by
    rw[aD,cB (λe he=>gc (λj hj=>yaR _ hj) (ks e he)),dl (λj hj=>yaR _ hj)]
   have S2:=S1.weak (mg.mu++b.mu)
   rw[aD,cB ks]at S2
   have hE2:=bm (M:=mg.mu++b.mu) hE1
   generalize ae (mg.mu++b.mu) E1=E2 at q kg kb S2 hE2
   have hE3:∀e∈ens vs srcs++E2,e.key=none:=λe he=>by
    rcases yaM he with he|he
    ·exact kK e he
    ·exact hE2 e he
   refine⟨λi m Z H=>m=items.length-i/\i<=items.length/\∃ρ,dv mg.run b.run (items.drop i) ρ=some (f,ρ')/\Sim Γ H ρ Z (ens vs srcs++E2),⟨items.length,by simp,De _,ρ1,by simpa using hr,S2⟩,?_⟩
   rintro i m Z1 H2 ⟨rfl,hil,ρ2,h2,S3⟩
   obtain⟨w1,w2⟩:=wk H2 ρ2 Z1 E2 S3
   by_cases hlt:i<items.length
   ·have hx:items[i]?=some items[i]:=by simp[hlt]
    obtain⟨w3,w4⟩:=w2 i _ hx
    rw[CH hlt,dv]at h2
    refine .inr ⟨w3,λZ' H'=>∃ρ,dv mg.run b.run (items.drop (i+1)) ρ=some (f,ρ')/\Sim Γ H' ρ Z' (ens vs srcs++E2),λZ' H' ⟨ρ3,h3,S4⟩=>⟨items.length-(i+1),by omega,rfl,hlt,ρ3,h3,S4⟩,λx H3 y=>?_⟩
    have S4:=w4 x H3 y
    split at h2
    ·rename_i ρ3 e3
     refine hg Γ H3 ρ2 Z1 _ _ x _ ρ3 hK e3 S4 λZ2 H4 S5=>?_
     rw[kg]at S5
     split at h2
     ·rename_i ρ4 e4
      exact hb Γ H4 ρ3 Z2 _ _ .nx ρ4 hK hE3 e4 S5 λZ' H' S6=>⟨ρ4,h2,by rw[kb]at S6;exact S6⟩
     ·rename_i ρ4 e4
      exact hb Γ H4 ρ3 Z2 _ _ .ct ρ4 hK hE3 e4 S5 λZ' H' S6=>⟨ρ4,h2,by rw[kb]at S6;exact S6⟩
     ·rename_i ρ4 e4
      cases h2
      exact hb Γ H4 ρ3 Z2 _ _ .bk _ hK hE3 e4 S5 λZ' H' S6=>q Z' H' (by rw[kb]at S6;exact S6.drops)
     ·rename_i t ρ4 e4
      cases h2
      exact hb Γ H4 ρ3 Z2 _ _ (.rt t) _ hK hE3 e4 S5 q
     ·cases h2
    ·cases h2
   ·have e:i=items.length:=by omega
    subst e
    rw[DC,dv]at h2
    cases h2
    exact .inl ⟨w1 _ (Bz _),q Z1 H2 S3.drops⟩
  ·cases hr
 ·cases hr
end
noncomputable def gB (π:Nat->Nat):Kd->Kd
 | .vw (some j) p=>.vw (some (π j)) p
 | k=>k
noncomputable def i4 (π:Nat->Nat) (r:R):R:=⟨gB π r.k,r.t⟩
noncomputable def bV (π:Nat->Nat) (e:En):En:=⟨e.key.map π,e.v,i4 π e.r⟩
section
variable  {Γ:Gm}{H H':Hp}{ρ:Rho}{Z:St}{E X:List En}{v x y:V}{t:T}{K:yF}{Q:VK}{π:Nat->Nat}
theorem ng (k:Kd):(gB π k).isOw=k.isOw:=by
 cases k with
 | vw a b=>cases a<;>rfl
 | _=>rfl
theorem jw (k:Kd):(gB π k).root=k.root.map π:=by
 cases k with
 | vw a b=>cases a<;>rfl
 | _=>rfl
theorem SimL.ren (S:SimL Γ H X)(inj:∀e∈X,∀f∈X,∀a b,e.key=some a->f.key=some b->π a=π b->a=b):SimL Γ H (X.map (bV π)):=by
 obtain⟨L,g,rfl⟩:=S
 have own:∀L:List Hd,(L.map λh:Hd=>(⟨bV π h.e,h.F⟩:Hd)).flatMap Hd.own=L.flatMap Hd.own:=by
  intro L
  induction L with
  | nil=>rfl
  | cons h L ih=>
   rw[Bt,BE,BE,ih]
   congr 1
   unfold Hd.own
   show(if(gB π h.e.r.k).isOw=true then h.F else [])=_
   rw[ng]
 refine⟨L.map λh=>⟨bV π h.e,h.F⟩,⟨by rw[own];exact g.nd,by rw[own];exact g.ad,λh hh=>?_,λh hh=>?_,?_,g.fr,g.iol⟩,by rw[BR,BR];rfl⟩
 ·obtain⟨h0,h1,rfl⟩:=BB.mp hh
  exact g.rp h0 h1
 ·obtain⟨h0,h1,rfl⟩:=BB.mp hh
  have k:=g.kd h0 h1
  unfold KdOk at k⊢
  show match gB π h0.e.r.k with
   | .ow=>_|.io k=>_|.vw none _=>_|.vw (some j) p=>_
  cases ek:h0.e.r.k with
  | ow=>rw[ek]at k;exact k
  | io n=>rw[ek]at k;exact k
  | vw a p=>
   rw[ek]at k
   cases a with
   | none=>rw[own];exact k
   | some j=>
    obtain⟨x,x1,x2,x3,x4,x5⟩:=k
    refine⟨⟨bV π x.e,x.F⟩,BW x1,by show x.e.key.map π=_;rw[x2];rfl,by show(gB π x.e.r.k).isOw=true;rw[ng];exact x3,λa ha=>by rw[own];exact x4 a ha,x5⟩
 ·rw[C9]
  have e:(λh:Hd=>h.e.key)∘(λh:Hd=>(⟨bV π h.e,h.F⟩:Hd))=λh=>h.e.key.map π:=rfl
  rw[e]
  have:∀L':List Hd,(∀h∈L',h∈L)->(L'.filterMap λh=>h.e.key).Nodup->(L'.filterMap λh=>h.e.key.map π).Nodup:=by
   intro L'
   induction L' with
   | nil=>intro _ _;exact CD
   | cons h L' ih=>
    intro hs nd
    rw[BP]at nd⊢
    cases ek:h.e.key with
    | none=>rw[ek]at nd;exact ih (λx hx=>hs x (ymC _ hx)) nd
    | some a=>
     rw[ek]at nd
     obtain⟨n1,n2⟩:=BS.mp nd
     refine BS.mpr ⟨λhm=>?_,ih (λx hx=>hs x (ymC _ hx)) n2⟩
     obtain⟨y,hy,ey⟩:=B2.mp hm
     cases eb:y.e.key with
     | none=>rw[eb]at ey;cases ey
     | some b=>
      rw[eb]at ey
      have e2 : π b=π a:=BQ.inj ey
      have:=inj y.e (BW (hs y (ymC _ hy))) h.e (BW (hs h ymS)) b a eb ek e2
      subst this
      exact n1 (B2.mpr ⟨y,hy,eb⟩)
  exact this L (λ_ h=>h) g.ks
theorem SimL.filt (S:SimL Γ H X)(p:En->Bool)(hp:∀e∈X,p e=true->∀j,e.r.k.root=some j->∀f∈X,f.key=some j->p f=true):SimL Γ H (X.filter p):=by
 obtain⟨L,g,rfl⟩:=S
 refine⟨L.filter λh=>p h.e,g.sub Ce λh hh j hj x hx hk ho=>?_,by rw[Dh];rfl⟩
 obtain⟨h1,h2⟩:=BC.mp hh
 exact BC.mpr ⟨hx,hp h.e (BW h1) h2 j hj x.e (BW hx) hk⟩
theorem ents_iff {e:En}:e∈au 0 Z ρ ↔ ∃i,e.key=some i/\ρ[i]?=some (some e.r)/\Z[i]?=some (some e.v):=by
 constructor
 ·intro h
  obtain⟨i,h1,h2,h3⟩:=cc h
  exact⟨i,by rw[h1,Cb],h2,h3⟩
 ·rintro⟨i,h1,h2,h3⟩
  have:=(bd (k:=0) h3 h2).mem_iff.mpr ymS
  have e':e=⟨some (0+i),e.v,e.r⟩:=by cases e;simp only[En.mk.injEq,and_self,and_true,Cb];exact h1
  rw[e'];exact this
theorem jV:∀{k:Nat} {Z:List (Option V)} {ρ:Rho},(au k Z ρ).Pairwise λa b=>∃i j,a.key=some i/\b.key=some j/\i<j
 | _,[],_=>List.Pairwise.nil
 | _,x::_,[]=>by cases x<;>exact List.Pairwise.nil
 | k,x::Z,y::ρ=>by
  have ih:=jV (k:=k+1) (Z:=Z) (ρ:=ρ)
  cases x with
  | none=>simpa[au]using ih
  | some v=>
   cases y with
   | none=>simpa[au]using ih
   | some r=>
    simp only[au]
    refine List.Pairwise.cons (λb hb=>?_) ih
    obtain⟨i,h1,_,_⟩:=cc hb
    exact⟨k,k+1+i,rfl,h1,by omega⟩
theorem ents_nodup {k:Nat}:(au k Z ρ).Nodup:=by
 refine List.Pairwise.imp ?_ jV
 rintro a b ⟨i,j,h1,h2,h3⟩ rfl
 rw[h1]at h2;cases h2;omega
noncomputable def bj (fr:List (Option Nat)) (j:Nat):Bool:=match fr[j]? with
 | some (some i)=>i==j
 | _=>false
noncomputable def piF (fr:List (Option Nat)) (j:Nat):Nat:=if bj fr j=true then j else fr.length+j
noncomputable def psF (fr:List (Option Nat)) (k:Nat):Nat:=if k<fr.length then k else k-fr.length
noncomputable def gQ (π:Nat->Nat):Nat->List (Option Nat)->Rho->Rho
 | _,[],_=>[]
 | k,o::fr,r::ρ=>(if o=some k then r.map (i4 π)else none)::gQ π (k+1) fr ρ
 | k,o::fr,[]=>none::gQ π (k+1) fr []
noncomputable def inR (fr:List (Option Nat)) (ρ:Rho):Rho:=gQ (piF fr) 0 fr ρ
noncomputable def fe (ψ : Nat->Nat) (tg mu:List Nat):Nat->List (Option Nat)->Rho->Rho->Rho
 | k,o::fr,ri::ρi,r::ρ=>(if o=some k then(bC tg ri).map (i4 ψ)else bC mu r)::fe ψ tg mu (k+1) fr ρi ρ
 | _,[],_,ρ=>ρ.map (bC mu)
 | _,_::_,[],ρ=>ρ.map (bC mu)
 | _,_::_,_::_,[]=>[]
noncomputable def tgF (fr:List (Option Nat)):List Nat:=(B1 fr.length).filter λi=>!bj fr i
noncomputable def muF (fr:List (Option Nat)) (mu:List Nat):List Nat:=mu.filter (bj fr)
noncomputable def cV (fr:List (Option Nat)) (mu:List Nat) (ρi ρ:Rho):Rho:=fe (psF fr) (tgF fr) (muF fr mu) 0 fr ρi ρ
theorem capB_iff {fr:List (Option Nat)}{j:Nat}:bj fr j=true↔fr[j]?=some (some j):=by
 unfold bj
 split
 ·rename_i i h;rw[h];simp
 ·rename_i h
  constructor
  ·intro z;cases z
  ·intro z;exact absurd z (h j)
theorem ic:∀{k:Nat} {fr:List (Option Nat)} {ρ:Rho} {i:Nat} {r':R},(gQ π k fr ρ)[i]?=some (some r')↔fr[i]?=some (some (k+i))/\∃r,ρ[i]?=some (some r)/\r'=i4 π r
 | k,[],ρ,i,r'=>by simp[gQ]
 | k,o::fr,[],0,r'=>by simp[gQ]
 | k,o::fr,[],i+1,r'=>by
  rw[gQ,Ck,ic (k:=k+1) (fr:=fr) (ρ:=[]) (i:=i)]
  simp
 | k,o::fr,r::ρ,0,r'=>by
  rw[gQ,Cv,Cv,Cv]
  by_cases h:o=some k
  ·subst h
   rw[if_pos rfl]
   cases r with
   | none=>simp
   | some r=>simp[eq_comm]
  ·rw[if_neg h]
   constructor
   ·intro z;cases z
   ·rintro⟨h1,_⟩;exact absurd (by simpa using h1) h
 | k,o::fr,r::ρ,i+1,r'=>by
  rw[gQ,Ck,Ck,Ck,ic (k:=k+1) (fr:=fr) (ρ:=ρ) (i:=i),show k+1+i=k+(i+1) by omega]
theorem fJ:∀{k:Nat} {fr:List (Option Nat)} {ρ:Rho},(gQ π k fr ρ).length=fr.length
 | k,[],ρ=>rfl
 | k,o::fr,[]=>by rw[gQ,BF,fJ,BF]
 | k,o::fr,r::ρ=>by rw[gQ,BF,fJ,BF]
theorem inR_get {fr:List (Option Nat)}{i:Nat}{r':R}:(inR fr ρ)[i]?=some (some r')↔bj fr i=true/\∃r,ρ[i]?=some (some r)/\r'=i4 (piF fr) r:=by
 unfold inR;rw[ic,Cb,capB_iff]
theorem fK {fr:List (Option Nat)}{i:Nat}(h:bj fr i=true):(ce fr Z)[i]?=some (Z.getD i none):=by
 unfold ce
 rw[BD,capB_iff.mp h];rfl
theorem getD_some {i:Nat}{v:V}:Z.getD i none=some v↔Z[i]?=some (some v):=by
 rw[BO]
 cases h:Z[i]? with
 | none=>simp
 | some o=>simp
theorem cz {fr:List (Option Nat)}{j:Nat}(h:bj fr j=true):piF fr j=j:=by unfold piF;rw[if_pos h]
theorem bI {fr:List (Option Nat)}{j:Nat}(h:bj fr j=false):piF fr j=fr.length+j:=by unfold piF;rw[if_neg (by rw[h];simp)]
theorem be {fr:List (Option Nat)}{j:Nat}(h:bj fr j=true):j<fr.length:=(Bs.mp (capB_iff.mp h)).1
theorem tP {fr:List (Option Nat)}{a b:Nat}(h:piF fr a=piF fr b):a=b:=by
 cases ha:bj fr a<;>cases hb:bj fr b
 ·rw[bI ha,bI hb]at h;omega
 ·rw[bI ha,cz hb]at h;have:=be hb;omega
 ·rw[cz ha,bI hb]at h;have:=be ha;omega
 ·rw[cz ha,cz hb]at h;exact h
theorem qP {fr:List (Option Nat)}(a:Nat):psF fr (piF fr a)=a:=by
 cases ha:bj fr a
 ·rw[bI ha];unfold psF;rw[if_neg (by omega)];omega
 ·rw[cz ha];unfold psF;rw[if_pos (be ha)]
theorem kh {fr:List (Option Nat)}(e:En):bV (psF fr) (bV (piF fr) e)=e:=by
 obtain⟨key,v,⟨k,t⟩⟩:=e
 have h1:(key.map (piF fr)).map (psF fr)=key:=by cases key<;>simp[qP]
 have h2:gB (psF fr) (gB (piF fr) k)=k:=by
  cases k with
  | vw a p=>cases a<;>simp[gB,qP]
  | _=>rfl
 show(⟨(key.map (piF fr)).map (psF fr),v,⟨gB (psF fr) (gB (piF fr) k),t⟩⟩:En)=_
 rw[h1,h2]
noncomputable def de (fr:List (Option Nat)) (e:En):Bool:=match e.key with
 | some j=>bj fr j
 | none=>false
theorem gk {α β:Type}{f : α->β}{l:List α}(h:l.Nodup)(inj:∀a∈l,∀b∈l,f a=f b->a=b):(l.map f).Nodup:=by
 induction l with
 | nil=>exact CD
 | cons a l ih=>
  obtain⟨h1,h2⟩:=BS.mp h
  rw[Bt]
  refine BS.mpr ⟨λhm=>?_,ih h2 λx hx y hy=>inj x (ymC _ hx) y (ymC _ hy)⟩
  obtain⟨b,hb,e⟩:=BB.mp hm
  have:=inj b (ymC _ hb) a ymS e
  subst this
  exact h1 hb
theorem inn_perm {fr:List (Option Nat)}:((au 0 Z ρ).map (bV (piF fr))).Perm (au 0 (ce fr Z) (inR fr ρ)++((au 0 Z ρ).filter λe=>!de fr e).map (bV (piF fr))):=by
 have inj:∀a∈au 0 Z ρ,∀b∈au 0 Z ρ,bV (piF fr) a=bV (piF fr) b->a=b:=λa _ b _ h=>by
  have:=congrArg (bV (psF fr)) h
  rwa [kh,kh]at this
 have nd1:=gk (ents_nodup (k:=0) (Z:=Z) (ρ:=ρ)) inj
 have nd2:(((au 0 Z ρ).filter λe=>!de fr e).map (bV (piF fr))).Nodup:=nd1.sublist (Ce.map _)
 refine(Dp nd1 (Bx.mpr ⟨ents_nodup,nd2,?_⟩)).mpr λe=>?_
 ·rintro a ha b hb rfl
  obtain⟨i,h1,h2,h3⟩:=ents_iff.mp ha
  obtain⟨hc,_⟩:=inR_get.mp h2
  obtain⟨f,hf,rfl⟩:=BB.mp hb
  obtain⟨hf1,hf2⟩:=BC.mp hf
  obtain⟨j,g1,g2,g3⟩:=ents_iff.mp hf1
  have g0:bj fr j=false:=by unfold de at hf2;rw[g1]at hf2;simpa using hf2
  have h1':(f.key.map (piF fr))=some i:=h1
  rw[g1]at h1'
  have h1'':piF fr j=i:=by simpa using h1'
  rw[bI g0]at h1''
  have:=be hc
  omega
 ·rw[Dg]
  constructor
  ·intro he
   obtain⟨f,hf,rfl⟩:=BB.mp he
   obtain⟨j,g1,g2,g3⟩:=ents_iff.mp hf
   cases hc:bj fr j
   ·exact .inr (BB.mpr ⟨f,BC.mpr ⟨hf,by unfold de;rw[g1];simp[hc]⟩,rfl⟩)
   ·left
    refine ents_iff.mpr ⟨j,?_,inR_get.mpr ⟨hc,_,g2,rfl⟩,?_⟩
    ·show f.key.map (piF fr)=_
     rw[g1]
     simp[cz hc]
    ·rw[fK hc,getD_some.mpr g3];rfl
  ·rintro(he|he)
   ·obtain⟨i,h1,h2,h3⟩:=ents_iff.mp he
    obtain⟨hc,r,h4,h5⟩:=inR_get.mp h2
    rw[fK hc]at h3
    have h3':=getD_some.mp (BQ.inj h3)
    refine BB.mpr ⟨⟨some i,e.v,r⟩,ents_iff.mpr ⟨i,rfl,h4,h3'⟩,?_⟩
    cases e
    simp only at h1 h5
    simp[bV,cz hc,h1,h5]
   ·obtain⟨f,hf,rfl⟩:=BB.mp he
    exact BW (BC.mp hf).1
noncomputable def i3 (fr:List (Option Nat)) (Z:St) (ρ:Rho) (E:List En):List En:=(E++(au 0 Z ρ).filter λe=>!de fr e).map (bV (piF fr))
noncomputable def dS (fr:List (Option Nat)) (n:Nat):Bool:=decide (n<=fr.length)&&(B1 fr.length).all λi=>!bj fr i||decide (i<n)
theorem jX {fr:List (Option Nat)}{n j:Nat}(h:dS fr n=true)(hc:bj fr j=true):j<n:=by
 unfold dS at h
 rw[By]at h
 have:=Ch.mp h.2 j (C1.mpr (be hc))
 rw[hc]at this
 simpa using this
theorem Sim.inn {fr:List (Option Nat)}(S:Sim Γ H ρ Z E)(hf:dS fr ρ.length=true):Sim Γ H (inR fr ρ) (ce fr Z) (i3 fr Z ρ E):=by
 refine⟨?_,λi r h=>?_,by rw[fL];unfold inR;rw[fJ],λe he j hj=>?_⟩
 ·have:=S.sl.ren (π:=piF fr) λe _ f _ a b _ _ h=>tP h
  rw[BL]at this
  refine this.perm ?_
  unfold i3
  rw[BL,BK]
  exact(inn_perm.append_left _).trans (DP.append_left _)
 ·obtain⟨hc,r0,h1,_⟩:=inR_get.mp h
  obtain⟨v,hv⟩:=S.al i r0 h1
  exact⟨v,by rw[fK hc,getD_some.mpr hv]⟩
 ·unfold inR
  rw[fJ]
  unfold i3 at he
  obtain⟨f,hf',rfl⟩:=BB.mp he
  have hj':f.key.map (piF fr)=some j:=hj
  cases hk:f.key with
  | none=>rw[hk]at hj';cases hj'
  | some i=>
   rw[hk]at hj'
   have e1:piF fr i=j:=by simpa using hj'
   have hc:bj fr i=false:=by
    rcases yaM hf' with z|z
    ·cases hc:bj fr i with
     | false=>rfl
     | true=>
      have:=jX hf hc
      have:=S.hi f z i hk
      omega
    ·have:=(BC.mp z).2
     unfold de at this
     rw[hk]at this
     simpa using this
   rw[bI hc]at e1
   omega
theorem ju {ψ : Nat->Nat}{tg mu:List Nat}:∀{k:Nat} {fr:List (Option Nat)} {ρi ρ:Rho} {i:Nat},i < ρ.length->ρ.length<=fr.length->fr.length=ρi.length->(fe ψ tg mu k fr ρi ρ)[i]?=some (if fr[i]?=some (some (k+i))then(bC tg (ρi.getD i none)).map (i4 ψ)else bC mu (ρ.getD i none))
 | k,fr,ρi,[],i,h,_,_=>by cases h
 | k,[],ρi,r::ρ,i,_,h,_=>by simp at h
 | k,o::fr,[],r::ρ,i,_,_,h=>by cases h
 | k,o::fr,ri::ρi,r::ρ,0,h,h2,h3=>by
  rw[fe,Cv,Cv]
  simp
 | k,o::fr,ri::ρi,r::ρ,i+1,h,h2,h3=>by
  rw[fe,Ck,ju (k:=k+1) (by simpa using h) (by simpa using h2) (by simpa using h3),Ck,show k+1+i=k+(i+1) by omega]
  simp
theorem gn {ψ : Nat->Nat}{tg mu:List Nat}:∀{k:Nat} {fr:List (Option Nat)} {ρi ρ:Rho},(fe ψ tg mu k fr ρi ρ).length=ρ.length
 | k,[],ρi,ρ=>by cases ρi<;>simp[fe]
 | k,o::fr,[],ρ=>by simp[fe]
 | k,o::fr,ri::ρi,[]=>by simp[fe]
 | k,o::fr,ri::ρi,r::ρ=>by rw[fe,BF,gn,BF]
theorem f6 {fr:List (Option Nat)}{i:Nat}:i∈tgF fr↔i<fr.length/\bj fr i=false:=by
 unfold tgF
 rw[BC,C1]
 simp
theorem killO_iff {M:List Nat}{o:Option R}{r:R}:bC M o=some r↔o=some r/\cq M r=true:=by
 cases o with
 | none=>simp[bC]
 | some x=>
  simp only[bC]
  split
  ·rename_i h
   constructor
   ·intro z;cases z;exact⟨rfl,h⟩
   ·rintro⟨z,_⟩;rw[z]
  ·rename_i h
   constructor
   ·intro z;cases z
   ·rintro⟨z,h2⟩;cases z;exact absurd h2 h
theorem pN {fr:List (Option Nat)}{mu:List Nat}(hmu:∀j∈mu,j<fr.length)(e:En):az mu (bV (piF fr) e)=az (muF fr mu) e:=by
 unfold az
 show(match (gB (piF fr) e.r.k).root with|some j=>!mu.contains j|none=>true)=_
 rw[jw]
 cases e.r.k.root with
 | none=>rfl
 | some j=>
  show(!mu.contains (piF fr j)) = !(muF fr mu).contains j
  congr 1
  rw[Cp]
  simp only[Cj,decide_eq_true_eq,muF,BC]
  cases hc:bj fr j
  ·rw[bI hc]
   constructor
   ·intro z;have:=hmu _ z;omega
   ·rintro⟨_,z⟩;cases z
  ·rw[cz hc]
   simp
theorem sT {fr:List (Option Nat)}(e:En):az (tgF fr) (bV (piF fr) e)=true:=by
 unfold az
 show(match (gB (piF fr) e.r.k).root with|some j=>!(tgF fr).contains j|none=>true)=_
 rw[jw]
 cases e.r.k.root with
 | none=>rfl
 | some j=>
  show(!(tgF fr).contains (piF fr j))=true
  simp only[Cj,B7,decide_eq_false_iff_not,f6]
  rintro⟨h1,h2⟩
  cases hc:bj fr j
  ·rw[bI hc]at h1;omega
  ·rw[cz hc,hc]at h2;cases h2
theorem Sim.outt {fr:List (Option Nat)}{mu:List Nat}{ρi:Rho}{Z2:St}(S:Sim Γ H' ρi Z2 (ae mu (i3 fr Z ρ E)))(hf:dS fr ρ.length=true)(hmu:∀j∈mu,j<fr.length)(hl : ρi.length=fr.length)(kp:Kp fr (ce fr Z) Z2)
  (al:∀(i:Nat) r,ρ[i]?=some (some r)->∃v,Z[i]?=some (some v)) (len:Z.length=ρ.length) (hi:∀e∈E,∀j,e.key=some j->ρ.length<=j):Sim Γ H' (cV fr mu ρi ρ) Z (ae (muF fr mu) E):=by
 have hn : ρ.length<=fr.length:=by unfold dS at hf;rw[By,decide_eq_true_eq]at hf;exact hf.1
 have val:∀{i:Nat} {w:V},bj fr i=true->Z2[i]?=some (some w)->Z[i]?=some (some w):=λ{i w} hc h=>by
  rw[kp.2 i i (capB_iff.mp hc),fK hc]at h
  exact getD_some.mp (BQ.inj h)
 have eE:ae mu (i3 fr Z ρ E)=(ae (muF fr mu) (E++(au 0 Z ρ).filter λe=>!de fr e)).map (bV (piF fr)):=by
  unfold i3 ae
  rw[Dh]
  congr 1
  apply List.filter_congr
  intro e _
  exact pN hmu e
 have s1:=(S.sl.kill (tgF fr))
 rw[aD,eE]at s1
 have e1:ae (tgF fr) ((ae (muF fr mu) (E++(au 0 Z ρ).filter λe=>!de fr e)).map (bV (piF fr)))=(ae (muF fr mu) (E++(au 0 Z ρ).filter λe=>!de fr e)).map (bV (piF fr)):=by
  unfold ae
  rw[Cy]
  intro e he
  obtain⟨f,_,rfl⟩:=BB.mp he
  exact sT f
 rw[e1]at s1
 let p:En->Bool:=λe=>match e.key with
  | some k=>!(tgF fr).contains k
  | none=>true
 have kout:∀f∈E++(au 0 Z ρ).filter λe=>!de fr e,∀j,f.key=some j->bj fr j=false:=λf hf' j hj=>by
  rcases yaM hf' with z|z
  ·cases hc:bj fr j with
   | false=>rfl
   | true=>have:=jX hf hc;have:=hi f z j hj;omega
  ·have:=(BC.mp z).2
   unfold de at this
   rw[hj]at this
   simpa using this
 have pO:∀e∈(ae (muF fr mu) (E++(au 0 Z ρ).filter λe=>!de fr e)).map (bV (piF fr)),p e=true:=λe he=>by
  obtain⟨f,hf',rfl⟩:=BB.mp he
  have hf'':=(BC.mp hf').1
  show(match f.key.map (piF fr)with|some k=>!(tgF fr).contains k|none=>true)=true
  cases hk:f.key with
  | none=>rfl
  | some j=>
   have:=kout f hf'' j hk
   simp only[CV,Cj,B7,decide_eq_false_iff_not,f6]
   rw[bI this]
   omega
 have s2:=s1.filt p λe he _ j hj f hf' hk=>by
  show(match f.key with|some k=>!(tgF fr).contains k|none=>true)=true
  rw[hk]
  have hm:e∈ae (tgF fr) (ae mu (i3 fr Z ρ E)++au 0 Z2 ρi):=by rw[aD,eE,e1];exact he
  by_cases hj':j∈tgF fr
  ·exact absurd hj (iA (M:=tgF fr) (i:=j) hj' e hm)
  ·simp[hj']
 rw[DZ,Cy.mpr pO]at s2
 have s3:=s2.ren (π:=psF fr) (λe he f hf' a b ha hb hab=>by
  have key:∀e∈(ae (muF fr mu) (E++(au 0 Z ρ).filter λe=>!de fr e)).map (bV (piF fr))++(ae (tgF fr) (au 0 Z2 ρi)).filter p,∀a,e.key=some a->(∃j,a=fr.length+j/\bj fr j=false)∨bj fr a=true:=λe he a ha=>by
   rcases yaM he with z|z
   ·left
    obtain⟨g,hg,rfl⟩:=BB.mp z
    have hg':=(BC.mp hg).1
    have ha':g.key.map (piF fr)=some a:=ha
    cases hk:g.key with
    | none=>rw[hk]at ha';cases ha'
    | some j=>
     have hc:=kout g hg' j hk
     rw[hk]at ha'
     have:piF fr j=a:=by simpa using ha'
     exact⟨j,by rw[←this,bI hc],hc⟩
   ·right
    obtain⟨z1,z2⟩:=BC.mp z
    obtain⟨i,h1,h2,h3⟩:=ents_iff.mp (BC.mp z1).1
    rw[ha]at h1
    cases h1
    have z2':(match e.key with|some k=>!(tgF fr).contains k|none=>true)=true:=z2
    rw[ha]at z2'
    have hlt:a<fr.length:=by
     have:=(Bs.mp h2).1
     omega
    simp only[Cj,B7,decide_eq_false_iff_not,f6]at z2'
    cases hc:bj fr a with
    | true=>rfl
    | false=>exact absurd ⟨hlt,hc⟩ z2'
  rcases key e he a ha with⟨j,rfl,hj⟩|hj<;>rcases key f hf' b hb with⟨j',rfl,hj'⟩|hj'
  ·unfold psF at hab;rw[if_neg (by omega),if_neg (by omega)]at hab;omega
  ·unfold psF at hab
   rw[if_neg (by omega),if_pos (be hj')]at hab
   have:j=b:=by omega
   subst this
   rw[hj]at hj';cases hj'
  ·unfold psF at hab
   rw[if_pos (be hj),if_neg (by omega)]at hab
   have:j'=a:=by omega
   subst this
   rw[hj']at hj;cases hj
  ·unfold psF at hab;rw[if_pos (be hj),if_pos (be hj')]at hab;exact hab)
 rw[BL,BR]at s3
 have e2:(ae (muF fr mu) (E++(au 0 Z ρ).filter λe=>!de fr e)).map (bV (psF fr)∘bV (piF fr))=ae (muF fr mu) (E++(au 0 Z ρ).filter λe=>!de fr e):=by
  conv=>rhs;rw[←List.map_id (ae (muF fr mu) (E++(au 0 Z ρ).filter λe=>!de fr e))]
  apply List.map_congr_left
  intro e _
  exact kh e
 rw[e2,aD,BK]at s3
 have olen:(cV fr mu ρi ρ).length=ρ.length:=by unfold cV;exact gn
 have oget:∀{i:Nat} {r:R},(cV fr mu ρi ρ)[i]?=some (some r)↔i < ρ.length/\((bj fr i=true/\∃r0,ρi[i]?=some (some r0)/\cq (tgF fr) r0=true/\r=i4 (psF fr) r0)∨(bj fr i=false/\ρ[i]?=some (some r)/\cq (muF fr mu) r=true)):=λ{i r}=>by
  by_cases hlt:i < ρ.length
  ·unfold cV
   rw[ju hlt hn hl.symm,Cb]
   cases hc:bj fr i
   ·rw[if_neg (λz=>by rw[capB_iff.mpr z]at hc;cases hc)]
    rw[BQ.injEq,killO_iff]
    have : ρ.getD i none=some r↔ρ[i]?=some (some r):=by
     rw[BO]
     cases ρ[i]?<;>simp
    rw[this]
    simp[hlt]
   ·rw[if_pos (capB_iff.mp hc)]
    rw[BQ.injEq,B8]
    constructor
    ·rintro⟨r0,h1,h2⟩
     obtain⟨h3,h4⟩:=killO_iff.mp h1
     refine⟨hlt,.inl ⟨rfl,r0,?_,h4,h2.symm⟩⟩
     rw[BO]at h3
     cases h5 : ρi[i]? with
     | none=>rw[h5]at h3;cases h3
     | some o=>rw[h5]at h3;have:o=some r0:=h3;rw[this]
    ·rintro⟨_,⟨_,r0,h1,h2,h3⟩|⟨z,_⟩⟩
     ·exact⟨r0,killO_iff.mpr ⟨by rw[BO,h1];rfl,h2⟩,h3.symm⟩
     ·cases z
  ·constructor
   ·intro z
    have:=(Bs.mp z).1
    rw[olen]at this
    exact absurd this hlt
   ·rintro⟨z,_⟩;exact absurd z hlt
 refine⟨s3.perm (List.Perm.append_left _ ?_),λi r h=>?_,by rw[olen];exact len,λe he j hj=>by rw[olen];exact hi e (BC.mp he).1 j hj⟩
 ·have ndA:(ae (muF fr mu) ((au 0 Z ρ).filter λe=>!de fr e)).Nodup:=ents_nodup.sublist (Ce.trans Ce)
  have inB:∀e∈(ae (tgF fr) (au 0 Z2 ρi)).filter p,∃i,e.key=some i/\bj fr i=true/\ρi[i]?=some (some e.r)/\Z2[i]?=some (some e.v)/\cq (tgF fr) e.r=true:=λe he=>by
   obtain⟨z1,z2⟩:=BC.mp he
   obtain⟨z3,z4⟩:=BC.mp z1
   obtain⟨i,h1,h2,h3⟩:=ents_iff.mp z3
   have z2':(match e.key with|some k=>!(tgF fr).contains k|none=>true)=true:=z2
   rw[h1]at z2'
   have hlt:i<fr.length:=by
    have:=(Bs.mp h2).1
    omega
   simp only[Cj,B7,decide_eq_false_iff_not,f6]at z2'
   refine⟨i,h1,?_,h2,h3,z4⟩
   cases hc:bj fr i with
   | true=>rfl
   | false=>exact absurd ⟨hlt,hc⟩ z2'
  have ndB:(((ae (tgF fr) (au 0 Z2 ρi)).filter p).map (bV (psF fr))).Nodup:=by
   refine gk (ents_nodup.sublist (Ce.trans Ce)) λa ha b hb h=>?_
   obtain⟨i,h1,h2,h3,h4,_⟩:=inB a ha
   obtain⟨j,g1,g2,g3,g4,_⟩:=inB b hb
   have hk:a.key.map (psF fr)=b.key.map (psF fr):=congrArg En.key h
   rw[h1,g1]at hk
   have hk':psF fr i=psF fr j:=by simpa using hk
   unfold psF at hk'
   rw[if_pos (be h2),if_pos (be g2)]at hk'
   subst hk'
   rw[h3]at g3;rw[h4]at g4
   cases a;cases b
   simp only at h1 g1 g3 g4
   have e1:=BQ.inj (BQ.inj g3)
   have e2:=BQ.inj (BQ.inj g4)
   simp[h1,g1,e1,e2]
  refine(Dp (Bx.mpr ⟨ndA,ndB,?_⟩) ents_nodup).mpr λe=>?_
  ·rintro a ha b hb rfl
   obtain⟨f,hf',hfe⟩:=BB.mp hb
   obtain⟨i,h1,h2,_⟩:=inB f hf'
   have hk:f.key.map (psF fr)=a.key:=congrArg En.key hfe
   rw[h1]at hk
   have hk':a.key=some i:=by rw[←hk];simp[psF,be h2]
   obtain⟨y1,y2⟩:=BC.mp (BC.mp ha).1
   unfold de at y2
   rw[hk']at y2
   simp[h2]at y2
  ·rw[Dg,ents_iff]
   constructor
   ·rintro(he|he)
    ·obtain⟨z1,z2⟩:=BC.mp he
     obtain⟨z3,z4⟩:=BC.mp z1
     obtain⟨i,h1,h2,h3⟩:=ents_iff.mp z3
     unfold de at z4
     rw[h1]at z4
     refine⟨i,h1,oget.mpr ⟨(Bs.mp h2).1,.inr ⟨by simpa using z4,h2,z2⟩⟩,h3⟩
    ·obtain⟨f,hf',rfl⟩:=BB.mp he
     obtain⟨i,h1,h2,h3,h4,h5⟩:=inB f hf'
     refine⟨i,?_,oget.mpr ⟨jX hf h2,.inl ⟨h2,f.r,h3,h5,rfl⟩⟩,val h2 h4⟩
     show f.key.map (psF fr)=some i
     rw[h1]
     simp[psF,be h2]
   ·rintro⟨i,h1,h2,h3⟩
    obtain⟨hlt,⟨hc,r0,g1,g2,g3⟩|⟨hc,g1,g2⟩⟩:=oget.mp h2
    ·right
     obtain⟨w,hw⟩:=S.al i r0 g1
     have hw':=val hc hw
     rw[h3]at hw'
     have ew:e.v=w:=BQ.inj (BQ.inj hw')
     refine BB.mpr ⟨⟨some i,w,r0⟩,BC.mpr ⟨BC.mpr ⟨ents_iff.mpr ⟨i,rfl,g1,hw⟩,g2⟩,?_⟩,?_⟩
     ·show(!(tgF fr).contains i)=true
      simp only[Cj,B7,decide_eq_false_iff_not,f6]
      rintro⟨_,z⟩;rw[hc]at z;cases z
     ·cases e
      simp only at h1 g3 ew
      simp[bV,h1,g3,ew,psF,be hc]
    ·left
     refine BC.mpr ⟨BC.mpr ⟨ents_iff.mpr ⟨i,h1,g1,h3⟩,?_⟩,g2⟩
     unfold de;rw[h1];simp[hc]
 ·obtain⟨hlt,⟨hc,r0,g1,g2,g3⟩|⟨hc,g1,g2⟩⟩:=oget.mp h
  ·obtain⟨w,hw⟩:=S.al i r0 g1
   exact⟨w,val hc hw⟩
  ·exact al i r g1
end
section
variable  {Γ:Gm}{H H':Hp}{ρ:Rho}{Z:St}{E X:List En}{v x y:V}{t:T}{K:yF}{Q:VK}
theorem Sim.mkL {vs:List V}{ts:List T}{p:Addr}(S:Sim Γ H ρ Z (aS vs ts++E))(hl:vs.length=ts.length)(hp:H p=none):Sim Γ (upd H p (.lst vs)) ρ Z (⟨none,.ref p,⟨.ow,bz ts⟩⟩::E):=by
 obtain⟨F,h1,h2,h3,h4⟩:=S.use hl
 have sm:=Same.laid (o:=.lst vs) hp
 have np:p∉F:=λz=>by obtain⟨o,e,_⟩:=h3 p z;rw[hp]at e;cases e
 refine h4 _ (.ref p) (bz ts) (p::F) (sm.offM _) (λa ha=>let ⟨o,e,_⟩:=h3 a ha;⟨o,sm a o e⟩) (BS.mpr ⟨np,h2⟩) (λa ha=>?_) ?_
 ·rcases ycM ha with rfl|ha
  ·exact⟨.inr hp,_,ar,rfl⟩
  ·exact⟨.inl ha,let ⟨o,e,m⟩:=h3 a ha;⟨o,sm a o e,m⟩⟩
 ·unfold bz
  split
  ·rename_i is hi
   rw[jZ hi]at h1
   obtain⟨h5,h6⟩:=Rps.ims.mp h1
   subst h6
   rw[Rp]
   exact⟨p,vs,rfl,.inl ar,h5.same sm,rfl⟩
  ·rw[Rp]
   exact⟨p,vs,F,rfl,.inl ar,h1.same sm,rfl⟩
theorem jD {t:T}:∀{vs:List V} {ts:List T},vs.length=ts.length->aS (vs++[v]) (ts++[t])=aS vs ts++[⟨none,v,⟨.ow,t⟩⟩]
 | [],[],_=>rfl
 | a::vs,b::ts,h=>by
  rw[BV,BV,aS,aS,jD (by simpa using h),BV]
 | [],_::_,h=>by cases h
 | _::_,[],h=>by cases h
theorem ir {M:List Nat}:∀{vs:List V} {ts:List T},ae M (aS vs ts)=aS vs ts
 | [],ts=>by cases ts<;>rfl
 | a::vs,[]=>rfl
 | a::vs,b::ts=>by rw[aS,ay rfl,ir]
noncomputable def bB (fr:List (Option Nat)) (M:List Nat) (g:MG) (c:MT) (e:ME):List R->Rho->List T->Option (List T×Rho)
 | [],ρ,acc=>some (acc,ρ)
 | r::rs,ρ,acc=>match g.run (i4 (piF fr) r) (inR fr ρ)with
  | some ρ1=>(match c.run ρ1 with
   | some (true,ρ2)=>(match e.run ρ2 with
    | some (⟨.ow,t⟩,ρ3)=>bB fr M g c e rs (cV fr M ρ3 ρ) (acc++[t])
    | _=>none)
   | some (false,ρ2)=>bB fr M g c e rs (cV fr M ρ2 ρ) acc
   | none=>none)
  | none=>none
theorem jr {fr:List (Option Nat)}{e:En}:i3 fr Z ρ (e::E)=bV (piF fr) e::i3 fr Z ρ E:=rfl
theorem k6 {fr:List (Option Nat)}{M:List Nat}{ρi:Rho}:(cV fr M ρi ρ).length=ρ.length:=gn
theorem nL {J:It}{fr:List (Option Nat)}{g:TG}{tc:TT}{te:TE}{mg:MG}{c:MT}{e:ME}{M:List Nat}{vs:List V}{srcs:List R}{items:List R}{N:List V->Hp->Prop}(hK : Γ.K=K)(wk:fj Γ J vs srcs items)(hgk:fE fr g)(hg:g9 K g mg)(hc:dO K tc c)(he:aU K te e)(hM:M=mg.mu++(c.mu++e.mu))
  (hmu:∀j∈M,j<fr.length) (ks:∀e∈ens vs srcs,az (muF fr M) e=true) {E2:List En} (kE:ae (muF fr M) E2=E2) {tsF:List T} {ρF:Rho} {acc0:List V} {ts0:List T} (hl0:acc0.length=ts0.length) (hz:acc0.length+items.length<sizeLine)
  (hf:dS fr ρ.length=true) (S:Sim Γ H ρ Z (ens vs srcs++(aS acc0 ts0++E2))) (hr:bB fr M mg c e items ρ ts0=some (tsF,ρF))
  (q:∀acc H',acc.length=tsF.length->acc.length<=acc0.length+items.length->ρF.length=ρ.length->Sim Γ H' ρF Z (ens vs srcs++(aS acc tsF++E2))->N acc H'):yV J (ce fr Z) g tc te acc0 H N:=by
 have kE2:∀acc ts,ae (muF fr M) (ens vs srcs++(aS acc ts++E2))=ens vs srcs++(aS acc ts++E2):=λacc ts=>by rw[aD,cB ks,aD,ir,kE]
 refine⟨λi m acc H=>m=items.length-i/\i<=items.length/\acc.length<=acc0.length+i/\∃ρ1 ts,bB fr M mg c e (items.drop i) ρ1 ts=some (tsF,ρF)/\acc.length=ts.length/\ρ1.length=ρ.length/\Sim Γ H ρ1 Z (ens vs srcs++(aS acc ts++E2)),⟨items.length,by simp,De _,by omega,ρ,ts0,by simpa using hr,hl0,rfl,S⟩,?_⟩
 rintro i m acc H1 ⟨rfl,hil,hal,ρ1,ts,h1,hl,hρ,S1⟩
 refine⟨by omega,?_⟩
 obtain⟨w1,w2⟩:=wk H1 ρ1 Z _ S1
 by_cases hlt:i<items.length
 ·have hx:items[i]?=some items[i]:=by simp[hlt]
  obtain⟨w3,w4⟩:=w2 i _ hx
  rw[CH hlt,bB]at h1
  refine .inr ⟨w3,λacc' H'=>acc'.length<=acc0.length+(i+1)/\∃ρ1 ts,bB fr M mg c e (items.drop (i+1)) ρ1 ts=some (tsF,ρF)/\acc'.length=ts.length/\ρ1.length=ρ.length/\Sim Γ H' ρ1 Z (ens vs srcs++(aS acc' ts++E2)),λacc' H' ⟨ha,ρ3,ts3,h3,hl3,hρ3,S3⟩=>⟨items.length-(i+1),by omega,rfl,hlt,ha,ρ3,ts3,h3,hl3,hρ3,S3⟩,λx H2 y=>?_⟩
  have S2:=w4 x H2 y
  have hf1:dS fr ρ1.length=true:=by rw[hρ];exact hf
  have S3:=S2.inn hf1
  rw[jr]at S3
  split at h1
  ·rename_i ρ2 e2
   refine hgk x (ce fr Z) H2 (λZ2 H3=>Kp fr (ce fr Z) Z2->_) _ (λZ2 H3 z kp=>z kp) ?_
   refine hg Γ H2 (inR fr ρ1) (ce fr Z) _ _ x _ ρ2 hK e2 S3 λZ2 H3 S4 kp=>?_
   split at h1
   ·rename_i ρ3 e3
    refine hc Γ H3 ρ2 Z2 _ _ true ρ3 hK e3 S4 λH4 S5=>nV ?_
    split at h1
    ·rename_i t ρ4 e4
     refine he Γ H4 ρ3 Z2 _ _ _ ρ4 hK e4 S5 λw H5 S6=>?_
     rw[af,af]at S6
     rw[←hM]at S6
     have S7:Sim Γ H5 ρ4 Z2 (ae M (i3 fr Z ρ1 (⟨none,w,⟨.ow,t⟩⟩::(ens vs srcs++(aS acc ts++E2))))):=by
      rw[jr,ay (show az M (bV (piF fr) ⟨none,w,⟨.ow,t⟩⟩)=true from rfl)]
      exact S6
     have hl4 : ρ4.length=fr.length:=by rw[←S6.len,kp.1,fL]
     have S8:=S7.outt hf1 hmu hl4 kp S1.al S1.len (λe' he' j hj=>by
      rcases ycM he' with rfl|he'
      ·cases hj
      ·exact S1.hi e' he' j hj)
     rw[ay (show az (muF fr M) ⟨none,w,⟨.ow,t⟩⟩=true from rfl),kE2]at S8
     refine⟨by simp;omega,_,_,h1,by simp[hl],by rw[k6,hρ],?_⟩
     rw[jD hl,BK]
     refine S8.perm ?_
     have pp:∀(A B C:List En) (x:En),(x::(A++(B++C))).Perm (A++(B++(x::C))):=λA B C x=>by
      rw[←BK,←BK]
      exact BZ.symm
     exact pp _ _ _ _
    ·cases h1
   ·rename_i ρ3 e3
    refine hc Γ H3 ρ2 Z2 _ _ false ρ3 hK e3 S4 λH4 S5=>nU ?_
    have S6:=S5.weak e.mu
    rw[af,af]at S6
    rw[←hM]at S6
    have hl4 : ρ3.length=fr.length:=by rw[←S6.len,kp.1,fL]
    have S8:=S6.outt hf1 hmu hl4 kp S1.al S1.len S1.hi
    rw[kE2]at S8
    exact⟨by omega,_,_,h1,hl,by rw[k6,hρ],S8⟩
   ·cases h1
  ·cases h1
 ·have ei:i=items.length:=by omega
  subst ei
  rw[DC,bB]at h1
  cases h1
  exact .inl ⟨w1 _ (Bz _),q acc H1 hl hal hρ S1⟩
noncomputable def dX (M:List Nat) (n:Nat):Bool:=M.all λj=>decide (j<n)
theorem pR {M:List Nat}{n:Nat}(h:dX M n=true):∀j∈M,j<n:=λj hj=>by
 have:=Ch.mp h j hj
 simpa using this
@[irreducible] noncomputable def aQ (fr:List (Option Nat))(it:MI)(g:MG)(c:MT)(e:ME):ME:=⟨λρ=>match it.run ρ with
 | some ((srcs,items),ρ1)=>if(dS fr ρ1.length&&dX (g.mu++(c.mu++e.mu)) fr.length&&srcs.all (aC (muF fr (g.mu++(c.mu++e.mu))))&&decide (items.length<sizeLine))=true then(match bB fr (g.mu++(c.mu++e.mu)) g c e items ρ1 []with
  | some (ts,ρ2)=>some (⟨.ow,bz ts⟩,ρ2)
  | none=>none)else none
 | none=>none,it.mu++muF fr (g.mu++(c.mu++e.mu))⟩
theorem lf {wi:TI}{fr:List (Option Nat)}{g:TG}{tc:TT}{te:TE}{it:MI}{mg:MG}{c:MT}{e:ME}(hi:jH K wi it)(hgk:fE fr g)(hg:g9 K g mg)(hc:dO K tc c)(he:aU K te e):aU K (rV wi fr g tc te) (aQ fr it mg c e):=by
 intro Γ H ρ Z E Q r ρ' hK hr S q
 simp only[aQ]at hr q
 split at hr
 ·rename_i srcs items ρ1 e1
  split at hr
  ·rename_i hb
   simp only[By,decide_eq_true_eq]at hb
   obtain⟨⟨⟨b1,b2⟩,b3⟩,b5⟩:=hb
   split at hr
   ·rename_i ts ρ2 e2
    cases hr
    refine hi Γ H ρ Z E _ srcs items ρ1 hK e1 S λJ vs H1 hlv S1 wk=>?_
    rw[←af]at q
    generalize ae it.mu E=E1 at q S1
    have ks:∀e'∈ens vs srcs,az (muF fr (mg.mu++(c.mu++e.mu))) e'=true:=hW b3
    have S2:=S1.weak (muF fr (mg.mu++(c.mu++e.mu)))
    rw[aD,cB ks]at S2
    have kE:=dl (M:=muF fr (mg.mu++(c.mu++e.mu))) (N:=muF fr (mg.mu++(c.mu++e.mu))) (λj hj=>hj) E1
    generalize ae (muF fr (mg.mu++(c.mu++e.mu))) E1=E2 at q S2 kE
    refine nL (acc0:=[]) (ts0:=[]) hK wk hgk hg hc he rfl (pR b2) ks kE rfl (by simpa using b5) b1 S2 e2 λacc H' hl _ _ S3 d hd=>?_
    exact q _ _ (S3.drops.mkL hl hd)
   ·cases hr
  ·cases hr
 ·cases hr
end
section
variable  {Γ:Gm}{H H':Hp}{L:List Hd}{ρ:Rho}{Z:St}{E X:List En}{v w x y:V}{t s:T}{K:yF}{Q:VK}
theorem GW.stepN {hs ns:List Hd}(G:GW Γ H (hs++L))(ho:∀h∈hs,h.e.r.k.isOw=true)(hr:∀g∈L,∀h∈hs,∀j,h.e.key=some j->g.e.r.k.root≠some j)
  (off:OffM (hs.flatMap (·.F)) H H') (dom:∀a∈hs.flatMap (·.F),∃o,H' a=some o) (nd:(ns.flatMap (·.F)).Nodup) (hF:∀a∈ns.flatMap (·.F),(a∈hs.flatMap (·.F)∨H a=none)/\Mu H' a) (hp:∀n∈ns,Rp Γ.K H' n.e.r.t n.e.v n.F)
  (hk:∀n∈ns,(n.e.r.k=.ow/\∀a∈n.F,H a=none ∨ ∃h∈hs,h.e.r.k=.ow/\a∈h.F) ∨ ∃k,n.e.r.k=.io k/\Γ.iov[k]?=some n.e.v) (hkey:((ns++L).filterMap λh=>h.e.key).Nodup):GW Γ H' (ns++L):=by
 have iow:∀n∈ns,n.e.r.k.isOw=true:=λn hn=>by rcases hk n hn with⟨e,_⟩|⟨k,e,_⟩<;>rw[e]<;>rfl
 have eo:=em ho
 have en:=em iow
 have G':=G.nd
 rw[BH,eo]at G'
 have nd1:=(Bx.mp G').2.1
 have dj:=(Bx.mp G').2.2
 have adL:∀a∈L.flatMap Hd.own,Mu H a/\(Γ.H0 a=none∨a ∈ Γ.io):=λa ha=>G.ad a (by rw[BH];exact yaR _ ha)
 have adM:∀a∈hs.flatMap (·.F),Mu H a/\(Γ.H0 a=none∨a ∈ Γ.io):=λa ha=>G.ad a (by rw[BH,eo];exact yaL _ ha)
 have ap:=G.apart hr ho
 have apM:∀g∈L,∀a∈g.F,a∉hs.flatMap (·.F):=λg hg a ha hm=>by
  obtain⟨h,hh,hah⟩:=Ci.mp hm
  exact ap g hg a ha h hh hah
 refine⟨?_,λa ha=>?_,λx hx=>?_,λx hx=>?_,hkey,λb o e n=>?_,λa ha=>?_⟩
 ·rw[BH,en]
  refine Bx.mpr ⟨nd,nd1,λa ha b hb=>?_⟩
  rintro rfl
  rcases(hF a ha).1 with z|z
  ·exact dj a z a hb rfl
  ·obtain⟨o,e,_⟩:=(adL a hb).1
   rw[z]at e;cases e
 ·rw[BH,en]at ha
  rcases yaM ha with ha|ha
  ·refine⟨(hF a ha).2,?_⟩
   rcases(hF a ha).1 with z|z
   ·exact(adM a z).2
   ·exact .inl (G.new0 z)
  ·obtain⟨⟨o,e,m⟩,z⟩:=adL a ha
   exact⟨⟨o,off a o e λhm=>dj a hm a ha rfl,m⟩,z⟩
 ·rcases yaM hx with hx|hx
  ·exact hp x hx
  ·exact(G.rp x (yaR _ hx)).off off (λa ha=>(adM a ha).1) (apM x hx)
 ·rcases yaM hx with hx|hx
  ·unfold KdOk
   rcases hk x hx with⟨e,eh⟩|⟨k,e,ek⟩
   ·simp only[e]
    intro a ha
    rcases eh a ha with z|⟨h,hh,he,hah⟩
    ·exact G.new0 z
    ·have q:=G.kd h (yaL _ hh)
     unfold KdOk at q
     rw[he]at q
     exact q a hah
   ·simp only[e];exact ek
  ·have k:=G.kd x (yaR _ hx)
   have st:∀a∈x.F,a∉(hs++L).flatMap Hd.own->a∉(ns++L).flatMap Hd.own:=λa ha n z=>by
    rw[BH,en]at z
    rcases yaM z with z|z
    ·rcases(hF a z).1 with w|w
     ·exact n (by rw[BH,eo];exact yaL _ w)
     ·obtain⟨o,e⟩:=(G.rp x (yaR _ hx)).dom a ha
      rw[w]at e;cases e
    ·exact n (by rw[BH];exact yaR _ z)
   unfold KdOk at k⊢
   split at k
   ·exact k
   ·exact k
   ·exact λa ha=>st a ha (k a ha)
   ·rename_i j p e
    obtain⟨g,h1,h2,h3,h4,h5⟩:=k
    rcases yaM h1 with hg|hg
    ·exact absurd (by rw[e];rfl) (hr x hx g hg j h2)
    ·refine⟨g,yaR _ hg,h2,h3,λa ha=>(h4 a ha).imp id (st a ha),λq hq=>⟨(h5 q hq).1,?_⟩⟩
     exact jN off (F:=g.F) (apM g hg) (G.muF (yaR _ hg) h3) (λa ha=>ha) (G.ndF (yaR _ hg) h3) (G.rp g (yaR _ hg)) (h5 q hq).1 (h5 q hq).2
 ·refine off b o (G.fr b o e n) λhm=>?_
  rcases(adM b hm).2 with z|z
  ·rw[z]at e;cases e
  ·exact n z
 ·obtain⟨o,e⟩:=G.iol a ha
  by_cases hm:a∈hs.flatMap (·.F)
  ·exact dom a hm
  ·exact⟨o,off a o e hm⟩
theorem GW.uniq (g:GW Γ H L){x z:Hd}{i:Nat}(x1:x∈L)(hz:z∈L)(x2:x.e.key=some i)(z2:z.e.key=some i):x=z:=by
 have nk:=g.ks
 by_cases q:x=z
 ·exact q
 ·exfalso
  obtain⟨A,B,rfl⟩:=Da x1
  rw[CF,BP,x2]at nk
  rcases yaM hz with hz|hz
  ·exact(Bx.mp nk).2.2 i (B2.mpr ⟨z,hz,z2⟩) i ymS rfl
  ·rcases ycM hz with hz|hz
   ·exact q hz.symm
   ·exact(BS.mp (Bx.mp nk).2.1).1 (B2.mpr ⟨z,hz,z2⟩)
theorem Sim.place {i:Nat}{p:List Ac}{r:R}{v0:V}(S:Sim Γ H ρ Z E)(he:(⟨none,w,⟨.vw (some i) (some p),s⟩⟩:En)∈E)(h : ρ[i]?=some (some r))(hv:Z[i]?=some (some v0)):r.t.sub p=some s/\atP Γ.K H v0 p w:=by
 obtain⟨v1,hv1,hm⟩:=S.slot h
 rw[hv]at hv1;cases hv1
 obtain⟨L,g,e⟩:=S.sl
 have h1:(⟨none,w,⟨.vw (some i) (some p),s⟩⟩:En)∈L.map (·.e):=by rw[e];exact yaL _ he
 obtain⟨y,hy,ey⟩:=BB.mp h1
 have kd:=g.kd y hy
 unfold KdOk at kd
 rw[ey]at kd
 obtain⟨x,x1,x2,x3,x4,x5⟩:=kd
 have hm':(⟨some i,v0,r⟩:En)∈L.map (·.e):=by rw[e];exact hm
 obtain⟨z,hz,ez⟩:=BB.mp hm'
 have:=g.uniq x1 hz x2 (by rw[ez])
 subst this
 have:=x5 p rfl
 rw[ez]at this
 exact this
theorem SimL.dropsN:∀{A X:List En},SimL Γ H (A++X)->(∀e∈A,e.key=none)->SimL Γ H X
 | [],_,S,_=>S
 | a::A,X,S,h=>SimL.dropsN (SimL.drop S (h a ymS)) λe he=>h e (ymC _ he)
theorem jU:∀{vs:List V} {rs:List R} {m:Nat} {r:R} {x:V},rs[m]?=some r->vs[m]?=some x->(⟨none,x,r⟩:En)∈ens vs rs
 | [],_,m,_,_,_,h=>by simp at h
 | _::_,[],m,_,_,h,_=>by simp at h
 | v::vs,r0::rs,0,r,x,h1,h2=>by simp at h1 h2;subst h1 h2;exact ymS
 | v::vs,r0::rs,m+1,r,x,h1,h2=>ymC _ (jU (by simpa using h1) (by simpa using h2))
theorem mK:∀{vs:List V} {rs:List R} {e:En},e∈ens vs rs->e.key=none
 | [],rs,e,h=>by cases rs<;>cases h
 | _::_,[],e,h=>by cases h
 | v::vs,r::rs,e,h=>by
  rcases ycM h with rfl|h
  ·rfl
  ·exact mK h
theorem Sim.io {vs:List V}{rs:List R}{k i:Nat}{p:List Ac}{kd:Kd}{t0:T}(S:Sim Γ H ρ Z (ens vs rs++E))(hk:rs[k]?=some ⟨.vw (some i) (some p),s⟩)(hw:vs[k]?=some w)(hal:∀m r,m≠k->rs[m]?=some r->aC [i] r=true)(h : ρ[i]?=some (some ⟨kd,t0⟩))(ho:kd.isOw=true) :
  ∃G,Rp Γ.K H s w G/\G.Nodup/\(∀a∈G,Mu H a)/\(∀m r x,m≠k->rs[m]?=some r->vs[m]?=some x->∃F,Rp Γ.K H r.t x F/\∀a∈F,a∉G) ∧
  ∀H' s' v t F G',OffM G H H'->(∀a∈G,∃o,H' a=some o)->(F++G').Nodup->(∀a∈F,H a=none/\Mu H' a)->(∀a∈G',(a∈G∨H a=none)/\Mu H' a)->Rp Γ.K H' s' w G'->Rp Γ.K H' t v F->Sim Γ H' ((ao [i] ρ).set i (some ⟨kd,t0.put p s'⟩)) Z (⟨none,v,⟨.ow,t⟩⟩::ae [i] E):=by
 have hil:i < ρ.length:=(Bs.mp h).1
 obtain⟨v0,hv0,h1,h2,h3⟩:=S.out h ho
 have pl:=S.place (yaL _ (jU hk hw)) h hv0
 obtain⟨L,g,eL⟩:=h1
 obtain⟨x,L',rfl,ex,eL'⟩:=aA eL
 have hox:x.e.r.k.isOw=true:=by rw[ex];exact ho
 have nx:=g.ndF ymS hox
 have mx:=g.muF ymS hox
 have hsub:x.e.r.t.sub p=some s:=by rw[ex];exact pl.1
 obtain⟨w',A,G,B,z1,z2,z3,z4⟩:=(g.rp x ymS).atP mx nx hsub
 have ew:w'=w:=by rw[ex]at z1;exact fG z1 pl.2
 subst ew
 have inG:∀a∈G,a∈x.F:=λa ha=>by rw[z3];exact yaL _ (yaR _ ha)
 have ndx:=nx
 rw[z3]at ndx
 have ndA:=Bx.mp ndx
 have ndG:=Bx.mp ndA.1
 have keyL:∀g∈L',g.e.key≠some i:=λy hy=>h3 y.e (by rw[←eL'];exact BW hy)
 have rootL:∀g∈L',g.e.r.k.root≠some i:=λy hy=>h2 y.e (by rw[←eL'];exact BW hy)
 have ap:=GW.apart (hs:=[x]) (L:=L') g (λy hy z hz j hj=>by rw[ysM hz,ex]at hj;cases hj;exact rootL y hy) (λz hz=>by rw[ysM hz];exact hox)
 refine⟨G,z2,ndG.2.1,λa ha=>mx a (inG a ha),λm r y hm hr hy=>?_,λH' s' v t F G' off dom nd hF hG rp' rpt=>?_⟩
 ·have hmem:(⟨none,y,r⟩:En)∈ae [i] (ens vs rs++E):=BC.mpr ⟨yaL _ (jU hr hy),hal m r hm hr⟩
  have hmem2:(⟨none,y,r⟩:En)∈L'.map (·.e):=by rw[eL'];exact yaL _ hmem
  obtain⟨z,hz,ez⟩:=BB.mp hmem2
  have rz:=g.rp z (ymC _ hz)
  rw[ez]at rz
  exact⟨z.F,rz,λa ha hg=>ap z hz a ha x ymS (inG a hg)⟩
 ·have apAB:∀a,(a∈A∨a∈B)->a∉G:=λa ha hm=>by
   rcases ha with q|q
   ·exact ndG.2.2 a q a hm rfl
   ·exact ndA.2.2 a (yaR _ hm) a q rfl
  have inAB:∀a,(a∈A∨a∈B)->a∈x.F:=λa ha=>by
   rw[z3]
   rcases ha with q|q
   ·exact yaL _ (yaL _ q)
   ·exact yaR _ q
  have rp2:=z4 H' s' G' off rp'
  have nFG:=Bx.mp nd
  have oldAB:∀a,(a∈A∨a∈B)->H a≠none:=λa ha z=>by obtain⟨o,e1,_⟩:=mx a (inAB a ha);rw[z]at e1;cases e1
  have nG':∀a,(a∈A∨a∈B)->a∉G':=λa ha hg=>by
   rcases(hG a hg).1 with z|z
   ·exact apAB a ha z
   ·exact oldAB a ha z
  have ndR:(A++G'++B).Nodup:=by
   refine Bx.mpr ⟨Bx.mpr ⟨ndG.1,nFG.2.1,λa ha b hb e=>nG' a (.inl ha) (e▸hb)⟩,ndA.2.1,λa ha b hb e=>?_⟩
   subst e
   rcases yaM ha with z|z
   ·exact ndA.2.2 a (yaL _ z) a hb rfl
   ·exact nG' a (.inr hb) z
  have memR:∀a∈A++G'++B,(a∈x.F∨H a=none)/\Mu H' a:=λa ha=>by
   have old:a∈A∨a∈B->(a∈x.F∨H a=none)/\Mu H' a:=λq=>by
    obtain⟨o,e1,m1⟩:=mx a (inAB a q)
    exact⟨.inl (inAB a q),o,off a o e1 (apAB a q),m1⟩
   rcases yaM ha with z|z
   ·rcases yaM z with z|z
    ·exact old (.inl z)
    ·exact⟨(hG a z).1.imp (inG a) id,(hG a z).2⟩
   ·exact old (.inr z)
  have st:=GW.stepN (hs:=[x]) (L:=L') (H':=H') (ns:=[⟨⟨none,v,⟨.ow,t⟩⟩,F⟩,⟨⟨some i,v0,⟨kd,t0.put p s'⟩⟩,A++G'++B⟩]) g (λz hz=>by rw[ysM hz];exact hox) (λy hy z hz j hj=>by rw[ysM hz,ex]at hj;cases hj;exact rootL y hy)
   (by simpa using off.mono inG) (λa ha=>by
    have ha':a∈x.F:=by simpa using ha
    by_cases hg:a∈G
    ·exact dom a hg
    ·obtain⟨o,e1,_⟩:=mx a ha';exact⟨o,off a o e1 hg⟩)
   (by
    simp only[BE,Ee,B4]
    refine Bx.mpr ⟨nFG.1,ndR,λa ha b hb e=>?_⟩
    subst e
    rcases yaM hb with z|z
    ·rcases yaM z with z|z
     ·exact oldAB a (.inl z) (hF a ha).1
     ·exact nFG.2.2 a ha a z rfl
    ·exact oldAB a (.inr z) (hF a ha).1)
   (λa ha=>by
    simp only[BE,Ee,B4]at ha⊢
    rcases yaM ha with z|z
    ·exact⟨.inr (hF a z).1,(hF a z).2⟩
    ·exact memR a z)
   (λn hn=>by
    rcases ycM hn with rfl|hn
    ·exact rpt
    ·rw[ysM hn];rw[ex]at rp2;exact rp2)
   (λn hn=>by
    rcases ycM hn with rfl|hn
    ·exact .inl ⟨rfl,λa ha=>.inl (hF a ha).1⟩
    ·rw[ysM hn]
     have kx:=g.kd x ymS
     unfold KdOk at kx
     rw[ex]at kx
     cases kd with
     | ow=>exact .inl ⟨rfl,λa ha=>(memR a ha).1.elim (λz=>.inr ⟨x,ymS,by rw[ex],z⟩) .inl⟩
     | io n=>exact .inr ⟨n,rfl,kx⟩
     | vw a b=>cases ho)
   (by
    have ks:=g.ks
    rw[BP,ex]at ks
    exact ks)
  have S2:=S.kill [i]
  have SL:SimL Γ H' (⟨none,v,⟨.ow,t⟩⟩::⟨some i,v0,⟨kd,t0.put p s'⟩⟩::(ae [i] (ens vs rs++E)++au 0 Z ((ao [i] ρ).set i none))):=⟨_,st,by rw[BL,eL'];rfl⟩
  have SL2:SimL Γ H' (⟨none,v,⟨.ow,t⟩⟩::⟨some i,v0,⟨kd,t0.put p s'⟩⟩::(ae [i] E++au 0 Z ((ao [i] ρ).set i none))):=by
   rw[aD,BK]at SL
   have pp:(⟨none,v,⟨.ow,t⟩⟩::⟨some i,v0,⟨kd,t0.put p s'⟩⟩::(ae [i] (ens vs rs)++(ae [i] E++au 0 Z ((ao [i] ρ).set i none)))).Perm (ae [i] (ens vs rs)++(⟨none,v,⟨.ow,t⟩⟩::⟨some i,v0,⟨kd,t0.put p s'⟩⟩::(ae [i] E++au 0 Z ((ao [i] ρ).set i none)))):=by
    refine List.Perm.trans ?_ (BZ.symm)
    refine List.Perm.cons _ ?_
    exact BZ.symm
   exact(SL.perm pp).dropsN λe he=>mK (BC.mp he).1
  refine S2.back (E':=⟨none,v,⟨.ow,t⟩⟩::ae [i] E) (SL2.perm ?_) (by simp[aB]) rfl (λm r' hm=>?_) (λe he j hj=>?_)
  ·have pq:=(dR (k:=0) (Z:=Z) (ρ:=ao [i] ρ) (v:=v0) (r:=⟨kd,t0.put p s'⟩) (by rw[S.len];exact hil) (by rw[aB];exact hil)).append_left (ae [i] E)
   rw[Cb]at pq
   have eZ:Z.set i (some v0)=Z:=by
    apply C0
    intro m
    by_cases hm:m=i
    ·subst hm;rw[hv0];simp[S.len,hil]
    ·rw[BJ (Ne.symm hm)]
   rw[eZ]at pq
   rw[BV]
   exact List.Perm.cons _ ((BZ.symm).trans pq.symm)
  ·by_cases e:m=i
   ·subst e;exact⟨v0,hv0⟩
   ·rw[BJ (Ne.symm e)]at hm;exact S2.al m r' hm
  ·rcases ycM he with rfl|he
   ·cases hj
   ·rw[aD];exact yaR _ he
def spP (K:yF)(run:List T->Option T):Sp:=λvs H Q _=>∃ts t,Rpxs K H ts vs/\run ts=some t/\∀v H',New K H H' t v->Q v H'
def spI (K:yF)(k:Nat)(run:List T->Option (T×T)):Sp:=λvs H Q _=>∃ts s w G t s',vs.length=ts.length/\vs[k]?=some w/\ts[k]?=some s/\Rp K H s w G/\G.Nodup/\(∀a∈G,Mu H a)/\(∀(m:Nat) x u,m≠k->vs[m]?=some x->ts[m]?=some u->∃F,Rp K H u x F/\∀a∈F,a∉G)/\run ts=some (t,s') ∧
 ∀v H' F G',OffM G H H'->(∀a∈G,∃o,H' a=some o)->(F++G').Nodup->(∀a∈F,H a=none/\Mu H' a)->(∀a∈G',(a∈G∨H a=none)/\Mu H' a)->Rp K H' s' w G'->Rp K H' t v F->Q v H'
theorem oK {run:List T->Option T}{ta:TA}{a:MA}(ha:dP K ta a):aU K (jC (spP K run) [] E0 ta) (mB run a):=by
 have e:jC (spP K run) [] E0 ta=tCB (λvs H Q=>spP K run vs H Q E0) ta:=by
  funext Z H Q
  show(ta Z H λvs H1=>spP K run (vs++[]) H1 Q E0)=_
  simp only[B4]
  rfl
 rw[e]
 exact nc (λH vs ts t Q r e q=>⟨ts,t,r,e,q⟩) ha
@[irreducible] noncomputable def aj (k j:Nat)(run:List T->Option (T×T))(a:MA):ME:=⟨λρ=>match a.run ρ with
 | some (rs,ρ1)=>(match rs[k]? with
  | some ⟨.vw (some i) (some p),_⟩=>if(decide (i=j)&&(B1 rs.length).all λm=>decide (m=k)||aC [j] (rs.getD m ⟨.ow,.im .non⟩))=true then(match run (rs.map (·.t))with
   | some (t,s')=>(match ρ1[j]? with
    | some (some ⟨kd,t0⟩)=>if kd.isOw=true then some (⟨.ow,t⟩,(ao [j] ρ1).set j (some ⟨kd,t0.put p s'⟩))else none
    | _=>none)
   | none=>none)else none
  | _=>none)
 | none=>none,a.mu++[j]⟩
theorem oJ {k j:Nat}{run:List T->Option (T×T)}{ta:TA}{a:MA}(ha:dP K ta a):aU K (jC (spI K k run) [] E0 ta) (aj k j run a):=by
 intro Γ H ρ Z E Q r ρ' hK hr S q
 show ta Z H λvs H1=>spI K k run (vs++[]) H1 Q E0
 simp only[B4]
 simp only[aj]at hr q
 split at hr
 ·rename_i rs ρ1 e1
  split at hr
  ·rename_i i p s e2
   split at hr
   ·rename_i hb
    rw[By,decide_eq_true_eq]at hb
    obtain⟨rfl,hal⟩:=hb
    split at hr
    ·rename_i t s' e3
     split at hr
     ·rename_i kd t0 e4
      split at hr
      ·rename_i ho
       cases hr
       refine ha Γ H ρ Z E _ rs ρ1 hK e1 S λvs H1 hl S1=>?_
       have hkl:k<rs.length:=(Bs.mp e2).1
       obtain⟨w,hw⟩:∃w,vs[k]?=some w:=⟨vs[k],by simp[hl,hkl]⟩
       have hal':∀m r,m≠k->rs[m]?=some r->aC [i] r=true:=λm r hm hr=>by
        have hml:=(Bs.mp hr).1
        have:=Ch.mp hal m (C1.mpr hml)
        rw[BO,hr]at this
        simpa[hm]using this
       obtain⟨G,g1,g2,g3,g4,g5⟩:=S1.io e2 hw hal' e4 ho
       rw[hK]at g1
       refine⟨rs.map (·.t),s,w,G,t,s',by rw[Bw,hl],hw,by rw[BD,e2];rfl,g1,g2,g3,λm x u hm hx hu=>?_,e3,λv H' F G' a1 a2 a3 a4 a5 a6 a7=>q v H' ?_⟩
       ·rw[BD]at hu
        cases hr:rs[m]? with
        | none=>rw[hr]at hu;cases hu
        | some r=>
         rw[hr]at hu;cases hu
         have:=g4 m r x hm hr hx
         rw[hK]at this
         exact this
       ·rw[←hK]at a6 a7
        have:=g5 H' s' v t F G' a1 a2 a3 a4 a5 a6 a7
        rw[af]at this
        exact this
      ·cases hr
     ·cases hr
    ·cases hr
   ·cases hr
  ·cases hr
 ·cases hr
noncomputable def roR:T->R
 | .im i=>⟨.ow,.im i⟩
 | t=>⟨.vw none none,t⟩
noncomputable def bY (ts:List T) (n:Nat):Rho:=(ts.map λt=>some (roR t))++Bu (n-ts.length) none
theorem fo:∀(k n m:Nat),au k (Bu n none) (Bu m none)=[]
 | _,0,_=>rfl
 | _,n+1,0=>rfl
 | k,n+1,m+1=>by simp only[BY,au];exact fo (k+1) n m
theorem ni {H0:Hp}{io:List Addr}{iov:List V}(n m:Nat):∀{ts:List T} {vs:List V} {k:Nat},Rpxs K H ts vs->∃L:List Hd,L.map (·.e)=au k (vs.map some++Bu n none) ((ts.map λt=>some (roR t))++Bu m none)/\L.flatMap Hd.own=[]/\(∀h∈L,Rp K H h.e.r.t h.e.v h.F)/\(∀h∈L,(h.e.r.k=.ow/\h.F=[])∨h.e.r.k=.vw none none)
 | [],vs,k,r=>by
  rw[Rpxs]at r;subst r
  exact⟨[],by simp[fo],rfl,by simp,by simp⟩
 | t::ts,vs,k,r=>by
  obtain⟨v,vr,rfl,⟨F,r1⟩,r2⟩:=r
  obtain⟨L,h1,h2,h3,h4⟩:=ni (H0:=H0) (io:=io) (iov:=iov) n m (k:=k+1) r2
  have hroR:∃F',Rp K H (roR t).t v F'/\(((roR t).k=.ow/\F'=[])∨(roR t).k=.vw none none):=by
   cases t with
   | im i=>exact⟨[],ff (aZ r1).1,.inl ⟨rfl,rfl⟩⟩
   | _=>exact⟨F,r1,.inr rfl⟩
  obtain⟨F',g1,g2⟩:=hroR
  refine⟨⟨⟨some k,v,roR t⟩,F'⟩::L,by simp[au,h1],?_,λh hh=>?_,λh hh=>?_⟩
  ·rw[BE,h2,B4]
   unfold Hd.own
   rcases g2 with⟨e,rfl⟩|e
   ·simp
   ·rw[show(⟨⟨some k,v,roR t⟩,F'⟩:Hd).e.r.k=(roR t).k from rfl,e];rfl
  ·rcases ycM hh with rfl|hh
   ·exact g1
   ·exact h3 h hh
  ·rcases ycM hh with rfl|hh
   ·rcases g2 with⟨e,rfl⟩|e
    ·exact .inl ⟨e,rfl⟩
    ·exact .inr e
   ·exact h4 h hh
theorem Rpxs.length:∀{ts:List T} {vs:List V},Rpxs K H ts vs->vs.length=ts.length
 | [],vs,r=>by rw[Rpxs]at r;subst r;rfl
 | t::ts,vs,r=>by obtain⟨v,vr,rfl,_,r2⟩:=r;rw[BF,BF,Rpxs.length r2]
theorem ll {ts:List T}{vs:List V}{n m:Nat}(hl:vs.length=ts.length)(i:Nat)(r:R)(h:((ts.map λt=>some (roR t))++Bu m none)[i]?=some (some r)):∃v,(vs.map some++Bu n none)[i]?=some (some v):=by
 have hi:i<ts.length:=by
  by_cases e:i<ts.length
  ·exact e
  ·rw[Cm (by simp;omega),Dw]at h
   split at h<;>cases h
 refine⟨vs[i],?_⟩
 rw[Ca (by simp;omega),BD]
 simp[hl,hi]
theorem mL {k:Nat}:((au k Z ρ).filterMap λe=>e.key).Nodup:=by
 have:=jV (k:=k) (Z:=Z) (ρ:=ρ)
 refine List.Pairwise.filterMap (R:=λa b=>∃i j,a.key=some i/\b.key=some j/\i<j) (λe:En=>e.key) (λa a' ⟨i,j,h1,h2,h3⟩ b hb b' hb'=>?_) this
 rw[h1]at hb;rw[h2]at hb'
 cases hb;cases hb'
 omega
theorem uK {ts:List T}{vs:List V}{N:List Str}(r:Rpxs K H ts vs):Sim ⟨K,H,[],[]⟩ H (bY ts N.length) (bi N vs) []:=by
 obtain⟨L,h1,h2,h3,h4⟩:=ni (H0:=H) (io:=[]) (iov:=[]) (N.length-vs.length) (N.length-ts.length) (k:=0) r
 refine⟨⟨L,⟨by rw[h2];exact CD,by rw[h2];simp,h3,λh hh=>?_,?_,λb o e _=>e,by simp⟩,by rw[h1];rfl⟩,λi r' h=>ll r.length i r' h,?_,by simp⟩
 ·unfold KdOk
  rcases h4 h hh with⟨e,eF⟩|e
  ·rw[e,eF];simp
  ·rw[e,h2];simp
 ·have:(L.filterMap λh=>h.e.key)=(L.map (·.e)).filterMap λe=>e.key:=by rw[C9];rfl
  rw[this,h1]
  exact mL
 ·simp[bi,bY,r.length]
noncomputable def fY (m:MS) (n:Nat) (ts:List T):Option T:=match m.run (bY ts n)with
 | some (.rt t,_)=>some t
 | some (.nx,_)=>some (.im .non)
 | _=>none
theorem vc {H0:Hp}(S:Sim ⟨K,H0,[],[]⟩ H' ρ Z [⟨none,v,⟨.ow,t⟩⟩]):New K H0 H' t v:=by
 obtain⟨L,g,e⟩:=S.sl
 obtain⟨x,L',rfl,ex,_⟩:=aA e
 have rp:=g.rp x ymS
 rw[ex]at rp
 have kd:=g.kd x ymS
 unfold KdOk at kd
 rw[ex]at kd
 have ho:x.e.r.k.isOw=true:=by rw[ex];rfl
 exact⟨λb o h=>g.fr b o h (by simp),x.F,rp,g.ndF ymS ho,λa ha=>⟨kd a ha,g.muF ymS ho a ha⟩⟩
theorem Def.mp {P:Program}{W:World}{mg:Str->Option Value}{base:Heap}{k:Nat}{name:Str}{st:Stmt}{N ps:List Str}(d:Def K mg name st ps)(S:FnScope N ps (ak st)){m:MS}
  (hbody:∀(f:Addr) (cdv:Value) (A:Around) (outer:List Env) (s:Shared) (H:Hp) (E:XK),Room k (A.deeper (envOfC name (ak st) s.heap.objs.size f cdv))->yX (iW CX0 P W K mg base N name (ak st) f cdv A outer s H E).nox (bc st) m)
  {run:List T->Option T} (hrun:∀ts,run ts=if ts.length=ps.length then fY m N.length ts else none):Has P W K mg base (k+1) name ps (spP K run):=by
 refine d.has S (λvs H Q E h=>?_) (λf cdv A outer s H vs Q E hr h=>?_)
 ·obtain⟨ts,t,r,e,_⟩:=h
  rw[hrun]at e
  split at e
  ·rename_i hl;rw[r.length,hl]
  ·cases e
 ·obtain⟨ts,t,r,e,q⟩:=h
  rw[hrun]at e
  split at e
  ·obtain⟨tS,p1,p2⟩:=hbody f cdv A outer s H E hr
   refine⟨tS,p1,?_⟩
   have S0:=uK (N:=N) r
   unfold fY at e
   split at e
   ·rename_i t0 ρ' e1
    cases e
    exact p2 ⟨K,H,[],[]⟩ H _ _ [] _ _ ρ' rfl (by simp) e1 S0 λv Z' H' S1=>q v H' (vc S1)
   ·rename_i ρ' e1
    cases e
    exact p2 ⟨K,H,[],[]⟩ H _ _ [] _ .nx ρ' rfl (by simp) e1 S0 λZ' H' S1=>q .non H' (vc (S1.imm bM))
   ·cases e
  ·cases e
noncomputable def dA (k:Nat) (ts:List T) (n:Nat):Rho:=(bY ts n).set k (some ⟨.io 0,ts.getD k (.im .non)⟩)
noncomputable def cY (m:MS) (k n:Nat) (ts:List T):Option (T×T):=match m.run (dA k ts n)with
 | some (.rt t,ρ')=>(match ρ'[k]? with
  | some (some ⟨.io 0,s'⟩)=>some (t,s')
  | _=>none)
 | some (.nx,ρ')=>(match ρ'[k]? with
  | some (some ⟨.io 0,s'⟩)=>some (.im .non,s')
  | _=>none)
 | _=>none
theorem lj {G:List Addr}(n m:Nat):∀{ts:List T} {vs:List V} {k:Nat},vs.length=ts.length->(∀(i:Nat) x u,vs[i]?=some x->ts[i]?=some u->∃F,Rp K H u x F/\∀a∈F,a∉G)->∃L:List Hd,L.map (·.e)=au k (vs.map some++Bu n none) ((ts.map λt=>some (roR t))++Bu m none)/\L.flatMap Hd.own=[]/\(∀h∈L,Rp K H h.e.r.t h.e.v h.F/\∀a∈h.F,a∉G)/\(∀h∈L,(h.e.r.k=.ow/\h.F=[])∨h.e.r.k=.vw none none)
 | [],[],k,_,_=>⟨[],by simp[fo],rfl,by simp,by simp⟩
 | t::ts,v::vs,k,hl,r=>by
  obtain⟨F,r1,r1'⟩:=r 0 v t rfl rfl
  obtain⟨L,h1,h2,h3,h4⟩:=lj (G:=G) n m (ts:=ts) (vs:=vs) (k:=k+1) (by simpa using hl) (λi x u hx hu=>r (i+1) x u (by simpa using hx) (by simpa using hu))
  have hroR:∃F',Rp K H (roR t).t v F'/\(∀a∈F',a∉G)/\(((roR t).k=.ow/\F'=[])∨(roR t).k=.vw none none):=by
   cases t with
   | im i=>exact⟨[],ff (aZ r1).1,by simp,.inl ⟨rfl,rfl⟩⟩
   | _=>exact⟨F,r1,r1',.inr rfl⟩
  obtain⟨F',g1,g1',g2⟩:=hroR
  refine⟨⟨⟨some k,v,roR t⟩,F'⟩::L,by simp[au,h1],?_,λh hh=>?_,λh hh=>?_⟩
  ·rw[BE,h2,B4]
   unfold Hd.own
   rcases g2 with⟨e,rfl⟩|e
   ·simp
   ·rw[show(⟨⟨some k,v,roR t⟩,F'⟩:Hd).e.r.k=(roR t).k from rfl,e];rfl
  ·rcases ycM hh with rfl|hh
   ·exact⟨g1,g1'⟩
   ·exact h3 h hh
  ·rcases ycM hh with rfl|hh
   ·rcases g2 with⟨e,rfl⟩|e
    ·exact .inl ⟨e,rfl⟩
    ·exact .inr e
   ·exact h4 h hh
 | [],_::_,_,h,_=>by cases h
 | _::_,[],_,h,_=>by cases h
theorem uJ {ts:List T}{vs:List V}{N:List Str}{k:Nat}{G:List Addr}(hl:vs.length=ts.length)(hw:vs[k]?=some w)(hs:ts[k]?=some s)(rp:Rp K H s w G)(nd:G.Nodup)(mu:∀a∈G,Mu H a)(ro:∀(m:Nat) x u,m≠k->vs[m]?=some x->ts[m]?=some u->∃F,Rp K H u x F/\∀a∈F,a∉G):Sim ⟨K,H,G,[w]⟩ H (dA k ts N.length) (bi N vs) []:=by
 have hkl:k<ts.length:=(Bs.mp hs).1
 have hl':(vs.set k .non).length=(ts.set k (.im .non)).length:=by simp[hl]
 obtain⟨L,h1,h2,h3,h4⟩:=lj (K:=K) (H:=H) (G:=G) (N.length-vs.length) (N.length-ts.length) (ts:=ts.set k (.im .non)) (vs:=vs.set k .non) (k:=0) hl' (λm x u hx hu=>by
  by_cases e:m=k
  ·subst e
   simp[hl,hkl]at hx hu
   subst hx hu
   exact⟨[],ff bM,by simp⟩
  ·rw[BJ (Ne.symm e)]at hx hu
   exact ro m x u e hx hu)
 have eZ:(vs.set k .non).map some++Bu (N.length-vs.length) none=(bi N vs).set k (some .non):=by
  unfold bi
  rw[DT _ _ (by simp[hl,hkl]),DJ]
 have eρ:((ts.set k (.im .non)).map λt=>some (roR t))++Bu (N.length-ts.length) none=(bY ts N.length).set k (some ⟨.ow,.im .non⟩):=by
  unfold bY
  rw[DT _ _ (by simp[hkl]),DJ]
  rfl
 rw[eZ,eρ]at h1
 have hkρ:k<(bY ts N.length).length:=by simp[bY];omega
 have hkZ:k<(bi N vs).length:=by simp[bi,hl];omega
 have p1:=dR (k:=0) (Z:=bi N vs) (ρ:=bY ts N.length) (v:=.non) (r:=⟨.ow,.im .non⟩) hkZ hkρ
 rw[Cb,←h1]at p1
 obtain⟨L2,pL,eL⟩:=jv p1 L rfl
 obtain⟨x,L3,rfl,ex,e3⟩:=aA eL
 have inL:∀h∈L3,h∈L:=λh hh=>pL.mem_iff.mpr (ymC _ hh)
 have own3:L3.flatMap Hd.own=[]:=by
  rw[DD]
  intro h hh
  rw[DD]at h2
  exact h2 h (inL h hh)
 have own1:((⟨⟨some k,w,⟨.io 0,s⟩⟩,G⟩:Hd)::L3).flatMap Hd.own=G:=by rw[BE,own3,B4];rfl
 have ht:ts.getD k (.im .non)=s:=by rw[BO,hs];rfl
 have eZ2:(bi N vs).set k (some w)=bi N vs:=by
  apply C0
  intro m
  by_cases hm:m=k
  ·subst hm
   rw[Cc hkZ]
   unfold bi
   rw[Ca (by simp[hl,hkl]),BD,hw];rfl
  ·rw[BJ (Ne.symm hm)]
 have p2:=dR (k:=0) (Z:=bi N vs) (ρ:=bY ts N.length) (v:=w) (r:=⟨.io 0,s⟩) hkZ hkρ
 rw[Cb,eZ2]at p2
 have gw:GW ⟨K,H,G,[w]⟩ H (⟨⟨some k,w,⟨.io 0,s⟩⟩,G⟩::L3):=by
  refine⟨by rw[own1];exact nd,λa ha=>by rw[own1]at ha;exact⟨mu a ha,.inr ha⟩,λh hh=>?_,λh hh=>?_,?_,λb o e _=>e,λa ha=>let ⟨o,e,_⟩:=mu a ha;⟨o,e⟩⟩
  ·rcases ycM hh with rfl|hh
   ·exact rp
   ·exact(h3 h (inL h hh)).1
  ·rcases ycM hh with rfl|hh
   ·rfl
   ·unfold KdOk
    rcases h4 h (inL h hh)with⟨e,eF⟩|e
    ·rw[e,eF];simp
    ·rw[e,own1];exact(h3 h (inL h hh)).2
  ·have e5:((⟨⟨some k,w,⟨.io 0,s⟩⟩,G⟩:Hd)::L3).filterMap (λh=>h.e.key)=(x::L3).filterMap λh=>h.e.key:=by rw[BP,BP,ex]
   rw[e5]
   have e6:((x::L3).filterMap λh=>h.e.key)=((x::L3).map (·.e)).filterMap λe=>e.key:=by rw[C9];rfl
   rw[e6,eL]
   have:=(p1.filterMap (λe:En=>e.key)).nodup_iff.mp (by rw[h1];exact mL)
   exact this
 refine⟨SimL.perm ⟨_,gw,rfl⟩ ?_,λi r' h=>?_,?_,by simp⟩
 ·rw[Bt,e3,Cf]
  unfold dA
  rw[ht]
  exact p2.symm
 ·unfold dA at h
  rw[ht]at h
  by_cases e:i=k
  ·subst e
   refine⟨w,?_⟩
   unfold bi
   rw[Ca (by simp[hl,hkl]),BD,hw];rfl
  ·rw[BJ (Ne.symm e)]at h
   exact ll hl i r' h
 ·simp[bi,dA,bY,hl]
theorem vb {H0:Hp}{G:List Addr}{w0:V}{k:Nat}{s':T}(S:Sim ⟨K,H0,G,[w0]⟩ H' ρ Z [⟨none,v,⟨.ow,t⟩⟩])(h : ρ[k]?=some (some ⟨.io 0,s'⟩)):∃F G',OffM G H0 H'/\(∀a∈G,∃o,H' a=some o)/\(F++G').Nodup/\(∀a∈F,H0 a=none/\Mu H' a)/\(∀a∈G',(a∈G∨H0 a=none)/\Mu H' a)/\Rp K H' s' w0 G'/\Rp K H' t v F:=by
 obtain⟨w,hw,hm⟩:=S.slot h
 obtain⟨L,g,e⟩:=S.sl
 rw[BV]at e hm
 obtain⟨x,L',rfl,ex,e2⟩:=aA e
 have hm':(⟨some k,w,⟨.io 0,s'⟩⟩:En)∈L'.map (·.e):=by
  rw[e2]
  rcases ycM hm with z|z
  ·cases z
  ·exact z
 obtain⟨y,hy,ey⟩:=BB.mp hm'
 have rpx:=g.rp x ymS
 rw[ex]at rpx
 have rpy:=g.rp y (ymC _ hy)
 rw[ey]at rpy
 have kx:=g.kd x ymS
 unfold KdOk at kx
 rw[ex]at kx
 have ky:=g.kd y (ymC _ hy)
 unfold KdOk at ky
 rw[ey]at ky
 have ew:w0=w:=by simpa using ky
 subst ew
 have hox:x.e.r.k.isOw=true:=by rw[ex];rfl
 have hoy:y.e.r.k.isOw=true:=by rw[ey];rfl
 refine⟨x.F,y.F,λb o hb n=>g.fr b o hb n,g.iol,?_,λa ha=>⟨kx a ha,g.muF ymS hox a ha⟩,λa ha=>?_,rpy,rpx⟩
 ·have nd:=g.nd
  rw[BE]at nd
  have nx:x.own=x.F:=by unfold Hd.own;rw[if_pos hox]
  rw[nx]at nd
  have nn:=Bx.mp nd
  exact Bx.mpr ⟨nn.1,g.ndF (ymC _ hy) hoy,λa ha b hb=>nn.2.2 a ha b (Ci.mpr ⟨y,hy,fU hoy hb⟩)⟩
 ·have:=g.ad a (Ci.mpr ⟨y,ymC _ hy,fU hoy ha⟩)
  exact⟨this.2.symm,this.1⟩
theorem Def.mi {P:Program}{W:World}{mg:Str->Option Value}{base:Heap}{k:Nat}{name:Str}{st:Stmt}{N ps:List Str}{j:Nat}(d:Def K mg name st ps)(S:FnScope N ps (ak st)){m:MS}
  (hbody:∀(f:Addr) (cdv:Value) (A:Around) (outer:List Env) (s:Shared) (H:Hp) (E:XK),Room k (A.deeper (envOfC name (ak st) s.heap.objs.size f cdv))->yX (iW CX0 P W K mg base N name (ak st) f cdv A outer s H E).nox (bc st) m)
  {run:List T->Option (T×T)} (hrun:∀ts,run ts=if ts.length=ps.length then cY m j N.length ts else none):Has P W K mg base (k+1) name ps (spI K j run):=by
 refine d.has S (λvs H Q E h=>?_) (λf cdv A outer s H vs Q E hr h=>?_)
 ·obtain⟨ts,s0,w,G,t,s',hl,_,_,_,_,_,_,e,_⟩:=h
  rw[hrun]at e
  split at e
  ·rename_i h2;rw[hl,h2]
  ·cases e
 ·obtain⟨ts,s0,w,G,t,s',hl,hw,hs,rp,nd,mu,ro,e,q⟩:=h
  rw[hrun]at e
  split at e
  ·obtain⟨tS,p1,p2⟩:=hbody f cdv A outer s H E hr
   refine⟨tS,p1,?_⟩
   have S0:=uJ (N:=N) hl hw hs rp nd mu ro
   unfold cY at e
   split at e
   ·rename_i t0 ρ' e1
    split at e
    ·rename_i s1 e2
     cases e
     refine p2 ⟨K,H,G,[w]⟩ H _ _ [] _ _ ρ' rfl (by simp) e1 S0 λv Z' H' S1=>?_
     obtain⟨F,G',a1,a2,a3,a4,a5,a6,a7⟩:=vb S1 e2
     exact q v H' F G' a1 a2 a3 a4 a5 a6 a7
    ·cases e
   ·rename_i ρ' e1
    split at e
    ·rename_i s1 e2
     cases e
     refine p2 ⟨K,H,G,[w]⟩ H _ _ [] _ .nx ρ' rfl (by simp) e1 S0 λZ' H' S1=>?_
     obtain⟨F,G',a1,a2,a3,a4,a5,a6,a7⟩:=vb (S1.imm bM) e2
     exact q .non H' F G' a1 a2 a3 a4 a5 a6 a7
    ·cases e
   ·cases e
  ·cases e
end
structure CK {ι : Type}(C:ι->Cx)(P:Program)(W:World)(K:yF)(mg:Str->Option Value)(base:Heap)(k:Nat):Prop where
 prog:∀i,(C i).prog=P
 w:∀i,(C i).w=W
 kk:∀i,(C i).K=K
 mg:∀i,(C i).mg=mg
 base:∀i,(C i).base=base
 calm:∀i,(C i).calm=true
 room:∀i,Room k (C i).A
variable  {ι : Type}{C:ι->Cx}{P:Program}{W:World}{K:yF}{mg:Str->Option Value}{base:Heap}{k:Nat}
noncomputable abbrev lC (C:ι->Cx) (scope:Scope) (N':List Str):ι×Bk->Cx:=λp=>cxB (C p.1) scope N' p.2
theorem CK.blk (ck:CK C P W K mg base k){scope:Scope}{N':List Str}:CK (lC C scope N') P W K mg base k:=
 ⟨λp=>ck.prog p.1,λp=>ck.w p.1,λp=>ck.kk p.1,λp=>ck.mg p.1,λp=>ck.base p.1,λp=>ck.calm p.1,λp=>ck.room p.1⟩
structure QE (C:ι->Cx)(K:yF)(e:Expr)(m:ME):Prop where
 ex:∃te,(∀i,PE (C i) e te)/\aU K te m
structure QT (C:ι->Cx)(K:yF)(e:Expr)(m:MT):Prop where
 ex:∃te,(∀i,PT (C i) e te)/\dO K te m
structure QW (C:ι->Cx)(K:yF)(e:Expr)(m:MT):Prop where
 ex:∃te,(∀i,PW (C i) e te)/\dO K te m
structure QTs (C:ι->Cx)(K:yF)(e:List Expr)(m:MT):Prop where
 ex:∃te,(∀i,PTs (C i) e te)/\dO K te m
structure QA (C:ι->Cx)(K:yF)(es:List Expr)(m:MA):Prop where
 ex:∃ta,(∀i,PA (C i) es ta)/\aR es=true/\dP K ta m
structure QS (C:ι->Cx)(K:yF)(st:Stmt)(m:MS):Prop where
 ex:∃ts,(∀i,PS (C i) st ts)/\db K ts m
structure QSs (C:ι->Cx)(K:yF)(st:List Stmt)(m:MS):Prop where
 ex:∃ts,(∀i,PSs (C i) st ts)/\db K ts m
structure QG (C:ι->Cx)(K:yF)(fr:Option (List (Option Nat)))(e:Expr)(m:MG):Prop where
 ex:∃g,(∀i,PG (C i) e g)/\g9 K g m/\∀f,fr=some f->fE f g
structure QGs (C:ι->Cx)(K:yF)(fr:Option (List (Option Nat)))(n:Nat)(es:List Expr)(m:MGs):Prop where
 ex:∃g,(∀i,PGs (C i) es g)/\kC K g m/\(∀f,fr=some f->g8 f g)/\(∀rs ρ ρ',m.run rs ρ=some ρ'->rs.length=n)
structure QI (C:ι->Cx)(K:yF)(tg e:Expr)(m:MI):Prop where
 ex:∃wi,(∀i,PI (C i) tg e wi)/\jH K wi m
structure QO (C:ι->Cx)(K:yF)(e:Option Expr)(m:MO):Prop where
 ex:∃t,(∀i,PO (C i) e t)/\o6 K t m
section
variable  {a b c e o:Expr}{es:List Expr}{ma mb mc m:ME}{ms:MA}{pos:Pos}{mt mt':MT}
theorem zS {i:Int}{j:Nat}:QE C K (.Constant (.int i) j pos) (mC (.int i)):=⟨_,λ_=>xm,rk rfl⟩
theorem Bc {x:Bool}{j:Nat}:QE C K (.Constant (.bool x) j pos) (mC (.bl x)):=⟨_,λ_=>zE,rk rfl⟩
theorem z6 {x:Str}{j:Nat}:QE C K (.Constant (.str x) j pos) (mC (.str x)):=⟨_,λ_=>xq,rk rfl⟩
theorem z9 (n:Nat){x:Str}(hN:∀i,(C i).N[n]?=some x:=by intro _;rfl)(hv:∀i,Vis (C i).env.scope x:=by first|exact λ_=>Or.inl rfl|exact λ_=>Or.inr (Or.inl rfl)|exact λ_=>Or.inr (Or.inr rfl))(hd:(x==("__debug__" : Str))=false:=by decide)(hcd:(x==("__classdict__" : Str))=false:=by decide):QE C K (.Name x pos) (ah n):=⟨_,λi=>qu (hN i) (hv i) hd hcd,uB⟩
theorem xN:QA C K [] mNil:=⟨_,λ_=>qk,rfl,uv⟩
theorem t9 (h1:QE C K e m)(h2:QA C K es ms)(hs:bt e=false:=by rfl):QA C K (e::es) (aa m ms):=by
 obtain⟨te,a,b⟩:=h1
 obtain⟨ta,c,n,d⟩:=h2
 exact⟨_,λi=>fX (a i) (c i) hs,by rw[aR,hs,n];rfl,rm b d⟩
theorem oG {op:Operator}{red:yF->R2}{f:T->T->Option T}(ck:CK C P W K mg base k)(ho:∀X:Cx,OpR X (binaryOp op) (red X.K))(hp:cC K (red K) f)(ha:QE C K a ma)(hb:QE C K b mb):QE C K (.BinOp a op b pos) (mOp f ma mb):=by
 obtain⟨ta,p,r⟩:=ha
 obtain⟨tb,p',r'⟩:=hb
 exact⟨_,λi=>zI (r:=red K) (by have:=ho (C i);rw[ck.kk i]at this;exact this) (p i) (p' i),iK hp r r'⟩
theorem zL (ck:CK C P W K mg base k)(ha:QE C K a ma)(hb:QE C K b mb):QE C K (.BinOp a .Add b pos) (mOp aW ma mb):=oG ck (red:=qY) (λ_=>tq) qz ha hb
theorem z7 (ck:CK C P W K mg base k)(ha:QE C K a ma)(hb:QE C K b mb):QE C K (.BinOp a .Sub b pos) (mOp bT ma mb):=oG ck (red:=λ_=>rI0 λi j=>.int (i-j)) (λ_=>wS) qL ha hb
theorem zW (ck:CK C P W K mg base k)(ha:QE C K a ma)(hb:QE C K b mb):QE C K (.BinOp a .Mult b pos) (mOp cy ma mb):=oG ck (red:=rf) (λ_=>tw) qJ ha hb
theorem xI (ck:CK C P W K mg base k)(ha:QE C K a ma)(hb:QE C K b mb):QE C K (.BinOp a .FloorDiv b pos) (mOp fH ma mb):=oG ck (red:=λ_=>rI lv λi j=>.int (i / j)) (λ_=>oj) ou ha hb
theorem zV (ck:CK C P W K mg base k)(ha:QE C K a ma)(hb:QE C K b mb):QE C K (.BinOp a .Mod b pos) (mOp dZ ma mb):=oG ck (red:=λ_=>rI (λ_ j=>0<j) λi j=>.int (i % j)) (λ_=>wN) qI ha hb
theorem z0 (ck:CK C P W K mg base k)(ha:QE C K a ma)(hb:QE C K b mb):QE C K (.BinOp a .Pow b pos) (mOp oq ma mb):=oG ck (red:=λ_=>rI vS λi j=>.int (i^j.toNat)) (λ_=>wR) qK ha hb
theorem zY (ha:QE C K a ma):QE C K (.UnaryOp .Not a pos) (jp ma):=by
 obtain⟨ta,p,r⟩:=ha
 exact⟨_,λi=>xo (p i),rF r⟩
def fD (op:CmpOp)(f:T->T->Option T):Prop:=∃red:yF->R2,(∀X:Cx,X.A.units+64<cLine->OpR X (compareOp op) (red X.K))/\∀K,cC K (red K) f
theorem A2:fD .Lt (fm λi j=>decide (i<j)):=⟨λ_=>_,λ_ _=>zq,λ_=>iD⟩
theorem AZ:fD .Gt (fm λi j=>decide (j<i)):=⟨λ_=>_,λ_ _=>zp,λ_=>iD⟩
theorem AY:fD .GtE (fm λi j=>decide (j<=i)):=⟨λ_=>_,λ_ _=>zn,λ_=>iD⟩
theorem AX:fD .Eq eqT:=⟨yd,λ_ hu=>wK hu,λ_=>tV⟩
theorem A3:fD .NotEq neT:=⟨yg,λ_ hu=>wQ hu,λ_=>tX⟩
theorem A1:fD .In inT:=⟨ye,λ_ hu=>wM hu,λ_=>tW⟩
theorem zO {op:CmpOp}{f:T->T->Option T}(ck:CK C P W K mg base k)(hc:fD op f)(ha:QE C K a ma)(hb:QE C K b mb)(hm:behindInMarks op b=false):QE C K (.Compare a [op] [b] pos) (mOp f ma mb):=by
 obtain⟨red,ho,hp⟩:=hc
 obtain⟨ta,p,r⟩:=ha
 obtain⟨tb,p',r'⟩:=hb
 exact⟨_,λi=>tJ (r:=red K) (by have:=ho (C i) (ck.room i).units;rw[ck.kk i]at this;exact this) (p i) (p' i) hm,iK (hp K) r r'⟩
theorem xY {op:CmpOp}{f:T->T->Option T}(ck:CK C P W K mg base k)(hc:fD op f)(ha:QE C K a ma)(hb:QE C K b mb)(hm:behindInMarks op b=false):QT C K (.Compare a [op] [b] pos) (ba (mOp f ma mb)):=by
 obtain⟨red,ho,hp⟩:=hc
 obtain⟨ta,p,r⟩:=ha
 obtain⟨tb,p',r'⟩:=hb
 exact⟨_,λi=>t5 (r:=red K) (by have:=ho (C i) (ck.room i).units;rw[ck.kk i]at this;exact this) (p i) (p' i) hm,lg (iK (hp K) r r')⟩
theorem x8 (ha:QE C K e m)(he:∀i whole,isTrue e (C i).env whole=(do let v ←whole;standAt e.pos;holding [v] (truthy v)):=by intro _ _;rfl):QT C K e (ba m):=by
 obtain⟨ta,p,r⟩:=ha
 exact⟨_,λi=>xE (p i) (he i),yp r⟩
theorem xZ (ha:QT C K a mt):QT C K (.UnaryOp .Not a pos) (lK mt):=by
 obtain⟨ta,p,r⟩:=ha
 exact⟨_,λi=>xD (p i),uw r⟩
theorem ui (ha:QT C K a mt):QW C K (.BoolOp .And [a] pos) mt:=by
 obtain⟨ta,p,r⟩:=ha
 exact⟨_,λi=>t8 (p i),r⟩
theorem yb (ha:QT C K a mt):QW C K (.BoolOp .Or [a] pos) mt:=by
 obtain⟨ta,p,r⟩:=ha
 exact⟨_,λi=>xH (p i),r⟩
theorem x9 {rest:List Expr}(ha:QT C K a mt)(hb:QW C K (.BoolOp .And (b::rest) pos) mt'):QW C K (.BoolOp .And (a::b::rest) pos) (kS mt mt'):=by
 obtain⟨ta,p,r⟩:=ha
 obtain⟨tb,p',r'⟩:=hb
 exact⟨_,λi=>xG (p i) (p' i),um r r'⟩
theorem Ab {rest:List Expr}(ha:QT C K a mt)(hb:QW C K (.BoolOp .Or (b::rest) pos) mt'):QW C K (.BoolOp .Or (a::b::rest) pos) (mOr mt mt'):=by
 obtain⟨ta,p,r⟩:=ha
 obtain⟨tb,p',r'⟩:=hb
 exact⟨_,λi=>zK (p i) (p' i),yn r r'⟩
theorem QW.t (h:QW C K e mt):QT C K e mt:=by
 obtain⟨ta,p,r⟩:=h
 exact⟨_,λi=>(p i).pt,r⟩
theorem zZ {op:BoolOp}(h:QE C K a m):QE C K (.BoolOp op [a] pos) m:=by
 obtain⟨ta,p,r⟩:=h
 exact⟨_,λi=>xp (p i),r⟩
theorem zM {rest:List Expr}(ha:QE C K a ma)(hb:QE C K (.BoolOp .And (b::rest) pos) mb):QE C K (.BoolOp .And (a::b::rest) pos) (iw ma mb):=by
 obtain⟨ta,p,r⟩:=ha
 obtain⟨tb,p',r'⟩:=hb
 exact⟨_,λi=>xl (p i) (p' i),rl r r'⟩
theorem zU (mv:List Nat)(h:QA C K es ms):QE C K (.List es pos) (aV mv ms):=by
 obtain⟨ta,p,_,r⟩:=h
 exact⟨_,λi=>xn (p i),rD r⟩
theorem z8 (mv:List Nat){x1:Nat}(h:QA C K es ms):QE C K (.Tuple es x1 pos) (av mv ms):=by
 obtain⟨ta,p,_,r⟩:=h
 exact⟨_,λi=>xr (p i),rK r⟩
theorem Bg (ck:CK C P W K mg base k)(ha:QE C K a ma)(hb:QE C K b mb)(hs:mq b:=by exact λ_ _=>rfl):QE C K (.Subscript a b pos) (mIx ma mb):=by
 obtain⟨ta,p,r⟩:=ha
 obtain⟨tb,p',r'⟩:=hb
 exact⟨_,λi=>zH (A9 (ck.kk i)) (p i) (p' i) hs,ym r r'⟩
theorem uc:QO C K none mNoPart:=⟨_,λ_=>tT,lV⟩
theorem ud (h:QE C K e m):QO C K (some e) (dL m):=by
 obtain⟨ta,p,r⟩:=h
 exact⟨_,λi=>j7 (p i),rG r⟩
theorem Bh {lo hi:Option Expr}{ml mh:MO}{p2:Pos}(ck:CK C P W K mg base k)(ha:QE C K a ma)(hl:QO C K lo ml)(hh:QO C K hi mh):QE C K (.Subscript a (.Slice lo hi none p2) pos) (mSl ma ml mh):=by
 obtain⟨ta,p,r⟩:=ha
 obtain⟨tl,p',r'⟩:=hl
 obtain⟨th,p'',r''⟩:=hh
 exact⟨_,λi=>qr (r:=rSl K) (by have:=Bm (X:=C i);rw[ck.kk i]at this;exact this) (p i) (p' i) (p'' i),yo r r' r''⟩
theorem zR {x:Str}{p:Pos}{j:Nat}{ps:List Str}{run:List T->Option T}(ck:CK C P W K mg base k)(h:Has P W K mg base j x ps (spP K run))(ha:QA C K (e::es) ms)(hj:j<=k:=by first|decide|omega)(hg:∀i,Gl (C i) x:=by intro _;rfl)(hdb:(x==("__debug__" : Str))=false:=by decide):QE C K (.Call (.Name x p) (e::es) [] pos) (mB run ms):=by
 obtain⟨ta,q,n,r⟩:=ha
 refine⟨_,λi=>qq (by rw[ck.prog i,ck.w i,ck.kk i,ck.mg i,ck.base i];exact h) ((ck.room i).mono hj) (hg i) (q i) n hdb,oK r⟩
theorem zQ (l:Nat){x:Str}{p:Pos}{j n0:Nat}{ps:List Str}{run:List T->Option (T×T)}(ck:CK C P W K mg base k)(h:Has P W K mg base j x ps (spI K n0 run))(ha:QA C K (e::es) ms)(hj:j<=k:=by first|decide|omega)(hg:∀i,Gl (C i) x:=by intro _;rfl)(hdb:(x==("__debug__" : Str))=false:=by decide):QE C K (.Call (.Name x p) (e::es) [] pos) (aj n0 l run ms):=by
 obtain⟨ta,q,n,r⟩:=ha
 refine⟨_,λi=>qq (by rw[ck.prog i,ck.w i,ck.kk i,ck.mg i,ck.base i];exact h) ((ck.room i).mono hj) (hg i) (q i) n hdb,oJ r⟩
def i8 (x:Str)(f:List T->Option T):Prop:=∃(id:String) (red:yF->List V->Hp->VK->Prop),bootBuiltins x=some (.builtin id)/\(∀X:Cx,X.calm=true->CallR X (.builtin id) (red X.K))/\∀K,cO K (red K) f
def nC (x:Str)(f:List T->Option T):Prop:=∃(id:String) (red:yF->List V->Hp->VK->Prop),bootBuiltins x=some (.type id)/\(∀X:Cx,X.calm=true->CallR X (.type id) (red X.K))/\∀K,cO K (red K) f
theorem zN {x:Str}{p:Pos}{f:List T->Option T}(ck:CK C P W K mg base k)(hb:i8 x f)(hm:mg x=none)(ha:QA C K (e::es) ms)(hg:∀i,Gl (C i) x:=by intro _;rfl)(hx:x≠("__name__" : Str):=by decide)(hdb:(x==("__debug__" : Str))=false:=by decide):QE C K (.Call (.Name x p) (e::es) [] pos) (mB f ms):=by
 obtain⟨id,red,b1,b2,b3⟩:=hb
 obtain⟨ta,q,n,r⟩:=ha
 exact⟨_,λi=>gq (r:=red K) (by have:=b2 (C i) (ck.calm i);rw[ck.kk i]at this;exact this) (hg i) (by rw[ck.mg i];exact hm) b1 (q i) n hx hdb,nc (b3 K) r⟩
theorem Bj {x:Str}{p:Pos}{f:List T->Option T}(ck:CK C P W K mg base k)(hb:nC x f)(hm:mg x=none)(ha:QA C K (e::es) ms)(hg:∀i,Gl (C i) x:=by intro _;rfl)(hx:x≠("__name__" : Str):=by decide)(hdb:(x==("__debug__" : Str))=false:=by decide):QE C K (.Call (.Name x p) (e::es) [] pos) (mB f ms):=by
 obtain⟨id,red,b1,b2,b3⟩:=hb
 obtain⟨ta,q,n,r⟩:=ha
 exact⟨_,λi=>lS (r:=red K) (by have:=b2 (C i) (ck.calm i);rw[ck.kk i]at this;exact this) (hg i) (by rw[ck.mg i];exact hm) b1 (q i) n hx hdb,nc (b3 K) r⟩
theorem b_len:i8 "len" cj:=⟨_,q5,PySem.boot_len,λ_ _=>nF,λ_=>qE⟩
theorem b_min:i8 "min" lP:=⟨_,λ_=>_,Ez,λ_ h=>nI h,λ_=>qH⟩
theorem b_max:i8 "max" kT:=⟨_,λ_=>_,EA,λ_ h=>nH h,λ_=>qG⟩
theorem b_all:i8 "all" nD:=⟨_,Ad,EB,λ_ h=>o8 h,λ_=>qA⟩
theorem b_int:nC "int" pI:=⟨_,λ_=>_,DQ,λ_ _=>nE,λ_=>qC⟩
theorem b_tuple:nC "tuple" gE:=⟨_,rh,DE,λ_ _=>iV,λ_=>qN⟩
theorem b_list:nC "list" lJ:=⟨_,re,DK,λ_ _=>jR,λ_=>qF⟩
def o3 (T0:String)(name:Str)(f:T->List T->Option T):Prop:=∃(id:String) (red:yF->V->List V->Hp->VK->Prop),PlainAttrs T0/\Slot T0 name id/\typeOf (.builtin id)=pure (.type "method_descriptor")/\(∀X:Cx,MtR X id (red X.K))/\(∀K,o5 K T0 (red K) f)/\∀K (H:Hp) (x:V) (tx:T) ts t,Rpx K H tx x->f tx ts=some t->tyV K T0 x H
def o4 (T0:String)(name:Str)(f:T->List T->Option (T×I)):Prop:=∃(id:String) (red:yF->V->List V->Hp->VK->Prop),PlainAttrs T0/\Slot T0 name id/\typeOf (.builtin id)=pure (.type "method_descriptor")/\(∀X:Cx,MtR X id (red X.K))/\(∀K,fF K (red K) f)/\∀K (H:Hp) (x:V) (tx:T) ts r,Rpx K H tx x->f tx ts=some r->tyV K T0 x H
theorem xL {T0:String}{name:Str}{f:T->List T->Option T}{apos:Pos}{mo:ME}(ck:CK C P W K mg base k)(hm:o3 T0 name f)(ho:QE C K o mo)(ha:QA C K (e::es) ms)(hlen:decide ((e::es).length<30)=true:=by rfl)
  (hbase:∀i,attributeBase o name (C i).env (eval o (C i).env)=eval o (C i).env:=by intro _;rfl) (hline:(apos.endLine==pos.line)=true:=by rfl):QE C K (.Call (.Attribute o name apos) (e::es) [] pos) (mM f mo ms):=by
 obtain⟨id,red,h1,h2,h3,h4,h5,h6⟩:=hm
 obtain⟨to,q,r⟩:=ho
 obtain⟨ta,q',n,r'⟩:=ha
 exact⟨_,λi=>y3 (r:=red K) (ck.kk i) h1 h2 h3 (by have:=h4 (C i);rw[ck.kk i]at this;exact this) (q i) (q' i) n hlen (hbase i) hline,As (h5 K) (h6 K) r r'⟩
theorem zX (l:Nat)(mv:List Nat){T0:String}{name:Str}{f:T->List T->Option (T×I)}{apos:Pos}{mo:ME}(ck:CK C P W K mg base k)(hm:o4 T0 name f)(ho:QE C K o mo)(ha:QA C K (e::es) ms)(hlen:decide ((e::es).length<30)=true:=by rfl)
  (hbase:∀i,attributeBase o name (C i).env (eval o (C i).env)=eval o (C i).env:=by intro _;rfl) (hline:(apos.endLine==pos.line)=true:=by rfl):QE C K (.Call (.Attribute o name apos) (e::es) [] pos) (cM l mv f mo ms):=by
 obtain⟨id,red,h1,h2,h3,h4,h5,h6⟩:=hm
 obtain⟨to,q,r⟩:=ho
 obtain⟨ta,q',n,r'⟩:=ha
 exact⟨_,λi=>y3 (r:=red K) (ck.kk i) h1 h2 h3 (by have:=h4 (C i);rw[ck.kk i]at this;exact this) (q i) (q' i) n hlen (hbase i) hline,uu (h5 K) (h6 K) r r'⟩
theorem wD:o3 "str" "join" ik:=⟨_,vx,PySem.F.plainAttrs_str,PySem.F.slot_str_join,PySem.F.type_str_join,λ_=>sZ,λ_=>oy,λK H x tx ts t r e=>by
 unfold ik at e
 split at e
 ·rw[cJ r];rfl
 ·cases e⟩
theorem pU:o4 "list" "append" apT:=⟨_,λ_=>j8,PySem.F.plainAttrs_list,PySem.F.slot_list_append,PySem.F.type_list_append,λ_=>oa,λ_=>k8,λK=>oW⟩
theorem pV:o4 "list" "insert" j0:=⟨_,λ_=>j9,PySem.F.plainAttrs_list,PySem.F.slot_list_insert,PySem.F.type_list_insert,λ_=>oe,λ_=>k9,λK=>oX⟩
end
variable  {ι : Type}{C:ι->Cx}{P:Program}{W:World}{K:yF}{mg:Str->Option Value}{base:Heap}{k:Nat}
section
variable  {a b c e o tg iter:Expr}{es:List Expr}{ma mb mc m mo mi:ME}{ms:MA}{pos:Pos}{mt mt':MT}{s1 s2:MS}{g g':MG}{gs:MGs}{it it2:MI}{fr:Option (List (Option Nat))}
theorem ub (n:Nat){x:Str}(hN:∀i,(C i).N.Nodup)(hi:∀i,(C i).N[n]?=some x:=by intro _;rfl)(hx:∀i,Loc (C i).env.scope x:=by first|exact λ_=>Or.inl rfl|exact λ_=>Or.inr rfl)(hf:∀i,(C i).fn x=true∨(C i).env.scope.names.lookup x=some .local:=by first|exact λ_=>.inl rfl|exact λ_=>.inr rfl)
  (hfr:∀f,fr=some f->f[n]?=some none:=by first|(intro f h;cases h;done)|(intro f h;cases h;rfl)):QG C K fr (.Name x pos) (ag n):=
 ⟨_,λi=>tN (hN i) (hi i) (hx i) (hf i),iJ,λf hf'=>sM (hfr f hf')⟩
theorem m7:QGs C K fr 0 [] mGNil:=by with_unfolding_all exact⟨_,λ_=>tO,rB,λ_ _=>wm,λrs ρ ρ' h=>by cases rs<;>first|rfl|cases h⟩
theorem eA {n:Nat}(h1:QG C K fr e g)(h2:QGs C K fr n es gs)(hs:∀i,(assignEach (e::es) (C i).env).map (·.2)=assign e (C i).env::(assignEach es (C i).env).map (·.2):=by intro _;rfl):QGs C K fr (n+1) (e::es) (aL g gs):=by with_unfolding_all
 obtain⟨g1,p1,r1,k1⟩:=h1
 obtain⟨g2,p2,r2,k2,l2⟩:=h2
 refine⟨_,λi=>qx (p1 i) (p2 i) (hs i),oN r1 r2,λf hf=>sK (k1 f hf) (k2 f hf),λrs ρ ρ' h=>?_⟩
 cases rs with
 | nil=>cases h
 | cons r rs=>
  simp only[aL]at h
  split at h
  ·split at h
   ·rw[BF,l2 _ _ _ h]
   ·cases h
  ·cases h
theorem qW {n k0:Nat}(ck:CK C P W K mg base k)(h:QGs C K fr n es gs)(hn:∀i,(assignEach es (C i).env).length=n:=by intro _;rfl)(hst:∀i,(assignEach es (C i).env).findIdx? (·.1)=none:=by intro _;rfl):QG C K fr (.Tuple es k0 pos) (cr gs):=by
 obtain⟨g,p,r,kk,l⟩:=h
 exact⟨_,λi=>tgK (ck.kk i) (ck.calm i) (p i) (hn i) (hst i),rC r l,λf hf=>wn (kk f hf)⟩
theorem xO (j:Nat)(ho:QE C K o mo)(hi:QE C K e mi)
  (ha:∀i v,assign (.Subscript o e pos) (C i).env v=(do
   let ov ←holding [v] (eval o (C i).env)
   let iv ←holding [v,ov] (eval e (C i).env)
   standAt pos
   holding [v,ov,iv] (setItem ov iv v)
   release [v,ov,iv] []):=by intro _ _;rfl):QG C K none (.Subscript o e pos) (lL j mo mi):=by
 obtain⟨to,p,r⟩:=ho
 obtain⟨ti,p',r'⟩:=hi
 exact⟨_,λi=>qv (p i) (p' i) rS (ha i),uA r r',λf h=>by cases h⟩
theorem xT:QSs C K [] mNext:=⟨_,λ_=>tZ,rE⟩
theorem xU {st:Stmt}(h1:QS C K st s1):QSs C K [st] s1:=by
 obtain⟨t,p,r⟩:=h1
 exact⟨_,λi=>t3 (p i),r⟩
theorem ue {st:Stmt}{rest:List Stmt}(h1:QS C K st s1)(h2:QSs C K rest s2):QSs C K (st::rest) (aq s1 s2):=by
 obtain⟨t,p,r⟩:=h1
 obtain⟨u,p',r'⟩:=h2
 exact⟨_,λi=>qR (p i) (p' i),uz r r'⟩
theorem Aa {b1 b2:List Stmt}(hc:QT C K c mt)(h1:QSs C K b1 s1)(h2:QSs C K b2 s2):QS C K (.If c b1 b2 pos) (mIf mt s1 s2):=by
 obtain⟨tc,p0,r0⟩:=hc
 obtain⟨t,p,r⟩:=h1
 obtain⟨u,p',r'⟩:=h2
 exact⟨_,λi=>zJ (p0 i) (p i) (p' i),ur r0 r r'⟩
theorem xW (h:QE C K e m):QS C K (.Return (some e) pos) (bq m):=by
 obtain⟨t,p,r⟩:=h
 exact⟨_,λi=>xB (p i),uy r⟩
theorem uf (h:QE C K e m)(hs:∀i,swapsWith e none pos.line (C i).env=pure false:=by intro _;rfl):QS C K (.Expr e pos) (bp m):=by
 obtain⟨t,p,r⟩:=h
 exact⟨_,λi=>tY (p i) (hs i),rn r⟩
theorem xR (h:QE C K e m)(hg:QG C K none tg g)(hs:∀i,swapsWithSole [tg] e pos.line (C i).env=pure false:=by intro _;rfl)(hw:∀i,swappedStores [tg] e (C i).env=pure none:=by intro _;rfl)
  (h1:∀i,(assignEach [tg] (C i).env).map (·.2)=[assign tg (C i).env]:=by intro _;rfl):QS C K (.Assign [tg] e pos) (aE m g):=by
 obtain⟨t,p,r⟩:=h
 obtain⟨u,p',r',_⟩:=hg
 exact⟨_,λi=>xy (p i) (p' i) (hs i) (hw i) (h1 i),ke r r'⟩
theorem xX (n:Nat){x:Str}{pos':Pos}(hN:∀i,(C i).N.Nodup)(he:QE C K e m)(hi:∀i,(C i).N[n]?=some x:=by intro _;rfl)(hx:∀i,Loc (C i).env.scope x:=by first|exact λ_=>Or.inl rfl|exact λ_=>Or.inr rfl)(hs:∀i,swapsWith e (some (.Name x pos')) pos.line (C i).env=pure false:=by intro _;rfl)(hf:∀i,(C i).fn x=true∨(C i).env.scope.names.lookup x=some .local:=by first|exact λ_=>.inl rfl|exact λ_=>.inr rfl) :
  QS C K (.Assign [.Name x pos'] e pos) (aE m (ag n)):=by
 obtain⟨t,p,r⟩:=he
 exact⟨_,λi=>xC (hN i) (hi i) (hx i) (p i) (hs i) (hf i),ke r iJ⟩
noncomputable def sY (i j:Nat) (a:MA):MS:=⟨λρ=>match a.run ρ with
 | some ([r1,r2],ρ1)=>if(ef ρ1 i&&aC [i] r1&&aC [i] r2&&ef ρ1 j&&aC [j] r2)=true then some (.nx,(ao [j] ((ao [i] ρ1).set i (some r1))).set j (some r2))else none
 | _=>none,a.mu++[i,j]⟩
theorem og {ρ:Rho}{i j:Nat}{r:R}(h:ef ρ j=true)(hr:∀n,r.k ≠ .io n):ef ((ao [i] ρ).set i (some r)) j=true:=by
 unfold ef at h⊢
 by_cases e:j=i
 ·subst e
  have hl:j < ρ.length:=by
   cases q : ρ[j]? with
   | none=>rw[q]at h;cases h
   | some o=>exact(Bs.mp q).1
  rw[Cc (by rw[aB];exact hl)]
  obtain⟨k,t⟩:=r
  cases k with
  | io n=>exact absurd rfl (hr n)
  | _=>rfl
 ·rw[BJ (Ne.symm e)]
  unfold ao
  rw[BD]
  cases q : ρ[j]? with
  | none=>rw[q]at h;cases h
  | some o=>
   rw[q]at h
   cases o with
   | none=>rfl
   | some x=>
    show(match some (bC [i] (some x))with|some (some ⟨.io _,_⟩)=>false|some _=>true|none=>false)=true
    cases hk:bC [i] (some x)with
    | none=>rfl
    | some y=>
     obtain⟨e1,_⟩:=killO_iff.mp hk
     cases e1
     exact h
noncomputable def iB (r:R):Bool:=match r.k with
 | .io _=>false
 | _=>true
theorem ux {i j:Nat}{ta:TA}{a:MA}(ha:dP K ta a)(hio:∀ρ rs ρ',a.run ρ=some (rs,ρ')->True):db K (AD i j ta) (sY i j ⟨λρ=>match a.run ρ with
  | some (rs,ρ1)=>if rs.all iB=true then some (rs,ρ1)else none
  | none=>none,a.mu⟩):=by
 intro Γ H ρ Z E D f ρ' hK hE hr S q
 simp only[sY]at hr q
 split at hr
 ·rename_i r1 r2 ρ1 e1
  split at e1
  ·rename_i rs ρ2 e2
   split at e1
   ·rename_i hall
    cases e1
    split at hr
    ·rename_i hb
     cases hr
     simp only[By]at hb
     obtain⟨⟨⟨⟨b1,b2⟩,b3⟩,b4⟩,b5⟩:=hb
     refine ha Γ H ρ Z E _ _ _ hK e2 S λvs H1 hl S1=>?_
     obtain⟨v,w,rfl⟩:∃v w,vs=[v,w]:=by
      cases vs with
      | nil=>cases hl
      | cons v r=>cases r with
       | nil=>cases hl
       | cons w r=>cases r with
        | nil=>exact⟨v,w,rfl⟩
        | cons _ _=>cases hl
     have S1:Sim Γ H1 ρ1 Z (⟨none,v,r1⟩::⟨none,w,r2⟩::ae a.mu E):=S1
     refine⟨v,w,rfl,q _ H1 ?_⟩
     have S2:=S1.put b1 (fk b2)
     rw[ay (bg b3)]at S2
     have hr1:∀n,r1.k ≠ .io n:=λn z=>by
      have:=Ch.mp hall r1 ymS
      unfold iB at this
      rw[z]at this
      cases this
     have S3:=S2.put (og b4 hr1) (fk b5)
     rw[af,af]at S3
     have:a.mu++([i]++[j])=a.mu++[i,j]:=rfl
     rw[←BK]at this
     exact S3
    ·cases hr
   ·cases e1
  ·cases e1
 ·cases hr
@[irreducible] noncomputable def gK (i j:Nat)(a:MA):MS:=sY i j ⟨λρ=>match a.run ρ with
  | some (rs,ρ1)=>if rs.all iB=true then some (rs,ρ1)else none
  | none=>none,a.mu⟩
theorem xV (i j:Nat){x y:Str}{px py pt:Pos}{kt k2 pt2}(ck:CK C P W K mg base k)(hN:∀i,(C i).N.Nodup)(ha:QA C K [a,b] ms)(hi:∀n,(C n).N[i]?=some x:=by intro _;rfl)(hj:∀n,(C n).N[j]?=some y:=by intro _;rfl)(hij:i≠j:=by decide)
  (hx:∀n,(C n).env.scope.names.lookup x=some .local:=by intro _;rfl) (hy:∀n,(C n).env.scope.names.lookup y=some .local:=by intro _;rfl)
  (hw:∀n,swappedStores [.Tuple [.Name x px,.Name y py] kt pt] (.Tuple [a,b] k2 pt2) (C n).env=pure (some [x,y]):=by intro _;rfl)
  (hs:∀n,swapsWithSole [.Tuple [.Name x px,.Name y py] kt pt] (.Tuple [a,b] k2 pt2) pos.line (C n).env=pure false:=by intro _;rfl) :
  QS C K (.Assign [.Tuple [.Name x px,.Name y py] kt pt] (.Tuple [a,b] k2 pt2) pos) (gK i j ms):=by with_unfolding_all
 obtain⟨ta,p,_,r⟩:=ha
 exact⟨_,λn=>xA (ck.calm n) (hN n) (hi n) (hj n) hij (hx n) (hy n) (p n) (hw n) (hs n),ux r (λ_ _ _ _=>trivial)⟩
theorem qX {body:List Stmt}(hp:∀i,PassesOwn (model (C i).prog (C i).w) (C i).A (C i).env (C i).xe)(hc:QT C K c mt)(hb:QSs C K body s1):QS C K (.While c body [] pos) (dY mt s1):=by
 obtain⟨tc,p,r⟩:=hc
 obtain⟨tb,p',r'⟩:=hb
 exact⟨_,λi=>qQ (hp i) (p i) (p' i),oP r r'⟩
theorem xS {body:List Stmt}(ck:CK C P W K mg base k)(hp:∀i,PassesOwn (model (C i).prog (C i).w) (C i).A (C i).env (C i).xe)(hi:QI C K tg iter it)(hg:QG C K none tg g)(hb:QSs C K body s1)(hs:∀i x,foldedSetIterable iter (C i).env x=pure x:=by intro _ _;rfl):QS C K (.For tg iter body [] pos) (bX it g s1):=by
 obtain⟨wi,p,r⟩:=hi
 obtain⟨tg',p1,r1,_⟩:=hg
 obtain⟨tb,p',r'⟩:=hb
 exact⟨_,λi=>xz (hp i) (ck.calm i) (p i) (p1 i) (p' i) (hs i),uq r r1 r'⟩
theorem oH {p:Pos}(ck:CK C P W K mg base k)(T:Bi mg)(ha:QA C K [a] ms)(hg:∀i,Gl (C i) "range" :=by intro _;rfl)(hs:bt a=false:=by rfl):QI C K tg (.Call (.Name "range" p) [a] [] pos) (aP ms):=by
 obtain⟨ta,q,_,r⟩:=ha
 exact⟨_,λi=>on (hg i) (by rw[ck.mg i];exact T.b_range) (q i) (by rw[aX hs];rfl),rH r⟩
theorem oI {p:Pos}(ck:CK C P W K mg base k)(T:Bi mg)(ha:QA C K [a,b] ms)(hg:∀i,Gl (C i) "range" :=by intro _;rfl)(hs:bt a=false:=by rfl)(hs2:bt b=false:=by rfl):QI C K tg (.Call (.Name "range" p) [a,b] [] pos) (dM ms):=by
 obtain⟨ta,q,_,r⟩:=ha
 exact⟨_,λi=>oo (hg i) (by rw[ck.mg i];exact T.b_range) (q i) (by rw[aX hs,aX hs2];rfl) (by rw[aX hs2];rfl),rJ r⟩
theorem PI.or {X:Cx}{w1 w2:TI}(h1:PI X tg iter w1)(h2:PI X tg iter w2):PI X tg iter (λZ H R=>w1 Z H R∨w2 Z H R):=by
 intro pins s Z H R I h
 rcases h with h|h
 ·exact h1 pins s Z H R I h
 ·exact h2 pins s Z H R I h
noncomputable def dU:R->Option (List R)
 | ⟨_,.li is⟩=>some (is.map λi=>⟨.ow,.im i⟩)
 | ⟨.vw ro _,.lst ts⟩=>some (ts.map (partV ro))
 | ⟨_,.im (.tup is)⟩=>some (is.map λi=>⟨.ow,.im i⟩)
 | ⟨_,.im (.str z)⟩=>some ((sL z).map λc=>⟨.ow,.im (.str ⟨#[c]⟩)⟩)
 | ⟨_,.im (.ls is)⟩=>some (is.map λi=>⟨.ow,.im i⟩)
 | _=>none
@[irreducible] noncomputable def mIt (a:ME):MI:=⟨λρ=>match a.run ρ with
 | some (r,ρ1)=>(match dU r with
  | some rs=>some (([r],rs),ρ1)
  | none=>none)
 | none=>none,a.mu⟩
theorem uV {Γ:Gm}{z:Str}{v:V}{src:R}:fj Γ (Its z) [v] [src] ((sL z).map λc=>⟨.ow,.im (.str ⟨#[c]⟩)⟩):=λH ρ Z E S=>by
 refine⟨λi hi=>?_,λi r hr=>?_⟩
 ·show z.cps.size<=i
  simpa[sL]using hi
 ·obtain⟨c,hc,rfl⟩:=aN hr
  have hc':z.cps[i]?=some c:=by simpa[sL]using hc
  refine⟨?_,λx H' y=>?_⟩
  ·show i<z.cps.size
   exact(Array.getElem?_eq_some_iff.mp hc').1
  ·obtain⟨rfl,c',h1,rfl⟩:=y
   rw[hc']at h1;cases h1
   exact S.imm (gP rfl)
theorem yl {ta:TE}(ha:aU K ta m):jH K (λZ H R=>mQ K ta Z H R∨(sN K ta Z H R∨za ta Z H R)) (mIt m):=by with_unfolding_all
 intro Γ H ρ Z E Rr src items ρ' hK hr S q
 simp only[mIt]at hr
 split at hr
 ·rename_i r ρ1 e1
  split at hr
  ·rename_i rs e2
   cases hr
   unfold dU at e2
   split at e2
   ·rename_i k0 is
    exact .inl (kf ha Γ H ρ Z E Rr _ items ρ' hK (by simp only[pT,e1,ft];cases e2;rfl) S q)
   ·exact .inl (kf ha Γ H ρ Z E Rr _ items ρ' hK (by simp only[pT,e1,ft];cases e2;rfl) S q)
   ·exact .inr (.inl (ut ha Γ H ρ Z E Rr _ items ρ' hK (by simp only[wC,e1,ij];cases e2;rfl) S q))
   ·rename_i k0 z
    cases e2
    right;right
    refine ha Γ H ρ Z E _ _ _ hK e1 S λx H1 S1=>?_
    exact⟨z,cJ (S1.rd ymS),q _ [x] H1 rfl S1 uV⟩
   ·exact .inl (kf ha Γ H ρ Z E Rr _ items ρ' hK (by simp only[pT,e1,ft];cases e2;rfl) S q)
   ·cases e2
  ·cases hr
 ·cases hr
theorem xP (ck:CK C P W K mg base k)(ha:QE C K iter m):QI C K tg iter (mIt m):=by
 obtain⟨ta,q,r⟩:=ha
 exact⟨_,λi=>PI.or (ilK (ck.kk i) (q i)) (PI.or (itK (ck.kk i) (q i)) (tR (q i))),yl r⟩
@[irreducible] noncomputable def mYes:MT:=⟨λρ=>some (true,ρ),[]⟩
theorem uC:dO K AH mYes:=by with_unfolding_all
 intro Γ H ρ Z E Q b ρ' hK hr S q
 cases hr
 exact q H (by rw[show mYes.mu=[]from rfl,bn];exact S)
theorem uh:QTs C K [] mYes:=⟨_,λ_=>t6,uC⟩
section
variable  {elt tg2 iter2:Expr}{ifs:List Expr}{scope:Scope}
theorem bv {N':List Str}{f:List (Option Nat)}(ck:CK C P W K mg base k)(hB:∀i,Blk (C i).env.scope scope (C i).N N' f)(hi:QI C K tg iter it)(hg:QG (lC C scope N') K (some f) tg g)(ht:QTs (lC C scope N') K ifs mt)(he:QE (lC C scope N') K elt m)(hs:∀i x,foldedSetIterable iter (C i).env x=pure x:=by intro _ _;rfl) :
  QE C K (.ListComp elt [⟨tg,iter,ifs,0⟩] scope pos) (aQ f it g mt m):=by
 obtain⟨wi,p0,r0⟩:=hi
 obtain⟨gg,p1,r1,kk⟩:=hg
 obtain⟨tt,p2,r2⟩:=ht
 obtain⟨te,p3,r3⟩:=he
 exact⟨_,λi=>tK (ck.calm i) (hB i) (p0 i) (λb=>p1 (i,b)) (kk f rfl) (λb=>p2 (i,b)) (λb=>p3 (i,b)) (hs i),lf r0 (kk f rfl) r1 r2 r3⟩
theorem cG (n:Nat){x:Str}{pos' spos:Pos}{N':List Str}{f:List (Option Nat)}(ck:CK C P W K mg base k)(hN:∀i,(C i).N.Nodup)(hB:∀i,Blk (C i).env.scope scope (C i).N N' f)(hi:QI C K tg iter it)(hg:QG (lC C scope N') K (some f) tg g)(ht:QTs (lC C scope N') K ifs mt)(he:QE (lC C scope N') K elt m)(hn:∀i,(C i).N[n]?=some x:=by intro _;rfl)(hx:∀i,(C i).env.scope.names.lookup x=some .local:=by intro _;rfl)
  (hsw:∀i,swapsWith (.ListComp elt [⟨tg,iter,ifs,0⟩] scope pos) (some (.Name x pos')) spos.line (C i).env=pure true:=by intro _;rfl) (hs:∀i x,foldedSetIterable iter (C i).env x=pure x:=by intro _ _;rfl) :
  QS C K (.Assign [.Name x pos'] (.ListComp elt [⟨tg,iter,ifs,0⟩] scope pos) spos) (aE (aQ f it g mt m) (ag n)):=by
 obtain⟨wi,p0,r0⟩:=hi
 obtain⟨gg,p1,r1,kk⟩:=hg
 obtain⟨tt,p2,r2⟩:=ht
 obtain⟨te,p3,r3⟩:=he
 exact⟨_,λi=>lT (ck.calm i) (hN i) (hn i) (hx i) (hB i) (p0 i) (λb=>p1 (i,b)) (kk f rfl) (λb=>p2 (i,b)) (λb=>p3 (i,b)) (hsw i) (hs i),ke (lf r0 (kk f rfl) r1 r2 r3) iJ⟩
end
end
structure DI (k:Nat)(name:Str)(st:Stmt) where
 f:Addr
 cdv:Value
 A:Around
 outer:List Env
 s:Shared
 H:Hp
 E:XK
 hr:Room k (A.deeper (envOfC name (ak st) s.heap.objs.size f cdv))
noncomputable abbrev dC (P:Program) (W:World) (K:yF) (mg:Str->Option Value) (base:Heap) (k:Nat) (N:List Str) (name:Str) (st:Stmt):DI k name st->Cx:=λd=>(iW CX0 P W K mg base N name (ak st) d.f d.cdv d.A d.outer d.s d.H d.E).nox
theorem lG {N:List Str}{name:Str}{st:Stmt}:CK (dC P W K mg base k N name st) P W K mg base k:=
 ⟨λ_=>rfl,λ_=>rfl,λ_=>rfl,λ_=>rfl,λ_=>rfl,λ_=>rfl,λd=>d.hr⟩
theorem Def.qp {name:Str}{st:Stmt}{N ps:List Str}(d:Def K mg name st ps)(S:FnScope N ps (ak st)){m:MS}(h:QSs (dC P W K mg base k N name st) K (bc st) m)
  {run:List T->Option T} (hrun:∀ts,run ts=if ts.length=ps.length then fY m N.length ts else none):Has P W K mg base (k+1) name ps (spP K run):=by
 obtain⟨t,p,r⟩:=h
 exact d.mp S (λf cdv A outer s H E hr=>⟨t,p ⟨f,cdv,A,outer,s,H,E,hr⟩,r⟩) hrun
theorem Def.qi {name:Str}{st:Stmt}{N ps:List Str}{j:Nat}(d:Def K mg name st ps)(S:FnScope N ps (ak st)){m:MS}(h:QSs (dC P W K mg base k N name st) K (bc st) m)
  {run:List T->Option (T×T)} (hrun:∀ts,run ts=if ts.length=ps.length then cY m j N.length ts else none):Has P W K mg base (k+1) name ps (spI K j run):=by
 obtain⟨t,p,r⟩:=h
 exact d.mi S (λf cdv A outer s H E hr=>⟨t,p ⟨f,cdv,A,outer,s,H,E,hr⟩,r⟩) hrun
section
variable  {Γ:Gm}{H H':Hp}{L:List Hd}{ρ:Rho}{Z:St}{E X:List En}{v w x y:V}{t s:T}{K:yF}{Q:VK}
@[irreducible] noncomputable def mCallT (k:Nat)(run:List T->Option (T×T))(a:MA):ME:=⟨λρ=>match a.run ρ with
 | some (rs,ρ1)=>(match rs[k]? with
  | some ⟨.ow,_⟩=>(match run (rs.map (·.t))with
   | some (t,_)=>some (⟨.ow,t⟩,ρ1)
   | none=>none)
  | _=>none)
 | none=>none,a.mu⟩
@[irreducible] noncomputable def fu (j:Nat)(o:ME)(lo hi:ME):MG:=⟨λr ρ=>match r with
 | ⟨.ow,.li ys⟩=>match o.run ρ with
  | some (⟨.vw (some j') (some p),.li xs⟩,ρ1)=>match lo.run ρ1 with
   | some (⟨_,.im (.int a)⟩,ρ2)=>match hi.run ρ2 with
    | some (⟨_,.im (.int c)⟩,ρ3)=>if(decide (j'=j) && !(lo.mu++hi.mu).contains j&&decide (0<=a/\a<=c/\c<=xs.length/\xs.length+ys.length<=sizeLine))=true then(match ρ3[j]? with
     | some (some ⟨k,t⟩)=>if k.isOw=true then some ((ao [j] ρ3).set j (some ⟨k,t.put p (.li (xs.take a.toNat++ys++xs.drop c.toNat))⟩))else none
     | _=>none)else none
    | _=>none
   | _=>none
  | _=>none
 | _=>none,(o.mu++(lo.mu++hi.mu))++[j]⟩
theorem oO {to tl th:TE}{o lo hi:ME}{j:Nat}(ho:aU K to o)(hl:aU K tl lo)(hh:aU K th hi):g9 K (pE to (nu tl) (nu th)) (fu j o lo hi):=by
 intro Γ H ρ Z E Q v r ρ' hK hr S q
 simp only[fu]at hr q
 split at hr
 ·rename_i ys
  split at hr
  ·rename_i j' p xs ρ1 e1
   split at hr
   ·rename_i k1 a ρ2 e2
    split at hr
    ·rename_i k2 c ρ3 e3
     split at hr
     ·rename_i hc
      rw[By,By,decide_eq_true_eq,B7,decide_eq_true_eq]at hc
      obtain⟨⟨rfl,hmv⟩,hz⟩:=hc
      split at hr
      ·rename_i k t e4
       split at hr
       ·rename_i hw
        cases hr
        refine ho Γ H ρ Z _ _ _ _ hK e1 S λx H1 S1=>?_
        refine hl Γ H1 ρ1 Z _ _ _ _ hK e2 S1 λya H2 S2=>?_
        refine⟨a,aI (S2.rd ymS),?_⟩
        refine hh Γ H2 ρ2 Z _ _ _ _ hK e3 (S2.drop rfl) λyc H3 S3=>?_
        refine⟨c,aI (S3.rd ymS),?_⟩
        have S4:=S3.drop rfl
        have k1':az (lo.mu++hi.mu) ⟨none,x,⟨.vw (some j') (some p),.li xs⟩⟩=true:=by unfold az;simp only[Kd.root];rw[hmv];rfl
        have k2':∀M:List Nat,az M ⟨none,v,⟨.ow,.li ys⟩⟩=true:=λM=>rfl
        rw[af,ay k1',af,ay (k2' _)]at S4
        obtain⟨G,F,h1,h2,h3,h4,h5⟩:=Sim.mut (vs:=[v]) (ts:=[.li ys]) (S4.perm (List.Perm.swap _ _ _)) rfl e4 hw
        obtain⟨p0,xs',rfl,g1,g2,rfl⟩:=kY h1 λa ha=>h4 a (yaL _ ha)
        obtain⟨z,ez,g3⟩:=rN h2
        cases ez
        obtain⟨b0,ys',rfl,g4,g5,rfl⟩:=kY g3 λa ha=>h4 a (yaR _ ha)
        have hne:p0≠b0:=λz=>by
         have:=h3
         rw[z]at this
         simp at this
        refine⟨p0,b0,xs',ys',a,c,rfl,rfl,rfl,rfl,g1,g4,hne,hz.1,hz.2.1,by rw[g2.length];exact hz.2.2.1,by rw[g2.length,g5.length];exact hz.2.2.2,?_⟩
        refine kz (Q:=λ_ H'=>Q Z H') (F:=[b0]) (v:=.non) (i:=.non) g1 (((g2.take _).append g5).append (g2.drop _)) bM λv' H' G' a1 a2 a3 a4 a5 _=>q Z H' ?_
        have:=h5 H' _ G' a1 a2 a3 a4 a5
        rw[af]at this
        exact this
       ·cases hr
      ·cases hr
     ·cases hr
    ·cases hr
   ·cases hr
  ·cases hr
 ·cases hr
end
variable  {ι : Type}{C:ι->Cx}{P:Program}{W:World}{K:yF}{mg:Str->Option Value}{base:Heap}{k:Nat}
section
variable  {a b c e o tg iter:Expr}{es:List Expr}{ma mb mc m mo mi ml mh:ME}{ms:MA}{pos:Pos}{mt mt':MT}{s1 s2:MS}{g g':MG}{gs:MGs}{it it2:MI}{fr:Option (List (Option Nat))}
end
section
variable  {Γ:Gm}{H H':Hp}{ρ:Rho}{Z:St}{E:List En}{v w x y:V}{t s:T}{K:yF}{Q:VK}
@[irreducible] noncomputable def ac (n:Nat)(ms:MA):MA:=⟨λρ=>match ms.run ρ with
 | some (rs,ρ2)=>(match ρ2[n]? with
  | some (some r)=>(match ρ[n]? with
   | some (some _)=>some (rdR n r::rs,ρ2)
   | _=>none)
  | _=>none)
 | none=>none,ms.mu⟩
theorem oM {n:Nat}{ta:TA}{ms:MA}(h2:dP K ta ms):dP K (nr (yw n) ta) (ac n ms):=by with_unfolding_all
 intro Γ H ρ Z E Q rs ρ' hK hr S q
 simp only[ac]at hr
 split at hr
 ·rename_i rs1 ρ2 e2
  split at hr
  ·rename_i r e3
   split at hr
   ·rename_i r0 e4
    cases hr
    obtain⟨v,hv,_⟩:=S.var e4
    refine⟨v,hv,?_⟩
    refine h2 Γ H ρ Z E _ rs1 _ hK e2 S λvs H2 hl S2=>q (v::vs) H2 (by rw[BF,BF,hl]) ?_
    obtain⟨v',hv',S3⟩:=S2.var e3
    rw[hv]at hv'
    cases hv'
    exact S3
   ·cases hr
  ·cases hr
 ·cases hr
end
variable  {ι : Type}{C:ι->Cx}{P:Program}{W:World}{K:yF}{mg:Str->Option Value}{base:Heap}{k:Nat}
section
variable  {a b c e o tg iter:Expr}{es:List Expr}{ma mb mc m mo mi ml mh:ME}{ms:MA}{pos:Pos}{mt mt':MT}{s1 s2:MS}{g g':MG}{gs:MGs}{it it2:MI}{fr:Option (List (Option Nat))}
theorem qU (n:Nat){x:Str}{p:Pos}(h2:QA C K es ms)(hN:∀i,(C i).N[n]?=some x:=by intro _;rfl)(hv:∀i,Vis (C i).env.scope x:=by first|exact λ_=>Or.inl rfl|exact λ_=>Or.inr (Or.inl rfl)|exact λ_=>Or.inr (Or.inr rfl))(hd:(x==("__debug__" : Str))=false:=by decide)(hcd:(x==("__classdict__" : Str))=false:=by decide):QA C K (.Name x p::es) (ac n ms):=by
 obtain⟨ta,c,n',d⟩:=h2
 exact⟨_,λi=>fX (qu (hN i) (hv i) hd hcd) (c i) rfl,by rw[aR,n'];rfl,oM d⟩
theorem qV (j:Nat){lo hi:Expr}{p2:Pos}(ho:QE C K o mo)(hl:QE C K lo ml)(hh:QE C K hi mh)
  (ha:∀i v,assign (.Subscript o (.Slice (some lo) (some hi) none p2) pos) (C i).env v=(do
   let ov ←holding [v] (eval o (C i).env)
   let iv ←holding [v,ov] (eval (.Slice (some lo) (some hi) none p2) (C i).env)
   standAt pos
   holding [v,ov,iv] (setItem ov iv v)
   release [iv,v,ov] []):=by intro _ _;rfl):QG C K none (.Subscript o (.Slice (some lo) (some hi) none p2) pos) (fu j mo ml mh):=by
 obtain⟨to,p,r⟩:=ho
 obtain⟨tl,p',r'⟩:=hl
 obtain⟨th,p'',r''⟩:=hh
 exact⟨_,λi=>qw (p i) (j7 (p' i)) (j7 (p'' i)) (ha i),oO r r' r'',λf h=>by cases h⟩
end
variable  {ι : Type}{C:ι->Cx}{P:Program}{W:World}{K:yF}{mg:Str->Option Value}{base:Heap}{k:Nat}
section
variable  {Γ:Gm}{H:Hp}{ρ:Rho}{Z:St}{E:List En}
noncomputable def fgt (i:Nat) (ρ:Rho):Rho:=(ao [i] ρ).set i none
theorem Sim.fgt (S:Sim Γ H ρ Z E)(i:Nat):Sim Γ H (L2.fgt i ρ) Z (ae [i] E):=by
 have S1:=S.kill [i]
 unfold L2.fgt
 cases h:(ao [i] ρ)[i]? with
 | none=>rw[List.set_eq_of_length_le (by simpa using h)];exact S1
 | some o=>
  cases o with
  | none=>
   have:(ao [i] ρ).set i none=ao [i] ρ:=by
    apply C0
    intro j
    by_cases e:i=j
    ·subst e
     have hl:=(Bs.mp h).1
     rw[Cc hl,h]
    ·rw[BJ e]
   rw[this];exact S1
  | some r=>
   obtain⟨v,hv⟩:=S1.al i r h
   have p:=bd (k:=0) hv h
   have SL:SimL Γ H (⟨some (0+i),v,r⟩::(ae [i] E++au 0 Z ((ao [i] ρ).set i none))):=S1.sl.perm ((List.Perm.append_left _ p).trans BZ)
   obtain⟨L,g,e⟩:=SL
   obtain⟨x,L',rfl,ex,eL⟩:=aA e
   have hno:∀y∈ae [i] E++au 0 Z (ao [i] ρ),y.r.k.root≠some i:=by
    rw[df,←aD]
    exact iA (by simp)
   refine⟨⟨L',g.dropK λy hy j hj hr=>?_,eL⟩,λm r' hm=>?_,by rw[C7];exact S1.len,λy hy j hj=>by rw[C7];exact S1.hi y hy j hj⟩
   ·rw[ex]at hj
    have:j=i:=by simpa using hj.symm
    subst this
    have:y.e∈L'.map (·.e):=BB.mpr ⟨y,hy,rfl⟩
    rw[eL]at this
    have hp:=(List.Perm.append_left (ae [j] E) p).trans BZ
    exact hno y.e (hp.mem_iff.mpr (ymC _ this)) hr
   ·by_cases e:i=m
    ·subst e
     rw[Cc (Bs.mp h).1]at hm
     cases hm
    ·rw[BJ e]at hm
     exact S1.al m r' hm
noncomputable def fgts:List Nat->Rho->Rho
 | [],ρ=>ρ
 | i::ks,ρ=>fgts ks (fgt i ρ)
theorem Sim.fgts:∀{ks:List Nat} {ρ:Rho} {E:List En},Sim Γ H ρ Z E->Sim Γ H (L2.fgts ks ρ) Z (ae ks E)
 | [],ρ,E,S=>by rw[bn];exact S
 | i::ks,ρ,E,S=>by
  have:=Sim.fgts (ks:=ks) (S.fgt i)
  rw[af]at this
  exact this
@[irreducible] noncomputable def cf (ks:List Nat)(s:MS):MS:=⟨λρ=>match s.run ρ with
 | some (.nx,ρ1)=>some (.nx,fgts ks ρ1)
 | some (.ct,ρ1)=>some (.ct,fgts ks ρ1)
 | some (.rt t,ρ1)=>some (.rt t,ρ1)
 | some (.bk,ρ1)=>some (.bk,ρ1)
 | none=>none,s.mu++ks⟩
theorem uo {ks:List Nat}{ts:TS}{s:MS}(h:db K ts s):db K ts (cf ks s):=by
 intro Γ H ρ Z E D f ρ' hK hE hr S q
 simp only[cf]at hr q
 split at hr
 ·rename_i ρ1 e1
  cases hr
  exact h Γ H ρ Z E D _ _ hK hE e1 S λZ' H' S'=>q Z' H' (by rw[←af];exact S'.fgts)
 ·rename_i ρ1 e1
  cases hr
  exact h Γ H ρ Z E D _ _ hK hE e1 S λZ' H' S'=>q Z' H' (by rw[←af];exact S'.fgts)
 ·rename_i t ρ1 e1
  cases hr
  exact h Γ H ρ Z E D _ _ hK hE e1 S q.weak
 ·rename_i ρ1 e1
  cases hr
  exact h Γ H ρ Z E D _ _ hK hE e1 S q.weak
 ·cases hr
theorem ug (ks:List Nat){st:List Stmt}{s:MS}(h:QSs C K st s):QSs C K st (cf ks s):=by
 obtain⟨t,p,r⟩:=h
 exact⟨t,p,uo r⟩
end
structure W1 {α:Type}(o:Option α)(Q : α->Prop):Prop where
 ex:∃x,o=some x/\Q x
structure W2 {α β:Type}(o:Option (α × β))(Q : α->β->Prop):Prop where
 ex:∃x y,o=some (x,y)/\Q x y
structure WE (m:ME)(ρ:Rho)(Q:R->Rho->Prop):Prop where
 ex:∃x y,m.run ρ=some (x,y)/\Q x y
structure WT (m:MT)(ρ:Rho)(Q:Bool->Rho->Prop):Prop where
 ex:∃x y,m.run ρ=some (x,y)/\Q x y
structure WA (m:MA)(ρ:Rho)(Q:List R->Rho->Prop):Prop where
 ex:∃x y,m.run ρ=some (x,y)/\Q x y
structure WS (m:MS)(ρ:Rho)(Q:Fl->Rho->Prop):Prop where
 ex:∃x y,m.run ρ=some (x,y)/\Q x y
structure WG (m:MG)(r:R)(ρ:Rho)(Q:Rho->Prop):Prop where
 ex:∃x,m.run r ρ=some x/\Q x
structure WGs (m:MGs)(rs:List R)(ρ:Rho)(Q:Rho->Prop):Prop where
 ex:∃x,m.run rs ρ=some x/\Q x
structure WI (m:MI)(ρ:Rho)(Q:List R->List R->Rho->Prop):Prop where
 ex:∃r rs ρ',m.run ρ=some ((r,rs),ρ')/\Q r rs ρ'
structure WO (m:MO)(ρ:Rho)(Q:Option Int->Rho->Prop):Prop where
 ex:∃x y,m.run ρ=some (x,y)/\Q x y
structure Gu (b:Bool)(P:Prop):Prop where
 ex:b=true/\P
structure IsB (t:T)(Q:Bool->Prop):Prop where
 ex:∃b,t=.im (.bl b)/\Q b
structure IsN (t:T)(Q:Int->Prop):Prop where
 ex:∃n,t=.im (.int n)/\Q n
structure AtV (n:Nat)(ρ:Rho)(Q:R->Prop):Prop where
 ex:∃r,ρ[n]?=some (some r)/\Q r
structure AtC (k j:Nat)(rs:List R)(ρ:Rho)(Q:List Ac->Kd->T->Prop):Prop where
 ex:∃p t1 kd t0,rs[k]?=some ⟨.vw (some j) (some p),t1⟩/\((B1 rs.length).all λm=>decide (m=k)||aC [j] (rs.getD m ⟨.ow,.im .non⟩))=true/\ρ[j]?=some (some ⟨kd,t0⟩)/\kd.isOw=true/\Q p kd t0
structure AtT (k:Nat)(rs:List R)(P:Prop):Prop where
 ex:∃t1,rs[k]?=some ⟨.ow,t1⟩/\P
structure AtM (l:Nat)(ρ:Rho)(Q:Kd->T->Prop):Prop where
 ex:∃k t,ρ[l]?=some (some ⟨k,t⟩)/\k.isOw=true/\Q k t
structure AtS (j:Nat)(r:R)(Q:List Ac->T->Prop):Prop where
 ex:∃p s,r=⟨.vw (some j) (some p),s⟩/\Q p s
structure Two (rs:List R)(Q:R->R->Prop):Prop where
 ex:∃r1 r2,rs=[r1,r2]/\Q r1 r2
structure Three (rs:List R)(Q:R->R->R->Prop):Prop where
 ex:∃r1 r2 r3,rs=[r1,r2,r3]/\Q r1 r2 r3
structure Int1 (rs:List R)(Q:Int->Prop):Prop where
 ex:∃n,rs.map (·.t)=[.im (.int n)]/\Q n
structure Int2 (rs:List R)(Q:Int->Int->Prop):Prop where
 ex:∃m n,rs.map (·.t)=[.im (.int m),.im (.int n)]/\Q m n
theorem A7 {b:Bool}{Q:Bool->Prop}(q:Q b):IsB (.im (.bl b)) Q:=⟨b,rfl,q⟩
theorem A8 {n:Int}{Q:Int->Prop}(q:Q n):IsN (.im (.int n)) Q:=⟨n,rfl,q⟩
theorem AW {n:Nat}{ρ:Rho}{r:R}{Q:R->Prop}(h : ρ[n]?=some (some r))(q:Q r):AtV n ρ Q:=⟨r,h,q⟩
theorem AU {k j:Nat}{rs:List R}{ρ:Rho}{p:List Ac}{t1 t0:T}{kd:Kd}{Q:List Ac->Kd->T->Prop}(h1:rs[k]?=some ⟨.vw (some j) (some p),t1⟩)(h2:((B1 rs.length).all λm=>decide (m=k)||aC [j] (rs.getD m ⟨.ow,.im .non⟩))=true)(h3 : ρ[j]?=some (some ⟨kd,t0⟩))(h4:kd.isOw=true)(q:Q p kd t0):AtC k j rs ρ Q:=⟨p,t1,kd,t0,h1,h2,h3,h4,q⟩
theorem vW {l:Nat}{ρ:Rho}{k:Kd}{t:T}{Q:Kd->T->Prop}(h : ρ[l]?=some (some ⟨k,t⟩))(ho:k.isOw=true)(q:Q k t):AtM l ρ Q:=⟨k,t,h,ho,q⟩
theorem AV {j:Nat}{p:List Ac}{s:T}{Q:List Ac->T->Prop}(q:Q p s):AtS j ⟨.vw (some j) (some p),s⟩ Q:=⟨p,s,rfl,q⟩
theorem yx {r1 r2:R}{Q:R->R->Prop}(q:Q r1 r2):Two [r1,r2] Q:=⟨r1,r2,rfl,q⟩
theorem sP {rs:List R}{n:Int}{Q:Int->Prop}(h:rs.map (·.t)=[.im (.int n)])(q:Q n):Int1 rs Q:=⟨n,h,q⟩
theorem sQ {rs:List R}{m n:Int}{Q:Int->Int->Prop}(h:rs.map (·.t)=[.im (.int m),.im (.int n)])(q:Q m n):Int2 rs Q:=⟨m,n,h,q⟩
section
variable  {α β:Type}{ρ:Rho}{a b c m:ME}{ms:MA}{ct ct':MT}{s1 s2:MS}{g:MG}{gs:MGs}{it:MI}{QE':R->Rho->Prop}{QT':Bool->Rho->Prop}{QA':List R->Rho->Prop}{Q:Fl->Rho->Prop}{QG':Rho->Prop}{P:Prop}{o:Option α}{x : α}{Q1 : α->Prop}
theorem w1 (h:o=some x)(q:Q1 x):W1 o Q1:=⟨x,h,q⟩
theorem gu {b:Bool}(h:b=true)(p:P):Gu b P:=⟨h,p⟩
theorem WS.mono {Q2:Fl->Rho->Prop}(h:WS s1 ρ Q)(k:∀f ρ,Q f ρ->Q2 f ρ):WS s1 ρ Q2:=by obtain⟨x,y,e,q⟩:=h;exact⟨x,y,e,k x y q⟩
theorem WG.mono {r:R}{Q1 Q2:Rho->Prop}(h:WG g r ρ Q1)(k:∀ρ,Q1 ρ->Q2 ρ):WG g r ρ Q2:=by obtain⟨x,e,q⟩:=h;exact⟨x,e,k x q⟩
theorem WA.mono {Q1 Q2:List R->Rho->Prop}(h:WA ms ρ Q1)(k:∀rs ρ,Q1 rs ρ->Q2 rs ρ):WA ms ρ Q2:=by obtain⟨x,y,e,q⟩:=h;exact⟨x,y,e,k x y q⟩
theorem WT.mono {Q1 Q2:Bool->Rho->Prop}(h:WT ct ρ Q1)(k:∀b ρ,Q1 b ρ->Q2 b ρ):WT ct ρ Q2:=by obtain⟨x,y,e,q⟩:=h;exact⟨x,y,e,k x y q⟩
theorem WE.mono {Q2:R->Rho->Prop}(h:WE m ρ QE')(k:∀f ρ,QE' f ρ->Q2 f ρ):WE m ρ Q2:=by obtain⟨x,y,e,q⟩:=h;exact⟨x,y,e,k x y q⟩
theorem w_C {i:I}(q:QE' ⟨.ow,.im i⟩ ρ):WE (mC i) ρ QE':=by with_unfolding_all exact⟨_,_,rfl,q⟩
theorem lr {n:Nat}{r:R}(h : ρ[n]?=some (some r))(q:QE' (rdR n r) ρ):WE (ah n) ρ QE':=⟨rdR n r,ρ,by simp only[ah,h],q⟩
theorem Bp {f:T->T->Option T}(h:WE a ρ λra ρ1=>WE b ρ1 λrb ρ2=>Gu (aC b.mu ra) (W1 (f ra.t rb.t) λt=>QE' ⟨.ow,t⟩ ρ2)):WE (mOp f a b) ρ QE':=by
 obtain⟨ra,ρ1,e1,rb,ρ2,e2,al,t,e3,q⟩:=h
 exact⟨⟨.ow,t⟩,ρ2,by simp only[mOp,e1,e2,al,if_true,e3],q⟩
theorem Br {f:T->Option T}(h:WE a ρ λra ρ1=>W1 (f ra.t) λt=>QE' ⟨.ow,t⟩ ρ1):WE (mUn f a) ρ QE':=by
 obtain⟨ra,ρ1,e1,t,e3,q⟩:=h
 exact⟨⟨.ow,t⟩,ρ1,by simp only[mUn,e1,e3],q⟩
theorem w_B {f:List T->Option T}(h:WA ms ρ λrs ρ1=>W1 (f (rs.map (·.t))) λt=>QE' ⟨.ow,t⟩ ρ1):WE (mB f ms) ρ QE':=by
 obtain⟨ra,ρ1,e1,t,e3,q⟩:=h
 exact⟨⟨.ow,t⟩,ρ1,by simp only[mB,e1,e3],q⟩
theorem w_M {f:T->List T->Option T}(h:WE a ρ λra ρ1=>WA ms ρ1 λrs ρ2=>Gu (aC ms.mu ra) (W1 (f ra.t (rs.map (·.t))) λt=>QE' ⟨.ow,t⟩ ρ2)):WE (mM f a ms) ρ QE':=by
 obtain⟨ra,ρ1,e1,rb,ρ2,e2,al,t,e3,q⟩:=h
 exact⟨⟨.ow,t⟩,ρ2,by simp only[mM,e1,e2,al,if_true,e3],q⟩
theorem yG (h:WE a ρ λra ρ1=>WE b ρ1 λrb ρ2=>Gu (aC b.mu ra) (W1 (ixR ra rb.t) λr=>QE' r ρ2)):WE (mIx a b) ρ QE':=by
 obtain⟨ra,ρ1,e1,rb,ρ2,e2,al,r,e3,q⟩:=h
 exact⟨r,ρ2,by simp only[mIx,e1,e2,al,if_true,e3],q⟩
theorem u5 {QO':Option Int->Rho->Prop}(q:QO' none ρ):WO mNoPart ρ QO':=by with_unfolding_all exact⟨_,_,rfl,q⟩
theorem u6 {QO':Option Int->Rho->Prop}(h:WE a ρ λr ρ1=>IsN r.t λn=>QO' (some n) ρ1):WO (dL a) ρ QO':=by
 obtain⟨⟨k,t⟩,ρ1,e1,n,e2,q⟩:=h
 cases e2
 exact⟨some n,ρ1,by simp only[dL,e1],q⟩
theorem Bq {lo hi:MO}(h:WE a ρ λra ρ1=>WO lo ρ1 λl ρ2=>WO hi ρ2 λu ρ3=>Gu (aC (lo.mu++hi.mu) ra) (W1 (slR ra l u) λr=>QE' r ρ3)):WE (mSl a lo hi) ρ QE':=by
 obtain⟨ra,ρ1,e1,l,ρ2,e2,u,ρ3,e3,al,r,e4,q⟩:=h
 exact⟨r,ρ3,by simp only[mSl,e1,e2,e3,al,if_true,e4],q⟩
theorem yB (h:WE a ρ λr ρ1=>IsB r.t λbb=>(bb=true->WE b ρ1 QE')/\(bb=false->QE' ⟨.ow,.im (.bl false)⟩ ρ1)):WE (iw a b) ρ QE':=by
 obtain⟨⟨k,t⟩,ρ1,e1,bb,e2,q1,q2⟩:=h
 cases e2
 cases bb with
 | true=>obtain⟨p,ρ2,e,q⟩:=q1 rfl;exact⟨p,ρ2,by simp only[iw,e1,e],q⟩
 | false=>exact⟨_,_,by simp only[iw,e1],q2 rfl⟩
theorem yJ (h:WE a ρ λr ρ1=>IsB r.t λbb=>QE' ⟨.ow,.im (.bl !bb)⟩ ρ1):WE (jp a) ρ QE':=by
 obtain⟨⟨k,t⟩,ρ1,e1,bb,e2,q⟩:=h
 cases e2
 exact⟨_,_,by simp only[jp,e1],q⟩
theorem yH {mv:List Nat}(h:WA ms ρ λrs ρ1=>Gu (decide (rs.length<=1000)) (W2 (consL mv rs ρ1) λts ρ2=>QE' ⟨.ow,bz ts⟩ ρ2)):WE (aV mv ms) ρ QE':=by
 obtain⟨rs,ρ1,e1,hl,ts,ρ2,e2,q⟩:=h
 exact⟨⟨.ow,bz ts⟩,ρ2,by simp only[aV,e1,if_pos (of_decide_eq_true hl),e2],q⟩
theorem yK {mv:List Nat}(h:WA ms ρ λrs ρ1=>Gu (decide (rs.length<=1000)) (W2 (consL mv rs ρ1) λts ρ2=>QE' ⟨.ow,kX ts⟩ ρ2)):WE (av mv ms) ρ QE':=by
 obtain⟨rs,ρ1,e1,hl,ts,ρ2,e2,q⟩:=h
 exact⟨⟨.ow,kX ts⟩,ρ2,by simp only[av,e1,if_pos (of_decide_eq_true hl),e2],q⟩
theorem uQ {k j:Nat}{run:List T->Option (T×T)}(h:WA ms ρ λrs ρ1=>AtC k j rs ρ1 λp kd t0=>W2 (run (rs.map (·.t))) λt s'=>QE' ⟨.ow,t⟩ ((ao [j] ρ1).set j (some ⟨kd,t0.put p s'⟩))):WE (aj k j run ms) ρ QE':=by
 obtain⟨rs,ρ1,e1,p,t1,kd,t0,e2,al,e3,ow,t,s',e4,q⟩:=h
 refine⟨⟨.ow,t⟩,(ao [j] ρ1).set j (some ⟨kd,t0.put p s'⟩),?_,q⟩
 simp only[aj,e1]
 simp only[e2]
 rw[if_pos (by rw[By];exact⟨rfl,al⟩)]
 simp only[e4,e3,ow,if_true]
theorem sf {l:Nat}{mv:List Nat}{f:T->List T->Option (T×I)}(h:WE a ρ λra ρ1=>WA ms ρ1 λrs ρ2=>Gu (aC ms.mu ra) (W2 (mutR l mv f ra rs ρ2) QE')):WE (cM l mv f a ms) ρ QE':=by
 obtain⟨ra,ρ1,e1,rs,ρ2,e2,al,p,ρ3,e3,q⟩:=h
 exact⟨p,ρ3,by simp only[cM,e1,e2,al,if_true,e3],q⟩
theorem l9 {l:Nat}{mv:List Nat}{f:T->List T->Option (T×I)}{p:List Ac}{s:T}{rs:List R}{QQ:R->Rho->Prop}(hm:mv.contains l=false)(h:W2 (consL mv rs ρ) λts ρ2=>AtM l ρ2 λk t=>W2 (f s ts) λs' res=>QQ ⟨.ow,.im res⟩ ((ao [l] ρ2).set l (some ⟨k,t.put p s'⟩))):W2 (mutR l mv f ⟨.vw (some l) (some p),s⟩ rs ρ) QQ:=by
 obtain⟨ts,ρ2,hc,k,t,ho,hk,s',res,e,q⟩:=h
 refine⟨_,_,?_,q⟩
 unfold mutR
 simp only[decide_true,hm,hc,e,ho,hk,Em,C6,if_true]
theorem yL (q:QA' [] ρ):WA mNil ρ QA':=by with_unfolding_all exact⟨_,_,rfl,q⟩
theorem uU (h:WE m ρ λr ρ1=>WA ms ρ1 λrs ρ2=>Gu (aC ms.mu r) (QA' (r::rs) ρ2)):WA (aa m ms) ρ QA':=by
 obtain⟨ra,ρ1,e1,rb,ρ2,e2,al,q⟩:=h
 exact⟨ra::rb,ρ2,by simp only[aa,e1,e2,al,if_true],q⟩
theorem sj {n:Nat}{r0:R}(h0 : ρ[n]?=some (some r0))(h:WA ms ρ λrs ρ2=>AtV n ρ2 λr=>QA' (rdR n r::rs) ρ2):WA (ac n ms) ρ QA':=by
 obtain⟨rs,ρ2,e1,r,e2,q⟩:=h
 exact⟨rdR n r::rs,ρ2,by simp only[ac,e1,e2,h0],q⟩
theorem u7 (h:WE a ρ λr ρ1=>IsB r.t λbb=>QT' bb ρ1):WT (ba a) ρ QT':=by
 obtain⟨⟨k,t⟩,ρ1,e1,bb,e2,q⟩:=h
 cases e2
 exact⟨bb,ρ1,by simp only[ba,e1],q⟩
theorem yU (h:WT ct ρ λbb ρ1=>QT' (!bb) ρ1):WT (lK ct) ρ QT':=by
 obtain⟨r,ρ1,e1,q⟩:=h
 exact⟨_,_,by simp only[lK,e1],q⟩
theorem yT (h:WT ct ρ λbb ρ1=>(bb=true->WT ct' ρ1 QT')/\(bb=false->QT' false ρ1)):WT (kS ct ct') ρ QT':=by
 obtain⟨bb,ρ1,e1,q1,q2⟩:=h
 cases bb with
 | true=>obtain⟨p,ρ2,e,q⟩:=q1 rfl;exact⟨p,ρ2,by simp only[kS,e1,e],q⟩
 | false=>exact⟨_,_,by simp only[kS,e1],q2 rfl⟩
theorem AQ (h:WT ct ρ λbb ρ1=>(bb=true->QT' true ρ1)/\(bb=false->WT ct' ρ1 QT')):WT (mOr ct ct') ρ QT':=by
 obtain⟨bb,ρ1,e1,q1,q2⟩:=h
 cases bb with
 | false=>obtain⟨p,ρ2,e,q⟩:=q2 rfl;exact⟨p,ρ2,by simp only[mOr,e1,e],q⟩
 | true=>exact⟨_,_,by simp only[mOr,e1],q1 rfl⟩
theorem iT (q:QT' true ρ):WT mYes ρ QT':=by with_unfolding_all exact⟨_,_,rfl,q⟩
theorem uX {i:Nat}{r:R}(h:(ef ρ i&&aC [i] r)=true)(q:QG' ((ao [i] ρ).set i (some r))):WG (ag i) r ρ QG':=⟨(ao [i] ρ).set i (some r),by simp only[ag,h,if_true],q⟩
theorem uY (q:QG' ρ):WGs mGNil [] ρ QG':=by with_unfolding_all exact⟨_,rfl,q⟩
theorem sn {r:R}{rs:List R}(al:rs.all (aC g.mu)=true)(h:WG g r ρ λρ1=>WGs gs rs ρ1 QG'):WGs (aL g gs) (r::rs) ρ QG':=by
 obtain⟨ρ1,e1,ρ2,e2,q⟩:=h
 exact⟨ρ2,by simp only[aL,al,if_true,e1,e2],q⟩
theorem yQ {r:R}{rs:List R}(hp:parts r=some rs)(h:WGs gs rs ρ QG'):WG (cr gs) r ρ QG':=by
 obtain⟨ρ2,e2,q⟩:=h
 exact⟨ρ2,by simp only[cr,hp,e2],q⟩
theorem yP {j:Nat}{tv:T}(h:WE a ρ λra ρ1=>WE b ρ1 λrb ρ2=>AtS j ra λp s=>Gu (!b.mu.contains j) (AtM j ρ2 λk t=>W1 (rQ s rb.t tv) λs'=>QG' ((ao [j] ρ2).set j (some ⟨k,t.put p s'⟩)))):WG (lL j a b) ⟨.ow,tv⟩ ρ QG':=by
 obtain⟨ra,ρ1,e1,rb,ρ2,e2,p,s,rfl,hm,k,t,e3,ow,s',e4,q⟩:=h
 refine⟨_,?_,q⟩
 simp only[lL,e1,e2,hm,decide_true,C6,if_true,e4,e3,ow]
theorem sk {j:Nat}{ys:List I}(h:WE a ρ λra ρ1=>WE b ρ1 λrb ρ2=>WE c ρ2 λrc ρ3=>∃p xs k t i n,ra=⟨.vw (some j) (some p),.li xs⟩/\rb.t=.im (.int i)/\rc.t=.im (.int n)/\(b.mu++c.mu).contains j=false/\(0<=i/\i<=n/\n<=xs.length/\xs.length+ys.length<=sizeLine)/\ρ3[j]?=some (some ⟨k,t⟩)/\k.isOw=true/\QG' ((ao [j] ρ3).set j (some ⟨k,t.put p (.li (xs.take i.toNat++ys++xs.drop n.toNat))⟩))):WG (fu j a b c) ⟨.ow,.li ys⟩ ρ QG':=by
 obtain⟨ra,ρ1,e1,⟨_,_⟩,ρ2,e2,⟨_,_⟩,ρ3,e3,p,xs,k,t,i,n,rfl,rfl,rfl,hm,hz,e4,ow,q⟩:=h
 refine⟨_,?_,q⟩
 simp only[fu,e1,e2,e3,hm,decide_true,Em,DX]
 rw[if_pos (decide_eq_true hz)]
 simp only[e4,ow,if_true]
theorem yI (q:Q .nx ρ):WS mNext ρ Q:=by with_unfolding_all exact⟨_,_,rfl,q⟩
@[irreducible] def wd (b:MS)(Q:Fl->Rho->Prop):Fl->Rho->Prop
 | .nx,ρ=>WS b ρ Q
 | .rt t,ρ=>Q (.rt t) ρ
 | .bk,ρ=>Q .bk ρ
 | .ct,ρ=>Q .ct ρ
theorem vR (h:WS s1 ρ (wd s2 Q)):WS (aq s1 s2) ρ Q:=by with_unfolding_all
 obtain⟨f,ρ1,e1,q⟩:=h
 cases f with
 | nx=>have q:WS s2 ρ1 Q:=q;obtain⟨p,ρ2,e,q⟩:=q;exact⟨p,ρ2,by simp only[aq,e1,e],q⟩
 | rt t=>exact⟨.rt t,ρ1,by simp only[aq,e1],q⟩
 | bk=>exact⟨.bk,ρ1,by simp only[aq,e1],q⟩
 | ct=>exact⟨.ct,ρ1,by simp only[aq,e1],q⟩
theorem cN (h:WT ct ρ λbb ρ1=>(bb=true->WS s1 ρ1 Q)/\(bb=false->WS s2 ρ1 Q)):WS (mIf ct s1 s2) ρ Q:=by
 obtain⟨bb,ρ1,e1,q1,q2⟩:=h
 cases bb with
 | true=>obtain⟨p,ρ2,e,q⟩:=q1 rfl;exact⟨p,ρ2,by simp only[mIf,e1,e],q⟩
 | false=>obtain⟨p,ρ2,e,q⟩:=q2 rfl;exact⟨p,ρ2,by simp only[mIf,e1,e],q⟩
theorem l8 (h:WE m ρ λ_ ρ1=>Q .nx ρ1):WS (bp m) ρ Q:=by
 obtain⟨r,ρ1,e1,q⟩:=h
 exact⟨.nx,ρ1,by simp only[bp,e1],q⟩
theorem AJ (h:WE m ρ λr ρ1=>WG g r ρ1 λρ2=>Q .nx ρ2):WS (aE m g) ρ Q:=by
 obtain⟨r,ρ1,e1,ρ2,e2,q⟩:=h
 exact⟨.nx,ρ2,by simp only[aE,e1,e2],q⟩
theorem AO (h:WE m ρ λr ρ1=>W2 (oQ r ρ1) λt ρ2=>Q (.rt t) ρ2):WS (bq m) ρ Q:=by
 obtain⟨r,ρ1,e1,t,ρ2,e2,q⟩:=h
 exact⟨.rt t,ρ2,by simp only[bq,e1,e2],q⟩
theorem AN {i j:Nat}(h:WA ms ρ λrs ρ1=>Two rs λr1 r2=>Gu (iB r1&&iB r2) (Gu (ef ρ1 i&&aC [i] r1&&aC [i] r2&&ef ρ1 j&&aC [j] r2) (Q .nx ((ao [j] ((ao [i] ρ1).set i (some r1))).set j (some r2))))):WS (gK i j ms) ρ Q:=by
 obtain⟨rs,ρ1,e1,r1,r2,rfl,hb,hc,q⟩:=h
 refine⟨.nx,(ao [j] ((ao [i] ρ1).set i (some r1))).set j (some r2),?_,q⟩
 rw[By]at hb
 simp only[gK,sY,e1,CO,D7,hb.1,hb.2,Ep,C6,if_true,hc]
@[irreducible] def y4 (ks:List Nat)(Q:Fl->Rho->Prop):Fl->Rho->Prop
 | .nx,ρ=>Q .nx (fgts ks ρ)
 | .ct,ρ=>Q .ct (fgts ks ρ)
 | .rt t,ρ=>Q (.rt t) ρ
 | .bk,ρ=>Q .bk ρ
theorem AK {ks:List Nat}(h:WS s1 ρ (y4 ks Q)):WS (cf ks s1) ρ Q:=by with_unfolding_all
 obtain⟨f,ρ1,e1,q⟩:=h
 cases f with
 | nx=>exact⟨_,_,by simp only[cf,e1],q⟩
 | ct=>exact⟨_,_,by simp only[cf,e1],q⟩
 | rt t=>exact⟨_,_,by simp only[cf,e1],q⟩
 | bk=>exact⟨_,_,by simp only[cf,e1],q⟩
def nO (Inv:Nat->Rho->Prop)(i:Nat)(Q:Fl->Rho->Prop):Fl->Rho->Prop
 | .nx,ρ=>Inv (i+1) ρ
 | .ct,ρ=>Inv (i+1) ρ
 | .bk,ρ=>Q .nx ρ
 | .rt t,ρ=>Q (.rt t) ρ
theorem mN {items:List R}(Inv:Nat->Rho->Prop)(hs:∀i r ρ,items[i]?=some r->Inv i ρ->WG g r ρ λρ1=>WS s1 ρ1 (nO Inv i Q))(he:∀ρ,Inv items.length ρ->Q .nx ρ):∀(l:List R) (i:Nat) (ρ:Rho),items.drop i=l->i<=items.length->Inv i ρ->W2 (dv g.run s1.run l ρ) Q
 | [],i,ρ,hl,hi,hI=>by
  have:i=items.length:=by have:=congrArg CJ hl;simp at this;omega
  subst this
  exact⟨_,_,rfl,he ρ hI⟩
 | r::l,i,ρ,hl,hi,hI=>by
  have hr:items[i]?=some r:=by rw[←Eg,hl];rfl
  have hlt:=(Bs.mp hr).1
  have hl':items.drop (i+1)=l:=by rw[←Eo,hl];rfl
  obtain⟨ρ1,e1,f,ρ2,e2,q⟩:=hs i r ρ hr hI
  have k:=mN Inv hs he l (i+1) ρ2 hl' hlt
  simp only[dv,e1,e2]
  cases f with
  | nx=>exact k q
  | ct=>exact k q
  | bk=>exact⟨_,_,rfl,q⟩
  | rt t=>exact⟨_,_,rfl,q⟩
theorem r9 (h:WI it ρ λsrc items ρ1=>Gu (src.all (aC (g.mu++s1.mu))&&items.all (aC (g.mu++s1.mu))) (∃Inv:Nat->Rho->Prop,Inv 0 ρ1/\(∀i r ρ,items[i]?=some r->Inv i ρ->WG g r ρ λρ1=>WS s1 ρ1 (nO Inv i Q))/\∀ρ,Inv items.length ρ->Q .nx ρ)):WS (bX it g s1) ρ Q:=by
 obtain⟨src,items,ρ1,e1,al,Inv,h0,hs,he⟩:=h
 obtain⟨p,ρ2,e,q⟩:=mN (Q:=Q) Inv hs he items 0 ρ1 rfl (De _) h0
 exact⟨p,ρ2,by simp only[bX,e1];rw[if_pos al];exact e,q⟩
theorem jJ {M:List Nat}{items:List R}(h:∀r∈items,r.k=.ow):items.all (aC M)=true:=Ch.mpr λr hr=>by unfold aC cq;rw[h r hr];rfl
theorem yD {i:Nat}(h:WA ms ρ λrs ρ1=>∃n:Int,rs.map (·.t)=[.im (.int n)]/\-(2^62)<=n/\n<2^62/\(∃Inv:Nat->Rho->Prop,Inv 0 ρ1/\(∀(j:Nat) ρ,(j:Int)<n->Inv j ρ->WG (ag i) (iF j) ρ λρ1=>WS s1 ρ1 (nO Inv j Q))/\∀ρ,Inv n.toNat ρ->Q .nx ρ)):WS (bX (aP ms) (ag i) s1) ρ Q:=by
 obtain⟨rs,ρ1,e1,n,e2,h1,h2,Inv,h0,hs,he⟩:=h
 refine r9 ⟨[lU],fw 0 n.toNat,ρ1,by simp only[aP,e1,e2,l1,isI];rw[if_pos ⟨h1,h2⟩],?_,Inv,h0,λj r ρ hr hI=>?_,λρ hI=>he ρ (by simpa[fw]using hI)⟩
 ·rw[By]
  exact⟨rfl,jJ λr hr=>by obtain⟨x,_,rfl⟩:=BB.mp hr;rfl⟩
 ·obtain⟨x,hx,rfl⟩:=aN hr
  obtain⟨a1,a2⟩:=Bs.mp hx
  simp at a1 a2
  subst a2
  have:=hs j ρ (by omega) hI
  rw[Ev]
  exact this
theorem uS {i:Nat}(h:WA ms ρ λrs ρ1=>∃m n:Int,rs.map (·.t)=[.im (.int m),.im (.int n)]/\(-(2^62)<=m/\m<2^62/\-(2^62)<=n/\n<2^62)/\(∃Inv:Nat->Rho->Prop,Inv 0 ρ1/\(∀(j:Nat) ρ,m+(j:Int)<n->Inv j ρ->WG (ag i) (iF (m+j)) ρ λρ1=>WS s1 ρ1 (nO Inv j Q))/\∀ρ,Inv (n-m).toNat ρ->Q .nx ρ)):WS (bX (dM ms) (ag i) s1) ρ Q:=by
 obtain⟨rs,ρ1,e1,m,n,e2,h1,Inv,h0,hs,he⟩:=h
 refine r9 ⟨[lU],fw m (n-m).toNat,ρ1,by simp only[dM,e1,e2,l2,l1,ii2,isI];rw[if_pos h1],?_,Inv,h0,λj r ρ hr hI=>?_,λρ hI=>he ρ (by simpa[fw]using hI)⟩
 ·rw[By]
  exact⟨rfl,jJ λr hr=>by obtain⟨x,_,rfl⟩:=BB.mp hr;rfl⟩
 ·obtain⟨x,hx,rfl⟩:=aN hr
  obtain⟨a1,a2⟩:=Bs.mp hx
  simp at a1 a2
  subst a2
  exact hs j ρ (by omega) hI
theorem yC (h:WE m ρ λr ρ1=>∃is:List I,dU r=some (is.map λi=>⟨.ow,.im i⟩)/\aC (g.mu++s1.mu) r=true/\(∃Inv:Nat->Rho->Prop,Inv 0 ρ1/\(∀j x ρ,is[j]?=some x->Inv j ρ->WG g ⟨.ow,.im x⟩ ρ λρ1=>WS s1 ρ1 (nO Inv j Q))/\∀ρ,Inv is.length ρ->Q .nx ρ)):WS (bX (mIt m) g s1) ρ Q:=by
 obtain⟨r,ρ1,e1,is,e2,al,Inv,h0,hs,he⟩:=h
 refine r9 ⟨[r],is.map (λi=>⟨.ow,.im i⟩),ρ1,by simp only[mIt,e1,e2],?_,Inv,h0,λj r ρ hr hI=>?_,λρ hI=>he ρ (by simpa using hI)⟩
 ·rw[By]
  exact⟨by rw[CO,D7,al];rfl,jJ λr hr=>by obtain⟨x,_,rfl⟩:=BB.mp hr;rfl⟩
 ·obtain⟨x,hx,rfl⟩:=aN hr
  exact hs j x ρ hx hI
theorem uT (Inv:Nat->Rho->Prop)(n:Nat)(h0:Inv n ρ) (hs:∀n ρ,Inv n ρ->WT ct ρ λbb ρ1=>(bb=false->Q .nx ρ1)/\(bb=true->WS s1 ρ1 λf ρ2=>match f with
  | .nx=>∃m,m<n/\Inv m ρ2
  | .ct=>∃m,m<n/\Inv m ρ2
  | .bk=>Q .nx ρ2
  | .rt t=>Q (.rt t) ρ2)):WS (dY ct s1) ρ Q:=by
 have key:∀n ρ,Inv n ρ->W2 (itW ct s1 (n+1) ρ) Q:=by
  intro n
  induction n using Nat.strongRecOn with
  | _ n ih=>
   intro ρ hI
   obtain⟨bb,ρ1,e1,q1,q2⟩:=hs n ρ hI
   cases bb with
   | false=>exact⟨.nx,ρ1,by simp only[itW,e1],q1 rfl⟩
   | true=>
    obtain⟨f,ρ2,e2,q⟩:=q2 rfl
    cases f with
    | nx=>
     obtain⟨m,hm,hI'⟩:=q
     obtain⟨p,ρ3,e,q⟩:=ih m hm ρ2 hI'
     exact⟨p,ρ3,by simp only[itW,e1,e2];exact dk e _ (by omega),q⟩
    | ct=>
     obtain⟨m,hm,hI'⟩:=q
     obtain⟨p,ρ3,e,q⟩:=ih m hm ρ2 hI'
     exact⟨p,ρ3,by simp only[itW,e1,e2];exact dk e _ (by omega),q⟩
    | bk=>exact⟨.nx,ρ2,by simp only[itW,e1,e2],q⟩
    | rt t=>exact⟨.rt t,ρ2,by simp only[itW,e1,e2],q⟩
 obtain⟨p,ρ3,e,q⟩:=key n ρ h0
 exact⟨p,ρ3,oZ e,q⟩
theorem hU {fr:List (Option Nat)}{M:List Nat}{items:List R}{QC:List T->Rho->Prop}(Inv:Nat->List T->Rho->Prop)
  (hs:∀i r acc ρ,items[i]?=some r->Inv i acc ρ->WG g (i4 (piF fr) r) (inR fr ρ) λρ1=>WT ct ρ1 λbb ρ2=>(bb=true->WE m ρ2 λr ρ3=>∃t,r=⟨.ow,t⟩/\Inv (i+1) (acc++[t]) (cV fr M ρ3 ρ))/\(bb=false->Inv (i+1) acc (cV fr M ρ2 ρ)))
  (he:∀acc ρ,Inv items.length acc ρ->QC acc ρ):∀(l:List R) (i:Nat) (acc:List T) (ρ:Rho),items.drop i=l->i<=items.length->Inv i acc ρ->W2 (bB fr M g ct m l ρ acc) QC
 | [],i,acc,ρ,hl,hi,hI=>by
  have:i=items.length:=by have:=congrArg CJ hl;simp at this;omega
  subst this
  exact⟨_,_,rfl,he acc ρ hI⟩
 | r::l,i,acc,ρ,hl,hi,hI=>by
  have hr:items[i]?=some r:=by rw[←Eg,hl];rfl
  have hlt:=(Bs.mp hr).1
  have hl':items.drop (i+1)=l:=by rw[←Eo,hl];rfl
  obtain⟨ρ1,e1,bb,ρ2,e2,q1,q2⟩:=hs i r acc ρ hr hI
  cases bb with
  | true=>
   obtain⟨r',ρ3,e3,t,rfl,q⟩:=q1 rfl
   simp only[bB,e1,e2,e3]
   exact hU Inv hs he l (i+1) _ _ hl' hlt q
  | false=>
   simp only[bB,e1,e2]
   exact hU Inv hs he l (i+1) _ _ hl' hlt (q2 rfl)
theorem kA {fr:List (Option Nat)} (h:WI it ρ λsrc items ρ1=>Gu (dS fr ρ1.length&&dX (g.mu++(ct.mu++m.mu)) fr.length&&src.all (aC (muF fr (g.mu++(ct.mu++m.mu))))) (items.length<sizeLine/\∃Inv:Nat->List T->Rho->Prop,Inv 0 [] ρ1 ∧
  (∀i r acc ρ,items[i]?=some r->Inv i acc ρ->WG g (i4 (piF fr) r) (inR fr ρ) λρ1=>WT ct ρ1 λbb ρ2=>(bb=true->WE m ρ2 λr ρ3=>∃t,r=⟨.ow,t⟩/\Inv (i+1) (acc++[t]) (cV fr (g.mu++(ct.mu++m.mu)) ρ3 ρ))/\(bb=false->Inv (i+1) acc (cV fr (g.mu++(ct.mu++m.mu)) ρ2 ρ))) ∧
  ∀acc ρ,Inv items.length acc ρ->QE' ⟨.ow,bz acc⟩ ρ)):WE (aQ fr it g ct m) ρ QE':=by
 obtain⟨src,items,ρ1,e1,al,hl,Inv,h0,hs,he⟩:=h
 obtain⟨ts,ρ2,e,q⟩:=hU (QC:=λacc ρ=>QE' ⟨.ow,bz acc⟩ ρ) Inv hs he items 0 [] ρ1 rfl (De _) h0
 refine⟨⟨.ow,bz ts⟩,ρ2,?_,q⟩
 simp only[aQ,e1]
 rw[if_pos (by rw[By];exact⟨al,decide_eq_true hl⟩)]
 simp only[e]
theorem uZ {QI':List R->List R->Rho->Prop}(h:WA ms ρ λrs ρ1=>∃n:Int,rs.map (·.t)=[.im (.int n)]/\(-(2^62)<=n/\n<2^62)/\QI' [lU] (fw 0 n.toNat) ρ1):WI (aP ms) ρ QI':=by
 obtain⟨rs,ρ1,e1,n,e2,h1,q⟩:=h
 exact⟨_,_,_,by simp only[aP,e1,e2,l1,isI];rw[if_pos h1],q⟩
theorem u4 {QI':List R->List R->Rho->Prop}(h:WA ms ρ λrs ρ1=>∃m n:Int,rs.map (·.t)=[.im (.int m),.im (.int n)]/\(-(2^62)<=m/\m<2^62/\-(2^62)<=n/\n<2^62)/\QI' [lU] (fw m (n-m).toNat) ρ1):WI (dM ms) ρ QI':=by
 obtain⟨rs,ρ1,e1,m,n,e2,h1,q⟩:=h
 exact⟨_,_,_,by simp only[dM,e1,e2,l2,l1,ii2,isI];rw[if_pos h1],q⟩
theorem yR {QI':List R->List R->Rho->Prop}(h:WE m ρ λr ρ1=>W1 (dU r) λrs=>QI' [r] rs ρ1):WI (mIt m) ρ QI':=by
 obtain⟨r,ρ1,e1,rs,e2,q⟩:=h
 exact⟨[r],rs,ρ1,by simp only[mIt,e1,e2],q⟩
end
section
variable  {α β:Type}{ρ:Rho}{QT1:T->Prop}{QR:R->Prop}{QI1:T->I->Prop}{m:MS}{n k:Nat}{ts:List T}
@[irreducible] def fP (R:T->Prop):Fl->Rho->Prop
 | .rt t,_=>R t
 | .nx,_=>R (.im .non)
 | _,_=>False
@[irreducible] def fI (k:Nat)(R:T->T->Prop):Fl->Rho->Prop
 | .rt t,ρ=>∃s',ρ[k]?=some (some ⟨.io 0,s'⟩)/\R t s'
 | .nx,ρ=>∃s',ρ[k]?=some (some ⟨.io 0,s'⟩)/\R (.im .non) s'
 | _,_=>False
theorem nh {run:List T->Option T}{l:Nat}(hrun:run ts=if ts.length=l then fY m n ts else none)(hl:ts.length=l)(h:WS m (bY ts n) (fP QT1)):W1 (run ts) QT1:=by with_unfolding_all
 rw[hrun,if_pos hl]
 obtain⟨f,ρ,e,q⟩:=h
 cases f with
 | nx=>exact⟨_,by simp only[fY,e],q⟩
 | rt t=>exact⟨_,by simp only[fY,e],q⟩
 | bk=>cases q
 | ct=>cases q
theorem e8 {run:List T->Option (T×T)}{l:Nat}{Q2:T->T->Prop}(hrun:run ts=if ts.length=l then cY m k n ts else none)(hl:ts.length=l)(h:WS m (dA k ts n) (fI k Q2)):W2 (run ts) Q2:=by with_unfolding_all
 rw[hrun,if_pos hl]
 obtain⟨f,ρ,e,q⟩:=h
 cases f with
 | nx=>have q:∃s',ρ[k]?=some (some ⟨.io 0,s'⟩)/\Q2 (.im .non) s':=q;obtain⟨s',e2,q⟩:=q;exact⟨_,_,by simp only[cY,e,e2],q⟩
 | rt t=>have q:∃s',ρ[k]?=some (some ⟨.io 0,s'⟩)/\Q2 t s':=q;obtain⟨s',e2,q⟩:=q;exact⟨_,_,by simp only[cY,e,e2],q⟩
 | bk=>cases q
 | ct=>cases q
variable  {a b:Int}{s z:Str}{is js:List I}{i j:I}
theorem wU (q:QT1 (.im (.int (a+b)))):W1 (aW (.im (.int a)) (.im (.int b))) QT1:=by with_unfolding_all exact⟨_,rfl,q⟩
theorem j6 (h:s.length+z.length<=sizeLine)(q:QT1 (.im (.str (s++z)))):W1 (aW (.im (.str s)) (.im (.str z))) QT1:=by with_unfolding_all exact⟨_,if_pos h,q⟩
theorem fv (h:is.length+js.length<=sizeLine)(q:QT1 (.li (is++js))):W1 (aW (.li is) (.li js)) QT1:=by with_unfolding_all exact⟨_,if_pos h,q⟩
theorem zC (q:QT1 (.im (.int (a-b)))):W1 (bT (.im (.int a)) (.im (.int b))) QT1:=by with_unfolding_all exact⟨_,rfl,q⟩
theorem tf (h1 : -(2^64)<a)(h2:a<2^64):gL a b=true:=by unfold gL;simp only[h1,h2,decide_true,C6,Es]
theorem Bb (h1 : -(2^64)<b)(h2:b<2^64):gL a b=true:=by unfold gL;simp only[h1,h2,decide_true,C6,Bool.or_true]
theorem k7 (h:gL a b=true)(q:QT1 (.im (.int (a*b)))):W1 (cy (.im (.int a)) (.im (.int b))) QT1:=by with_unfolding_all exact⟨_,if_pos h,q⟩
theorem qg (h:is≠[]/\is.length<=1000/\1<=b/\b<=1000)(q:QT1 (.im (.tup (Bu b.toNat is).flatten))):W1 (cy (.im (.tup is)) (.im (.int b))) QT1:=by with_unfolding_all exact⟨_,if_pos h,q⟩
theorem qf (h : -(2^63)<=b/\b<2^63/\is.length*b.toNat<=sizeLine)(q:QT1 (.li (Bu b.toNat is).flatten)):W1 (cy (.li is) (.im (.int b))) QT1:=by with_unfolding_all exact⟨_,if_pos h,q⟩
theorem wX (h:0<b/\b<2^64)(q:QT1 (.im (.int (a / b)))):W1 (fH (.im (.int a)) (.im (.int b))) QT1:=by with_unfolding_all exact⟨_,if_pos h,q⟩
theorem qd (h:0<b)(q:QT1 (.im (.int (a % b)))):W1 (dZ (.im (.int a)) (.im (.int b))) QT1:=by with_unfolding_all exact⟨_,if_pos h,q⟩
theorem vn (h:0<=b/\b<=1000000/\a.natAbs<2^64)(q:QT1 (.im (.int (a^b.toNat)))):W1 (oq (.im (.int a)) (.im (.int b))) QT1:=by with_unfolding_all exact⟨_,if_pos h,q⟩
theorem zr {p:Int->Int->Bool}(q:QT1 (.im (.bl (p a b)))):W1 (fm p (.im (.int a)) (.im (.int b))) QT1:=by with_unfolding_all exact⟨_,rfl,q⟩
theorem zu (q:QT1 (.im (.bl (decide (a=b))))):W1 (eqT (.im (.int a)) (.im (.int b))) QT1:=by with_unfolding_all exact⟨_,rfl,by simpa using q⟩
theorem zA (q:QT1 (.im (.bl (!decide (s=z))))):W1 (neT (.im (.str s)) (.im (.str z))) QT1:=by with_unfolding_all exact⟨_,rfl,by simpa using q⟩
theorem zv (h:I.doks is=true/\I.doks js=true/\I.deps is<=50)(q:QT1 (.im (.bl (decide (is=js))))):W1 (eqT (.li is) (.li js)) QT1:=⟨_,by simp only[eqT,eqB];rw[if_pos h];rfl,q⟩
theorem zc (h:i.dok=true/\I.doks is=true/\I.deps is<=50):inB (.im i) (.im (.tup is))=some (decide (i∈is)):=by cases i<;>exact if_pos h
theorem zw (h:i.dok=true/\I.doks is=true/\I.deps is<=50)(q:QT1 (.im (.bl (decide (i∈is))))):W1 (inT (.im i) (.im (.tup is))) QT1:=⟨_,by unfold inT;rw[zc h];rfl,q⟩
theorem xb (h:s.length<=sizeLine)(q:QT1 (.im (.int s.length))):W1 (cj [.im (.str s)]) QT1:=by with_unfolding_all exact⟨_,if_pos h,q⟩
theorem xc (q:QT1 (.im (.int is.length))):W1 (cj [.im (.tup is)]) QT1:=by with_unfolding_all exact⟨_,rfl,q⟩
theorem xa (q:QT1 (.im (.int is.length))):W1 (cj [.li is]) QT1:=by with_unfolding_all exact⟨_,rfl,q⟩
theorem tF {us:List T}(q:QT1 (.im (.int us.length))):W1 (cj [.lst us]) QT1:=by with_unfolding_all exact⟨_,rfl,q⟩
theorem zz (q:QT1 (.im (.int (if b<a then b else a)))):W1 (lP [.im (.int a),.im (.int b)]) QT1:=by with_unfolding_all exact⟨_,rfl,q⟩
theorem zy (q:QT1 (.im (.int (if b>a then b else a)))):W1 (kT [.im (.int a),.im (.int b)]) QT1:=by with_unfolding_all exact⟨_,rfl,q⟩
theorem wY {c:Bool}(q:QT1 (.im (.int (if c then 1 else 0)))):W1 (pI [.im (.bl c)]) QT1:=by with_unfolding_all exact⟨_,rfl,q⟩
theorem xk (q:QT1 (.im (.tup is))):W1 (gE [.li is]) QT1:=by with_unfolding_all exact⟨_,rfl,q⟩
theorem xf (q:QT1 (.li is)):W1 (lJ [.li is]) QT1:=by with_unfolding_all exact⟨_,rfl,q⟩
theorem xg (q:QT1 (.li is)):W1 (lJ [.im (.tup is)]) QT1:=by with_unfolding_all exact⟨_,rfl,q⟩
theorem vV {xs:List α}{x : α}{n:Nat}{i:Int}(hi:i=n)(h:xs[n]?=some x):atI xs i=some x:=by
 subst hi
 have:=(Bs.mp h).1
 unfold atI ixN
 rw[if_pos (by omega),if_pos (by omega)]
 simpa using h
theorem lA {xs:List α}{i:Int}(h0:0<=i)(h1:i<xs.length):∃x,atI xs i=some x/\xs[i.toNat]?=some x:=by
 have:i.toNat<xs.length:=by omega
 exact⟨xs[i.toNat],vV (n:=i.toNat) (by omega) (BU this),BU this⟩
theorem vm {kd:Kd}{x:I}(h:atI is a=some x)(q:QR ⟨.ow,.im x⟩):W1 (ixR ⟨kd,.im (.tup is)⟩ (.im (.int a))) QR:=⟨_,by simp only[ixR,isI,ixX,ixI,h,CV],q⟩
theorem vk {kd:Kd}{x:I}(h:atI is a=some x)(q:QR ⟨.ow,.im x⟩):W1 (ixR ⟨kd,.li is⟩ (.im (.int a))) QR:=⟨_,by simp only[ixR,isI,ixX,ixI,h,CV],q⟩
theorem qc {kd:Kd}(h0:0<=a)(h1:a<is.length)(q:∀x,is[a.toNat]?=some x->QR ⟨.ow,.im x⟩):W1 (ixR ⟨kd,.im (.tup is)⟩ (.im (.int a))) QR:=by
 obtain⟨x,h,h'⟩:=lA h0 h1
 exact vm h (q x h')
theorem qa {kd:Kd}(h0:0<=a)(h1:a<is.length)(q:∀x,is[a.toNat]?=some x->QR ⟨.ow,.im x⟩):W1 (ixR ⟨kd,.li is⟩ (.im (.int a))) QR:=by
 obtain⟨x,h,h'⟩:=lA h0 h1
 exact vk h (q x h')
theorem qb {kd:Kd}(hz:s.length<=sizeLine)(h0:0<=a)(h1:a<(sL s).length)(q:∀c,(sL s)[a.toNat]?=some c->QR ⟨.ow,.im (.str ⟨#[c]⟩)⟩):W1 (ixR ⟨kd,.im (.str s)⟩ (.im (.int a))) QR:=by
 obtain⟨x,h,h'⟩:=lA h0 h1
 exact⟨_,by simp only[ixR,isI,ixX,ixI,if_pos hz,h,CV],q x h'⟩
theorem lR {ro:Option Nat}{p:Option (List Ac)}{us:List T}{u:T}(h0:0<=a)(h1:us[a.toNat]?=some u)(hu:∀i,u ≠ .im i){kd:Kd}(hk:ixK (.vw ro p) (some (.ix a.toNat))=some kd)(q:QR ⟨kd,u⟩):W1 (ixR ⟨.vw ro p,.lst us⟩ (.im (.int a))) QR:=by
 have hl:=(Bs.mp h1).1
 refine⟨⟨kd,u⟩,?_,q⟩
 unfold ixR
 have:ixN us.length a=some a.toNat:=by unfold ixN;rw[if_pos h0,if_pos (by omega)]
 simp only[isI,ixX,this,h1,Option.bind_some]
 cases u with
 | im i=>exact absurd rfl (hu i)
 | _=>simp only[ixP,hk]
theorem qj {n:Nat}(ha:a=n)(h:n<is.length)(q:QT1 (.li (is.set n i))):W1 (rQ (.li is) (.im (.int a)) (.im i)) QT1:=by
 subst ha
 refine⟨_,?_,q⟩
 unfold rQ
 have:ixN is.length (n:Int)=some n:=by unfold ixN;rw[if_pos (by omega),if_pos (by omega)];simp
 simp only[this]
theorem cF (h:is.length<sizeLine)(q:QI1 (.li (is++[i])) .non):W2 (apT (.li is) [.im i]) QI1:=by with_unfolding_all exact⟨_,_,if_pos h,q⟩
theorem vj (h:0<=a/\a<=is.length/\is.length<sizeLine)(q:QI1 (.li (is.take a.toNat++i::is.drop a.toNat)) .non):W2 (j0 (.li is) [.im (.int a),.im i]) QI1:=by with_unfolding_all exact⟨_,_,if_pos h,q⟩
theorem zB {kd:Kd}{lo hi:Option Int}(q:QR ⟨.ow,.li (cb is lo hi)⟩):W1 (slR ⟨kd,.li is⟩ lo hi) QR:=⟨_,by simp only[slR,slX,slI,slX],q⟩
theorem vo {kd:Kd}{lo hi:Option Int}(h:s.length<=sizeLine)(q:QR ⟨.ow,.im (.str (oL (cb (sL s) lo hi)))⟩):W1 (slR ⟨kd,.im (.str s)⟩ lo hi) QR:=⟨_,by simp only[slR,slX,slI,slX];rw[if_pos h],q⟩
theorem xi {t:T}{Q2:T->Rho->Prop}(q:Q2 t ρ):W2 (oQ ⟨.ow,t⟩ ρ) Q2:=by with_unfolding_all exact⟨_,_,rfl,q⟩
theorem xj {t t':T}{n:Nat}{Q2:T->Rho->Prop}(h : ρ[n]?=some (some ⟨.ow,t'⟩))(q:Q2 t ((ao [n] ρ).set n none)):W2 (oQ ⟨.vw (some n) (some []),t⟩ ρ) Q2:=⟨_,_,by simp only[oQ,h],q⟩
theorem lH {mv:List Nat}{Q2:List T->Rho->Prop}(q:Q2 [] ρ):W2 (consL mv [] ρ) Q2:=⟨_,_,rfl,q⟩
theorem mz {mv:List Nat}{t:T}{rs:List R}{Q2:List T->Rho->Prop}(h:W2 (consL mv rs ρ) λts ρ'=>Q2 (t::ts) ρ'):W2 (consL mv (⟨.ow,t⟩::rs) ρ) Q2:=by
 obtain⟨ts,ρ',e,q⟩:=h
 exact⟨t::ts,ρ',by simp only[consL,e],q⟩
theorem pW {is:List I}:bz (is.map T.im)=.li is:=by
 have:ims (is.map T.im)=some is:=by induction is with
  | nil=>rfl
  | cons i is ih=>simp only[Bt,ims,ih,CV]
 unfold bz;rw[this]
end
theorem dsp {p:Prop}[Decidable p]{A B:Prop}(h1:p->A)(h2:¬p->B):(decide p=true->A)/\(decide p=false->B):=⟨λh=>h1 (of_decide_eq_true h),λh=>h2 (of_decide_eq_false h)⟩
theorem spT {A B:Prop}(h:A):(true=true->A)/\(true=false->B):=⟨λ_=>h,λz=>absurd z (by decide)⟩
theorem spF {A B:Prop}(h:B):(false=true->A)/\(false=false->B):=⟨λz=>absurd z (by decide),λ_=>h⟩
section
variable  {ρ:Rho}{m:ME}{ms:MA}{g:MG}{ct:MT}{QE':R->Rho->Prop}
theorem nB {i:Nat}{fr:List (Option Nat)} (h:WA ms ρ λrs ρ1=>∃n:Int,rs.map (·.t)=[.im (.int n)]/\(-(2^62)<=n/\n<16000000)/\Gu (dS fr ρ1.length&&dX ([i]++([]++m.mu)) fr.length) (∃Inv:Nat->List T->Rho->Prop,Inv 0 [] ρ1 ∧
  (∀(j:Nat) acc ρ,(j:Int)<n->Inv j acc ρ->WG (ag i) (iF j) (inR fr ρ) λρ1=>WE m ρ1 λr ρ3=>∃t,r=⟨.ow,t⟩/\Inv (j+1) (acc++[t]) (cV fr ([i]++([]++m.mu)) ρ3 ρ)) ∧
  ∀acc ρ,Inv n.toNat acc ρ->QE' ⟨.ow,bz acc⟩ ρ)):WE (aQ fr (aP ms) (ag i) mYes m) ρ QE':=by with_unfolding_all
 obtain⟨rs,ρ1,e1,n,e2,h1,al,Inv,h0,hs,he⟩:=h
 refine kA (uZ ⟨rs,ρ1,e1,n,e2,⟨h1.1,by omega⟩,?_,?_,Inv,h0,λj r acc ρ hr hI=>?_,λacc ρ hI=>he acc ρ (by simpa[fw]using hI)⟩)
 ·rw[By]at al⊢
  rw[By]
  exact⟨⟨al.1,al.2⟩,rfl⟩
 ·rw[sizeLine_eq];simp[fw];omega
 ·obtain⟨x,hx,rfl⟩:=aN hr
  obtain⟨a1,a2⟩:=Bs.mp hx
  simp at a1 a2
  subst a2
  have:=hs j acc ρ (by omega) hI
  rw[Ev]
  refine WG.mono this λρ1 q=>iT ⟨λ_=>q,λz=>by cases z⟩
theorem r6 {i:Nat}{fr:List (Option Nat)} (h:WA ms ρ λrs ρ1=>∃a n:Int,rs.map (·.t)=[.im (.int a),.im (.int n)]/\(-(2^62)<=a/\a<2^62/\-(2^62)<=n/\n<2^62/\n-a<16000000)/\Gu (dS fr ρ1.length&&dX ([i]++([]++m.mu)) fr.length) (∃Inv:Nat->List T->Rho->Prop,Inv 0 [] ρ1 ∧
  (∀(j:Nat) acc ρ,a+(j:Int)<n->Inv j acc ρ->WG (ag i) (iF (a+j)) (inR fr ρ) λρ1=>WE m ρ1 λr ρ3=>∃t,r=⟨.ow,t⟩/\Inv (j+1) (acc++[t]) (cV fr ([i]++([]++m.mu)) ρ3 ρ)) ∧
  ∀acc ρ,Inv (n-a).toNat acc ρ->QE' ⟨.ow,bz acc⟩ ρ)):WE (aQ fr (dM ms) (ag i) mYes m) ρ QE':=by with_unfolding_all
 obtain⟨rs,ρ1,e1,a,n,e2,h1,al,Inv,h0,hs,he⟩:=h
 refine kA (u4 ⟨rs,ρ1,e1,a,n,e2,⟨h1.1,h1.2.1,h1.2.2.1,h1.2.2.2.1⟩,?_,?_,Inv,h0,λj r acc ρ hr hI=>?_,λacc ρ hI=>he acc ρ (by simpa[fw]using hI)⟩)
 ·rw[By]at al⊢
  rw[By]
  exact⟨⟨al.1,al.2⟩,rfl⟩
 ·rw[sizeLine_eq];simp[fw];omega
 ·obtain⟨x,hx,rfl⟩:=aN hr
  obtain⟨a1,a2⟩:=Bs.mp hx
  simp at a1 a2
  subst a2
  have:=hs j acc ρ (by omega) hI
  refine WG.mono this λρ1 q=>iT ⟨λ_=>q,λz=>by cases z⟩
theorem uR {fr:List (Option Nat)}{ma:ME} (h:WE ma ρ λr ρ1=>∃is:List I,dU r=some (is.map λi=>⟨.ow,.im i⟩)/\is.length<sizeLine/\Gu (dS fr ρ1.length&&dX (g.mu++(ct.mu++m.mu)) fr.length&&aC (muF fr (g.mu++(ct.mu++m.mu))) r) (∃Inv:Nat->List T->Rho->Prop,Inv 0 [] ρ1 ∧
  (∀(j:Nat) x acc ρ,is[j]?=some x->Inv j acc ρ->WG g ⟨.ow,.im x⟩ (inR fr ρ) λρ1=>WT ct ρ1 λbb ρ2=>(bb=true->WE m ρ2 λr ρ3=>∃t,r=⟨.ow,t⟩/\Inv (j+1) (acc++[t]) (cV fr (g.mu++(ct.mu++m.mu)) ρ3 ρ))/\(bb=false->Inv (j+1) acc (cV fr (g.mu++(ct.mu++m.mu)) ρ2 ρ))) ∧
  ∀acc ρ,Inv is.length acc ρ->QE' ⟨.ow,bz acc⟩ ρ)):WE (aQ fr (mIt ma) g ct m) ρ QE':=by
 obtain⟨r,ρ1,e1,is,e2,hl,al,Inv,h0,hs,he⟩:=h
 refine kA (yR ⟨r,ρ1,e1,_,e2,(by rw[CO,D7,Ep];exact al),by simpa using hl,Inv,h0,λj r acc ρ hr hI=>?_,λacc ρ hI=>he acc ρ (by simpa using hI)⟩)
 obtain⟨x,hx,rfl⟩:=aN hr
 exact hs j x acc ρ hx hI
end
theorem eY {α:Type}{f : α->I}{l:List α}:bz (l.map λx=>T.im (f x))=.li (l.map f):=by
 have:=pW (is:=l.map f)
 rwa [BR]at this
section
variable  {S α:Type}{ρ:Rho}{m:ME}{ms:MA}{g:MG}{ct:MT}{s1:MS}{QE':R->Rho->Prop}{Q:Fl->Rho->Prop}{fr:List (Option Nat)}{i:Nat}
theorem bU (st:S->Rho)(emb : α->I)(P:Nat->S->List α->Prop) (h:WA ms ρ λrs ρ1=>Int1 rs λn=>(-(2^62)<=n/\n<16000000)/\(dS fr ρ1.length&&dX ([i]++([]++m.mu)) fr.length)=true/\∃s0,ρ1=st s0/\P 0 s0 [] ∧
  (∀(j:Nat) s l,(j:Int)<n->P j s l->WG (ag i) (iF j) (inR fr (st s)) λρ1=>WE m ρ1 λr ρ3=>∃x s',r=⟨.ow,.im (emb x)⟩/\cV fr ([i]++([]++m.mu)) ρ3 (st s)=st s'/\P (j+1) s' (l++[x])) ∧
  ∀s l,P n.toNat s l->QE' ⟨.ow,.li (l.map emb)⟩ (st s)):WE (aQ fr (aP ms) (ag i) mYes m) ρ QE':=by
 obtain⟨rs,ρ1,e1,n,e2,h1,al,s0,rfl,h0,hs,he⟩:=h
 refine nB ⟨rs,_,e1,n,e2,h1,al,λj acc ρ=>∃s l,acc=l.map (λx=>T.im (emb x))/\ρ=st s/\P j s l,⟨s0,[],rfl,rfl,h0⟩,?_,?_⟩
 ·rintro j acc ρ hj ⟨s,l,rfl,rfl,hP⟩
  refine(hs j s l hj hP).mono λρ1 q=>q.mono λr ρ3 ⟨x,s',e,e',hP'⟩=>⟨_,e,s',l++[x],by simp,e',hP'⟩
 ·rintro acc ρ ⟨s,l,rfl,rfl,hP⟩
  rw[eY]
  exact he s l hP
theorem oY (st:S->Rho)(emb : α->I)(P:Nat->S->List α->Prop) (h:WA ms ρ λrs ρ1=>Int2 rs λa n=>(-(2^62)<=a/\a<2^62/\-(2^62)<=n/\n<2^62/\n-a<16000000)/\(dS fr ρ1.length&&dX ([i]++([]++m.mu)) fr.length)=true/\∃s0,ρ1=st s0/\P 0 s0 [] ∧
  (∀(j:Nat) s l,a+(j:Int)<n->P j s l->WG (ag i) (iF (a+j)) (inR fr (st s)) λρ1=>WE m ρ1 λr ρ3=>∃x s',r=⟨.ow,.im (emb x)⟩/\cV fr ([i]++([]++m.mu)) ρ3 (st s)=st s'/\P (j+1) s' (l++[x])) ∧
  ∀s l,P (n-a).toNat s l->QE' ⟨.ow,.li (l.map emb)⟩ (st s)):WE (aQ fr (dM ms) (ag i) mYes m) ρ QE':=by
 obtain⟨rs,ρ1,e1,a,n,e2,h1,al,s0,rfl,h0,hs,he⟩:=h
 refine r6 ⟨rs,_,e1,a,n,e2,h1,al,λj acc ρ=>∃s l,acc=l.map (λx=>T.im (emb x))/\ρ=st s/\P j s l,⟨s0,[],rfl,rfl,h0⟩,?_,?_⟩
 ·rintro j acc ρ hj ⟨s,l,rfl,rfl,hP⟩
  refine(hs j s l hj hP).mono λρ1 q=>q.mono λr ρ3 ⟨x,s',e,e',hP'⟩=>⟨_,e,s',l++[x],by simp,e',hP'⟩
 ·rintro acc ρ ⟨s,l,rfl,rfl,hP⟩
  rw[eY]
  exact he s l hP
theorem dr (st:S->Rho)(emb : α->I)(P:Nat->S->List α->Prop){ma:ME} (h:WE ma ρ λr ρ1=>∃is:List I,dU r=some (is.map λi=>⟨.ow,.im i⟩)/\is.length<sizeLine/\(dS fr ρ1.length&&dX (g.mu++([]++m.mu)) fr.length&&aC (muF fr (g.mu++([]++m.mu))) r)=true/\∃s0,ρ1=st s0/\P 0 s0 [] ∧
  (∀(j:Nat) x s l,is[j]?=some x->P j s l->WG g ⟨.ow,.im x⟩ (inR fr (st s)) λρ1=>WE m ρ1 λr ρ3=>∃x s',r=⟨.ow,.im (emb x)⟩/\cV fr (g.mu++([]++m.mu)) ρ3 (st s)=st s'/\P (j+1) s' (l++[x])) ∧
  ∀s l,P is.length s l->QE' ⟨.ow,.li (l.map emb)⟩ (st s)):WE (aQ fr (mIt ma) g mYes m) ρ QE':=by with_unfolding_all
 obtain⟨r,ρ1,e1,is,e2,hl,al,s0,rfl,h0,hs,he⟩:=h
 refine uR ⟨r,_,e1,is,e2,hl,al,λj acc ρ=>∃s l,acc=l.map (λx=>T.im (emb x))/\ρ=st s/\P j s l,⟨s0,[],rfl,rfl,h0⟩,?_,?_⟩
 ·rintro j x acc ρ hj ⟨s,l,rfl,rfl,hP⟩
  refine(hs j x s l hj hP).mono λρ1 q=>iT ⟨λ_=>q.mono λr ρ3 ⟨x,s',e,e',hP'⟩=>⟨_,e,s',l++[x],by simp,e',hP'⟩,λz=>by cases z⟩
 ·rintro acc ρ ⟨s,l,rfl,rfl,hP⟩
  rw[eY]
  exact he s l hP
@[irreducible] def fFs (st:S->Rho)(P:S->Prop)(Q:Fl->Rho->Prop):Fl->Rho->Prop
 | .nx,ρ=>∃s,ρ=st s/\P s
 | .ct,ρ=>∃s,ρ=st s/\P s
 | .bk,ρ=>Q .nx ρ
 | .rt t,ρ=>Q (.rt t) ρ
theorem jW {st:S->Rho}{P:Nat->S->Prop}{j:Nat}{f:Fl}{ρ:Rho}(h:fFs st (P (j+1)) Q f ρ):nO (λj ρ=>∃s,ρ=st s/\P j s) j Q f ρ:=by with_unfolding_all cases f<;>exact h
theorem br (st:S->Rho)(P:Nat->S->Prop) (h:WA ms ρ λrs ρ1=>Int1 rs λn=>(-(2^62)<=n/\n<2^62)/\∃s0,ρ1=st s0/\P 0 s0 ∧
  (∀(j:Nat) s,(j:Int)<n->P j s->WG (ag i) (iF j) (st s) λρ1=>WS s1 ρ1 (fFs st (P (j+1)) Q))/\∀s,P n.toNat s->Q .nx (st s)):WS (bX (aP ms) (ag i) s1) ρ Q:=by
 obtain⟨rs,ρ1,e1,n,e2,h1,s0,rfl,h0,hs,he⟩:=h
 refine yD ⟨rs,_,e1,n,e2,h1.1,h1.2,λj ρ=>∃s,ρ=st s/\P j s,⟨s0,rfl,h0⟩,?_,?_⟩
 ·rintro j ρ hj ⟨s,rfl,hP⟩
  exact(hs j s hj hP).mono λρ1 q=>q.mono λf ρ2 q=>jW q
 ·rintro ρ ⟨s,rfl,hP⟩
  exact he s hP
theorem sd (st:S->Rho)(P:Nat->S->Prop) (h:WA ms ρ λrs ρ1=>Int2 rs λa n=>(-(2^62)<=a/\a<2^62/\-(2^62)<=n/\n<2^62)/\∃s0,ρ1=st s0/\P 0 s0 ∧
  (∀(j:Nat) s,a+(j:Int)<n->P j s->WG (ag i) (iF (a+j)) (st s) λρ1=>WS s1 ρ1 (fFs st (P (j+1)) Q))/\∀s,P (n-a).toNat s->Q .nx (st s)):WS (bX (dM ms) (ag i) s1) ρ Q:=by
 obtain⟨rs,ρ1,e1,a,n,e2,h1,s0,rfl,h0,hs,he⟩:=h
 refine uS ⟨rs,_,e1,a,n,e2,h1,λj ρ=>∃s,ρ=st s/\P j s,⟨s0,rfl,h0⟩,?_,?_⟩
 ·rintro j ρ hj ⟨s,rfl,hP⟩
  exact(hs j s hj hP).mono λρ1 q=>q.mono λf ρ2 q=>jW q
 ·rintro ρ ⟨s,rfl,hP⟩
  exact he s hP
theorem kB (st:S->Rho)(P:Nat->S->Prop) (h:WE m ρ λr ρ1=>∃is:List I,dU r=some (is.map λi=>⟨.ow,.im i⟩)/\aC (g.mu++s1.mu) r=true/\∃s0,ρ1=st s0/\P 0 s0 ∧
  (∀(j:Nat) x s,is[j]?=some x->P j s->WG g ⟨.ow,.im x⟩ (st s) λρ1=>WS s1 ρ1 (fFs st (P (j+1)) Q))/\∀s,P is.length s->Q .nx (st s)):WS (bX (mIt m) g s1) ρ Q:=by
 obtain⟨r,ρ1,e1,is,e2,al,s0,rfl,h0,hs,he⟩:=h
 refine yC ⟨r,_,e1,is,e2,al,λj ρ=>∃s,ρ=st s/\P j s,⟨s0,rfl,h0⟩,?_,?_⟩
 ·rintro j x ρ hj ⟨s,rfl,hP⟩
  exact(hs j x s hj hP).mono λρ1 q=>q.mono λf ρ2 q=>jW q
 ·rintro ρ ⟨s,rfl,hP⟩
  exact he s hP
theorem si (st:S->Rho)(P:S->Prop)(μ : S->Nat)(s0:S)(e0 : ρ=st s0)(h0:P s0)(hs:∀s,P s->WT ct (st s) λbb ρ1=>(bb=true->WS s1 ρ1 (fFs st (λs'=>μ s' < μ s/\P s') Q))/\(bb=false->Q .nx ρ1)):WS (dY ct s1) ρ Q:=by with_unfolding_all
 subst e0
 refine uT (λn ρ=>∃s,ρ=st s/\P s/\μ s=n) (μ s0) ⟨s0,rfl,h0,rfl⟩ ?_
 rintro n ρ ⟨s,rfl,hP,rfl⟩
 refine(hs s hP).mono λbb ρ1 ⟨q1,q2⟩=>⟨q2,λhb=>(q1 hb).mono λf ρ2 q=>?_⟩
 cases f with
 | nx=>have q:∃s',ρ2=st s'/\μ s' < μ s/\P s':=q;obtain⟨s',e,hl,hP'⟩:=q;exact⟨μ s',hl,s',e,hP',rfl⟩
 | ct=>have q:∃s',ρ2=st s'/\μ s' < μ s/\P s':=q;obtain⟨s',e,hl,hP'⟩:=q;exact⟨μ s',hl,s',e,hP',rfl⟩
 | bk=>exact q
 | rt t=>exact q
end
section
variable  {S α:Type}{ρ:Rho}{m:ME}{ms:MA}{QE':R->Rho->Prop}{fr:List (Option Nat)}{i:Nat}
theorem pX {emb : α->T}(hne:∀x i,emb x ≠ .im i):∀{l:List α},l≠[]->bz (l.map emb)=.lst (l.map emb)
 | [],h=>absurd rfl h
 | x::l,_=>by
  unfold bz
  have:ims ((x::l).map emb)=none:=by
   rw[Bt]
   cases h:emb x with
   | im i=>exact absurd h (hne x i)
   | _=>rfl
  rw[this]
theorem iR (st:S->Rho)(emb : α->T)(hne:∀x i,emb x ≠ .im i)(P:Nat->S->List α->Prop) (h:WA ms ρ λrs ρ1=>Int1 rs λn=>(1<=n/\n<16000000)/\(dS fr ρ1.length&&dX ([i]++([]++m.mu)) fr.length)=true/\∃s0,ρ1=st s0/\P 0 s0 [] ∧
  (∀(j:Nat) s l,(j:Int)<n->P j s l->WG (ag i) (iF j) (inR fr (st s)) λρ1=>WE m ρ1 λr ρ3=>∃x s',r=⟨.ow,emb x⟩/\cV fr ([i]++([]++m.mu)) ρ3 (st s)=st s'/\P (j+1) s' (l++[x])) ∧
  ∀s l,P n.toNat s l->l.length=n.toNat->QE' ⟨.ow,.lst (l.map emb)⟩ (st s)):WE (aQ fr (aP ms) (ag i) mYes m) ρ QE':=by
 obtain⟨rs,ρ1,e1,n,e2,h1,al,s0,rfl,h0,hs,he⟩:=h
 refine nB ⟨rs,_,e1,n,e2,⟨by omega,h1.2⟩,al,λj acc ρ=>∃s l,acc=l.map emb/\l.length=j/\ρ=st s/\P j s l,⟨s0,[],rfl,rfl,rfl,h0⟩,?_,?_⟩
 ·rintro j acc ρ hj ⟨s,l,rfl,hl,rfl,hP⟩
  refine(hs j s l hj hP).mono λρ1 q=>q.mono λr ρ3 ⟨x,s',e,e',hP'⟩=>⟨_,e,s',l++[x],by simp,by simp[hl],e',hP'⟩
 ·rintro acc ρ ⟨s,l,rfl,hl,rfl,hP⟩
  rw[pX hne (by intro z;rw[z]at hl;simp at hl;omega)]
  exact he s l hP hl
theorem qS {ts:List T}{n:Nat}{u s:T}(h:ts[n]?=some u):T.put (.lst ts) [.ix n] s=.lst (ts.set n s):=by simp only[T.put,gD,h,xF]
end
end L2
namespace L2
end L2
namespace L2
section
variable  {ρ:Rho}{b:MS}{Q:Fl->Rho->Prop}{t s':T}{k:Nat}{ks:List Nat}
theorem y6 {R:T->T->Prop}(h : ρ[k]?=some (some ⟨.io 0,s'⟩))(q:R t s'):fI k R (.rt t) ρ:=by with_unfolding_all exact⟨s',h,q⟩
theorem y9 {R:T->Prop}(q:R t):fP R (.rt t) ρ:=by with_unfolding_all exact q
theorem mO (h:WS b ρ Q):wd b Q .nx ρ:=by with_unfolding_all exact h
theorem sI (h:Q (.rt t) ρ):wd b Q (.rt t) ρ:=by with_unfolding_all exact h
theorem sF (h:Q .nx (fgts ks ρ)):y4 ks Q .nx ρ:=by with_unfolding_all exact h
variable  {S:Type}{st:S->Rho}{P:S->Prop}
theorem we (h:∃s,ρ=st s/\P s):fFs st P Q .nx ρ:=by with_unfolding_all exact h
end
end L2
namespace L2
section
variable  {M:List Nat}{ρ:Rho}{t s:T}{n i:Nat}{p:Option (List Ac)}{k:Nat}{x:I}
theorem wv:ao M []=[]:=rfl
theorem zg:ao M (some ⟨.ow,t⟩::ρ)=some ⟨.ow,t⟩::ao M ρ:=rfl
theorem zf:ao M (some ⟨.io n,t⟩::ρ)=some ⟨.io n,t⟩::ao M ρ:=rfl
theorem sS:ao M (none::ρ)=none::ao M ρ:=rfl
theorem zh:ao M (some ⟨.vw none p,t⟩::ρ)=some ⟨.vw none p,t⟩::ao M ρ:=rfl
theorem t7:T.put t [] s=s:=by cases t<;>rfl
theorem uk {j:Int}:iF j=⟨.ow,.im (.int j)⟩:=rfl
theorem yh:rdR i ⟨.ow,.im x⟩=⟨.ow,.im x⟩:=rfl
theorem yj {a:Option Nat}:rdR i ⟨.vw a p,t⟩=⟨.vw a p,t⟩:=rfl
theorem yi {l:List I}:rdR i ⟨.ow,.li l⟩=⟨.vw (some i) (some []),.li l⟩:=rfl
theorem ul {l:List T}:rdR i ⟨.ow,.lst l⟩=⟨.vw (some i) (some []),.lst l⟩:=rfl
theorem pA:fgts [] ρ=ρ:=rfl
theorem nQ {ks:List Nat}:fgts (i::ks) ρ=fgts ks ((ao [i] ρ).set i none):=rfl
theorem runP_ok' {run:List T->Option T}{l:Nat}{m:MS}{ts:List T}{QT1:T->Prop}(ρ:Rho)(hrun:run ts=if ts.length=l then fY m n ts else none)(hl:ts.length=l)(he:bY ts n=ρ)(h:WS m ρ (fP QT1)):W1 (run ts) QT1:=nh hrun hl (he▸h)
theorem runI_ok' {run:List T->Option (T×T)}{l:Nat}{m:MS}{ts:List T}{Q2:T->T->Prop}(ρ:Rho)(hrun:run ts=if ts.length=l then cY m k n ts else none)(hl:ts.length=l)(he:dA k ts n=ρ)(h:WS m ρ (fI k Q2)):W2 (run ts) Q2:=e8 hrun hl (he▸h)
end
end L2
namespace L2
open PySem PySem.Spec PyProof.Rows
section
variable  {ρ:Rho}{g g2:MG}{ct:MT}{m:ME}{it it2:MI}{QE':R->Rho->Prop}{fr fr2:List (Option Nat)}
end
noncomputable def less (K:yF) (a:Addr):yF:=K.filter λp=>!(p.1==a)
theorem fO:∀{K:yF} {a b:Addr},b≠a->(less K a).lookup b=K.lookup b
 | [],_,_,_=>rfl
 | (c,o)::K,a,b,h=>by
  have ih:=fO (K:=K) h
  by_cases e:c=a
  ·subst e
   have:less ((c,o)::K) c=less K c:=by simp[less]
   rw[this,ih]
   show _=match b==c with|true=>some o|false=>Dd b K
   rw[beq_eq_false_iff_ne.mpr h]
  ·have:less ((c,o)::K) a=(c,o)::less K a:=by simp[less,e]
   rw[this]
   show(match b==c with|true=>some o|false=>Dd b (less K a))=match b==c with|true=>some o|false=>Dd b K
   rw[ih]
theorem gi:∀{K:yF} {a:Addr},(less K a).lookup a=none
 | [],_=>rfl
 | (c,o)::K,a=>by
  have ih:=gi (K:=K) (a:=a)
  by_cases e:c=a
  ·subst e
   have:less ((c,o)::K) c=less K c:=by simp[less]
   rw[this,ih]
  ·have:less ((c,o)::K) a=(c,o)::less K a:=by simp[less,e]
   rw[this]
   show(match a==c with|true=>some o|false=>Dd a (less K a))=none
   rw[beq_eq_false_iff_ne.mpr (Ne.symm e)]
   exact ih
theorem sX {K:yF}{a:Addr}{h:Heap}(X:K.In h):(less K a).In h:=λb o e=>by
 by_cases q:b=a
 ·subst q;rw[gi]at e;cases e
 ·rw[fO q]at e;exact X b o e
def Lst (o:Obj):Prop:=∃vs:Array Value,o={cls:=.type "list",data:=.seq vs}
def LsAt (K:yF)(a:Addr):Prop:=∀o,K.lookup a=some o->Lst o
theorem LsAt.get {K:yF}{a b:Addr}{o:Obj}(h:LsAt K a)(e:K.lookup b=some o)(n:¬ Lst o):(less K a).lookup b=some o:=by
 rw[fO (a:=a) λq:b=a=>n (h o (by rw[←q];exact e))];exact e
def Def0 (K:yF)(mg:Str->Option Value)(name:Str)(st:Stmt)(ps:List Str):Prop:=
 ∃(f:Addr) (fd:FuncData),mg name=some (.ref f)/\Fun K name name st f fd/\(∀us:List Value,us.length=ps.length->bindArgs fd ⟨us,[]⟩=pure (ps.zip us))
theorem Def0.to {K:yF}{mg:Str->Option Value}{name:Str}{st:Stmt}{ps:List Str}(d:Def0 K mg name st ps):Def K mg name st ps:=by
 obtain⟨f,fd,h1,h2,h3⟩:=d
 exact⟨f,fd,h1,h2,.all h3⟩
theorem Def0.less {K:yF}{mg:Str->Option Value}{name:Str}{st:Stmt}{ps:List Str}{a:Addr}(d:Def0 K mg name st ps)(h:LsAt K a):Def0 (less K a) mg name st ps:=by
 obtain⟨f,fd,h1,F,h3⟩:=d
 obtain⟨oc,od,kV,doc,pm,an,cdv,ct,osl,e,lk,hcd⟩:=F.ex
 have lk':=h.get lk (by rintro⟨vs,z⟩;cases z)
 refine⟨f,fd,h1,⟨⟨oc,od,kV,doc,pm,an,cdv,ct,osl,e,lk',?_⟩,?_⟩,h3⟩
 ·unfold C2 at hcd⊢
  cases cdv with
  | ref c=>
   dsimp only at hcd⊢
   cases q:Dd c K with
   | none=>rw[q]at hcd;cases hcd
   | some o=>
    by_cases w:c=a
    ·subst w
     obtain⟨vs,rfl⟩:=h o q
     rw[q]at hcd;cases hcd
    ·rw[fO w];exact hcd
  | _=>cases hcd
 ·unfold CC
  dsimp only
  rw[lk']
theorem Def0.mk' {K:yF}{h:Heap}{mg:Str->Option Value}{name:Str}{st:Stmt}{ps:List Str}(X:K.In h)(G:h.Ns mainGlobals mg){f:Addr}{oc:Value}{od an:Option Addr}{osl:Array (Option Value)}{kV doc pm cdv ct:Value}
  (a:D8 K mainGlobals name=some (some (.ref f))) (l:K.lookup f=some ⟨oc,od,.func (Ct name name (cu st) (bc st) (ak st) .none kV doc pm an cdv ct),osl⟩) (c:C2 K cdv name=true) (k:CC K (.ref f)=true)
  (hb:∀(kV doc pm:Value) (an:Option Addr) (cdv ct:Value) (us:List Value),us.length=ps.length->bindArgs (Ct name name (cu st) (bc st) (ak st) .none kV doc pm an cdv ct) ⟨us,[]⟩=pure (ps.zip us)):Def0 K mg name st ps:=
 ⟨f,_,PySem.W.mg_of X G a,wg l c k,hb kV doc pm an cdv ct⟩
theorem walkP {l:PySem.W.OpenLaw}{k:Nat}{q:Program}{loose:List Str}{XP:(Str->Option Value)->Heap->Prop}{YP:World->Heap->Prop}{d:DefRec}{K:Params->yF}{x:Str}{st:Stmt}{run:List T->Option T}{A:(Str->Option Value)->yF->Prop}
  (hn:l.most=some 63) (hdf:d.params.defaults=[]) (hr:Room k callerA)
  (hY:∀(w:World) (h:Heap),YP w h->(K w.params).In h)
  (hA:∀(w:World) (mg:Str->Option Value) (h:Heap),(K w.params).In h->h.Ns mainGlobals mg->A mg (K w.params))
  (hL:∀(mg:Str->Option Value) (K:yF) (a:Addr),A mg K->LsAt K a->A mg (less K a))
  (hd:∀(mg:Str->Option Value) (K:yF),A mg K->Def K mg d.name st [x])
  (hb:∀(kV doc pm:Value) (an:Option Addr) (cdv ct:Value) (s:Shared) (v:Value),BindsTo s (Ct d.name d.name (cu st) (bc st) (ak st) .none kV doc pm an cdv ct) ⟨[v],[]⟩ [(x,v)])
  (F:∀(w:World) (mg:Str->Option Value) (K:yF) (base:Heap),A mg K->Has l.prog w K mg base k d.name [x] (spP K run))
  (law:∀ns:List Int,ns.length<=63->run [.li (ns.map .int)]=some (.im (.bl true))) :
  PySem.W.WalkO q loose XP YP l.row.toRowW d [] (λf vs=>PySem.call f vs):=by
 refine Att.attach_call hn hdf λw s₀ s₁ mg mb fa o pm cd doc a vs ns G Y ho hd' hcd hmg hobj hints hlen hg=>?_
 have KX:=hY w _ Y
 have a0:=hA w mg _ KX G.T.g
 have la:LsAt (K w.params) a:=λo e=>by
  have e2:=KX a o e
  rw[hobj]at e2;cases e2
  exact⟨_,rfl⟩
 have a1:=hL mg _ a a0 la
 obtain⟨fd,hb',hF⟩:=pQ hmg (hd mg _ a1) hb λbase _ _=>F w mg (less (K w.params) a) base a1
 refine pP (sX KX) G.T.g G.T.b G.T.builtins G.T.nolimit hg hobj hints (B3 hlen (by decide)) hr hF hb' (λH hO hS=>?_) (λ_ _ _ z=>z)
 rcases hS with hS|⟨o,its,n,e,_⟩
 ·refine⟨[.li (ns.map .int)],_,?_,law ns hlen,?_⟩
  ·refine⟨_,_,rfl,⟨[a],?_⟩,rfl⟩
   exact⟨a,_,rfl,hS,RpIs.ints ns,rfl⟩
  ·intro v H' z
   obtain⟨_,F,z,_⟩:=z
   rw[Rp]at z
   exact z.1
 ·rw[gi]at e;cases e
noncomputable def vs (x:String) (t:Tok):Value:=.str (Str.ofString x) t
noncomputable def vi (n:Int):Value:=.int n 0
noncomputable def vr (a:Addr):Value:=.ref a
noncomputable def eO (p:Params) (x:String) (t:Tok) (v:Value):DictEntry:=⟨PyData.keyHash p (Str.ofString x),.str (Str.ofString x) t,v⟩
noncomputable def oC (vs:List Value):Obj:={cls:=.type "code",data:=.fields vs.toArray}
noncomputable def oD (es:List DictEntry) (n:Nat):Obj:={cls:=.type "dict",data:=.dict es.toArray n}
noncomputable def oF (x:String) (st:Stmt) (pm:Value) (c:Addr):Obj:={cls:=.type "function",data:=.func (Ct (Str.ofString x) (Str.ofString x) (cu st) (bc st) (ak st) .none .none .none pm none (.ref c) .none)}
noncomputable def oc (x:String) (t l n r:Nat) (v:Option (Nat×Nat)) (d e:Nat):Obj:=oC [vs x t,vs x (t+1),vs "/claim/cut.py" (t+2),vi l,vi n,vi 0,vi 0,vi 3,vr r,.bool true,vi 181,vr (r+1),.none,(match v with|some p=>vr p.1|none=>.none),(match v with|some p=>vr p.2|none=>.none),vr d,vi e,vi l,vs "/claim/cut.py" (e+1)]
theorem Def0.mkO {K:yF}{h:Heap}{mg:Str->Option Value}{x:String}{st:Stmt}{ps:List Str}(X:K.In h)(G:h.Ns mainGlobals mg)(f:Addr)(pm:Value)(c:Addr)
  (hb:∀(kV doc pm:Value) (an:Option Addr) (cdv ct:Value) (us:List Value),us.length=ps.length->bindArgs (Ct (Str.ofString x) (Str.ofString x) (cu st) (bc st) (ak st) .none kV doc pm an cdv ct) ⟨us,[]⟩=pure (ps.zip us))
  (a:D8 K mainGlobals (Str.ofString x)=some (some (.ref f)):=by rfl') (l:K.lookup f=some (oF x st pm c):=by rfl') (cd:C2 K (.ref c) (Str.ofString x)=true:=by rfl'):Def0 K mg (Str.ofString x) st ps:=
 Def0.mk' X G a l cd (by unfold CC;dsimp only;rw[l];rfl) hb
theorem bN {K:yF}{h:Heap}{mg:Str->Option Value}(X:K.In h)(G:h.Ns mainGlobals mg){n:Str}(e:D8 K mainGlobals n=some none:=by rfl'):mg n=none:=PySem.W.mg_none_of X G e
section
variable  {α A B C D E F:Type}{f g:A->B->C->D->E->F->List Value->α}
theorem by1 (h:∀x1 x2 x3 x4 x5 x6 a0,f x1 x2 x3 x4 x5 x6 [a0]=g x1 x2 x3 x4 x5 x6 [a0]):∀x1 x2 x3 x4 x5 x6 (us:List Value),us.length=1->f x1 x2 x3 x4 x5 x6 us=g x1 x2 x3 x4 x5 x6 us
 | _,_,_,_,_,_,[a0],_=>h _ _ _ _ _ _ a0
theorem by2 (h:∀x1 x2 x3 x4 x5 x6 a0 a1,f x1 x2 x3 x4 x5 x6 [a0,a1]=g x1 x2 x3 x4 x5 x6 [a0,a1]):∀x1 x2 x3 x4 x5 x6 (us:List Value),us.length=2->f x1 x2 x3 x4 x5 x6 us=g x1 x2 x3 x4 x5 x6 us
 | _,_,_,_,_,_,[a0,a1],_=>h _ _ _ _ _ _ a0 a1
theorem by3 (h:∀x1 x2 x3 x4 x5 x6 a0 a1 a2,f x1 x2 x3 x4 x5 x6 [a0,a1,a2]=g x1 x2 x3 x4 x5 x6 [a0,a1,a2]):∀x1 x2 x3 x4 x5 x6 (us:List Value),us.length=3->f x1 x2 x3 x4 x5 x6 us=g x1 x2 x3 x4 x5 x6 us
 | _,_,_,_,_,_,[a0,a1,a2],_=>h _ _ _ _ _ _ a0 a1 a2
end
end L2
namespace L2
open PySem
noncomputable section
noncomputable def fQ:MS:=(aq (aE (mOp aW (mOp cy (mC (.int 7901)) (ah 1)) (mC (.int 24697))) (ag 2))
  (aq (mIf (ba (mOp (fm λi j=>decide (i<j)) (ah 1) (mB cj (ac 0 mNil)))) (aE (mIx (ah 0) (ah 1)) (ag 2)) (mIf (ba (mOp (fm λi j=>decide (j<i)) (mB cj (ac 0 mNil)) (mC (.int 0)))) (aE (mOp aW (mOp cy (mOp dZ (mIx (ah 0) (mOp dZ (ah 1) (mB cj (ac 0 mNil)))) (mC (.int 2147483629))) (mC (.int 31))) (mOp cy (mC (.int 7901)) (ah 1))) (ag 2)) mNext))
  (aq (aE (mC (.int 0)) (ag 3))
  (aq (mIf (ba (mOp (fm λi j=>decide (j<=i)) (ah 2) (mOp oq (mC (.int 10)) (mC (.int 18))))) (aE (ah 2) (ag 3)) mNext)
  (bq (aV [3] (ac 3 (aa (mOp aW (mOp dZ (mOp oq (mOp aW (mOp cy (mOp dZ (ah 2) (mC (.int 2147483629))) (mC (.int 48271))) (mOp cy (mC (.int 40692)) (ah 1))) (mC (.int 5))) (mC (.int 2147483629))) (mC (.int 1))) mNil))))))))
noncomputable def iG (ts:List T):Option T:=if ts.length=2 then fY fQ 4 ts else none
noncomputable def fR:MS:=(aq (mIf (ba (mOp (fm λi j=>decide (j<i)) (mIx (ah 0) (mC (.int 0))) (mC (.int 0)))) (aq (aE (mOp dZ (mIx (ah 0) (mC (.int 0))) (ah 1)) (ag 2))
  (aq (aE (mOp fH (mIx (ah 0) (mC (.int 0))) (ah 1)) (lL 0 (ah 0) (mC (.int 0))))
  (bq (ah 2)))) mNext)
  (aq (aE (mOp dZ (mOp cy (mIx (ah 0) (mC (.int 1))) (mC (.int 48271))) (mC (.int 2147483647))) (ag 3))
  (aq (aE (mOp aW (mOp dZ (mOp aW (mOp cy (ah 3) (mC (.int 40692))) (mC (.int 30103))) (mC (.int 2147483399))) (mC (.int 1))) (lL 0 (ah 0) (mC (.int 1))))
  (bq (mOp dZ (mOp fH (mOp aW (mOp cy (ah 3) (mC (.int 2147483647))) (mIx (ah 0) (mC (.int 1)))) (mC (.int 8191))) (ah 1))))))
noncomputable def ai (ts:List T):Option (T×T):=if ts.length=2 then cY fR 0 4 ts else none
noncomputable def eU:MS:=(aq (aE (mC (.str "abcdefghijklmnopqrstuvwxyz")) (ag 2))
  (aq (aE (mM ik (mC (.str "")) (aa (aQ [some 0,none,some 2,none,none,none,none,none,none] (aP (aa (aj 0 0 ai (ac 0 (aa (mC (.int 6)) mNil))) mNil)) (ag 7) mYes (mIx (ah 2) (aj 0 0 ai (ac 0 (aa (mC (.int 26)) mNil))))) mNil)) (ag 3))
  (aq (gK 4 5 (aa (aj 0 0 ai (ac 0 (aa (mC (.int 26)) mNil))) (aa (aj 0 0 ai (ac 0 (aa (mOp aW (mB cj (ac 3 mNil)) (mC (.int 1))) mNil))) mNil)))
  (aq (aE (aV [] mNil) (ag 6))
  (aq (bX (aP (ac 1 mNil)) (ag 7)
  (cf [7,8] (aq (aE (mOp aW (mOp aW (mSl (ah 3) mNoPart (dL (ah 5))) (mIx (ah 2) (mOp dZ (mOp aW (ah 4) (mOp cy (mC (.int 5)) (ah 7))) (mC (.int 26))))) (mSl (ah 3) (dL (ah 5)) mNoPart)) (ag 8))
  (aq (mIf (ba (mOp eqT (mOp dZ (ah 7) (mC (.int 2))) (mC (.int 1)))) (aE (mOp aW (ah 8) (mC (.str "q"))) (ag 8)) mNext)
  (aq (mIf (ba (mOp inT (ah 8) (av [] (aa (mC (.str "min")) (aa (mC (.str "max")) (aa (mC (.str "rest")) (aa (mC (.str "less")) (aa (mC (.str "if")) mNil)))))))) (aE (mOp aW (ah 8) (mC (.str "w"))) (ag 8)) mNext)
  (bp (cM 6 [8] apT (ah 6) (ac 8 mNil))))))))
  (bq (ah 6)))))))
noncomputable def gx (ts:List T):Option (T×T):=if ts.length=2 then cY eU 0 9 ts else none
noncomputable def gW:MS:=(aq (mIf (ba (mOp eqT (aj 0 0 ai (ac 0 (aa (mC (.int 4)) mNil))) (mC (.int 0)))) (bq (mOp cy (av [] (aa (mC (.int 0)) mNil)) (ah 1))) mNext)
  (bq (mB gE (aa (aQ [some 0,none,none] (aP (ac 1 mNil)) (ag 2) mYes (mIx (aV [] (aa (mC (.int 0)) (aa (mC (.int 1)) (aa (mOp bT (mC (.int 0)) (mC (.int 1))) (aa (mC (.int 2)) (aa (mOp bT (mC (.int 0)) (mC (.int 2))) mNil)))))) (aj 0 0 ai (ac 0 (aa (mC (.int 5)) mNil))))) mNil))))
noncomputable def gY (ts:List T):Option (T×T):=if ts.length=2 then cY gW 0 2 ts else none
noncomputable def cx:MS:=(aq (aE (aj 0 0 ai (ac 0 (ac 1 mNil))) (ag 2))
  (aq (aE (aQ [some 0,none,none,none,none] (dM (aa (mOp aW (ah 2) (mC (.int 1))) (ac 1 mNil))) (ag 4) mYes (mIx (aV [] (aa (mC (.int 0)) (aa (mC (.int 1)) (aa (mOp bT (mC (.int 0)) (mC (.int 1))) (aa (mC (.int 2)) (aa (mOp bT (mC (.int 0)) (mC (.int 2))) mNil)))))) (aj 0 0 ai (ac 0 (aa (mC (.int 5)) mNil))))) (ag 3))
  (bq (mB gE (aa (mOp aW (mOp aW (mOp cy (aV [] (aa (mC (.int 0)) mNil)) (ah 2)) (aV [] (aa (mOp bT (mOp bT (mC (.int 0)) (mC (.int 1))) (aj 0 0 ai (ac 0 (aa (mC (.int 2)) mNil)))) mNil))) (ah 3)) mNil)))))
noncomputable def cA (ts:List T):Option (T×T):=if ts.length=2 then cY cx 0 4 ts else none
noncomputable def bD:MS:=(aq (aE (aQ [none,none,none,none,none,none] (aP (ac 2 mNil)) (ag 4) mYes (aV [] mNil)) (ag 3))
  (aq (bX (aP (ac 2 mNil)) (ag 4)
  (cf [4,5] (bX (aP (aa (aj 0 0 ai (ac 0 (aa (mC (.int 4)) mNil))) mNil)) (ag 5)
  (cf [5] (bp (cM 3 [] apT (mIx (ah 3) (ah 4)) (aa (av [] (aa (aj 0 0 ai (ac 0 (ac 2 mNil))) (aa (aj 0 0 gY (ac 0 (ac 1 mNil))) mNil))) mNil)))))))
  (bq (ah 3))))
noncomputable def cH (ts:List T):Option (T×T):=if ts.length=3 then cY bD 0 6 ts else none
noncomputable def bE:MS:=(aq (aE (aQ [none,none,none,none,none,none] (aP (ac 2 mNil)) (ag 4) mYes (aV [] mNil)) (ag 3))
  (aq (bX (aP (ac 2 mNil)) (ag 4)
  (cf [4,5] (bX (aP (aa (mOp aW (mC (.int 1)) (aj 0 0 ai (ac 0 (aa (mC (.int 3)) mNil)))) mNil)) (ag 5)
  (cf [5] (mIf (kS (ba (mOp (fm λi j=>decide (j<i)) (ah 4) (mC (.int 0)))) (ba (mOp eqT (aj 0 0 ai (ac 0 (aa (mC (.int 4)) mNil))) (mC (.int 0))))) (bp (cM 3 [] apT (mIx (ah 3) (ah 4)) (aa (av [] (aa (aj 0 0 ai (ac 0 (ac 4 mNil))) (aa (mOp cy (av [] (aa (mC (.int 0)) mNil)) (ah 1)) mNil))) mNil))) (bp (cM 3 [] apT (mIx (ah 3) (ah 4)) (aa (av [] (aa (aj 0 0 ai (ac 0 (ac 2 mNil))) (aa (aj 0 0 cA (ac 0 (ac 1 mNil))) mNil))) mNil))))))))
  (bq (ah 3))))
noncomputable def bJ (ts:List T):Option (T×T):=if ts.length=3 then cY bE 0 6 ts else none
noncomputable def bG:MS:=(aq (aE (aV [] mNil) (ag 3))
  (aq (bX (aP (aa (mB cj (ac 0 mNil)) mNil)) (ag 4)
  (cf [4] (bp (cM 3 [] apT (ah 3) (aa (mOp cy (mIx (ah 0) (mOp dZ (mOp aW (ah 4) (ah 1)) (mB cj (ac 0 mNil)))) (mIx (ah 2) (ah 4))) mNil)))))
  (bq (mB gE (ac 3 mNil)))))
noncomputable def bL (ts:List T):Option T:=if ts.length=3 then fY bG 5 ts else none
noncomputable def bf:MS:=(aq (aE (mOp aW (mC (.int 1)) (aj 0 0 ai (ac 0 (aa (mC (.int 2)) mNil)))) (ag 3))
  (aq (aE (aV [] (aa (av [] (aa (mC (.int 0)) (aa (mC (.int 0)) (aa (av [3] (aa (mC (.int 0)) (ac 3 mNil))) mNil)))) (aa (av [] (aa (mC (.int 1)) (aa (mC (.int 1)) (aa (av [] (aa (mC (.int 0)) (aa (mOp bT (mOp bT (mC (.int 0)) (mC (.int 1))) (aj 0 0 ai (ac 0 (aa (mC (.int 2)) mNil)))) mNil))) mNil)))) (aa (av [] (aa (mC (.int 0)) (aa (mC (.int 1)) (aa (av [] (aa (mOp bT (mC (.int 0)) (mC (.int 1))) (aa (mOp bT (aj 0 0 ai (ac 0 (aa (mC (.int 3)) mNil))) (mC (.int 1))) mNil))) mNil)))) mNil)))) (ag 4))
  (aq (bp (cM 4 [] apT (ah 4) (aa (av [] (aa (mC (.int 1)) (aa (mC (.int 0)) (aa (av [] (aa (mOp bT (mC (.int 0)) (aj 0 0 ai (ac 0 (aa (mC (.int 2)) mNil)))) (aa (mC (.int 0)) mNil))) mNil)))) mNil)))
  (aq (mIf (ba (mOp eqT (ah 1) (mC (.int 3)))) (aq (aE (aV [] (aa (av [] (aa (mC (.int 0)) (aa (mC (.int 0)) (aa (av [3] (aa (mC (.int 0)) (aa (mC (.int 0)) (ac 3 mNil)))) mNil)))) (aa (av [] (aa (mC (.int 1)) (aa (mC (.int 1)) (aa (av [] (aa (mC (.int 0)) (aa (mC (.int 0)) (aa (mOp bT (mC (.int 0)) (mC (.int 1))) mNil)))) mNil)))) (aa (av [] (aa (mC (.int 0)) (aa (mC (.int 1)) (aa (av [] (aa (mC (.int 0)) (aa (mOp bT (mC (.int 0)) (mC (.int 1))) (aa (mC (.int 0)) mNil)))) mNil)))) (aa (av [] (aa (mC (.int 1)) (aa (mC (.int 0)) (aa (av [] (aa (mC (.int 0)) (aa (mC (.int 0)) (aa (aj 0 0 ai (ac 0 (aa (mC (.int 2)) mNil))) mNil)))) mNil)))) mNil))))) (ag 4))
  (aE (mOp aW (ah 4) (aV [] (aa (av [] (aa (mC (.int 2)) (aa (mC (.int 2)) (aa (av [] (aa (mC (.int 0)) (aa (mOp aW (mC (.int 1)) (aj 0 0 ai (ac 0 (aa (mC (.int 2)) mNil)))) (aa (mC (.int 0)) mNil)))) mNil)))) (aa (av [] (aa (mC (.int 0)) (aa (mC (.int 2)) (aa (av [] (aa (mOp bT (mC (.int 0)) (mC (.int 1))) (aa (mC (.int 0)) (aa (mC (.int 1)) mNil)))) mNil)))) (aa (av [] (aa (mC (.int 2)) (aa (mC (.int 0)) (aa (av [] (aa (mC (.int 0)) (aa (mC (.int 0)) (aa (mC (.int 0)) mNil)))) mNil)))) mNil))))) (ag 4))) mNext)
  (aq (gK 5 6 (aa (aj 0 0 ai (ac 0 (ac 1 mNil))) (aa (aQ [some 0,none,none,none,none,none,none,none,none,none,none,none] (aP (ac 1 mNil)) (ag 11) mYes (mOp bT (mC (.int 1)) (mOp cy (mC (.int 2)) (aj 0 0 ai (ac 0 (aa (mC (.int 2)) mNil)))))) mNil)))
  (aq (aE (aQ [none,none,none,none,none,none,none,none,none,none,none] (aP (ac 2 mNil)) (ag 8) mYes (aV [] mNil)) (ag 7))
  (aq (bX (mIt (ah 4)) (cr (aL (ag 8) (aL (ag 9) (aL (ag 10) mGNil))))
  (cf [8,9,10] (bp (cM 7 [] apT (mIx (ah 7) (ah 8)) (aa (av [9] (ac 9 (aa (mB bL (ac 10 (ac 5 (ac 6 mNil)))) mNil))) mNil)))))
  (aq (bX (dM (aa (mC (.int 3)) (ac 2 mNil))) (ag 8)
  (cf [8] (bp (cM 7 [] apT (mIx (ah 7) (ah 8)) (aa (av [] (aa (aj 0 0 ai (ac 0 (ac 8 mNil))) (aa (aj 0 0 gY (ac 0 (ac 1 mNil))) mNil))) mNil)))))
  (bq (ah 7))))))))))
noncomputable def bK (ts:List T):Option (T×T):=if ts.length=3 then cY bf 0 11 ts else none
noncomputable def bF:MS:=(aq (aE (aj 0 0 bJ (ac 0 (ac 1 (ac 2 mNil)))) (ag 3))
  (aq (aE (mOp aW (mC (.int 1)) (aj 0 0 ai (ac 0 (ac 2 mNil)))) (ag 4))
  (aq (aE (mOp cy (aV [] (aa (mC (.int 0)) mNil)) (ah 1)) (ag 5))
  (aq (bX (aP (ac 4 mNil)) (ag 6)
  (cf [6,7] (aq (aE (aQ [some 0,none,none,none,none,none,none,none,none] (aP (ac 1 mNil)) (ag 8) mYes (mOp bT (aj 0 0 ai (ac 0 (aa (mC (.int 3)) mNil))) (mC (.int 1)))) (ag 7))
  (aq (aE (aQ [none,none,none,none,none,some 5,none,some 7,none] (aP (ac 1 mNil)) (ag 8) mYes (mOp bT (mB kT (aa (mOp bT (mC (.int 0)) (mC (.int 2))) (aa (mB lP (aa (mC (.int 2)) (aa (mOp aW (mIx (ah 5) (ah 8)) (mIx (ah 7) (ah 8))) mNil))) mNil))) (mIx (ah 5) (ah 8)))) (ag 7))
  (aq (mIf (ba (mOp eqT (mOp aW (ah 6) (mC (.int 1))) (ah 4))) (aE (aQ [none,none,none,none,none,none,none,none,none] (mIt (ah 5)) (ag 8) mYes (mOp bT (mC (.int 0)) (ah 8))) (ag 7)) mNext)
  (aq (aE (aQ [none,none,none,none,none,some 5,none,some 7,none] (aP (ac 1 mNil)) (ag 8) mYes (mOp aW (mIx (ah 5) (ah 8)) (mIx (ah 7) (ah 8)))) (ag 5))
  (bp (cM 3 [] j0 (mIx (ah 3) (ah 6)) (aa (mC (.int 0)) (aa (av [] (aa (mOp dZ (mOp aW (ah 6) (mC (.int 1))) (ah 4)) (aa (mB gE (ac 7 mNil)) mNil))) mNil))))))))))
  (bq (ah 3))))))
noncomputable def cI (ts:List T):Option (T×T):=if ts.length=3 then cY bF 0 8 ts else none
noncomputable def eV:MS:=(aq (gK 1 2 (aa (aj 0 0 ai (ac 0 (aa (mC (.int 8)) mNil))) (aa (aj 0 0 ai (ac 0 (aa (mC (.int 16)) mNil))) mNil)))
  (aq (aE (mIx (aV [] (aa (mC (.int 1)) (aa (mC (.int 2)) (aa (mC (.int 2)) (aa (mC (.int 2)) (aa (mC (.int 2)) (aa (mC (.int 1)) (aa (mC (.int 2)) (aa (mC (.int 3)) mNil))))))))) (mOp dZ (ah 2) (mC (.int 8)))) (ag 3))
  (aq (aE (mOp aW (mC (.int 1)) (aj 0 0 ai (ac 0 (aa (mIx (aV [] (aa (mC (.int 3)) (aa (mC (.int 6)) mNil))) (mOp fH (ah 2) (mC (.int 8)))) mNil)))) (ag 4))
  (aq (mIf (ba (mOp (fm λi j=>decide (i<j)) (ah 1) (mC (.int 3)))) (bq (av [3] (ac 3 (aa (aj 0 0 cH (ac 0 (ac 3 (ac 4 mNil)))) mNil)))) mNext)
  (aq (mIf (ba (mOp (fm λi j=>decide (i<j)) (ah 1) (mC (.int 5)))) (bq (av [3] (ac 3 (aa (aj 0 0 bJ (ac 0 (ac 3 (ac 4 mNil)))) mNil)))) mNext)
  (aq (mIf (ba (mOp eqT (ah 1) (mC (.int 5)))) (bq (av [3] (ac 3 (aa (aj 0 0 cI (ac 0 (ac 3 (ac 4 mNil)))) mNil)))) mNext)
  (aq (aE (mB kT (aa (mC (.int 2)) (ac 3 mNil))) (ag 3))
  (bq (av [3] (ac 3 (aa (aj 0 0 bK (ac 0 (ac 3 (aa (mB kT (ac 3 (aa (mB lP (ac 4 (aa (mC (.int 5)) mNil))) mNil))) mNil)))) mNil)))))))))))
noncomputable def gy (ts:List T):Option (T×T):=if ts.length=1 then cY eV 0 5 ts else none
noncomputable def eS:MS:=(aq (aE (mB lJ (ac 1 mNil)) (ag 2))
  (aq (dY (ba (mOp (fm λi j=>decide (j<i)) (mB cj (ac 2 mNil)) (mC (.int 1))))
  (cf [3,4] (aq (aE (aj 0 0 ai (ac 0 (aa (mOp bT (mB cj (ac 2 mNil)) (mC (.int 1))) mNil))) (ag 3))
  (cf [3,4] (mIf (kS (ba (mOp (fm λi j=>decide (j<i)) (mB cj (ac 2 mNil)) (mC (.int 2)))) (ba (mOp eqT (aj 0 0 ai (ac 0 (aa (mC (.int 5)) mNil))) (mC (.int 0))))) (aq (aE (mB lP (ac 3 (aa (mOp bT (mB cj (ac 2 mNil)) (mC (.int 3))) mNil))) (ag 3))
  (aE (aV [] (aa (av [] (aa (mC (.str "if")) (aa (mIx (ah 2) (ah 3)) (aa (mIx (ah 2) (mOp aW (ah 3) (mC (.int 1)))) (aa (mIx (ah 2) (mOp aW (ah 3) (mC (.int 2)))) mNil))))) mNil)) (fu 2 (ah 2) (ah 3) (mOp aW (ah 3) (mC (.int 3)))))) (aq (aE (mIx (aV [] (aa (mC (.str "+")) (aa (mC (.str "-")) (aa (mC (.str "*")) (aa (mC (.str "min")) (aa (mC (.str "max")) (aa (mC (.str "rest")) (aa (mC (.str "less")) mNil)))))))) (aj 0 0 ai (ac 0 (aa (mC (.int 7)) mNil)))) (ag 4))
  (aE (aV [] (aa (av [4] (aa (mC (.str "op")) (ac 4 (aa (mIx (ah 2) (ah 3)) (aa (mIx (ah 2) (mOp aW (ah 3) (mC (.int 1)))) mNil))))) mNil)) (fu 2 (ah 2) (ah 3) (mOp aW (ah 3) (mC (.int 2)))))))))))
  (bq (mIx (ah 2) (mC (.int 0))))))
noncomputable def gt (ts:List T):Option (T×T):=if ts.length=2 then cY eS 0 5 ts else none
noncomputable def eT:MS:=(aq (aE (aj 0 0 gy (ac 0 mNil)) (cr (aL (ag 1) (aL (ag 2) mGNil))))
  (aq (aE (mIx (aV [] (aa (mOp aW (mC (.int 2)) (aj 0 0 ai (ac 0 (aa (mC (.int 9)) mNil)))) (aa (mOp aW (mC (.int 2)) (aj 0 0 ai (ac 0 (aa (mC (.int 998)) mNil)))) (aa (mOp bT (mC (.int 1000000000)) (aj 0 0 ai (ac 0 (aa (mC (.int 9)) mNil)))) mNil)))) (aj 0 0 ai (ac 0 (aa (mC (.int 3)) mNil)))) (ag 3))
  (aq (aE (aj 0 0 gx (ac 0 (aa (mB cj (ac 2 mNil)) mNil))) (ag 4))
  (aq (aE (aV [] mNil) (ag 5))
  (aq (bX (aP (aa (mB cj (ac 2 mNil)) mNil)) (ag 6)
  (cf [6,7,8,9] (aq (aE (aQ [none,none,none,none,some 4,none,none,none,none,none,none,none] (mIt (mSl (mIx (ah 2) (ah 6)) mNoPart (dL (mOp fH (mC (.int 16)) (mB cj (ac 2 mNil)))))) (cr (aL (ag 10) (aL (ag 11) mGNil))) mYes (av [11] (aa (mC (.str "at")) (aa (mIx (ah 4) (ah 10)) (ac 11 mNil))))) (ag 7))
  (aq (bX (aP (aa (mOp aW (aj 0 0 ai (ac 0 (aa (mC (.int 2)) mNil))) (mB pI (aa (mOp eqT (ah 7) (aV [] mNil)) mNil))) mNil)) (ag 8)
  (cf [8,9] (aq (aE (aj 0 0 ai (ac 0 (aa (mIx (aV [] (aa (mC (.int 9)) (aa (mC (.int 1000000001)) mNil))) (aj 0 0 ai (ac 0 (aa (mC (.int 2)) mNil)))) mNil))) (ag 9))
  (bp (cM 7 [] j0 (ah 7) (aa (aj 0 0 ai (ac 0 (aa (mOp aW (mB cj (ac 7 mNil)) (mC (.int 1))) mNil))) (aa (av [9] (aa (mC (.str "num")) (ac 9 mNil))) mNil)))))))
  (bp (cM 5 [] apT (ah 5) (aa (av [] (aa (mIx (ah 4) (ah 6)) (aa (aj 0 0 gt (ac 0 (ac 7 mNil))) mNil))) mNil)))))))
  (bq (av [1,3] (ac 1 (ac 3 (aa (mB gE (ac 5 mNil)) mNil))))))))))
noncomputable def gv (ts:List T):Option (T×T):=if ts.length=1 then cY eT 0 10 ts else none
end
end L2
namespace L2
open PySem PySem.Spec PyProof.Rows
inductive TyB (K:yF) (H:Hp):V->String->Prop where
 | non:TyB K H .non "NoneType"
 | bl (x:Bool):TyB K H (.bl x) "bool"
 | int (i:Int):TyB K H (.int i) "int"
 | str (x:Str):TyB K H (.str x) "str"
 | tup {a:Addr} {xs:List V}:SqT K H a xs->TyB K H (.ref a) "tuple"
 | lst {a:Addr} {xs:List V}:SqL K H a xs->TyB K H (.ref a) "list"
 | dK {a:Addr} {kvs:List (Key×V)}:H a=some (.dK kvs)->TyB K H (.ref a) "dict"
theorem TyB.kit {X:Cx}{pins:List (Addr×Obj)}{Z:St}{H:Hp}{s:Shared}{x:V}{u:Value}{n:String}(I:Inv X pins Z H s)(r:RelV x u)(t:TyB X.K H x n):∃Hq,PySem.W.KitX X.K u (.type n) Hq/\Hq s.heap/\u≠Value.builtin "__main__.__loader__#opaque" :=by
 cases t with
 | non=>cases (show u=Value.none from r);exact⟨_,PySem.W.kitx_none,True.intro,λz=>nomatch z⟩
 | bl y=>cases (show u=Value.bool y from r);exact⟨_,PySem.W.kitx_bool,True.intro,λz=>nomatch z⟩
 | int i=>obtain⟨t,q⟩:=(show∃t,u=Value.int i t from r);cases q;exact⟨_,PySem.W.kitx_int,True.intro,λz=>nomatch z⟩
 | str y=>obtain⟨t,q⟩:=(show∃t,u=Value.str y t from r);cases q;exact⟨_,PySem.W.kitx_str,True.intro,λz=>nomatch z⟩
 | @tup a xs hq=>
  cases r
  obtain⟨its,r,p,_⟩:=I.tuple hq
  obtain⟨o,h1,h2,_⟩:=p
  exact⟨_,PySem.W.kitx_tuple,⟨o,h1,h2⟩,λz=>nomatch z⟩
 | @lst a xs hq=>
  cases r
  obtain⟨its,r,p,_⟩:=I.list hq
  obtain⟨o,n,h1,h2,_⟩:=p
  exact⟨_,PySem.W.kitx_list,⟨o,h1,h2⟩,λz=>nomatch z⟩
 | @dK a kvs e=>
  cases r
  obtain⟨_,_,vs,_,p⟩:=(show ObjOk X.prog X.w H s.heap a (.dK kvs)from I.hok a _ e)
  obtain⟨o,es,ep,h1,h2,_⟩:=p
  exact⟨_,PySem.W.kitx_dict,⟨o,h1,h2.1⟩,λz=>nomatch z⟩
def yf (K:yF)(n:String):List V->Hp->VK->Prop:=λxs H Q=>∃x t b,xs=[x,.ty n]/\TyB K H x t/\DU K (.type t) (.type n)=some b/\Q (.bl b) H
theorem o9 {X:Cx}(n:String):CallR X (.builtin "isinstance") (yf X.K n):=by
 intro pins s Z H xs us Q I rv h
 obtain⟨x,t,b,rfl,ty,e,q⟩:=h
 obtain⟨u,w',rfl,r1,r2⟩:=lq rv
 cases r2
 obtain⟨Hq,h1,h2,h3⟩:=ty.kit I r1
 exact PySem.W.kia_one h1 I.kIn h2 e h3 λtk=>⟨.bl b,H,I.tok tk,rfl,q⟩
noncomputable def tyN:T->Option String
 | .im .non=>some "NoneType"
 | .im (.bl _)=>some "bool"
 | .im (.int _)=>some "int"
 | .im (.str _)=>some "str"
 | .im (.tup _)=>some "tuple"
 | .im (.ls _)=>none
 | .im (.fd _ _)=>none
 | .tup _=>some "tuple"
 | .li _=>some "list"
 | .lst _=>some "list"
 | .di _=>some "dict"
 | .dc _=>some "dict"
 | .ins _ _=>none
noncomputable def kN (n m:String):Bool:=n==m||(n == "bool" && m == "int")
@[irreducible] noncomputable def j2 (ns:List String)(t:T):Option T:=(tyN t).map λn=>.im (.bl (ns.any (kN n)))
theorem yy {K:yF}{H:Hp}{x:V}{n:String}:∀{t:T},Rpx K H t x->tyN t=some n->TyB K H x n
 | .im i,r,e=>by
  have h:=bW r
  cases i<;>rw[RpI]at h<;>cases e
  ·rw[h];exact .non
  ·rw[h];exact .bl _
  ·rw[h];exact .int _
  ·rw[h];exact .str _
  ·obtain⟨a,xs,rfl,h,_⟩:=h;exact .tup h
 | .tup ts,r,e=>by cases e;obtain⟨a,xs,F,rfl,h,_⟩:=km r;exact .tup h
 | .li ts,r,e=>by cases e;obtain⟨a,xs,rfl,h,_⟩:=bA r;exact .lst (.inl h)
 | .lst ts,r,e=>by cases e;obtain⟨a,xs,F,rfl,h,_⟩:=fA r;exact .lst (.inl h)
 | .di ts,r,e=>by cases e;obtain⟨F,r⟩:=r;rw[Rp]at r;obtain⟨a,xs,rfl,⟨ys,h,_⟩,_⟩:=r;exact .dK h
 | .dc ts,r,e=>by cases e;obtain⟨F,r⟩:=r;rw[Rp]at r;obtain⟨a,xs,F',rfl,⟨ys,h,_⟩,_⟩:=r;exact .dK h
 | .ins C ts,r,e=>by cases e
noncomputable def l7:List String:=["int","bool","str","tuple","list","dict"]
theorem n8 {K:yF}{n m:String}{t:T}(e:tyN t=some n)(hm:m∈l7):DU K (.type n) (.type m)=some (kN n m):=by
 have hn:n = "NoneType" ∨ n∈l7:=by
  unfold tyN at e
  split at e<;>cases e<;>first|exact .inl rfl|exact .inr (by decide)
 rcases hn with rfl|hn
 ·rcases ycM hm with rfl|hm
  ·rfl
  rcases ycM hm with rfl|hm
  ·rfl
  rcases ycM hm with rfl|hm
  ·rfl
  rcases ycM hm with rfl|hm
  ·rfl
  rcases ycM hm with rfl|hm
  ·rfl
  rcases ycM hm with rfl|hm
  ·rfl
  cases hm
 ·have key:∀a∈l7,∀b∈l7,DU K (.type a) (.type b)=some (kN a b):=by
   intro a ha b hb
   simp only[l7,BT,BX,or_false]at ha hb
   rcases ha with rfl|rfl|rfl|rfl|rfl|rfl<;>rcases hb with rfl|rfl|rfl|rfl|rfl|rfl<;>rfl
  exact key n hn m hm
section
variable  {ι : Type}{C:ι->Cx}{P:Program}{W:World}{K:yF}{mg:Str->Option Value}{base:Heap}{k:Nat}{e:Expr}{m:ME}{pos:Pos}
theorem qD {n:String}(hn:n∈l7):u9 K (λx H Q=>yf K n [x,.ty n] H Q) (j2 [n]):=by
 intro H x tx t Q r e q
 unfold j2 at e
 cases e1:tyN tx with
 | none=>rw[e1]at e;cases e
 | some n'=>
  rw[e1]at e;cases e
  refine⟨x,n',_,rfl,yy r e1,n8 e1 hn,?_⟩
  refine q _ H ⟨Same.refl H,[],?_,CD,λa h=>by cases h⟩
  rw[Rp,RpI]
  exact⟨by simp,rfl⟩
theorem zT {n:String}{x:Str}{p p1:Pos}(ck:CK C P W K mg base k)(hb:mg "isinstance" = none)(hx:mg x=none)(bx:bootBuiltins x=some (.type n))(hn:n∈l7)(ha:QE C K e m)(hg:∀i,Gl (C i) "isinstance" :=by intro _;rfl)(hg1:∀i,Gl (C i) x:=by intro _;rfl)
  (hs:bt e=false:=by rfl) (hxn:x≠("__name__" : Str):=by decide) (hdb:(x==("__debug__" : Str))=false:=by decide):QE C K (.Call (.Name "isinstance" p) [e,.Name x p1] [] pos) (mUn (j2 [n]) m):=by
 obtain⟨ta,q,r⟩:=ha
 refine⟨_,λi=>gq (r:=yf K n) (by have:=o9 (X:=C i) n;rw[ck.kk i]at this;exact this) (hg i) (by rw[ck.mg i];exact hb) boot_isinstance (fX (hs:=hs) (q i) (fX (tH (hg1 i) (by rw[ck.mg i];exact hx) bx (At n) hxn hdb) qk)) (by show(!bt e&&true)=true;rw[hs];rfl),?_⟩
 exact yq (qD hn) r
end
theorem zx {QT1:T->Prop}{ns:List String}{t:T}{n:String}(h:tyN t=some n)(q:QT1 (.im (.bl (ns.any (kN n))))):W1 (j2 ns t) QT1:=⟨_,by unfold j2;rw[h];rfl,q⟩
theorem su {prog:Program}{w:World}{A:Around}{E:Value->Shared->Prop}{s:Shared}{z TI TO i1 i2:Addr}{fp1 fp2:List Addr}{n1 n2 i:Nat}{P1 P2:Nat->Value->Prop}{St1 St2:Nat->Heap->Prop}{a b:Value}{Q:Value->Shared->Prop}
  (D1:Draws prog w A i1 fp1 n1 P1 St1) (D2:Draws prog w A i2 fp2 n2 P2 St2)
  (hz:IsZip s.heap z TI TO .none) (hTI:IsPair s.heap TI (.ref i1) (.ref i2)) (hTO:IsPair s.heap TO a b) (s1:St1 i s.heap) (s2:St2 i s.heap) (l1:i<n1) (l2:i<n2)
  (ap:TI≠z/\TO≠z/\TI≠TO/\TI≠i1/\TI≠i2/\i1≠z/\i2≠z/\i1≠TO/\i2≠TO/\i1≠i2) (f1:z∉fp1/\TO∉fp1/\i2∉fp1) (f2:z∉fp2/\TO∉fp2/\i1∉fp2)
  (k:∀x y h' tk,P1 i x->P2 i y->IsZip h' z TI TO (rawInt s.heap.objs.size)->IsPair h' TO x y->St1 (i+1) h'->St2 (i+1) h'->IsPair h' s.heap.objs.size x y->h'.objs.size=s.heap.objs.size+1 →
   (∀c o,c≠z->c≠TO->c≠i1->c≠i2->s.heap.get? c=some o->h'.get? c=some o)->Q (.ref s.heap.objs.size) {s with heap:=h',toks:=tk}) :
  wpAny (model prog w) A (Builtin.«zip.__next__» ⟨[.ref z],[]⟩) (λfin s'=>∃v,fin=Fin.done (Flow.ret v)/\Q v s') E s:=by
 show wpAny _ _ (field (.ref z) 2 >>= _) _ _ _
 refine wpAny_bind (wpAny_field hz rfl (x:=.bool false) rfl ?_)
 refine wpAny_bind (wpAny_field hz rfl (x:=.ref TI) rfl ?_)
 refine wpAny_bind (wpAny_seqItems hTI rfl ?_)
 show wpAny _ _ (Builtin.SmallTypes.ownedTupleIsFree (.ref z) >>= _) _ _ _
 refine wpAny_bind ?_
 show wpAny _ _ (field (.ref z) 0 >>= _) _ _ _
 refine wpAny_bind (wpAny_field hz rfl (x:=.none) rfl ?_)
 refine wpAny_pure ?_
 show wpAny _ _ (rule _ >>= _) _ _ _
 refine wpAny_bind (wpAny_rule ?_)
 refine wpAny_bind (wpAny_field hz rfl (x:=.ref TO) rfl ?_)
 refine wpAny_bind (wpAny_setField hz rfl (CQ _) ?_)
 have hz1:=Heap.get?_update_self (Obj.mapFields λx_1=>x_1.setIfInBounds 0 Value.ellipsis) hz rfl
 have b1:=Heap.SameBut.update s.heap z (Obj.mapFields λx_1=>x_1.setIfInBounds 0 Value.ellipsis)
 generalize s.heap.update z (Obj.mapFields λx_1=>x_1.setIfInBounds 0 Value.ellipsis)=h1 at hz1 b1⊢
 obtain⟨a1,a2,a3,a4,a5,a6,a7,a8,a9,a10⟩:=ap
 refine wpAny_bind ?_
 show wpAny _ _ (forIn [(Value.ref i1,0),(Value.ref i2,1)] ((none:Option PySem.Fin),()) _) _ _ _
 rw[C8]
 refine wpAny_bind (wpAny_bind (wpAny_onRaise ?_))
 show wpAny _ _ (Builtin.SmallTypes.nextOf (.ref i1) >>= _) _ _ _
 refine wpAny_bind (D1.item i _ _ _ l1 (D1.frame i _ _ s1 λc hc o e=>(b1.2 c λq=>f1.1 (q▸hc)).trans e) λx h2 t2 px s1' b2=>?_)
 refine wpAny_pure ?_
 have b2':Heap.SameBut i1 h1 h2:=b2
 have hTO2:IsPair h2 TO a b:=((b2'.2 TO (Ne.symm a8)).trans (b1.2 TO a2)).trans hTO
 show wpAny _ _ (seqItems? (.ref TO) >>= _) _ _ _
 refine wpAny_bind (wpAny_seqItems hTO2 rfl ?_)
 refine wpAny_bind (wpAny_updateSeq_pair hTO2 λh3 hTO3 b3=>?_)
 have b3':Heap.SameBut TO h2 h3:=b3
 refine wpAny_bind (wpAny_letGo (wpAny_pure ?_))
 show wpAny _ _ (forIn [(Value.ref i2,1)] ((none:Option PySem.Fin),()) _) _ _ _
 rw[C8]
 refine wpAny_bind (wpAny_bind (wpAny_onRaise ?_))
 show wpAny _ _ (Builtin.SmallTypes.nextOf (.ref i2) >>= _) _ _ _
 have hTO3':IsPair h3 TO x b:=hTO3
 refine wpAny_bind (D2.item i _ _ _ l2 (D2.frame i _ _ s2 λc hc o e=>(b3'.2 c λq=>f2.2.1 (q▸hc)).trans ((b2'.2 c λq=>f2.2.2 (q▸hc)).trans ((b1.2 c λq=>f2.1 (q▸hc)).trans e))) λy h4 t4 py s2' b4=>?_)
 refine wpAny_pure ?_
 have b4':Heap.SameBut i2 h3 h4:=b4
 have hTO4:IsPair h4 TO x b:=(b4'.2 TO (Ne.symm a9)).trans hTO3'
 show wpAny _ _ (seqItems? (.ref TO) >>= _) _ _ _
 refine wpAny_bind (wpAny_seqItems hTO4 rfl ?_)
 refine wpAny_bind (wpAny_updateSeq_pair hTO4 λh5 hTO5 b5=>?_)
 have b5':Heap.SameBut TO h4 h5:=b5
 refine wpAny_bind (wpAny_letGo (wpAny_pure ?_))
 have hTO5':IsPair h5 TO x y:=hTO5
 show wpAny _ _ (forIn ([]:List (Value×Nat)) ((none:Option PySem.Fin),()) _) _ _ _
 rw[Ej]
 refine wpAny_pure ?_
 show wpAny _ _ (seqItems? (.ref TO) >>= _) _ _ _
 refine wpAny_bind (wpAny_seqItems hTO5' rfl ?_)
 refine wpAny_bind (wpAny_newTuple (items:=[x,y]) ?_ (by show 2<=sizeLine;decide))
 have hz5:h5.get? z=_:=(b5'.2 z (Ne.symm a2)).trans ((b4'.2 z (Ne.symm a7)).trans ((b3'.2 z (Ne.symm a2)).trans ((b2'.2 z (Ne.symm a6)).trans hz1)))
 have sz:h5.objs.size=s.heap.objs.size:=b5'.1.trans (b4'.1.trans (b3'.1.trans (b2'.1.trans b1.1)))
 have hz6:=Heap.get?_push_of_some {cls:=.type "tuple",data:=.seq [x,y].toArray} hz5
 have hn6:=Heap.get?_push_size h5 (o:={cls:=.type "tuple",data:=.seq [x,y].toArray}) rfl
 show wpAny _ _ (Builtin.SmallTypes.ownedTupleHandOut (.ref z) (.ref h5.objs.size) >>= _) _ _ _
 refine wpAny_bind ?_
 show wpAny _ _ (setField (.ref z) 0 (rawInt h5.objs.size) >>= _) _ _ _
 refine wpAny_bind (wpAny_setField hz6 rfl (CQ _) ?_)
 have hz7:=Heap.get?_update_self (Obj.mapFields λx_1=>x_1.setIfInBounds 0 (rawInt h5.objs.size)) hz6 rfl
 have b7:=Heap.SameBut.update (h5.push {cls:=.type "tuple",data:=.seq [x,y].toArray}) z (Obj.mapFields λx_1=>x_1.setIfInBounds 0 (rawInt h5.objs.size))
 generalize (h5.push {cls:=.type "tuple",data:=.seq [x,y].toArray}).update z (Obj.mapFields λx_1=>x_1.setIfInBounds 0 (rawInt h5.objs.size))=h7 at hz7 b7⊢
 refine wpAny_setField hz7 rfl (Nat.succ_lt_succ (CQ _)) ?_
 have hz8:=Heap.get?_update_self (Obj.mapFields λx_1=>x_1.setIfInBounds 1 (Value.bool false)) hz7 rfl
 have b8:=Heap.SameBut.update h7 z (Obj.mapFields λx_1=>x_1.setIfInBounds 1 (Value.bool false))
 generalize h7.update z (Obj.mapFields λx_1=>x_1.setIfInBounds 1 (Value.bool false))=h8 at hz8 b8⊢
 have zl:z<s.heap.objs.size:=Heap.lt_size hz
 have nz:h5.objs.size≠z:=by rw[sz];exact C4 zl
 have all8:∀c o,c≠z->h5.get? c=some o->h8.get? c=some o:=λc o n e=>(b8.2 c n).trans ((b7.2 c n).trans (Heap.get?_push_of_some _ e))
 refine wpAny_pure ⟨_,rfl,?_⟩
 have e9:(s.heap.objs.size)=h5.objs.size:=sz.symm
 rw[←e9]
 refine k x y h8 t4 px py ?_ ?_ ?_ ?_ ?_ ?_ ?_
 ·rw[e9];exact hz8
 ·exact all8 TO _ a2 hTO5'
 ·refine D1.frame _ _ _ s1' λc hc o e=>all8 c o (λq=>f1.1 (q▸hc)) ((b5'.2 c λq=>f1.2.1 (q▸hc)).trans ((b4'.2 c λq=>f1.2.2 (q▸hc)).trans ((b3'.2 c λq=>f1.2.1 (q▸hc)).trans e)))
 ·refine D2.frame _ _ _ s2' λc hc o e=>all8 c o (λq=>f2.1 (q▸hc)) ((b5'.2 c λq=>f2.2.1 (q▸hc)).trans e)
 ·rw[e9];exact(b8.2 _ nz).trans ((b7.2 _ nz).trans hn6)
 ·rw[b8.1,b7.1,Heap.size_push,e9]
 ·intro c o n1 n2 n3 n4 e
  exact all8 c o n1 ((b5'.2 c n2).trans ((b4'.2 c n4).trans ((b3'.2 c n2).trans ((b2'.2 c n3).trans ((b1.2 c n1).trans e)))))
theorem u8 {prog:Program}{w:World}{A:Around}{E:Value->Shared->Prop}{s:Shared}{z TI TO i1 i2:Addr}{fp1 fp2:List Addr}{n1 n2 i:Nat}{P1 P2:Nat->Value->Prop}{St1 St2:Nat->Heap->Prop}{a b:Value}{Q:PySem.Fin->Shared->Prop}
  (D1:Draws prog w A i1 fp1 n1 P1 St1) (D2:Draws prog w A i2 fp2 n2 P2 St2)
  (hz:IsZip s.heap z TI TO .none) (hTI:IsPair s.heap TI (.ref i1) (.ref i2)) (hTO:IsPair s.heap TO a b) (s1:St1 i s.heap) (s2:St2 i s.heap) (l:i=n1∨(i<n1/\i=n2))
  (ap:TI≠z/\TO≠z/\TI≠TO/\TI≠i1/\TI≠i2/\i1≠z/\i2≠z/\i1≠TO/\i2≠TO/\i1≠i2) (f1:z∉fp1/\TO∉fp1/\i2∉fp1) (f2:z∉fp2/\TO∉fp2/\i1∉fp2)
  (k:∀h' e tk,(∀c o,c≠z->c≠TO->c≠i1->c≠i2->s.heap.get? c=some o->h'.get? c=some o)->(∃o,h'.get? e=some o/\o.cls=.type "StopIteration")->E (.ref e) {s with heap:=h',toks:=tk}) :
  wpAny (model prog w) A (Builtin.«zip.__next__» ⟨[.ref z],[]⟩) Q E s:=by
 show wpAny _ _ (field (.ref z) 2 >>= _) _ _ _
 refine wpAny_bind (wpAny_field hz rfl (x:=.bool false) rfl ?_)
 refine wpAny_bind (wpAny_field hz rfl (x:=.ref TI) rfl ?_)
 refine wpAny_bind (wpAny_seqItems hTI rfl ?_)
 show wpAny _ _ (Builtin.SmallTypes.ownedTupleIsFree (.ref z) >>= _) _ _ _
 refine wpAny_bind ?_
 show wpAny _ _ (field (.ref z) 0 >>= _) _ _ _
 refine wpAny_bind (wpAny_field hz rfl (x:=.none) rfl ?_)
 refine wpAny_pure ?_
 show wpAny _ _ (rule _ >>= _) _ _ _
 refine wpAny_bind (wpAny_rule ?_)
 refine wpAny_bind (wpAny_field hz rfl (x:=.ref TO) rfl ?_)
 refine wpAny_bind (wpAny_setField hz rfl (CQ _) ?_)
 have hz1:=Heap.get?_update_self (Obj.mapFields λx_1=>x_1.setIfInBounds 0 Value.ellipsis) hz rfl
 have b1:=Heap.SameBut.update s.heap z (Obj.mapFields λx_1=>x_1.setIfInBounds 0 Value.ellipsis)
 generalize s.heap.update z (Obj.mapFields λx_1=>x_1.setIfInBounds 0 Value.ellipsis)=h1 at hz1 b1⊢
 obtain⟨a1,a2,a3,a4,a5,a6,a7,a8,a9,a10⟩:=ap
 refine wpAny_bind ?_
 show wpAny _ _ (forIn [(Value.ref i1,0),(Value.ref i2,1)] ((none:Option PySem.Fin),()) _) _ _ _
 rw[C8]
 refine wpAny_bind (wpAny_bind (wpAny_onRaise ?_))
 show wpAny _ _ (Builtin.SmallTypes.nextOf (.ref i1) >>= _) _ _ _
 have q1:St1 i h1:=D1.frame i _ _ s1 λc hc o e=>(b1.2 c λq=>f1.1 (q▸hc)).trans e
 have stop:∀(hx:Heap) (e:Addr) (tk:Nat) (zo:Obj),hx.get? z=some zo->(∃vs,zo.data=.fields vs/\0<vs.size)->zo.cls=.type "zip" → (∀c o,c≠z->c≠TO->c≠i1->c≠i2->s.heap.get? c=some o->hx.get? c=some o)->(∃o,hx.get? e=some o/\o.cls=.type "StopIteration") →
   wpAny (model prog w) A (setField (.ref z) 0 Value.none) (λ_ s''=>E (.ref e) s'') E {s with heap:=hx,toks:=tk}:=by
  intro hx e tk zo g1 g2 g3 g4 g5
  obtain⟨vs,d,lz⟩:=g2
  refine wpAny_setField g1 d lz ?_
  have b9:=Heap.SameBut.update hx z (Obj.mapFields λx_1=>x_1.setIfInBounds 0 Value.none)
  obtain⟨o,g6,g7⟩:=g5
  have nez:e≠z:=λq=>by
   subst q
   rw[g1]at g6;cases g6
   rw[g3]at g7
   exact absurd g7 (by decide +kernel)
  exact k _ e tk (λc o n1 n2 n3 n4 h=>(b9.2 c n1).trans (g4 c o n1 n2 n3 n4 h)) ⟨o,(b9.2 e nez).trans g6,g7⟩
 rcases l with rfl|⟨l1,rfl⟩
 ·refine wpAny_bind (D1.done _ _ _ q1 λh2 e x2 st=>?_)
  exact stop h2 e _ _ (x2 z _ (Ne.symm a6) hz1) ⟨_,rfl,CQ _⟩ rfl (λc o n1 n2 n3 n4 h=>x2 c o n3 ((b1.2 c n1).trans h)) st
 ·refine wpAny_bind (D1.item i _ _ _ l1 q1 λx h2 t2 px s1' b2=>?_)
  refine wpAny_pure ?_
  have b2':Heap.SameBut i1 h1 h2:=b2
  have hTO2:IsPair h2 TO a b:=((b2'.2 TO (Ne.symm a8)).trans (b1.2 TO a2)).trans hTO
  show wpAny _ _ (seqItems? (.ref TO) >>= _) _ _ _
  refine wpAny_bind (wpAny_seqItems hTO2 rfl ?_)
  refine wpAny_bind (wpAny_updateSeq_pair hTO2 λh3 hTO3 b3=>?_)
  have b3':Heap.SameBut TO h2 h3:=b3
  refine wpAny_bind (wpAny_letGo (wpAny_pure ?_))
  show wpAny _ _ (forIn [(Value.ref i2,1)] ((none:Option PySem.Fin),()) _) _ _ _
  rw[C8]
  refine wpAny_bind (wpAny_bind (wpAny_onRaise ?_))
  show wpAny _ _ (Builtin.SmallTypes.nextOf (.ref i2) >>= _) _ _ _
  refine wpAny_bind (D2.done _ _ _ (D2.frame i _ _ s2 λc hc o e=>(b3'.2 c λq=>f2.2.1 (q▸hc)).trans ((b2'.2 c λq=>f2.2.2 (q▸hc)).trans ((b1.2 c λq=>f2.1 (q▸hc)).trans e))) λh4 e x4 st=>?_)
  exact stop h4 e _ _ (x4 z _ (Ne.symm a7) ((b3'.2 z (Ne.symm a2)).trans ((b2'.2 z (Ne.symm a6)).trans hz1))) ⟨_,rfl,CQ _⟩ rfl (λc o n1 n2 n3 n4 h=>x4 c o n4 ((b3'.2 c n2).trans ((b2'.2 c n3).trans ((b1.2 c n1).trans h)))) st
theorem iY {prog:Program}{w:World}{A:Around}{E:Value->Shared->Prop}{s:Shared}{z TI TO i1 i2:Addr}{fp1 fp2:List Addr}{n1 n2 i:Nat}{P1 P2:Nat->Value->Prop}{St1 St2:Nat->Heap->Prop}{a b:Value}{Q:Option Value->Shared->Prop}
  (D1:Draws prog w A.in1 i1 fp1 n1 P1 St1) (D2:Draws prog w A.in1 i2 fp2 n2 P2 St2)
  (hz:IsZip s.heap z TI TO .none) (hTI:IsPair s.heap TI (.ref i1) (.ref i2)) (hTO:IsPair s.heap TO a b) (s1:St1 i s.heap) (s2:St2 i s.heap) (l1:i<n1) (l2:i<n2)
  (ap:TI≠z/\TO≠z/\TI≠TO/\TI≠i1/\TI≠i2/\i1≠z/\i2≠z/\i1≠TO/\i2≠TO/\i1≠i2) (f1:z∉fp1/\TO∉fp1/\i2∉fp1) (f2:z∉fp2/\TO∉fp2/\i1∉fp2)
  (k:∀x y h' tk,P1 i x->P2 i y->IsZip h' z TI TO (rawInt s.heap.objs.size)->IsPair h' TO x y->St1 (i+1) h'->St2 (i+1) h'->IsPair h' s.heap.objs.size x y->h'.objs.size=s.heap.objs.size+1 →
   (∀c o,c≠z->c≠TO->c≠i1->c≠i2->s.heap.get? c=some o->h'.get? c=some o)->Q (some (.ref s.heap.objs.size)) {s with heap:=h',toks:=tk}) :
  wpAny (model prog w) A (pyNext (.ref z)) Q E s:=by
 have hT:s.TypeIs (.ref z) "zip" :=⟨_,hz,rfl⟩
 unfold pyNext
 refine wpAny_bind (wpAny_attempt (wpAny_callSpecial?_slot (name:=Str.ofString "__next__") hT F.slot_zip_next (wpAny_call_entry F.slot_zip_next hT F.entry_zip_next ?_ (F.args_zip_next_1 _))))
 refine su D1 D2 hz hTI hTO s1 s2 l1 l2 ap f1 f2 λx y h' tk c1 c2 c3 c4 c5 c6 c7 c8 c9=>?_
 exact wpAny_pure (k x y h' tk c1 c2 c3 c4 c5 c6 c7 c8 c9)
theorem fV {prog:Program}{w:World}{A:Around}{E:Value->Shared->Prop}{s:Shared}{z TI TO i1 i2:Addr}{fp1 fp2:List Addr}{n1 n2 i:Nat}{P1 P2:Nat->Value->Prop}{St1 St2:Nat->Heap->Prop}{a b:Value}{Q:Option Value->Shared->Prop}
  (D1:Draws prog w A.in1 i1 fp1 n1 P1 St1) (D2:Draws prog w A.in1 i2 fp2 n2 P2 St2)
  (hz:IsZip s.heap z TI TO .none) (hTI:IsPair s.heap TI (.ref i1) (.ref i2)) (hTO:IsPair s.heap TO a b) (s1:St1 i s.heap) (s2:St2 i s.heap) (l:i=n1∨(i<n1/\i=n2))
  (ap:TI≠z/\TO≠z/\TI≠TO/\TI≠i1/\TI≠i2/\i1≠z/\i2≠z/\i1≠TO/\i2≠TO/\i1≠i2) (f1:z∉fp1/\TO∉fp1/\i2∉fp1) (f2:z∉fp2/\TO∉fp2/\i1∉fp2)
  (k:∀h' tk,(∀c o,c≠z->c≠TO->c≠i1->c≠i2->s.heap.get? c=some o->h'.get? c=some o)->Q none {s with heap:=h',toks:=tk}) :
  wpAny (model prog w) A (pyNext (.ref z)) Q E s:=by
 have hT:s.TypeIs (.ref z) "zip" :=⟨_,hz,rfl⟩
 unfold pyNext
 refine wpAny_bind (wpAny_attempt (wpAny_callSpecial?_slot (name:=Str.ofString "__next__") hT F.slot_zip_next (wpAny_call_entry F.slot_zip_next hT F.entry_zip_next ?_ (F.args_zip_next_1 _))))
 refine u8 D1 D2 hz hTI hTO s1 s2 l ap f1 f2 λh' e tk kk st=>?_
 obtain⟨o,ho,hc⟩:=st
 refine wpAny_bind (wpAny_isInstance (T:="StopIteration") (b:=true) ⟨o,ho,hc⟩ isSubtype_stop ?_)
 exact wpAny_pure (k _ _ kk)
def SeqK (kd:Bool)(h:Heap)(l:Addr)(els:Array Value):Prop:=match kd with|true=>h.IsList l els|false=>h.IsTuple l els
def IterK (kd:Bool)(h:Heap)(it l:Addr)(k:Nat):Prop:=match kd with|true=>h.IsListIter it l k|false=>h.IsTupleIter it l k
noncomputable def itC (kd:Bool):String:=match kd with|true=>"list_iterator" | false=>"tuple_iterator"
noncomputable abbrev itO (kd:Bool) (l:Addr):Obj:={cls:=.type (itC kd),data:=.fields #[.ref l,.int 0 0]}
theorem mZ {prog:Program}{w:World}{A:Around}{E:Value->Shared->Prop}{s:Shared}{l:Addr}{els:Array Value}{Q:Value->Shared->Prop}(kd:Bool)(h:SeqK kd s.heap l els)(q:Q (.ref s.heap.objs.size) {s with heap:=s.heap.push (itO kd l)}):wpAny (model prog w) A (pyIter (.ref l)) Q E s:=by
 cases kd with
 | true=>exact wpAny_pyIter_list h q
 | false=>exact wpAny_pyIter_tuple h q
theorem SeqK.keep {kd:Bool}{h h':Heap}{l:Addr}{els:Array Value}(x:SeqK kd h l els)(k:∀o,h.get? l=some o->h'.get? l=some o):SeqK kd h' l els:=by
 cases kd with
 | true=>obtain⟨o,e,r⟩:=x;exact⟨o,k o e,r⟩
 | false=>obtain⟨o,e,r⟩:=x;exact⟨o,k o e,r⟩
theorem SeqK.get {kd:Bool}{h:Heap}{l:Addr}{els:Array Value}(x:SeqK kd h l els):∃o,h.get? l=some o:=by
 cases kd with
 | true=>obtain⟨o,e,r⟩:=x;exact⟨o,e⟩
 | false=>obtain⟨o,e,r⟩:=x;exact⟨o,e⟩
noncomputable abbrev zK2 (h:Heap) (k1 k2:Bool) (l1 l2:Addr):Heap:=(h.push (itO k1 l1)).push (itO k2 l2)
noncomputable abbrev zK3 (h:Heap) (k1 k2:Bool) (l1 l2:Addr):Heap:=(zK2 h k1 k2 l1 l2).push {cls:=.type "tuple",data:=.seq #[.ref h.objs.size,.ref (h.push (itO k1 l1)).objs.size]}
noncomputable abbrev zK4 (h:Heap) (k1 k2:Bool) (l1 l2:Addr):Heap:=(zK3 h k1 k2 l1 l2).push {cls:=.type "tuple",data:=.seq #[.none,.none]}
noncomputable abbrev zK5 (h:Heap) (k1 k2:Bool) (l1 l2:Addr):Heap:=(zK4 h k1 k2 l1 l2).push {cls:=.type "zip",data:=.fields #[.none,.bool false,.bool false,.ref (zK2 h k1 k2 l1 l2).objs.size,.ref (zK3 h k1 k2 l1 l2).objs.size]}
theorem lO (k1 k2:Bool)(l1 l2:Addr)(xs ys:Array Value) :
  Meets (Builtin.«zip.__new__» ⟨[.type "zip",.ref l1,.ref l2],[]⟩) (λ_ R s=>SeqK k1 s.heap l1 xs/\SeqK k2 s.heap l2 ys/\R (.ok (.ret (.ref (zK4 s.heap k1 k2 l1 l2).objs.size))) {s with heap:=zK5 s.heap k1 k2 l1 l2}):=
 .of_wp λpr ww AA RR sh hyp=>by
  obtain⟨hp,g,d,tk,os⟩:=sh;obtain⟨h1,h2,hyp⟩:=hyp
  have hsubZ:=sub_zip
  have h2':SeqK k2 (hp.push (itO k1 l1)) l2 ys:=h2.keep λo e=>Heap.get?_push_of_some _ e
  wp_walk using mZ k1 h1,mZ k2 h2'
  exact⟨_,rfl,hyp⟩
theorem nK {prog:Program}{w:World}{A:Around}{E:Value->Shared->Prop}{s:Shared}{k1 k2:Bool}{l1 l2:Addr}{xs ys:Array Value}{Q:Value->Shared->Prop}(h1:SeqK k1 s.heap l1 xs)(h2:SeqK k2 s.heap l2 ys)
  (kk:∀h',IsZip h' (s.heap.objs.size+4) (s.heap.objs.size+2) (s.heap.objs.size+3) .none->IsPair h' (s.heap.objs.size+2) (.ref s.heap.objs.size) (.ref (s.heap.objs.size+1))->IsPair h' (s.heap.objs.size+3) .none .none →
   IterK k1 h' s.heap.objs.size l1 0->IterK k2 h' (s.heap.objs.size+1) l2 0->h'.objs.size=s.heap.objs.size+5->(∀c o,s.heap.get? c=some o->h'.get? c=some o)->Q (.ref (s.heap.objs.size+4)) {s with heap:=h'}) :
  wpAny (model prog w) A (call (.type "zip") [.ref l1,.ref l2]) Q E s:=by
 refine callType_new F.called_zip (by decide) (F.typeCall_zip_2 _ _) (F.newCall_zip_2 _ _) (λobj=>F.args_object_init_3 obj _ _) F.entry_zip_new (lO k1 k2 l1 l2 xs ys) ⟨h1,h2,?_⟩
 have z1:(s.heap.push (itO k1 l1)).objs.size=s.heap.objs.size+1:=Heap.size_push ..
 have z2:(zK2 s.heap k1 k2 l1 l2).objs.size=s.heap.objs.size+2:=by rw[zK2,Heap.size_push,z1]
 have z3:(zK3 s.heap k1 k2 l1 l2).objs.size=s.heap.objs.size+3:=by rw[zK3,Heap.size_push,z2]
 have z4:(zK4 s.heap k1 k2 l1 l2).objs.size=s.heap.objs.size+4:=by rw[zK4,Heap.size_push,z3]
 have g0:(s.heap.push (itO k1 l1)).get? s.heap.objs.size=some (itO k1 l1):=Heap.get?_push_size _ rfl
 have g1:(zK2 s.heap k1 k2 l1 l2).get? (s.heap.objs.size+1)=some (itO k2 l2):=by have:=Heap.get?_push_size (s.heap.push (itO k1 l1)) (o:=itO k2 l2) rfl;rw[z1]at this;exact this
 have g2:=Heap.get?_push_size (zK2 s.heap k1 k2 l1 l2) (o:={cls:=.type "tuple",data:=.seq #[.ref s.heap.objs.size,.ref (s.heap.push (itO k1 l1)).objs.size]}) rfl
 have g3:=Heap.get?_push_size (zK3 s.heap k1 k2 l1 l2) (o:={cls:=.type "tuple",data:=.seq #[.none,.none]}) rfl
 have g4:=Heap.get?_push_size (zK4 s.heap k1 k2 l1 l2) (o:={cls:=.type "zip",data:=.fields #[.none,.bool false,.bool false,.ref (zK2 s.heap k1 k2 l1 l2).objs.size,.ref (zK3 s.heap k1 k2 l1 l2).objs.size]}) rfl
 rw[z2,z1]at g2
 rw[z3]at g3
 rw[z4,z2,z3]at g4
 have up:∀c o,(zK2 s.heap k1 k2 l1 l2).get? c=some o->(zK5 s.heap k1 k2 l1 l2).get? c=some o:=λc o e=>Heap.get?_push_of_some _ (Heap.get?_push_of_some _ (Heap.get?_push_of_some _ e))
 have it:∀(kd:Bool) (h:Heap) (a l:Addr),h.get? a=some (itO kd l)->IterK kd h a l 0:=λkd h a l e=>by
  cases kd
  ·exact⟨_,e,rfl,rfl⟩
  ·exact⟨_,e,rfl,rfl⟩
 show _/\_
 rw[z4]
 have e5:(zK5 s.heap k1 k2 l1 l2).get? (s.heap.objs.size+4)=some {cls:=.type "zip",data:=.fields #[.none,.bool false,.bool false,.ref (s.heap.objs.size+2),.ref (s.heap.objs.size+3)]}:=by
  show(Heap.push _ _).get? _=_
  rw[z2,z3]
  exact g4
 refine⟨⟨_,e5,rfl⟩,kk _ e5 ?_ ?_ (it _ _ _ _ (up _ _ (Heap.get?_push_of_some _ g0))) (it _ _ _ _ (up _ _ g1)) ?_ λc o e=>up c o (Heap.get?_push_of_some _ (Heap.get?_push_of_some _ e))⟩
 ·refine Heap.get?_push_of_some _ (Heap.get?_push_of_some _ ?_)
  show(Heap.push _ _).get? _=_
  rw[z1]
  exact g2
 ·exact Heap.get?_push_of_some _ g3
 ·rw[zK5,Heap.size_push,z4]
theorem jT {prog:Program}{w:World}{A:Around}(hh:A.handled=none)(kd:Bool)(it l:Addr)(ne:l≠it)(els:Array Value):Draws prog w A it [it,l] els.size (λk v=>els[k]?=some v) (λk h=>IterK kd h it l k/\SeqK kd h l els):=by
 cases kd with
 | true=>exact Draws.list hh it l ne els
 | false=>exact kJ hh it l ne els
theorem pk {prog:Program}{w:World}{A:Around}(hh:A.handled=none)(kd:Bool)(it l:Addr)(els:Array Value)(i:Nat)(hi:els[i]?=none):Draws prog w A it [it,l] i (λk v=>els[k]?=some v) (λk h=>k=i/\IterK kd h it l k/\SeqK kd h l els) where
 live:=λk h st=>by
  obtain⟨_,st,_⟩:=st
  cases kd
  ·obtain⟨o,e,_⟩:=st;exact⟨o,e⟩
  ·obtain⟨o,e,_⟩:=st;exact⟨o,e⟩
 frame:=λk h h' st hk=>by
  obtain⟨e,st,sq⟩:=st
  refine⟨e,?_,sq.keep λo e=>hk l (by simp) o e⟩
  cases kd
  ·obtain⟨o,e,r⟩:=st;exact⟨o,hk it (by simp) o e,r⟩
  ·obtain⟨o,e,r⟩:=st;exact⟨o,hk it (by simp) o e,r⟩
 item:=λk s Q E hlt st _=>by
  have:=st.1
  omega
 done:=λs Q E st kk=>by
  obtain⟨_,st,sq⟩:=st
  cases kd with
  | true=>exact wpAny_nextOf_list_end hh st sq hi kk
  | false=>exact fW hh st sq hi kk
def SqK (K:yF)(H:Hp)(kd:Bool)(a:Addr)(xs:List V):Prop:=match kd with|true=>SqL K H a xs|false=>SqT K H a xs
theorem Inv.seqK {X:Cx}{pins:List (Addr×Obj)}{Z:St}{H:Hp}{s:Shared}{kd:Bool}{a:Addr}{xs:List V}(I:Inv X pins Z H s)(h:SqK X.K H kd a xs):∃its:List Value,Vals xs its/\SeqK kd s.heap a its.toArray:=by
 cases kd with
 | true=>
  obtain⟨its,rv,p,_⟩:=I.list h
  obtain⟨o,n,h1,h2,h3,h4⟩:=p
  exact⟨its,rv,o,h1,h2,n,h4⟩
 | false=>
  obtain⟨its,rv,p,_⟩:=I.tuple h
  exact⟨its,rv,p⟩
theorem Inv.seqK_inj {X:Cx}{pins:List (Addr×Obj)}{Z:St}{H:Hp}{s:Shared}{kd:Bool}{a:Addr}{xs ys:List V}(I:Inv X pins Z H s)(h:SqK X.K H kd a xs)(h':SqK X.K H kd a ys):xs=ys:=by
 cases kd with
 | true=>exact I.list_inj h h'
 | false=>exact I.tuple_inj h h'
noncomputable def Itz (K:yF) (k1 k2:Bool) (a1 a2:Addr):It:=
 ⟨λi H=>∃xs ys x y,SqK K H k1 a1 xs/\SqK K H k2 a2 ys/\xs[i]?=some x/\ys[i]?=some y,
   λi H v H'=>∃p x y,H p=none/\v=.ref p/\H'=upd H p (.tup [x,y])/\(∀xs,SqK K H k1 a1 xs->xs[i]?=some x)/\∀ys,SqK K H k2 a2 ys->ys[i]?=some y,
   λi H=>∃xs ys,SqK K H k1 a1 xs/\SqK K H k2 a2 ys/\(xs.length<=i∨ys.length<=i)⟩
theorem Inv.turnedL {X:Cx}{pins:List (Addr×Obj)}{Z:St}{H:Hp}{s:Shared}{h':Heap}{t':Nat}{fs:List Addr}(I:Inv X pins Z H s)(k:∀b o,b∉fs->s.heap.get? b=some o->h'.get? b=some o)(f:∀b∈fs,fh X pins H b):Inv X pins Z H {s with heap:=h',toks:=t'}:=by
 have nit:∀b u,H b=some u->b∉fs:=λb u e z=>by rw[(f b z).1]at e;cases e
 have nl:X.env.locals∉fs:=λz=>(f _ z).2.1 rfl
 refine I.step (g':=s.gens) (d':=s.drawn) (ch:=fs) (λb hb=>?_) (λb o _ _ hc e _=>k b o hc e) (λb o _ _ hc e _=>⟨o.slots,k b o hc e⟩) (λ_ _ _ _ n=>n)
  (λb o hc e=>⟨o,k b o hc e⟩) (λ_ _ e=>e) (λ_ _ _ e=>e) (λb ps e=>⟨#[],by rw[e];simp⟩) (λm hm=>?_) (λb u e=>?_) I.bare
 ·obtain⟨_,hL,_,h1,h2,h3⟩:=f b hb
  exact⟨h1,hL,h2,h3⟩
 ·obtain⟨o,es,ep,ho,r⟩:=hm
  exact⟨o,es,ep,k _ o nl ho,r⟩
 ·refine(I.hok b u e).stay (λc v hc q=>k c v ?_ q) (λ_ q=>q) λ_ _ q=>q
  rcases hc with z|z
  ·rw[z];exact nit b u e
  ·exact nit c _ z
theorem IterK.get {kd:Bool}{h:Heap}{it l:Addr}{k:Nat}(x:IterK kd h it l k):∃o,h.get? it=some o/\∀v,o.data ≠ .cell v:=by
 cases kd with
 | true=>obtain⟨o,e,c,d⟩:=x;exact⟨o,e,λv z=>by rw[d]at z;cases z⟩
 | false=>obtain⟨o,e,c,d⟩:=x;exact⟨o,e,λv z=>by rw[d]at z;cases z⟩
theorem IterK.keep {kd:Bool}{h h':Heap}{it l:Addr}{k:Nat}(x:IterK kd h it l k)(kp:∀o,h.get? it=some o->h'.get? it=some o):IterK kd h' it l k:=by
 cases kd with
 | true=>obtain⟨o,e,r⟩:=x;exact⟨o,kp o e,r⟩
 | false=>obtain⟨o,e,r⟩:=x;exact⟨o,kp o e,r⟩
structure ZAp (z TI TO i1 i2 l1 l2:Addr):Prop where
 ap:TI≠z/\TO≠z/\TI≠TO/\TI≠i1/\TI≠i2/\i1≠z/\i2≠z/\i1≠TO/\i2≠TO/\i1≠i2
 f1:z∉[i1,l1]/\TO∉[i1,l1]/\i2∉[i1,l1]
 f2:z∉[i2,l2]/\TO∉[i2,l2]/\i1∉[i2,l2]
 n1:l1≠i1
 n2:l2≠i2
theorem rX {P:Program}{w:World}{K:yF}{elts:List Expr}{k0:Nat}{pos:Pos}(k1 k2:Bool){z TI TO i1 i2 l1 l2:Addr}(A:ZAp z TI TO i1 i2 l1 l2) :
  Turn P w K (.Tuple elts k0 pos) (Itz K k1 k2 l1 l2) [z,TI,TO,i1,i2] z (λi h=>IsZip h z TI TO .none/\IsPair h TI (.ref i1) (.ref i2)/\(∃a b,IsPair h TO a b)/\IterK k1 h i1 l1 i/\IterK k2 h i2 l2 i) where
 mem:=by simp
 obj:=λi h st b hb=>by
  obtain⟨s1,s2,⟨a,c,s3⟩,s4,s5⟩:=st
  simp only[BT,BX,or_false]at hb
  rcases hb with rfl|rfl|rfl|rfl|rfl
  ·exact⟨_,s1,λv z=>by cases z⟩
  ·exact⟨_,s2,λv z=>by cases z⟩
  ·exact⟨_,s3,λv z=>by cases z⟩
  ·exact s4.get
  ·exact s5.get
 keep:=λi h h' st k=>by
  obtain⟨s1,s2,⟨a,c,s3⟩,s4,s5⟩:=st
  exact⟨k z (by simp) _ s1,k TI (by simp) _ s2,⟨a,c,k TO (by simp) _ s3⟩,s4.keep λo e=>k i1 (by simp) o e,s5.keep λo e=>k i2 (by simp) o e⟩
 item:=by
  intro X hP hw hK hc i pins s Z H E I hf st hg
  subst hP hw hK
  obtain⟨xs,ys,x,y,hq1,hq2,hx,hy⟩:=hg
  obtain⟨its1,rv1,p1⟩:=I.seqK hq1
  obtain⟨its2,rv2,p2⟩:=I.seqK hq2
  obtain⟨u1,hu1,ru1⟩:=rv1.get hx
  obtain⟨u2,hu2,ru2⟩:=rv2.get hy
  obtain⟨s1,s2,⟨a,c,s3⟩,s4,s5⟩:=st
  have hn1:i<its1.toArray.size:=by rw[Bv];exact(Bs.mp hu1).1
  have hn2:i<its2.toArray.size:=by rw[Bv];exact(Bs.mp hu2).1
  have hh:X.A.in1.handled=none:=I.ok.hd hc
  refine iY (jT (A:=X.A.in1) hh k1 i1 l1 A.n1 its1.toArray) (jT (A:=X.A.in1) hh k2 i2 l2 A.n2 its2.toArray) s1 s2 s3 ⟨s4,p1⟩ ⟨s5,p2⟩ hn1 hn2 A.ap A.f1 A.f2 λx' y' h1 tk px py hz1 hTO1 st1 st2 hpr hsz kk=>?_
  have ex:x'=u1:=by
   have e1:its1.toArray[i]?=some x':=px
   have e2:its1.toArray[i]?=some u1:=by simpa using hu1
   rw[e1]at e2
   exact BQ.inj e2
  have ey:y'=u2:=by
   have e1:its2.toArray[i]?=some y':=py
   have e2:its2.toArray[i]?=some u2:=by simpa using hu2
   rw[e1]at e2
   exact BQ.inj e2
  subst ex ey
  refine⟨_,rfl,wpAny_letOwnedTupleGo_zip hz1 λh2 hz2 sb=>?_⟩
  have sb':Heap.SameBut z h1 h2:=sb
  have hzl:z<s.heap.objs.size:=Heap.lt_size s1
  obtain⟨a1,a2,a3,a4,a5,a6,a7,a8,a9,a10⟩:=A.ap
  have k2':∀b o,b∉[z,TO,i1,i2]->s.heap.get? b=some o->h2.get? b=some o:=λb o n q=>by
   simp only[BT,BX,or_false,not_or]at n
   exact(sb'.2 b n.1).trans (kk b o n.1 n.2.1 n.2.2.1 n.2.2.2 q)
  have I1:Inv X pins Z H {s with heap:=h2,toks:=tk}:=I.turnedL k2' λb hb=>hf b (by
   simp only[BT,BX,or_false]at hb⊢
   rcases hb with h|h|h|h<;>simp[h])
  have fz:fh X pins H s.heap.objs.size:=I.fpOk (Bz _) (I.hok.fresh (Bz _))
  have hT2:h2.get? s.heap.objs.size=some {cls:=.type "tuple",data:=.seq #[x',y']}:=(sb'.2 _ (C4 hzl)).trans hpr
  have I2:Inv X pins Z (upd H s.heap.objs.size (.tup [x,y])) {s with heap:=h2,toks:=tk}:=I1.track fz (.inr I.sz) I.sz ⟨by show 2<=sizeLine;decide,[x',y'],.cons ru1 (.cons ru2 .nil),⟨_,hT2,⟨rfl,rfl⟩,_,rfl⟩⟩
  refine⟨.ref s.heap.objs.size,_,I2,rfl,⟨_,x,y,fz.1,rfl,rfl,λys' hy'=>by rw[I.seqK_inj hy' hq1];exact hx,λys' hy'=>by rw[I.seqK_inj hy' hq2];exact hy⟩,⟨hz2,?_,⟨_,_,(sb'.2 TO a2).trans hTO1⟩,st1.1.keep λo e=>(sb'.2 i1 a6).trans e,st2.1.keep λo e=>(sb'.2 i2 a7).trans e⟩,λb hb=>?_⟩
  ·exact(sb'.2 TI a1).trans (kk TI _ a1 a3 a4 a5 s2)
  ·have hbo:∃o,s.heap.get? b=some o:=by
    simp only[BT,BX,or_false]at hb
    rcases hb with rfl|rfl|rfl|rfl|rfl
    ·exact⟨_,s1⟩
    ·exact⟨_,s2⟩
    ·exact⟨_,s3⟩
    ·obtain⟨o,e,_⟩:=s4.get;exact⟨o,e⟩
    ·obtain⟨o,e,_⟩:=s5.get;exact⟨o,e⟩
   obtain⟨o,q⟩:=hbo
   rw[upd_ne (BG (Heap.lt_size q))]
   exact(hf b hb).1
 done:=by
  intro X hP hw hK hc i pins s Z H E I hf st hg
  subst hP hw hK
  obtain⟨xs,ys,hq1,hq2,hl⟩:=hg
  obtain⟨its1,rv1,p1⟩:=I.seqK hq1
  obtain⟨its2,rv2,p2⟩:=I.seqK hq2
  obtain⟨s1,s2,⟨a,c,s3⟩,s4,s5⟩:=st
  have hh:X.A.in1.handled=none:=I.ok.hd hc
  have fin:∀h' tk,(∀c o,c≠z->c≠TO->c≠i1->c≠i2->s.heap.get? c=some o->h'.get? c=some o)->(none:Option Value)=none/\Inv X pins Z H {s with heap:=h',toks:=tk}:=λh' tk kk=>
   ⟨rfl,I.turnedL (fs:=[z,TO,i1,i2]) (λb o n q=>by
    simp only[BT,BX,or_false,not_or]at n
    exact kk b o n.1 n.2.1 n.2.2.1 n.2.2.2 q) λb hb=>hf b (by
    simp only[BT,BX,or_false]at hb⊢
    rcases hb with h|h|h|h<;>simp[h])⟩
  have l1':=rv1.length
  have l2':=rv2.length
  by_cases h1:xs.length<=i
  ·have e1:its1.toArray[i]?=none:=by simp;omega
   exact fV (pk (A:=X.A.in1) hh k1 i1 l1 its1.toArray i e1) (jT (A:=X.A.in1) hh k2 i2 l2 A.n2 its2.toArray) s1 s2 s3 ⟨rfl,s4,p1⟩ ⟨s5,p2⟩ (.inl rfl) A.ap A.f1 A.f2 fin
  ·have h2:ys.length<=i:=by omega
   have e2:its2.toArray[i]?=none:=by simp;omega
   have hn1:i<its1.toArray.size:=by rw[Bv];omega
   exact fV (jT (A:=X.A.in1) hh k1 i1 l1 A.n1 its1.toArray) (pk (A:=X.A.in1) hh k2 i2 l2 its2.toArray i e2) s1 s2 s3 ⟨s4,p1⟩ ⟨rfl,s5,p2⟩ (.inr ⟨hn1,rfl⟩) A.ap A.f1 A.f2 fin
 self:=λ_ _ _ _ _ st h=>wpAny_pyIter_zip st.1 h
def zb (K:yF)(ta:TA):TI:=λZ H R=>ta Z H λvs H1=>∃k1 k2 a1 a2 xs ys,vs=[.ref a1,.ref a2]/\SqK K H1 k1 a1 xs/\SqK K H1 k2 a2 ys/\R (Itz K k1 k2 a1 a2) H1
theorem xw {X:Cx}{a b:Expr}{ta:TA}{elts:List Expr}{k0:Nat}{p pos pt:Pos}(hg:Gl X "zip")(hm:X.mg "zip" = none)(ha:PA X [a,b] ta)(hn:aR [a,b]=true):PI X (.Tuple elts k0 pt) (.Call (.Name "zip" p) [a,b] [] pos) (zb X.K ta):=by
 intro pins s Z H R I h
 have hs1:bt a=false:=by
  cases q:bt a with
  | true=>rw[aR,q]at hn;cases hn
  | false=>rfl
 have hs2:bt b=false:=by
  cases q:bt b with
  | true=>rw[aR,hs1,aR,q]at hn;cases hn
  | false=>rfl
 refine Call_ (gf I hg hm boot_zip (Cz (thn (ha pos pins s Z H _ I h) λus s1 ⟨vs,H1,I1,r1,q1⟩=>?_) (aX hs1) (by rw[aX hs2];rfl)))
 obtain⟨k1,k2,l1,l2,xs,ys,e,hq1,hq2,q⟩:=q1
 subst e
 obtain⟨u,u',rfl,ru,ru'⟩:=lq r1
 cases ru
 cases ru'
 obtain⟨its1,rv1,p1⟩:=I1.seqK hq1
 obtain⟨its2,rv2,p2⟩:=I1.seqK hq2
 have n1:l1<s1.heap.objs.size:=by obtain⟨o,e⟩:=p1.get;exact Heap.lt_size e
 have n2:l2<s1.heap.objs.size:=by obtain⟨o,e⟩:=p2.get;exact Heap.lt_size e
 refine nK p1 p2 λh1 hz hTI hTO it1 it2 hsz kk=>?_
 refine wpAny_pyIter_zip hz ?_
 have m1:∀c:Nat,s1.heap.objs.size+c≠l1:=λc=>C4 (BI n1 (Cg _ c))
 have m2:∀c:Nat,s1.heap.objs.size+c≠l2:=λc=>C4 (BI n2 (Cg _ c))
 have N:∀{c d:Nat},c≠d->s1.heap.objs.size+c≠s1.heap.objs.size+d:=λh z=>h (Nat.add_left_cancel z)
 refine⟨s1.heap.objs.size+4,[s1.heap.objs.size+4,s1.heap.objs.size+2,s1.heap.objs.size+3,s1.heap.objs.size,s1.heap.objs.size+1],_,_,H1,rfl,I1.kept (t':=s1.toks) λb o e=>kk b o e,rX k1 k2 ⟨?_,?_,?_,?_,?_⟩,⟨hz,hTI,⟨_,_,hTO⟩,it1,it2⟩,λb hb=>?_,q⟩
 ·refine⟨?_,?_,?_,?_,?_,?_,?_,?_,?_,?_⟩<;>first|exact m1 _|exact m2 _|exact m1 0|exact m2 0|exact BG n1|exact BG n2|exact λz=>absurd (show(_:Nat)=_ from z) (by omega)
 ·simp only[BT,BX,or_false,not_or]
  refine⟨⟨?_,?_⟩,⟨?_,?_⟩,?_,?_⟩<;>first|exact m1 _|exact m2 _|exact m1 0|exact m2 0|exact BG n1|exact BG n2|exact λz=>absurd (show(_:Nat)=_ from z) (by omega)
 ·simp only[BT,BX,or_false,not_or]
  refine⟨⟨?_,?_⟩,⟨?_,?_⟩,?_,?_⟩<;>first|exact m1 _|exact m2 _|exact m1 0|exact m2 0|exact BG n1|exact BG n2|exact λz=>absurd (show(_:Nat)=_ from z) (by omega)
 ·first|exact m1 _|exact m2 _|exact m1 0|exact m2 0|exact BG n1|exact BG n2|exact λz=>absurd (show(_:Nat)=_ from z) (by omega)
 ·first|exact Ne.symm (m2 1)|exact m1 _|exact m2 _|exact m1 0|exact m2 0|exact BG n1|exact BG n2|exact λz=>absurd (show(_:Nat)=_ from z) (by omega)
 ·have hb':s1.heap.objs.size<=b:=by
   simp only[BT,BX,or_false]at hb
   rcases hb with rfl|rfl|rfl|rfl|rfl<;>first|exact Bz _|exact Cg _ _
  exact I1.fpOk hb' (I1.hok.fresh hb')
noncomputable def kr:T->Option (Bool×List I)
 | .im (.tup is)=>some (false,is)
 | .li is=>some (true,is)
 | _=>none
noncomputable def md (is js:List I):List R:=(is.zip js).map λp=>⟨.ow,.im (.tup [p.1,p.2])⟩
@[irreducible] noncomputable def lM (a:MA):MI:=⟨λρ=>match a.run ρ with
 | some ([r1,r2],ρ1)=>(match kr r1.t,kr r2.t with
  | some (_,is),some (_,js)=>some (([r1,r2],md is js),ρ1)
  | _,_=>none)
 | _=>none,a.mu⟩
theorem gZ {K:yF}{H:Hp}{kd:Bool}{is:List I}{v:V}:∀{t:T},Rpx K H t v->kr t=some (kd,is)->∃a xs,v=.ref a/\SqK K H kd a xs/\RpIs K H is xs
 | .im (.tup _),r,e=>by cases e;exact bO r
 | .li _,r,e=>by cases e;obtain⟨a,xs,h1,h2,h3⟩:=bA r;exact⟨a,xs,h1,.inl h2,h3⟩
 | .im .non,_,e=>by cases e
 | .im (.bl _),_,e=>by cases e
 | .im (.int _),_,e=>by cases e
 | .im (.str _),_,e=>by cases e
 | .im (.ls _),_,e=>by cases e
 | .im (.fd _ _),_,e=>by cases e
 | .tup _,_,e=>by cases e
 | .lst _,_,e=>by cases e
 | .di _,_,e=>by cases e
 | .dc _,_,e=>by cases e
 | .ins _ _,_,e=>by cases e
theorem yO {Γ:Gm}{k1 k2:Bool}{a1 a2:Addr}{r1 r2:R}{is js:List I}(e1:kr r1.t=some (k1,is))(e2:kr r2.t=some (k2,js)):fj Γ (Itz Γ.K k1 k2 a1 a2) [.ref a1,.ref a2] [r1,r2] (md is js):=λH ρ Z E S=>by
 replace S:Sim Γ H ρ Z (⟨none,.ref a1,r1⟩::⟨none,.ref a2,r2⟩::E):=S
 have R1:Rpx Γ.K H r1.t (.ref a1):=S.rd (e:=⟨none,.ref a1,r1⟩) ymS
 have R2:Rpx Γ.K H r2.t (.ref a2):=S.rd (e:=⟨none,.ref a2,r2⟩) (ymC _ ymS)
 obtain⟨b1,xs,ea,g1,g2⟩:=gZ R1 e1
 cases ea
 obtain⟨b2,ys,ea,h1,h2⟩:=gZ R2 e2
 cases ea
 refine⟨λi hi=>⟨xs,ys,g1,h1,?_⟩,λi r hr=>?_⟩
 ·rw[g2.length,h2.length]
  unfold md at hi
  rw[Bw,Di]at hi
  omega
 ·obtain⟨p,hp,rfl⟩:=aN hr
  obtain⟨hp1,hp2⟩:=CG.mp hp
  obtain⟨w1,hw1,rw1⟩:=g2.get hp1
  obtain⟨w2,hw2,rw2⟩:=h2.get hp2
  refine⟨⟨xs,ys,w1,w2,g1,h1,hw1,hw2⟩,λx H' y=>?_⟩
  obtain⟨pp,x',y',hpp,rfl,rfl,hx,hy⟩:=y
  have q1:=hx xs g1
  rw[hw1]at q1
  cases q1
  have q2:=hy ys h1
  rw[hw2]at q2
  cases q2
  exact S.fresh (New.tup hpp (.cons rw1 (.cons rw2 (by rw[RpIs]))))
theorem uD {K:yF}{ta:TA}{a:MA}(ha:dP K ta a):jH K (zb K ta) (lM a):=by
 intro Γ H ρ Z E Rr srcs items ρ' hK hr S q
 simp only[lM]at hr q
 split at hr
 ·rename_i r1 r2 ρ1 e1
  split at hr
  ·rename_i k1 is k2 js e2 e3
   cases hr
   refine ha Γ H ρ Z E _ _ _ hK e1 S λvs H1 hl S1=>?_
   obtain⟨v1,v2,rfl⟩:∃v1 v2,vs=[v1,v2]:=by
    cases vs with
    | nil=>cases hl
    | cons v r=>cases r with
     | nil=>cases hl
     | cons w r=>cases r with
      | nil=>exact⟨v,w,rfl⟩
      | cons _ _=>cases hl
   have S2:Sim Γ H1 ρ' Z (⟨none,v1,r1⟩::⟨none,v2,r2⟩::ae a.mu E):=S1
   have R1:Rpx Γ.K H1 r1.t v1:=S2.rd (e:=⟨none,v1,r1⟩) ymS
   have R2:Rpx Γ.K H1 r2.t v2:=S2.rd (e:=⟨none,v2,r2⟩) (ymC _ ymS)
   obtain⟨a1,xs,rfl,g1,g2⟩:=gZ R1 e2
   obtain⟨a2,ys,rfl,h1,h2⟩:=gZ R2 e3
   subst hK
   exact⟨k1,k2,a1,a2,xs,ys,rfl,g1,h1,q _ [.ref a1,.ref a2] H1 rfl S1 (yO e2 e3)⟩
  ·cases hr
 ·cases hr
section
variable  {ι : Type}{C:ι->Cx}{P:Program}{W:World}{K:yF}{mg:Str->Option Value}{base:Heap}{k:Nat}{a b:Expr}{ms:MA}{pos:Pos}
theorem xQ {elts:List Expr}{k0:Nat}{p pt:Pos}(ck:CK C P W K mg base k)(T:Bi mg)(ha:QA C K [a,b] ms)(hg:∀i,Gl (C i) "zip" :=by intro _;rfl):QI C K (.Tuple elts k0 pt) (.Call (.Name "zip" p) [a,b] [] pos) (lM ms):=by
 obtain⟨ta,q,n,r⟩:=ha
 refine⟨_,λi=>by have:=xw (X:=C i) (elts:=elts) (k0:=k0) (p:=p) (pos:=pos) (pt:=pt) (hg i) (by rw[ck.mg i];exact T.b_zip) (q i) n;rw[ck.kk i]at this;exact this,uD r⟩
end
theorem yS {ms:MA}{ρ:Rho}{QI':List R->List R->Rho->Prop}(h:WA ms ρ λrs ρ1=>∃r1 r2 k1 k2 is js,rs=[r1,r2]/\kr r1.t=some (k1,is)/\kr r2.t=some (k2,js)/\QI' [r1,r2] (md is js) ρ1):WI (lM ms) ρ QI':=by
 obtain⟨rs,ρ1,e1,r1,r2,k1,k2,is,js,rfl,e2,e3,q⟩:=h
 exact⟨_,_,_,by simp only[lM,e1,e2,e3],q⟩
section
variable  {S α:Type}{ρ:Rho}{m:ME}{ms:MA}{g:MG}{s1:MS}{QE':R->Rho->Prop}{Q:Fl->Rho->Prop}{fr:List (Option Nat)}
theorem r8 (st:S->Rho)(emb : α->I)(P:Nat->S->List α->Prop) (h:WA ms ρ λrs ρ1=>∃r1 r2 k1 k2 is js,rs=[r1,r2]/\kr r1.t=some (k1,is)/\kr r2.t=some (k2,js)/\min is.length js.length<sizeLine/\(dS fr ρ1.length&&dX (g.mu++([]++m.mu)) fr.length&&[r1,r2].all (aC (muF fr (g.mu++([]++m.mu)))))=true/\∃s0,ρ1=st s0/\P 0 s0 [] ∧
  (∀(j:Nat) x y s l,is[j]?=some x->js[j]?=some y->P j s l->WG g ⟨.ow,.im (.tup [x,y])⟩ (inR fr (st s)) λρ1=>WE m ρ1 λr ρ3=>∃x s',r=⟨.ow,.im (emb x)⟩/\cV fr (g.mu++([]++m.mu)) ρ3 (st s)=st s'/\P (j+1) s' (l++[x])) ∧
  ∀s l,P (min is.length js.length) s l->QE' ⟨.ow,.li (l.map emb)⟩ (st s)):WE (aQ fr (lM ms) g mYes m) ρ QE':=by with_unfolding_all
 obtain⟨rs,ρ1,e1,r1,r2,k1,k2,is,js,rfl,e2,e3,hl,al,s0,rfl,h0,hs,he⟩:=h
 refine kA (yS ⟨_,_,e1,r1,r2,k1,k2,is,js,rfl,e2,e3,al,by unfold md;rw[Bw,Di];exact hl,λj acc ρ=>∃s l,acc=l.map (λx=>T.im (emb x))/\ρ=st s/\P j s l,⟨s0,[],rfl,rfl,h0⟩,?_,?_⟩)
 ·rintro j r acc ρ hj ⟨s,l,rfl,rfl,hP⟩
  obtain⟨p,hp,rfl⟩:=aN hj
  obtain⟨hp1,hp2⟩:=CG.mp hp
  refine WG.mono (hs j p.1 p.2 s l hp1 hp2 hP) λρ1 q=>iT ⟨λ_=>q.mono λr ρ3 ⟨x,s',e,e',hP'⟩=>⟨_,e,s',l++[x],by simp,e',hP'⟩,λz=>by cases z⟩
 ·rintro acc ρ ⟨s,l,rfl,rfl,hP⟩
  rw[eY]
  refine he s l ?_
  have:(md is js).length=min is.length js.length:=by unfold md;rw[Bw,Di]
  rw[←this]
  exact hP
end
theorem p9 {QT1:T->Prop}{ns:List String}{t:T}{n:String}{b:Bool}(h:tyN t=some n)(hb:ns.any (kN n)=b)(q:QT1 (.im (.bl b))):W1 (j2 ns t) QT1:=zx h (by rw[hb];exact q)
section
variable  {κ : Type}[DecidableEq κ]
noncomputable def i7 (kvs:List (κ×V)) (k : κ):Option V:=(kvs.find? λkv=>decide (kv.1=k)).map (·.2)
theorem iQ {p : κ×V}{r:List (κ×V)}{k : κ}(e:p.1=k):i7 (p::r) k=some p.2:=by simp[i7,Dj,e]
theorem iP {p : κ×V}{r:List (κ×V)}{k : κ}(e:¬ p.1=k):i7 (p::r) k=i7 r k:=by simp[i7,Dj,e]
theorem KV.val {kvs:List (κ×V)}{vs:List (κ×Value)}(r:KV kvs vs)(k : κ):RelO (i7 kvs k) (valueAt vs k):=by
 unfold KV at r
 induction r with
 | nil=>exact True.intro
 | @cons p q ps qs h t ih=>
  obtain⟨h1,h2⟩:=h
  by_cases e:p.1=k
  ·have e':q.1=k:=h1.symm.trans e
   have b:valueAt (q::qs) k=some q.2:=by simp[valueAt,Dj,e']
   rw[iQ e,b];exact h2
  ·have e':¬ q.1=k:=λz=>e (h1.trans z)
   have b:valueAt (q::qs) k=valueAt qs k:=by simp[valueAt,Dj,e']
   rw[iP e,b];exact ih
end
theorem pM {P:Program}{w:World}{k:Key}{u:Value}(r:RelV (kV k) u):(bH P w).is k u=true:=by
 cases k with
 | inl i=>obtain⟨t,e⟩:=(show∃t,u=Value.int i t from r);subst e;exact kU P w i t
 | inr x=>obtain⟨t,e⟩:=(show∃t,u=Value.str x t from r);subst e;exact kW P w x t
section
variable  {P:Program}{w:World}{H:Hp}{h:Heap}{a:Addr}
theorem Ar {u:HO}(ok:HOk P w H h)(e:Rd H a u):ObjOk P w H h a u:=e.ok ok
theorem mI {kvs:List (Key×V)}(ok:HOk P w H h)(e:Rd H a (.dK kvs)):kvs.length<=sizeLine/\(a==sysModules)=false/\∃vs,KV kvs vs/\h.DictOf (bH P w) a vs:=
 show ObjOk P w H h a (.dK kvs)from Ar ok e
end
def DGet (H:Hp)(a:Addr)(y:V)(r:Option V):Prop:=∃kvs k,Rd H a (.dK kvs)/\y=kV k/\r=i7 kvs k
theorem DGet.k {H:Hp}{a:Addr}{kvs:List (Key×V)}{k:Key}(e:H a=some (.dK kvs)):DGet H a (kV k) (i7 kvs k):=⟨kvs,k,.inl e,rfl,rfl⟩
section
variable  {X:Cx}{pins:List (Addr×Obj)}{Z:St}{H:Hp}{s:Shared}{a:Addr}{y v:V}{u r:Value}{o:Option V}{A:Around}{E:Value->Shared->Prop}
theorem Inv.big (I:Inv X pins Z H s):sysModules<s.heap.objs.size:=by
 have h:mainGlobals<s.heap.objs.size:=(I.mod.glob.keeps I.bk).lt
 exact D9 (by decide) h
theorem nN {Q:Value->Shared->Prop}(hu:A.units+1<cLine)(I:Inv X pins Z H s)(g:DGet H a y (some v))(ry:RelV y u)(h:∀w' s',Inv X pins Z H s'->RelV v w'->Q w' s') :
  wpAny (model X.prog X.w) A (getItem (.ref a) u) Q E s:=by
 obtain⟨kvs,k,e,ey,l⟩:=g
 subst ey
 obtain⟨z,hd,vs,rel,dd⟩:=mI I.hok e
 obtain⟨w',hw,rw'⟩:=RelO.some_of (v:=v) (o:=valueAt vs k) (by rw[l];exact rel.val k)
 exact wpAny_getItem_of (pM ry) dd.mapOf hw (h w' _ (I.tok _) rw')
end
def sw (i:Expr):Prop:=∀ov iv,subscripted i false ov iv=operate [ov,iv] (getItem ov iv)
theorem uM {prog:Program}{w:World}{A:Around}{E:Value->Shared->Prop}{s:Shared}{env:Env}{value slice:Expr}{pos:Pos}{T id:String}{Q:Value->Shared->Prop}
  (hl:typeLookup (.type T) "__getitem__" = pure (some (.builtin id))) (hs:sw slice)
  (h:wpAny (model prog w) A (eval value env) (λo s₁=>wpAny (model prog w) A (eval slice env) (λi s₂=>s₂.TypeIs o T/\wpAny (model prog w) A (getItem o i) Q E s₂) E s₁) E s) :
  wpAny (model prog w) A (eval (.Subscript value slice pos) env) Q E s:=by
 refine Subscript_ (wpAny_mono h (λo s₁ h₁=>wpAny_mono h₁ (λi s₂ h₂=>?_) λ_ _ x=>x) λ_ _ x=>x)
 obtain⟨hT,h₂⟩:=h₂
 unfold subscriptTail
 refine wpAny_bind ?_
 rw[getitemInPython_of_ne hT.not_modules]
 refine wpAny_bind (wpAny_specialOf hT hl ?_)
 have fin:wpAny (model prog w) A (subscripted slice false o i) (λr s₃=>wpAny (model prog w) A (letTemporaryGo value o r >>= λ_=>pure r) Q E s₃) E s₂:=by
  rw[hs o i]
  exact wpAny_operating (wpAny_mono h₂ (λr s₃ h₃=>wpAny_bind (wpAny_letTemporaryGo (wpAny_pure h₃))) λ_ _ x=>x)
 first
  | exact wpAny_pure (wpAny_bind fin)
  | exact wpAny_bind (wpAny_pure (wpAny_bind fin))
  | exact wpAny_bind fin
theorem kH {X:Cx}{pins:List (Addr×Obj)}{Z:St}{H:Hp}{s:Shared}{a:Addr}{y:V}{o:Option V}(I:Inv X pins Z H s)(g:DGet H a y o):s.TypeIs (.ref a) "dict" :=by
 obtain⟨kvs,k,e,_,_⟩:=g
 obtain⟨_,_,vs,_,dd⟩:=mI I.hok e
 exact dd.typeIs
def Aw (td ty:TE):TE:=λZ H Q=>td Z H λx H1=>ty Z H1 λy H2=>∃a v,x=.ref a/\DGet H2 a y (some v)/\Q v H2
section
variable  {X:Cx}{o i e value:Expr}{pos pos' tpos:Pos}{td ty tv:TE}
theorem mW (hu:X.A.units+1<cLine)(ho:PE X o td)(hi:PE X i ty)(hs:sw i):PE X (.Subscript o i pos) (Aw td ty):=by
 intro pins s Z H Q I h
 refine uM PySem.F.slot_dict_getitem.lookup hs (thn (ho pins s Z H _ I h) λu s1 ⟨x,H1,I1,rx,q1⟩=>thn (hi pins s1 Z H1 _ I1 q1) λiv s2 ⟨y,H2,I2,ry,a,v,ex,g,q2⟩=>?_)
 subst ex
 obtain rfl:u=Value.ref a:=rx
 exact⟨kH I2 g,nN hu I2 g ry λw' s3 I3 rw'=>⟨v,H2,I3,rw',q2⟩⟩
end
theorem iX:typeLookup (.type "tuple") "keys" = pure none:=am_miss_of_fast (by decide +kernel)
theorem j4:typeLookup (.type "list") "keys" = pure none:=am_miss_of_fast (by decide +kernel)
section
variable  {prog:Program}{w:World}{A:Around}{E:Value->Shared->Prop}{s:Shared}
theorem gR {a:Addr}{o:Obj}{xs:Array Value}{k:Nat}{Q:Option Value->Shared->Prop}(hx:s.heap.get? a=some o)(hc:o.cls=.type "tuple" ∧ o.dict=none)(hdat:o.data=.seq xs k)(hA:A.handled=none)
  (h:∀h' tk,(∀b ob,s.heap.get? b=some ob->h'.get? b=some ob)->Q none {s with heap:=h',toks:=tk}):wpAny (model prog w) A (getAttr? (.ref a) "keys") Q E s:=by
 obtain⟨c,dct,dat,sl⟩:=o
 obtain⟨hc,hd⟩:=hc
 simp only at hc hdat hd
 subst hc hdat hd
 obtain⟨hp,g,d,tk,os⟩:=s
 have hT:∀tk',(⟨hp,g,d,tk',os⟩:Shared).TypeIs (.ref a) "tuple" :=λ_=>⟨_,hx,rfl⟩
 have f1:=sub_AttributeError
 have f3:=F.slot_tuple_getattribute.lookup
 have f4:=F.slot_tuple_getattribute.bind (.ref a)
 have f5:=am_tuple_getattr_none
 unfold getAttr? getAttrBy? getAttrBy
 repeat (any_goals (first|assumption|exact hT _|((with_reducible show wpAny _ _ (call (Value.builtin "tuple.__getattribute__") _ _) _ _ _);refine call_meets F.slot_tuple_getattribute (hT _) am_entry_tuple_getattribute (F.args_tuple_getattribute_2 _ _) (meets_getattribute_miss_tuple a xs k sl (Str.ofString "keys") _ iX (by decide +kernel)) ⟨hx,hA,λh' tk' e hx'=>?_⟩)|wp_step))
 obtain⟨t',u',he⟩:=hx'.there
 show wpAny _ _ (getattributeRaised _ _ _ _ _ _ _) _ _ _
 unfold getattributeRaised
 repeat (any_goals (first|assumption|wp_step))
 all_goals (try exact h _ _ hx'.keeps)
theorem iq {a:Addr}{o:Obj}{xs:Array Value}{k:Nat}{Q:Option Value->Shared->Prop}(hx:s.heap.get? a=some o)(hc:o.cls=.type "list" ∧ o.dict=none)(hdat:o.data=.seq xs k)(hA:A.handled=none)
  (h:∀h' tk,(∀b ob,s.heap.get? b=some ob->h'.get? b=some ob)->Q none {s with heap:=h',toks:=tk}):wpAny (model prog w) A (getAttr? (.ref a) "keys") Q E s:=by
 obtain⟨c,dct,dat,sl⟩:=o
 obtain⟨hc,hd⟩:=hc
 simp only at hc hdat hd
 subst hc hdat hd
 obtain⟨hp,g,d,tk,os⟩:=s
 have hT:∀tk',(⟨hp,g,d,tk',os⟩:Shared).TypeIs (.ref a) "list" :=λ_=>⟨_,hx,rfl⟩
 have f1:=sub_AttributeError
 have f3:=F.slot_list_getattribute.lookup
 have f4:=F.slot_list_getattribute.bind (.ref a)
 have f5:=am_list_getattr_none
 unfold getAttr? getAttrBy? getAttrBy
 repeat (any_goals (first|assumption|exact hT _|((with_reducible show wpAny _ _ (call (Value.builtin "list.__getattribute__") _ _) _ _ _);refine call_meets F.slot_list_getattribute (hT _) am_entry_list_getattribute (F.args_list_getattribute_2 _ _) (meets_getattribute_miss_list a xs k sl (Str.ofString "keys") _ j4 (by decide +kernel)) ⟨hx,hA,λh' tk' e hx'=>?_⟩)|wp_step))
 obtain⟨t',u',he⟩:=hx'.there
 show wpAny _ _ (getattributeRaised _ _ _ _ _ _ _) _ _ _
 unfold getattributeRaised
 repeat (any_goals (first|assumption|wp_step))
 all_goals (try exact h _ _ hx'.keeps)
end
theorem cP:entryFor table "dict.update.loop" = some Builtin.«dict.update.loop»:=entryFor_of_tree (by rfl')
theorem cT:plainId "dict.update.loop" = true:=by decide +kernel
def ItK (kd:Bool)(h:Heap)(it l:Addr)(k:Nat):Prop:=match kd with|true=>h.IsListIter it l k|false=>h.IsTupleIter it l k
def SeK (kd:Bool)(h:Heap)(l:Addr)(els:Array Value):Prop:=match kd with|true=>h.IsList l els|false=>h.IsTuple l els
noncomputable def sto (ps:List (Key×Value)) (kvs:List (Key×Value)):List (Key×Value):=ps.foldl (λd p=>stored d p.1 p.2) kvs
theorem lY {kvs:List (Key×Value)}{k:Key}{v:Value}:(stored kvs k v).length<=kvs.length+1:=by
 unfold stored
 split
 ·rw[Bw];omega
 ·simp
section
variable  {prog:Program}{w:World}
def yY (w:World)(prog:Program)(G:Heap)(d it:Addr)(x:Value)(p:Key×Value):Prop:=∃q key,x=.ref q/\q≠d/\q≠it/\(bH prog w).is p.1 key=true/\∃o n,G.get? q=some o/\o.cls=.type "tuple" ∧ o.data=.seq #[key,p.2] n
theorem rY {kd:Bool}{d it l:Addr}{els:List Value}{G:Heap}{R:Result->Shared->Prop}(n1:d≠it)(n2:d≠l)(n3:it≠l)(hl:SeK kd G l els.toArray) :
  ∀(m:Nat) {A:Around} (i:Nat) (ps:List (Key×Value)) (kvs:List (Key×Value)) (s:Shared),A.handled=none->m+i=els.length->Paired (yY w prog G d it) (els.drop i) ps->ItK kd s.heap it l i->s.heap.DictOf (bH prog w) d kvs->kvs.length+m<=sizeLine →
   (∀b o,b≠d->b≠it->G.get? b=some o->s.heap.get? b=some o) →
   (∀h' tk,(∀b o,b≠d->b≠it->G.get? b=some o->h'.get? b=some o)->h'.DictOf (bH prog w) d (sto ps kvs)->R (.ok (.ret .none)) {s with heap:=h',toks:=tk}) →
   codeAny (model prog w) A (.builtin "dict.update.loop" ⟨[.ref d,.ref it,rawInt i,.none],[]⟩) R s:=by
 intro m
 induction m with
 | zero=>
  intro A i ps kvs s hA hm hp hit hd hz hk q
  rw[Cb]at hm
  subst hm
  rw[DC]at hp
  cases hp
  refine codeAny_builtin cP ?_
  rw[Around.under_plainId cT _]
  show wpAny _ _ (pyNext (.ref it) >>= _) _ _ _
  have fin:∀h',Heap.ExtBut it s.heap h'->R (.ok (.ret .none)) {s with heap:=h'}:=λh' eb=>
   q h' s.toks (λb o nb1 nb2 e=>eb b o nb2 (hk b o nb1 nb2 e)) (hd.extBut eb n1)
  cases kd with
  | true=>
   obtain⟨ol,e1,e2⟩:=hl
   exact wpAny_bind (wpAny_pyNext_list_end hA hit ⟨ol,hk _ _ (Ne.symm n2) (Ne.symm n3) e1,e2⟩ (by simp) λh' eb=>wpAny_bind (wpAny_pure (wpAny_pure (fin h' eb))))
  | false=>
   obtain⟨ol,e1,e2⟩:=hl
   exact wpAny_bind (wpAny_pyNext_tuple_end hA hit ⟨ol,hk _ _ (Ne.symm n2) (Ne.symm n3) e1,e2⟩ (by simp) λh' eb=>wpAny_bind (wpAny_pure (wpAny_pure (fin h' eb))))
 | succ m ih=>
  intro A i ps kvs s hA hm hp hit hd hz hk q
  have hi:i<els.length:=by omega
  rw[CH hi]at hp
  cases hp with
  | @cons x p _ ps' hx hp'=>
  obtain⟨a,key,ex,na1,na2,hkey,o,n,ho,hc,hdat⟩:=hx
  have hx':els[i]?=some (.ref a):=by rw[BU hi,ex]
  refine codeAny_builtin cP ?_
  rw[Around.under_plainId cT _]
  show wpAny _ _ (pyNext (.ref it) >>= _) _ _ _
  have go:∀h',ItK kd h' it l (i+1)->Heap.SameBut it s.heap h'->wpAny (model prog w) A.in1 (holding [Value.ref a] (do
    let pair ←(Builtin.Dict.pairItems (.ref a)).tryCatch λe=>do
     if !(←isInstance e (.type "TypeError"))then throw e
     rule "dict.update.element-no-sequence"
     raiseError "TypeError" s!"cannot convert dictionary update sequence element #{(i : Int)} to a sequence"
    match pair with
    | [k,v]=>holding [k,v] (dictSet d k v)
    | l=>
     rule "dict.update.element-length"
     raiseError "ValueError" s!"dictionary update sequence element #{(i : Int)} has length {l.length}; 2 is required") >>= λ_=>again (.builtin "dict.update.loop" ⟨[.ref d,.ref it,rawInt ((i:Int)+1),.none],[]⟩))
    (λfin s'=>match fin with|.done f=>R (.ok f) s'|.again c'=>c'.quiet=true/\codeAny (model prog w) A c' R s') (λe s'=>R (.error e) s') {s with heap:=h'}:=λh' hit' sb=>by
   have ho':h'.get? a=some o:=(sb.2 a na2).trans (hk a o na1 na2 ho)
   refine wpAny_bind (wpAny_holding (wpAny_bind (wpAny_tryCatch ?_)))
   unfold Builtin.Dict.pairItems
   refine wpAny_bind (wpAny_typeOf (T:="tuple") ⟨o,ho',hc⟩ ?_)
   rw[if_pos (by rfl)]
   refine wpAny_bind (wpAny_seqItems ho' hdat (wpAny_pure ?_))
   show wpAny _ _ (holding [key,p.2] (dictSet d key p.2)) _ _ _
   refine wpAny_holding (wpAny_dictSet_pairs (hsz:=by omega) hkey (hd.sameBut sb n1) λh2 hd2 sb2=>?_)
   refine wpAny_pure ⟨Code.quiet_builtin _ (by decide +kernel),?_⟩
   have hit2:ItK kd h2 it l (i+1):=by
    cases kd with
    | true=>obtain⟨oi,e1,e2⟩:=hit';exact⟨oi,(sb2.2 it (Ne.symm n1)).trans e1,e2⟩
    | false=>obtain⟨oi,e1,e2⟩:=hit';exact⟨oi,(sb2.2 it (Ne.symm n1)).trans e1,e2⟩
   have:=ih (A:=A) (i+1) ps' _ {s with heap:=h2,toks:=s.toks+1} hA (by omega) hp' hit2 hd2 (by have:=lY (kvs:=kvs) (k:=p.1) (v:=p.2);omega) (λb ob nb1 nb2 e=>(sb2.2 b nb1).trans ((sb.2 b nb2).trans (hk b ob nb1 nb2 e))) λh3 tk k3 d3=>q h3 tk k3 d3
   exact this
  cases kd with
  | true=>
   obtain⟨ol,e1,e2⟩:=hl
   exact wpAny_bind (wpAny_pyNext_list_item hit ⟨ol,hk _ _ (Ne.symm n2) (Ne.symm n3) e1,e2⟩ (x:=.ref a) (by simpa using hx') λh' hit' sb=>go h' hit' sb)
  | false=>
   obtain⟨ol,e1,e2⟩:=hl
   exact wpAny_bind (wpAny_pyNext_tuple_item hit ⟨ol,hk _ _ (Ne.symm n2) (Ne.symm n3) e1,e2⟩ (x:=.ref a) (by simpa using hx') λh' hit' sb=>go h' hit' sb)
end
theorem jy:∀(ps kvs:List (Key×Value)),((kvs++ps).map (·.1)).Nodup->sto ps kvs=kvs++ps
 | [],kvs,_=>by simp[sto]
 | p::ps,kvs,h=>by
  have hn:kvs.any (λkv=>decide (kv.1=p.1))=false:=by
   rw[List.any_eq_false]
   intro kv hkv
   rw[BL,Bx]at h
   have:=h.2.2 kv.1 (BB.mpr ⟨kv,hkv,rfl⟩) p.1 (by simp)
   simpa using this
  have e:stored kvs p.1 p.2=kvs++[p]:=by unfold stored;rw[hn];rfl
  have:=jy ps (kvs++[p]) (by rw[BK];exact h)
  rw[show sto (p::ps) kvs=sto ps (stored kvs p.1 p.2)from rfl,e,this,BK];rfl
section
variable  {X:Cx}{pins:List (Addr×Obj)}{Z:St}{H:Hp}{s:Shared}{a:Addr}{xs:List V}
theorem Inv.tupleN (I:Inv X pins Z H s)(h:SqT X.K H a xs):∃its:List Value,Vals xs its/\IsTupN s.heap a its.toArray/\xs.length<=sizeLine:=by
 rcases h with h|⟨o,its,n,hk,hc,hs,hz,r⟩
 ·obtain⟨z,its,r,p⟩:=h.ok I.hok
  exact⟨its,r,p,z⟩
 ·refine⟨its.toList,r,⟨o,I.kIn a o hk,hc,n,by simpa using hs⟩,?_⟩
  have e:=r.length
  simp only[Co]at e
  omega
end
def PrV (K:yF)(H:Hp)(y:V)(q:Key×V):Prop:=∃t,y=.ref t/\SqT K H t [kV q.1,q.2]
def m8 (K:yF):List V->Hp->VK->Prop:=λxs H Q=>∃p ys ps,xs=[.ref p]/\(SqL K H p ys∨SqT K H p ys)/\Paired (PrV K H) ys ps/\(ps.map (·.1)).Nodup/\∀l,H l=none->Q (.ref l) (upd H l (.dK ps))
section
variable  {X:Cx}{pins:List (Addr×Obj)}{Z:St}{H:Hp}{s:Shared}
theorem qO (I:Inv X pins Z H s){G:Heap}(hG:∀b o,s.heap.get? b=some o->G.get? b=some o){d it:Addr}(hd:s.heap.objs.size<=d)(hi:s.heap.objs.size<=it):∀{ys:List V} {ps:List (Key×V)} {us:List Value},Paired (PrV X.K H) ys ps->Vals ys us →
  ∃qs:List (Key×Value),Paired (yY X.w X.prog G d it) us qs/\KV ps qs
 | _,_,_,.nil,.nil=>⟨[],.nil,.nil⟩
 | _,_,_,.cons (b:=p) ⟨t,e,h⟩ hp,.cons (b:=u) r rs=>by
  obtain⟨qs,h1,h2⟩:=qO I hG hd hi hp rs
  subst e
  have eu:u=Value.ref t:=r
  obtain⟨its,r1,⟨o,e1,e2,n,e3⟩,_⟩:=I.tupleN h
  cases r1 with
  | cons r1 r2=>cases r2 with
   | cons r2 r3=>
    cases r3
    have lt:=Heap.lt_size e1
    exact⟨(p.1,_)::qs,.cons ⟨t,_,eu,BG (BI lt hd),BG (BI lt hi),pM r1,o,n,hG _ _ e1,e2.1,e3⟩ h1,.cons ⟨rfl,r2⟩ h2⟩
theorem wB {ps:List (Key×V)}{qs:List (Key×Value)}(h:KV ps qs):ps.map (·.1)=qs.map (·.1):=by
 induction h with
 | nil=>rfl
 | cons h _ ih=>rw[Bt,Bt,h.1,ih]
theorem jO (hc:X.calm=true):CallR X (.type "dict") (m8 X.K):=by
 intro pins s Z H xs us Q I r h
 obtain⟨p,ys,ps,rfl,hq,hp,hn,q⟩:=h
 obtain⟨u,rfl,rx⟩:=dN r
 cases rx
 have hA:=I.ok.hd hc
 have src:∃(kd:Bool) (els:List Value) (o:Obj) (n:Nat),s.heap.get? p=some o/\(o.cls=.type (if kd then "list" else "tuple")/\o.dict=none)/\o.data=.seq els.toArray n/\Vals ys els/\ys.length<=sizeLine:=by
  rcases hq with hq|hq
  ·obtain⟨its,r',⟨o,n,e1,e2,e3,e4⟩,hz⟩:=I.list hq
   exact⟨true,its,o,n,e1,⟨e2,e3⟩,e4,r',hz⟩
  ·obtain⟨its,r',⟨o,e1,e2,n,e3⟩,hz⟩:=I.tupleN hq
   exact⟨false,its,o,n,e1,e2,e3,r',hz⟩
 obtain⟨kd,els,o,n,e1,e2,e3,rv,hz⟩:=src
 have hlen:ys.length=els.length:=rv.length
 refine callType_codes (Q₁:=λobj s₁=>obj=.ref s.heap.objs.size/\s₁={s with heap:=s.heap.push {cls:=.type "dict",data:=.dict #[]}}) F.kt_called_dict (F.kt_typeCall_dict_1 _) F.entry_dict_init (kt_code_dict_new _ ⟨rfl,rfl⟩) ?_
 rintro obj s₁ ⟨rfl,rfl⟩
 have hnew:(s.heap.push {cls:=.type "dict",data:=.dict #[]}).DictOf (bH X.prog X.w) s.heap.objs.size []:=Heap.DictOf.new s.heap
 have k1:∀b ob,s.heap.get? b=some ob->(s.heap.push {cls:=.type "dict",data:=.dict #[]}).get? b=some ob:=λb ob e=>Heap.get?_push_of_some _ e
 have sz1:(s.heap.push {cls:=.type "dict",data:=.dict #[]}).objs.size=s.heap.objs.size+1:=Heap.size_push _ _
 generalize s.heap.push {cls:=.type "dict",data:=.dict #[]}=h1 at hnew k1 sz1⊢
 refine⟨hnew.typeIs,F.args_dict_init_2 _ _,?_⟩
 unfold Builtin.«dict.__init__»
 refine wpAny_bind ?_
 unfold Builtin.Dict.selfAndRest
 refine wpAny_bind (wpAny_notOrdered_dict hnew.typeIs ?_)
 show wpAny _ _ (pure (s.heap.objs.size,[Value.ref p])) _ _ _
 refine wpAny_pure ?_
 show wpAny _ _ (Builtin.Dict.updateFrom "dict.__init__" s.heap.objs.size (.ref p) [] .none) _ _ _
 unfold Builtin.Dict.updateFrom
 have hh:X.A.in1.in1.handled=none:=hA
 have last:∀(h2:Heap) (tk:Nat) (it:Addr),(∀b ob,h1.get? b=some ob->h2.get? b=some ob)->s.heap.objs.size<it->ItK kd h2 it p 0 →
   codeAny (model X.prog X.w) X.A.in1 (.builtin "dict.update.loop" ⟨[.ref s.heap.objs.size,.ref it,rawInt 0,.none],[]⟩) (wants (λr s₂=>r=.none/\EP X pins Z Q (.ref s.heap.objs.size) s₂) X.xe) {s with heap:=h2,toks:=tk}:=by
  intro h2 tk it k2 hit hI
  obtain⟨qs,p1,p2⟩:=qO I (G:=h2) (λb ob e=>k2 b ob (k1 b ob e)) (d:=s.heap.objs.size) (it:=it) (Bz _) (Dl hit) hp rv
  have lp:=Heap.lt_size e1
  have sl:SeK kd h2 p els.toArray:=by
   cases kd with
   | true=>exact⟨o,k2 _ _ (k1 _ _ e1),e2.1,n,e3⟩
   | false=>exact⟨o,k2 _ _ (k1 _ _ e1),e2.1,n,e3⟩
  refine rY (G:=h2) (kd:=kd) (els:=els) (l:=p) (BG hit) (C4 lp) (C4 (D9 lp hit)) sl els.length 0 qs [] _ hh (by omega) (by simpa using p1) hI ?_ (by simp;omega) (λ_ _ _ _ e=>e) λh3 tk3 k3 d3=>?_
  ·obtain⟨od,es,ep,f1,f2⟩:=hnew
   exact⟨od,es,ep,k2 _ _ f1,f2⟩
  ·rw[jy _ _ (by rw[Cf,←wB p2];exact hn),Cf]at d3
   refine⟨rfl,.ref s.heap.objs.size,_,I.laid (t':=tk3) (λb ob e=>?_) (Bz _) (show ObjOk X.prog X.w _ h3 _ (.dK ps)from⟨?_,?_,qs,p2,d3⟩),rfl,q _ (I.hok.fresh (Bz _))⟩
   ·have lb:=Heap.lt_size e
    exact k3 b ob (BG lb) (BG (D9 lb hit)) (k2 b ob (k1 b ob e))
   ·have:=hp.length;omega
   ·exact beq_eq_false_iff_ne.mpr (Ne.symm (BG I.big))
 cases kd with
 | true=>
  refine wpAny_bind (wpAny_typeOf (T:="list") ⟨o,k1 _ _ e1,e2.1⟩ ?_)
  rw[if_pos (by decide)]
  refine wpAny_bind (iq (k1 _ _ e1) e2 e3 hh λh2 tk k2=>?_)
  rw[if_pos (by rfl)]
  refine wpAny_bind (wpAny_rule (wpAny_bind (wpAny_pyIter_list ⟨o,k2 _ _ (k1 _ _ e1),e2.1,n,e3⟩ ?_)))
  refine wpAny_pure ⟨Code.quiet_builtin _ (by decide +kernel),?_⟩
  exact last _ tk _ (λb ob e=>Heap.get?_push_of_some _ (k2 b ob e)) (by obtain⟨_,_,_,f1,_⟩:=hnew;exact Heap.lt_size (k2 _ _ f1)) ⟨_,Heap.get?_push_size _ rfl,rfl,rfl⟩
 | false=>
  refine wpAny_bind (wpAny_typeOf (T:="tuple") ⟨o,k1 _ _ e1,e2.1⟩ ?_)
  rw[if_pos (by decide)]
  refine wpAny_bind (gR (k1 _ _ e1) e2 e3 hh λh2 tk k2=>?_)
  rw[if_pos (by rfl)]
  refine wpAny_bind (wpAny_rule (wpAny_bind (wpAny_pyIter_tuple ⟨o,k2 _ _ (k1 _ _ e1),e2.1,n,e3⟩ ?_)))
  refine wpAny_pure ⟨Code.quiet_builtin _ (by decide +kernel),?_⟩
  exact last _ tk _ (λb ob e=>Heap.get?_push_of_some _ (k2 b ob e)) (by obtain⟨_,_,_,f1,_⟩:=hnew;exact Heap.lt_size (k2 _ _ f1)) ⟨_,Heap.get?_push_size _ rfl,rfl,rfl⟩
end
noncomputable def j3 (i:I):Option Key:=match i with
 | .int n=>some (.inl n)
 | .str x=>some (.inr x)
 | _=>none
noncomputable def pr1 (i:I):Option (Key×I):=match i with
 | .tup is=>(match is with
  | []=>none
  | k::r=>(match r with
   | []=>none
   | v::r2=>(match r2 with
    | []=>(j3 k).map λq=>(q,v)
    | _::_=>none)))
 | _=>none
noncomputable def oB:List I->Option (List (Key×I))
 | []=>some []
 | i::is=>match pr1 i with
  | some p=>(oB is).map (p :: ·)
  | none=>none
noncomputable def pi (is:List I):Option T:=match oB is with
 | some l=>if(l.map (·.1)).Nodup then some (.di (l.map λp=>(cD p.1,p.2)))else none
 | none=>none
noncomputable def Au (g:List I->Option T) (t:T):Option T:=match t with
 | .im i=>(match i with
  | .tup is=>g is
  | _=>none)
 | .li is=>g is
 | _=>none
@[irreducible] noncomputable def kG:List T->Option T:=l1 (Au pi)
section
variable  {K:yF}{H:Hp}
theorem eP {i:I}{q:Key}(e:j3 i=some q):i=cD q:=by
 unfold j3 at e
 split at e<;>cases e<;>rfl
theorem gU {i:I}{q:Key}{x:V}(e:j3 i=some q)(r:RpI K H i x):x=kV q:=by
 rw[eP e]at r
 cases q<;>(rw[cD,RpI]at r;exact r)
theorem xx {i:I}{p:Key×I}{x:V}(e:pr1 i=some p)(r:RpI K H i x):∃w,PrV K H x (p.1,w)/\RpI K H p.2 w:=by
 unfold pr1 at e
 split at e
 ·split at e
  ·cases e
  ·split at e
   ·cases e
   ·split at e
    ·rename_i k _ v _ _
     obtain⟨q,e1,e2⟩:=B8.mp e
     cases e2
     rw[RpI]at r
     obtain⟨a,xs,rfl,h1,h2⟩:=r
     rw[RpIs]at h2
     obtain⟨y,r2,rfl,g1,h2⟩:=h2
     rw[RpIs]at h2
     obtain⟨z,r3,rfl,g2,h2⟩:=h2
     rw[RpIs]at h2
     subst h2
     rw[gU e1 g1]at h1
     exact⟨z,⟨a,rfl,h1⟩,g2⟩
    ·cases e
 ·cases e
theorem mX:∀{is:List I} {l:List (Key×I)} {xs:List V},oB is=some l->RpIs K H is xs->∃ps:List (Key×V),Paired (PrV K H) xs ps/\ps.map (·.1)=l.map (·.1)/\RpIs K H (l.map (·.2)) (ps.map (·.2))
 | [],_,_,e,r=>by
  cases e
  rw[RpIs]at r
  subst r
  exact⟨[],.nil,rfl,by rw[CL,RpIs];rfl⟩
 | i::is,l,xs,e,r=>by
  rw[RpIs]at r
  obtain⟨x,xs,rfl,r1,r2⟩:=r
  rw[oB]at e
  split at e
  ·rename_i p e1
   obtain⟨l',e2,rfl⟩:=B8.mp e
   obtain⟨w,h1,h2⟩:=xx e1 r1
   obtain⟨ps,h3,h4,h5⟩:=mX e2 r2
   refine⟨(p.1,w)::ps,.cons h1 h3,by rw[Bt,Bt,h4],?_⟩
   rw[Bt,Bt,RpIs]
   exact⟨w,_,rfl,h2,h5⟩
  ·cases e
theorem New.di {ps:List (Key×V)}{kvs:List (I×I)}{p:Addr}(hp:H p=none)(hk:ps.map (λq=>cD q.1)=kvs.map (·.1))(h:RpIs K H (kvs.map (·.2)) (ps.map (·.2))):New K H (upd H p (.dK ps)) (.di kvs) (.ref p):=by
 refine⟨Same.laid hp,[p],?_,by simp,λa ha=>?_⟩
 ·rw[Rp]
  refine⟨p,ps.map (λq=>(cD q.1,q.2)),rfl,⟨ps,ar,rfl⟩,?_,?_,rfl⟩
  ·have:(ps.map (λq=>(cD q.1,q.2))).map (·.2)=ps.map (·.2):=by rw[BR];rfl
   rw[this]
   exact h.same (Same.laid hp)
  ·rw[BR,←hk];rfl
 ·cases ysM ha
  exact⟨hp,_,ar,rfl⟩
theorem mH {is:List I}{t:T}{xs:List V}{p:Addr}{Q:VK}(e:pi is=some t)(r:RpIs K H is xs)(hs:SqL K H p xs∨SqT K H p xs)(q:∀v H',New K H H' t v->Q v H'):m8 K [.ref p] H Q:=by
 unfold pi at e
 split at e
 ·rename_i l e1
  split at e
  ·rename_i hn
   cases e
   obtain⟨ps,h1,h2,h3⟩:=mX e1 r
   refine⟨p,xs,ps,rfl,hs,h1,by rw[h2];exact hn,λl' hl=>q _ _ (.di hl ?_ ?_)⟩
   ·rw[BR]
    have:=congrArg (List.map cD) h2
    rw[BR,BR]at this
    exact this
   ·rw[BR];exact h3
  ·cases e
 ·cases e
theorem ot:cO K (m8 K) kG:=by
 intro H vs ts t Q r e q
 unfold kG at e
 have e0:=ci e
 clear e
 obtain⟨x,rfl,e⟩:=e0
 obtain⟨v,rfl,r1⟩:=gS r
 unfold Au at e
 split at e
 ·split at e
  ·obtain⟨p,xs,rfl,h1,h2⟩:=bO r1
   exact mH e h2 (.inr h1) q
  ·cases e
 ·obtain⟨p,xs,rfl,h1,h2⟩:=bA r1
  exact mH e h2 (.inl (aM h1)) q
 ·cases e
theorem b_dict:nC "dict" kG:=⟨_,m8,Ew,λ_ h=>jO h,λ_=>ot⟩
noncomputable def gH:List (I×I)->I->Option I
 | [],_=>none
 | p::r,k=>if p.1=k then some p.2 else gH r k
noncomputable def dg1 (kvs:List (I×I)) (k:I):Option T:=match j3 k with
 | some _=>(gH kvs k).map T.im
 | none=>none
@[irreducible] noncomputable def dgT (t u:T):Option T:=match t with
 | .di kvs=>(match u with
  | .im k=>dg1 kvs k
  | _=>none)
 | _=>none
def dgR:R2:=λx y H Q=>∃a v,x=.ref a/\DGet H a y (some v)/\Q v H
theorem ip {a b:Key}(h:cD a=cD b):a=b:=by cases a<;>cases b<;>(unfold cD at h;cases h)<;>rfl
theorem kI {q:Key}{v:I}:∀{kvs:List (I×I)} {zs:List (Key×V)},gH kvs (cD q)=some v->zs.map (λz=>cD z.1)=kvs.map (·.1)->RpIs K H (kvs.map (·.2)) (zs.map (·.2))->∃w,i7 zs q=some w/\RpI K H v w
 | [],_,e,_,_=>by cases e
 | p::r,zs,e,h1,h2=>by
  cases zs with
  | nil=>cases h1
  | cons z zs=>
   rw[Bt,Bt,Cu.injEq]at h1
   rw[Bt,Bt,RpIs]at h2
   obtain⟨x,xs,e1,g1,g2⟩:=h2
   rw[Cu.injEq]at e1
   obtain⟨rfl,rfl⟩:=e1
   rw[gH]at e
   split at e
   ·rename_i hk
    cases e
    exact⟨z.2,iQ (ip (h1.1.trans hk)),g1⟩
   ·rename_i hk
    obtain⟨w,g3,g4⟩:=kI e h1.2 g2
    exact⟨w,by rw[iP λe=>hk (by rw[←h1.1,e])];exact g3,g4⟩
theorem tU:cC K dgR dgT:=by
 intro H x y tx ty t Q r1 r2 e q
 unfold dgT at e
 split at e
 ·split at e
  ·unfold dg1 at e
   split at e
   ·rename_i kvs k _ q0 e1
    obtain⟨v,e2,rfl⟩:=B8.mp e
    obtain⟨F,r1⟩:=r1
    rw[Rp]at r1
    obtain⟨a,ys,rfl,⟨zs,hz,rfl⟩,h1,h2,_⟩:=r1
    rw[BR]at h1 h2
    rw[gU e1 (bW r2)]
    rw[eP e1]at e2
    obtain⟨w,g1,g2⟩:=kI e2 h2 h1
    refine⟨a,w,rfl,?_,q _ _ (.im g2)⟩
    rw[←g1]
    exact DGet.k hz
   ·cases e
  ·cases e
 ·cases e
end
section
variable  {ι : Type}{C:ι->Cx}{P:Program}{W:World}{K:yF}{mg:Str->Option Value}{base:Heap}{k:Nat}{a b:Expr}{ma mb:ME}{pos:Pos}
theorem zP (ck:CK C P W K mg base k)(ha:QE C K a ma)(hb:QE C K b mb)(hs:sw b:=by intro _ _;rfl):QE C K (.Subscript a b pos) (mOp dgT ma mb):=by
 obtain⟨ta,p,r⟩:=ha
 obtain⟨tb,p',r'⟩:=hb
 exact⟨_,λi=>mW (vd (ck.room i)) (p i) (p' i) hs,iK (red:=dgR) tU r r'⟩
end
section
variable  {X:Cx}{pins:List (Addr×Obj)}{Z:St}{H:Hp}{s:Shared}
theorem Inv.frz {a:Addr}{xs:List V}(I:Inv X pins Z H s)(h:H a=some (.lst xs)):∃o,Inv X pins Z (upd H a (.frz o (.lst xs))) s:=by
 obtain⟨z,its,n,r,e⟩:=(show ObjOk X.prog X.w H s.heap a (.lst xs)from I.hok a _ h)
 exact⟨_,I.write (t':=s.toks) (h':=s.heap) (by rw[h];exact True.intro) (.inl rfl) (λb u _ q=>q) ⟨_,e⟩ ⟨e,z,its,n,r,e⟩⟩
end
section
variable  {K:yF}
end
section
variable  {ι : Type}{C:ι->Cx}{P:Program}{W:World}{K:yF}{mg:Str->Option Value}{base:Heap}{k:Nat}{a b:Expr}{ma mb:ME}{pos:Pos}
end
noncomputable def ig:List I->Option (List Int)
 | []=>some []
 | i::is=>match i with
  | .int n=>(ig is).map (n :: ·)
  | _=>none
theorem kM {K:yF}{H:Hp}:∀{is:List I} {ns:List Int} {xs:List V},ig is=some ns->RpIs K H is xs->xs=ns.map V.int
 | [],_,_,e,r=>by cases e;rw[RpIs]at r;exact r
 | i::is,ns,xs,e,r=>by
  rw[RpIs]at r
  obtain⟨x,xs,rfl,r1,r2⟩:=r
  cases i with
  | int n=>
   obtain⟨ms,e2,rfl⟩:=B8.mp (show(ig is).map (n :: ·)=some ns from e)
   rw[RpI]at r1
   rw[r1,kM e2 r2];rfl
  | _=>cases e
section
variable  {m:ME}{ρ:Rho}{QF:R->Rho->Prop}{i:Nat}{is:List I}{j:I}{k:Kd}
end
theorem gO (ns:List Int):∀k,k<=ns.length->preSum (λi=>ns.getD i 0) k=(ns.take k).sum
 | 0,_=>by simp[preSum]
 | k+1,h=>by
  have hk:k<ns.length:=h
  rw[preSum,gO ns k (Dl hk),CM,BU hk,List.sum_append]
  simp[List.getD,BU hk]
theorem nA:∀{ns:List Int} {us:List Value} {i:Nat} {v:Value},Vals (ns.map V.int) us->us[i]?=some v->∃t,v=.int (ns.getD i 0) t
 | [],_,_,_,.nil,e=>by simp at e
 | n::ns,_,0,_,.cons r _,e=>by simp at e;subst e;exact r
 | n::ns,_,i+1,v,.cons _ t,e=>by simpa using nA (ns:=ns) (i:=i) t (by simpa using e)
section
variable  {X:Cx}
theorem pb (hc:X.calm=true):CallR X (.builtin "sum") (λxs H Q=>∃(a:Addr) (ns:List Int),xs=[.ref a]/\SqL X.K H a (ns.map V.int)/\Q (.int ns.sum) H):=by
 intro pins s Z H xs us Q I rv h
 obtain⟨a,ns,rfl,hq,q⟩:=h
 obtain⟨u,rfl,ru⟩:=dN rv
 cases ru
 obtain⟨its,r,p,hz⟩:=I.list hq
 have hlt:a<s.heap.objs.size:=by
  obtain⟨o,n,e,_⟩:=p
  exact Heap.lt_size e
 refine call_sum_walkG (wpAny_pyIter_list p.isList ?_)
 refine⟨s.heap.objs.size,_,_,_,_,_,λi=>ns.getD i 0,rfl,Walks.list (A:=X.A.in1) (show X.A.in1.handled=none from I.ok.hd hc) s.heap.objs.size a (BG hlt) its.toArray,⟨⟨_,Heap.get?_push_size _ rfl,rfl,rfl⟩,?_⟩,?_,?_,λh' tk t' hk=>?_⟩
 ·exact p.isList.at λo e=>Heap.get?_push_of_some _ e
 ·intro b hb
  show b<(s.heap.push _).objs.size
  rw[Heap.size_push]
  simp only[BT,BX,or_false]at hb
  rcases hb with rfl|rfl
  ·exact Dz _
  ·exact Ds hlt
 ·intro i v hv
  exact nA r (by simpa using hv)
 ·have I1:Inv X pins Z H {s with heap:=h',toks:=tk}:=I.kept λb o e=>hk b o (λz=>absurd (ysM z) (BG (Heap.lt_size e))) (Heap.get?_push_of_some _ e)
  refine⟨.int _,H,I1,⟨t',rfl⟩,?_⟩
  have hl:its.toArray.size=ns.length:=by rw[Bv,←r.length,Bw]
  rw[hl,gO ns _ (Bz _),CS]
  exact q
theorem ze:∀{kvs:List (Key×V)} {vs:List (Key×Value)} {us:List Value},KV kvs vs->us.length=vs.length->(∀(i:Nat) (v:Value),us[i]?=some v->∃k x,vs[i]?=some (k,x)/\il k v=true)->Vals (kvs.map λp=>kV p.1) us
 | [],_,us,.nil,hl,_=>by have:us=[]:=DB.mp hl;subst this;exact .nil
 | p::ps,_,us,.cons (b:=q) r t,hl,h=>by
  cases us with
  | nil=>cases hl
  | cons u us=>
   refine .cons ?_ (ze t (by simpa using hl) λi v e=>by simpa using h (i+1) v (by simpa using e))
   obtain⟨k,x,e,hk⟩:=h 0 u rfl
   simp at e
   have e1:p.1=k:=by rw[r.1,e]
   show RelV (kV p.1) u
   rw[e1]
   rcases aO hk with⟨i,t,rfl,rfl⟩|⟨x,t,rfl,rfl⟩
   ·exact⟨_,rfl⟩
   ·exact⟨_,rfl⟩
theorem lE (hc:X.calm=true):CallR X (.type "list") (λxs H Q=>∃a kvs,xs=[.ref a]/\Rd H a (.dK kvs)/\∀l,H l=none->Q (.ref l) (upd H l (.lst (kvs.map λp=>kV p.1)))):=by
 intro pins s Z H xs us Q I rv h
 obtain⟨a,kvs,rfl,hd,q⟩:=h
 obtain⟨u,rfl,ru⟩:=dN rv
 cases ru
 obtain⟨z,ha,vs,rel,dd⟩:=mI I.hok hd
 obtain⟨ep,da⟩:=dd.dictAt
 have hl:kvs.length=vs.length:=Paired.length rel
 refine PySem.W.kdl_call (PySem.W.kdl_dict (kvs:=vs) (ep:=ep) ha) (I.ok.hd hc) da (by omega) λh' tk acc' c' hk hS ia=>?_
 refine⟨.ref s.heap.objs.size,_,I.laid (t':=tk) hk (Bz _) (show ObjOk X.prog X.w _ h' _ (.lst (kvs.map λp=>kV p.1))from⟨by rw[Bw];exact z,acc'.toList,c',?_,by rw[Array.toArray_toList];exact hS⟩),rfl,q _ (I.hok.fresh (Bz _))⟩
 exact ze rel (by rw[Co];exact ia.1) λi v e=>ia.2 i v (by rw[←Array.getElem?_toList];exact e)
end
theorem pj {P:Program}{w:World}{H:Hp}(h:Heap)(hb:sysModules<h.objs.size):ObjOk P w H (h.push {cls:=.type "dict",data:=.dict #[]}) h.objs.size (.dK []):=
 ⟨De _,beq_eq_false_iff_ne.mpr (Ne.symm (BG hb)),[],.nil,Heap.DictOf.new h⟩
def vK:TE:=λ_ H Q=>∀p,H p=none->Q (.ref p) (upd H p (.dK []))
theorem tL {X:Cx}{pos:Pos}:PE X (.Dict [] [] pos) vK:=λpins s Z H Q I h=>
 wpAny_Dict_empty ⟨.ref s.heap.objs.size,_,I.laid (a:=s.heap.objs.size) (o:=.dK []) (t':=s.toks) (λ_ _ q=>Heap.get?_push_of_some _ q) (Bz _) (pj s.heap I.big),rfl,h _ (I.hok.fresh (Bz _))⟩
section
variable  {κ : Type}[DecidableEq κ]
noncomputable def bu {α:Type}:List (κ × α)->κ->α->List (κ × α)
 | [],k,v=>[(k,v)]
 | p::r,k,v=>if p.1=k then(p.1,v)::r else p::bu r k v
theorem mU {k : κ}{u:Value}:∀{vs:List (κ×Value)},k∉vs.map (·.1)->vs.map (λkv=>if kv.1=k then(kv.1,u)else kv)=vs
 | [],_=>rfl
 | p::r,h=>by
  rw[Bt,BT,not_or]at h
  rw[Bt,if_neg (λz=>h.1 z.symm),mU h.2]
theorem jA (k : κ)(u:Value):∀{vs:List (κ×Value)},(vs.map (·.1)).Nodup->stored vs k u=bu vs k u
 | [],_=>by simp[stored,bu]
 | p::r,h=>by
  rw[Bt,BS]at h
  have ih:=jA k u h.2
  obtain⟨k',t⟩:=p
  unfold stored at ih⊢
  rw[bu]
  by_cases e:k'=k
  ·subst e
   rw[if_pos (by simp),if_pos rfl,Bt,if_pos rfl,mU h.1]
  ·rw[if_neg e,←ih,Du]
   simp only[decide_eq_false e,DW,Bt,if_neg e,BV]
   split<;>rfl
theorem KV.put {k : κ}{y:V}{u:Value}(ry:RelV y u):∀{kvs:List (κ×V)} {vs:List (κ×Value)},KV kvs vs->KV (bu kvs k y) (bu vs k u)
 | _,_,.nil=>.cons ⟨rfl,ry⟩ .nil
 | (k1,y1)::_,(k2,u2)::_,.cons h t=>by
  have e:k1=k2:=h.1
  subst e
  rw[bu,bu]
  by_cases e:k1=k
  ·rw[if_pos e,if_pos e];exact .cons ⟨rfl,ry⟩ t
  ·rw[if_neg e,if_neg e];exact .cons h (KV.put ry t)
end
def vD:sy:=λo i v H Q=>∃a kvs k,o=.ref a/\i=kV k/\H a=some (.dK kvs)/\(bu kvs k v).length<=sizeLine/\Q (upd H a (.dK (bu kvs k v)))
theorem rR {X:Cx}:vT X vD:=by
 intro pins s Z H o i v ov iv u Q I ro ri rv h
 obtain⟨a,kvs,k,rfl,rfl,e,hl,q⟩:=h
 cases ro
 obtain⟨z,hd,vs,rel,dd⟩:=(show ObjOk X.prog X.w H s.heap a (.dK kvs)from I.hok a _ e)
 have hz:vs.length<=sizeLine:=by have:=Paired.length rel;omega
 refine wpAny_setItem_pairs (hsz:=hz) (pM ri) dd λh' dd' hs=>⟨_,?_,q⟩
 have he:∃q,h'.get? a=some q:=let ⟨q,_,_,hq,_⟩:=dd';⟨q,hq⟩
 exact I.write (x:=a) (e:=a) (t':=s.toks+1) (by rw[e];exact True.intro) (.inl rfl) (λb q hb z=>(hs.2 b hb).trans z) he (show ObjOk X.prog X.w _ h' a (.dK (bu kvs k v))from⟨hl,hd,_,KV.put rv rel,by rw[jA k u (let ⟨_,_,_,_,_,_,_,_,hn⟩:=dd;hn)]at dd';exact dd'⟩)
noncomputable def kPD:Key->PyData
 | .inl i=>.int i
 | .inr x=>.str x
mutual
noncomputable def I.pd:I->PyData
 | .non=>.none|.bl b=>.bool b|.int i=>.int i|.str x=>.str x|.tup is=>.tuple (I.pds is)|.ls is=>.list (I.pds is)|.fd ks is=>.dict ((ks.map kPD).zip (I.pds is))
noncomputable def I.pds:List I->List PyData
 | []=>[]
 | i::is=>i.pd::I.pds is
end
theorem I.pds_length:∀is:List I,(I.pds is).length=is.length
 | []=>rfl
 | i::is=>by rw[I.pds,BF,BF,I.pds_length is]
theorem kR {P:Program}{w:World}{h:Heap}:∀{es:List DictEntry} {vs:List (Key×Value)} {ys:List (Key×V)},Pairs (bH P w) es vs->KV ys vs →
  ReadsAll h (es.map (·.key)) ((ys.map (·.1)).map kPD) []/\Vals (ys.map (·.2)) (es.map (·.val))
 | _,_,_,.nil,.nil=>⟨.nil,.nil⟩
 | e::es,(k,v)::vs,(k',y)::ys,.cons hk hv t,.cons hr q=>by
  obtain⟨ih1,ih2⟩:=kR (h:=h) t q
  have e1:k'=k:=hr.1
  subst e1
  refine⟨?_,.cons (show RelV y e.val by rw[hv];exact hr.2) ih2⟩
  have:Reads h e.key (kPD k') []:=by
   rcases aO hk with⟨i,t,e1,e2⟩|⟨x,t,e1,e2⟩
   ·rw[e2];cases e1;exact .int i t
   ·rw[e2];cases e1;exact .str x t
  exact .cons (as:=[]) (bs:=[]) this ih1
mutual
noncomputable def I.nls:I->Bool
 | .ls _=>false|.tup is=>I.nlss is|.fd _ is=>I.nlss is|.non=>true|.bl _=>true|.int _=>true|.str _=>true
noncomputable def I.nlss:List I->Bool
 | []=>true
 | i::is=>i.nls&&I.nlss is
end
section
variable  {X:Cx}{pins:List (Addr×Obj)}{Z:St}{H:Hp}{s:Shared}
mutual
theorem m9 (J:Inv X pins Z H s):∀(i:I) {v:V} {u:Value},i.nls=true->RpI X.K H i v->RelV v u->∃as,Reads s.heap u i.pd as/\sysModules∉as
 | .non,_,_,_,r,q=>by rw[RpI]at r;subst r;cases q;exact⟨_,.none,by simp⟩
 | .bl b,_,_,_,r,q=>by rw[RpI]at r;subst r;cases q;exact⟨_,.bool b,by simp⟩
 | .int i,_,_,_,r,q=>by rw[RpI]at r;subst r;obtain⟨t,rfl⟩:=q;exact⟨_,.int i t,by simp⟩
 | .str x,_,_,_,r,q=>by rw[RpI]at r;subst r;obtain⟨t,rfl⟩:=q;exact⟨_,.str x t,by simp⟩
 | .tup is,_,_,hn,r,q=>by
  rw[RpI]at r
  obtain⟨a,xs,rfl,h1,h2⟩:=r
  cases q
  obtain⟨its,rv,⟨o,e,c,n,d⟩,_⟩:=J.tuple h1
  obtain⟨as,g1,g2⟩:=iI J is (by rw[I.nls]at hn;exact hn) h2 rv
  exact⟨as,.tuple e c d g1,g2⟩
 | .ls is,_,_,hn,_,_=>by cases hn
 | .fd ks is,_,_,hn,r,q=>by
  rw[RpI]at r
  obtain⟨a,o,ys,rfl,h1,h2,h3⟩:=r
  cases q
  obtain⟨z,hd,vs,rel,o',es,ep,e,c,d,_,pr,_⟩:=mI J.hok (.inr ⟨o,h1⟩)
  obtain⟨g1,rv⟩:=kR (h:=s.heap) pr rel
  obtain⟨bs,g2,g3⟩:=iI J is (by rw[I.nls]at hn;exact hn) h3 rv
  have hl:(ks.map kPD).length=(I.pds is).length:=by
   rw[Bw,I.pds_length,←h2,Bw];have:=h3.length;rw[Bw]at this;omega
  refine⟨a::[]++bs,.dict e c.1 d (as:=[]) (bs:=bs) ?_ ?_,?_⟩
  ·rw[List.map_fst_zip (by omega),←h2];exact g1
  ·rw[List.map_snd_zip (by omega)];exact g2
  ·simp only[BV,Cf,BT,not_or]
   exact⟨λz=>by rw[←z]at hd;simp at hd,g3⟩
theorem iI (J:Inv X pins Z H s):∀(is:List I) {vs:List V} {us:List Value},I.nlss is=true->RpIs X.K H is vs->Vals vs us->∃as,ReadsAll s.heap us (I.pds is) as/\sysModules∉as
 | [],_,_,_,r,q=>by rw[RpIs]at r;subst r;cases q;exact⟨[],.nil,by simp⟩
 | i::is,_,_,hn,r,q=>by
  rw[RpIs]at r
  obtain⟨x,xs,rfl,h1,h2⟩:=r
  cases q with
  | cons q1 q2=>
   obtain⟨as,g1,g2⟩:=m9 J i (C3.mp (by rw[I.nlss]at hn;exact hn)).1 h1 q1
   obtain⟨bs,g3,g4⟩:=iI J is (C3.mp (by rw[I.nlss]at hn;exact hn)).2 h2 q2
   exact⟨as++bs,.cons g1 g3,by simp only[Dg,not_or];exact⟨g2,g4⟩⟩
end
theorem nJ (hc:X.calm=true)(hu:X.A.units+64<cLine):CallR X (.builtin "repr") (λxs H Q=>∃(a:Addr) (i:I),xs=[.ref a]/\RpI X.K H i (.ref a)/\i.nls=true/\i.pd.showable=true/\i.pd.depth<=50/\i.pd.shown.length<=sizeLine/\Q (.str i.pd.shown) H):=by
 intro pins s Z H xs us Q J rv h
 obtain⟨a,i,rfl,hr,hn,hs,hd,hl,q⟩:=h
 obtain⟨u,rfl,ru⟩:=dN rv
 cases ru
 obtain⟨as,r,hm⟩:=m9 J i hn hr rfl
 exact repr_of_reads' r hs (λ_=>hm) (J.ok.gd hc) (by omega) (λ_ _ e=>e) (λh' u tk hk=>⟨.str _,H,J.kept hk,⟨u,rfl⟩,q⟩) hl
end
@[irreducible] noncomputable def oT:List T->Option T:=l1 λt=>match t with
 | .li is=>(ig is).map λns=>.im (.int ns.sum)
 | _=>none
@[irreducible] noncomputable def kP:List T->Option T:=l1 λt=>match t with
 | .di kvs=>some (.li (kvs.map (·.1)))
 | _=>none
noncomputable def gJ:List Key->List I->Key->Option I
 | k::ks,i::is,q=>if k=q then some i else gJ ks is q
 | _,_,_=>none
@[irreducible] noncomputable def nP (t u:T):Option T:=match t with
 | .im i=>(match i with
  | .fd ks is=>(match u with
   | .im k=>(match j3 k with
    | some q=>(gJ ks is q).map T.im
    | none=>none)
   | _=>none)
  | _=>none)
 | _=>none
noncomputable def gm (i:I):Bool:=i.nls&&(i.pd.showable&&(decide (i.pd.depth<=50)&&decide (i.pd.shown.length<=sizeLine)))
noncomputable def wq:I->Bool
 | .tup _=>true|.fd _ _=>true|_=>false
@[irreducible] noncomputable def jx:List T->Option T:=l1 λt=>match t with
 | .im i=>if(wq i&&gm i)=true then some (.im (.str i.pd.shown))else none
 | _=>none
@[irreducible] noncomputable def mDN:ME:=⟨λρ=>some (⟨.ow,.di []⟩,ρ),[]⟩
noncomputable def va (kvs:List (I×I)) (k v:I):Option T:=match j3 k with
 | some _=>if(bu kvs k v).length<=sizeLine then some (.di (bu kvs k v))else none
 | none=>none
noncomputable def mJ (s k v:T):Option T:=match s with
 | .di kvs=>(match k with
  | .im ki=>(match v with
   | .im vi=>va kvs ki vi
   | _=>none)
  | _=>none)
 | _=>none
@[irreducible] noncomputable def jn (j:Nat)(o i:ME):MG:=⟨λr ρ=>match r with
 | ⟨.ow,tv⟩=>match o.run ρ with
  | some (⟨.vw (some j') (some p),s⟩,ρ1)=>match i.run ρ1 with
   | some (ri,ρ2)=>if(decide (j'=j) && !i.mu.contains j)=true then(match mJ s ri.t tv with
    | some s'=>(match ρ2[j]? with
     | some (some ⟨k,t⟩)=>if k.isOw=true then some ((ao [j] ρ2).set j (some ⟨k,t.put p s'⟩))else none
     | _=>none)
    | none=>none)else none
   | none=>none
  | _=>none
 | _=>none,(o.mu++i.mu)++[j]⟩
noncomputable def fM:List (I×I)->Option (List Key)
 | []=>some []
 | p::r=>match j3 p.1 with
  | some q=>(fM r).map (q :: ·)
  | none=>none
noncomputable def pB (r:R):Option I:=match r.k with
 | .ow=>(match r.t with
  | .di kvs=>(fM kvs).map λks=>.fd ks (kvs.map (·.2))
  | _=>none)
 | _=>none
@[irreducible] noncomputable def jo (a:ME):ME:=⟨λρ=>match a.run ρ with
 | some (r,ρ1)=>(match pB r with
  | some i=>some (⟨.ow,.im i⟩,ρ1)
  | none=>none)
 | none=>none,a.mu⟩
section
variable  {K:yF}{H:Hp}
def Aq (K:yF):List V->Hp->VK->Prop:=λxs H Q=>∃(a:Addr) (ns:List Int),xs=[.ref a]/\SqL K H a (ns.map V.int)/\Q (.int ns.sum) H
theorem qM:cO K (Aq K) oT:=by
 intro H vs ts t Q r e q
 unfold oT at e
 have e0:=ci e
 clear e
 obtain⟨x,rfl,e⟩:=e0
 obtain⟨v,rfl,r1⟩:=gS r
 split at e
 ·obtain⟨ns,e1,rfl⟩:=B8.mp e
  obtain⟨p,xs,rfl,h1,h2⟩:=bA r1
  have:=kM e1 h2
  subst this
  exact⟨p,ns,rfl,aM h1,q _ H (.sc rfl)⟩
 ·cases e
theorem b_sum:i8 "sum" oT:=⟨_,Aq,EC,λ_ h=>pb h,λ_=>qM⟩
theorem sU (q:Key):RpI K H (cD q) (kV q):=by cases q<;>(rw[cD,RpI];rfl)
theorem kQ:∀(zs:List (Key×V)),RpIs K H (zs.map λp=>cD p.1) (zs.map λp=>kV p.1)
 | []=>by rw[CL,CL,RpIs]
 | z::zs=>by rw[Bt,Bt,RpIs];exact⟨_,_,rfl,sU z.1,kQ zs⟩
def vy:yF->List V->Hp->VK->Prop:=λ_ xs H Q=>∃a kvs,xs=[.ref a]/\Rd H a (.dK kvs)/\∀l,H l=none->Q (.ref l) (upd H l (.lst (kvs.map λp=>kV p.1)))
theorem oz:cO K (vy K) kP:=by
 intro H vs ts t Q r e q
 unfold kP at e
 have e0:=ci e
 clear e
 obtain⟨x,rfl,e⟩:=e0
 obtain⟨v,rfl,r1⟩:=gS r
 split at e
 ·rename_i kvs
  cases e
  obtain⟨F,r1⟩:=r1
  rw[Rp]at r1
  obtain⟨a,ys,rfl,⟨zs,hz,rfl⟩,h1,h2,_⟩:=r1
  refine⟨a,zs,rfl,.inl hz,λl hl=>q _ _ (.li hl ?_)⟩
  rw[←h2,BR]
  exact kQ zs
 ·cases e
theorem sB:nC "list" kP:=⟨_,vy,DK,λ_ h=>lE h,λ_=>oz⟩
theorem kL {q:Key}{v:I}:∀{ks:List Key} {is:List I} {ys:List (Key×V)},gJ ks is q=some v->ys.map (·.1)=ks->RpIs K H is (ys.map (·.2))->∃w,i7 ys q=some w/\RpI K H v w
 | [],_,_,e,_,_=>by cases e
 | k::ks,[],_,e,_,_=>by cases e
 | k::ks,i::is,ys,e,h1,h2=>by
  cases ys with
  | nil=>cases h1
  | cons z zs=>
   rw[Bt,Cu.injEq]at h1
   rw[Bt,RpIs]at h2
   obtain⟨x,xs,e1,g1,g2⟩:=h2
   rw[Cu.injEq]at e1
   obtain⟨rfl,rfl⟩:=e1
   rw[gJ]at e
   split at e
   ·rename_i hk
    cases e
    exact⟨z.2,iQ (h1.1.trans hk),g1⟩
   ·rename_i hk
    obtain⟨w,g3,g4⟩:=kL e h1.2 g2
    exact⟨w,by rw[iP λe=>hk (by rw[←h1.1,e])];exact g3,g4⟩
theorem qB:cC K dgR nP:=by
 intro H x y tx ty t Q r1 r2 e q
 unfold nP at e
 split at e
 ·split at e
  ·split at e
   ·split at e
    ·rename_i q0 e1
     obtain⟨v,e2,rfl⟩:=B8.mp e
     have r1:=bW r1
     rw[RpI]at r1
     obtain⟨a,o,ys,rfl,h1,h2,h3⟩:=r1
     rw[gU e1 (bW r2)]
     obtain⟨w,g1,g2⟩:=kL e2 h2 h3
     exact⟨a,w,rfl,⟨ys,q0,.inr ⟨o,h1⟩,rfl,g1.symm⟩,q _ _ (.im g2)⟩
    ·cases e
   ·cases e
  ·cases e
 ·cases e
def vC (K:yF):List V->Hp->VK->Prop:=λxs H Q=>∃(a:Addr) (i:I),xs=[.ref a]/\RpI K H i (.ref a)/\i.nls=true/\i.pd.showable=true/\i.pd.depth<=50/\i.pd.shown.length<=sizeLine/\Q (.str i.pd.shown) H
theorem oA:cO K (vC K) jx:=by
 intro H vs ts t Q r e q
 unfold jx at e
 have e0:=ci e
 clear e
 obtain⟨x,rfl,e⟩:=e0
 obtain⟨v,rfl,r1⟩:=gS r
 split at e
 ·rename_i i
  split at e
  ·rename_i hc
   cases e
   unfold gm at hc
   simp only[By,decide_eq_true_eq]at hc
   obtain⟨h0,h1,h2,h3,h4⟩:=hc
   have r1:=bW r1
   have:∃a,v=.ref a:=by
    cases i<;>first|(cases h0;done)|(rw[RpI]at r1;obtain⟨a,xs,rfl,_⟩:=r1;exact⟨a,rfl⟩)|(rw[RpI]at r1;obtain⟨a,o,ys,rfl,_⟩:=r1;exact⟨a,rfl⟩)
   obtain⟨a,rfl⟩:=this
   exact⟨a,i,rfl,r1,h1,h2,h3,h4,q _ H (.sc rfl)⟩
  ·cases e
 ·cases e
theorem yk:aU K vK mDN:=by with_unfolding_all
 intro Γ H ρ Z E Q r ρ' hK hr S q
 simp only[mDN]at hr q
 cases hr
 refine λp hp=>q _ _ ?_
 rw[bn]
 exact(S.fresh (.di (ps:=[]) (kvs:=[]) hp rfl (by rw[CL,CL,RpIs])))
theorem mY {q:Key}{vi:I}{w:V}(hv:RpI K H vi w):∀{kvs:List (I×I)} {zs:List (Key×V)},zs.map (λz=>cD z.1)=kvs.map (·.1)->RpIs K H (kvs.map (·.2)) (zs.map (·.2)) →
  (bu zs q w).map (λz=>cD z.1)=(bu kvs (cD q) vi).map (·.1)/\RpIs K H ((bu kvs (cD q) vi).map (·.2)) ((bu zs q w).map (·.2))
 | [],zs,h1,h2=>by
  have:zs=[]:=by cases zs with|nil=>rfl|cons _ _=>cases h1
  subst this
  exact⟨rfl,by show RpIs K H [vi] [w];rw[RpIs];exact⟨w,[],rfl,hv,by rw[RpIs]⟩⟩
 | p::r,zs,h1,h2=>by
  cases zs with
  | nil=>cases h1
  | cons z zs=>
   rw[Bt,Bt,Cu.injEq]at h1
   rw[Bt,Bt,RpIs]at h2
   obtain⟨x,xs,e1,g1,g2⟩:=h2
   rw[Cu.injEq]at e1
   obtain⟨rfl,rfl⟩:=e1
   rw[bu,bu]
   by_cases e:z.1=q
   ·rw[if_pos e,if_pos (by rw[←h1.1,e])]
    refine⟨by rw[Bt,Bt,h1.1,h1.2],?_⟩
    rw[Bt,Bt,RpIs]
    exact⟨w,_,rfl,hv,g2⟩
   ·rw[if_neg e,if_neg (λz=>e (ip (h1.1.trans z)))]
    obtain⟨g3,g4⟩:=mY hv h1.2 g2
    refine⟨by rw[Bt,Bt,h1.1,g3],?_⟩
    rw[Bt,Bt,RpIs]
    exact⟨z.2,_,rfl,g1,g4⟩
theorem rq {to ti:TE}{o i:ME}{j:Nat}(ho:aU K to o)(hi:aU K ti i):g9 K (wl to ti vD) (jn j o i):=by with_unfolding_all
 intro Γ H ρ Z E Q v r ρ' hK hr S q
 simp only[jn]at hr q
 split at hr
 ·rename_i tv
  split at hr
  ·rename_i j' p s ρ1 e1
   split at hr
   ·rename_i ri ρ2 e2
    split at hr
    ·rename_i hc
     rw[By,decide_eq_true_eq,B7]at hc
     obtain⟨rfl,hmv⟩:=hc
     split at hr
     ·rename_i s' e3
      split at hr
      ·rename_i k t e4
       split at hr
       ·rename_i hw
        cases hr
        refine ho Γ H ρ Z _ _ _ _ hK e1 S λx H1 S1=>?_
        refine hi Γ H1 ρ1 Z _ _ _ _ hK e2 S1 λy H2 S2=>?_
        have k1:az i.mu ⟨none,x,⟨.vw (some j') (some p),s⟩⟩=true:=by unfold az;simp only[Kd.root];rw[hmv];rfl
        have k2:∀M:List Nat,az M ⟨none,v,⟨.ow,tv⟩⟩=true:=λM=>rfl
        rw[ay k1,af,ay (k2 _)]at S2
        have ry:=S2.rd ymS
        have S3:=S2.drop rfl
        obtain⟨G,F,h1,h2,h3,h4,h5⟩:=Sim.mut (vs:=[v]) (ts:=[tv]) (S3.perm (List.Perm.swap _ _ _)) rfl e4 hw
        generalize hri:ri.t=tri at e3
        unfold mJ at e3
        split at e3
        ·split at e3
         ·split at e3
          ·rename_i kvs _ ki _ vi
           unfold va at e3
           split at e3
           ·rename_i q0 e5
            split at e3
            ·rename_i hz
             cases e3
             rw[Rp]at h1
             obtain⟨a,ys,rfl,⟨zs,hzs,rfl⟩,g1,g2,rfl⟩:=h1
             rw[BR]at g1 g2
             obtain⟨z,ez,g3⟩:=rN h2
             cases ez
             obtain⟨g4,rfl⟩:=aZ g3
             have ry':∃F,Rp Γ.K H2 ri.t y F:=ry
             have ey:y=kV q0:=by rw[hri]at ry';exact gU e5 (bW ry')
             subst ey
             rw[eP e5]at hz
             obtain⟨g5,g6⟩:=mY (q:=q0) g4 g2 g1
             have hlen:(bu zs q0 v).length=(bu kvs (cD q0) vi).length:=by have:=congrArg CJ g5;simpa using this
             refine⟨a,zs,q0,rfl,rfl,hzs,by rw[hlen];exact hz,q Z _ ?_⟩
             have hM:∀b∈[a],Mu H2 b:=λb hb=>by rw[ysM hb];exact⟨_,hzs,rfl⟩
             have:=h5 (upd H2 a (.dK (bu zs q0 v))) (.di (bu kvs ki vi)) [a] OffM.upd (λb hb=>by rw[ysM hb];exact⟨_,ar⟩) (by simp) (λb hb=>by rw[ysM hb];exact⟨.inl (by simp),_,ar,rfl⟩) (by
              rw[Rp]
              refine⟨a,(bu zs q0 v).map (λp=>(cD p.1,p.2)),rfl,⟨_,ar,rfl⟩,?_,?_,rfl⟩
              ·rw[BR,eP e5];exact g6.off OffM.upd hM
              ·rw[BR,eP e5];exact g5)
             rw[af]at this
             exact this
            ·cases e3
           ·cases e3
          ·cases e3
         ·cases e3
        ·cases e3
       ·cases hr
      ·cases hr
     ·cases hr
    ·cases hr
   ·cases hr
  ·cases hr
 ·cases hr
theorem kO:∀{kvs:List (I×I)} {ks:List Key} {zs:List (Key×V)},fM kvs=some ks->zs.map (λz=>cD z.1)=kvs.map (·.1)->zs.map (·.1)=ks
 | [],_,zs,e,h=>by cases e;cases zs with|nil=>rfl|cons _ _=>cases h
 | p::r,ks,zs,e,h=>by
  cases zs with
  | nil=>cases h
  | cons z zs=>
   rw[Bt,Bt,Cu.injEq]at h
   rw[fM]at e
   split at e
   ·rename_i q e1
    obtain⟨ks',e2,rfl⟩:=B8.mp e
    rw[Bt,kO e2 h.2,ip (h.1.trans (eP e1))]
   ·cases e
def vM (t:TE):TE:=λZ H Q=>t Z H λv H1=>∃a ys,v=.ref a/\H1 a=some (.dK ys)/\∀o,Q v (upd H1 a (.frz o (.dK ys)))
theorem tM {X:Cx}{e:Expr}{t:TE}(h:PE X e t):PE X e (vM t):=by
 intro pins s Z H Q I q
 refine thn (h pins s Z H _ I q) λu s1 ⟨v,H1,I1,rv,a,ys,ev,hl,q1⟩=>?_
 have ob:∃o,s1.heap.get? a=some o:=by
  obtain⟨_,_,_,_,o,_,_,e,_⟩:=(show ObjOk X.prog X.w H1 s1.heap a (.dK ys)from I1.hok a _ hl)
  exact⟨o,e⟩
 obtain⟨o,e⟩:=ob
 obtain⟨z1,z2,z3⟩:=(show ObjOk X.prog X.w H1 s1.heap a (.dK ys)from I1.hok a _ hl)
 exact⟨v,_,I1.write (t':=s1.toks) (h':=s1.heap) (by rw[hl];exact True.intro) (.inl rfl) (λb u _ q=>q) ⟨_,e⟩ (show ObjOk X.prog X.w _ s1.heap a (.frz o (.dK ys))from⟨e,z1,z2,z3⟩),rv,q1 o⟩
theorem pC {r:R}{i:I}(h:pB r=some i):∃kvs ks,r=⟨.ow,.di kvs⟩/\fM kvs=some ks/\i=.fd ks (kvs.map (·.2)):=by
 obtain⟨k,t⟩:=r
 unfold pB at h
 dsimp only at h
 split at h
 ·split at h
  ·obtain⟨ks,e,rfl⟩:=B8.mp h
   exact⟨_,ks,rfl,e,rfl⟩
  ·cases h
 ·cases h
theorem rA {ta:TE}{a:ME}(ha:aU K ta a):aU K (vM ta) (jo a):=by with_unfolding_all
 intro Γ H ρ Z E Q r ρ' hK hr S q
 simp only[jo]at hr
 split at hr
 ·rename_i ra ρ1 e1
  split at hr
  ·rename_i i e2
   cases hr
   obtain⟨kvs,ks,rfl,e4,rfl⟩:=pC e2
   refine ha Γ H ρ Z E _ _ _ hK e1 S λx H1 S1=>?_
   obtain⟨F,r0,nd,mu,k⟩:=Sim.use (vs:=[x]) (ts:=[.di kvs]) S1 rfl
   rw[Rps]at r0
   obtain⟨y,r,F1,F2,e3,h1,h2,rfl⟩:=r0
   cases e3
   rw[Rps]at h2
   obtain⟨_,rfl⟩:=h2
   rw[Rp]at h1
   obtain⟨b,ys,rfl,⟨zs,hz,rfl⟩,g1,g2,rfl⟩:=h1
   rw[BR]at g1 g2
   refine⟨b,zs,rfl,hz,λo=>q _ _ (k _ _ _ [] ?_ ?_ CD (by simp) (ff ?_))⟩
   ·exact OffM.upd.mono (by simp)
   ·intro c hc
    have:c=b:=by simpa using hc
    subst this
    exact⟨_,ar⟩
   ·rw[RpI]
    refine⟨b,o,zs,rfl,ar,kO e4 g2,?_⟩
    exact RpIs.off (M:=[b]) OffM.upd (λc hc=>by rw[ysM hc];exact mu _ (by simp)) g1
  ·cases hr
 ·cases hr
end
section
variable  {ι : Type}{C:ι->Cx}{P:Program}{W:World}{K:yF}{mg:Str->Option Value}{base:Heap}{k:Nat}{a b e o:Expr}{es:List Expr}{ma mb mo mi m:ME}{ms:MA}{pos:Pos}
theorem xJ (ck:CK C P W K mg base k)(ha:QE C K a ma)(hb:QE C K b mb)(hs:sw b:=by intro _ _;rfl):QE C K (.Subscript a b pos) (mOp nP ma mb):=by
 obtain⟨ta,p,r⟩:=ha
 obtain⟨tb,p',r'⟩:=hb
 exact⟨_,λi=>mW (vd (ck.room i)) (p i) (p' i) hs,iK (red:=dgR) qB r r'⟩
theorem Be:QE C K (.Dict [] [] pos) mDN:=⟨_,λ_=>tL,yk⟩
theorem xK (h:QE C K e m):QE C K e (jo m):=by
 obtain⟨t,p,r⟩:=h
 exact⟨_,λi=>tM (p i),rA r⟩
theorem xM {p:Pos}(ck:CK C P W K mg base k)(hm:mg "repr" = none)(ha:QA C K (e::es) ms)(hg:∀i,Gl (C i) "repr" :=by intro _;rfl):QE C K (.Call (.Name "repr" p) (e::es) [] pos) (mB jx ms):=by
 obtain⟨ta,q,n,r⟩:=ha
 exact⟨_,λi=>gq (r:=vC K) (by have:=nJ (X:=C i) (ck.calm i) (ck.room i).units;rw[ck.kk i]at this;exact this) (hg i) (by rw[ck.mg i];exact hm) Ex (q i) n (by decide) (by decide),nc oA r⟩
theorem ua (j:Nat)(ho:QE C K o mo)(hi:QE C K e mi)
  (ha:∀i v,assign (.Subscript o e pos) (C i).env v=(do
   let ov ←holding [v] (eval o (C i).env)
   let iv ←holding [v,ov] (eval e (C i).env)
   standAt pos
   holding [v,ov,iv] (setItem ov iv v)
   release [v,ov,iv] []):=by intro _ _;rfl):QG C K none (.Subscript o e pos) (jn j mo mi):=by
 obtain⟨to,p,r⟩:=ho
 obtain⟨ti,p',r'⟩:=hi
 exact⟨_,λi=>qv (p i) (p' i) rR (ha i),rq r r',λf h=>by cases h⟩
end
end L2
namespace L2
open PySem
noncomputable section
noncomputable def eX:MS:=(bq (mB oT (aa (aQ [none,none,none,none] (lM (ac 0 (ac 1 mNil))) (cr (aL (ag 2) (aL (ag 3) mGNil))) mYes (mOp cy (ah 2) (ah 3))) mNil)))
noncomputable def gA (ts:List T):Option T:=if ts.length=2 then fY eX 2 ts else none
noncomputable def cQ:MS:=(aq (aE (ah 1) (cr (aL (ag 2) (aL (ag 3) mGNil))))
  (aq (aE (mOp nP (ah 0) (ah 2)) (cr (aL (ag 4) (aL (ag 5) mGNil))))
  (bq (mB gE (aa (mOp aW (aV [4] (ac 4 mNil)) (aQ [none,none,none,some 3,none,none,none,none] (mIt (ah 5)) (cr (aL (ag 6) (aL (ag 7) mGNil))) mYes (mOp aW (mB gA (ac 6 (ac 3 mNil))) (ah 7)))) mNil)))))
noncomputable def eB (ts:List T):Option T:=if ts.length=2 then fY cQ 6 ts else none
noncomputable def eW:MS:=(bq (iw (mUn (j2 ["int"]) (ah 0)) (jp (mUn (j2 ["bool"]) (ah 0)))))
noncomputable def gz (ts:List T):Option T:=if ts.length=1 then fY eW 1 ts else none
noncomputable def fS:MS:=(aq (aE (mOp nP (ah 0) (mIx (ah 1) (mC (.int 0)))) (cr (aL (ag 2) (aL (ag 3) mGNil))))
  (bq (mOp aW (aV [2] (ac 2 mNil)) (aQ [none,some 1,none,none,none,none] (mIt (ah 3)) (cr (aL (ag 4) (aL (ag 5) mGNil))) mYes (mOp aW (ah 5) (mB oT (aa (aQ [none,some 1,none,none,some 4,none,none] (aP (aa (mB cj (ac 4 mNil)) mNil)) (ag 6) mYes (mOp cy (mIx (ah 4) (ah 6)) (mIx (mIx (ah 1) (mC (.int 1))) (ah 6)))) mNil)))))))
noncomputable def iH (ts:List T):Option T:=if ts.length=2 then fY fS 4 ts else none
noncomputable def eR:MS:=(bq (mIx (aV [] (aa (mOp bT (aj 0 0 ai (ac 0 (aa (mC (.int 9)) mNil))) (mC (.int 4))) (aa (mOp bT (aj 0 0 ai (ac 0 (aa (mC (.int 2000000001)) mNil))) (mC (.int 1000000000))) mNil))) (mOp fH (aj 0 0 ai (ac 0 (aa (mC (.int 4)) mNil))) (mC (.int 3)))))
noncomputable def dm (ts:List T):Option (T×T):=if ts.length=1 then cY eR 0 1 ts else none
noncomputable def ca:MS:=(aq (aE (mB kP (ac 1 mNil)) (ag 2))
  (aq (aE (aj 0 0 ai (ac 0 (aa (mB cj (ac 2 mNil)) mNil))) (ag 3))
  (bq (jo (mB kG (aa (aQ [none,some 1,none,none,none] (mIt (mOp aW (mSl (ah 2) (dL (ah 3)) mNoPart) (mSl (ah 2) mNoPart (dL (ah 3))))) (ag 4) mYes (av [4] (ac 4 (aa (mOp dgT (ah 1) (ah 4)) mNil)))) mNil))))))
noncomputable def cX (ts:List T):Option (T×T):=if ts.length=2 then cY ca 0 4 ts else none
noncomputable def eQ:MS:=(aq (gK 2 3 (aa (aj 0 0 ai (ac 0 (aa (mC (.int 7)) mNil))) (aa mDN mNil)))
  (aq (bX (mIt (mIx (ah 1) (mC (.int 2)))) (cr (aL (ag 4) (aL (ag 5) mGNil)))
  (cf [4,5,6,7,8] (aq (gK 6 7 (aa (aj 0 0 dm (ac 0 mNil)) (aa (aV [] mNil) mNil)))
  (aq (bX (aP (ac 2 mNil)) (ag 8)
  (cf [8] (bp (cM 7 [] apT (ah 7) (aa (av [] (aa (mB gE (aa (aQ [some 0,none,none,none,none,none,none,none,none,none] (aP (aa (mIx (ah 1) (mC (.int 0))) mNil)) (ag 9) mYes (aj 0 0 dm (ac 0 mNil))) mNil)) (aa (aj 0 0 dm (ac 0 mNil)) mNil))) mNil)))))
  (aE (av [6] (ac 6 (aa (mB gE (ac 7 mNil)) mNil))) (jn 3 (ah 3) (ah 4)))))))
  (bq (aj 0 0 cX (ac 0 (ac 3 mNil))))))
noncomputable def gr (ts:List T):Option (T×T):=if ts.length=2 then cY eQ 0 9 ts else none
noncomputable def dy:MS:=(aq (aE (aV [] mNil) (ag 1))
  (aq (bX (aP (aa (mB kT (aa (mC (.int 3)) (aa (mB cj (aa (mSl (ah 0) mNoPart (dL (mC (.int 8)))) mNil)) mNil))) mNil)) (ag 2)
  (cf [2,3,4,5,6,7] (aq (aE (mB iG (ac 0 (ac 2 mNil))) (ag 3))
  (aq (aE (aj 0 3 gv (ac 3 mNil)) (ag 4))
  (aq (aE (aj 0 3 gr (ac 3 (ac 4 mNil))) (ag 5))
  (bX (aP (aa (mC (.int 3)) mNil)) (ag 6)
  (cf [6,7] (aq (aE (mIx (mIx (mIx (ah 4) (mC (.int 2))) (aj 0 3 ai (ac 3 (aa (mB cj (aa (mIx (ah 4) (mC (.int 2))) mNil)) mNil)))) (mC (.int 0))) (ag 7))
  (bp (cM 1 [] apT (ah 1) (aa (av [5] (ac 5 (aa (av [7] (ac 7 (aa (mB gE (aa (aQ [none,none,none,some 3,none,none,none,none,none,none,none,none] (aP (aa (mIx (ah 4) (mC (.int 0))) mNil)) (ag 11) mYes (mOp bT (aj 0 3 ai (ac 3 (aa (mC (.int 2001)) mNil))) (mC (.int 1000)))) mNil)) mNil))) mNil))) mNil)))))))))))
  (aq (bX (mIt (mOp aW (ah 1) (mSl (ah 1) mNoPart (dL (mC (.int 3)))))) (cr (aL (ag 5) (aL (ag 8) mGNil)))
  (cf [5,8,9,10] (aq (aE (mB jx (ac 5 mNil)) (ag 9))
  (aq (aE (mB eB (ac 5 (ac 8 mNil))) (ag 10))
  (aq (mIf (mOr (lK (ba (mUn (j2 ["tuple"]) (ah 10)))) (mOr (ba (mOp neT (mB lJ (ac 10 mNil)) (mB iH (ac 5 (ac 8 mNil))))) (ba (mOp neT (mB jx (ac 5 mNil)) (ah 9))))) (bq (mC (.bl false))) mNext)
  (mIf (lK (ba (mB nD (aa (aQ [none,none,none,none,none,none,none,none,none,none,none,none] (mIt (ah 10)) (ag 11) mYes (mB gz (ac 11 mNil))) mNil)))) (bq (mC (.bl false))) mNext))))))
  (bq (mC (.bl true))))))
noncomputable def r_l_law_v4 (ts:List T):Option T:=if ts.length=1 then fY dy 11 ts else none
end
end L2
namespace K25
open PySem PySem.Spec PyProof.Rows L2
noncomputable def top (i:Nat):Stmt:=PySem.Challenge.pw_clockhouse_k25_times_of_cells.main.body.getD i (.Pass ⟨0,0,0,0⟩)
noncomputable abbrev kq:Stmt:=top 1
noncomputable abbrev gC:Stmt:=top 3
noncomputable abbrev eC:Stmt:=top 5
noncomputable abbrev eD:Stmt:=top 6
noncomputable abbrev dH:Stmt:=top 7
noncomputable abbrev fB:Stmt:=top 8
noncomputable abbrev cm:Stmt:=top 9
noncomputable abbrev bP:Stmt:=top 10
noncomputable abbrev bQ:Stmt:=top 11
noncomputable abbrev bS:Stmt:=top 12
noncomputable abbrev bh:Stmt:=top 13
noncomputable abbrev bR:Stmt:=top 14
noncomputable abbrev dI:Stmt:=top 15
noncomputable abbrev dE:Stmt:=top 16
noncomputable abbrev dF:Stmt:=top 17
noncomputable abbrev dJ:Stmt:=top 20
noncomputable abbrev eG:Stmt:=top 21
noncomputable abbrev dD:Stmt:=top 22
noncomputable abbrev bZ:Stmt:=top 23
noncomputable abbrev dB:Stmt:=top 24
noncomputable abbrev s_law:Stmt:=top 25
structure GT (K:yF)(mg:Str->Option Value):Prop where
 triv:True
end K25
namespace L2
open PySem PySem.Spec PyProof.Rows
local macro_rules|`(tactic| ac_nf)=>`(tactic| try simp only[wv,zg,zf,sS,zh,List.set_cons_zero,D0,t7,uk,yh,yj,yi,ul,pA,nQ])
local macro_rules|`(tactic| infer_instance)=>`(tactic| first
 | refine mO ?_|refine sI ?_|(refine sF ?_;try ac_nf)|refine we ?_|refine y6 rfl ?_|refine y9 ?_
 | refine vR ?_|refine AJ ?_|refine AO ?_|refine l8 ?_|refine yI ?_|refine AK ?_|refine AN ?_
 | refine w_C ?_|refine lr rfl ?_|refine Bp ?_|refine Br ?_|refine w_B ?_|refine w_M ?_|refine yG ?_|refine Bq ?_|refine yH ?_|refine yK ?_|refine yB ?_|refine yJ ?_|refine uQ ?_|refine sf ?_
 | refine u5 ?_|refine u6 ?_
 | refine yL ?_|refine uU ?_|refine sj rfl ?_
 | refine u7 ?_|refine yU ?_|refine yT ?_|refine AQ ?_|refine iT ?_
 | (refine uX (by with_unfolding_all rfl) ?_;try ac_nf)|refine yQ rfl ?_|refine sn (by with_unfolding_all rfl) ?_|refine uY ?_|refine yP ?_|refine sk ?_
 | refine gu (by with_unfolding_all rfl) ?_
 | refine wU ?_|refine zC ?_|refine zr ?_|refine zu ?_|refine zA ?_|refine xc ?_|refine xa ?_|refine tF ?_|refine zz ?_|refine zy ?_|refine wY ?_|refine xk ?_|refine xf ?_|refine xg ?_|refine zB ?_|refine xi ?_|refine xj rfl ?_
 | refine vk rfl ?_|refine vm rfl ?_|refine qj (n:=0) rfl (DR rfl) ?_|refine qj (n:=1) rfl (DR rfl) ?_
 | refine k7 (Bb (by decide) (by decide)) ?_|refine k7 (tf (by decide) (by decide)) ?_|refine qd (by omega) ?_|refine wX (by omega) ?_
 | refine l9 (by rfl) ?_|refine lH ?_|refine mz ?_
 | refine p9 (b:=true) rfl (by decide) ?_|refine p9 (b:=false) rfl (by decide) ?_
 | refine A7 ?_|refine A8 ?_|refine AW rfl ?_|refine AU rfl (by with_unfolding_all rfl) rfl rfl ?_|refine vW rfl rfl ?_|refine AV ?_|refine yx ?_|refine sP rfl ?_|refine sQ rfl ?_)
local macro_rules|`(tactic| omega)=>`(tactic| decide)
local macro_rules|`(tactic| lia)=>`(tactic| repeat infer_instance)
local macro_rules|`(tactic| cbv)=>`(tactic| with_unfolding_all rfl)
local macro_rules|`(tactic| clear_value $h:ident)=>`(tactic| first|refine dsp (fun $h=>?_) (fun $h=>?_)|refine dspN (fun $h=>?_) (fun $h=>?_)|refine bsp (fun $h=>?_) (fun $h=>?_))
theorem aY {ns:List Int}{kd:Kd}{a:Int}{QR:R->Prop}(h0:0<=a)(h1:a<ns.length)(q:∀y,y∈ns->ns[a.toNat]?=some y->QR ⟨.ow,.im (.int y)⟩):W1 (ixR ⟨kd,.li (ns.map .int)⟩ (.im (.int a))) QR:=by
 refine qa h0 (by simpa using h1) λx hx=>?_
 rw[BD]at hx
 cases e:ns[a.toNat]? with
 | none=>rw[e]at hx;cases hx
 | some y=>rw[e]at hx;cases hx;exact q y (ymG e) e
theorem gp {ns:List Int}{kd:Kd}{a:Int}{QR:R->Prop}(h0:0<=a)(h1:a<ns.length)(q:∀y,y∈ns->ns[a.toNat]?=some y->QR ⟨.ow,.im (.int y)⟩):W1 (ixR ⟨kd,.im (.tup (ns.map .int))⟩ (.im (.int a))) QR:=by
 refine qc h0 (by simpa using h1) λx hx=>?_
 rw[BD]at hx
 cases e:ns[a.toNat]? with
 | none=>rw[e]at hx;cases hx
 | some y=>rw[e]at hx;cases hx;exact q y (ymG e) e
theorem aJ {α:Type}{P : α->Prop}{l:List α}{y : α}(h:∀x∈l,P x)(hy:P y):∀x∈l++[y],P x:=λx hx=>(yaM hx).elim (h x) λz=>by rw[ysM z];exact hy
noncomputable def fT (f:Int×Int):T:=.li [.int f.1,.int f.2]
theorem am {f:Int×Int}{n:Int}(h1:0<n)(h2:n<2^64){Q:T->T->Prop}(q:∀d f',0<=d->d<n->Q (.im (.int d)) (fT f')):W2 (ai [fT f,.im (.int n)]) Q:=by
 refine e8 rfl rfl ?_
 unfold fR
 lia
 (refine cN ?_;lia;clear_value h)
 ·lia
  exact q _ (f.1 / n,f.2) (CI _ (by omega)) (Cr _ h1)
 ·lia
  exact q _ (f.1,(f.2*48271 % 2147483647*40692+30103) % 2147483399+1) (CI _ (by omega)) (Cr _ h1)
noncomputable def l0 (is:List Int):T:=.im (.tup (is.map .int))
theorem rM {f:Int×Int}{n:Int}(h1:1<=n)(h2:n<=3){Q:T->T->Prop}(q:∀is f',is.length=n.toNat->(∀x∈is,-2<=x/\x<=2)->Q (l0 is) (fT f')):W2 (gY [fT f,.im (.int n)]) Q:=by
 refine e8 rfl rfl ?_
 unfold gW
 lia
 refine cN ?_
 lia
 refine am (by omega) (by omega) λd f hd0 hd1=>?_
 ac_nf
 lia
 clear_value h
 ·lia
  refine qg (is:=[.int 0]) ⟨by simp,by decide,by omega,by omega⟩ ?_
  lia
  have:(Bu n.toNat [I.int 0]).flatten=(Bu n.toNat (0:Int)).map .int:=by simp
  rw[this]
  exact q _ f (by simp) (by intro x hx;rw[(CU.mp hx).2];decide)
 ·lia
  refine bU (λf:Int×Int=>[some ⟨.io 0,fT f⟩,some ⟨.ow,.im (.int n)⟩]) I.int (λj _ is=>is.length=j/\∀x∈is,-2<=x/\x<=2) ?_
  lia
  refine⟨⟨by omega,by omega⟩,by cbv,f,by cbv,⟨rfl,by simp⟩,λj f is hj ⟨hl,hx⟩=>?_,λf is ⟨hl,hx⟩=>?_⟩
  ·lia
   refine am (by omega) (by omega) λd f hd0 hd1=>?_
   ac_nf
   lia
   refine aY (ns:=[0,1,0-1,2,0-2]) hd0 hd1 λy hy _=>⟨y,f,rfl,by cbv,by simp[hl],aJ hx (by simp at hy;omega)⟩
  ·lia
   exact q is f hl hx
theorem sC {f:Int×Int}{n:Int}(h1:1<=n)(h2:n<=3){Q:T->T->Prop}(q:∀is f',is.length=n.toNat->(∀x∈is,-2<=x/\x<=2)->(∃(k:Nat) (y:Int) (m:List Int),is=Bu k 0++y::m/\y<0)->Q (l0 is) (fT f')):W2 (cA [fT f,.im (.int n)]) Q:=by
 refine e8 rfl rfl ?_
 unfold cx
 lia
 refine am (by omega) (by omega) λd f hd0 hd1=>?_
 ac_nf
 lia
 refine oY (λf:Int×Int=>[some ⟨.io 0,fT f⟩,some ⟨.ow,.im (.int n)⟩,some ⟨.ow,.im (.int d)⟩,none]) I.int (λj _ is=>is.length=j/\∀x∈is,-2<=x/\x<=2) ?_
 lia
 refine⟨⟨by omega,by omega,by omega,by omega,by omega⟩,by cbv,f,by cbv,⟨rfl,by simp⟩,λj f is hj ⟨hl,hx⟩=>?_,λf is ⟨hl,hx⟩=>?_⟩
 ·lia
  refine am (by omega) (by omega) λd f hd0 hd1=>?_
  ac_nf
  lia
  refine aY (ns:=[0,1,0-1,2,0-2]) hd0 hd1 λy hy _=>⟨y,f,rfl,by cbv,by simp[hl],aJ hx (by simp at hy;omega)⟩
 ·lia
  refine qf (is:=[.int 0]) ⟨by omega,by omega,by simp;rw[sizeLine_eq];omega⟩ ?_
  lia
  refine am (by omega) (by omega) λd2 f hd20 hd21=>?_
  ac_nf
  lia
  refine fv (is:=(Bu d.toNat [I.int 0]).flatten) (js:=[.int (0-1-d2)]) (by simp;rw[sizeLine_eq];omega) ?_
  lia
  refine fv (is:=(Bu d.toNat [I.int 0]).flatten++[.int (0-1-d2)]) (js:=is.map I.int) (by simp;rw[sizeLine_eq];omega) ?_
  lia
  have:(Bu d.toNat [I.int 0]).flatten++[.int (0-1-d2)]++is.map I.int=(Bu d.toNat 0++(0-1-d2)::is).map I.int:=by simp
  rw[this]
  exact q _ f (by simp;omega) (λx hx'=>by
   rcases yaM hx' with hx'|hx'
   ·rw[(CU.mp hx').2];decide
   ·rcases ycM hx' with rfl|hx'
    ·omega
    ·exact hx x hx') ⟨d.toNat,_,is,rfl,by omega⟩
theorem oV {row signs:List Int}{way:Int}(h1:1<=row.length)(h2:row.length<=1000)(hw:0<=way)(hs:signs.length=row.length)(hm:∀x∈row,-(2^64)<x/\x<2^64){Q:T->Prop}(q:∀is:List Int,is.length=row.length->(∀(k:Nat) x s,row[(k+way.toNat) % row.length]?=some x->signs[k]?=some s->is[k]?=some (x*s))->Q (l0 is)):W1 (bL [l0 row,.im (.int way),.li (signs.map .int)]) Q:=by
 refine nh rfl rfl ?_
 unfold bG
 lia
 refine br (λp:List Int=>[some ⟨.ow,l0 row⟩,some ⟨.ow,.im (.int way)⟩,some ⟨.vw none none,.li (signs.map .int)⟩,some ⟨.ow,.li (p.map .int)⟩,none]) (λj p=>p.length=j/\∀(k:Nat),k<j->∀x s,row[(k+way.toNat) % row.length]?=some x->signs[k]?=some s->p[k]?=some (x*s)) ?_
 lia
 rw[Bw]
 refine⟨⟨by omega,by omega⟩,[],by cbv,⟨rfl,λk hk=>absurd hk (Nat.not_lt_zero _)⟩,λj is hj ⟨hl,hx⟩=>?_,λis ⟨hl,hx⟩=>?_⟩
 ·lia
  refine qd (by simp;omega) ?_
  lia
  rw[Bw]
  have e1:((j:Int)+way) % (row.length:Int)=(((j+way.toNat) % row.length:Nat):Int):=by
   rw[Int.natCast_emod,Int.natCast_add];congr 1;omega
  rw[e1]
  have hlt:(j+way.toNat) % row.length<row.length:=Dq _ (by omega)
  refine gp (ns:=row) (by omega) (by omega) λy hy ey=>?_
  lia
  refine aY (ns:=signs) (by omega) (by omega) λz hz ez=>?_
  lia
  refine k7 (tf (hm y hy).1 (hm y hy).2) ?_
  lia
  refine cF (by simp[hl];rw[sizeLine_eq];omega) ?_
  lia
  refine⟨is++[y*z],?_,by simp[hl],λk hk x s h1 h2=>?_⟩
  ·show _=[_,_,_,_,_]
   rw[BL]
   cbv
  ·rcases Nat.lt_succ_iff_lt_or_eq.mp hk with hk|rfl
   ·rw[Ca (by omega)];exact hx k hk x s h1 h2
   ·rw[BM]at ey ez
    rw[ey]at h1;rw[ez]at h2
    cases h1;cases h2
    rw[Cm (by omega),hl];simp
 ·lia
  exact q is (by omega) λk x s h1 h2=>hx k (by have:=(Bs.mp h2).1;omega) x s h1 h2
noncomputable def tRd (p:Int×List Int):I:=.tup [.int p.1,.tup (p.2.map .int)]
noncomputable def ax (l:List (Int×List Int)):T:=.li (l.map tRd)
theorem dq (l:List (Int×List Int))(i:I):ax l ≠ .im i:=by unfold ax;intro z;cases z
theorem qT {ls:List (List (Int×List Int))}{n:Nat}{l:List (Int×List Int)}{p:Int×List Int}(h:ls[n]?=some l):T.put (.lst (ls.map ax)) [.ix n] (.li (l.map tRd++[tRd p]))=.lst ((ls.set n (l++[p])).map ax):=by
 rw[qS (u:=ax l) (by rw[BD,h];rfl),DJ]
 simp[ax]
theorem se {ρ:Rho}{Q:Fl->Rho->Prop}{L X:Nat}{args:MA}{ls:List (List (Int×List Int))}{i:Int}(n:Nat){l:List (Int×List Int)}(hL : ρ[L]?=some (some ⟨.ow,.lst (ls.map ax)⟩))(hX : ρ[X]?=some (some ⟨.ow,.im (.int i)⟩))(hi:i=(n:Int))(hl:ls[n]?=some l)(hz:l.length<1000)(hm:args.mu.contains L=false)
  (ha:WA args ρ λrs ρ1=>∃p,rs=[⟨.ow,.im (tRd p)⟩]/\ρ1[L]?=some (some ⟨.ow,.lst (ls.map ax)⟩)/\Q .nx ((ao [L] ρ1).set L (some ⟨.ow,.lst ((ls.set n (l++[p])).map ax)⟩))):WS (bp (cM L [] apT (mIx (ah L) (ah X)) args)) ρ Q:=by
 subst hi
 refine l8 (sf (yG (lr hL (lr hX (gu (by cbv) ?_)))))
 have hl':(ls.map ax)[(n:Int).toNat]?=some (ax l):=by rw[BM,BD,hl];rfl
 refine lR (u:=ax l) (kd:=.vw (some L) (some [.ix (n:Int).toNat])) (by omega) hl' (dq l) rfl ?_
 rw[BM]
 refine WA.mono ha λrs ρ1 ⟨p,e,hL',q⟩=>?_
 subst e
 refine gu ?_ (l9 rfl (mz (lH (vW hL' rfl ?_))))
 ·show cq args.mu ⟨.vw (some L) (some [.ix n]),ax l⟩=true
  unfold cq
  simp only[Kd.root]
  rw[hm];rfl
 ·refine cF (is:=l.map tRd) (by simp;rw[sizeLine_eq];omega) ?_
  rw[qT hl]
  exact q
def Looks (P:Nat->Int×List Int->Prop)(c:Nat)(m:Nat)(ls:List (List (Int×List Int))):Prop:=ls.length=m/\∀x l,ls[x]?=some l->l.length<=c/\∀p∈l,P x p
theorem Looks.get {P:Nat->Int×List Int->Prop}{c m:Nat}{ls:List (List (Int×List Int))}(h:Looks P c m ls){n:Nat}(hn:n<m):∃l,ls[n]?=some l/\l.length<=c/\∀p∈l,P n p:=by
 have:n<ls.length:=by rw[h.1];exact hn
 exact⟨ls[n],BU this,h.2 n _ (BU this)⟩
theorem cU {α:Type}{l:List α}{n x:Nat}{a b : α}(h:(l.set n a)[x]?=some b):(n=x/\b=a)∨(n≠x/\l[x]?=some b):=by
 by_cases e:n=x
 ·subst e
  have:=(Bs.mp h).1
  rw[Cc (by simpa using this)]at h
  cases h;exact .inl ⟨rfl,rfl⟩
 ·rw[BJ e]at h;exact .inr ⟨e,h⟩
theorem Looks.set {P:Nat->Int×List Int->Prop}{c m:Nat}{ls:List (List (Int×List Int))}{n:Nat}{l l':List (Int×List Int)}(h:Looks P c m ls)(hl:ls[n]?=some l)(hn:l'.length<=c)(hp:∀p∈l',P n p):Looks P c m (ls.set n l'):=by
 refine⟨by rw[C7];exact h.1,λx l' hx=>?_⟩
 rcases cU hx with⟨rfl,rfl⟩|⟨_,hx⟩
 ·exact⟨hn,hp⟩
 ·exact h.2 x l' hx
def iU (w m:Int)(p:Int×List Int):Prop:=0<=p.1/\p.1<m/\p.2.length=w.toNat/\∀x∈p.2,-2<=x/\x<=2
theorem sG {f:Int×Int}{w m:Int}(h1:1<=w)(h2:w<=3)(h3:1<=m)(h4:m<=6){Q:T->T->Prop}(q:∀ls f',Looks (λ_ p=>iU w m p) 3 m.toNat ls->Q (.lst (ls.map ax)) (fT f')):W2 (cH [fT f,.im (.int w),.im (.int m)]) Q:=by
 refine e8 rfl rfl ?_
 unfold bD
 lia
 refine iR (λ_:Unit=>[some ⟨.io 0,fT f⟩,some ⟨.ow,.im (.int w)⟩,some ⟨.ow,.im (.int m)⟩,none,none,none]) ax dq (λ_ _ l=>∀x∈l,x=[]) ?_
 lia
 refine⟨⟨by omega,by omega⟩,by cbv,(),by cbv,by simp,λj _ l hj hl=>?_,λ_ l hl hn=>?_⟩
 ·lia
  exact⟨[],(),rfl,by cbv,aJ hl rfl⟩
 lia
 refine br (λs:(Int×Int)×List (List (Int×List Int))=>[some ⟨.io 0,fT s.1⟩,some ⟨.ow,.im (.int w)⟩,some ⟨.ow,.im (.int m)⟩,some ⟨.ow,.lst (s.2.map ax)⟩,none,none]) (λj s=>Looks (λ_ p=>iU w m p) 3 m.toNat s.2/\∀y l,j<=y->s.2[y]?=some l->l=[]) ?_
 lia
 refine⟨⟨by omega,by omega⟩,(f,l),by cbv,⟨⟨hn,λx l' hx=>by rw[hl l' (ymG hx)];simp⟩,λy l' _ hx=>hl l' (ymG hx)⟩,λx s hx ⟨hL,hE⟩=>?_,λs ⟨hL,_⟩=>?_⟩
 ·lia
  refine br (λt:(Int×Int)×List (List (Int×List Int))=>[some ⟨.io 0,fT t.1⟩,some ⟨.ow,.im (.int w)⟩,some ⟨.ow,.im (.int m)⟩,some ⟨.ow,.lst (t.2.map ax)⟩,some ⟨.ow,.im (.int x)⟩,none]) (λj t=>Looks (λ_ p=>iU w m p) 3 m.toNat t.2/\(∀l,t.2[x]?=some l->l.length<=j)/\∀y l,x+1<=y->t.2[y]?=some l->l=[]) ?_
  lia
  refine am (by omega) (by omega) λd f hd0 hd1=>?_
  ac_nf
  lia
  refine⟨⟨by omega,by omega⟩,(f,s.2),by cbv,⟨hL,λl hl=>by rw[hE x l (Bz _) hl];simp,λy l hy hl=>hE y l (by omega) hl⟩,λj t hj ⟨hL,hc,hE⟩=>?_,λt ⟨hL,_,hE⟩=>by lia;exact⟨t,by cbv,hL,hE⟩⟩
  obtain⟨l,hl,hl3,hlP⟩:=hL.get (n:=x) (by omega)
  iterate 2 infer_instance
  refine se (ls:=t.2) x rfl rfl rfl hl (by omega) (by cbv) ?_
  lia
  refine am (by omega) (by omega) λe f he0 he1=>?_
  ac_nf
  lia
  refine rM h1 h2 λis f hil hib=>?_
  ac_nf
  lia
  have:=hc l hl
  refine⟨(e,is),rfl,rfl,?_⟩
  lia
  refine⟨(f,t.2.set x (l++[(e,is)])),by cbv,hL.set hl (by simp;omega) (aJ hlP ⟨he0,he1,hil,hib⟩),λl' hl'=>?_,λy l' hy hl'=>?_⟩
  ·rcases cU hl' with⟨_,rfl⟩|⟨z,_⟩
   ·simp;omega
   ·exact absurd rfl z
  ·rcases cU hl' with⟨z,_⟩|⟨_,hl'⟩
   ·omega
   ·exact hE y l' hy hl'
 ·lia
  exact q s.2 s.1 hL
def lx (w m:Int)(x:Nat)(p:Int×List Int):Prop:=iU w m p/\((p.1<x/\∀e∈p.2,e=0) ∨ ∃(k:Nat) (y:Int) (r:List Int),p.2=Bu k 0++y::r/\y<0)
theorem mT {f:Int×Int}{w m:Int}(h1:1<=w)(h2:w<=3)(h3:1<=m)(h4:m<=6){Q:T->T->Prop}(q:∀ls f',Looks (lx w m) 3 m.toNat ls->Q (.lst (ls.map ax)) (fT f')):W2 (bJ [fT f,.im (.int w),.im (.int m)]) Q:=by
 refine e8 rfl rfl ?_
 unfold bE
 lia
 refine iR (λ_:Unit=>[some ⟨.io 0,fT f⟩,some ⟨.ow,.im (.int w)⟩,some ⟨.ow,.im (.int m)⟩,none,none,none]) ax dq (λ_ _ l=>∀x∈l,x=[]) ?_
 lia
 refine⟨⟨by omega,by omega⟩,by cbv,(),by cbv,by simp,λj _ l hj hl=>?_,λ_ l hl hn=>?_⟩
 ·lia
  exact⟨[],(),rfl,by cbv,aJ hl rfl⟩
 lia
 refine br (λs:(Int×Int)×List (List (Int×List Int))=>[some ⟨.io 0,fT s.1⟩,some ⟨.ow,.im (.int w)⟩,some ⟨.ow,.im (.int m)⟩,some ⟨.ow,.lst (s.2.map ax)⟩,none,none]) (λj s=>Looks (lx w m) 3 m.toNat s.2/\∀y l,j<=y->s.2[y]?=some l->l=[]) ?_
 lia
 refine⟨⟨by omega,by omega⟩,(f,l),by cbv,⟨⟨hn,λx l' hx=>by rw[hl l' (ymG hx)];simp⟩,λy l' _ hx=>hl l' (ymG hx)⟩,λx s hx ⟨hL,hE⟩=>?_,λs ⟨hL,_⟩=>?_⟩
 ·lia
  refine br (λt:(Int×Int)×List (List (Int×List Int))=>[some ⟨.io 0,fT t.1⟩,some ⟨.ow,.im (.int w)⟩,some ⟨.ow,.im (.int m)⟩,some ⟨.ow,.lst (t.2.map ax)⟩,some ⟨.ow,.im (.int x)⟩,none]) (λj t=>Looks (lx w m) 3 m.toNat t.2/\(∀l,t.2[x]?=some l->l.length<=j)/\∀y l,x+1<=y->t.2[y]?=some l->l=[]) ?_
  lia
  refine am (by omega) (by omega) λd f hd0 hd1=>?_
  ac_nf
  lia
  refine⟨⟨by omega,by omega⟩,(f,s.2),by cbv,⟨hL,λl hl=>by rw[hE x l (Bz _) hl];simp,λy l hy hl=>hE y l (by omega) hl⟩,λj t hj ⟨hL,hc,hE⟩=>?_,λt ⟨hL,_,hE⟩=>by lia;exact⟨t,by cbv,hL,hE⟩⟩
  obtain⟨l,hl,hl3,hlP⟩:=hL.get (n:=x) (by omega)
  have hcl:=hc l hl
  have fin:∀(e:Int) (is:List Int) (f:Int×Int),lx w m x (e,is)->Looks (lx w m) 3 m.toNat (t.2.set x (l++[(e,is)]))/\(∀l',(t.2.set x (l++[(e,is)]))[x]?=some l'->l'.length<=j+1)/\∀y l',x+1<=y->(t.2.set x (l++[(e,is)]))[y]?=some l'->l'=[]:=λe is f hP=>by
   refine⟨hL.set hl (by simp;omega) (aJ hlP hP),λl' hl'=>?_,λy l' hy hl'=>?_⟩
   ·rcases cU hl' with⟨_,rfl⟩|⟨z,_⟩
    ·simp;omega
    ·exact absurd rfl z
   ·rcases cU hl' with⟨z,_⟩|⟨_,hl'⟩
    ·omega
    ·exact hE y l' hy hl'
  have hback:∀f,WS (bp (cM 3 [] apT (mIx (ah 3) (ah 4)) (aa (av [] (aa (aj 0 0 ai (ac 0 (ac 2 mNil))) (aa (aj 0 0 cA (ac 0 (ac 1 mNil))) mNil))) mNil))) [some ⟨.io 0,fT f⟩,some ⟨.ow,.im (.int w)⟩,some ⟨.ow,.im (.int m)⟩,some ⟨.ow,.lst (t.2.map ax)⟩,some ⟨.ow,.im (.int x)⟩,some ⟨.ow,.im (.int j)⟩] λfl ρ=>fl=.nx/\∃e is f,ρ=[some ⟨.io 0,fT f⟩,some ⟨.ow,.im (.int w)⟩,some ⟨.ow,.im (.int m)⟩,some ⟨.ow,.lst ((t.2.set x (l++[(e,is)])).map ax)⟩,some ⟨.ow,.im (.int x)⟩,some ⟨.ow,.im (.int j)⟩]/\lx w m x (e,is):=λf=>by
   refine se (ls:=t.2) x rfl rfl rfl hl (by omega) (by cbv) ?_
   lia
   refine am (by omega) (by omega) λe f he0 he1=>?_
   ac_nf
   lia
   refine sC h1 h2 λis f hil hib hb=>?_
   ac_nf
   lia
   exact⟨(e,is),rfl,rfl,by trivial,e,is,f,by cbv,⟨he0,he1,hil,hib⟩,.inr hb⟩
  have hzero:∀f,(0:Int)<x->WS (bp (cM 3 [] apT (mIx (ah 3) (ah 4)) (aa (av [] (aa (aj 0 0 ai (ac 0 (ac 4 mNil))) (aa (mOp cy (av [] (aa (mC (.int 0)) mNil)) (ah 1)) mNil))) mNil))) [some ⟨.io 0,fT f⟩,some ⟨.ow,.im (.int w)⟩,some ⟨.ow,.im (.int m)⟩,some ⟨.ow,.lst (t.2.map ax)⟩,some ⟨.ow,.im (.int x)⟩,some ⟨.ow,.im (.int j)⟩] λfl ρ=>fl=.nx/\∃e is f,ρ=[some ⟨.io 0,fT f⟩,some ⟨.ow,.im (.int w)⟩,some ⟨.ow,.im (.int m)⟩,some ⟨.ow,.lst ((t.2.set x (l++[(e,is)])).map ax)⟩,some ⟨.ow,.im (.int x)⟩,some ⟨.ow,.im (.int j)⟩]/\lx w m x (e,is):=λf hx0=>by
   refine se (ls:=t.2) x rfl rfl rfl hl (by omega) (by cbv) ?_
   lia
   refine am (by omega) (by omega) λe f he0 he1=>?_
   ac_nf
   lia
   refine qg (is:=[.int 0]) ⟨by simp,by decide,by omega,by omega⟩ ?_
   have er:(Bu w.toNat [I.int 0]).flatten=(Bu w.toNat (0:Int)).map .int:=by simp
   rw[er]
   lia
   refine⟨(e,Bu w.toNat 0),rfl,rfl,by trivial,e,_,f,by cbv,⟨he0,by omega,by simp,λy hy=>?_⟩,.inl ⟨he1,λy hy=>(CU.mp hy).2⟩⟩
   rw[(CU.mp hy).2];decide
  lia
  (refine cN ?_;lia;clear_value hx0)
  ·lia
   refine am (by omega) (by omega) λz f hz0 hz1=>?_
   ac_nf
   lia
   clear_value hz
   ·refine WS.mono (hzero f hx0) ?_
    rintro fl ρ ⟨rfl,e,is,f,rfl,hP⟩
    lia
    exact⟨(f,_),by cbv,fin e is f hP⟩
   ·refine WS.mono (hback f) ?_
    rintro fl ρ ⟨rfl,e,is,f,rfl,hP⟩
    lia
    exact⟨(f,_),by cbv,fin e is f hP⟩
  ·refine⟨λz=>absurd z (by decide),λ_=>?_⟩
   refine WS.mono (hback _) ?_
   rintro fl ρ ⟨rfl,e,is,f,rfl,hP⟩
   lia
   exact⟨(f,_),by cbv,fin e is f hP⟩
 ·lia
  exact q s.2 s.1 hL
theorem Looks.mono {P:Nat->Int×List Int->Prop}{c c' m:Nat}{ls:List (List (Int×List Int))}(h:Looks P c m ls)(hc:c<=c'):Looks P c' m ls:=⟨h.1,λx l hx=>⟨B3 (h.2 x l hx).1 hc,(h.2 x l hx).2⟩⟩
noncomputable def tTr (p:Int×Int×List Int):I:=.tup [.int p.1,.int p.2.1,.tup (p.2.2.map .int)]
def AS (w:Int)(p:Int×Int×List Int):Prop:=0<=p.1/\p.1<w/\0<=p.2.1/\p.2.1<w/\p.2.2.length=w.toNat/\∀x∈p.2.2,-2<=x/\x<=2
theorem l6 {row signs:List Int}{way:Int}(h1:1<=row.length)(h2:row.length<=1000)(hw:0<=way)(hs:signs.length=row.length)(hr:∀x∈row,-2<=x/\x<=2)(hg:∀x∈signs,x=1∨x = -1){Q:T->Prop}(q:∀is:List Int,is.length=row.length->(∀x∈is,-2<=x/\x<=2)->(∀(k:Nat) x s,row[(k+way.toNat) % row.length]?=some x->signs[k]?=some s->is[k]?=some (x*s))->Q (l0 is)):W1 (bL [l0 row,.im (.int way),.li (signs.map .int)]) Q:=by
 refine oV h1 h2 hw hs (λx hx=>by have:=hr x hx;omega) λis hl hi=>q is hl (λy hy=>?_) hi
 obtain⟨k,hk⟩:=CY.mp hy
 have hkl:=(Bs.mp hk).1
 have hm:(k+way.toNat) % row.length<row.length:=Dq _ (by omega)
 have e1:row[(k+way.toNat) % row.length]?=some row[(k+way.toNat) % row.length]:=BU hm
 have e2:signs[k]?=some signs[k]:=BU (by omega)
 have e3:=hi k _ _ e1 e2
 rw[hk]at e3
 have b1:=hr _ (ymG e1)
 have b2:=hg _ (ymG e2)
 have:y=row[(k+way.toNat) % row.length]*signs[k]:=by simpa using e3
 rw[this]
 rcases b2 with z|z<;>rw[z]<;>omega
theorem wT {f:Int×Int}{w m:Int}(h1:2<=w)(h2:w<=3)(h3:w<=m)(h4:m<=6){Q:T->T->Prop}(q:∀ls f',Looks (λ_ p=>iU w m p) 7 m.toNat ls->Q (.lst (ls.map ax)) (fT f')):W2 (bK [fT f,.im (.int w),.im (.int m)]) Q:=by
 refine runI_ok' [some ⟨.io 0,fT f⟩,some ⟨.ow,.im (.int w)⟩,some ⟨.ow,.im (.int m)⟩,none,none,none,none,none,none,none,none] rfl rfl rfl ?_
 unfold bf
 lia
 refine am (by omega) (by omega) λd1 f a1 b1=>?_
 ac_nf
 lia
 refine am (by omega) (by omega) λd2 f a2 b2=>?_
 ac_nf
 lia
 refine am (by omega) (by omega) λd3 f a3 b3=>?_
 ac_nf
 lia
 refine am (by omega) (by omega) λd4 f a4 b4=>?_
 ac_nf
 lia
 refine cF (by simp;rw[sizeLine_eq];omega) ?_
 refine mO (vR ?_)
 refine WS.mono (Q:=λfl ρ=>fl=.nx/\∃(f:Int×Int) (es:List (Int×Int×List Int)),ρ=[some ⟨.io 0,fT f⟩,some ⟨.ow,.im (.int w)⟩,some ⟨.ow,.im (.int m)⟩,some ⟨.ow,.im (.int (1+d1))⟩,some ⟨.ow,.li (es.map tTr)⟩,none,none,none,none,none,none]/\(∀p∈es,AS w p)/\es.length<=7) ?_ ?_
 ·lia
  (refine cN ?_;lia;clear_value hw)
  ·subst hw
   lia
   refine am (by omega) (by omega) λd5 f a5 b5=>?_
   ac_nf
   lia
   refine am (by omega) (by omega) λd6 f a6 b6=>?_
   ac_nf
   lia
   refine fv (by simp;rw[sizeLine_eq];omega) ?_
   lia
   refine⟨by trivial,f,[(0,0,[0,0,1+d1]),(1,1,[0,0,0-1]),(0,1,[0,0-1,0]),(1,0,[0,0,d5]),(2,2,[0,1+d6,0]),(0,2,[0-1,0,1]),(2,0,[0,0,0])],by cbv,?_,by simp⟩
   simp only[BT,BX,or_false]
   rintro p (rfl|rfl|rfl|rfl|rfl|rfl|rfl)<;>(refine⟨by simp,by simp,by simp,by simp,rfl,?_⟩;simp only[BT,BX,or_false];omega)
  ·have hw2:w=2:=by omega
   subst hw2
   lia
   refine⟨by trivial,f,[(0,0,[0,1+d1]),(1,1,[0,0-1-d2]),(0,1,[0-1,d3-1]),(1,0,[0-d4,0])],by cbv,?_,by simp⟩
   simp only[BT,BX,or_false]
   rintro p (rfl|rfl|rfl|rfl)<;>(refine⟨by simp,by simp,by simp,by simp,rfl,?_⟩;simp only[BT,BX,or_false];omega)
 rintro fl ρ ⟨rfl,f,es,rfl,hes,hel⟩
 lia
 refine am (by omega) (by omega) λway f aw bw=>?_
 ac_nf
 lia
 refine bU (λf:Int×Int=>[some ⟨.io 0,fT f⟩,some ⟨.ow,.im (.int w)⟩,some ⟨.ow,.im (.int m)⟩,some ⟨.ow,.im (.int (1+d1))⟩,some ⟨.ow,.li (es.map tTr)⟩,none,none,none,none,none,none]) I.int (λj _ l=>l.length=j/\∀x∈l,x=1∨x = -1) ?_
 lia
 refine⟨⟨by omega,by omega⟩,by cbv,f,by cbv,⟨rfl,by simp⟩,λj f l hj ⟨hl,hx⟩=>?_,λf signs ⟨hsl,hsx⟩=>?_⟩
 ·lia
  refine am (by omega) (by omega) λd f hd0 hd1=>?_
  ac_nf
  lia
  exact⟨1-2*d,f,rfl,by cbv,by simp[hl],aJ hx (by omega)⟩
 lia
 refine iR (λ_:Unit=>[some ⟨.io 0,fT f⟩,some ⟨.ow,.im (.int w)⟩,some ⟨.ow,.im (.int m)⟩,some ⟨.ow,.im (.int (1+d1))⟩,some ⟨.ow,.li (es.map tTr)⟩,some ⟨.ow,.im (.int way)⟩,some ⟨.ow,.li (signs.map .int)⟩,none,none,none,none]) ax dq (λ_ _ l=>∀x∈l,x=[]) ?_
 lia
 refine⟨⟨by omega,by omega⟩,by cbv,(),by cbv,by simp,λj _ l hj hl=>?_,λ_ l hl hn=>?_⟩
 ·lia
  exact⟨[],(),rfl,by cbv,aJ hl rfl⟩
 lia
 refine kB (λt:List (List (Int×List Int))=>[some ⟨.io 0,fT f⟩,some ⟨.ow,.im (.int w)⟩,some ⟨.ow,.im (.int m)⟩,some ⟨.ow,.im (.int (1+d1))⟩,some ⟨.ow,.li (es.map tTr)⟩,some ⟨.ow,.im (.int way)⟩,some ⟨.ow,.li (signs.map .int)⟩,some ⟨.ow,.lst (t.map ax)⟩,none,none,none]) (λj t=>Looks (λ_ p=>iU w m p) j m.toNat t/\∀y l,3<=y->t[y]?=some l->l=[]) ?_
 lia
 refine⟨_,(show dU _=some ((es.map tTr).map _)from rfl),by cbv,l,by cbv,⟨⟨hn,λx l' hx=>by rw[hl l' (ymG hx)];simp⟩,λy l' _ hx=>hl l' (ymG hx)⟩,λj x t hx ⟨hL,hE⟩=>?_,λt ⟨hL,hE⟩=>?_⟩
 ·rw[BD]at hx
  cases e:es[j]? with
  | none=>rw[e]at hx;cases hx
  | some p=>
   rw[e]at hx;cases hx
   obtain⟨x,o,row⟩:=p
   have hp:=hes _ (ymG e)
   obtain⟨p1,p2,p3,p4,p5,p6⟩:=hp
   simp only at p1 p2 p3 p4 p5 p6
   have hj:=(Bs.mp e).1
   obtain⟨l,hl,hl3,hlP⟩:=hL.get (n:=x.toNat) (by omega)
   iterate 9 infer_instance
   refine se (ls:=t) x.toNat rfl rfl (by omega) hl (by omega) (by cbv) ?_
   lia
   refine l6 (row:=row) (signs:=signs) (by omega) (by omega) aw (by omega) p6 hsx λis hil hib _=>?_
   lia
   refine⟨(o,is),rfl,rfl,?_⟩
   lia
   refine⟨t.set x.toNat (l++[(o,is)]),by cbv,(hL.mono (ED j)).set hl (by simp;omega) (aJ hlP ⟨p3,(by omega:o<m),hil.trans p5,hib⟩),λy l' hy hl'=>?_⟩
   rcases cU hl' with⟨z,_⟩|⟨_,hl'⟩
   ·omega
   ·exact hE y l' hy hl'
 ·lia
  refine sd (λs:(Int×Int)×List (List (Int×List Int))=>[some ⟨.io 0,fT s.1⟩,some ⟨.ow,.im (.int w)⟩,some ⟨.ow,.im (.int m)⟩,some ⟨.ow,.im (.int (1+d1))⟩,some ⟨.ow,.li (es.map tTr)⟩,some ⟨.ow,.im (.int way)⟩,some ⟨.ow,.li (signs.map .int)⟩,some ⟨.ow,.lst (s.2.map ax)⟩,none,none,none]) (λj s=>Looks (λ_ p=>iU w m p) 7 m.toNat s.2/\∀y l,3+j<=y->s.2[y]?=some l->l=[]) ?_
  lia
  rw[Bw]at hL
  refine⟨⟨by omega,by omega,by omega,by omega⟩,(f,t),by cbv,⟨hL.mono hel,λy l' hy hl'=>hE y l' (by omega) hl'⟩,λj s hj ⟨hL,hE⟩=>?_,λs ⟨hL,_⟩=>?_⟩
  ·obtain⟨l,hl,hl3,hlP⟩:=hL.get (n:=3+j) (by omega)
   have hl0:=hE _ l (Bz _) hl
   iterate 2 infer_instance
   refine se (ls:=s.2) (3+j) rfl rfl (by omega) hl (by omega) (by cbv) ?_
   lia
   refine am (by omega) (by omega) λe f he0 he1=>?_
   ac_nf
   lia
   refine rM (by omega) h2 λis f hil hib=>?_
   ac_nf
   lia
   refine⟨(e,is),rfl,rfl,?_⟩
   lia
   refine⟨(f,s.2.set (3+j) (l++[(e,is)])),by cbv,hL.set hl (by simp[hl0]) (aJ hlP ⟨he0,(by omega:e<m),hil,hib⟩),λy l' hy hl'=>?_⟩
   rcases cU hl' with⟨z,_⟩|⟨_,hl'⟩
   ·omega
   ·exact hE y l' (by omega) hl'
  ·lia
   exact q s.2 s.1 hL
theorem oE {ls:List (List (Int×List Int))}{n:Nat}{l:List (Int×List Int)}{p:Int×List Int}(h:ls[n]?=some l):T.put (.lst (ls.map ax)) [.ix n] (.li (tRd p::l.map tRd))=.lst ((ls.set n (p::l)).map ax):=by
 rw[qS (u:=ax l) (by rw[BD,h];rfl),DJ]
 simp[ax]
theorem AM {ρ:Rho}{Q:Fl->Rho->Prop}{L X:Nat}{args:MA}{ls:List (List (Int×List Int))}{i:Int}(n:Nat){l:List (Int×List Int)}(hL : ρ[L]?=some (some ⟨.ow,.lst (ls.map ax)⟩))(hX : ρ[X]?=some (some ⟨.ow,.im (.int i)⟩))(hi:i=(n:Int))(hl:ls[n]?=some l)(hz:l.length<1000)(hm:args.mu.contains L=false)
  (ha:WA args ρ λrs ρ1=>∃p,rs=[⟨.ow,.im (.int 0)⟩,⟨.ow,.im (tRd p)⟩]/\ρ1[L]?=some (some ⟨.ow,.lst (ls.map ax)⟩)/\Q .nx ((ao [L] ρ1).set L (some ⟨.ow,.lst ((ls.set n (p::l)).map ax)⟩))):WS (bp (cM L [] j0 (mIx (ah L) (ah X)) args)) ρ Q:=by
 subst hi
 refine l8 (sf (yG (lr hL (lr hX (gu (by cbv) ?_)))))
 have hl':(ls.map ax)[(n:Int).toNat]?=some (ax l):=by rw[BM,BD,hl];rfl
 refine lR (u:=ax l) (kd:=.vw (some L) (some [.ix (n:Int).toNat])) (by omega) hl' (dq l) rfl ?_
 rw[BM]
 refine WA.mono ha λrs ρ1 ⟨p,e,hL',q⟩=>?_
 subst e
 refine gu ?_ (l9 rfl (mz (mz (lH (vW hL' rfl ?_)))))
 ·show cq args.mu ⟨.vw (some L) (some [.ix n]),ax l⟩=true
  unfold cq
  simp only[Kd.root]
  rw[hm];rfl
 ·refine vj (is:=l.map tRd) ⟨by omega,by simp,by simp;rw[sizeLine_eq];omega⟩ ?_
  show Q _ (List.set _ _ (some ⟨_,T.put _ _ (.li (tRd p::l.map tRd))⟩))
  rw[oE hl]
  exact q
def RR (rest row:List Int):Prop:=row.length=rest.length/\∀(i:Nat) y r,row[i]?=some y->rest[i]?=some r->-2<=y/\y<=2/\-2<=r+y/\r+y<=2
theorem uE {f:Int×Int}{w m:Int}(h1:1<=w)(h2:w<=3)(h3:1<=m)(h4:m<=6){Q:T->T->Prop}(q:∀ls f',Looks (λ_ p=>iU w m p) 4 m.toNat ls->Q (.lst (ls.map ax)) (fT f')):W2 (cI [fT f,.im (.int w),.im (.int m)]) Q:=by
 refine runI_ok' [some ⟨.io 0,fT f⟩,some ⟨.ow,.im (.int w)⟩,some ⟨.ow,.im (.int m)⟩,none,none,none,none,none] rfl rfl rfl ?_
 unfold bF
 lia
 refine mT h1 h2 h3 h4 λls f hLs=>?_
 ac_nf
 lia
 refine am (by omega) (by omega) λd f hd0 hd1=>?_
 ac_nf
 lia
 refine qf (is:=[.int 0]) ⟨by omega,by omega,by simp;rw[sizeLine_eq];omega⟩ ?_
 have er:(Bu w.toNat [I.int 0]).flatten=(Bu w.toNat (0:Int)).map .int:=by simp
 rw[er]
 lia
 refine br (λs:(Int×Int)×List (List (Int×List Int))×List Int=>[some ⟨.io 0,fT s.1⟩,some ⟨.ow,.im (.int w)⟩,some ⟨.ow,.im (.int m)⟩,some ⟨.ow,.lst (s.2.1.map ax)⟩,some ⟨.ow,.im (.int (1+d))⟩,some ⟨.ow,.li (s.2.2.map .int)⟩,none,none]) (λj s=>Looks (λ_ p=>iU w m p) 4 m.toNat s.2.1/\(∀y l,j<=y->s.2.1[y]?=some l->l.length<=3)/\s.2.2.length=w.toNat/\∀x∈s.2.2,-2<=x/\x<=2) ?_
 lia
 refine⟨⟨by omega,by omega⟩,(f,ls,Bu w.toNat 0),by cbv,⟨⟨hLs.1,λx l hx=>⟨by have:=(hLs.2 x l hx).1;omega,λp hp=>((hLs.2 x l hx).2 p hp).1⟩⟩,λy l _ hx=>(hLs.2 y l hx).1,by simp,λx hx=>by rw[(CU.mp hx).2];decide⟩,λk s hk ⟨hL,hE,hrl,hrb⟩=>?_,λs ⟨hL,_⟩=>?_⟩
 ·obtain⟨f,ls,rest⟩:=s
  simp only at hL hE hrl hrb
  obtain⟨l,hl,hl4,hlP⟩:=hL.get (n:=k) (by omega)
  have hl3:=hE k l (Bz _) hl
  lia
  refine bU (λf:Int×Int=>[some ⟨.io 0,fT f⟩,some ⟨.ow,.im (.int w)⟩,some ⟨.ow,.im (.int m)⟩,some ⟨.ow,.lst (ls.map ax)⟩,some ⟨.ow,.im (.int (1+d))⟩,some ⟨.ow,.li (rest.map .int)⟩,some ⟨.ow,.im (.int k)⟩,none]) I.int (λj _ l=>l.length=j/\∀x∈l,-1<=x/\x<=1) ?_
  lia
  refine⟨⟨by omega,by omega⟩,by cbv,f,by cbv,⟨rfl,by simp⟩,λj f l hj ⟨hl,hx⟩=>?_,λf r1 ⟨hl1,hx1⟩=>?_⟩
  ·lia
   refine am (by omega) (by omega) λd f hd0 hd1=>?_
   ac_nf
   lia
   exact⟨d-1,f,rfl,by cbv,by simp[hl],aJ hx (by omega)⟩
  lia
  refine bU (λ_:Unit=>[some ⟨.io 0,fT f⟩,some ⟨.ow,.im (.int w)⟩,some ⟨.ow,.im (.int m)⟩,some ⟨.ow,.lst (ls.map ax)⟩,some ⟨.ow,.im (.int (1+d))⟩,some ⟨.ow,.li (rest.map .int)⟩,some ⟨.ow,.im (.int k)⟩,some ⟨.ow,.li (r1.map .int)⟩]) I.int (λj _ l=>l.length=j/\∀(i:Nat) y r,l[i]?=some y->rest[i]?=some r->-2<=y/\y<=2/\-2<=r+y/\r+y<=2) ?_
  lia
  refine⟨⟨by omega,by omega⟩,by cbv,(),by cbv,⟨rfl,by simp⟩,λj _ l hj ⟨hl,hx⟩=>?_,λ_ r2 ⟨hl2,hx2⟩=>?_⟩
  ·lia
   refine aY (ns:=rest) (by omega) (by omega) λr hr er=>?_
   lia
   refine aY (ns:=r1) (by omega) (by omega) λy hy ey=>?_
   lia
   refine aY (ns:=rest) (by omega) (by omega) λr' hr' er'=>?_
   rw[er]at er'
   cases er'
   lia
   have b1:=hrb r hr
   have b2:=hx1 y hy
   refine⟨_,(),rfl,by cbv,by simp[hl],λi y' r' hy' hr'=>?_⟩
   by_cases hij:i<l.length
   ·rw[Ca hij]at hy'
    exact hx i y' r' hy' hr'
   ·have:=(Bs.mp hy').1
    simp at this
    have hie:i=j:=by omega
    subst hie
    rw[Cm (by omega)]at hy'
    simp[hl]at hy'
    rw[BM]at er
    rw[er]at hr'
    cases hr'
    subst hy'
    split<;>split<;>omega
  lia
  refine WS.mono (Q:=λfl ρ=>fl=.nx/\∃r3:List Int,ρ=[some ⟨.io 0,fT f⟩,some ⟨.ow,.im (.int w)⟩,some ⟨.ow,.im (.int m)⟩,some ⟨.ow,.lst (ls.map ax)⟩,some ⟨.ow,.im (.int (1+d))⟩,some ⟨.ow,.li (rest.map .int)⟩,some ⟨.ow,.im (.int k)⟩,some ⟨.ow,.li (List.map .int r3)⟩]/\RR rest r3) ?_ ?_
  ·(refine cN ?_;lia;clear_value hlast)
   ·lia
    refine dr (λ_:Unit=>[some ⟨.io 0,fT f⟩,some ⟨.ow,.im (.int w)⟩,some ⟨.ow,.im (.int m)⟩,some ⟨.ow,.lst (ls.map ax)⟩,some ⟨.ow,.im (.int (1+d))⟩,some ⟨.ow,.li (rest.map .int)⟩,some ⟨.ow,.im (.int k)⟩,some ⟨.ow,.li (r2.map .int)⟩]) I.int (λj _ l=>l.length=j/\∀(i:Nat) y r,l[i]?=some y->rest[i]?=some r->y = -r) ?_
    lia
    refine⟨rest.map .int,rfl,by simp;rw[sizeLine_eq];omega,by cbv,(),by cbv,⟨rfl,by simp⟩,λj x _ l hx ⟨hl,hq⟩=>?_,λ_ r3 ⟨hl3',hq3⟩=>?_⟩
    ·rw[BD]at hx
     cases e:rest[j]? with
     | none=>rw[e]at hx;cases hx
     | some r=>
      rw[e]at hx;cases hx
      lia
      refine⟨0-r,(),rfl,by cbv,by simp[hl],λi y' r' hy' hr'=>?_⟩
      by_cases hij:i<l.length
      ·rw[Ca hij]at hy'
       exact hq i y' r' hy' hr'
      ·have:=(Bs.mp hy').1
       simp at this
       have hie:i=j:=by omega
       subst hie
       rw[Cm (by omega)]at hy'
       simp[hl]at hy'
       rw[e]at hr'
       cases hr'
       omega
    ·lia
     refine⟨by trivial,r3,by cbv,by simpa using hl3',λi y r hy hr=>?_⟩
     have:=hq3 i y r hy hr
     have:=hrb r (ymG hr)
     omega
   ·lia
    exact⟨by trivial,r2,by cbv,by omega,hx2⟩
  ·rintro fl ρ ⟨rfl,r3,rfl,hr3l,hr3⟩
   lia
   refine bU (λ_:Unit=>[some ⟨.io 0,fT f⟩,some ⟨.ow,.im (.int w)⟩,some ⟨.ow,.im (.int m)⟩,some ⟨.ow,.lst (ls.map ax)⟩,some ⟨.ow,.im (.int (1+d))⟩,some ⟨.ow,.li (rest.map .int)⟩,some ⟨.ow,.im (.int k)⟩,some ⟨.ow,.li (r3.map .int)⟩]) I.int (λj _ l=>l.length=j/\∀x∈l,-2<=x/\x<=2) ?_
   lia
   refine⟨⟨by omega,by omega⟩,by cbv,(),by cbv,⟨rfl,by simp⟩,λj _ l hj ⟨hl,hx⟩=>?_,λ_ r4 ⟨hl4,hx4⟩=>?_⟩
   ·lia
    refine aY (ns:=rest) (by omega) (by omega) λr hr er=>?_
    lia
    refine aY (ns:=r3) (by omega) (by omega) λy hy ey=>?_
    lia
    have:=hr3 _ y r ey er
    exact⟨r+y,(),rfl,by cbv,by simp[hl],aJ hx (by omega)⟩
   iterate 2 infer_instance
   refine AM (ls:=ls) k rfl rfl rfl hl (by omega) (by cbv) ?_
   lia
   have hkm:((k:Int)+1) % (1+d)<m:=by have:=Cr ((k:Int)+1) (show 0<1+d by omega);omega
   have hk0:0<=((k:Int)+1) % (1+d):=CI _ (by omega)
   refine⟨(((k:Int)+1) % (1+d),r3),rfl,rfl,?_⟩
   lia
   refine⟨(f,ls.set k ((((k:Int)+1) % (1+d),r3)::l),r4),by cbv,hL.set hl (by simp;omega) (λp hp=>?_),λy l' hy hl'=>?_,by omega,hx4⟩
   ·rcases ycM hp with rfl|hp
    ·refine⟨hk0,hkm,by simpa[hrl]using hr3l,λx hx=>?_⟩
     obtain⟨i,hi⟩:=CY.mp hx
     have hil:=(Bs.mp hi).1
     have:i<rest.length:=by simp only at hil;omega
     have:=hr3 i x _ hi (BU this)
     omega
    ·exact hlP p hp
   ·rcases cU hl' with⟨z,_⟩|⟨_,hl'⟩
    ·omega
    ·exact hE y l' (by omega) hl'
 ·lia
  exact q s.2.1 s.1 hL
theorem Looks.imp {P P':Nat->Int×List Int->Prop}{c c' m:Nat}{ls:List (List (Int×List Int))}(h:Looks P c m ls)(hc:c<=c')(hp:∀x p,P x p->P' x p):Looks P' c' m ls:=⟨h.1,λx l hx=>⟨B3 (h.2 x l hx).1 hc,λp hm=>hp x p ((h.2 x l hx).2 p hm)⟩⟩
theorem rj {f:Int×Int}{Q:T->T->Prop}(q:∀(w m:Int) ls f',1<=w->w<=3->1<=m->m<=6->Looks (λ_ p=>iU w m p) 7 m.toNat ls->Q (.tup [.im (.int w),.lst (ls.map ax)]) (fT f')):W2 (gy [fT f]) Q:=by
 refine runI_ok' [some ⟨.io 0,fT f⟩,none,none,none,none] rfl rfl rfl ?_
 unfold eV
 lia
 refine am (by omega) (by omega) λform f hf0 hf1=>?_
 ac_nf
 lia
 refine am (by omega) (by omega) λwide f hw0 hw1=>?_
 ac_nf
 lia
 try ac_nf
 refine aY (ns:=[1,2,2,2,2,1,2,3]) (CI _ (by omega)) (by have:=Cr wide (show(0:Int)<8 by omega);simpa using this) λw hw _=>?_
 have hw13:1<=w/\w<=3:=by simp at hw;omega
 lia
 refine aY (ns:=[3,6]) (by omega) (by simp;omega) λmm hmm _=>?_
 have hmm':3<=mm/\mm<=6:=by simp at hmm;omega
 lia
 refine am (by omega) (by omega) λd f hd0 hd1=>?_
 ac_nf
 lia
 (refine cN ?_;lia;clear_value h1)
 ·lia
  refine sG hw13.1 hw13.2 (by omega) (by omega) λls f hL=>?_
  ac_nf
  lia
  exact q w (1+d) ls f hw13.1 hw13.2 (by omega) (by omega) (hL.mono (by omega))
 lia
 (refine cN ?_;lia;clear_value h2)
 ·lia
  refine mT hw13.1 hw13.2 (by omega) (by omega) λls f hL=>?_
  ac_nf
  lia
  exact q w (1+d) ls f hw13.1 hw13.2 (by omega) (by omega) (hL.imp (by omega) λx p hp=>hp.1)
 lia
 (refine cN ?_;lia;clear_value h3)
 ·lia
  refine uE hw13.1 hw13.2 (by omega) (by omega) λls f hL=>?_
  ac_nf
  lia
  exact q w (1+d) ls f hw13.1 hw13.2 (by omega) (by omega) (hL.mono (by omega))
 lia
 try ac_nf
 refine wT (by split<;>omega) (by split<;>omega) (by split<;>split<;>split<;>omega) (by split<;>split<;>split<;>omega) λls f hL=>?_
 ac_nf
 lia
 exact q _ _ ls f (by split<;>omega) (by split<;>omega) (by split<;>split<;>split<;>omega) (by split<;>split<;>split<;>omega) hL
inductive Ru where
 | num (n:Int)|rd (x:Str) (row:List Int)|op (s:Str) (a b:Ru)|cond (a b c:Ru)
noncomputable def tRu:Ru->I
 | .num n=>.tup [.str "num",.int n]
 | .rd x row=>.tup [.str "at",.str x,.tup (row.map .int)]
 | .op s a b=>.tup [.str "op",.str s,tRu a,tRu b]
 | .cond a b c=>.tup [.str "if",tRu a,tRu b,tRu c]
noncomputable def Ru.leaves:Ru->List Ru
 | .op _ a b=>a.leaves++b.leaves
 | .cond a b c=>a.leaves++(b.leaves++c.leaves)
 | r=>[r]
noncomputable def Ru.depth:Ru->Nat
 | .op _ a b=>max a.depth b.depth+1
 | .cond a b c=>max a.depth (max b.depth c.depth)+1
 | _=>0
noncomputable def lX:List Str:=["+","-","*","min","max","rest","less"]
def Ru.ok:Ru->Prop
 | .op s a b=>s∈lX/\a.ok/\b.ok
 | .cond a b c=>a.ok/\b.ok/\c.ok
 | _=>True
theorem gN {α:Type}{emb : α->I}{ns:List α}{kd:Kd}{a:Int}{QR:R->Prop}(h0:0<=a)(h1:a<ns.length)(q:∀y,ns[a.toNat]?=some y->QR ⟨.ow,.im (emb y)⟩):W1 (ixR ⟨kd,.li (ns.map emb)⟩ (.im (.int a))) QR:=by
 refine qa h0 (by simpa using h1) λx hx=>?_
 rw[BD]at hx
 cases e:ns[a.toNat]? with
 | none=>rw[e]at hx;cases hx
 | some y=>rw[e]at hx;cases hx;exact q y e
theorem wZ {α:Type}{emb : α->I}{ns:List α}{kd:Kd}{a:Int}{QR:R->Prop}(h0:0<=a)(h1:a<ns.length)(q:∀y,ns[a.toNat]?=some y->QR ⟨.ow,.im (emb y)⟩):W1 (ixR ⟨kd,.im (.tup (ns.map emb))⟩ (.im (.int a))) QR:=by
 refine qc h0 (by simpa using h1) λx hx=>?_
 rw[BD]at hx
 cases e:ns[a.toNat]? with
 | none=>rw[e]at hx;cases hx
 | some y=>rw[e]at hx;cases hx;exact q y e
theorem AL {ct:MT}{s1 s2:MS}{ρ:Rho}{Q:Fl->Rho->Prop}(M:Bool->Rho->Prop)(h:WT ct ρ M)(h1:∀ρ,M true ρ->WS s1 ρ Q)(h2:∀ρ,M false ρ->WS s2 ρ Q):WS (mIf ct s1 s2) ρ Q:=cN (WT.mono h λb ρ m=>⟨λe=>h1 ρ (e▸m),λe=>h2 ρ (e▸m)⟩)
theorem A4 {α:Type}{l:List α}{n:Nat}{a b : α}(ha:l[n]?=some a)(hb:l[n+1]?=some b):l=l.take n++a::b::l.drop (n+2):=by
 obtain⟨h1,e1⟩:=Bs.mp ha
 obtain⟨h2,e2⟩:=Bs.mp hb
 rw[←e1,←e2,CA,CA,CZ]
theorem A5 {α:Type}{l:List α}{n:Nat}{a b c : α}(ha:l[n]?=some a)(hb:l[n+1]?=some b)(hc:l[n+2]?=some c):l=l.take n++a::b::c::l.drop (n+3):=by
 obtain⟨h1,e1⟩:=Bs.mp ha
 obtain⟨h2,e2⟩:=Bs.mp hb
 obtain⟨h3,e3⟩:=Bs.mp hc
 rw[←e1,←e2,←e3,CA,CA,CA,CZ]
theorem pF {f:Int×Int}{rs:List Ru}(hne:rs≠[])(hl:rs.length<=1000)(hok:∀r∈rs,r.ok){Q:T->T->Prop}(q:∀r f',r.leaves=rs.flatMap Ru.leaves->r.ok->Q (.im (tRu r)) (fT f')):W2 (gt [fT f,.li (rs.map tRu)]) Q:=by
 refine runI_ok' [some ⟨.io 0,fT f⟩,some ⟨.vw none none,.li (rs.map tRu)⟩,none,none,none] rfl rfl rfl ?_
 unfold eS
 lia
 refine si (λs:(Int×Int)×List Ru=>[some ⟨.io 0,fT s.1⟩,some ⟨.vw none none,.li (rs.map tRu)⟩,some ⟨.ow,.li (s.2.map tRu)⟩,none,none]) (λs=>s.2≠[]/\s.2.length<=1000/\(∀r∈s.2,r.ok)/\s.2.flatMap Ru.leaves=rs.flatMap Ru.leaves) (λs=>s.2.length) (f,rs) (by cbv) ⟨hne,hl,hok,rfl⟩ λs ⟨hne,hl,hok,hfl⟩=>?_
 obtain⟨f,cs⟩:=s
 dsimp only at hne hl hok hfl⊢
 lia
 rw[Bw]
 clear_value hlen
 ·lia
  rw[Bw]
  refine am (by omega) (by omega) λat0 f ha0 ha1=>?_
  ac_nf
  lia
  refine AL (λb ρ=>∃f:Int×Int,ρ=[some ⟨.io 0,fT f⟩,some ⟨.vw none none,.li (rs.map tRu)⟩,some ⟨.ow,.li (cs.map tRu)⟩,some ⟨.ow,.im (.int at0)⟩,none]/\(b=true->2<cs.length)) ?_ ?_ ?_
  ·lia
   rw[Bw]
   clear_value h2
   ·lia
    refine am (by omega) (by omega) λd f hd0 hd1=>?_
    ac_nf
    lia
    exact⟨f,rfl,λ_=>by omega⟩
   ·exact⟨f,rfl,λz=>absurd z (by decide)⟩
  ·rintro ρ ⟨f,rfl,h2⟩
   have h2:=h2 rfl
   lia
   rw[Bw]
   generalize hat:(if(cs.length:Int)-3<at0 then(cs.length:Int)-3 else at0)=at1
   have ha:0<=at1/\at1+3<=cs.length:=by subst hat;split<;>omega
   refine gN (ns:=cs) ha.1 (by omega) λa ea=>?_
   lia
   refine gN (ns:=cs) (by omega) (by omega) λb eb=>?_
   lia
   refine gN (ns:=cs) (by omega) (by omega) λc ec=>?_
   lia
   rw[show(at1+1).toNat=at1.toNat+1 by omega]at eb
   rw[show(at1+2).toNat=at1.toNat+2 by omega]at ec
   have ecut:=A5 ea eb ec
   refine⟨[],cs.map tRu,_,_,at1,at1+3,rfl,rfl,rfl,by cbv,⟨ha.1,by omega,by simp;omega,by simp;rw[sizeLine_eq];omega⟩,rfl,rfl,?_⟩
   ac_nf
   lia
   refine⟨(f,cs.take at1.toNat++Ru.cond a b c::cs.drop (at1.toNat+3)),?_,?_,by simp,?_,?_,?_⟩
   ·rw[BL,Bt,CW,Dc,show(at1+3).toNat=at1.toNat+3 by omega,BK]
    cbv
   ·simp;omega
   ·simp;omega
   ·intro r hr
    rcases yaM hr with hr|hr
    ·exact hok r (Cl hr)
    ·rcases ycM hr with rfl|hr
     ·exact⟨hok a (ymG ea),hok b (ymG eb),hok c (ymG ec)⟩
     ·exact hok r (CN hr)
   ·rw[←hfl]
    conv=>rhs;rw[ecut]
    simp[Ru.leaves]
  ·rintro ρ ⟨f,rfl,_⟩
   lia
   refine am (by omega) (by omega) λd f hd0 hd1=>?_
   ac_nf
   lia
   refine gN (emb:=I.str) (ns:=lX) hd0 (by simpa[lX]using hd1) λsg esg=>?_
   lia
   refine gN (ns:=cs) ha0 (by omega) λa ea=>?_
   lia
   refine gN (ns:=cs) (by omega) (by omega) λb eb=>?_
   lia
   rw[show(at0+1).toNat=at0.toNat+1 by omega]at eb
   have ecut:=A4 ea eb
   refine⟨[],cs.map tRu,_,_,at0,at0+2,rfl,rfl,rfl,by cbv,⟨ha0,by omega,by simp;omega,by simp;rw[sizeLine_eq];omega⟩,rfl,rfl,?_⟩
   ac_nf
   lia
   refine⟨(f,cs.take at0.toNat++Ru.op sg a b::cs.drop (at0.toNat+2)),?_,?_,by simp,?_,?_,?_⟩
   ·rw[BL,Bt,CW,Dc,show(at0+2).toNat=at0.toNat+2 by omega,BK]
    cbv
   ·simp;omega
   ·simp;omega
   ·intro r hr
    rcases yaM hr with hr|hr
    ·exact hok r (Cl hr)
    ·rcases ycM hr with rfl|hr
     ·exact⟨ymG esg,hok a (ymG ea),hok b (ymG eb)⟩
     ·exact hok r (CN hr)
   ·rw[←hfl]
    conv=>rhs;rw[ecut]
    simp[Ru.leaves]
 ·lia
  obtain⟨r,rfl⟩:∃r,cs=[r]:=by
   match cs,hne,hlen with
   | [r],_,_=>exact⟨r,rfl⟩
   | _::_::_,_,h=>simp at h;omega
  lia
  exact q r f (by simpa using hfl) (hok r (by simp))
noncomputable def fiveS:List Str:=["min","max","rest","less","if"]
noncomputable def nmB (S:List Nat) (a:Nat) (ch k:Nat):List Nat:=S.take a++ch::S.drop a++(if k % 2=1 then [113]else [])
noncomputable def nmS (S:List Nat) (a:Nat) (ch k:Nat):Str:=if oL (nmB S a ch k)∈fiveS then oL (nmB S a ch k++[119])else oL (nmB S a ch k)
theorem Bf:113∈sL LET:=by decide +kernel
theorem Bo:119∈sL LET:=by decide +kernel
theorem sv:∀i<26,∀j<26,(sL LET).getD i 0=(sL LET).getD j 0->i=j:=by decide +kernel
theorem wf:∀z∈fiveS,oL (sL z++[119])∉fiveS:=by decide +kernel
theorem cS {S:List Nat}{a ch k:Nat}:(nmB S a ch k).length=S.length+1+k % 2:=by
 unfold nmB
 have h:k % 2=0∨k % 2=1:=by omega
 rw[BN,BN,BF,B9,Cd]
 rcases h with h|h<;>simp[h]<;>omega
theorem wF {S:List Nat}{a ch k:Nat}(hS:∀c∈S,c∈sL LET)(hc:ch∈sL LET):∀c∈nmB S a ch k,c∈sL LET:=λc h=>by
 unfold nmB at h
 rcases yaM h with h|h
 ·rcases yaM h with h|h
  ·exact hS c (Cl h)
  ·rcases ycM h with rfl|h
   ·exact hc
   ·exact hS c (CN h)
 ·split at h
  ·rw[ysM h];exact Bf
  ·cases h
theorem mV {S:List Nat}{a ch ch' k k':Nat}(h:nmB S a ch k=nmB S a ch' k'):ch=ch'/\k % 2=k' % 2:=by
 have hl:=congrArg CJ h
 rw[cS,cS]at hl
 have hk:k % 2=k' % 2:=by omega
 refine⟨?_,hk⟩
 unfold nmB at h
 rw[hk]at h
 have h2:=Dv h
 have h3:=List.append_cancel_left h2
 exact(Cu.inj h3).1
theorem kZ {S:List Nat}{a ch k:Nat}(hk:k % 2=1):(nmB S a ch k).getLast?=some 113:=by
 unfold nmB
 rw[if_pos hk,Df]
 rfl
theorem j5 {x y:List Nat}(h:oL x=oL y):x=y:=congrArg sL h
theorem tm {S:List Nat}{a ch ch' k k':Nat}(h:nmS S a ch k=nmS S a ch' k'):ch=ch'/\k % 2=k' % 2:=by
 unfold nmS at h
 split at h<;>split at h
 ·exact mV (Dv (j5 h))
 ·have h':=j5 h
  have hl:=congrArg CJ h'
  rw[BN,cS,cS]at hl
  have hk:k' % 2=1:=by simp at hl;omega
  have:=kZ (S:=S) (a:=a) (ch:=ch') hk
  rw[←h',Df]at this
  cases this
 ·have h':=j5 h
  have hl:=congrArg CJ h'
  rw[BN,cS,cS]at hl
  have hk:k % 2=1:=by simp at hl;omega
  have:=kZ (S:=S) (a:=a) (ch:=ch) hk
  rw[h',Df]at this
  cases this
 ·exact mV (j5 h)
def dt (z:Str):Prop:=1<=z.length/\z.length<=8/\z∉fiveS/\∀c∈sL z,c∈sL LET
theorem wG {S:List Nat}{a ch k:Nat}(hS:∀c∈S,c∈sL LET)(hc:ch∈sL LET)(hl:S.length<=5):dt (nmS S a ch k):=by
 have hb:=wF (a:=a) (k:=k) hS hc
 have hlen:=cS (S:=S) (a:=a) (ch:=ch) (k:=k)
 unfold dt nmS
 split
 ·rename_i c
  have h1:(oL (nmB S a ch k++[119])).length=S.length+1+k % 2+1:=by rw[cZ,cK,BN,hlen];rfl
  refine⟨by omega,by omega,wf _ c,λx hx=>?_⟩
  rw[cK]at hx
  rcases yaM hx with h|h
  ·exact hb x h
  ·rw[ysM h];exact Bo
 ·rename_i c
  have h1:(oL (nmB S a ch k)).length=S.length+1+k % 2:=by rw[cZ,cK,hlen]
  exact⟨by omega,by omega,c,λx hx=>hb x (by rwa [cK]at hx)⟩
theorem pf {α:Type}{xs:List α}{n:Nat}(h:n<=xs.length):cb xs none (some (n:Int))=xs.take n:=by
 unfold cb
 rw[HT.sIx_none,HT.sIx_nat,Dk h]
 simp
theorem pe {α:Type}{xs:List α}{n:Nat}(h:n<=xs.length):cb xs (some (n:Int)) none=xs.drop n:=by
 unfold cb
 rw[HT.sIx_none,HT.sIx_nat,Dk h]
 exact B6 (by rw[Cd];exact Bz _)
theorem jB:∀{zs:List Str},ln (zs.map I.str)=some zs
 | []=>rfl
 | z::zs=>by rw[Bt,ln,jB];rfl
theorem w6 {z:Str}{zs:List Str}{QT1:T->Prop}(h:(zs.map (·.length)).sum+zs.length*z.length<=16777216)(q:QT1 (.im (.str (Txt.join z zs)))):W1 (ik (.im (.str z)) [.li (zs.map .str)]) QT1:=w1 (by simp only[ik,jB];rw[if_pos h]) q
theorem lQ {β:Type}{g:Nat->β}{n:Nat}(hf:∀x<n,∀y<n,g x=g y->x=y):((B1 n).map g).Nodup:=gk List.nodup_range λx hx y hy e=>hf x (C1.mp hx) y (C1.mp hy) e
noncomputable def ee (S:List Nat) (a fn m:Nat):List Str:=(B1 m).map λk=>nmS S a ((sL LET).getD ((fn+5*k) % 26) 0) k
theorem mn {i:Nat}(h:i<26):(sL LET)[i]?=some ((sL LET).getD i 0):=by
 rw[BO,BU (by rw[jG];exact h)];rfl
theorem pZ {S:List Nat}{a fn m:Nat}(hS:∀c∈S,c∈sL LET)(hl:S.length<=5)(hm:m<=6):(ee S a fn m).length=m/\(ee S a fn m).Nodup/\∀z∈ee S a fn m,dt z:=by
 refine⟨by simp[ee],lQ λx hx y hy e=>?_,λz hz=>?_⟩
 ·have:=sv _ (Dq _ (by decide)) _ (Dq _ (by decide)) (tm e).1
  omega
 ·obtain⟨k,hk,rfl⟩:=BB.mp hz
  exact wG hS (ymG (mn (Dq _ (by decide)))) hl
theorem pY {f:Int×Int}{m:Int}(h1:0<=m)(h2:m<=6){Q:T->T->Prop}(q:∀(zs:List Str) f',zs.length=m.toNat->zs.Nodup->(∀z∈zs,dt z)->Q (.li (zs.map .str)) (fT f')):W2 (gx [fT f,.im (.int m)]) Q:=by
 refine runI_ok' [some ⟨.io 0,fT f⟩,some ⟨.ow,.im (.int m)⟩,none,none,none,none,none,none,none] rfl rfl rfl ?_
 unfold eU
 lia
 refine bU (λf:Int×Int=>[some ⟨.io 0,fT f⟩,some ⟨.ow,.im (.int m)⟩,some ⟨.ow,.im (.str LET)⟩,none,none,none,none,none,none]) I.str (λj _ l=>l.length=j/\∀z∈l,∃ch,ch∈sL LET/\z=⟨#[ch]⟩) ?_
 lia
 refine am (by omega) (by omega) λd f hd0 hd1=>?_
 ac_nf
 lia
 refine⟨⟨by omega,by omega⟩,by cbv,f,by cbv,⟨rfl,by simp⟩,λj f l hj ⟨hl,hx⟩=>?_,λf zs ⟨hl,hx⟩=>?_⟩
 ·lia
  refine am (by omega) (by omega) λd f hd0 hd1=>?_
  ac_nf
  lia
  refine qb (s:=LET) (by rw[LET_len',sizeLine_eq];omega) hd0 (by rw[jG];exact hd1) λc hc=>?_
  exact⟨⟨#[c]⟩,f,rfl,by cbv,by simp[hl],aJ hx ⟨c,ymG hc,rfl⟩⟩
 lia
 have sum1:∀zs:List Str,(∀z∈zs,∃ch,ch∈sL LET/\z=⟨#[ch]⟩)->(zs.map (·.length)).sum=zs.length:=λzs h=>by
  induction zs with
  | nil=>rfl
  | cons z zs ih=>
   obtain⟨ch,_,e⟩:=h z ymS
   rw[Bt,DY,ih λy hy=>h y (ymC _ hy),BF,e]
   show 1+zs.length=_
   omega
 have e0:("" : Str)=oL []:=by decide +kernel
 have e1:(("" : Str)).length=0:=by decide +kernel
 refine w6 (zs:=zs) (by rw[sum1 zs hx,e1];omega) ?_
 have hst:sL (Txt.join "" zs)=(zs.map sL).flatten:=by rw[e0];exact nR zs
 have hSl:(sL (Txt.join "" zs)).length<=5:=by
  rw[hst,List.length_flatten,BR]
  have:(zs.map (CJ∘sL)).sum=zs.length:=by rw[←sum1 zs hx];congr 1
  omega
 have hS:∀c∈sL (Txt.join "" zs),c∈sL LET:=λc hc=>by
  rw[hst]at hc
  obtain⟨l,hl',hc⟩:=Ec.mp hc
  obtain⟨z,hz,rfl⟩:=BB.mp hl'
  obtain⟨ch,hch,rfl⟩:=hx z hz
  have:c=ch:=by simpa using hc
  rw[this];exact hch
 generalize Txt.join "" zs=stem at *
 have hst5:stem.length<=5:=by rw[cZ];exact hSl
 have hlc:∀l:List Nat,(oL l).length=l.length:=λl=>by rw[cZ,cK]
 lia
 refine am (by omega) (by omega) λfi f hf0 hf1=>?_
 ac_nf
 lia
 refine xb (by rw[sizeLine_eq];omega) ?_
 lia
 refine am (by omega) (by omega) λat0 f ha0 ha1=>?_
 ac_nf
 lia
 obtain⟨a,rfl⟩:∃a:Nat,at0=(a:Int):=⟨at0.toNat,by omega⟩
 obtain⟨fn,rfl⟩:∃a:Nat,fi=(a:Int):=⟨fi.toNat,by omega⟩
 have ha5:a<=(sL stem).length:=by rw[←cZ];omega
 try ac_nf
 lia
 refine br (λk:Nat=>[some ⟨.io 0,fT f⟩,some ⟨.ow,.im (.int m)⟩,some ⟨.ow,.im (.str LET)⟩,some ⟨.ow,.im (.str stem)⟩,some ⟨.ow,.im (.int fn)⟩,some ⟨.ow,.im (.int a)⟩,some ⟨.ow,.li ((ee (sL stem) a fn k).map .str)⟩,none,none]) (λj k=>k=j) ?_
 lia
 refine⟨⟨by omega,by omega⟩,0,by cbv,rfl,λi k hi hk=>?_,λk hk=>?_⟩
 ·subst hk
  have hidx:((fn:Int)+5*(k:Int)) % 26=(((fn+5*k) % 26:Nat):Int):=by omega
  have hilt:(fn+5*k) % 26<26:=Dq _ (by decide)
  have hche:=mn hilt
  have hne:ee (sL stem) a fn (k+1)=ee (sL stem) a fn k++[nmS (sL stem) a ((sL LET).getD ((fn+5*k) % 26) 0) k]:=by simp[ee,Eh]
  generalize (sL LET).getD ((fn+5*k) % 26) 0=ch at hche hne
  lia
  refine vo (by rw[sizeLine_eq];omega) ?_
  rw[pf ha5]
  lia
  rw[hidx]
  refine qb (s:=LET) (by rw[LET_len',sizeLine_eq];omega) (by omega) (by rw[jG];omega) λc hc=>?_
  rw[BM,hche]at hc
  cases hc
  lia
  refine j6 (by rw[hlc,B9,sizeLine_eq];show _+1<=_;omega) ?_
  lia
  refine vo (by rw[sizeLine_eq];omega) ?_
  rw[pe ha5]
  lia
  refine j6 (by rw[cZ,iM,cK,hlc,sizeLine_eq,BN,B9,Cd];show _+1+_<=_;omega) ?_
  have en:(oL ((sL stem).take a)++(⟨#[ch]⟩:Str))++oL ((sL stem).drop a)=oL ((sL stem).take a++ch::(sL stem).drop a):=by
   apply ko
   rw[iM,iM,cK,cK,cK]
   simp
  rw[en]
  lia
  refine WS.mono (Q:=λfl ρ=>fl=.nx/\ρ=[some ⟨.io 0,fT f⟩,some ⟨.ow,.im (.int m)⟩,some ⟨.ow,.im (.str LET)⟩,some ⟨.ow,.im (.str stem)⟩,some ⟨.ow,.im (.int fn)⟩,some ⟨.ow,.im (.int a)⟩,some ⟨.ow,.li ((ee (sL stem) a fn k).map .str)⟩,some ⟨.ow,.im (.int k)⟩,some ⟨.ow,.im (.str (oL (nmB (sL stem) a ch k)))⟩]) ?_ ?_
  ·(refine cN ?_;lia;clear_value hk2)
   ·lia
    refine j6 (by rw[hlc,BN,BF,B9,Cd,sizeLine_eq];show _+1<=_;omega) ?_
    have eq:oL ((sL stem).take a++ch::(sL stem).drop a)++("q" : Str)=oL (nmB (sL stem) a ch k):=by
     apply ko
     rw[iM,cK,cK]
     unfold nmB
     rw[if_pos (by omega)]
     rfl
    rw[eq]
    lia
    exact⟨by trivial,by first|trivial|cbv⟩
   ·lia
    have eq:(sL stem).take a++ch::(sL stem).drop a=nmB (sL stem) a ch k:=by
     unfold nmB
     rw[if_neg (by omega)]
     simp
    rw[eq]
    exact⟨by trivial,by first|trivial|cbv⟩
  rintro fl ρ ⟨rfl,rfl⟩
  have hnl:(oL (nmB (sL stem) a ch k)).length<=7:=by rw[hlc,cS];omega
  lia
  refine WS.mono (Q:=λfl ρ=>fl=.nx/\ρ=[some ⟨.io 0,fT f⟩,some ⟨.ow,.im (.int m)⟩,some ⟨.ow,.im (.str LET)⟩,some ⟨.ow,.im (.str stem)⟩,some ⟨.ow,.im (.int fn)⟩,some ⟨.ow,.im (.int a)⟩,some ⟨.ow,.li ((ee (sL stem) a fn k).map .str)⟩,some ⟨.ow,.im (.int k)⟩,some ⟨.ow,.im (.str (nmS (sL stem) a ch k))⟩]) ?_ ?_
  ·refine cN ?_
   lia
   refine zw (is:=fiveS.map .str) ⟨rfl,by decide +kernel,by decide +kernel⟩ ?_
   lia
   clear_value hw
   ·have hw':oL (nmB (sL stem) a ch k)∈fiveS:=by simpa using hw
    lia
    have hw1:(("w" : Str)).length=1:=by decide +kernel
    refine j6 (by rw[sizeLine_eq];omega) ?_
    have eq:oL (nmB (sL stem) a ch k)++("w" : Str)=nmS (sL stem) a ch k:=by
     unfold nmS
     rw[if_pos hw']
     apply ko
     rw[iM,cK,cK]
     rfl
    rw[eq]
    lia
    exact⟨by trivial,by first|trivial|cbv⟩
   ·have hw':oL (nmB (sL stem) a ch k)∉fiveS:=by simpa using hw
    have eq:oL (nmB (sL stem) a ch k)=nmS (sL stem) a ch k:=by unfold nmS;rw[if_neg hw']
    rw[eq]
    lia
    exact⟨by trivial,by first|trivial|cbv⟩
  rintro fl ρ ⟨rfl,rfl⟩
  lia
  refine cF (by simp[ee];rw[sizeLine_eq];omega) ?_
  ac_nf
  lia
  refine⟨k+1,?_,rfl⟩
  rw[hne,BL]
  cbv
 ·subst hk
  lia
  obtain⟨n1,n2,n3⟩:=pZ (S:=sL stem) (a:=a) (fn:=fn) (m:=m.toNat) hS hSl (by omega)
  exact q _ f n1 n2 n3
noncomputable def eI (p:Str×Ru):I:=.tup [.str p.1,tRu p.2]
noncomputable def eJ (w wh:Int) (ds:List (Str×Ru)):I:=.tup [.int w,.int wh,.tup (ds.map eI)]
def j1:Ru->Prop
 | .num _=>True
 | .rd _ _=>True
 | _=>False
theorem n9 {r:Ru}(h:j1 r):r.leaves=[r]:=by cases r<;>first|rfl|cases h
theorem jl:∀{rs:List Ru},(∀r∈rs,j1 r)->rs.flatMap Ru.leaves=rs
 | [],_=>rfl
 | r::rs,h=>by rw[BE,n9 (h r ymS),jl λx hx=>h x (ymC _ hx)];rfl
def LeafOk (ns:List Str)(w:Int):Ru->Prop
 | .num n=>0<=n/\n<=1000000000
 | .rd x row=>x∈ns/\row.length=w.toNat
 | _=>False
theorem LeafOk.leaf {ns:List Str}{w:Int}{r:Ru}(h:LeafOk ns w r):j1 r:=by cases r<;>first|trivial|cases h
theorem sW {r:Ru}(h:j1 r):r.ok:=by cases r<;>first|trivial|cases h
def Cov (n:Nat)(rs:List Ru):Prop:=∃L:List (Str×List Int),L.length<=n/\∀x row,Ru.rd x row∈rs->(x,row)∈L
def o0 (c:Nat)(ns:List Str)(w:Int)(n:Nat)(r:Ru):Prop:=r.ok/\r.leaves.length<=c/\(∀l∈r.leaves,LeafOk ns w l)/\Cov n r.leaves
def mj (c:Nat)(w wh:Int)(ds:List (Str×Ru)):Prop:=1<=w/\w<=3/\2<=wh/\wh<=1000000000/\1<=ds.length/\ds.length<=6/\(ds.map (·.1)).Nodup/\(∀z∈ds.map (·.1),dt z)/\∃n,n*ds.length<=16/\∀p∈ds,o0 c (ds.map (·.1)) w n p.2
theorem ka:∀{l:List (Str×List Int)},I.doks (l.map λp=>tRu (.rd p.1 p.2))=true/\I.deps (l.map λp=>tRu (.rd p.1 p.2))<=50
 | []=>⟨rfl,by decide⟩
 | p::l=>by
  have ih:=ka (l:=l)
  have hi:∀row:List Int,I.doks (row.map I.int)=true/\I.deps (row.map I.int)=0:=λrow=>by
   induction row with
   | nil=>exact⟨rfl,rfl⟩
   | cons x row ih=>exact⟨by rw[Bt,I.doks,ih.1];rfl,by rw[Bt,I.deps,ih.2];rfl⟩
  refine⟨?_,?_⟩
  ·rw[Bt,I.doks,ih.1]
   simp only[tRu,I.dok,I.doks,(hi p.2).1]
   rfl
  ·rw[Bt,I.deps]
   have h1:I.dep (tRu (.rd p.1 p.2))<=50:=by simp only[tRu,I.dep,I.deps,(hi p.2).2];decide
   have:=ih.2
   omega
theorem eK {α:Type}{xs:List α}{v:Int}(h:0<=v):cb xs none (some v)=xs.take v.toNat:=by
 obtain⟨n,rfl⟩:∃n:Nat,v=n:=⟨v.toNat,by omega⟩
 unfold cb
 rw[HT.sIx_none,HT.sIx_nat,BM,Ek,Nat.sub_zero]
 rcases Nat.le_total n xs.length with h|h
 ·rw[Dk h]
 ·rw[Nat.min_eq_right h,B6 h,B6 (Bz _)]
theorem pH {f:Int×Int}{Q:T->T->Prop}(q:∀w wh ds f',mj 10 w wh ds->Q (.im (eJ w wh ds)) (fT f')):W2 (gv [fT f]) Q:=by
 refine runI_ok' [some ⟨.io 0,fT f⟩,none,none,none,none,none,none,none,none,none] rfl rfl rfl ?_
 unfold eT
 lia
 refine rj λw m ls f hw1 hw2 hm1 hm2 hL=>?_
 ac_nf
 lia
 refine am (by omega) (by omega) λd1 f a1 b1=>?_
 ac_nf
 lia
 refine am (by omega) (by omega) λd2 f a2 b2=>?_
 ac_nf
 lia
 refine am (by omega) (by omega) λd3 f a3 b3=>?_
 ac_nf
 lia
 refine am (by omega) (by omega) λd4 f a4 b4=>?_
 ac_nf
 lia
 refine aY (ns:=[2+d1,2+d2,1000000000-d3]) a4 (by simpa using b4) λwh hwh _=>?_
 have hwh':2<=wh/\wh<=1000000000:=by simp at hwh;omega
 lia
 have hlm:((ls.map ax).length:Int)=m:=by rw[Bw,hL.1];omega
 rw[hlm]
 refine pY (by omega) hm2 λzs f hzl hzn hzo=>?_
 ac_nf
 lia
 refine br (λs:(Int×Int)×List (Str×Ru)=>[some ⟨.io 0,fT s.1⟩,some ⟨.ow,.im (.int w)⟩,some ⟨.ow,.lst (ls.map ax)⟩,some ⟨.ow,.im (.int wh)⟩,some ⟨.ow,.li (zs.map .str)⟩,some ⟨.ow,.li (s.2.map eI)⟩,none,none,none,none]) (λj s=>s.2.map (·.1)=zs.take j/\∀p∈s.2,o0 10 zs w (16 / m.toNat) p.2) ?_
 lia
 rw[hlm]
 refine⟨⟨by omega,by omega⟩,(f,[]),by cbv,⟨rfl,by simp⟩,λx s hx ⟨hd1,hd2⟩=>?_,λs ⟨hd1,hd2⟩=>?_⟩
 ·obtain⟨f,ds⟩:=s
  dsimp only at hd1 hd2⊢
  obtain⟨l,hl,hl7,hlP⟩:=hL.get (n:=x) (by omega)
  lia
  refine dr (λ_:Unit=>[some ⟨.io 0,fT f⟩,some ⟨.ow,.im (.int w)⟩,some ⟨.ow,.lst (ls.map ax)⟩,some ⟨.ow,.im (.int wh)⟩,some ⟨.ow,.li (zs.map .str)⟩,some ⟨.ow,.li (ds.map eI)⟩,some ⟨.ow,.im (.int x)⟩,none,none,none]) (λp:Str×List Int=>tRu (.rd p.1 p.2)) (λj _ L=>L.length=j/\∀p∈L,p.1∈zs/\p.2.length=w.toNat) ?_
  lia
  refine lR (u:=ax l) (kd:=.vw (some 2) (some [.ix x])) (by omega) (by rw[BM,BD,hl];rfl) (dq l) rfl ?_
  lia
  rw[hlm]
  rw[eK (Int.ediv_nonneg (by omega) (by omega)),←CW]
  refine⟨(l.take (16 / m).toNat).map tRd,rfl,by simp;rw[sizeLine_eq];omega,by cbv,(),by cbv,⟨rfl,by simp⟩,λj x' _ L hx' ⟨hLl,hLx⟩=>?_,λ_ L ⟨hLl,hLx⟩=>?_⟩
  ·rw[BD]at hx'
   cases e:(l.take (16 / m).toNat)[j]? with
   | none=>rw[e]at hx';cases hx'
   | some p=>
    rw[e]at hx';cases hx'
    have hp:=hlP p (Cl (ymG e))
    obtain⟨p0,p1,p2,p3⟩:=hp
    lia
    refine gN (emb:=I.str) (ns:=zs) p0 (by omega) λz hz=>?_
    lia
    exact⟨(z,p.2),(),rfl,by cbv,by simp[hLl],aJ hLx ⟨ymG hz,p2⟩⟩
  rw[Bw]at hLl
  have hLn:L.length<=16 / m.toNat:=by
   rw[hLl,B9]
   have:(16 / m).toNat=16 / m.toNat:=by
    obtain⟨n,rfl⟩:∃n:Nat,m=n:=⟨m.toNat,by omega⟩
    rw[BM];exact congrArg Int.toNat (Int.natCast_ediv 16 n).symm
   omega
  have hL7:L.length<=7:=by rw[hLl,B9];omega
  lia
  refine br (λs:(Int×Int)×List Ru=>[some ⟨.io 0,fT s.1⟩,some ⟨.ow,.im (.int w)⟩,some ⟨.ow,.lst (ls.map ax)⟩,some ⟨.ow,.im (.int wh)⟩,some ⟨.ow,.li (zs.map .str)⟩,some ⟨.ow,.li (ds.map eI)⟩,some ⟨.ow,.im (.int x)⟩,some ⟨.ow,.li (s.2.map tRu)⟩,none,none]) (λj s=>s.2.length=L.length+j/\(∀r∈s.2,LeafOk zs w r)/\∀y row,Ru.rd y row∈s.2->(y,row)∈L) ?_
  lia
  refine am (by omega) (by omega) λd f hd0 hd1'=>?_
  ac_nf
  lia
  refine zv (js:=[]) ⟨ka.1,rfl,ka.2⟩ ?_
  lia
  have hk:∀b:Bool,0<=(if b then 1 else 0:Int)/\(if b then 1 else 0:Int)<=1:=λb=>by cases b<;>decide
  have hk':=hk (decide (L.map (λp=>tRu (.rd p.1 p.2))=[]))
  have hk0:L=[]->(if(decide (L.map (λp=>tRu (.rd p.1 p.2))=[]))=true then 1 else 0:Int)=1:=λz=>by rw[z];rfl
  generalize (if(decide (L.map (λp=>tRu (.rd p.1 p.2))=[]))=true then 1 else 0:Int)=kk at *
  refine⟨⟨by omega,by omega⟩,(f,L.map λp=>.rd p.1 p.2),by rw[BR];cbv,⟨by simp,λr hr=>?_,λy row hr=>?_⟩,λj s hj ⟨hs1,hs2,hs3⟩=>?_,λs ⟨hs1,hs2,hs3⟩=>?_⟩
  ·obtain⟨p,hp,rfl⟩:=BB.mp hr
   exact hLx p hp
  ·obtain⟨p,hp,e⟩:=BB.mp hr
   cases e;exact hp
  ·obtain⟨f,rs⟩:=s
   dsimp only at hs1 hs2 hs3⊢
   lia
   refine am (by omega) (by omega) λe1 f he0 he1=>?_
   ac_nf
   lia
   refine aY (ns:=[9,1000000001]) he0 (by simpa using he1) λtop htop _=>?_
   have htop':1<=top/\top<=1000000001:=by simp at htop;omega
   lia
   refine am (by omega) (by omega) λnum f hn0 hn1=>?_
   ac_nf
   lia
   rw[Bw]
   refine am (by omega) (by omega) λat0 f ha0 ha1=>?_
   ac_nf
   lia
   refine vj (is:=rs.map tRu) ⟨ha0,by simp;omega,by simp;rw[sizeLine_eq];omega⟩ ?_
   ac_nf
   lia
   refine⟨(f,rs.take at0.toNat++Ru.num num::rs.drop at0.toNat),?_,by simp;omega,λr hr=>?_,λy row hr=>?_⟩
   ·rw[BL,Bt,CW,Dc]
    cbv
   ·rcases yaM hr with hr|hr
    ·exact hs2 r (Cl hr)
    ·rcases ycM hr with rfl|hr
     ·exact⟨hn0,by omega⟩
     ·exact hs2 r (CN hr)
   ·rcases yaM hr with hr|hr
    ·exact hs3 y row (Cl hr)
    ·rcases ycM hr with hr|hr
     ·cases hr
     ·exact hs3 y row (CN hr)
  ·obtain⟨f,rs⟩:=s
   dsimp only at hs1 hs2 hs3⊢
   lia
   refine gN (emb:=I.str) (ns:=zs) (by omega) (by omega) λz hz=>?_
   lia
   refine pF (rs:=rs) (λh0=>?_) (by omega) (λr hr=>sW (hs2 r hr).leaf) λr f hrl hro=>?_
   ·rw[h0]at hs1
    have hL0:L=[]:=CT (by simp at hs1;omega)
    have:=hk0 hL0
    simp at hs1
    omega
   rw[jl λr hr=>(hs2 r hr).leaf]at hrl
   ac_nf
   lia
   refine cF (is:=ds.map eI) (by
    have:ds.length<=zs.length:=by rw[←Bw (f:=λp:Str×Ru=>p.1),hd1];simp;omega
    simp;rw[sizeLine_eq];omega) ?_
   ac_nf
   lia
   refine⟨(f,ds++[(z,r)]),?_,?_,aJ hd2 ⟨hro,by rw[hrl];omega,by rw[hrl];exact hs2,L,hLn,by rw[hrl];exact hs3⟩⟩
   ·rw[BL]
    cbv
   ·rw[BL,hd1,List.take_succ]
    rw[BM]at hz
    rw[hz];rfl
 ·obtain⟨f,ds⟩:=s
  dsimp only at hd1 hd2⊢
  lia
  rw[B6 (by omega)]at hd1
  have hlen:ds.length=m.toNat:=by rw[←hzl,←hd1,Bw]
  refine q w wh ds f ⟨hw1,hw2,hwh'.1,hwh'.2,by omega,by omega,by rw[hd1];exact hzn,by rw[hd1];exact hzo,16 / m.toNat,?_,by rw[hd1];exact hd2⟩
  rw[hlen];exact Nat.div_mul_le_self 16 m.toNat
section
variable  {a b m:ME}{ρ:Rho}{QF:R->Rho->Prop}{QG':Rho->Prop}{Q:T->Prop}
theorem Bn (q:QF ⟨.ow,.di []⟩ ρ):WE mDN ρ QF:=by with_unfolding_all exact⟨_,_,rfl,q⟩
theorem yE (h:WE m ρ λr ρ1=>∃i,pB r=some i/\QF ⟨.ow,.im i⟩ ρ1):WE (jo m) ρ QF:=by with_unfolding_all
 obtain⟨r,ρ1,e,i,e2,q⟩:=h
 exact⟨_,_,by simp only[jo,e,e2],q⟩
theorem uW {j:Nat}{tv:T}(h:WE a ρ λra ρ1=>WE b ρ1 λrb ρ2=>AtS j ra λp s=>Gu (!b.mu.contains j) (AtM j ρ2 λk t=>W1 (mJ s rb.t tv) λs'=>QG' ((ao [j] ρ2).set j (some ⟨k,t.put p s'⟩)))):WG (jn j a b) ⟨.ow,tv⟩ ρ QG':=by
 obtain⟨ra,ρ1,e1,rb,ρ2,e2,p,s,rfl,hm,k,t,e3,ow,s',e4,q⟩:=h
 refine⟨_,?_,q⟩
 simp only[jn,e1,e2,hm,decide_true,C6,if_true,e4,e3,ow]
theorem jh:∀ns:List Int,ig (ns.map .int)=some ns
 | []=>rfl
 | n::ns=>by rw[Bt,ig,jh ns];rfl
theorem vp {ns:List Int}(q:Q (.im (.int ns.sum))):W1 (oT [.li (ns.map .int)]) Q:=by with_unfolding_all
 refine w1 (x:=.im (.int ns.sum)) ?_ q
 show(ig (ns.map .int)).map _=_
 rw[jh];rfl
theorem w8 {kvs:List (I×I)}(q:Q (.li (kvs.map (·.1)))):W1 (kP [.di kvs]) Q:=by with_unfolding_all exact⟨_,rfl,q⟩
theorem vh {ks:List Key}{is:List I}{z:Str}{v:I}(h:gJ ks is (.inr z)=some v)(q:Q (.im v)):W1 (nP (.im (.fd ks is)) (.im (.str z))) Q:=by with_unfolding_all
 refine w1 (x:=.im v) ?_ q
 show(gJ ks is (.inr z)).map _=_
 rw[h];rfl
theorem qh {i:I}(h0:wq i=true)(h:gm i=true)(q:Q (.im (.str i.pd.shown))):W1 (jx [.im i]) Q:=by with_unfolding_all
 refine w1 (x:=.im (.str i.pd.shown)) ?_ q
 show(if(wq i&&gm i)=true then _ else _)=_
 rw[if_pos (by rw[h0,h];rfl)]
theorem wW {kvs:List (I×I)}{z:Str}{v:I}(h:(bu kvs (.str z) v).length<=sizeLine)(q:Q (.di (bu kvs (.str z) v))):W1 (mJ (.di kvs) (.im (.str z)) (.im v)) Q:=by
 refine w1 (x:=.di (bu kvs (.str z) v)) ?_ q
 show(if(bu kvs (.str z) v).length<=sizeLine then _ else _)=_
 rw[if_pos h]
end
noncomputable def big:Int:=1000000000
theorem ib {f:Int×Int}{Q:T->T->Prop}(q:∀x f',-1000000000<=x->x<=1000000000->Q (.im (.int x)) (fT f')):W2 (dm [fT f]) Q:=by
 refine runI_ok' [some ⟨.io 0,fT f⟩] rfl rfl rfl ?_
 unfold eR
 lia
 refine am (by omega) (by omega) λd1 f a1 b1=>?_
 ac_nf
 lia
 refine am (by omega) (by omega) λd2 f a2 b2=>?_
 ac_nf
 lia
 refine am (by omega) (by omega) λd3 f a3 b3=>?_
 ac_nf
 lia
 refine aY (ns:=[d1-4,d2-1000000000]) (by omega) (by simp;omega) λy hy _=>?_
 have hy':y=d1-4∨y=d2-1000000000:=by simpa using hy
 lia
 exact q y f (by omega) (by omega)
noncomputable def dot (a b:List Int):Int:=((a.zip b).map λp=>p.1*p.2).sum
theorem o7 {a b:List Int}(ha:a.length<=1000)(hb:∀x∈a,-1000000000<=x/\x<=1000000000){Q:T->Prop}(q:Q (.im (.int (dot a b)))):W1 (gA [.im (.tup (a.map .int)),.im (.tup (b.map .int))]) Q:=by
 refine runP_ok' [some ⟨.ow,.im (.tup (a.map .int))⟩,some ⟨.ow,.im (.tup (b.map .int))⟩] rfl rfl rfl ?_
 unfold eX
 lia
 refine r8 (λ_:Unit=>[some ⟨.ow,.im (.tup (a.map .int))⟩,some ⟨.ow,.im (.tup (b.map .int))⟩]) I.int (λj _ l=>l=((a.zip b).take j).map λp=>p.1*p.2) ?_
 lia
 refine⟨_,_,false,false,a.map .int,b.map .int,rfl,rfl,rfl,by simp;rw[sizeLine_eq];omega,by cbv,(),by cbv,rfl,λj x y _ l hx hy hP=>?_,λ_ l hP=>?_⟩
 ·obtain⟨x',hx',rfl⟩:=aN hx
  obtain⟨y',hy',rfl⟩:=aN hy
  lia
  have h1:=hb x' (ymG hx')
  refine k7 (tf (by omega) (by omega)) ?_
  refine⟨x'*y',(),rfl,by cbv,?_⟩
  rw[hP,CM,show(a.zip b)[j]?=some (x',y')from by rw[CG];exact⟨hx',hy'⟩]
  simp
 ·rw[Bw,Bw,←Di,CS]at hP
  subst hP
  lia
  refine vp ?_
  lia
  exact q
noncomputable def fg (h:List Int×Int):I:=.tup [.tup (h.1.map .int),.int h.2]
noncomputable def cL (v:Int×List (List Int×Int)):I:=.tup [.int v.1,.tup (v.2.map fg)]
abbrev Clk:=List (Str×Int×List (List Int×Int))
noncomputable def fb (c:Clk):I:=.fd (c.map λp=>.inr p.1) (c.map λp=>cL p.2)
noncomputable def iN (l:List Int):I:=.tup (l.map .int)
def Bnd (x:Int):Prop:=-1000000000<=x/\x<=1000000000
def lw (n:Nat)(h:List Int×Int):Prop:=h.1.length=n/\(∀x∈h.1,Bnd x)/\Bnd h.2
def gF (n:Nat)(v:Int×List (List Int×Int)):Prop:=Bnd v.1/\v.2.length<=6/\∀h∈v.2,lw n h
theorem gb {z:Str}{v:Int×List (List Int×Int)}:∀{c:Clk},(c.map (·.1)).Nodup->(z,v)∈c->gJ (c.map λp=>.inr p.1) (c.map λp=>cL p.2) (.inr z)=some (cL v)
 | d::ds,hn,hm=>by
  rw[Bt,BS]at hn
  rw[Bt,Bt,gJ]
  rcases ycM hm with rfl|hm
  ·rw[if_pos rfl]
  ·have:d.1≠z:=λe=>hn.1 (e▸BB.mpr ⟨_,hm,rfl⟩)
   rw[if_neg (λe=>this (Sum.inr.inj e))]
   exact gb hn.2 hm
theorem uO {c:Clk}{z:Str}{kn:Int}{hs:List (List Int×Int)}{pl:List Int}(hn:(c.map (·.1)).Nodup)(hm:(z,kn,hs)∈c)(hv:gF pl.length (kn,hs))(hp:pl.length<=3){Q:T->Prop}
  (q:Q (.im (.tup ((kn::hs.map λh=>dot h.1 pl+h.2).map .int)))):W1 (eB [.im (fb c),.im (.tup [.str z,iN pl])]) Q:=by
 obtain⟨_,v2,v3⟩:=hv
 dsimp only at v2 v3
 refine runP_ok' [some ⟨.ow,.im (fb c)⟩,some ⟨.ow,.im (.tup [.str z,iN pl])⟩,none,none,none,none] rfl rfl rfl ?_
 unfold cQ
 lia
 refine vh (gb hn hm) ?_
 rw[cL]
 lia
 refine dr (λ_:Unit=>[some ⟨.ow,.im (fb c)⟩,some ⟨.ow,.im (.tup [.str z,iN pl])⟩,some ⟨.ow,.im (.str z)⟩,some ⟨.ow,.im (iN pl)⟩,some ⟨.ow,.im (.int kn)⟩,some ⟨.ow,.im (.tup (hs.map fg))⟩]) I.int (λj _ l=>l=(hs.take j).map λh=>dot h.1 pl+h.2) ?_
 lia
 refine⟨hs.map fg,rfl,by rw[Bw,sizeLine_eq];omega,by cbv,(),by cbv,rfl,λj x _ l hx hP=>?_,λ_ l hP=>?_⟩
 ·obtain⟨h,hx',rfl⟩:=aN hx
  obtain⟨h1,h2,h3⟩:=v3 h (ymG hx')
  rw[fg]
  lia
  refine o7 (a:=h.1) (b:=pl) (by omega) h2 ?_
  lia
  exact⟨dot h.1 pl+h.2,(),rfl,by cbv,by rw[hP,CM,hx'];simp⟩
 ·rw[Bw,CS]at hP
  subst hP
  lia
  refine fv (is:=[.int kn]) (by simp;rw[sizeLine_eq];omega) ?_
  lia
  exact q
theorem nq:∀(a b:List Int),a.length=b.length->((B1 a.length).map λk=>a.getD k 0*b.getD k 0).sum=dot a b
 | [],_,_=>rfl
 | x::a,[],h=>by cases h
 | x::a,y::b,h=>by
  have ih:=nq a b (by simpa using h)
  rw[BF,DG,Bt,BR,DY]
  unfold dot at ih⊢
  rw[D3,Bt,DY,←ih]
  rfl
theorem pS {c:Clk}{z:Str}{kn:Int}{hs:List (List Int×Int)}{pl:List Int}(hn:(c.map (·.1)).Nodup)(hm:(z,kn,hs)∈c)(hv:gF pl.length (kn,hs))(hp:pl.length<=3){Q:T->Prop}
  (q:Q (.li ((kn::hs.map λh=>dot h.1 pl+h.2).map .int))):W1 (iH [.im (fb c),.im (.tup [.str z,iN pl])]) Q:=by
 obtain⟨_,v2,v3⟩:=hv
 dsimp only at v2 v3
 refine runP_ok' [some ⟨.ow,.im (fb c)⟩,some ⟨.ow,.im (.tup [.str z,iN pl])⟩,none,none] rfl rfl rfl ?_
 unfold fS
 lia
 refine vh (gb hn hm) ?_
 rw[cL]
 lia
 refine dr (λ_:Unit=>[some ⟨.ow,.im (fb c)⟩,some ⟨.ow,.im (.tup [.str z,iN pl])⟩,some ⟨.ow,.im (.int kn)⟩,some ⟨.ow,.im (.tup (hs.map fg))⟩]) I.int (λj _ l=>l=(hs.take j).map λh=>dot h.1 pl+h.2) ?_
 lia
 refine⟨hs.map fg,rfl,by rw[Bw,sizeLine_eq];omega,by cbv,(),by cbv,rfl,λj x _ l hx hP=>?_,λ_ l hP=>?_⟩
 ·obtain⟨h,hx',rfl⟩:=aN hx
  obtain⟨h1,h2,h3⟩:=v3 h (ymG hx')
  rw[fg]
  lia
  refine bU (λ_:Unit=>[none,some ⟨.ow,.im (.tup [.str z,iN pl])⟩,none,none,some ⟨.ow,.im (.tup (h.1.map .int))⟩,some ⟨.ow,.im (.int h.2)⟩]) I.int (λj _ l=>l=(B1 j).map λk=>h.1.getD k 0*pl.getD k 0) ?_
  lia
  rw[Bw]
  refine⟨⟨by omega,by omega⟩,by cbv,(),by cbv,rfl,λk _ l hk hP2=>?_,λ_ l hP2=>?_⟩
  ·lia
   refine gp (ns:=h.1) (by omega) (by omega) λy hy ey=>?_
   lia
   unfold iN
   refine gp (ns:=pl) (by omega) (by omega) λy2 hy2 ey2=>?_
   have hb:=h2 y hy
   unfold Bnd at hb
   lia
   refine k7 (tf (by omega) (by omega)) ?_
   refine⟨y*y2,(),rfl,by cbv,?_⟩
   rw[BM]at ey ey2
   rw[hP2,Eh,BL,List.map_singleton,BO,BO,ey,ey2]
   rfl
  ·rw[BM]at hP2
   lia
   refine vp ?_
   lia
   refine⟨h.2+l.sum,(),rfl,by cbv,?_⟩
   rw[hP,CM,hx',hP2,nq h.1 pl (by omega),Int.add_comm]
   simp
 ·rw[Bw,CS]at hP
  subst hP
  lia
  refine fv (is:=[.int kn]) (by simp;rw[sizeLine_eq];omega) ?_
  lia
  exact q
noncomputable def tDi (c:Clk):List (I×I):=c.map λp=>(.str p.1,cL p.2)
noncomputable def tPr (p:Str×Int×List (List Int×Int)):I:=.tup [.str p.1,cL p.2]
theorem je {z:Str}{v:Int×List (List Int×Int)}:∀{c:Clk},(c.map (·.1)).Nodup->(z,v)∈c->gH (tDi c) (.str z)=some (cL v)
 | d::ds,hn,hm=>by
  rw[Bt,BS]at hn
  show gH ((.str d.1,cL d.2)::tDi ds) _=_
  rw[gH]
  rcases ycM hm with rfl|hm
  ·rw[if_pos rfl]
  ·have:d.1≠z:=λe=>hn.1 (e▸BB.mpr ⟨_,hm,rfl⟩)
   rw[if_neg (λe=>this (I.str.inj e))]
   exact je hn.2 hm
theorem zt {kvs:List (I×I)}{z:Str}{v:I}(h:gH kvs (.str z)=some v){Q:T->Prop}(q:Q (.im v)):W1 (dgT (.di kvs) (.im (.str z))) Q:=by with_unfolding_all
 refine w1 (x:=.im v) ?_ q
 show dg1 kvs (.str z)=_
 unfold dg1 j3
 dsimp only
 rw[h];rfl
theorem lc:∀c:Clk,oB (c.map tPr)=some (c.map λd=>(Sum.inr d.1,cL d.2))
 | []=>rfl
 | d::ds=>by rw[Bt,oB,lc ds];rfl
theorem tE {c:Clk}(hn:(c.map (·.1)).Nodup){Q:T->Prop}(q:Q (.di (tDi c))):W1 (kG [.li (c.map tPr)]) Q:=by with_unfolding_all
 refine w1 (x:=.di (tDi c)) ?_ q
 show pi (c.map tPr)=_
 unfold pi
 rw[lc]
 dsimp only
 rw[if_pos ?_,BR]
 ·rfl
 ·rw[BR]
  have:(c.map λd=>(Sum.inr d.1:Key))=(c.map (·.1)).map Sum.inr:=by rw[BR];rfl
  show(c.map λd=>(Sum.inr d.1:Key)).Nodup
  rw[this]
  exact List.Pairwise.map _ (λa b h e=>h (Sum.inr.inj e)) hn
theorem jj:∀c:Clk,fM (tDi c)=some (c.map λp=>.inr p.1)
 | []=>rfl
 | d::ds=>by
  show fM ((.str d.1,cL d.2)::tDi ds)=_
  rw[fM,jj ds];rfl
theorem sH (c:Clk):pB ⟨.ow,.di (tDi c)⟩=some (fb c):=by
 show(fM (tDi c)).map _=_
 rw[jj]
 show some (I.fd _ ((tDi c).map (·.2)))=_
 rw[tDi,BR];rfl
theorem nM {α:Type}{xs:List α}{v:Int}(h:0<=v)(h2:v.toNat<=xs.length):cb xs (some v) none=xs.drop v.toNat:=by
 obtain⟨n,rfl⟩:∃n:Nat,v=(n:Int):=⟨v.toNat,by omega⟩
 unfold cb
 rw[HT.sIx_none,HT.sIx_nat,BM,Dk (by simpa using h2),B6 (by rw[Cd];omega)]
theorem uP {c:Clk}{f:Int×Int}(hc:1<=c.length/\c.length<=6)(hn:(c.map (·.1)).Nodup){Q:T->T->Prop}(q:∀c' f',c'.Perm c->Q (.im (fb c')) (fT f')):W2 (cX [fT f,.di (tDi c)]) Q:=by
 refine runI_ok' [some ⟨.io 0,fT f⟩,some ⟨.vw none none,.di (tDi c)⟩,none,none] rfl rfl rfl ?_
 unfold ca
 lia
 refine w8 ?_
 have hk:(tDi c).map (·.1)=(c.map (·.1)).map I.str:=by rw[tDi,BR,BR];rfl
 rw[hk]
 lia
 rw[Bw,Bw]
 refine am (by omega) (by omega) λa f a0 a1=>?_
 ac_nf
 lia
 refine yE ?_
 lia
 refine dr (λ_:Unit=>[some ⟨.io 0,fT f⟩,some ⟨.vw none none,.di (tDi c)⟩,some ⟨.ow,.li ((c.map (·.1)).map .str)⟩,some ⟨.ow,.im (.int a)⟩]) tPr (λj _ l=>l=(c.drop a.toNat++c.take a.toNat).take j) ?_
 lia
 rw[nM a0 (by rw[Bw,Bw];omega),eK a0,←Dc,←Dc,←CW,←CW]
 refine fv (by simp;rw[sizeLine_eq];omega) ?_
 rw[←BL,←BL]
 generalize hr:c.drop a.toNat++c.take a.toNat=c'
 have hp:c'.Perm c:=by rw[←hr];exact DP.trans (by rw[CZ])
 refine⟨(c'.map (·.1)).map .str,rfl,by rw[Bw,Bw,hp.length_eq,sizeLine_eq];omega,by cbv,(),by cbv,rfl,λj x _ l hx hP=>?_,λ_ l hP=>?_⟩
 ·obtain⟨z,hz,rfl⟩:=aN hx
  obtain⟨p,hp',rfl⟩:=aN hz
  have hm:p∈c:=hp.mem_iff.mp (ymG hp')
  lia
  refine zt (je (v:=p.2) hn hm) ?_
  lia
  exact⟨p,(),rfl,by cbv,by rw[hP,CM,hp'];rfl⟩
 ·rw[Bw,Bw,CS]at hP
  subst hP
  lia
  refine tE ((hp.map _).nodup_iff.mpr hn) ?_
  refine⟨_,sH _,?_⟩
  lia
  exact q _ f hp
theorem ld {z:Str}{v:Int×List (List Int×Int)}:∀{c:Clk},z∉c.map (·.1)->bu (tDi c) (.str z) (cL v)=tDi (c++[(z,v)])
 | [],_=>rfl
 | d::ds,h=>by
  rw[Bt,BT,not_or]at h
  show bu ((.str d.1,cL d.2)::tDi ds) _ _=(.str d.1,cL d.2)::tDi (ds++[(z,v)])
  rw[bu,if_neg (λe=>h.1 (I.str.inj e).symm),ld h.2]
theorem pc {w wh:Int}{ds:List (Str×Ru)}{f:Int×Int}(hok:mj 10 w wh ds){Q:T->T->Prop}
  (q:∀c f',(c.map (·.1)).Nodup->(c.map (·.1)).Perm (ds.map (·.1))->(∀p∈c,gF w.toNat p.2)->Q (.im (fb c)) (fT f')):W2 (gr [fT f,.im (eJ w wh ds)]) Q:=by
 obtain⟨a1,a2,a3,a4,a5,a6,a7,_⟩:=hok
 refine runI_ok' [some ⟨.io 0,fT f⟩,some ⟨.ow,.im (eJ w wh ds)⟩,none,none,none,none,none,none,none] rfl rfl rfl ?_
 unfold eQ
 rw[eJ]
 lia
 refine am (by omega) (by omega) λm f m0 m1=>?_
 ac_nf
 lia
 refine Bn ?_
 lia
 refine kB (λs:(Int×Int)×Clk=>[some ⟨.io 0,fT s.1⟩,some ⟨.ow,.im (.tup [.int w,.int wh,.tup (ds.map eI)])⟩,some ⟨.ow,.im (.int m)⟩,some ⟨.ow,.di (tDi s.2)⟩,none,none,none,none,none]) (λj s=>s.2.map (·.1)=(ds.map (·.1)).take j/\∀p∈s.2,gF w.toNat p.2) ?_
 lia
 refine⟨ds.map eI,rfl,by cbv,(f,[]),by cbv,⟨rfl,by simp⟩,λj x s hx hP=>?_,λs hP=>?_⟩
 ·obtain⟨d,hd,rfl⟩:=aN hx
  obtain⟨f,c⟩:=s
  obtain⟨p1,p2⟩:=hP
  dsimp only at p1 p2
  rw[eI]
  lia
  refine ib λkn f k0 k1=>?_
  ac_nf
  lia
  refine br (λt:(Int×Int)×List (List Int×Int)=>[some ⟨.io 0,fT t.1⟩,some ⟨.ow,.im (.tup [.int w,.int wh,.tup (ds.map eI)])⟩,some ⟨.ow,.im (.int m)⟩,some ⟨.ow,.di (tDi c)⟩,some ⟨.ow,.im (.str d.1)⟩,some ⟨.ow,.im (tRu d.2)⟩,some ⟨.ow,.im (.int kn)⟩,some ⟨.ow,.li (t.2.map fg)⟩,none]) (λj t=>t.2.length=j/\∀h∈t.2,lw w.toNat h) ?_
  lia
  refine⟨⟨by omega,by omega⟩,(f,[]),by cbv,⟨rfl,by simp⟩,λi t hi ht=>?_,λt ht=>?_⟩
  ·obtain⟨f,hs⟩:=t
   obtain⟨hl,hh⟩:=ht
   dsimp only at hl hh
   lia
   refine bU (λf:Int×Int=>[some ⟨.io 0,fT f⟩,some ⟨.ow,.im (.tup [.int w,.int wh,.tup (ds.map eI)])⟩,some ⟨.ow,.im (.int m)⟩,some ⟨.ow,.di (tDi c)⟩,some ⟨.ow,.im (.str d.1)⟩,some ⟨.ow,.im (tRu d.2)⟩,some ⟨.ow,.im (.int kn)⟩,some ⟨.ow,.li (hs.map fg)⟩,some ⟨.ow,.im (.int i)⟩]) I.int (λj _ l=>l.length=j/\∀x∈l,Bnd x) ?_
   lia
   refine⟨⟨by omega,by omega⟩,by cbv,f,by cbv,⟨rfl,by simp⟩,λk f l hk hl2=>?_,λf l hl2=>?_⟩
   ·obtain⟨hl2,hb⟩:=hl2
    lia
    refine ib λx f x0 x1=>?_
    ac_nf
    exact⟨x,f,rfl,by cbv,by simp[hl2],aJ hb ⟨x0,x1⟩⟩
   ·obtain⟨hl2,hb⟩:=hl2
    lia
    refine ib λhr f h0 h1=>?_
    ac_nf
    lia
    refine cF (by rw[Bw,sizeLine_eq];omega) ?_
    ac_nf
    lia
    refine⟨(f,hs++[(l,hr)]),?_,by simp[hl],aJ hh ⟨hl2,hb,h0,h1⟩⟩
    rw[BL]
    try cbv
  ·obtain⟨f,hs⟩:=t
   obtain⟨hl,hh⟩:=ht
   dsimp only at hl hh
   lia
   refine uW ?_
   lia
   have hj:j<ds.length:=(Bs.mp hd).1
   have hlen:c.length=j:=by have:=congrArg CJ p1;simp at this;omega
   have hnew:d.1∉c.map (·.1):=by
    rw[p1]
    intro hm
    obtain⟨i,hi⟩:=CY.mp hm
    have hij:i<j:=by
     have:=(Bs.mp hi).1
     simp at this;omega
    rw[Dt hij]at hi
    have hdj:(ds.map (·.1))[j]?=some d.1:=by rw[BD,hd];rfl
    have:=(List.getElem?_inj (by simp;omega) a7).mp (hi.trans hdj.symm)
    omega
   have e:=ld (v:=(kn,hs)) hnew
   refine wW (v:=cL (kn,hs)) (by rw[e];simp[tDi];rw[sizeLine_eq];omega) ?_
   rw[e]
   ac_nf
   lia
   refine⟨(f,c++[(d.1,kn,hs)]),by cbv,?_,aJ p2 ⟨⟨k0,k1⟩,?_,hh⟩⟩
   ·rw[BL,p1,CM,BD,hd];rfl
   ·show hs.length<=6
    omega
 ·obtain⟨f,c⟩:=s
  obtain⟨p1,p2⟩:=hP
  rw[Bw,←Bw (f:=(·.1)),CS]at p1
  dsimp only at p1 p2
  have hlen:c.length=ds.length:=by have:=congrArg CJ p1;simpa using this
  lia
  refine uP (c:=c) (by omega) (by rw[p1];exact a7) λc' f hp=>?_
  ac_nf
  lia
  exact q c' f ((hp.map _).nodup_iff.mpr (by rw[p1];exact a7)) (by rw[←p1];exact hp.map _) λp hm=>p2 p (hp.mem_iff.mp hm)
def Sh (i:I)(n k:Nat):Prop:=i.nls=true/\i.pd.showable=true/\i.pd.leavesShort 13=true/\i.pd.weight<=n/\i.pd.depth<=k
theorem Sh.mono {i:I}{n k n' k':Nat}(h:Sh i n k)(h1:n<=n')(h2:k<=k'):Sh i n' k':=⟨h.1,h.2.1,h.2.2.1,B3 h.2.2.2.1 h1,B3 h.2.2.2.2 h2⟩
theorem lW {x:Int}(h:Bnd x):Sh (.int x) 31 0:=by
 have hx:x.natAbs<2^30:=by unfold Bnd at h;omega
 have hl:x.natAbs.log2<31:=by
  by_cases e:x.natAbs=0
  ·rw[e];decide
  ·have:=(EF e).mpr hx
   omega
 refine⟨rfl,?_,?_,?_,Bz _⟩
 ·show decide (x.natAbs.log2<1920)=true
  rw[decide_eq_true_eq];omega
 ·show decide ((PyData.shown (.int x)).length<=13)=true
  rw[decide_eq_true_eq]
  exact PyData.shown_int_le (by omega)
 ·show(if(x==0)=true then 0 else x.natAbs.log2+1)<=31
  split<;>omega
theorem rT {n k:Nat}:∀{is:List I},(∀i∈is,Sh i n k)->I.nlss is=true/\PyData.showableAll (I.pds is)=true/\PyData.leavesShortAll 13 (I.pds is)=true/\PyData.weightAll (I.pds is)<=is.length*(n+1)/\PyData.depthAll (I.pds is)<=k
 | [],_=>⟨rfl,rfl,rfl,by simp[I.pds,PyData.weightAll],by simp[I.pds,PyData.depthAll]⟩
 | i::is,h=>by
  obtain⟨a1,a2,a3,a4,a5⟩:=h i ymS
  obtain⟨b1,b2,b3,b4,b5⟩:=rT λx hx=>h x (ymC _ hx)
  refine⟨by rw[I.nlss,a1,b1];rfl,by rw[I.pds,PyData.showableAll,a2,b2];rfl,by rw[I.pds,PyData.leavesShortAll,a3,b3];rfl,?_,?_⟩
  ·rw[I.pds,PyData.weightAll,BF,D5];omega
  ·rw[I.pds,PyData.depthAll];omega
theorem ku {n k L:Nat}{is:List I}(h:∀i∈is,Sh i n k)(hl:is.length<=L):Sh (.tup is) (L*(n+1)) (k+1):=by
 obtain⟨b1,b2,b3,b4,b5⟩:=rT h
 refine⟨b1,by rw[I.pd,PyData.showable];exact b2,by rw[I.pd,PyData.leavesShort];exact b3,?_,?_⟩
 ·rw[I.pd,PyData.weight]
  exact B3 b4 (Nat.mul_le_mul_right _ hl)
 ·rw[I.pd,PyData.depth];omega
theorem uH {l:List Int}(h:∀x∈l,Bnd x)(hl:l.length<=3):Sh (.tup (l.map .int)) 96 1:=
 ku (n:=31) (k:=0) (L:=3) (λi hi=>by obtain⟨x,hx,rfl⟩:=BB.mp hi;exact lW (h x hx)) (by rw[Bw];exact hl)
theorem uG {n:Nat}{h:List Int×Int}(hk:lw n h)(hn:n<=3):Sh (fg h) 194 2:=by
 obtain⟨h1,h2,h3⟩:=hk
 refine ku (n:=96) (k:=1) (L:=2) (λi hi=>?_) (Bz 2)
 rcases ycM hi with rfl|hi
 ·exact uH h2 (by omega)
 ·rw[ysM hi];exact(lW h3).mono (by decide) (by decide)
theorem yu {n:Nat}{v:Int×List (List Int×Int)}(hv:gF n v)(hn:n<=3):Sh (cL v) 2342 4:=by
 obtain⟨h1,h2,h3⟩:=hv
 refine ku (n:=1170) (k:=3) (L:=2) (λi hi=>?_) (Bz 2)
 rcases ycM hi with rfl|hi
 ·exact(lW h1).mono (by decide) (by decide)
 ·rw[ysM hi]
  exact ku (n:=194) (k:=2) (L:=6) (λi hi=>by obtain⟨x,hx,rfl⟩:=BB.mp hi;exact uG (h3 x hx) hn) (by rw[Bw];exact h2)
theorem uI {z:Str}(h:dt z):PyData.leavesShort 13 (.str z)=true/\PyData.weight (.str z)<=8:=by
 obtain⟨h1,h2,_,h4⟩:=h
 refine⟨?_,h2⟩
 rw[PyData.leavesShort,Ch]
 intro c hc
 have hm:c∈sL LET:=h4 c hc
 have:∀c∈sL LET,c<1000:=by decide +kernel
 have:=this c hm
 rw[decide_eq_true_eq]
 exact BI this (by decide)
theorem vI {n:Nat}(hn:n<=3):∀{c:Clk},(∀p∈c,gF n p.2/\dt p.1)->I.nlss (c.map λp=>cL p.2)=true ∧
  ∀kvs,kvs=((c.map λp=>(Sum.inr p.1:Key)).map kPD).zip (I.pds (c.map λp=>cL p.2))->PyData.showableKv kvs=true/\PyData.leavesShortKv 13 kvs=true/\PyData.weightKv kvs<=c.length*2352/\PyData.depthKv kvs<=4
 | [],_=>⟨rfl,λkvs e=>by subst e;exact⟨rfl,rfl,by simp[I.pds,PyData.weightKv],by simp[I.pds,PyData.depthKv]⟩⟩
 | p::c,h=>by
  obtain⟨hv,hz⟩:=h p ymS
  obtain⟨a1,a2,a3,a4,a5⟩:=yu hv hn
  obtain⟨z1,z2⟩:=uI hz
  obtain⟨b0,b⟩:=vI hn λx hx=>h x (ymC _ hx)
  obtain⟨b1,b2,b3,b4⟩:=b _ rfl
  refine⟨by rw[Bt,I.nlss,a1,b0];rfl,λkvs e=>?_⟩
  rw[Bt,Bt,Bt,I.pds,D3]at e
  subst e
  have ek:kPD (Sum.inr p.1)=.str p.1:=rfl
  rw[ek,PyData.showableKv,PyData.leavesShortKv,PyData.weightKv,PyData.depthKv,a2,b1,z1,a3,b2]
  refine⟨rfl,rfl,?_,?_⟩
  ·rw[BF,D5]
   omega
  ·have:PyData.depth (.str p.1)=0:=rfl
   rw[this];omega
theorem rL {n:Nat}{c:Clk}(hn:n<=3)(hl:c.length<=6)(h:∀p∈c,gF n p.2/\dt p.1):gm (fb c)=true:=by
 obtain⟨a,b⟩:=vI hn h
 obtain⟨b1,b2,b3,b4⟩:=b _ rfl
 unfold gm fb
 have hw:PyData.weight (I.pd (.fd (c.map λp=>(Sum.inr p.1:Key)) (c.map λp=>cL p.2)))<=2^20:=by
  rw[I.pd,PyData.weight];omega
 have hd:PyData.depth (I.pd (.fd (c.map λp=>(Sum.inr p.1:Key)) (c.map λp=>cL p.2)))<=50:=by
  rw[I.pd,PyData.depth];omega
 have hs:=PyData.shown_fits (B:=13) (by decide) (by decide) (d:=I.pd (.fd (c.map λp=>(Sum.inr p.1:Key)) (c.map λp=>cL p.2))) (by rw[I.pd,PyData.leavesShort];exact b2) hw
 have h1:PyData.showable (I.pd (.fd (c.map λp=>(Sum.inr p.1:Key)) (c.map λp=>cL p.2)))=true:=by rw[I.pd,PyData.showable];exact b1
 have h0:(I.fd (c.map λp=>(Sum.inr p.1:Key)) (c.map λp=>cL p.2)).nls=true:=by rw[I.nls];exact a
 rw[h0,h1,decide_eq_true hd,decide_eq_true hs]
 rfl
theorem sE {ns:List Int}{k:Int}(hn:ns.length<=1000)(h1:0<=k)(h2:k<=1000000){Q:T->Prop}(q:∀f,Q (fT f)):W1 (iG [.li (ns.map .int),.im (.int k)]) Q:=by
 refine runP_ok' [some ⟨.vw none none,.li (ns.map .int)⟩,some ⟨.ow,.im (.int k)⟩,none,none] rfl rfl rfl ?_
 unfold fQ
 lia
 refine WS.mono (Q:=λfl ρ=>fl=.nx/\∃cell:Int,ρ=[some ⟨.vw none none,.li (ns.map .int)⟩,some ⟨.ow,.im (.int k)⟩,some ⟨.ow,.im (.int cell)⟩,none]) ?_ ?_
 ·(refine cN ?_;lia;clear_value hk)
  ·rw[Bw]at hk
   lia
   refine aY (ns:=ns) h1 hk λy hy _=>?_
   lia
   exact⟨by trivial,y,by first|trivial|cbv⟩
  ·(refine cN ?_;lia;clear_value hl)
   ·rw[Bw]at hl
    lia
    rw[Bw]
    refine qd (by omega) ?_
    lia
    refine aY (ns:=ns) (CI _ (by omega)) (Cr _ (by omega)) λy hy _=>?_
    lia
    exact⟨by trivial,_,by first|trivial|cbv⟩
   ·lia
    exact⟨by trivial,_,by first|trivial|cbv⟩
 rintro fl ρ ⟨rfl,cell,rfl⟩
 lia
 refine WS.mono (Q:=λfl ρ=>fl=.nx/\∃own:Int,ρ=[some ⟨.vw none none,.li (ns.map .int)⟩,some ⟨.ow,.im (.int k)⟩,some ⟨.ow,.im (.int cell)⟩,some ⟨.ow,.im (.int own)⟩]) ?_ ?_
 ·refine cN ?_
  lia
  refine vn ⟨by omega,by omega,by decide⟩ ?_
  lia
  clear_value hc
  ·lia
   exact⟨by trivial,_,by first|trivial|cbv⟩
  ·lia
   exact⟨by trivial,_,by first|trivial|cbv⟩
 rintro fl ρ ⟨rfl,own,rfl⟩
 lia
 have m0:=CI cell (show(2147483629:Int)≠0 by omega)
 have m1:=Cr cell (show(0:Int)<2147483629 by omega)
 refine vn ⟨by omega,by omega,by omega⟩ ?_
 lia
 exact q (own,_)
abbrev me:=Clk×Str×List Int
noncomputable def eH (a:me):I:=.tup [fb a.1,.tup [.str a.2.1,iN a.2.2]]
def mf (a:me):Prop:=(a.1.map (·.1)).Nodup/\a.1.length<=6/\(∀p∈a.1,gF a.2.2.length p.2/\dt p.1)/\(∃v,(a.2.1,v)∈a.1)/\a.2.2.length<=3
theorem dh:∀row:List Int,I.doks (row.map I.int)=true/\I.deps (row.map I.int)=0
 | []=>⟨rfl,rfl⟩
 | x::row=>⟨by rw[Bt,I.doks,(dh row).1];rfl,by rw[Bt,I.deps,(dh row).2];rfl⟩
theorem xh {is js:List I}{Q:T->Prop}(h:I.doks is=true/\I.doks js=true/\I.deps is<=50)(q:Q (.im (.bl (!decide (is=js))))):W1 (neT (.li is) (.li js)) Q:=⟨_,by simp only[neT,eqB];rw[if_pos h];rfl,q⟩
theorem sr {x:Int}{Q:T->Prop}(q:Q (.im (.bl true))):W1 (gz [.im (.int x)]) Q:=by
 refine runP_ok' [some ⟨.ow,.im (.int x)⟩] rfl rfl rfl ?_
 unfold eW
 (repeat first|infer_instance|refine spT ?_|refine spF ?_|refine cN ?_)
 exact q
theorem my:∀n:Nat,bls ((Bu n true).map I.bl)=some (Bu n true)
 | 0=>rfl
 | n+1=>by rw[BY,Bt,bls,my n];rfl
theorem wV {n:Nat}{Q:T->Prop}(q:Q (.im (.bl true))):W1 (nD [.li ((Bu n true).map I.bl)]) Q:=by
 refine w1 (x:=.im (.bl true)) ?_ q
 simp only[nD,my,CV]
 rw[List.all_replicate]
 split<;>rfl
theorem k25_law {ns:List Int}(hn:ns.length<=63):W1 (r_l_law_v4 [.li (ns.map .int)]) λt=>t=.im (.bl true):=by
 refine runP_ok' [some ⟨.vw none none,.li (ns.map .int)⟩,none,none,none,none,none,none,none,none,none,none] rfl rfl rfl ?_
 unfold dy
 lia
 refine br (λas:List me=>[some ⟨.vw none none,.li (ns.map .int)⟩,some ⟨.ow,.li (as.map eH)⟩,none,none,none,none,none,none,none,none,none]) (λj as=>as.length=3*j/\∀a∈as,mf a) ?_
 lia
 rw[eK (by omega),B9,Bw]
 generalize hc:(if((min (8:Int).toNat ns.length:Nat):Int)>3 then((min (8:Int).toNat ns.length:Nat):Int)else 3)=n
 have hc8:3<=n/\n<=8:=by
  subst hc
  have:(8:Int).toNat=8:=rfl
  rw[this]
  split<;>omega
 refine⟨⟨by omega,by omega⟩,[],by cbv,⟨rfl,by simp⟩,λj as hj hP=>?_,λas hP=>?_⟩
 ·obtain⟨hl,hh⟩:=hP
  lia
  refine sE (ns:=ns) (by omega) (by omega) (by omega) λf=>?_
  lia
  refine pH λw wh ds f hok=>?_
  ac_nf
  lia
  refine pc hok λc f cn cp cv=>?_
  obtain⟨a1,a2,a3,a4,a5,a6,a7,a8,_⟩:=hok
  have hcl:c.length=ds.length:=by have:=cp.length_eq;simpa using this
  ac_nf
  lia
  refine br (λs:(Int×Int)×List me=>[some ⟨.vw none none,.li (ns.map .int)⟩,some ⟨.ow,.li (s.2.map eH)⟩,some ⟨.ow,.im (.int j)⟩,some ⟨.ow,fT s.1⟩,some ⟨.ow,.im (eJ w wh ds)⟩,some ⟨.ow,.im (fb c)⟩,none,none,none,none,none]) (λi s=>s.2.length=3*j+i/\∀a∈s.2,mf a) ?_
  lia
  refine⟨⟨by omega,by omega⟩,(f,as),by cbv,⟨by rw[hl];rfl,hh⟩,λi s hi hS=>?_,λs hS=>?_⟩
  ·obtain⟨f,bs⟩:=s
   obtain⟨hl2,hh2⟩:=hS
   dsimp only at hl2 hh2⊢
   rw[eJ]
   lia
   refine am (by simp;omega) (by simp;omega) λdn f hn0 hn1=>?_
   ac_nf
   lia
   refine wZ (emb:=eI) (ns:=ds) hn0 (by simpa using hn1) λd hd=>?_
   lia
   refine bU (λf:Int×Int=>[some ⟨.vw none none,.li (ns.map .int)⟩,some ⟨.ow,.li (bs.map eH)⟩,some ⟨.ow,.im (.int j)⟩,some ⟨.ow,fT f⟩,some ⟨.ow,.im (eJ w wh ds)⟩,some ⟨.ow,.im (fb c)⟩,some ⟨.ow,.im (.int i)⟩,some ⟨.ow,.im (.str d.1)⟩,none,none,none]) I.int (λj _ l=>l.length=j) ?_
   rw[eJ]
   lia
   refine⟨⟨by omega,by omega⟩,by cbv,f,by cbv,rfl,λk f l hk hl3=>?_,λf l hl3=>?_⟩
   ·lia
    refine am (by omega) (by omega) λx f x0 x1=>?_
    ac_nf
    lia
    exact⟨x-1000,f,rfl,by cbv,by simp[hl3]⟩
   ·lia
    refine cF (is:=bs.map eH) (i:=eH (c,d.1,l)) (by rw[Bw,sizeLine_eq];omega) ?_
    ac_nf
    lia
    have hw:l.length=w.toNat:=hl3
    have hdm:d.1∈c.map (·.1):=cp.mem_iff.mpr (BB.mpr ⟨d,ymG hd,rfl⟩)
    obtain⟨p,hp,hp1⟩:=BB.mp hdm
    refine⟨(f,bs++[(c,d.1,l)]),?_,by simp;omega,aJ hh2 ⟨cn,by show c.length<=6;omega,λp hp=>⟨by rw[show(c,d.1,l).2.2.length=w.toNat from hw];exact cv p hp,a8 _ (cp.mem_iff.mp (BB.mpr ⟨p,hp,rfl⟩))⟩,⟨p.2,by rw[←hp1];exact hp⟩,by show l.length<=3;omega⟩⟩
    dsimp only
    rw[BL]
    try cbv
  ·obtain⟨f,bs⟩:=s
   obtain⟨hl2,hh2⟩:=hS
   dsimp only at hl2 hh2⊢
   lia
   exact⟨bs,by cbv,by omega,hh2⟩
 ·obtain⟨hl,hh⟩:=hP
  lia
  refine kB (λ_:Unit=>[some ⟨.vw none none,.li (ns.map .int)⟩,some ⟨.ow,.li (as.map eH)⟩,none,none,none,none,none,none,none,none,none]) (λ_ _=>True) ?_
  lia
  rw[eK (by omega),←CW]
  refine fv (is:=as.map eH) (js:=(as.take (3:Int).toNat).map eH) (by simp;rw[sizeLine_eq];omega) ?_
  rw[←BL]
  refine⟨(as++as.take (3:Int).toNat).map eH,rfl,by cbv,(),by cbv,trivial,λj x' _ hx' _=>?_,λ_ _=>?_⟩
  ·obtain⟨a,ha,rfl⟩:=aN hx'
   have hm:a∈as:=(yaM (ymG ha)).elim id λz=>Cl z
   obtain⟨c,z,pl⟩:=a
   obtain⟨b1,b2,b3,⟨v,b4⟩,b5⟩:=hh _ hm
   obtain⟨kn,hs⟩:=v
   dsimp only at b1 b2 b3 b4 b5
   have hok:=rL b5 b2 b3
   rw[eH]
   lia
   refine qh rfl hok ?_
   lia
   refine uO b1 b4 (b3 _ b4).1 b5 ?_
   ac_nf
   lia
   refine cN ?_
   (repeat first|infer_instance|refine spT ?_|refine spF ?_|refine cN ?_)
   refine pS b1 b4 (b3 _ b4).1 b5 ?_
   ac_nf
   (repeat first|infer_instance|refine spT ?_|refine spF ?_|refine cN ?_)
   refine xh ⟨(dh _).1,(dh _).1,by rw[(dh _).2];decide⟩ ?_
   rw[decide_eq_true rfl]
   (repeat first|infer_instance|refine spT ?_|refine spF ?_|refine cN ?_)
   refine qh rfl hok ?_
   (repeat first|infer_instance|refine spT ?_|refine spF ?_|refine cN ?_)
   rw[decide_eq_true rfl]
   (repeat first|infer_instance|refine spT ?_|refine spF ?_|refine cN ?_)
   generalize hxs:(kn::hs.map λh=>dot h.1 pl+h.2)=xs
   have hxl:xs.length<=7:=by
    rw[←hxs,BF,Bw]
    have:=(b3 _ b4).1.2.1
    dsimp only at this
    omega
   refine dr (λ_:Unit=>[some ⟨.vw none none,.li (ns.map .int)⟩,some ⟨.ow,.li (as.map eH)⟩,none,none,none,some ⟨.ow,.im (fb c)⟩,none,none,some ⟨.ow,.im (.tup [.str z,iN pl])⟩,some ⟨.ow,.im (.str (fb c).pd.shown)⟩,some ⟨.ow,.im (.tup (xs.map .int))⟩]) I.bl (λj _ l=>l=Bu j true) ?_
   lia
   refine⟨xs.map .int,rfl,by rw[Bw,sizeLine_eq];omega,by cbv,(),by cbv,rfl,λj x _ l hx hP=>?_,λ_ l hP=>?_⟩
   ·obtain⟨x',_,rfl⟩:=aN hx
    lia
    refine sr ?_
    exact⟨true,(),rfl,by cbv,by rw[hP,List.replicate_succ']⟩
   ·subst hP
    lia
    refine wV ?_
    (repeat first|infer_instance|refine spT ?_|refine spF ?_|refine cN ?_)
    exact⟨(),by cbv,trivial⟩
  ·lia
   rfl
end L2
namespace K25
open PySem PySem.Spec PyProof.Rows L2
local macro_rules|`(tactic| exfalso)=>`(tactic| exact⟨rfl,rfl,rfl,by decide +kernel,rfl,by decide +kernel,by decide +kernel⟩)
structure Adr (mg:Str->Option Value)(K:yF):Prop where
 d0:Def0 K mg "_law_feed" eC ["_law_script","_law_k"]
 d1:Def0 K mg "_law_take" eD ["_law_feed_here","_law_many"]
 d2:Def0 K mg "_law_turned_row" bS ["_law_row_here","_law_way","_law_signs"]
 d3:Def0 K mg "_law_row" fB ["_law_feed_here","_law_ways"]
 d4:Def0 K mg "_law_opposed_reads" bh ["_law_feed_here","_law_ways","_law_many"]
 d5:Def0 K mg "_law_free_reads" bP ["_law_feed_here","_law_ways","_law_many"]
 d6:Def0 K mg "_law_back_row" cm ["_law_feed_here","_law_ways"]
 d7:Def0 K mg "_law_late_reads" bQ ["_law_feed_here","_law_ways","_law_many"]
 d8:Def0 K mg "_law_ring_reads" bR ["_law_feed_here","_law_ways","_law_many"]
 d9:Def0 K mg "_law_reads" dI ["_law_feed_here"]
 d10:Def0 K mg "_law_names" dH ["_law_feed_here","_law_many"]
 d11:Def0 K mg "_law_grown" dE ["_law_feed_here","_law_leaves"]
 d12:Def0 K mg "_law_house" dF ["_law_feed_here"]
 d13:Def0 K mg "_law_told_from" bZ ["_law_feed_here","_law_some"]
 d14:Def0 K mg "_law_great" dD ["_law_feed_here"]
 d15:Def0 K mg "_law_clock" dB ["_law_feed_here","_law_house_here"]
 d16:Def0 K mg "along" kq ["row","place"]
 d17:Def0 K mg "time_of" gC ["clock","cell"]
 d18:Def0 K mg "_law_time" eG ["_law_clock_here","_law_cell"]
 d19:Def0 K mg "_law_whole" dJ ["_law_number"]
 d20:Def0 K mg "law" s_law ["_law_script"]
 T:Bi mg
 G:GT K mg
theorem adr_less (mg:Str->Option Value)(K:yF)(a:Addr)(A:Adr mg K)(l:LsAt K a):Adr mg (less K a):=
 ⟨A.d0.less l,A.d1.less l,A.d2.less l,A.d3.less l,A.d4.less l,A.d5.less l,A.d6.less l,A.d7.less l,A.d8.less l,A.d9.less l,A.d10.less l,A.d11.less l,A.d12.less l,A.d13.less l,A.d14.less l,A.d15.less l,A.d16.less l,A.d17.less l,A.d18.less l,A.d19.less l,A.d20.less l,A.T,⟨trivial⟩⟩
noncomputable abbrev pm0:Value:=(vs "law_clockhouse_k25_times_of_cells" 203)
noncomputable abbrev pm1:Value:=(vs "clockhouse.houses" 187)
noncomputable abbrev pm2:Value:=(vs "clockhouse.clocks" 195)
noncomputable def KF (P:Params):yF:=[(3,oD [(eO P "__name__" 165 (vs "law_clockhouse_k25_times_of_cells" 203)),(eO P "__doc__" 166 .none),(eO P "__package__" 167 .none),(eO P "__loader__" 168 (Value.builtin "__main__.__loader__#opaque")),(eO P "__spec__" 169 .none),(eO P "__annotations__" 170 (vr 6)),(eO P "__builtins__" 171 (vr 4)),(eO P "__file__" 173 (vs "/claim/cut.py" 172)),(eO P "__cached__" 174 .none),(eO P "along" 194 (vr 19)),(eO P "time_of" 202 (vr 24)),(eO P "_law_feed" 214 (vr 31)),(eO P "_law_take" 224 (vr 38)),(eO P "_law_names" 230 (vr 43)),(eO P "_law_row" 236 (vr 48)),(eO P "_law_back_row" 242 (vr 53)),(eO P "_law_free_reads" 248 (vr 58)),(eO P "_law_late_reads" 254 (vr 63)),(eO P "_law_turned_row" 265 (vr 70)),(eO P "_law_opposed_reads" 271 (vr 75)),(eO P "_law_ring_reads" 277 (vr 80)),(eO P "_law_reads" 288 (vr 87)),(eO P "_law_grown" 299 (vr 94)),(eO P "_law_house" 305 (vr 99)),(eO P "_law_reads_of" 314 (vr 106)),(eO P "_law_steps" 326 (vr 113)),(eO P "_law_whole" 333 (vr 120)),(eO P "_law_time" 339 (vr 125)),(eO P "_law_great" 346 (vr 132)),(eO P "_law_told_from" 352 (vr 137)),(eO P "_law_clock" 358 (vr 142)),(eO P "law" 364 (vr 147))] 32),
 (31,oF "_law_feed" eC pm0 30),
 (30,oc "_law_feed" 205 10 2 25 (some (27,28)) 29 212),
 (38,oF "_law_take" eD pm0 37),
 (37,oc "_law_take" 215 20 2 32 (some (34,35)) 36 222),
 (70,oF "_law_turned_row" bS pm0 69),
 (69,oc "_law_turned_row" 255 64 3 64 (some (66,67)) 68 263),
 (48,oF "_law_row" fB pm0 47),
 (47,oc "_law_row" 231 41 2 44 none 46 234),
 (75,oF "_law_opposed_reads" bh pm0 74),
 (74,oc "_law_opposed_reads" 266 69 3 71 none 73 269),
 (58,oF "_law_free_reads" bP pm0 57),
 (57,oc "_law_free_reads" 243 49 3 54 none 56 246),
 (53,oF "_law_back_row" cm pm0 52),
 (52,oc "_law_back_row" 237 45 2 49 none 51 240),
 (63,oF "_law_late_reads" bQ pm0 62),
 (62,oc "_law_late_reads" 249 55 3 59 none 61 252),
 (80,oF "_law_ring_reads" bR pm0 79),
 (79,oc "_law_ring_reads" 272 83 3 76 none 78 275),
 (87,oF "_law_reads" dI pm0 86),
 (86,oc "_law_reads" 278 95 1 81 (some (83,84)) 85 286),
 (43,oF "_law_names" dH pm0 42),
 (42,oc "_law_names" 225 28 2 39 none 41 228),
 (94,oF "_law_grown" dE pm0 93),
 (93,oc "_law_grown" 289 107 2 88 (some (90,91)) 92 297),
 (99,oF "_law_house" dF pm0 98),
 (98,oc "_law_house" 300 118 1 95 none 97 303),
 (137,oF "_law_told_from" bZ pm0 136),
 (136,oc "_law_told_from" 347 153 2 133 none 135 350),
 (132,oF "_law_great" dD pm0 131),
 (131,oc "_law_great" 340 151 1 126 (some (128,129)) 130 344),
 (142,oF "_law_clock" dB pm0 141),
 (141,oc "_law_clock" 353 157 2 138 none 140 356),
 (19,oF "along" kq pm1 18),
 (18,oc "along" 189 2 2 15 none 17 192),
 (24,oF "time_of" gC pm2 23),
 (23,oc "time_of" 197 5 2 20 none 22 200),
 (125,oF "_law_time" eG pm0 124),
 (124,oc "_law_time" 334 148 2 121 none 123 337),
 (120,oF "_law_whole" dJ pm0 119),
 (119,oc "_law_whole" 327 146 1 114 (some (116,117)) 118 331),
 (147,oF "law" s_law pm0 146),
 (146,oc "law" 359 165 1 143 none 145 362)]
noncomputable def KL:List Str:=["along","time_of","_law_feed","_law_take","_law_names","_law_row","_law_back_row","_law_free_reads","_law_late_reads","_law_turned_row","_law_opposed_reads","_law_ring_reads","_law_reads","_law_grown","_law_house","_law_reads_of","_law_steps","_law_whole","_law_time","_law_great","_law_told_from","_law_clock"].map Str.ofString
noncomputable def KH:PySem.W.Hook:=PySem.W.kHook KF [3,31,30,38,37,70,69,48,47,75,74,58,57,53,52,63,62,80,79,87,86,43,42,94,93,99,98,137,136,132,131,142,141,19,18,24,23,125,124,120,119,147,146] (λ_=>rfl)
noncomputable def KQ:Program:=PySem.W.view PySem.Challenge.pw_clockhouse_k25_times_of_cells [25]
theorem left:PySem.W.LeftO PySem.Challenge.pw_clockhouse_k25_times_of_cells KQ KL (λs=>PySem.W.xlAt KQ [] s&&PySem.W.recOk [] s) KH.obs KH.val 4000:=λw=>by rfl'
theorem adr0 (w:World)(mg:Str->Option Value)(h:Heap)(X:(KF w.params).In h)(G:h.Ns mainGlobals mg):Adr mg (KF w.params):=
 ⟨Def0.mkO X G 31 pm0 30 (by2 λ_ _ _ _ _ _ _ _=>rfl),
   Def0.mkO X G 38 pm0 37 (by2 λ_ _ _ _ _ _ _ _=>rfl),
   Def0.mkO X G 70 pm0 69 (by3 λ_ _ _ _ _ _ _ _ _=>rfl),
   Def0.mkO X G 48 pm0 47 (by2 λ_ _ _ _ _ _ _ _=>rfl),
   Def0.mkO X G 75 pm0 74 (by3 λ_ _ _ _ _ _ _ _ _=>rfl),
   Def0.mkO X G 58 pm0 57 (by3 λ_ _ _ _ _ _ _ _ _=>rfl),
   Def0.mkO X G 53 pm0 52 (by2 λ_ _ _ _ _ _ _ _=>rfl),
   Def0.mkO X G 63 pm0 62 (by3 λ_ _ _ _ _ _ _ _ _=>rfl),
   Def0.mkO X G 80 pm0 79 (by3 λ_ _ _ _ _ _ _ _ _=>rfl),
   Def0.mkO X G 87 pm0 86 (by1 λ_ _ _ _ _ _ _=>rfl),
   Def0.mkO X G 43 pm0 42 (by2 λ_ _ _ _ _ _ _ _=>rfl),
   Def0.mkO X G 94 pm0 93 (by2 λ_ _ _ _ _ _ _ _=>rfl),
   Def0.mkO X G 99 pm0 98 (by1 λ_ _ _ _ _ _ _=>rfl),
   Def0.mkO X G 137 pm0 136 (by2 λ_ _ _ _ _ _ _ _=>rfl),
   Def0.mkO X G 132 pm0 131 (by1 λ_ _ _ _ _ _ _=>rfl),
   Def0.mkO X G 142 pm0 141 (by2 λ_ _ _ _ _ _ _ _=>rfl),
   Def0.mkO X G 19 pm1 18 (by2 λ_ _ _ _ _ _ _ _=>rfl),
   Def0.mkO X G 24 pm2 23 (by2 λ_ _ _ _ _ _ _ _=>rfl),
   Def0.mkO X G 125 pm0 124 (by2 λ_ _ _ _ _ _ _ _=>rfl),
   Def0.mkO X G 120 pm0 119 (by1 λ_ _ _ _ _ _ _=>rfl),
   Def0.mkO X G 147 pm0 146 (by1 λ_ _ _ _ _ _ _=>rfl),
   ⟨bN X G,bN X G,bN X G,bN X G,bN X G,bN X G,bN X G,bN X G,bN X G,bN X G,bN X G,bN X G,bN X G,bN X G,bN X G,bN X G,bN X G,bN X G,bN X G,bN X G,bN X G⟩,⟨trivial⟩⟩
theorem c0:FnScope ["_law_script","_law_k","_law_cell","_law_own"] ["_law_script","_law_k"] (ak eC):=by exfalso
theorem c1:FnScope ["_law_feed_here","_law_many","_law_digit","_law_one"] ["_law_feed_here","_law_many"] (ak eD):=by exfalso
theorem c2:FnScope ["_law_row_here","_law_way","_law_signs","_law_found","_law_k"] ["_law_row_here","_law_way","_law_signs"] (ak bS):=by exfalso
theorem c3:FnScope ["_law_feed_here","_law_ways"] ["_law_feed_here","_law_ways"] (ak fB):=by exfalso
theorem c4:FnScope ["_law_feed_here","_law_ways","_law_many","_law_far","_law_some","_law_way","_law_signs","_law_looks","_law_x","_law_other","_law_row_here"] ["_law_feed_here","_law_ways","_law_many"] (ak bh):=by exfalso
theorem c5:FnScope ["_law_feed_here","_law_ways","_law_many","_law_looks","_law_x","_law_k"] ["_law_feed_here","_law_ways","_law_many"] (ak bP):=by exfalso
theorem c6:FnScope ["_law_feed_here","_law_ways","_law_at","_law_more"] ["_law_feed_here","_law_ways"] (ak cm):=by exfalso
theorem c7:FnScope ["_law_feed_here","_law_ways","_law_many","_law_looks","_law_x","_law_k"] ["_law_feed_here","_law_ways","_law_many"] (ak bQ):=by exfalso
theorem c8:FnScope ["_law_feed_here","_law_ways","_law_many","_law_looks","_law_long","_law_rest","_law_k","_law_row_here"] ["_law_feed_here","_law_ways","_law_many"] (ak bR):=by exfalso
theorem c9:FnScope ["_law_feed_here","_law_form","_law_wide","_law_ways","_law_many"] ["_law_feed_here"] (ak dI):=by exfalso
theorem c10:FnScope ["_law_feed_here","_law_many","_law_letters","_law_stem","_law_first","_law_at","_law_found","_law_k","_law_name"] ["_law_feed_here","_law_many"] (ak dH):=by exfalso
theorem c11:FnScope ["_law_feed_here","_law_leaves","_law_found","_law_at","_law_sign"] ["_law_feed_here","_law_leaves"] (ak dE):=by exfalso
theorem c12:FnScope ["_law_feed_here","_law_ways","_law_looks","_law_wheel","_law_names_here","_law_desks","_law_x","_law_leaves","_law_k","_law_number"] ["_law_feed_here"] (ak dF):=by exfalso
theorem c13:FnScope ["_law_feed_here","_law_some","_law_names_here","_law_at"] ["_law_feed_here","_law_some"] (ak bZ):=by exfalso
theorem c14:FnScope ["_law_feed_here"] ["_law_feed_here"] (ak dD):=by exfalso
theorem c15:FnScope ["_law_feed_here","_law_house_here","_law_many","_law_clock_here","_law_name","_law_rule","_law_knot","_law_hands","_law_k"] ["_law_feed_here","_law_house_here"] (ak dB):=by exfalso
theorem c16:FnScope ["row","place"] ["row","place"] (ak kq):=by exfalso
theorem c17:FnScope ["clock","cell","name","place","knot","hands"] ["clock","cell"] (ak gC):=by exfalso
theorem c18:FnScope ["_law_clock_here","_law_cell","_law_knot","_law_hands"] ["_law_clock_here","_law_cell"] (ak eG):=by exfalso
theorem c19:FnScope ["_law_number"] ["_law_number"] (ak dJ):=by exfalso
theorem c20:FnScope ["_law_script","_law_asked","_law_k","_law_feed_here","_law_house_here","_law_clock_here","_law_j","_law_name","_law_cell","_law_kept","_law_found"] ["_law_script"] (ak s_law):=by exfalso
local macro_rules|`(tactic| ac_nf)=>`(tactic| first|exact lG|exact CK.blk lG|exact CK.blk (CK.blk lG))
local macro_rules|`(tactic| infer_instance)=>`(tactic| first
 | ((with_reducible show QE _ _ _ _);first|exact zS|exact z9 _|exact z6|exact Bc|refine Bg (by ac_nf) ?_ ?_|refine z8 _ ?_|refine zU _ ?_|refine zL (by ac_nf) ?_ ?_|refine z7 (by ac_nf) ?_ ?_|refine zW (by ac_nf) ?_ ?_|refine zV (by ac_nf) ?_ ?_|refine xI (by ac_nf) ?_ ?_|refine z0 (by ac_nf) ?_ ?_|refine zQ _ (by ac_nf) (by with_reducible assumption) ?_|refine zN (by ac_nf) (by with_reducible first|exact b_len|exact b_max|exact b_min|exact b_all|exact b_sum) ?_ ?_|refine Bj (by ac_nf) (by with_reducible first|exact b_tuple|exact b_int|exact sB|exact b_list|exact b_dict) ?_ ?_|refine zR (by ac_nf) (by with_reducible assumption) ?_|refine Bh (by ac_nf) ?_ ?_ ?_|refine zX _ _ (by ac_nf) (by with_reducible first|exact pU|exact pV) ?_ ?_|refine xL (by ac_nf) wD ?_ ?_|refine zO (by ac_nf) ?_ ?_ ?_ (by with_unfolding_all rfl)|refine zT (by ac_nf) (Bi.b_isinstance (by assumption)) (by with_reducible first|exact Bi.b_bool (by assumption)|exact Bi.b_int (by assumption)|exact Bi.b_tuple (by assumption)) (by with_reducible first|exact Ey|exact DQ|exact DE) (by decide) ?_|exact Be|refine xJ (by ac_nf) ?_ ?_|refine xK ?_|refine xM (by ac_nf) ?_ ?_|refine zP (by ac_nf) ?_ ?_|refine zY ?_|refine zM ?_ ?_|refine zZ ?_)
 | ((with_reducible show QA _ _ _ _);first|exact xN|refine qU _ ?_|refine t9 ?_ ?_)
 | ((with_reducible show QSs _ _ _ _);first|exact xT|refine ug _ ?_|refine ue ?_ ?_|refine xU ?_)
 | ((with_reducible show QS _ _ _ _);first|refine xX _ ?_ ?_|refine xW ?_|refine uf ?_|refine xR ?_ ?_|refine xV _ _ (by ac_nf) ?_ ?_|refine Aa ?_ ?_ ?_|refine xS (by ac_nf) (λ_=>PassesOwn.never) ?_ ?_ ?_|refine qX (λ_=>PassesOwn.never) ?_ ?_|refine qs_fgt _ ?_)
 | ((with_reducible show QT _ _ _ _);first|refine xY (by ac_nf) ?_ ?_ ?_ (by with_unfolding_all rfl)|refine xZ ?_|refine x8 ?_|refine QW.t ?_)
 | ((with_reducible show QW _ _ _ _);first|refine x9 ?_ ?_|refine Ab ?_ ?_|refine ui ?_|refine yb ?_)
 | ((with_reducible show QG _ _ _ _ _);first|refine ub _ ?_|refine qW (by ac_nf) (eA ?_ (eA ?_ m7))|refine qW (by ac_nf) (eA ?_ (eA ?_ (eA ?_ m7)))|refine xO _ ?_ ?_|refine ua _ ?_ ?_|refine qV _ ?_ ?_ ?_)
 | ((with_reducible show QI _ _ _ _ _);first|refine oH (by ac_nf) ?_ ?_|refine oI (by ac_nf) ?_ ?_|refine xQ (by ac_nf) ?_ ?_|refine xP (by ac_nf) ?_)
 | ((with_reducible show QO _ _ _ _);first|exact uc|refine ud ?_)
 | ((with_reducible show QTs _ _ _ _);first|exact uh)
 | ((with_reducible show fD _ _);first|exact AX|exact AY|exact AZ|exact A1|exact A2|exact A3)
 | ((with_reducible show∀_,List.Nodup _);intro _;first|assumption|exact jq (by rfl'))
 | with_reducible first|assumption|exact Bi.b_all (by assumption)|exact Bi.b_bool (by assumption)|exact Bi.b_dict (by assumption)|exact Bi.b_int (by assumption)|exact Bi.b_isinstance (by assumption)|exact Bi.b_len (by assumption)|exact Bi.b_list (by assumption)|exact Bi.b_max (by assumption)|exact Bi.b_min (by assumption)|exact Bi.b_repr (by assumption)|exact Bi.b_sum (by assumption)|exact Bi.b_tuple (by assumption))
local macro_rules|`(tactic| lia)=>`(tactic| repeat' (first|infer_instance|fail))
section
variable  {P:Program}{W:World}{K:yF}{mg:Str->Option Value}{base:Heap}(A:Adr mg K)
include A
theorem v0:Has P W K mg base 1 "_law_feed" ["_law_script","_law_k"] (spP K iG):=by
 have:=c0.nd;have:=A.T
 refine Def.qp A.d0.to c0 (m:=fQ) ?_ (λ_=>rfl)
 unfold fQ
 lia
theorem v1:Has P W K mg base 1 "_law_take" ["_law_feed_here","_law_many"] (spI K 0 ai):=by
 have:=c1.nd;have:=A.T
 refine Def.qi A.d1.to c1 (m:=fR) ?_ (λ_=>rfl)
 unfold fR
 lia
theorem v2:Has P W K mg base 1 "_law_turned_row" ["_law_row_here","_law_way","_law_signs"] (spP K bL):=by
 have:=c2.nd;have:=A.T
 refine Def.qp A.d2.to c2 (m:=bG) ?_ (λ_=>rfl)
 unfold bG
 lia
theorem v3:Has P W K mg base 2 "_law_row" ["_law_feed_here","_law_ways"] (spI K 0 gY):=by
 have:=@v1 P W K mg base A
 have:=c3.nd;have:=A.T
 refine Def.qi A.d3.to c3 (m:=gW) ?_ (λ_=>rfl)
 unfold gW
 lia
 ·refine bv (N':=["_law_feed_here","_law_ways","_law_k"]) (by ac_nf) (λ_=>Blk.of (by rfl')) ?_ ?_ ?_ ?_<;>lia
theorem v4:Has P W K mg base 3 "_law_opposed_reads" ["_law_feed_here","_law_ways","_law_many"] (spI K 0 bK):=by
 have:=@v1 P W K mg base A
 have:=@v2 P W K mg base A
 have:=@v3 P W K mg base A
 have:=c4.nd;have:=A.T
 refine Def.qi A.d4.to c4 (m:=bf) ?_ (λ_=>rfl)
 unfold bf
 lia
 ·refine bv (N':=["_law_feed_here","_law_ways","_law_many","_law_far","_law_some","_law_way","_law_signs","_law_looks","_law_x","_law_other","_law_row_here","_law_k"]) (by ac_nf) (λ_=>Blk.of (by rfl')) ?_ ?_ ?_ ?_<;>lia
 ·refine cG _ (N':=["_law_feed_here","_law_ways","_law_many","_law_far","_law_some","_law_way","_law_signs","_law_looks","_law_x","_law_other","_law_row_here"]) (by ac_nf) (λ_=>(by first|assumption|exact jq (by rfl'))) (λ_=>Blk.of (by rfl')) ?_ ?_ ?_ ?_<;>lia
theorem v5:Has P W K mg base 3 "_law_free_reads" ["_law_feed_here","_law_ways","_law_many"] (spI K 0 cH):=by
 have:=@v1 P W K mg base A
 have:=@v3 P W K mg base A
 have:=c5.nd;have:=A.T
 refine Def.qi A.d5.to c5 (m:=bD) ?_ (λ_=>rfl)
 unfold bD
 lia
 ·refine cG _ (N':=["_law_feed_here","_law_ways","_law_many","_law_looks","_law_x","_law_k"]) (by ac_nf) (λ_=>(by first|assumption|exact jq (by rfl'))) (λ_=>Blk.of (by rfl')) ?_ ?_ ?_ ?_<;>lia
theorem v6:Has P W K mg base 2 "_law_back_row" ["_law_feed_here","_law_ways"] (spI K 0 cA):=by
 have:=@v1 P W K mg base A
 have:=c6.nd;have:=A.T
 refine Def.qi A.d6.to c6 (m:=cx) ?_ (λ_=>rfl)
 unfold cx
 lia
 ·refine cG _ (N':=["_law_feed_here","_law_ways","_law_at","_law_more","_law_k"]) (by ac_nf) (λ_=>(by first|assumption|exact jq (by rfl'))) (λ_=>Blk.of (by rfl')) ?_ ?_ ?_ ?_<;>lia
theorem v7:Has P W K mg base 3 "_law_late_reads" ["_law_feed_here","_law_ways","_law_many"] (spI K 0 bJ):=by
 have:=@v1 P W K mg base A
 have:=@v6 P W K mg base A
 have:=c7.nd;have:=A.T
 refine Def.qi A.d7.to c7 (m:=bE) ?_ (λ_=>rfl)
 unfold bE
 lia
 ·refine cG _ (N':=["_law_feed_here","_law_ways","_law_many","_law_looks","_law_x","_law_k"]) (by ac_nf) (λ_=>(by first|assumption|exact jq (by rfl'))) (λ_=>Blk.of (by rfl')) ?_ ?_ ?_ ?_<;>lia
theorem v8:Has P W K mg base 4 "_law_ring_reads" ["_law_feed_here","_law_ways","_law_many"] (spI K 0 cI):=by
 have:=@v7 P W K mg base A
 have:=@v1 P W K mg base A
 have:=c8.nd;have:=A.T
 refine Def.qi A.d8.to c8 (m:=bF) ?_ (λ_=>rfl)
 unfold bF
 lia
 ·refine bv (N':=["_law_feed_here","_law_ways","_law_many","_law_looks","_law_long","_law_rest","_law_k","_law_row_here","_law_j"]) (by ac_nf) (λ_=>Blk.of (by rfl')) ?_ ?_ ?_ ?_<;>lia
 ·refine bv (N':=["_law_feed_here","_law_ways","_law_many","_law_looks","_law_long","_law_rest","_law_k","_law_row_here","_law_j"]) (by ac_nf) (λ_=>Blk.of (by rfl')) ?_ ?_ ?_ ?_<;>lia
 ·refine bv (N':=["_law_feed_here","_law_ways","_law_many","_law_looks","_law_long","_law_rest","_law_k","_law_row_here","_law_number"]) (by ac_nf) (λ_=>Blk.of (by rfl')) ?_ ?_ ?_ ?_<;>lia
 ·refine bv (N':=["_law_feed_here","_law_ways","_law_many","_law_looks","_law_long","_law_rest","_law_k","_law_row_here","_law_j"]) (by ac_nf) (λ_=>Blk.of (by rfl')) ?_ ?_ ?_ ?_<;>lia
theorem v9:Has P W K mg base 5 "_law_reads" ["_law_feed_here"] (spI K 0 gy):=by
 have:=@v1 P W K mg base A
 have:=@v5 P W K mg base A
 have:=@v7 P W K mg base A
 have:=@v8 P W K mg base A
 have:=@v4 P W K mg base A
 have:=c9.nd;have:=A.T
 refine Def.qi A.d9.to c9 (m:=eV) ?_ (λ_=>rfl)
 unfold eV
 lia
theorem v10:Has P W K mg base 2 "_law_names" ["_law_feed_here","_law_many"] (spI K 0 gx):=by
 have:=@v1 P W K mg base A
 have:=c10.nd;have:=A.T
 refine Def.qi A.d10.to c10 (m:=eU) ?_ (λ_=>rfl)
 unfold eU
 lia
 ·refine bv (N':=["_law_feed_here","_law_many","_law_letters","_law_stem","_law_first","_law_at","_law_found","_law_k","_law_name"]) (by ac_nf) (λ_=>Blk.of (by rfl')) ?_ ?_ ?_ ?_<;>lia
theorem v11:Has P W K mg base 2 "_law_grown" ["_law_feed_here","_law_leaves"] (spI K 0 gt):=by
 have:=@v1 P W K mg base A
 have:=c11.nd;have:=A.T
 refine Def.qi A.d11.to c11 (m:=eS) ?_ (λ_=>rfl)
 unfold eS
 lia
theorem v12:Has P W K mg base 6 "_law_house" ["_law_feed_here"] (spI K 0 gv):=by
 have:=@v9 P W K mg base A
 have:=@v1 P W K mg base A
 have:=@v10 P W K mg base A
 have:=@v11 P W K mg base A
 have:=c12.nd;have:=A.T
 refine Def.qi A.d12.to c12 (m:=eT) ?_ (λ_=>rfl)
 unfold eT
 lia
 ·refine cG _ (N':=["_law_feed_here","_law_ways","_law_looks","_law_wheel","_law_names_here","_law_desks","_law_x","_law_leaves","_law_k","_law_number","_law_other","_law_row_here"]) (by ac_nf) (λ_=>(by first|assumption|exact jq (by rfl'))) (λ_=>Blk.of (by rfl')) ?_ ?_ ?_ ?_<;>lia
theorem v13:Has P W K mg base 2 "_law_told_from" ["_law_feed_here","_law_some"] (spI K 0 cX):=by
 have:=@v1 P W K mg base A
 have:=c13.nd;have:=A.T
 refine Def.qi A.d13.to c13 (m:=ca) ?_ (λ_=>rfl)
 unfold ca
 lia
 ·refine bv (N':=["_law_feed_here","_law_some","_law_names_here","_law_at","_law_name"]) (by ac_nf) (λ_=>Blk.of (by rfl')) ?_ ?_ ?_ ?_<;>lia
theorem v14:Has P W K mg base 2 "_law_great" ["_law_feed_here"] (spI K 0 dm):=by
 have:=@v1 P W K mg base A
 have:=c14.nd;have:=A.T
 refine Def.qi A.d14.to c14 (m:=eR) ?_ (λ_=>rfl)
 unfold eR
 lia
theorem v15:Has P W K mg base 3 "_law_clock" ["_law_feed_here","_law_house_here"] (spI K 0 gr):=by
 have:=@v1 P W K mg base A
 have:=@v14 P W K mg base A
 have:=@v13 P W K mg base A
 have:=c15.nd;have:=A.T
 refine Def.qi A.d15.to c15 (m:=eQ) ?_ (λ_=>rfl)
 unfold eQ
 lia
 ·refine bv (N':=["_law_feed_here","_law_house_here","_law_many","_law_clock_here","_law_name","_law_rule","_law_knot","_law_hands","_law_k","_law_j"]) (by ac_nf) (λ_=>Blk.of (by rfl')) ?_ ?_ ?_ ?_<;>lia
theorem v16:Has P W K mg base 1 "along" ["row","place"] (spP K gA):=by
 have:=c16.nd;have:=A.T
 refine Def.qp A.d16.to c16 (m:=eX) ?_ (λ_=>rfl)
 unfold eX
 lia
 ·refine bv (N':=["row","place","number","other"]) (by ac_nf) (λ_=>Blk.of (by rfl')) ?_ ?_ ?_ ?_<;>lia
theorem v17:Has P W K mg base 2 "time_of" ["clock","cell"] (spP K eB):=by
 have:=@v16 P W K mg base A
 have:=c17.nd;have:=A.T
 refine Def.qp A.d17.to c17 (m:=cQ) ?_ (λ_=>rfl)
 unfold cQ
 lia
 ·refine bv (N':=["clock","cell","name","place","knot","hands","row","hour"]) (by ac_nf) (λ_=>Blk.of (by rfl')) ?_ ?_ ?_ ?_<;>lia
theorem v18:Has P W K mg base 1 "_law_time" ["_law_clock_here","_law_cell"] (spP K iH):=by
 have:=c18.nd;have:=A.T
 refine Def.qp A.d18.to c18 (m:=fS) ?_ (λ_=>rfl)
 unfold fS
 lia
 ·refine bv (N':=["_law_clock_here","_law_cell","_law_knot","_law_hands","_law_row_here","_law_hour"]) (by ac_nf) (λ_=>Blk.of (by rfl')) ?_ ?_ ?_ ?_<;>lia
  refine bv (N':=["_law_clock_here","_law_cell","_law_knot","_law_hands","_law_row_here","_law_hour","_law_k"]) (by ac_nf) (λ_=>Blk.of (by rfl')) ?_ ?_ ?_ ?_<;>lia
theorem v19:Has P W K mg base 1 "_law_whole" ["_law_number"] (spP K gz):=by
 have:=c19.nd;have:=A.T
 refine Def.qp A.d19.to c19 (m:=eW) ?_ (λ_=>rfl)
 unfold eW
 lia
theorem v20:Has P W K mg base 7 "law" ["_law_script"] (spP K r_l_law_v4):=by
 have:=@v0 P W K mg base A
 have:=@v12 P W K mg base A
 have:=@v15 P W K mg base A
 have:=@v1 P W K mg base A
 have:=@v17 P W K mg base A
 have:=@v18 P W K mg base A
 have:=@v19 P W K mg base A
 have:=c20.nd;have:=A.T
 refine Def.qp A.d20.to c20 (m:=dy) ?_ (λ_=>rfl)
 unfold dy
 lia
 ·refine bv (N':=["_law_script","_law_asked","_law_k","_law_feed_here","_law_house_here","_law_clock_here","_law_j","_law_name","_law_cell","_law_kept","_law_found","_law_i"]) (by ac_nf) (λ_=>Blk.of (by rfl')) ?_ ?_ ?_ ?_<;>lia
 ·refine bv (N':=["_law_script","_law_asked","_law_k","_law_feed_here","_law_house_here","_law_clock_here","_law_j","_law_name","_law_cell","_law_kept","_law_found","_law_one"]) (by ac_nf) (λ_=>Blk.of (by rfl')) ?_ ?_ ?_ ?_<;>lia
end
end K25
open PySem PySem.W PyProof.Rows
set_option maxRecDepth 100000 in
set_option maxHeartbeats 0 in
theorem PySem.Challenge.cw_clockhouse_k25_times_of_cells_holds : PySem.Challenge.rw_clockhouse_k25_times_of_cells.Holds := by
 refine holds_law K25.ws λsaid=>?_
 refine holds_open (q:=K25.KQ) (loose:=K25.KL) (XP:=XL K25.KQ []) (YP:=K25.KH.says) K25.left K25.KH.of K25.KH.keeps (λs e=>xl_of s (C3.mp e).1) XL.keeps (by rfl) (by rfl) (by rfl) (λs e=>recFacts_of (C3.mp e).2) (by rfl) said (by rfl') ⟨rfl,rfl,rfl,rfl,rfl,by decide +kernel⟩ ?hw ?hc
 case hw=>w_witness2
 exact L2.walkP (l:=PySem.Challenge.rw_clockhouse_k25_times_of_cells) (k:=7) (x:="_law_script") (st:=K25.s_law) (run:=L2.r_l_law_v4) (A:=K25.Adr) (K:=K25.KF) rfl rfl ⟨rfl,rfl,by decide,by decide⟩ (λw h Y=>Y) K25.adr0 K25.adr_less (λmg K A=>A.d20.to) (λ_ _ _ _ _ _ s v=>.of_eq rfl) (λw mg K base A=>K25.v20 A) (λns hn=>by obtain⟨t,h1,h2⟩:=L2.k25_law (ns:=ns) hn;rw[h1,h2])
