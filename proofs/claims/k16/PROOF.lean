import PyProof.Rows.All
import Wide.All
import OpenK.AllK
import Wide.FinOn
import Lean
import PyProof.EqAt
import PyProof.EqKinds
import PyProof.TupleCall
import PyProof.CompFree
import PyProof.ConsumeWalk
import PyProof.StrWalks
import PyProof.SliceStr2
import PyProof.Rows.StrJoin2
import PyProof.StrOps2
import PyProof.ListMulRoad
import PyProof.TupleOps
import PyProof.NeKinds
import KE.KRevIter
import PyProof.Rows.SortWalk
import PyProof.Draws
import PyProof.EnumMake
import PyProof.AutoListH
import PyProof.ZipIter
import KE.KDictOf
import PyProof.AttrMissHeap
import KE.KDictList
import PyProof.SumWalkG
import PyProof.ReprRoads
import KE.KEqDict
import PyProof.DictItems
import KE.KPairComp
import PyProof.DictCompW
import PyProof.ListRange
import PySem.Challenge.RW_clockhouse_k16_knots_in_their_order
set_option Elab.async false
set_option linter.all false
set_option maxRecDepth 100000
set_option maxHeartbeats 4000000
set_option genSizeOf false
set_option compiler.extract_closed false
open PySem renaming Value → Jd,wpAny_bind → Je,Shared → Jf,wpAny_pure → Jh,sizeLine_eq → Ji,model → Jj,wpAny → Jk,Builtin → Jl,wpAny_mono → Jo,NameKind → Jp,Program → Jq,wpAny_newObj_type → Js,foldedSetIterable → Jt,starEach → Jv,Around → Jw,cellsFrom → Jy,World → JB,compareOp → JE,mainGlobals → JH,wpAny_holding → JJ,binaryOp → JK,wpAny_standAt → JL,letOwnedTupleGo → JM,codeAny → JN,call_meets → JO,cLine → JP,bootBuiltins → JQ,holding → JR,assignEach → JT,attributeBase → JU,Scope → JW,wpAny_passesOwn → JY,wpAny_truthy_bool → JZ,wpAny_comprehension_free → J1,wpAny_field → Kb,sliceBounds → Kc,FuncData → Kf,assign → Kh,standAt → Ki,notedBy → Kl,wpAny_binaryOp_repeat_ref → Km,wpAny_callSpecial?_slot → Kn,backTo → Kq,newFunctionEnv → Ks,sysModules → Kw,wpAny_call_entry → Kx,typeIs_int → Ky,PlainAttrs → Kz,behindInMarks → KD,wpAny_execs_nil → KI,theTreesLotGoes → KN,wpAny_loadPart' → KO,codeAny_builtin → KP,getItem → KU,wpAny_typeOf → KW,wpAny_Call_Name_kw → K1,fitsIndex_both → La,setItem → Lg,wpAny_sequenceKey → Lh,swapsWithSole → Lj,swappedStores → Lk,IsPart → Ll,evalPart_none → Lm,swapsWith → Lp,PassesOwn → Lq,noFill_tuple_add → Lr,compTurn → Lv,wpAny_list_append_plain → Lw,Result → LA,codeAny_mono → LB,relabel → LG,codeAny_loop → LH,codeAny_compStart_list → LI,wpAny_updateSeq → LK,pushCells_keeps → LL,wpAny_isTrue_Compare1 → LM,int___rmul___int_list → LN,isTrue → LO,wpAny_loadName_local → LP,subscripted → LQ,wpAny_listPart → LR,wpAny_noted → LU,BindsTo → LX,callerA → LY,noteFrame → LZ,valueAt → L0,wpAny_loadName_cell → Ma,assignInOrder → Md,rangeSize_one → Me,seq_tuple_add → Mf,Comprehension → Mh,plainId_quiet → Mi,builtinsNs → Mm,pyNext → Mn,typeOf → Mr,wpAny_assign_Name → Mt,wpAny_pyIter_list → Mw,IsRange → Mx,concat_meets → My,slot_list_getitem → Mz,slot_list_setitem → MC,wpAny_execs_cons → MN,pyIter → MP,wpAny_Slice → MW,seqIndex_of → MX,noFill_list_mul → M1,wpAny_specialOf → M4,post_val_or_str → M5,release → M8,Keyword → M9,ItemsOf → Nb,wpAny_Name → Nd,truthy → Nf,Operator → Ng,bindName → Nh,wpAny_rule → Ni,wpAny_bindName → Nj,recursionLimit → Nk,bindArgs → Nl,bindL → Nm,bindC → Nn,typeIs_str → No,sliceRange_one → Np,wpAny_seqItems → Nq,compPost → Nr,storeName → Nz,CmpOp → NA,small_one → NB,seqIndex? → NC,DictEntry → ND,Params → NJ,newList → NM,pick_run → NP,compEnvC → NR,Meets → NS,Model → NY,Walks → NZ
open PySem.Heap renaming get?_push_of_some → Jg,lt_size → Jm,get?_push_size → Jn,get?_update_other → LD,size_push → LS,SameBut → NH
open PySem.Builtin.Tuple renaming tupleExact → Jr,tupleItemsOf → K3,tupleTooMany → Lb
open PySem.NameKind renaming cell → Ju,free → JV
open PySem.SeqAt renaming EqAt → Jz,notIn_tupleAt → Mc,notIn_listAt → Mq,RcNeAt → MD,in_tupleAt → MQ,in_listAt → MZ,RcAt → Nt
open PySem.Builtin.Slice renaming slicePlaces → JA,sliceAdjust → JG,sliceApplied → JX,sliceFields → Lc,slicePartIndex → MY
open PySem.Builtin.List renaming listTooLong → JC,listSubscript? → KY,listAllItems → Ld,listSameRef → Lo,listExtendWith → Nc,listItems → NI
open PySem.Builtin.Str renaming strSliceIndices → JD,occurrences → JS,tooLong → NU
open PySem.Str renaming ofString → JF,length → NV
open Ne renaming symm → JI
open PySem.AutoSeq1 renaming wpAny_loadPart' → J3,list_extend_list_list_0 → Kr,idx_int → Ly
open PySem.Builtin.Range renaming rangeSize → Ka,small → KT
open False renaming elim → Ke
open PySem.F renaming slot_int_rmul → Kg,slot_tuple_mul → KA,args_list_extend_2 → KG,entry_list_extend → KR,slot_list_extend → K6,args_int_rmul_2 → Li,slot_int_index → Ls,entry_int_rmul → Lu,fills_int_mul → LJ,args_tuple_mul_2 → Ms,args_list_mul_2 → MB,slot_tuple_rmul → MF,entry_tuple_mul → MH,plain_list_iadd → MK,entry_list_pop → MR,entry_list_mul → MU,slot_list_pop → M0,slot_list_mul → M3
open PySem.Obj renaming mapSeq → Kj
open PySem.Around renaming under_plainId → Kk
open PySem.AutoListH renaming list___mul___list_int_3 → Ko
open PySem.Txt renaming join → Kt,slice → NE
open PySem.MeetsSeq renaming plain_remove_loop → Ku,entry_remove_loop → MJ
open PySem.Value renaming bool → Kv,int → LW,none → Ml,str → MM,isStrOf → Nv,builtin → Nw,ref → Nx,isInt → NN
open Classical renaming choose → KB,not_not → ML
open True renaming intro → KC
open PyProof.Rows renaming envOfC → KJ,assignInOrder_cons → K0,slicePart_none → K2,AllBare → Lf,subscriptTail → Ln,subscriptTail_builtinR → LC,entry_tuple_getitem → Mb,tupleItemsOf_ → Mg,args_tuple_getitem → Mo,Subscript_ → Mp,assignInOrder_nil → Mv,IntsAre → Na,IsTup → Ny,range_getD → NF,tail_any → NQ
open ForInStep renaming yield → KM
open PySem.Calls renaming Name_function_global → KZ,callWith_builtin → LF
open PySem.Heap.IsSliceOf renaming new → K4
open Sum renaming inr → Le,inl → Lz
open Or renaming inr → LV,inl → MV
open PySem.SeqAt.EqAt renaming int_str → Mj,str_int → Mk
open PySem.Heap.DictOf renaming new → M6
open PySem.PassesOwn renaming never → M7
open PySem.SeqAt.RcNeAt renaming lists_lengths → Nu,tuples → NT,lists → NX
open And renaming intro → NG
open PySem.W renaming OpenLaw → NK,WShape → NL,WData → N0
open Sum.inr renaming inj → NO
open PySem.W.WShape renaming has → NW
open PySem.Flow renaming next → N1
open PySem.W.WData renaming int → N3
open List renaming getElem?_eq_some_iff → Eg,size_toArray → Eh,length_map → Ej,map_cons → Ek,replicate → El,nodup_append → Em,getElem?_map → Ep,mem_filter → Er,map_append → Es,length_append → Et,append_assoc → Eu,mem_map → Ev,flatMap_cons → Ew,length_cons → Ey,flatMap_append → Ez,append_nil → EB,cons_append → EC,getElem?_set_ne → ED,nodup_cons → EF,take_of_length_le → EG,filterMap_cons → EI,filterMap_append → EJ,filter_cons → EK,getD_eq_getElem?_getD → EL,perm_middle → EN,take_length → EO,getElem?_eq_getElem → EQ,range → EU,mem_map_of_mem → EV,mem_filterMap → EX,length_take → EZ,replicate_succ → E3,getElem?_append_left → E4,lookup_cons → E5,all_eq_true → E6,mem_cons → E8,drop_eq_getElem_cons → E9,filter_append → Fa,mem_flatMap → Fc,mem_of_mem_take → Fe,getElem?_set_self → Fg,filter_sublist → Fh,mem_range → Fi,foldl_cons → Fj,find?_cons → Fk,length_drop → Fm,eraseIdx_cons_succ → Fn,length_eq_zero_iff → Fo,contains_eq_mem → Fp,getElem?_cons_succ → Fq,all_cons → Fs,getElem?_append_right → Ft,flatten_cons → Fu,filter_eq_self → Fw,nil_append → Fx,map_nil → FB,getElem?_cons_zero → FC,getElem_cons_drop → FF,cons → FG,nodup_nil → FI,length → FK,ext_getElem? → FL,map_map → FM,mem_of_mem_drop → FN,eraseIdxIfInBounds_toArray → FO,map_eq_nil_iff → FP,not_mem_nil → FR,eq_nil_of_length_eq_zero → FS,length_eq_one_iff → FT,mem_replicate → FU,length_singleton → FX,mem_iff_getElem? → FY,reverse_cons → F4,length_filter_lt_length_iff_exists → F5,drop_length → F7,mem_take_iff_getElem → F8,mem_of_find?_eq_some → F9,mem_append → Gb,length_set → Gc,filter_map → Gd,filterMap_map → Ge,append_of_mem → Gf,filter_filter → Gg,filter_congr → Gj,all_nil → Gk,eraseIdx_nil → Gn,foldl_append → Go,take_append_drop → Gq,flatMap_nil → Gs,lookup → Gw,getLast?_append → Gy,head?_drop → Gz,map_congr_left → GA,take_succ_cons → GB,take_zero → GG,perm_ext_iff_of_nodup → GH,drop_drop → GI,find?_isSome → GL,getElem?_take_of_lt → GM,any_cons → GN,map_take → GO,append_cancel_right → GP,filterMap_cons_none → GQ,getElem?_replicate → GR,flatMap_eq_nil_iff → GX,map_reverse → GZ,getElem_mem → G3,foldl → G4,toArray → G5,range_succ_eq_map → G6,sublist_cons_self → G7,map_set → G8,zipWith_cons_cons → Ha,length_pos_of_mem → Hb,of_mem_zip → Hc,getElem?_eq_none → Hg,dropLast_eq_take → Hh,length_filter_le → Hj,set_append_left → Hl,take_succ → Hm,length_reverse → Hs,reverse_append → Hu,length_flatMap → Hv,take_nil → Hz,map_drop → HA,mem_singleton → HB,set_cons_succ → HC,map_inj_right → HD,all_map → HJ,length_range → HK,zipWith → HM,find?_append → HP,mem_flatten → HU,sum_reverse → HW,drop_zero → Ib
open Bool renaming and_eq_true → Ei,false_ne_true → EA,not_eq_true' → EM,eq_iff_iff → EY,or_eq_true → FD,and_self → Ga,not_eq_true → Gr,and_true → Gv,and_false → GD,false_eq_true → GE,false_and → Hk,and_eq_true_iff → Ho,false_or → Hw,true_and → Hy,not_false → Ic,true_or → Ih
open Nat renaming le_refl → Eo,lt_of_lt_of_le → EH,le_trans → ER,ne_of_lt → EW,zero_add → Fb,zero_le → Fd,lt_irrefl → Ff,lt_of_le_of_lt → Fy,le_add_right → FQ,mul_le_mul → GF,mod_lt → GJ,le_max_right → GV,le_max_left → He,min_eq_left → Hf,le_of_ble_eq_true → Hi,add_le_add_left → Hr,le_of_lt → HE,mul_comm → HG,lt_succ_of_lt → HI,succ_le_succ → HR,lt_succ_self → HS,le_succ → HX,not_lt_zero → HZ,zero_lt_one → Ia,min_self → Ii,le_zero → Iq
open Int renaming toNat_natCast → ES,emod_lt_of_pos → FJ,emod_nonneg → FW,eq_ofNat_of_zero_le → GU,toNat_of_nonneg → Ht,ediv_one → Ig,zero_add → Ij
open Option renaming some → ET,isSome_iff_exists → Fz,map_some → FV,getD_none → GS
open PyProof.Rows renaming slot_tuple_getitem → E7,callWith_type1 → FZ,boot_tuple → Gh,boot_range → GY,boot_list → G9,callWith_builtin1 → HQ,boot_min → Ik,boot_max → Il,boot_all → Im,boot_int → Io
open Array renaming length_toList → Fv,getElem?_toList → Gp,toArray_toList → Gx,size_append → HH,getElem_mem → HN,toList → Ie
open PySem.W renaming fnOf → FA,keepIn → FH,codeIn → F6,cellsFrom_some → Gi,findIn → GC,methodObj → GK,kitOne → Hn,specialIn → HF,nsIn → HL,instObj → HY
open PySem renaming mem_of_lookup → FE,seqSlot_of → HV
open Prod renaming ext → Ip
local macro_rules|`(tactic| rfl')=>`(tactic| kernel_rfl)
theorem K16.ws:PySem.Challenge.rw_clockhouse_k16_knots_in_their_order.wellSaid=true:=by rfl'
theorem yaR{α:Type}{b : α}(x:List α){y:List α}(h:b∈y):b∈x++y:=List.mem_append_right x h
theorem yaL{α:Type}{b : α}{x:List α}(y:List α)(h:b∈x):b∈x++y:=List.mem_append_left y h
theorem ymS{α:Type}{b : α}{x:List α}:b∈b::x:=List.mem_cons_self
theorem ymC{α:Type}{b : α}(y : α){x:List α}(h:b∈x):b∈y::x:=List.mem_cons_of_mem y h
theorem yaM{α:Type}{b : α}{x y:List α}(h:b∈x++y):b∈x∨b∈y:=Gb.mp h
theorem ycM{α:Type}{b a : α}{x:List α}(h:b∈a::x):b=a∨b∈x:=E8.mp h
theorem ysM{α:Type}{b a : α}(h:b∈[a]):b=a:=HB.mp h
theorem ymG{α:Type}{x:List α}{i:Nat}{a : α}(h:x[i]?=some a):a∈x:=List.mem_of_getElem? h
abbrev yF:=PySem.W.Frag
namespace L2
open PySem PySem.Spec PyProof.Rows
abbrev Key:=Sum Int Str
noncomputable def kN:Key->Jd->Bool
 | .inl k,v=>NN k v
 | .inr x,v=>Nv x v
noncomputable def D0(w:JB):Key->Int
 | .inl k=>hashInt k
 | .inr x=>hashStr w x
theorem bi:∀{k:Key} {v:Jd},kN k v=true->(∃i t,k=Lz i/\v=LW i t)∨(∃x t,k=Le x/\v=MM x t)
 | .inl i,v,h=>by
  obtain⟨t,e⟩:=Jd.isInt_shape (k:=i) (v:=v) h;exact .inl ⟨i,t,rfl,e⟩
 | .inr x,v,h=>by
  obtain⟨t,e⟩:=Jd.isStrOf_shape (x:=x) (v:=v) h;exact .inr ⟨x,t,rfl,e⟩
theorem qo(i:Int)(t:Tok):kN (.inl i) (.int i t)=true:=by simp[kN,NN]
theorem qr(x:Str)(t:Tok):kN (.inr x) (.str x t)=true:=by simp[kN,Nv]
theorem zr(a b:Int):decide ((Lz a:Key)=Lz b)=(a==b):=by
 by_cases e:a=b;subst e;simp
 ·have h:¬ (Lz a:Key)=Lz b:=λq=>e (Lz.inj q);rw[decide_eq_false h];exact(beq_eq_false_iff_ne.mpr e).symm
theorem zw(a b:Str):decide ((Le a:Key)=Le b)=decide (a=b):=by
 by_cases e:a=b;subst e;simp
 ·have h:¬ (Le a:Key)=Le b:=λq=>e (NO q);rw[decide_eq_false h,decide_eq_false e]
theorem zt(a:Int)(b:Str):decide ((Lz a:Key)=Le b)=false:=decide_eq_false (λq=>nomatch q)
theorem zu(a:Str)(b:Int):decide ((Le a:Key)=Lz b)=false:=decide_eq_false (λq=>nomatch q)
noncomputable def bA(prog:Jq) (w:JB):PySem.KeyKind prog w Key where
 is:=kN
 hash:=D0 w
 inj:=λv a b ha hb=>by
  rcases bi ha with⟨i,t,rfl,rfl⟩|⟨x,t,rfl,rfl⟩
  ·rcases bi hb with⟨j,u,rfl,e⟩|⟨y,u,rfl,e⟩;injection e with e1 _;rw[e1];exact nomatch e
  ·rcases bi hb with⟨j,u,rfl,e⟩|⟨y,u,rfl,e⟩;exact nomatch e;injection e with e1 _;rw[e1]
 byValue:=λk v h=>by
  rcases bi h with⟨i,t,rfl,rfl⟩|⟨x,t,rfl,rfl⟩<;>rfl
 pyHash:=λhv h=>by
  rcases bi hv with⟨i,t,rfl,rfl⟩|⟨x,t,rfl,rfl⟩;exact wpAny_pyHash_int h;exact wpAny_pyHash_str h
 eqBool:=λhu hv h=>by
  rcases bi hu with⟨i,t,rfl,rfl⟩|⟨x,t,rfl,rfl⟩
  ·rcases bi hv with⟨j,u,rfl,rfl⟩|⟨y,u,rfl,rfl⟩;rw[zr]at h;exact wpAny_eqBool_int h;rw[zt]at h;exact Mj i t y u _ _ _ _ h
  ·rcases bi hv with⟨j,u,rfl,rfl⟩|⟨y,u,rfl,rfl⟩;rw[zu]at h;exact Mk x t j u _ _ _ _ h;rw[zw]at h;exact wpAny_eqBool_str h
 «strs»:=λk x t v h=>by
  rcases bi h with⟨i,u,rfl,e⟩|⟨y,u,rfl,e⟩;exact nomatch e
  ·injection e with e1 _;subst e1;cases v<;>rfl
theorem mI(prog:Jq)(w:JB)(i:Int)(t:Tok):(bA prog w).is (.inl i) (.int i t)=true:=qo i t
theorem mJ(prog:Jq)(w:JB)(x:Str)(t:Tok):(bA prog w).is (.inr x) (.str x t)=true:=qr x t
inductive V where
 | non|bl (b:Bool)|int (i:Int)|str (x:Str)|byt (b:Array UInt8)|flt (b:UInt64)|ref (a:Addr)|ty (n:String)
 deriving DecidableEq
def RelV:V->Jd->Prop
 | .non,u=>u=Ml
 | .bl b,u=>u=Kv b
 | .int i,u=>∃t,u=LW i t
 | .str x,u=>∃t,u=MM x t
 | .byt b,u=>∃t,u=Jd.bytes b t
 | .flt b,u=>∃t,u=Jd.float b t
 | .ref a,u=>u=Nx a
 | .ty n,u=>u=Jd.type n
abbrev Vals:List V->List Jd->Prop:=Paired RelV
theorem Vals.length{xs:List V}{us:List Jd}(r:Vals xs us):xs.length=us.length:=Paired.length r
theorem Vals.get:∀{xs:List V} {us:List Jd} {i:Nat} {x:V},Vals xs us->xs[i]?=some x->∃u,us[i]?=some u/\RelV x u
 | _,_,_,_,.nil,e=>by simp at e
 | _,_,0,_,.cons r _,e=>by simp at e;subst e;exact⟨_,rfl,r⟩
 | _,_,i+1,x,.cons _ t,e=>by
  obtain⟨u,h1,h2⟩:=Vals.get (i:=i) (x:=x) t (by simpa using e);exact⟨u,by simpa using h1,h2⟩
theorem Vals.set{x:V}{u:Jd}(r:RelV x u):∀{xs:List V} {us:List Jd} (i:Nat),Vals xs us->Vals (xs.set i x) (us.set i u)
 | _,_,_,.nil=>.nil
 | _,_,0,.cons _ t=>.cons r t
 | _,_,i+1,.cons q t=>.cons q (Vals.set r i t)
theorem Vals.append:∀{xs ys:List V} {us ws:List Jd},Vals xs us->Vals ys ws->Vals (xs++ys) (us++ws)
 | _,_,_,_,.nil,s=>s
 | _,_,_,_,.cons r t,s=>.cons r (Vals.append t s)
theorem Vals.take:∀{xs:List V} {us:List Jd} (n:Nat),Vals xs us->Vals (xs.take n) (us.take n)
 | _,_,0,_=>.nil
 | _,_,_+1,.nil=>.nil
 | _,_,n+1,.cons r t=>.cons r (Vals.take n t)
theorem Vals.drop:∀{xs:List V} {us:List Jd} (n:Nat),Vals xs us->Vals (xs.drop n) (us.drop n)
 | _,_,0,r=>r
 | _,_,_+1,.nil=>.nil
 | _,_,n+1,.cons _ t=>Vals.drop n t
def RelO:Option V->Option Jd->Prop
 | some v,some u=>RelV v u
 | none,none=>True
 | _,_=>False
def KV{κ : Type}:List (κ×V)->List (κ×Jd)->Prop:=Paired λ(p : κ×V) (q : κ×Jd)=>p.1=q.1/\RelV p.2 q.2
noncomputable def kV:Key->V
 | .inl i=>.int i
 | .inr x=>.str x
inductive HO where
 | lst (xs:List V)
 | tup (xs:List V)
 | dK (kvs:List (Key×V))|dT (kvs:List (List Key×V))
 | set (S:Int->Bool) (n:Nat)
 | ins (C dx:Addr) (fs:List (Str×V))
 | own (x:Addr)
 | xd (fs:List (Str×V))
 | met (f x:Addr)
 | rng (lo hi:Int)
 | frz (o:Obj) (u:HO)
 | tbl (ps:Array Jd)
 | ext (φ : Heap->Prop)
abbrev Hp:=Addr->Option HO
noncomputable def upd(H:Hp) (a:Addr) (o:HO):Hp:=λb=>if b=a then some o else H b
theorem aA{H:Hp}{a:Addr}{o:HO}:upd H a o a=some o:=by unfold upd;rw[if_pos rfl]
theorem aN{H:Hp}{a b:Addr}{o:HO}(h:b≠a):upd H a o b=H b:=by unfold upd;rw[if_neg h]
theorem ba{H:Hp}{a b:Addr}{o:HO}(h:H a=some o)(h':H b=none):a≠b:=by
 intro e;subst e;rw[h]at h';cases h'
def IH(h:Heap)(a:Addr)(items:Array Jd):Prop:=∃o,h.get? a=some o/\(o.cls=.type "tuple" ∧ o.dict=none)/\∃n,o.data=.seq items n
theorem IH.to{h:Heap}{a:Addr}{items:Array Jd}(x:IH h a items):Ny h a items:=let ⟨o,e,c,d⟩:=x;⟨o,e,c.1,d⟩
theorem IH.new(h:Heap)(items:Array Jd):IH (h.push {cls:=.type "tuple",data:=.seq items}) h.objs.size items:=⟨_,Jn _ rfl,⟨rfl,rfl⟩,_,rfl⟩
section
variable (P:Jq)(w:JB)
def Iz(H:Hp)(h:Heap)(a:Addr):HO->Prop
 | .lst xs=>xs.length<=sizeLine/\∃(its:List Jd) (n:Nat),Vals xs its/\h.get? a=some {cls:=.type "list",data:=.seq its.toArray n}
 | .tup xs=>xs.length<=sizeLine/\∃its:List Jd,Vals xs its/\IH h a its.toArray
 | .dK kvs=>kvs.length<=sizeLine/\(a==Kw)=false/\∃vs,KV kvs vs/\h.DictOf (bA P w) a vs
 | .dT kvs=>kvs.length<=sizeLine/\(a==Kw)=false/\∃xs:List (List Key×Addr×Jd),
   Paired (λ(p:List Key×V) (q:List Key×Addr×Jd)=>p.1=q.1/\H q.2.1=some (.tup (p.1.map kV))/\RelV p.2 q.2.2) kvs xs ∧
   ∃o es ep,h.get? a=some o/\o.ExactDict/\o.data=.dict es ep/\es.toList=xs.map (entryOfKey (tupleKind (bA P w)))/\(xs.map (·.1)).Nodup
 | .set S n=>h.SetOf (intKind P w) a S n
 | .ins C dx fs=>H dx=some (.own a)/\fs.length<=1000/\dx≠a/\h.get? a=some (HY C dx) ∧
   ∃mA,h.Ns1 dx mA/\(∀f,RelO (fs.lookup f) (mA f))/\PySem.Within mA (fs.map (·.1))
 | .own _=>∃o,h.get? a=some o
 | .xd fs=>∃mA,h.Ns1 a mA/\∀f,RelO (fs.lookup f) (mA f)
 | .rng lo hi=>∃t u v,h.get? a=some {cls:=.type "range",data:=.fields #[.int lo t,.int hi u,.int 1 v]}
 | .frz o u=>h.get? a=some o/\Iz H h a u
 | .tbl ps=>h.get? a=some {cls:=.none,data:=.fields ps}
 | .met f x=>h.get? a=some (GK (.ref f) (.ref x))
 | .ext φ=>φ h/\(∃o,h.get? a=some o)/\∀h1 h2:Heap,φ h1->(∀o,h1.get? a=some o->h2.get? a=some o)->φ h2
def HOk(H:Hp)(h:Heap):Prop:=∀a o,H a=some o->Iz P w H h a o
end
section
variable {P:Jq}{w:JB}{H H':Hp}{h h':Heap}{a:Addr}{o:HO}
theorem Iz.lt(x:Iz P w H h a o):a<h.objs.size:=by
 cases o with
 | lst xs=>obtain⟨_,_,_,_,e⟩:=x;exact Jm e
 | tup xs=>obtain⟨_,_,_,p⟩:=x;exact p.to.lt
 | dK kvs=>obtain⟨_,_,_,_,o,_,_,e,_⟩:=x;exact Jm e
 | dT kvs=>obtain⟨_,_,_,_,o,_,_,e,_⟩:=x;exact Jm e
 | set S n=>obtain⟨o,_,_,_,e,_⟩:=x;exact Jm e
 | ins C dx fs=>obtain⟨_,_,_,e,_⟩:=x;exact Jm e
 | own y=>obtain⟨_,e⟩:=x;exact Jm e
 | xd fs=>obtain⟨_,⟨_,_,_,e,_⟩,_⟩:=x;exact Jm e
 | rng lo hi=>obtain⟨_,_,_,e⟩:=x;exact Jm e
 | frz ob u=>obtain⟨e,_⟩:=x;exact Jm e
 | tbl ps=>exact Jm (show h.get? a=some _ from x)
 | met f y=>exact Jm (show h.get? a=some _ from x)
 | ext φ=>obtain⟨_,⟨_,e⟩,_⟩:=x;exact Jm e
theorem Paired.mapP{α β:Type}{F G : α->β->Prop}:∀{l₁ : List α} {l₂ : List β},Paired F l₁ l₂->(∀a b,F a b->G a b)->Paired G l₁ l₂
 | _,_,.nil,_=>.nil
 | _,_,.cons r t,f=>.cons (f _ _ r) (Paired.mapP t f)
theorem Iz.stay(x:Iz P w H h a o)(k:∀b u,(b=a∨H b=some (.own a))->h.get? b=some u->h'.get? b=some u)
  (ho:∀b,H b=some (.own a)->H' b=some (.own a)) (ht:∀b xs,H b=some (.tup xs)->H' b=some (.tup xs)):Iz P w H' h' a o:=by
 induction o with
 | lst xs=>obtain⟨z,its,n,r,e⟩:=x;exact⟨z,its,n,r,k _ _ (.inl rfl) e⟩
 | tup xs=>obtain⟨z,its,r,ob,e,c⟩:=x;exact⟨z,its,r,ob,k _ _ (.inl rfl) e,c⟩
 | dK kvs=>obtain⟨z,y,vs,r,ob,es,ep,e,c⟩:=x;exact⟨z,y,vs,r,ob,es,ep,k _ _ (.inl rfl) e,c⟩
 | dT kvs=>
  obtain⟨z,y,xs,r,ob,es,ep,e,c⟩:=x;exact⟨z,y,xs,Paired.mapP r λp q z=>⟨z.1,ht _ _ z.2.1,z.2.2⟩,ob,es,ep,k _ _ (.inl rfl) e,c⟩
 | set S n=>obtain⟨ob,es,ep,t,e,c⟩:=x;exact⟨ob,es,ep,t,k _ _ (.inl rfl) e,c⟩
 | ins C dx fs=>
  obtain⟨d,z,ne,e,mA,⟨od,es,ep,e2,c⟩,r⟩:=x;exact⟨ho _ d,z,ne,k _ _ (.inl rfl) e,mA,⟨od,es,ep,k _ _ (.inr d) e2,c⟩,r⟩
 | own y=>obtain⟨ob,e⟩:=x;exact⟨ob,k _ _ (.inl rfl) e⟩
 | xd fs=>obtain⟨mA,⟨od,es,ep,e,c⟩,r⟩:=x;exact⟨mA,⟨od,es,ep,k _ _ (.inl rfl) e,c⟩,r⟩
 | rng lo hi=>obtain⟨t,u,v,e⟩:=x;exact⟨t,u,v,k _ _ (.inl rfl) e⟩
 | frz ob u ih=>obtain⟨e,q⟩:=x;exact⟨k _ _ (.inl rfl) e,ih q⟩
 | tbl ps=>
  have e:h.get? a=some {cls:=.none,data:=.fields ps}:=x;show h'.get? a=some {cls:=.none,data:=.fields ps};exact k a _ (.inl rfl) e
 | met f y=>
  have e:h.get? a=some (GK (.ref f) (.ref y)):=x;show h'.get? a=some (GK (.ref f) (.ref y));exact k a _ (.inl rfl) e
 | ext φ=>obtain⟨p,⟨o,e⟩,st⟩:=x;exact⟨st _ _ p λo q=>k _ _ (.inl rfl) q,⟨o,k _ _ (.inl rfl) e⟩,st⟩
theorem HOk.lt(x:HOk P w H h)(e:H a=some o):a<h.objs.size:=(x a o e).lt
theorem HOk.fresh(x:HOk P w H h)(e:h.objs.size<=a):H a=none:=by
 cases q:H a with
 | none=>rfl
 | some u=>exact absurd (EH (x.lt q) e) (Ff _)
theorem HOk.kept(x:HOk P w H h)(k:∀b u,h.get? b=some u->h'.get? b=some u):HOk P w H h':=λa o e=>
 (x a o e).stay (λb u _ q=>k b u q) (λ_ q=>q) λ_ _ q=>q
theorem HOk.laid(x:HOk P w H h)(k:∀b u,h.get? b=some u->h'.get? b=some u)(hp:h.objs.size<=a)(new:Iz P w (upd H a o) h' a o):HOk P w (upd H a o) h':=λb u e=>by
 have hn:=x.fresh hp;by_cases hb:b=a;subst hb;rw[aA]at e;cases e;exact new
 ·rw[aN hb]at e;exact(x b u e).stay (λc v _ q=>k c v q) (λc q=>by rw[aN (ba q hn)];exact q) λc xs q=>by rw[aN (ba q hn)];exact q
end
def Rd(H:Hp)(a:Addr)(u:HO):Prop:=H a=some u ∨ ∃o,H a=some (.frz o u)
theorem Rd.ok{P:Jq}{w:JB}{H:Hp}{h:Heap}{a:Addr}{u:HO}(r:Rd H a u)(x:HOk P w H h):Iz P w H h a u:=by
 rcases r with r|⟨o,r⟩;exact x a u r
 ·obtain⟨_,q⟩:=x a _ r;exact q
def Mut:Option HO->Prop
 | some (.lst _)=>True
 | some (.dK _)=>True
 | some (.dT _)=>True
 | some (.set _ _)=>True
 | some (.ins _ _ _)=>True
 | some (.ext _)=>True
 | _=>False
section
variable {P:Jq}{w:JB}{H:Hp}{h h':Heap}{x e:Addr}{o':HO}
theorem HOk.write(ok:HOk P w H h)(mu:Mut (H x))(he:e=x∨H e=some (.own x))(k:∀b u,b≠e->h.get? b=some u->h'.get? b=some u)(heo:∃u,h'.get? e=some u)
  (new:Iz P w (upd H x o') h' x o'):HOk P w (upd H x o') h':=λb u q=>by
 have nown:∀c y,H c=some (.own y)->c≠x:=λc y r z=>by subst z;rw[r]at mu;exact mu
 have ntup:∀c xs,H c=some (.tup xs)->c≠x:=λc xs r z=>by subst z;rw[r]at mu;exact mu
 by_cases hb:b=x;subst hb;rw[aA]at q;cases q;exact new
 ·rw[aN hb]at q;by_cases hbe:b=e
  ·have q':H b=some (.own x):=by
    rcases he with z|z;exact absurd (hbe.trans z) hb;rw[hbe];exact z
   rw[q]at q';cases q';obtain⟨v,hv⟩:=heo;exact⟨v,by rw[hbe];exact hv⟩
  ·refine(ok b u q).stay (λc v hc r=>k c v ?_ r) (λc r=>by rw[aN (nown c b r)];exact r) λc xs r=>by rw[aN (ntup c xs r)];exact r
   rcases hc with rfl|hc;exact hbe
   ·rintro rfl;rcases he with z|z;exact nown c b hc z;rw[hc]at z;cases z;exact hb rfl
end
structure Un(fs ex:List Addr)(H H':Hp)(h h':Heap):Prop where
 keep:∀b o,h.get? b=some o->H b=none->b∉fs->b∉ex->h'.get? b=some o
 slot:∀b o,h.get? b=some o->H b=none->b∈fs->b∉ex->∃sl,h'.get? b=some {o with slots:=sl}
 free:∀b o,h.get? b=some o->H b=none->b∉ex->H' b=none
 there:∀b o,h.get? b=some o->b∉ex->∃o',h'.get? b=some o'
 tups:∀b xs,H b=some (.tup xs)->H' b=some (.tup xs)
 frzs:∀b o u,H b=some (.frz o u)->H' b=some (.frz o u)
 tbls:∀b ps,H b=some (.tbl ps)->∃more,H' b=some (.tbl (ps++more))
section
variable {fs fs' ex ex':List Addr}{H H1 H2:Hp}{h h1 h2 h':Heap}{a x e:Addr}{o:HO}
theorem Un.any(u:Un fs ex H H1 h h1){b:Addr}{ob:Obj}(q:h.get? b=some ob)(n:H b=none)(hx:b∉ex):∃sl,h1.get? b=some {ob with slots:=sl}:=by
 by_cases hb:b∈fs;exact u.slot b ob q n hb hx;exact⟨ob.slots,u.keep b ob q n hb hx⟩
theorem Un.kept(k:∀b u,h.get? b=some u->h'.get? b=some u):Un fs ex H H h h':=
 ⟨λb ob q _ _ _=>k b ob q,λb ob q _ _ _=>⟨ob.slots,k b ob q⟩,λ_ _ _ n _=>n,λb ob q _=>⟨ob,k b ob q⟩,λ_ _ q=>q,λ_ _ _ q=>q,λ_ ps q=>⟨#[],by rw[q];simp⟩⟩
theorem Un.refl:Un fs ex H H h h:=Un.kept λ_ _ q=>q
theorem Un.laid(k:∀b u,h.get? b=some u->h'.get? b=some u)(hp:h.objs.size<=a)(hn:H a=none):Un fs ex H (upd H a o) h h' where
 keep:=λb u q _ _ _=>k b u q
 slot:=λb u q _ _ _=>⟨u.slots,k b u q⟩
 free:=λb u q n _=>by rw[aN (EW (EH (Jm q) hp))];exact n
 there:=λb u q _=>⟨u,k b u q⟩
 tups:=λb xs q=>by rw[aN (ba q hn)];exact q
 frzs:=λb u xs q=>by rw[aN (ba q hn)];exact q
 tbls:=λb ps q=>⟨#[],by rw[aN (ba q hn),q];simp⟩
theorem Un.write(mu:Mut (H x))(he:e=x∨H e=some (.own x))(k:∀b u,b≠e->h.get? b=some u->h'.get? b=some u)(heo:∃u,h'.get? e=some u):Un fs ex H (upd H x o) h h':=by
 have hx:∀b,H b=none->b≠x:=λb n z=>by subst z;rw[n]at mu;exact mu
 have hb:∀b,H b=none->b≠e:=λb n z=>by
  subst z;rcases he with r|r;exact hx b n r;rw[n]at r;cases r
 have hm:∀b u,H b=some u->¬ Mut (some u)->b≠x:=λb u q nm z=>by subst z;rw[q]at mu;exact nm mu
 refine⟨λb u q n _ _=>k b u (hb b n) q,λb u q n _ _=>⟨u.slots,k b u (hb b n) q⟩,λb u q n _=>by rw[aN (hx b n)];exact n,λb u q _=>?_,
  λb xs q=>by rw[aN (hm b _ q λz=>z)];exact q,λb u xs q=>by rw[aN (hm b _ q λz=>z)];exact q,λb ps q=>⟨#[],by rw[aN (hm b _ q λz=>z),q];simp⟩⟩
 by_cases hbe:b=e;subst hbe;exact heo;exact⟨u,k b u hbe q⟩
end
noncomputable def trk(h:Heap) (H:Hp):List Addr:=(EU h.objs.size).filter λa=>(H a).isSome
noncomputable def lF(h:Heap) (H:Hp):Heap:=PySem.W.hideAll h (trk h H)
theorem qj(h:Heap)(H:Hp):(lF h H).objs.size=h.objs.size:=PySem.W.hideAll_size _ _
theorem sn{h:Heap}{H:Hp}{b:Addr}{o:Obj}(e:h.get? b=some o)(n:H b=none):(lF h H).get? b=some o:=
 PySem.W.hideAll_get _ e λhm=>by
  have q:(H b).isSome=true:=(Er.mp hm).2;rw[n]at q;simp at q
theorem wr{h:Heap}{H:Hp}{b:Addr}{o:Obj}(e:(lF h H).get? b=some o):h.get? b=some o/\H b=none:=by
 have e':h.get? b=some o:=PySem.W.of_hideAll (trk h H) e;refine⟨e',?_⟩;cases q:H b with
 | none=>rfl
 | some x=>
  have hm:b∈trk h H:=Er.mpr ⟨Fi.mpr (Jm e'),by simp[q]⟩;have z:(lF h H).get? b=none:=PySem.W.hideAll_none (trk h H) hm;rw[z]at e;cases e
noncomputable def vF(g h:Heap) (L:Addr):List (Addr×Obj):=(EU h.objs.size).filterMap λa=>if a=L∨(g.get? a).isSome=true then none else(h.get? a).map λo=>(a,o)
noncomputable def rest(g h:Heap) (L d:Addr):List (Addr×Obj):=(vF g h L).filter λp=>decide (p.1≠d)
structure Mod(K:yF)(mg:Str->Option Jd)(base:Heap):Prop where
 kin:K.In base
 glob:base.Ns JH mg
 blt:∃mb,base.Ns Mm mb/\∀x:Str,x ≠ "__name__" → mb x=JQ x
 nolimit:base.NoLimit
structure Cx where
 prog:Jq
 w:JB
 K:yF
 mg:Str->Option Jd
 base:Heap
 A:Jw
 N:List Str
 s₀ : Jf
 H₀ : Hp
 env:Env
 outer:List Env
 stack:List Env
 ex:List Addr
 fn:Str->Bool
 calm:Bool
 pn:List (Addr×Obj)
 xe:Jd->Jf->Prop
def frs(l:List Env):List Addr:=l.filterMap (·.frame)
noncomputable abbrev Cx.fs(X:Cx):List Addr:=frs X.outer
def Vis(sc:JW)(x:Str):Prop:=sc.names.lookup x=some .local∨sc.names.lookup x=some .cell∨sc.names.lookup x=some .free
def Loc(sc:JW)(x:Str):Prop:=sc.names.lookup x=some .local∨sc.names.lookup x=some .cell
def DD(env:Env)(h:Heap)(m:Str->Option Jd)(x:Str)(u:Jd):Prop:=
 (env.kindOf x=some .local/\m x=some u)∨((env.kindOf x=some .cell∨env.kindOf x=some .free)/\∃c,env.cells.lookup x=some c/\h.IsCell c (some u))
structure Cx.Ok(X:Cx):Prop where
 mod:Mod X.K X.mg X.base
 kind:X.env.scope.kind=.function
 glob:X.env.globals=JH
 blt:X.env.builtins=Mm
 above:X.s₀.heap.objs.size<=X.env.locals
 inj:∀x y c,X.env.cells.lookup x=some c->X.env.cells.lookup y=some c->x=y
 has:∀x,(X.env.kindOf x=some .cell∨X.env.kindOf x=some .free)->∃c,X.env.cells.lookup x=some c
 cab:∀x c,X.fn x=true->X.env.cells.lookup x=some c->X.s₀.heap.objs.size<=c
 hd:X.calm=true->X.A.handled=none
 gd:X.calm=true->X.A.guards=some []
 frames:X.A.frames=some X.stack
 stk:X.stack=X.outer∨(X.stack=X.env::X.outer/\X.env.frame=some X.env.locals)
 exf:∀b∈X.ex,b≠X.env.locals/\∀x c,X.env.cells.lookup x=some c->c≠b
 bs:∀b o,X.base.get? b=some o->X.s₀.heap.get? b=some o/\X.H₀ b=none
 bsz:X.base.objs.size<=X.s₀.heap.objs.size
 noex:∀b o,X.base.get? b=some o->b∉X.ex
 exfs:∀b∈X.ex,b∉X.fs
 funs:X.s₀.heap.FunFrames X.base X.outer
 frf:∀b∈X.fs,X.H₀ b=none
structure Inv(X:Cx)(pins:List (Addr×Obj))(Z:List (Option V))(H:Hp)(s:Jf):Prop where
 ok:X.Ok
 os:s.os=X.s₀.os
 bare:Lf s.gens
 base:Un X.fs X.ex X.H₀ H X.s₀.heap s.heap
 loc:∃m,s.heap.Ns X.env.locals m/\∀(i:Nat) (x:Str) (v:V),X.N[i]?=some x->Z[i]?=some (some v)->Vis X.env.scope x->∃u,RelV v u/\DD X.env s.heap m x u
 cell:∀x c,X.env.cells.lookup x=some c->∃v,s.heap.IsCell c v
 free:H X.env.locals=none
 freeC:∀x c,X.env.cells.lookup x=some c->H c=none
 pin:∀p∈X.pn++pins,s.heap.get? p.1=some p.2/\H p.1=none/\p.1≠X.env.locals/\p.1∉X.fs/\∀v,p.2.data ≠ .cell v
 hok:HOk X.prog X.w H s.heap
 len:Z.length=X.N.length
section
variable {X:Cx}{pins:List (Addr×Obj)}{Z:List (Option V)}{H H':Hp}{s:Jf}{h':Heap}
theorem Cx.Ok.nofr(ok:X.Ok){b:Addr}{o:Obj}(e:X.base.get? b=some o):b∉X.fs:=λhb=>by
 have:=(ok.funs.mem hb).1;rw[e]at this;cases this
theorem Inv.bs(I:Inv X pins Z H s):∀b o,X.base.get? b=some o->s.heap.get? b=some o/\H b=none:=λb o e=>
 ⟨I.base.keep b o (I.ok.bs b o e).1 (I.ok.bs b o e).2 (I.ok.nofr e) (I.ok.noex b o e),I.base.free b o (I.ok.bs b o e).1 (I.ok.bs b o e).2 (I.ok.noex b o e)⟩
theorem Inv.bk(I:Inv X pins Z H s):∀b o,X.base.get? b=some o->s.heap.get? b=some o:=λb o e=>(I.bs b o e).1
theorem Inv.mod(I:Inv X pins Z H s):Mod X.K X.mg X.base:=I.ok.mod
theorem Inv.kIn(I:Inv X pins Z H s):X.K.In s.heap:=I.ok.mod.kin.keeps I.bk
theorem Inv.fr(I:Inv X pins Z H s):∃m,Fr X.base X.env.locals s.heap m:=
 let ⟨m,hn,_⟩:=I.loc
 ⟨m,hn,I.bk,ER I.ok.bsz I.ok.above⟩
theorem Inv.lt(I:Inv X pins Z H s):X.env.locals<s.heap.objs.size:=let ⟨_,hn,_⟩:=I.loc;hn.lt
theorem Inv.sz(I:Inv X pins Z H s):X.s₀.heap.objs.size<=s.heap.objs.size:=ER I.ok.above (HE I.lt)
theorem Inv.nofs(I:Inv X pins Z H s){a:Addr}(h:s.heap.objs.size<=a):a∉X.fs:=λhb=>by
 obtain⟨_,o,ho,_⟩:=I.ok.funs.mem hb;exact absurd (EH (Jm ho) (ER I.sz h)) (Ff _)
theorem Inv.cne(I:Inv X pins Z H s):∀x c,X.env.cells.lookup x=some c->c≠X.env.locals:=λx c e z=>by
 obtain⟨v,o,ho,hd⟩:=I.cell x c e;obtain⟨m,⟨o',es,ep,ho',hd',_⟩,_⟩:=I.loc;rw[z,ho']at ho;cases ho;rw[hd']at hd;cases hd
theorem Inv.funs(I:Inv X pins Z H s):s.heap.FunFrames X.base X.outer:=by
 have all:∀(l:List Env),(∀b∈frs l,b∈X.fs)->X.s₀.heap.FunFrames X.base l->s.heap.FunFrames X.base l:=by
  intro l
  induction l with
  | nil=>intro _ _;trivial
  | cons env r ih=>
   intro hs hl;obtain⟨hk,⟨L,o,hf,hn,ho,hd⟩,hr⟩:=hl;have hL:L∈X.fs:=hs L (by unfold frs;rw[EI,hf];exact ymS);obtain⟨sl,e⟩:=I.base.slot L o ho (I.ok.frf L hL) hL λz=>I.ok.exfs L z hL;exact⟨hk,⟨L,_,hf,hn,e,hd⟩,ih (λb hb=>hs b (by unfold frs;rw[EI,hf];exact ymC _ hb)) hr⟩
 exact all X.outer (λ_ hb=>hb) I.ok.funs
theorem Inv.stack(I:Inv X pins Z H s):s.heap.FunFrames X.base X.stack:=by
 rcases I.ok.stk with e|⟨e,hf⟩;rw[e];exact I.funs
 ·rw[e];obtain⟨m,hn,_⟩:=I.loc;refine .cons (by rw[I.ok.kind];decide) hf hn ?_ I.funs;exact Heap.get?_none_of_le (ER I.ok.bsz I.ok.above)
theorem Inv.stkSub(I:Inv X pins Z H s):∀b∈frs X.stack,b∈X.env.locals::X.fs:=λb hb=>by
 rcases I.ok.stk with e|⟨e,hf⟩;rw[e]at hb;exact ymC _ hb
 ·rw[e]at hb;unfold frs at hb;rw[EI,hf]at hb;exact hb
theorem Inv.stkFree(I:Inv X pins Z H s):∀b∈frs X.stack,H b=none:=λb hb=>by
 rcases ycM (I.stkSub b hb)with e|hb;rw[e];exact I.free
 ·obtain⟨_,o,ho,_⟩:=I.ok.funs.mem hb;exact I.base.free b o ho (I.ok.frf b hb) λz=>I.ok.exfs b z hb
theorem Inv.step{g':Array GenState}{t':Nat}{d':Drawn}{ch:List Addr}(I:Inv X pins Z H s)
  (hch:∀b∈ch,(b∈X.ex∨X.s₀.heap.objs.size<=b)/\b≠X.env.locals/\(∀x c,X.env.cells.lookup x=some c->c≠b)/\∀p∈X.pn++pins,p.1≠b)
  (keep:∀b o,b≠X.env.locals->b∉X.fs->b∉ch->s.heap.get? b=some o->H b=none->h'.get? b=some o)
  (slot:∀b o,b≠X.env.locals->b∈X.fs->b∉ch->s.heap.get? b=some o->H b=none->∃sl,h'.get? b=some {o with slots:=sl}) (free:∀b o,b∉ch->s.heap.get? b=some o->H b=none->H' b=none)
  (there:∀b o,b∉ch->s.heap.get? b=some o->∃o',h'.get? b=some o')
  (tups:∀b xs,H b=some (.tup xs)->H' b=some (.tup xs)) (frzs:∀b o u,H b=some (.frz o u)->H' b=some (.frz o u)) (tbls:∀b ps,H b=some (.tbl ps)->∃more,H' b=some (.tbl (ps++more)))
  (ns:∀m,s.heap.Ns X.env.locals m->h'.Ns X.env.locals m) (hok:HOk X.prog X.w H' h') (hg:Lf g') :
  Inv X pins Z H' {s with heap:=h',gens:=g',drawn:=d',toks:=t'}:=by
 have neL:∀b o,X.s₀.heap.get? b=some o->b≠X.env.locals:=λb o e=>EW (EH (Jm e) I.ok.above);have neC:∀b o,X.s₀.heap.get? b=some o->b∉X.ex->b∉ch:=λb o e hx hb=>by
  rcases(hch b hb).1 with z|z;exact hx z;exact absurd (EH (Jm e) z) (Ff _)
 have cellK:∀x c,X.env.cells.lookup x=some c->∀v,s.heap.IsCell c v->h'.IsCell c v:=λx c e v ⟨o,ho,hd⟩=>by
  have nch:c∉ch:=λz=>(hch c z).2.2.1 x c e rfl;by_cases hc:c∈X.fs
  ·obtain⟨sl,q⟩:=slot c o (I.cne x c e) hc nch ho (I.freeC x c e);exact⟨_,q,hd⟩
  ·exact⟨o,keep c o (I.cne x c e) hc nch ho (I.freeC x c e),hd⟩
 refine⟨I.ok,I.os,hg,⟨λb o e n hb hx=>?_,λb o e n hb hx=>?_,λb o e n hx=>?_,λb o e hx=>?_,λb xs e=>tups b xs (I.base.tups b xs e),λb o xs e=>frzs b o xs (I.base.frzs b o xs e),λb ps e=>?_⟩,?_,λx c e=>?_,?_,λx c e=>?_,λp hp=>?_,hok,I.len⟩;exact keep b o (neL b o e) hb (neC b o e hx) (I.base.keep b o e n hb hx) (I.base.free b o e n hx)
 ·obtain⟨sl,e1⟩:=I.base.slot b o e n hb hx;obtain⟨sl',e2⟩:=slot b _ (neL b o e) hb (neC b o e hx) e1 (I.base.free b o e n hx);exact⟨sl',e2⟩
 ·obtain⟨o',e1⟩:=I.base.there b o e hx;exact free b o' (neC b o e hx) e1 (I.base.free b o e n hx)
 ·obtain⟨o',e1⟩:=I.base.there b o e hx;exact there b o' (neC b o e hx) e1
 ·obtain⟨m1,e1⟩:=I.base.tbls b ps e;obtain⟨m2,e2⟩:=tbls b _ e1;exact⟨m1++m2,by rw[e2,Array.append_assoc]⟩
 ·obtain⟨m,hn,hl⟩:=I.loc;refine⟨m,ns m hn,λi x v e1 e2 e3=>?_⟩;obtain⟨u,r,l⟩:=hl i x v e1 e2 e3;refine⟨u,r,?_⟩;rcases l with l|⟨k,c,e,z⟩;exact .inl l;exact .inr ⟨k,c,e,cellK x c e _ z⟩
 ·obtain⟨v,z⟩:=I.cell x c e;exact⟨v,cellK x c e v z⟩
 ·obtain⟨m,⟨o,_,_,ho,_⟩,_⟩:=I.loc;exact free _ o (λz=>(hch _ z).2.1 rfl) ho I.free
 ·obtain⟨v,o,ho,hd⟩:=I.cell x c e;exact free c o (λz=>(hch c z).2.2.1 x c e rfl) ho (I.freeC x c e)
 ·obtain⟨e,n,ne,nf,d⟩:=I.pin p hp;have nch:p.1∉ch:=λz=>(hch p.1 z).2.2.2 p hp rfl;exact⟨keep p.1 p.2 ne nf nch e n,free p.1 p.2 nch e n,ne,nf,d⟩
theorem Inv.un{t':Nat}(I:Inv X pins Z H s)(u:Un X.fs [] H H' s.heap h')(hok:HOk X.prog X.w H' h'):Inv X pins Z H' {s with heap:=h',toks:=t'}:=by
 obtain⟨m,⟨o,es,ep,ho,r⟩,_⟩:=id I.loc;obtain⟨sl,hL⟩:=u.any ho I.free (by simp);exact I.step (g':=s.gens) (d':=s.drawn) (ch:=[]) (λ_ z=>nomatch z) (λb o _ hb _ e n=>u.keep b o e n hb (by simp)) (λb o _ hb _ e n=>u.slot b o e n hb (by simp)) (λb o _ e n=>u.free b o e n (by simp)) (λb o _ e=>u.there b o e (by simp)) u.tups u.frzs u.tbls (λm' hm=>by
  obtain⟨o',es',ep',ho',r'⟩:=hm;rw[ho]at ho';cases ho';exact⟨_,es',ep',hL,r'⟩) hok I.bare
theorem Inv.call{g':Array GenState}{t':Nat}{d':Drawn}{ch:List Addr}(I:Inv X pins Z H s)(u:Un (frs X.stack) ch H H' s.heap h')(hok:HOk X.prog X.w H' h')(hg:Lf g')
  (hch:∀b∈ch,(b∈X.ex∨X.s₀.heap.objs.size<=b)/\b≠X.env.locals/\(∀x c,X.env.cells.lookup x=some c->c≠b)/\∀p∈X.pn++pins,p.1≠b) :
  Inv X pins Z H' {s with heap:=h',gens:=g',drawn:=d',toks:=t'}:=by
 obtain⟨m,⟨o,es,ep,ho,r⟩,_⟩:=id I.loc;obtain⟨sl,hL⟩:=u.any ho I.free λz=>(hch _ z).2.1 rfl;exact I.step (ch:=ch) hch (λb o hL hb hc e n=>u.keep b o e n (λz=>(ycM (I.stkSub b z)).elim hL hb) hc) (λb o _ _ hc e n=>u.any e n hc) (λb o hc e n=>u.free b o e n hc) (λb o hc e=>u.there b o e hc) u.tups u.frzs u.tbls (λm' hm=>by
  obtain⟨o',es',ep',ho',r'⟩:=hm;rw[ho]at ho';cases ho';exact⟨_,es',ep',hL,r'⟩) hok hg
theorem Inv.turned{t':Nat}{it:Addr}(I:Inv X pins Z H s)(k:∀b o,b≠it->s.heap.get? b=some o->h'.get? b=some o)(hn:H it=none)(hL:it≠X.env.locals)
  (h1:it∈X.ex∨X.s₀.heap.objs.size<=it) (h2:∀x c,X.env.cells.lookup x=some c->c≠it) (h3:∀p∈X.pn++pins,p.1≠it):Inv X pins Z H {s with heap:=h',toks:=t'}:=by
 have nit:∀b u,H b=some u->b≠it:=λb u e z=>by rw[z,hn]at e;cases e
 refine I.step (g':=s.gens) (d':=s.drawn) (ch:=[it]) (λb hb=>?_) (λb o _ _ hc e _=>k b o (λz=>hc (by simp[z])) e) (λb o _ _ hc e _=>⟨o.slots,k b o (λz=>hc (by simp[z])) e⟩) (λ_ _ _ _ n=>n)
  (λb o hc e=>⟨o,k b o (λz=>hc (by simp[z])) e⟩) (λ_ _ e=>e) (λ_ _ _ e=>e) (λb ps e=>⟨#[],by rw[e];simp⟩) (λm hm=>?_) (λb u e=>?_) I.bare
 ·have e:b=it:=by simpa using hb
  subst e;exact⟨h1,hL,h2,h3⟩
 ·obtain⟨o,es,ep,ho,r⟩:=hm;exact⟨o,es,ep,k _ o (JI hL) ho,r⟩
 ·refine(I.hok b u e).stay (λc v hc q=>k c v ?_ q) (λ_ q=>q) λ_ _ q=>q;rcases hc with z|z;rw[z];exact nit b u e;exact nit c _ z
theorem Inv.tok(I:Inv X pins Z H s)(t:Nat):Inv X pins Z H {s with toks:=t}:=I.un (h':=s.heap) (t':=t) Un.refl I.hok
theorem Inv.kept{t':Nat}(I:Inv X pins Z H s)(k:∀b u,s.heap.get? b=some u->h'.get? b=some u):Inv X pins Z H {s with heap:=h',toks:=t'}:=I.un (Un.kept k) (I.hok.kept k)
theorem Inv.laid{a:Addr}{o:HO}{t':Nat}(I:Inv X pins Z H s)(k:∀b u,s.heap.get? b=some u->h'.get? b=some u)(hp:s.heap.objs.size<=a)(new:Iz X.prog X.w (upd H a o) h' a o) :
  Inv X pins Z (upd H a o) {s with heap:=h',toks:=t'}:=I.un (Un.laid k hp (I.hok.fresh hp)) (I.hok.laid k hp new)
theorem Inv.write{x e:Addr}{o:HO}{t':Nat}(I:Inv X pins Z H s)(mu:Mut (H x))(he:e=x∨H e=some (.own x))(k:∀b u,b≠e->s.heap.get? b=some u->h'.get? b=some u)(heo:∃u,h'.get? e=some u)
  (new:Iz X.prog X.w (upd H x o) h' x o):Inv X pins Z (upd H x o) {s with heap:=h',toks:=t'}:=I.un (Un.write mu he k heo) (I.hok.write mu he k heo new)
theorem Inv.weak{Z':List (Option V)}(I:Inv X pins Z H s)(hl:Z'.length=Z.length)(w:∀(i:Nat) v,Z'[i]?=some (some v)->Z[i]?=some (some v)):Inv X pins Z' H s:=
 ⟨I.ok,I.os,I.bare,I.base,let ⟨m,hn,hl'⟩:=I.loc;⟨m,hn,λi x v e1 e2 e3=>hl' i x v e1 (w i v e2) e3⟩,I.cell,I.free,I.freeC,I.pin,I.hok,hl.trans I.len⟩
theorem Inv.pins_of{pins':List (Addr×Obj)}(I:Inv X pins Z H s)(h:∀p∈pins',s.heap.get? p.1=some p.2/\H p.1=none/\p.1≠X.env.locals/\p.1∉X.fs/\∀v,p.2.data ≠ .cell v):Inv X pins' Z H s:=
 ⟨I.ok,I.os,I.bare,I.base,I.loc,I.cell,I.free,I.freeC,λp hp=>(yaM hp).elim (λz=>I.pin p (yaL _ z)) (h p),I.hok,I.len⟩
theorem mO{N:List Str}(hN:N.Nodup){i j:Nat}{x:Str}(a:N[i]?=some x)(b:N[j]?=some x):i=j:=by
 obtain⟨h1,e1⟩:=Eg.mp a;obtain⟨h2,e2⟩:=Eg.mp b;exact(List.getElem_inj hN).mp (e1.trans e2.symm)
theorem k9{M:NY}{A:Jw}{E:Jd->Jf->Prop}{i:Nat}{x:Str}{v:V}{u:Jd}{Q:Unit->Jf->Prop}(I:Inv X pins Z H s)(hN:X.N.Nodup)(hi:X.N[i]?=some x)(hx:Loc X.env.scope x)(r:RelV v u)
  (h:∀s',Inv X pins (Z.set i (some v)) H s'->(∃a,NH a s.heap s'.heap/\(a=X.env.locals∨X.env.cells.lookup x=some a))->Q () s') (hf:X.fn x=true∨X.env.scope.names.lookup x=some .local:=by first|exact .inl rfl|exact .inr rfl|assumption):Jk M A (Nz X.env x u) Q E s:=by
 obtain⟨m,hn,hl⟩:=id I.loc;have hcls:(X.env.scope.kind == .class||(X.env.scope.kind == .module&&X.env.locals != X.env.globals))=false:=by rw[I.ok.kind];rfl
 have hiZ:i<Z.length:=by rw[I.len];exact(Eg.mp hi).1
 have cne:=I.cne;have tracked:∀{a:Addr} {h':Heap},(∃o,s.heap.get? a=some o/\H a=none)->NH a s.heap h'->HOk X.prog X.w H h':=λ{a h'} ha hs b ob e=>by
  obtain⟨_,_,hfree⟩:=ha;refine(I.hok b ob e).stay (λc w' hc q=>(hs.2 c ?_).trans q) (λ_ q=>q) λ_ _ q=>q;rintro rfl;rcases hc with rfl|hc;rw[hfree]at e;cases e;rw[hfree]at hc;cases hc
 rcases hx with hk|hk
 ·refine wpAny_storeName_local hk hn (λh' hn' hs=>?_) hcls;obtain⟨oL,_,_,hoL,_⟩:=id hn;refine h _ ⟨I.ok,I.os,I.bare,⟨λb o e n hb hx=>?_,λb o e n hb hx=>?_,I.base.free,λb o e hx=>?_,I.base.tups,I.base.frzs,I.base.tbls⟩,⟨_,hn',λj y v' e1 e2 e3=>?_⟩,λy c e=>?_,I.free,I.freeC,λp hp=>?_,tracked ⟨oL,hoL,I.free⟩ hs,by simpa using I.len⟩ ⟨_,hs,.inl rfl⟩;exact(hs.2 b (EW (EH (Jm e) I.ok.above))).trans (I.base.keep b o e n hb hx)
  ·obtain⟨sl,e1⟩:=I.base.slot b o e n hb hx;exact⟨sl,(hs.2 b (EW (EH (Jm e) I.ok.above))).trans e1⟩
  ·obtain⟨o',e1⟩:=I.base.there b o e hx;exact⟨o',(hs.2 b (EW (EH (Jm e) I.ok.above))).trans e1⟩
  ·by_cases hj:j=i
   ·subst hj;rw[hi]at e1;cases e1;rw[Fg hiZ]at e2;cases e2;exact⟨u,r,.inl ⟨hk,by simp⟩⟩
   ·rw[ED (JI hj)]at e2;obtain⟨u',r',q⟩:=hl j y v' e1 e2 e3;refine⟨u',r',?_⟩;rcases q with⟨k,e⟩|⟨k,c,e,z⟩
    ·refine .inl ⟨k,?_⟩;have:y≠x:=λe=>hj (mO hN e1 (e▸hi));simp[this,e]
    ·exact .inr ⟨k,c,e,z.sameBut hs (cne y c e)⟩
  ·obtain⟨w',z⟩:=I.cell y c e;exact⟨w',z.sameBut hs (cne y c e)⟩
  ·obtain⟨e,n,ne,nf,d⟩:=I.pin p hp;exact⟨(hs.2 p.1 ne).trans e,n,ne,nf,d⟩
 ·have hfn:X.fn x=true:=by
   rcases hf with z|z;exact z;rw[z]at hk;cases hk
  obtain⟨c,hc⟩:=I.ok.has x (.inl hk);obtain⟨w',z⟩:=I.cell x c hc;refine wpAny_storeName_cell I.ok.kind hk hc z (λh' hc' hs=>?_);obtain⟨oc,hoc,hocd⟩:=id z;refine h {s with heap:=h'} ⟨I.ok,I.os,I.bare,⟨λb o e n hb hx=>?_,λb o e n hb hx=>?_,I.base.free,λb o e hx=>?_,I.base.tups,I.base.frzs,I.base.tbls⟩,⟨m,hn.sameBut hs (JI (cne x c hc)),λj y v' e1 e2 e3=>?_⟩,λy c' e=>?_,I.free,I.freeC,λp hp=>?_,tracked ⟨oc,hoc,I.freeC x c hc⟩ hs,by simpa using I.len⟩ ⟨c,hs,.inr hc⟩;exact(hs.2 b (EW (EH (Jm e) (I.ok.cab x c hfn hc)))).trans (I.base.keep b o e n hb hx)
  ·obtain⟨sl,e1⟩:=I.base.slot b o e n hb hx;exact⟨sl,(hs.2 b (EW (EH (Jm e) (I.ok.cab x c hfn hc)))).trans e1⟩
  ·obtain⟨o',e1⟩:=I.base.there b o e hx;exact⟨o',(hs.2 b (EW (EH (Jm e) (I.ok.cab x c hfn hc)))).trans e1⟩
  ·by_cases hj:j=i
   ·subst hj;rw[hi]at e1;cases e1;rw[Fg hiZ]at e2;cases e2;exact⟨u,r,.inr ⟨.inl hk,c,hc,hc'⟩⟩
   ·rw[ED (JI hj)]at e2;obtain⟨u',r',q⟩:=hl j y v' e1 e2 e3;refine⟨u',r',?_⟩;rcases q with q|⟨k,c',e,z'⟩;exact .inl q
    ·refine .inr ⟨k,c',e,z'.sameBut hs ?_⟩;rintro rfl;exact hj (mO hN e1 (I.ok.inj _ _ _ e hc▸hi))
  ·by_cases hcc:c'=c;subst hcc;exact⟨_,hc'⟩
   ·obtain⟨w2,z2⟩:=I.cell y c' e;exact⟨w2,z2.sameBut hs hcc⟩
  ·obtain⟨e,n,ne,nf,d⟩:=I.pin p hp;refine⟨(hs.2 p.1 ?_).trans e,n,ne,nf,d⟩;intro q;rw[q,hoc]at e;have q':oc=p.2:=ET.inj e;exact d w' (by rw[←q'];exact hocd)
theorem gn{M:NY}{A:Jw}{E:Jd->Jf->Prop}{i:Nat}{x:Str}{v:V}{u:Jd}{Q:Unit->Jf->Prop}(I:Inv X pins Z H s)(hN:X.N.Nodup)(hi:X.N[i]?=some x)(hx:Loc X.env.scope x)(r:RelV v u)
  (h:∀s',Inv X pins (Z.set i (some v)) H s'->Q () s') (hf:X.fn x=true∨X.env.scope.names.lookup x=some .local:=by first|exact .inl rfl|exact .inr rfl|assumption):Jk M A (Nz X.env x u) Q E s:=
 k9 I hN hi hx r (λs' I' _=>h s' I') hf
theorem Inv.call'{s':Jf}{ch:List Addr}(I:Inv X pins Z H s)(ho:s'.os=s.os)(u:Un (frs X.stack) ch H H' s.heap s'.heap)(hok:HOk X.prog X.w H' s'.heap)(hg:Lf s'.gens)
  (hch:∀b∈ch,(b∈X.ex∨X.s₀.heap.objs.size<=b)/\b≠X.env.locals/\(∀x c,X.env.cells.lookup x=some c->c≠b)/\∀p∈X.pn++pins,p.1≠b):Inv X pins Z H' s':=by
 obtain⟨h',g',d',t',o'⟩:=s';have e:o'=s.os:=ho;subst e;exact I.call (g':=g') (t':=t') (d':=d') u hok hg hch
end
abbrev XK:=Jd->Option Addr->Hp->Prop
abbrev St:=List (Option V)
abbrev VK:=V->Hp->Prop
abbrev TE:=St->Hp->VK->Prop
abbrev TT:=St->Hp->(Bool->Hp->Prop)->Prop
abbrev TA:=St->Hp->(List V->Hp->Prop)->Prop
structure IT where
 nx:St->Hp->Prop
 rt:VK
 bk:St->Hp->Prop:=λ_ _=>False
 ct:St->Hp->Prop:=λ_ _=>False
abbrev TS:=IT->St->Hp->Prop
def EP(X:Cx)(pins:List (Addr×Obj))(Z:St)(Q:VK)(u:Jd)(s':Jf):Prop:=∃v H',Inv X pins Z H' s'/\RelV v u/\Q v H'
def TP(X:Cx)(pins:List (Addr×Obj))(Z:St)(Q:Bool->Hp->Prop)(b:Bool)(s':Jf):Prop:=∃H',Inv X pins Z H' s'/\Q b H'
def AP(X:Cx)(pins:List (Addr×Obj))(Z:St)(Q:List V->Hp->Prop)(us:List Jd)(s':Jf):Prop:=∃vs H',Inv X pins Z H' s'/\Vals vs us/\Q vs H'
def SP(X:Cx)(pins:List (Addr×Obj))(D:IT)(f:Flow)(s':Jf):Prop:=
 match f with
 | .next=>∃Z' H',Inv X pins Z' H' s'/\D.nx Z' H'
 | .brk=>∃Z' H',Inv X pins Z' H' s'/\D.bk Z' H'
 | .cont=>∃Z' H',Inv X pins Z' H' s'/\D.ct Z' H'
 | .ret u=>∃v Z' H',Inv X pins Z' H' s'/\RelV v u/\D.rt v H'
def PE(X:Cx)(e:Expr)(t:TE):Prop:=
 ∀(pins:List (Addr×Obj)) (s:Jf) (Z:St) (H:Hp) (Q:VK),Inv X pins Z H s->t Z H Q->Jk (Jj X.prog X.w) X.A (eval e X.env) (EP X pins Z Q) X.xe s
def PT(X:Cx)(e:Expr)(t:TT):Prop:=
 ∀(pins:List (Addr×Obj)) (s:Jf) (Z:St) (H:Hp) (Q:Bool->Hp->Prop),Inv X pins Z H s->t Z H Q->Jk (Jj X.prog X.w) X.A (LO e X.env (eval e X.env)) (TP X pins Z Q) X.xe s
def PW(X:Cx)(e:Expr)(t:TT):Prop:=
 ∀(whole:Sem Jd) (pins:List (Addr×Obj)) (s:Jf) (Z:St) (H:Hp) (Q:Bool->Hp->Prop),Inv X pins Z H s->t Z H Q->Jk (Jj X.prog X.w) X.A (LO e X.env whole) (TP X pins Z Q) X.xe s
theorem PW.pt{X:Cx}{e:Expr}{t:TT}(h:PW X e t):PT X e t:=h _
def PA(X:Cx)(es:List Expr)(t:TA):Prop:=
 ∀(pos:Pos) (pins:List (Addr×Obj)) (s:Jf) (Z:St) (H:Hp) (Q:List V->Hp->Prop),Inv X pins Z H s->t Z H Q->Jk (Jj X.prog X.w) X.A (spliced (Kq pos (Jv es X.env))) (AP X pins Z Q) X.xe s
def PS(X:Cx)(st:Stmt)(t:TS):Prop:=
 ∀(pins:List (Addr×Obj)) (s:Jf) (Z:St) (H:Hp) (D:IT),Inv X pins Z H s->t D Z H->Jk (Jj X.prog X.w) X.A (exec st X.env) (SP X pins D) X.xe s
def PSs(X:Cx)(st:List Stmt)(t:TS):Prop:=
 ∀(pins:List (Addr×Obj)) (s:Jf) (Z:St) (H:Hp) (D:IT),Inv X pins Z H s->t D Z H->Jk (Jj X.prog X.w) X.A (execs st X.env) (SP X pins D) X.xe s
theorem thn{α:Type}{t:Sem α}{Q Q' : α->Jf->Prop}{M:NY}{A:Jw}{E:Jd->Jf->Prop}{s:Jf}(h:Jk M A t Q E s)(hQ:∀a s,Q a s->Q' a s):Jk M A t Q' E s:=Jo h hQ λ_ _ x=>x
section
variable {X:Cx}
theorem bin{a b:Expr}{ta tb:TE}(ha:PE X a ta)(hb:PE X b tb){pins:List (Addr×Obj)}{s:Jf}{Z:St}{H:Hp}{R:V->V->Hp->Prop}(I:Inv X pins Z H s)(h:ta Z H λx H1=>tb Z H1 λy H2=>R x y H2)
  {α:Type} {Q : α->Jf->Prop} {f:Jd->Jd->Sem α}
  (hf:∀v u s2 x y H2,Inv X pins Z H2 s2->RelV x v->RelV y u->R x y H2->Jk (Jj X.prog X.w) X.A (f v u) Q X.xe s2) :
  Jk (Jj X.prog X.w) X.A (eval a X.env) (λv s₁=>Jk (Jj X.prog X.w) X.A (eval b X.env) (λu s₂=>Jk (Jj X.prog X.w) X.A (f v u) Q X.xe s₂) X.xe s₁) X.xe s:=by
 refine thn (ha pins s Z H _ I h) λv s1 ⟨x,H1,I1,r1,q1⟩=>?_;refine thn (hb pins s1 Z H1 _ I1 q1) λu s2 ⟨y,H2,I2,r2,q2⟩=>?_;exact hf v u s2 x y H2 I2 r1 r2 q2
def Bg(i:Nat):TE:=λZ H Q=>∃v,Z[i]?=some (some v)/\Q v H
def tC(v:V):TE:=λ_ H Q=>Q v H
theorem tK{i:Nat}{x:Str}{pos:Pos}(hN:X.N[i]?=some x)(hv:Vis X.env.scope x)(hd:(x==("__debug__" : Str))=false:=by decide)(hcd:(x==("__classdict__" : Str))=false:=by decide):PE X (.Name x pos) (Bg i):=by
 intro pins s Z H Q I h;obtain⟨v,e,h⟩:=h;obtain⟨m,hn,hl⟩:=I.loc;obtain⟨u,r,l⟩:=hl i x v hN e hv;have fin:EP X pins Z Q u s:=⟨v,H,I,r,h⟩;rcases l with⟨hk,hm⟩|⟨hk,c,hc,hcell⟩;exact Nd (LP I.ok.kind hk hn hm fin) hd
 ·rcases hk with hk|hk;exact Nd (Ma I.ok.kind hk hc hcell fin) hd;exact Nd (wpAny_loadName_free I.ok.kind hk hc hcell fin hcd) hd
theorem tI{i j pos}:PE X (.Constant (.int i) j pos) (tC (.int i)):=λ_ _ _ H _ I h=>wpAny_Constant_int ⟨.int i,H,I.tok _,⟨_,rfl⟩,h⟩
theorem Cj{b j pos}:PE X (.Constant (.bool b) j pos) (tC (.bl b)):=λ_ _ _ H _ I h=>Constant_bool ⟨.bl b,H,I,rfl,h⟩
theorem Ah{x j pos}:PE X (.Constant (.str x) j pos) (tC (.str x)):=λ_ _ _ H _ I h=>Calls.Constant_str ⟨.str x,H,I.tok _,⟨_,rfl⟩,h⟩
def Gl(X:Cx)(x:Str):Prop:=X.env.kindOf x=some .globalImplicit
theorem wa{E:Jd->Jf->Prop}{pins:List (Addr×Obj)}{s:Jf}{Z:St}{H:Hp}{x:Str}{u:Jd}{pos:Pos}{Q:Jd->Jf->Prop}(I:Inv X pins Z H s)(hg:Gl X x)(hm:X.mg x=some u)(h:Q u s)
  (hd:(x==("__debug__" : Str))=false:=by decide):Jk (Jj X.prog X.w) X.A (eval (.Name x pos) X.env) Q E s:=
 KZ I.ok.kind hg (Calls.loadGlobal_global (by rw[I.ok.glob];exact I.mod.glob.keeps I.bk) hm h) hd
theorem jX{E:Jd->Jf->Prop}{pins:List (Addr×Obj)}{s:Jf}{Z:St}{H:Hp}{x:Str}{u:Jd}{pos:Pos}{Q:Jd->Jf->Prop}(I:Inv X pins Z H s)(hg:Gl X x)(hm:X.mg x=none)(hv:JQ x=some u)(h:Q u s)
  (hn:x ≠ "__name__" :=by decide) (hd:(x==("__debug__" : Str))=false:=by decide):Jk (Jj X.prog X.w) X.A (eval (.Name x pos) X.env) Q E s:=by
 obtain⟨mb,h1,h2⟩:=I.mod.blt;exact KZ I.ok.kind hg (Calls.loadGlobal_builtin (by rw[I.ok.glob];exact I.mod.glob.keeps I.bk) hm (by rw[I.ok.blt];exact h1.keeps I.bk) ((h2 x hn).trans hv) h) hd
theorem wC{x:Str}{v:V}{u:Jd}{pos:Pos}(hg:Gl X x)(hm:X.mg x=none)(hv:JQ x=some u)(r:RelV v u)(hn:x ≠ "__name__" :=by decide)(hd:(x==("__debug__" : Str))=false:=by decide):PE X (.Name x pos) (tC v):=
 λ_ _ _ H _ I h=>jX I hg hm hv ⟨v,H,I,r,h⟩ hn hd
variable {a b:Expr}{ta tb:TE}{pos:Pos}
def PC(X:Cx)(op:NA)(a b:Expr)(t:TE):Prop:=
 ∀(pins:List (Addr×Obj)) (s:Jf) (Z:St) (H:Hp) (Q:VK),Inv X pins Z H s->t Z H Q →
  Jk (Jj X.prog X.w) X.A (eval a X.env) (λv s₁=>Jk (Jj X.prog X.w) X.A (eval b X.env) (λu s₂=>Jk (Jj X.prog X.w) X.A (JE op v u) (EP X pins Z Q) X.xe s₂) X.xe s₁) X.xe s
def tB(t:TE):TT:=λZ H Q=>t Z H λx H1=>∃c,x=.bl c/\Q c H1
theorem pt_cmp{op:NA}{t:TE}(h:PC X op a b t)(h1:KD op b=false:=by first|exact nobehind _ (by decide) (by decide)|rfl):PT X (.Compare a [op] [b] pos) (tB t):=by
 intro pins s Z H Q I hw;refine LM (thn (h pins s Z H _ I hw) λv s1 h1=>thn h1 λu s2 h2=>thn h2 λc s3 ⟨x,H1,I1,r1,q1⟩=>?_) h1;obtain⟨d,rfl,q⟩:=q1;cases r1;exact JZ ⟨H1,I1,q⟩
theorem At{e:Expr}{t:TE}(h:PE X e t)(he:∀whole,LO e X.env whole=(do let v ←whole;Ki e.pos;JR [v] (Nf v)):=by intro _;rfl):PT X e (tB t):=by
 intro pins s Z H Q I hw;refine isTrue_plain (thn (h pins s Z H _ I hw) λv s1 ⟨x,H1,I1,r1,q1⟩=>?_) (he _);obtain⟨d,rfl,q⟩:=q1;cases r1;exact JZ ⟨H1,I1,q⟩
variable {tA tB':TT}{rest:List Expr}
def Dc(t u:TT):TT:=λZ H Q=>t Z H λc H1=>if c=true then u Z H1 Q else Q false H1
def tOr(t u:TT):TT:=λZ H Q=>t Z H λc H1=>if c=true then Q true H1 else u Z H1 Q
def Dj(t:TT):TT:=λZ H Q=>t Z H λc H1=>Q (!c) H1
theorem w8(ha:PT X a tA):PW X (.BoolOp .And [a] pos) tA:=by
 intro wh pins s Z H Q I h;refine isTrue_and (thn (ha pins s Z H Q I h) λc s1 e=>?_);cases c with
 | true=>exact isTrue_and_nil e
 | false=>exact e
theorem Aw(ha:PT X a tA):PW X (.BoolOp .Or [a] pos) tA:=by
 intro wh pins s Z H Q I h;refine isTrue_or (thn (ha pins s Z H Q I h) λc s1 e=>?_);cases c with
 | false=>exact isTrue_or_nil e
 | true=>exact e
theorem Av(ha:PT X a tA)(hb:PW X (.BoolOp .And (b::rest) pos) tB'):PW X (.BoolOp .And (a::b::rest) pos) (Dc tA tB'):=by
 intro wh pins s Z H Q I h;refine isTrue_and (thn (ha pins s Z H _ I h) λc s1 ⟨H1,I1,q1⟩=>?_);cases c with
 | true=>exact hb wh pins s1 Z H1 Q I1 q1
 | false=>exact⟨H1,I1,q1⟩
theorem Cs(ha:PT X a tA)(hb:PW X (.BoolOp .Or (b::rest) pos) tB'):PW X (.BoolOp .Or (a::b::rest) pos) (tOr tA tB'):=by
 intro wh pins s Z H Q I h;refine isTrue_or (thn (ha pins s Z H _ I h) λc s1 ⟨H1,I1,q1⟩=>?_);cases c with
 | true=>exact⟨H1,I1,q1⟩
 | false=>exact hb wh pins s1 Z H1 Q I1 q1
theorem As(ha:PT X a tA):PT X (.UnaryOp .Not a pos) (Dj tA):=by
 intro pins s Z H Q I h;exact isTrue_not (ha pins s Z H (λc H1=>Q (!c) H1) I h)
def Dk(ta tb:TE):TE:=λZ H Q=>ta Z H λx H1=>∃c,x=.bl c/\if c=true then Q (.bl true) H1 else tb Z H1 Q
theorem Ag{op}{t:TE}(h:PE X a t):PE X (.BoolOp op [a] pos) t:=λpins s Z H Q I hw=>BoolOp_one (h pins s Z H Q I hw)
theorem Cp(ha:PE X a ta)(hb:PE X (.BoolOp .Or (b::rest) pos) tb):PE X (.BoolOp .Or (a::b::rest) pos) (Dk ta tb):=by
 intro pins s Z H Q I h;refine BoolOp_or (thn (ha pins s Z H _ I h) λv s1 ⟨x,H1,I1,r1,q1⟩=>?_);obtain⟨c,rfl,q1⟩:=q1;cases r1;refine JZ ?_;cases c with
 | false=>exact hb pins s1 Z H1 Q I1 q1
 | true=>exact⟨.bl true,H1,I1,rfl,q1⟩
end
def SqL(K:yF)(H:Hp)(a:Addr)(xs:List V):Prop:=
 Rd H a (.lst xs) ∨
  ∃(o:Obj) (its:Array Jd) (n:Nat),K.lookup a=some o/\o.cls=.type "list" ∧ o.dict=none/\o.data=.seq its n/\its.size<=sizeLine/\Vals xs its.toList
def SqT(K:yF)(H:Hp)(a:Addr)(xs:List V):Prop:=
 Rd H a (.tup xs) ∨
  ∃(o:Obj) (its:Array Jd) (n:Nat),K.lookup a=some o/\(o.cls=.type "tuple" ∧ o.dict=none)/\o.data=.seq its n/\its.size<=sizeLine/\Vals xs its.toList
noncomputable def DG:Jd->Option V
 | .none=>some .non
 | .bool b=>some (.bl b)
 | .int i _=>some (.int i)
 | .str x _=>some (.str x)
 | .bytes b _=>some (.byt b)
 | .float b _=>some (.flt b)
 | .ref a=>some (.ref a)
 | .type n=>some (.ty n)
 | _=>none
theorem RelV.abs{x:V}{u:Jd}(r:RelV x u):DG u=some x:=by
 cases x with
 | non=>cases r;rfl
 | bl _=>cases r;rfl
 | int _=>obtain⟨t,rfl⟩:=r;rfl
 | str _=>obtain⟨t,rfl⟩:=r;rfl
 | byt _=>obtain⟨t,rfl⟩:=r;rfl
 | flt _=>obtain⟨t,rfl⟩:=r;rfl
 | ref _=>cases r;rfl
 | ty _=>cases r;rfl
theorem RelV.inj{x y:V}{u:Jd}(r:RelV x u)(q:RelV y u):x=y:=ET.inj (r.abs.symm.trans q.abs)
theorem Vals.inj:∀{xs ys:List V} {us:List Jd},Vals xs us->Vals ys us->xs=ys
 | _,_,_,.nil,.nil=>rfl
 | _,_,_,.cons r t,.cons r' t'=>by rw[r.inj r',Vals.inj t t']
section
variable {X:Cx}{pins:List (Addr×Obj)}{Z:St}{H:Hp}{s:Jf}{a:Addr}{xs ys:List V}
theorem SqL.of{K:yF}(h:H a=some (.lst xs)):SqL K H a xs:=.inl (.inl h)
theorem SqT.of{K:yF}(h:H a=some (.tup xs)):SqT K H a xs:=.inl (.inl h)
theorem Inv.list(I:Inv X pins Z H s)(h:SqL X.K H a xs):∃its:List Jd,Vals xs its/\PlainL s.heap a its.toArray/\xs.length<=sizeLine:=by
 rcases h with h|⟨o,its,n,hk,hc,hd,hs,hz,r⟩
 ·obtain⟨z,its,n,r,e⟩:=h.ok I.hok;exact⟨its,r,⟨_,n,e,rfl,rfl,rfl⟩,z⟩
 ·refine⟨its.toList,r,⟨o,n,I.kIn a o hk,hc,hd,by simpa using hs⟩,?_⟩;have e:=r.length;simp only[Fv]at e;omega
theorem Inv.tuple(I:Inv X pins Z H s)(h:SqT X.K H a xs):∃its:List Jd,Vals xs its/\Ny s.heap a its.toArray/\xs.length<=sizeLine:=by
 rcases h with h|⟨o,its,n,hk,hc,hs,hz,r⟩
 ·obtain⟨z,its,r,p⟩:=h.ok I.hok;exact⟨its,r,p.to,z⟩
 ·refine⟨its.toList,r,⟨o,I.kIn a o hk,hc.1,n,by simpa using hs⟩,?_⟩;have e:=r.length;simp only[Fv]at e;omega
theorem Inv.list_inj(I:Inv X pins Z H s)(h:SqL X.K H a xs)(h':SqL X.K H a ys):xs=ys:=by
 obtain⟨its,r,⟨o,n,e,_,_,d⟩,_⟩:=I.list h;obtain⟨its',r',⟨o',n',e',_,_,d'⟩,_⟩:=I.list h';rw[e]at e';cases e';rw[d]at d';injection d' with d1 _;have:its=its':=by simpa using congrArg Ie d1
 subst this;exact r.inj r'
theorem Inv.tuple_inj(I:Inv X pins Z H s)(h:SqT X.K H a xs)(h':SqT X.K H a ys):xs=ys:=by
 obtain⟨its,r,⟨o,e,_,n,d⟩,_⟩:=I.tuple h;obtain⟨its',r',⟨o',e',_,n',d'⟩,_⟩:=I.tuple h';rw[e]at e';cases e';rw[d]at d';injection d' with d1 _;have:its=its':=by simpa using congrArg Ie d1
 subst this;exact r.inj r'
end
noncomputable abbrev Cx.wish(X:Cx) (E:Jd->Jf->Prop):Cx:={X with xe:=E}
noncomputable abbrev Cx.nox(X:Cx):Cx:=X.wish λ_ _=>False
theorem Cx.Ok.wish{X:Cx}(ok:X.Ok)(E:Jd->Jf->Prop):(X.wish E).Ok:=
 ⟨ok.mod,ok.kind,ok.glob,ok.blt,ok.above,ok.inj,ok.has,ok.cab,ok.hd,ok.gd,ok.frames,ok.stk,ok.exf,ok.bs,ok.bsz,ok.noex,ok.exfs,ok.funs,ok.frf⟩
theorem Cx.Ok.unwish{X:Cx}{E:Jd->Jf->Prop}(ok:(X.wish E).Ok):X.Ok:=
 ⟨ok.mod,ok.kind,ok.glob,ok.blt,ok.above,ok.inj,ok.has,ok.cab,ok.hd,ok.gd,ok.frames,ok.stk,ok.exf,ok.bs,ok.bsz,ok.noex,ok.exfs,ok.funs,ok.frf⟩
section
variable {X:Cx}{pins:List (Addr×Obj)}{Z:St}{H:Hp}{s:Jf}{E:Jd->Jf->Prop}
theorem Inv.wish(I:Inv X pins Z H s)(E:Jd->Jf->Prop):Inv (X.wish E) pins Z H s:=⟨I.ok.wish E,I.os,I.bare,I.base,I.loc,I.cell,I.free,I.freeC,I.pin,I.hok,I.len⟩
theorem Inv.unwish(I:Inv (X.wish E) pins Z H s):Inv X pins Z H s:=⟨I.ok.unwish,I.os,I.bare,I.base,I.loc,I.cell,I.free,I.freeC,I.pin,I.hok,I.len⟩
theorem SP.unwish{D:IT}{f:Flow}{s':Jf}(h:SP (X.wish E) pins D f s'):SP X pins D f s':=by
 cases f with
 | next=>obtain⟨Z',H',I,q⟩:=h;exact⟨Z',H',I.unwish,q⟩
 | brk=>obtain⟨Z',H',I,q⟩:=h;exact⟨Z',H',I.unwish,q⟩
 | cont=>obtain⟨Z',H',I,q⟩:=h;exact⟨Z',H',I.unwish,q⟩
 | ret u=>obtain⟨v,Z',H',I,r,q⟩:=h;exact⟨v,Z',H',I.unwish,r,q⟩
theorem PSs.nox{st:List Stmt}{t:TS}(h:PSs X.nox st t):PSs X st t:=λpins s Z H D I hw=>
 Jo (h pins s Z H D (I.wish _) hw) (λ_ _ q=>q.unwish) λ_ _ z=>Ke z
end
section
variable {X:Cx}{st:Stmt}{rest:List Stmt}{t u:TS}{e:Expr}{te:TE}{pos:Pos}
def yM:TS:=λD Z H=>D.nx Z H
def Dn(t u:TS):TS:=λD Z H=>t {D with nx:=u D} Z H
theorem wT:PSs X [] yM:=λ_ _ Z H _ I h=>KI ⟨Z,H,I,h⟩
theorem uh(h1:PS X st t)(h2:PSs X rest u):PSs X (st::rest) (Dn t u):=by
 intro pins s Z H D I h;refine MN (thn (h1 pins s Z H {D with nx:=u D} I h) λf s1 q=>?_);cases f with
 | next=>
  obtain⟨Z',H',I',q⟩:=q;exact h2 pins s1 Z' H' D I' q
 | ret v=>exact q
 | brk=>exact q
 | cont=>exact q
theorem wU(h1:PS X st t):PSs X [st] t:=by
 intro pins s Z H D I h;refine MN (thn (h1 pins s Z H D I h) λf s1 q=>?_);cases f with
 | next=>exact KI q
 | ret v=>exact q
 | brk=>exact q
 | cont=>exact q
def u9:TS:=λD Z H=>D.bk Z H
theorem uf:PS X (.Break pos) u9:=λ_ _ Z H _ I h=>wpAny_Break ⟨Z,H,I,h⟩
theorem Inv.quiet{pins:List (Addr×Obj)}{Z:St}{H:Hp}{s:Jf}(I:Inv X pins Z H s):interactive X.env=false:=by simp[interactive,I.ok.kind]
def yL(te:TE):TS:=λD Z H=>te Z H λ_ H1=>D.nx Z H1
theorem wS(he:PE X e te)(hs:Lp e none pos.line X.env=pure false:=by rfl):PS X (.Expr e pos) (yL te):=by
 intro pins s Z H D I h;exact wpAny_Expr_any (thn (he pins s Z H _ I h) λv s1 ⟨x,H1,I1,r1,q1⟩=>⟨Z,H1,I1,q1⟩) I.quiet hs
def Dm(te:TE):TS:=λD Z H=>te Z H D.rt
theorem Aq(he:PE X e te):PS X (.Return (some e) pos) (Dm te):=by
 intro pins s Z H D I h;exact wpAny_Return_some (thn (he pins s Z H _ I h) λv s1 ⟨x,H1,I1,r1,q1⟩=>⟨x,Z,H1,I1,r1,q1⟩)
def Dg(c:TT)(t u:TS):TS:=λD Z H=>c Z H λb H1=>if b=true then t D Z H1 else u D Z H1
theorem Cr{c:Expr}{a b:List Stmt}{tc:TT}(hc:PT X c tc)(ha:PSs X a t)(hb:PSs X b u):PS X (.If c a b pos) (Dg tc t u):=by
 intro pins s Z H D I h;refine wpAny_If (thn (hc pins s Z H _ I h) λd s1 ⟨H1,I1,q1⟩=>?_);cases d with
 | true=>exact ha pins s1 Z H1 D I1 q1
 | false=>exact hb pins s1 Z H1 D I1 q1
end
abbrev TG:=V->St->Hp->(St->Hp->Prop)->Prop
abbrev TGs:=List V->St->Hp->(St->Hp->Prop)->Prop
def PG(X:Cx)(target:Expr)(t:TG):Prop:=
 ∀(pins:List (Addr×Obj)) (s:Jf) (Z:St) (H:Hp) (v:V) (u:Jd) (Q:St->Hp->Prop),Inv X pins Z H s->RelV v u->t v Z H Q →
  Jk (Jj X.prog X.w) X.A (Kh target X.env u) (λ_ s'=>∃Z' H',Inv X pins Z' H' s'/\Q Z' H') X.xe s
def PGs(X:Cx)(ts:List Expr)(t:TGs):Prop:=
 ∀(pins:List (Addr×Obj)) (s:Jf) (Z:St) (H:Hp) (vs:List V) (us:List Jd) (Q:St->Hp->Prop),Inv X pins Z H s->Vals vs us->t vs Z H Q →
  Jk (Jj X.prog X.w) X.A (Md ((JT ts X.env).map (·.2)) us) (λ_ s'=>∃Z' H',Inv X pins Z' H' s'/\Q Z' H') X.xe s
abbrev vC:=V->V->V->Hp->(Hp->Prop)->Prop
def yR(X:Cx)(t:vC):Prop:=
 ∀(pins:List (Addr×Obj)) (s:Jf) (Z:St) (H:Hp) (o i v:V) (ov iv u:Jd) (Q:Hp->Prop),Inv X pins Z H s->RelV o ov->RelV i iv->RelV v u->t o i v H Q →
  Jk (Jj X.prog X.w) X.A (Lg ov iv u) (λ_ s'=>∃H',Inv X pins Z H' s'/\Q H') X.xe s
abbrev TIp:=V->V->Hp->VK->Prop
def PIp(X:Cx)(op:Ng)(t:TIp):Prop:=
 ∀(pins:List (Addr×Obj)) (s:Jf) (Z:St) (H:Hp) (x y:V) (v u:Jd) (Q:VK),Inv X pins Z H s->RelV x v->RelV y u->t x y H Q →
  Jk (Jj X.prog X.w) X.A (inplaceOp op v u) (EP X pins Z Q) X.xe s
section
variable {X:Cx}{pos:Pos}
def kL(i:Nat):TG:=λv Z H Q=>Q (Z.set i (some v)) H
theorem wI{i:Nat}{x:Str}(hN:X.N.Nodup)(hi:X.N[i]?=some x)(hx:Loc X.env.scope x)(hf:X.fn x=true∨X.env.scope.names.lookup x=some .local:=by first|exact .inl rfl|exact .inr rfl|assumption):PG X (.Name x pos) (kL i):=by
 intro pins s Z H v u Q I r h;exact Mt (gn I hN hi hx r (λs' I'=>⟨_,H,I',h⟩) hf)
def zg:TGs:=λvs Z H Q=>vs=[]/\Q Z H
def si(t:TG)(u:TGs):TGs:=λvs Z H Q=>∃v r,vs=v::r/\t v Z H λZ' H'=>u r Z' H' Q
theorem wJ:PGs X [] zg:=by
 intro pins s Z H vs us Q I r h;obtain⟨e,h⟩:=h;subst e;cases r;exact Mv ⟨Z,H,I,h⟩
theorem tN{e:Expr}{es:List Expr}{t:TG}{u:TGs}(h1:PG X e t)(h2:PGs X es u)
  (hs:(JT (e::es) X.env).map (·.2)=Kh e X.env::(JT es X.env).map (·.2):=by rfl):PGs X (e::es) (si t u):=by
 intro pins s Z H vs us Q I r h;obtain⟨v,vr,e1,h⟩:=h;subst e1;cases r with
 | cons r rr=>
  rw[hs];refine K0 (thn (h1 pins s Z H _ _ _ I r h) λ_ s1 ⟨Z1,H1,I1,q1⟩=>?_);exact h2 pins s1 Z1 H1 _ _ Q I1 rr q1
def vO(K:yF)(n:Nat)(t:TGs):TG:=λv Z H Q=>∃a xs,v=.ref a/\SqT K H a xs/\xs.length=n/\t xs Z H Q
theorem Aj{es:List Expr}{k:Nat}{t:TGs}{n:Nat}(hc:X.calm=true)(h:PGs X es t)
  (hn:(JT es X.env).length=n:=by rfl) (hst:(JT es X.env).findIdx? (·.1)=none:=by rfl):PG X (.Tuple es k pos) (vO X.K n t):=by
 intro pins s Z H v u Q I r hw;obtain⟨a,xs,e1,hq,hl,hw⟩:=hw;subst e1;cases r;obtain⟨its,rv,ht,hz⟩:=I.tuple hq;refine assign_Tuple_tuple (I.ok.hd hc) ht (by simp[hn,←hl,rv.length]) hst λh' hx=>?_;have I1:Inv X pins Z H {s with heap:=h'}:=I.kept (t':=s.toks) λb o e=>hx b o (EW (Jm e)) e;exact h pins _ Z H xs _ Q I1 (by simpa using rv) hw
def zh(to ti:TE)(t:vC):TG:=λv Z H Q=>to Z H λo H1=>ti Z H1 λi H2=>t o i v H2 λH3=>Q Z H3
theorem tL{o i:Expr}{to ti:TE}{t:vC}(ho:PE X o to)(hi:PE X i ti)(hs:yR X t)
  (ha:∀v,Kh (.Subscript o i pos) X.env v=(do
   let ov ←JR [v] (eval o X.env)
   let iv ←JR [v,ov] (eval i X.env)
   Ki pos
   JR [v,ov,iv] (Lg ov iv v)
   M8 [v,ov,iv] []):=by intro _;rfl):PG X (.Subscript o i pos) (zh to ti t):=by
 intro pins s Z H v u Q I r h;rw[ha];refine Je (JJ (thn (ho pins s Z H _ I h) λov s1 ⟨x,H1,I1,r1,q1⟩=>?_));refine Je (JJ (thn (hi pins s1 Z H1 _ I1 q1) λiv s2 ⟨y,H2,I2,r2,q2⟩=>?_));refine Je (JL (Je (JJ (thn (hs pins s2 Z H2 x y v ov iv u _ I2 r1 r2 r q2) λ_ s3 ⟨H3,I3,q3⟩=>?_))));exact wpAny_release ⟨Z,H3,I3,q3⟩
def xT(te:TE)(g:TG):TS:=λD Z H=>te Z H λx H1=>g x Z H1 D.nx
theorem Am{tg e:Expr}{te:TE}{g:TG}(he:PE X e te)(hg:PG X tg g)(hs:Lj [tg] e pos.line X.env=pure false:=by rfl)(hw:Lk [tg] e X.env=pure none:=by rfl)
  (h1:(JT [tg] X.env).map (·.2)=[Kh tg X.env]:=by rfl):PS X (.Assign [tg] e pos) (xT te g):=by
 intro pins s Z H D I h;refine wpAny_Assign_stores (thn (he pins s Z H _ I h) λv s1 ⟨x,H1,I1,r1,q1⟩=>?_) hs hw;rw[h1];exact thn (hg pins s1 Z H1 x v _ I1 r1 q1) λ_ s2 q=>q
theorem Ar{i:Nat}{x:Str}{e:Expr}{te:TE}{pos':Pos}(hN:X.N.Nodup)(hi:X.N[i]?=some x)(hx:Loc X.env.scope x)(he:PE X e te)(hs:Lp e (some (.Name x pos')) pos.line X.env=pure false:=by rfl)(hf:X.fn x=true∨X.env.scope.names.lookup x=some .local:=by first|exact .inl rfl|exact .inr rfl|assumption) :
  PS X (.Assign [.Name x pos'] e pos) (xT te (kL i)):=by
 intro pins s Z H D I h;refine wpAny_Assign_Name (thn (he pins s Z H _ I h) λv s1 ⟨y,H1,I1,r1,q1⟩=>?_) hs;exact gn I1 hN hi hx r1 (λs2 I2=>⟨_,H1,I2,q1⟩) hf
def Dl(i j:Nat)(ta:TA):TS:=λD Z H=>ta Z H λvs H1=>∃v w,vs=[v,w]/\D.nx ((Z.set i (some v)).set j (some w)) H1
theorem Ap{i j:Nat}{x y:Str}{a b:Expr}{ta:TA}{px py pt:Pos}{kt k2 pt2}(hc:X.calm=true)(hN:X.N.Nodup)(hi:X.N[i]?=some x)(hj:X.N[j]?=some y)(hij:i≠j)
  (hx:X.env.scope.names.lookup x=some .local) (hy:X.env.scope.names.lookup y=some .local) (ha:PA X [a,b] ta)
  (hw:Lk [.Tuple [.Name x px,.Name y py] kt pt] (.Tuple [a,b] k2 pt2) X.env=pure (some [x,y]))
  (hs:Lj [.Tuple [.Name x px,.Name y py] kt pt] (.Tuple [a,b] k2 pt2) pos.line X.env=pure false:=by rfl) :
  PS X (.Assign [.Tuple [.Name x px,.Name y py] kt pt] (.Tuple [a,b] k2 pt2) pos) (Dl i j ta):=by
 intro pins s Z H D I h;rw[exec_Assign_arm];refine Je (JL ?_);rw[hs];refine Je (Jh ?_);rw[if_neg (by decide)];refine Je (Tuple_ (thn (ha _ pins s Z H _ I h) λus s1 ⟨vs,H1,I1,r1,q1⟩=>?_));obtain⟨v,w,e1,q1⟩:=q1;subst e1;obtain⟨u1,u2,rfl,rv,rw'⟩:∃u1 u2,us=[u1,u2]/\RelV v u1/\RelV w u2:=by
  cases r1 with
  | cons p q=>
   cases q with
   | cons p' q'=>
    cases q';exact⟨_,_,rfl,p,p'⟩
 refine Js ?_ (by show 2<=sizeLine;decide);have I2:Inv X pins Z H1 {s1 with heap:=s1.heap.push {cls:=.type "tuple",data:=.seq [u1,u2].toArray}}:=I1.kept (t':=s1.toks) λb o e=>Jg _ e;rw[hw];refine Je (Jh ?_);show Jk (Jj X.prog X.w) X.A (do rule "assign.swapped-stores";let items ←unpackItems (.ref s1.heap.objs.size) 2 none;Md [λv=>Nh X.env y v,λv=>Nh X.env x v] items.reverse;pure N1) _ _ _;refine Je (Ni (Je (unpackItems_tuple (items:=#[u1,u2]) (I.ok.hd hc) (Ny.new s1.heap _) λh' hx'=>?_)));have I3:=I2.kept (h':=h') (t':=s1.toks) λb o e=>hx' b o (EW (Jm e)) e;show Jk _ _ (Md [λv=>Nh X.env y v,λv=>Nh X.env x v] [u2,u1] >>= λ_=>pure N1) _ _ _;refine Je (K0 (Nj (gn I3 hN hj (.inl hy) rw' (λs2 I4=>?_) (.inr hy))));refine K0 (Nj (gn I4 hN hi (.inl hx) rv (λs3 I5=>Mv (Jh ?_)) (.inr hx)));rw[List.set_comm _ _ (JI hij)]at I5;exact⟨_,H1,I5,q1⟩
def Dd(i:Nat)(te:TE)(ti:TIp):TS:=λD Z H=>∃x,Z[i]?=some (some x)/\te Z H λy H1=>ti x y H1 λz H2=>D.nx (Z.set i (some z)) H2
theorem An{i:Nat}{x:Str}{e:Expr}{te:TE}{op:Ng}{ti:TIp}{pos':Pos}(hN:X.N.Nodup)(hi:X.N[i]?=some x)(hx:Loc X.env.scope x)(he:PE X e te)(ho:PIp X op ti)(hf:X.fn x=true∨X.env.scope.names.lookup x=some .local:=by first|exact .inl rfl|exact .inr rfl|assumption) :
  PS X (.AugAssign (.Name x pos') op e pos) (Dd i te ti):=by
 intro pins s Z H D I h;obtain⟨v,e1,h⟩:=h;obtain⟨m,hn,hl⟩:=I.loc;have vis:Vis X.env.scope x:=by rcases hx with k|k;exact .inl k;exact .inr (.inl k)
 obtain⟨u,r,l⟩:=hl i x v hi e1 vis;refine wpAny_AugAssign_Name ?_;have go:Jk (Jj X.prog X.w) X.A (eval e X.env) (λw s₂=>Jk (Jj X.prog X.w) X.A (inplaceOp op u w) (λr s₃=>Jk (Jj X.prog X.w) X.A (Nz X.env x r) (λ_=>SP X pins D .next) X.xe s₃) X.xe s₂) X.xe s:=by
  refine thn (he pins s Z H _ I h) λw s1 ⟨y,H1,I1,r1,q1⟩=>?_;refine thn (ho pins s1 Z H1 v y u w _ I1 r r1 q1) λz s2 ⟨zv,H2,I2,r2,q2⟩=>?_;exact gn I2 hN hi hx r2 (λs3 I3=>⟨_,H2,I3,q2⟩) hf
 rcases l with⟨hk,hm⟩|⟨hk,c,hc,hcell⟩;exact LP I.ok.kind hk hn hm go
 ·rcases hk with hk|hk;exact Ma I.ok.kind hk hc hcell go
  ·rcases hx with k|k
   ·have:X.env.scope.names.lookup x=some .free:=hk;rw[k]at this;cases this
   ·have:X.env.scope.names.lookup x=some .free:=hk;rw[k]at this;cases this
def ipI(f:Int->Int->Int):TIp:=λx y H Q=>∃i j,x=.int i/\y=.int j/\Q (.int (f i j)) H
theorem zm:PIp X .Add (ipI λi j=>i+j):=by
 intro pins s Z H x y v u Q I r1 r2 h;obtain⟨i,j,e1,e2,q⟩:=h;subst e1;subst e2;obtain⟨t,rfl⟩:=r1;obtain⟨t',rfl⟩:=r2;exact iadd_int ⟨.int _,H,I.tok _,⟨_,rfl⟩,q⟩
end
section
variable {X:Cx}{pos:Pos}
def vf(c:TT)(tb:TS):TS:=λD Z H=>∃W:Nat->St->Hp->Prop,(∃m,W m Z H)/\∀m Z H,W m Z H →
 c Z H λb H1=>if b=true then∃N:St->Hp->Prop,(∀Z' H',N Z' H'->∃m',m'<m/\W m' Z' H')/\tb {D with nx:=N,ct:=N,bk:=D.nx} Z H1 else D.nx Z H1
theorem ug{c:Expr}{body:List Stmt}{tc:TT}{tb:TS}(hp:Lq (Jj X.prog X.w) X.A X.env X.xe)(hc:PT X c tc)(hb:PSs X body tb):PS X (.While c body [] pos) (vf tc tb):=by
 intro pins s Z H D I h;obtain⟨W,⟨m0,w0⟩,turn⟩:=h;refine wpAny_While (codeAny_whileLoop (λn s'=>∃Z' H',Inv X pins Z' H' s'/\W n Z' H') ?_ m0 ⟨Z,H,I,w0⟩);rintro n s1 ⟨Z1,H1,I1,w1⟩;refine JY hp (thn (hc pins s1 Z1 H1 _ I1 (turn n Z1 H1 w1)) λb s2 ⟨H2,I2,q2⟩=>?_);cases b with
 | true=>
  obtain⟨N,hN,q2⟩:=q2;rw[if_pos rfl];refine JY hp (thn (hb pins s2 Z1 H2 _ I2 q2) λf s3 q3=>?_);cases f with
  | next=>
   obtain⟨Z3,H3,I3,n3⟩:=q3;obtain⟨m',hm,w3⟩:=hN Z3 H3 n3;exact⟨m',hm,Z3,H3,I3,w3⟩
  | cont=>
   obtain⟨Z3,H3,I3,n3⟩:=q3;obtain⟨m',hm,w3⟩:=hN Z3 H3 n3;exact⟨m',hm,Z3,H3,I3,w3⟩
  | brk=>exact q3
  | ret v=>exact q3
 | false=>
  rw[if_neg EA];exact KI ⟨Z1,H2,I2,q2⟩
end
structure It where
 go:Nat->Hp->Prop
 yld:Nat->Hp->V->Hp->Prop
 stop:Nat->Hp->Prop
def dQ(X:Cx)(pins:List (Addr×Obj))(H:Hp)(b:Addr):Prop:=
 H b=none/\b≠X.env.locals/\b∉X.fs/\(b∈X.ex∨X.s₀.heap.objs.size<=b)/\(∀x c,X.env.cells.lookup x=some c->c≠b)/\∀p∈X.pn++pins,p.1≠b
theorem Inv.fpOk{X:Cx}{pins:List (Addr×Obj)}{Z:St}{H H':Hp}{s:Jf}{b:Addr}(I:Inv X pins Z H s)(hb:s.heap.objs.size<=b)(hn:H' b=none):dQ X pins H' b:=by
 refine⟨hn,Nat.ne_of_gt (EH I.lt hb),I.nofs hb,.inr (ER I.sz hb),λx c e z=>?_,λp hp z=>?_⟩
 ·obtain⟨v,q⟩:=I.cell x c e;exact absurd (EH q.lt (by rw[z];exact hb)) (Ff _)
 ·exact absurd (EH (Jm (I.pin p hp).1) (by rw[z];exact hb)) (Ff _)
structure I8(P:Jq)(w:JB)(K:yF)(tg:Expr)(J:It)(fp:List Addr)(it:Addr)(tn:Nat->Heap->Prop):Prop where
 mem:it∈fp
 obj:∀i h,tn i h->∀b∈fp,∃o,h.get? b=some o/\∀v,o.data ≠ .cell v
 keep:∀i h h',tn i h->(∀b∈fp,∀o,h.get? b=some o->h'.get? b=some o)->tn i h'
 item:∀(X:Cx),X.prog=P->X.w=w->X.K=K->X.calm=true->∀(i:Nat) (pins:List (Addr×Obj)) (s:Jf) (Z:St) (H:Hp) (E:Jd->Jf->Prop),Inv X pins Z H s->(∀b∈fp,dQ X pins H b)->tn i s.heap->J.go i H →
  Jk (Jj P w) X.A (Mn (.ref it)) (λr s1=>∃u,r=some u ∧
   Jk (Jj P w) X.A (JM tg (.ref it) u) (λ_ s2=>∃x H',Inv X pins Z H' s2/\RelV x u/\J.yld i H x H'/\tn (i+1) s2.heap/\∀b∈fp,H' b=none) E s1) E s
 done:∀(X:Cx),X.prog=P->X.w=w->X.K=K->X.calm=true->∀(i:Nat) (pins:List (Addr×Obj)) (s:Jf) (Z:St) (H:Hp) (E:Jd->Jf->Prop),Inv X pins Z H s->(∀b∈fp,dQ X pins H b)->tn i s.heap->J.stop i H →
  Jk (Jj P w) X.A (Mn (.ref it)) (λr s1=>r=none/\Inv X pins Z H s1) E s
 self:∀(A:Jw) (i:Nat) (s:Jf) (Q:Jd->Jf->Prop) (E:Jd->Jf->Prop),tn i s.heap->Q (.ref it) s->Jk (Jj P w) A (MP (.ref it)) Q E s
abbrev TI:=St->Hp->(It->Hp->Prop)->Prop
def PIE(X:Cx)(pins:List (Addr×Obj))(Z:St)(tg:Expr)(R:It->Hp->Prop)(itv:Jd)(s2:Jf):Prop:=
 ∃(it:Addr) (fp:List Addr) (tn:Nat->Heap->Prop) (J:It) (H':Hp),itv=.ref it/\Inv X pins Z H' s2/\I8 X.prog X.w X.K tg J fp it tn/\tn 0 s2.heap/\(∀b∈fp,dQ X pins H' b)/\R J H'
def PI(X:Cx)(tg iter:Expr)(wi:TI):Prop:=
 ∀(pins:List (Addr×Obj)) (s:Jf) (Z:St) (H:Hp) (R:It->Hp->Prop),Inv X pins Z H s->wi Z H R →
  Jk (Jj X.prog X.w) X.A (eval iter X.env) (λv s1=>Jk (Jj X.prog X.w) X.A (MP v) (PIE X pins Z tg R) X.xe s1) X.xe s
theorem pf{M:NY}{A:Jw}{E:Jd->Jf->Prop}{s:Jf}{tg:Expr}{it:Addr}{u:Jd}{o:Obj}{n:String}{vs:Array Jd}{Q:Unit->Jf->Prop}(ho:s.heap.get? it=some o)(hc:o.cls=.type n)(hd:o.data=.fields vs)
  (hn:["enumerate","zip","dict_itemiterator","dict_reverseitemiterator","odict_iterator","itertools.zip_longest","itertools.pairwise"].contains n=false) (hQ:Q () s):Jk M A (JM tg (.ref it) u) Q E s:=by
 unfold JM;cases tg<;>first
  | exact Jh hQ
  | (cases u<;>first
    | exact Jh hQ
    | (refine Je (wpAny_load ho ?_)
       rw[hc,hd];show Jk M A (if(["enumerate","zip","dict_itemiterator","dict_reverseitemiterator","odict_iterator","itertools.zip_longest","itertools.pairwise"].contains n&&vs[0]? == some (rawInt _))=true then _ else _) Q E s;rw[if_neg (by intro h;rw[hn,Hk]at h;cases h)];exact Jh hQ))
noncomputable def Itl(K:yF) (a:Addr):It:=
 ⟨λi H=>∃xs x,SqL K H a xs/\xs[i]?=some x,λi H x H'=>H'=H/\∀xs,SqL K H a xs->xs[i]?=some x,λi H=>∃xs,SqL K H a xs/\xs.length<=i⟩
noncomputable def Itt(K:yF) (a:Addr):It:=
 ⟨λi H=>∃xs x,SqT K H a xs/\xs[i]?=some x,λi H x H'=>H'=H/\∀xs,SqT K H a xs->xs[i]?=some x,λi H=>∃xs,SqT K H a xs/\xs.length<=i⟩
noncomputable def Itr(lo:Int) (n:Nat):It:=⟨λi _=>i<n,λi H x H'=>H'=H/\x=.int (lo+i),λi _=>n<=i⟩
theorem rq{P:Jq}{w:JB}{K:yF}{tg:Expr}(a it:Addr):I8 P w K tg (Itl K a) [it] it (λi h=>h.IsListIter it a i) where
 mem:=by simp
 obj:=λi h st b hb=>by
  have e:b=it:=by simpa using hb
  subst e;obtain⟨o,e,c,d⟩:=st;exact⟨o,e,λv z=>by rw[d]at z;cases z⟩
 keep:=λi h h' st k=>st.at λo e=>k it (by simp) o e
 item:=by
  intro X hP hw hK hc i pins s Z H E I hf st hg;subst hP hw hK;obtain⟨xs,x,hq,hx⟩:=hg;obtain⟨its,rv,p,hz⟩:=I.list hq;obtain⟨u,hu,ru⟩:=rv.get hx;obtain⟨f0,f1,f2,f3,f4,f5⟩:=hf it (by simp);refine wpAny_pyNext_list_item st p.isList (x:=u) (by simpa using hu) λh' st' sb=>?_;have I1:Inv X pins Z H {s with heap:=h'}:=I.turned (t':=s.toks) (λb o hb e=>(sb.2 b hb).trans e) f0 f1 f3 f4 f5;obtain⟨o,e,c,d⟩:=id st';exact⟨u,rfl,pf (s:={s with heap:=h'}) e c d (by decide) ⟨x,H,I1,ru,⟨rfl,λys hy=>by rw[I.list_inj hy hq];exact hx⟩,st',λb hb=>(hf b hb).1⟩⟩
 done:=by
  intro X hP hw hK hc i pins s Z H E I hf st hg;subst hP hw hK;obtain⟨xs,hq,hx⟩:=hg;obtain⟨its,rv,p,hz⟩:=I.list hq;obtain⟨f0,f1,f2,f3,f4,f5⟩:=hf it (by simp);have hl:=rv.length;exact wpAny_pyNext_list_end (I.ok.hd hc) st p.isList (by simp;omega) λh' eb=>⟨rfl,I.turned (t':=s.toks) (λb o hb e=>eb b o hb e) f0 f1 f3 f4 f5⟩
 self:=λ_ _ _ _ _ st h=>wpAny_pyIter_listiter st h
theorem oR{P:Jq}{w:JB}{K:yF}{tg:Expr}(a it:Addr):I8 P w K tg (Itt K a) [it] it (λi h=>h.IsTupleIter it a i) where
 mem:=by simp
 obj:=λi h st b hb=>by
  have e:b=it:=by simpa using hb
  subst e;obtain⟨o,e,c,d⟩:=st;exact⟨o,e,λv z=>by rw[d]at z;cases z⟩
 keep:=λi h h' st k=>st.at λo e=>k it (by simp) o e
 item:=by
  intro X hP hw hK hc i pins s Z H E I hf st hg;subst hP hw hK;obtain⟨xs,x,hq,hx⟩:=hg;obtain⟨its,rv,p,hz⟩:=I.tuple hq;obtain⟨u,hu,ru⟩:=rv.get hx;obtain⟨f0,f1,f2,f3,f4,f5⟩:=hf it (by simp);refine wpAny_pyNext_tuple_item st (show s.heap.IsTuple a its.toArray from p) (x:=u) (by simpa using hu) λh' st' sb=>?_;have I1:Inv X pins Z H {s with heap:=h'}:=I.turned (t':=s.toks) (λb o hb e=>(sb.2 b hb).trans e) f0 f1 f3 f4 f5;obtain⟨o,e,c,d⟩:=id st';exact⟨u,rfl,pf (s:={s with heap:=h'}) e c d (by decide) ⟨x,H,I1,ru,⟨rfl,λys hy=>by rw[I.tuple_inj hy hq];exact hx⟩,st',λb hb=>(hf b hb).1⟩⟩
 done:=by
  intro X hP hw hK hc i pins s Z H E I hf st hg;subst hP hw hK;obtain⟨xs,hq,hx⟩:=hg;obtain⟨its,rv,p,hz⟩:=I.tuple hq;obtain⟨f0,f1,f2,f3,f4,f5⟩:=hf it (by simp);have hl:=rv.length;exact wpAny_pyNext_tuple_end (I.ok.hd hc) st (show s.heap.IsTuple a its.toArray from p) (by simp;omega) λh' eb=>⟨rfl,I.turned (t':=s.toks) (λb o hb e=>eb b o hb e) f0 f1 f3 f4 f5⟩
 self:=λ_ _ _ _ _ st h=>wpAny_pyIter_tupleiter st h
theorem oQ{P:Jq}{w:JB}{K:yF}{tg:Expr}(it:Addr)(lo:Int)(n:Nat):I8 P w K tg (Itr lo n) [it] it (λi h=>IsRangeIter h it (lo+(i:Nat)*1) ((n:Int)-(i:Nat)) 1) where
 mem:=by simp
 obj:=λi h st b hb=>by
  have e:b=it:=by simpa using hb
  subst e;exact⟨_,st,λv z=>by
   have z':Data.fields _=Data.cell v:=z;cases z'⟩
 keep:=λi h h' st k=>k it (by simp) _ st
 item:=by
  intro X hP hw hK hc i pins s Z H E I hf st hg;subst hP hw hK;obtain⟨f0,f1,f2,f3,f4,f5⟩:=hf it (by simp);have W:=NZ.range (prog:=X.prog) (w:=X.w) (I.ok.hd hc) it lo 1 n;refine W.item i s _ _ hg st λv h' tk hv st' kk=>?_;obtain⟨t,rfl⟩:=hv;have I1:Inv X pins Z H {s with heap:=h',toks:=tk}:=I.turned (λb o hb e=>kk b o (by simpa using hb) e) f0 f1 f3 f4 f5;refine⟨_,rfl,pf (s:={s with heap:=h',toks:=tk}) (n:="range_iterator") st' rfl rfl (by decide) ⟨.int (lo+i),H,I1,⟨t,?_⟩,⟨rfl,rfl⟩,st',λb hb=>(hf b hb).1⟩⟩;rw[Int.mul_one]
 done:=by
  intro X hP hw hK hc i pins s Z H E I hf st hg;subst hP hw hK;obtain⟨f0,f1,f2,f3,f4,f5⟩:=hf it (by simp);exact wpAny_pyNext_range_end (I.ok.hd hc) st (by have:n<=i:=hg;omega) λh' eb=>⟨rfl,I.turned (t':=s.toks) (λb o hb e=>eb b o hb e) f0 f1 f3 f4 f5⟩
 self:=λ_ _ _ _ _ st h=>wpAny_pyIter_rangeiter st h
section
variable {X:Cx}{tg:Expr}
def ph(K:yF)(tl:TE):TI:=λZ H R=>tl Z H λx H1=>∃a,x=.ref a/\(∃xs,SqL K H1 a xs)/\R (Itl K a) H1
def vR(K:yF)(tl:TE):TI:=λZ H R=>tl Z H λx H1=>∃a,x=.ref a/\(∃xs,SqT K H1 a xs)/\R (Itt K a) H1
theorem wL{l:Expr}{tl:TE}(hl:PE X l tl):PI X tg l (ph X.K tl):=by
 intro pins s Z H R I h;refine thn (hl pins s Z H _ I h) λv s1 ⟨x,H1,I1,r1,q1⟩=>?_;obtain⟨a,e,⟨xs,hq⟩,q⟩:=q1;subst e;cases r1;obtain⟨its,rv,p,hz⟩:=I1.list hq;refine Mw p.isList ?_;refine⟨s1.heap.objs.size,[s1.heap.objs.size],_,_,H1,rfl,I1.kept (t':=s1.toks) λb o e=>Jg _ e,rq a _,⟨_,Jn _ rfl,rfl,rfl⟩,λb hb=>?_,q⟩;have e:b=s1.heap.objs.size:=by simpa using hb
 subst e;exact I1.fpOk (Eo _) (I1.hok.fresh (Eo _))
theorem Al{l:Expr}{tl:TE}(hl:PE X l tl):PI X tg l (vR X.K tl):=by
 intro pins s Z H R I h;refine thn (hl pins s Z H _ I h) λv s1 ⟨x,H1,I1,r1,q1⟩=>?_;obtain⟨a,e,⟨xs,hq⟩,q⟩:=q1;subst e;cases r1;obtain⟨its,rv,p,hz⟩:=I1.tuple hq;refine wpAny_pyIter_tuple (show s1.heap.IsTuple a its.toArray from p) ?_;refine⟨s1.heap.objs.size,[s1.heap.objs.size],_,_,H1,rfl,I1.kept (t':=s1.toks) λb o e=>Jg _ e,oR a _,⟨_,Jn _ rfl,rfl,rfl⟩,λb hb=>?_,q⟩;have e:b=s1.heap.objs.size:=by simpa using hb
 subst e;exact I1.fpOk (Eo _) (I1.hok.fresh (Eo _))
theorem mY{pins:List (Addr×Obj)}{Z:St}{H:Hp}{s:Jf}{R:It->Hp->Prop}{E:Jd->Jf->Prop}{lo hi:Int}{t u v:Tok}{tk:Nat}(I:Inv X pins Z H s)(h1 : -(2^62)<=lo)(h2:lo<2^62)(h3 : -(2^62)<=hi)(h4:hi<2^62)
  (q:R (Itr lo (hi-lo).toNat) H):Jk (Jj X.prog X.w) X.A (MP (.ref s.heap.objs.size)) (PIE X pins Z tg R) E {s with heap:=s.heap.push {cls:=.type "range",data:=.fields #[.int lo t,.int hi u,.int 1 v]},toks:=tk}:=by
 refine wpAny_pyIter_range (Mx.new ..) (NB h1 h2 h3 h4) ?_;have I1:Inv X pins Z H {s with heap:=s.heap.push {cls:=.type "range",data:=.fields #[.int lo t,.int hi u,.int 1 v]},toks:=tk}:=I.kept λb o e=>Jg _ e;refine⟨(s.heap.push {cls:=.type "range",data:=.fields #[.int lo t,.int hi u,.int 1 v]}).objs.size,[(s.heap.push {cls:=.type "range",data:=.fields #[.int lo t,.int hi u,.int 1 v]}).objs.size],_,_,H,rfl,
  I1.kept (t':=tk) λb o e=>Jg _ e,oQ _ lo (hi-lo).toNat,?_,λb hb=>?_,q⟩
 ·have e1:lo+((0:Nat):Int)*1=lo:=by simp
  have e2:(((hi-lo).toNat:Nat):Int)-((0:Nat):Int)=Ka lo hi 1:=by rw[Me];split<;>omega
  show IsRangeIter _ _ (lo+((0:Nat):Int)*1) ((((hi-lo).toNat:Nat):Int)-((0:Nat):Int)) 1;rw[e1,e2];exact Jn _ rfl
 ·have e:b=(s.heap.push {cls:=.type "range",data:=.fields #[.int lo t,.int hi u,.int 1 v]}).objs.size:=by simpa using hb
  subst e;exact I1.fpOk (Eo _) (I1.hok.fresh (Eo _))
def ym(ta:TA):TI:=λZ H R=>ta Z H λvs H1=>∃j:Int,vs=[.int j]/\-(2^62)<=j/\j<2^62/\R (Itr 0 j.toNat) H1
def yn(ta:TA):TI:=λZ H R=>ta Z H λvs H1=>∃i j:Int,vs=[.int i,.int j]/\(-(2^62)<=i/\i<2^62/\-(2^62)<=j/\j<2^62)/\R (Itr i (j-i).toNat) H1
theorem qF{a:Expr}{ta:TA}{p pos:Pos}(hg:Gl X "range")(hm:X.mg "range" = none)(ha:PA X [a] ta)(hs:Jv [a] X.env=[(false,eval a X.env)]:=by rfl):PI X tg (.Call (.Name "range" p) [a] [] pos) (ym ta):=by
 intro pins s Z H R I h;refine Call_ (jX I hg hm boot_range (FZ (thn (ha pos pins s Z H _ I h) λus s1 ⟨vs,H1,I1,r1,q1⟩=>?_) hs rfl));obtain⟨j,e,q1,q2,q⟩:=q1;subst e;cases r1 with
 | cons r rr=>
  cases rr;obtain⟨t,rfl⟩:=r;exact call_range_1 (mY I1 (by omega) (by omega) q1 q2 (by simpa using q))
theorem qG{a b:Expr}{ta:TA}{p pos:Pos}(hg:Gl X "range")(hm:X.mg "range" = none)(ha:PA X [a,b] ta)(hs:Jv [a,b] X.env=[(false,eval a X.env),(false,eval b X.env)]:=by rfl)(hs2:Jv [b] X.env=[(false,eval b X.env)]:=by rfl) :
  PI X tg (.Call (.Name "range" p) [a,b] [] pos) (yn ta):=by
 intro pins s Z H R I h;refine Call_ (jX I hg hm boot_range (FZ (thn (ha pos pins s Z H _ I h) λus s1 ⟨vs,H1,I1,r1,q1⟩=>?_) (by rw[hs,hs2]) (by rw[hs2];rfl)));obtain⟨i,j,e,⟨q1,q2,q3,q4⟩,q⟩:=q1;subst e;cases r1 with
 | cons r rr=>
  cases rr with
  | cons r' rr=>
   cases rr;obtain⟨t,rfl⟩:=r;obtain⟨t',rfl⟩:=r';exact call_range_2 (mY I1 q1 q2 q3 q4 q)
def Df(wi:TI)(g:TG)(tb:TS):TS:=λD Z H=>wi Z H λJ H1=>∃W:Nat->Nat->St->Hp->Prop,(∃m,W 0 m Z H1)/\∀i m Z H,W i m Z H →
 (J.stop i H/\D.nx Z H)∨(J.go i H/\∃N:St->Hp->Prop,(∀Z' H',N Z' H'->∃m',m'<m/\W (i+1) m' Z' H')/\∀x H',J.yld i H x H'->g x Z H' λZ2 H2=>tb {D with nx:=N,ct:=N,bk:=D.nx} Z2 H2)
noncomputable def bp(fp:List Addr) (h:Heap):List (Addr×Obj):=fp.filterMap λb=>(h.get? b).map λo=>(b,o)
theorem bm{fp:List Addr}{h:Heap}{b:Addr}{o:Obj}(hb:b∈fp)(e:h.get? b=some o):(b,o)∈bp fp h:=EX.mpr ⟨b,hb,by rw[e];rfl⟩
theorem kX{fp:List Addr}{h:Heap}{p:Addr×Obj}(hp:p∈bp fp h):p.1∈fp/\h.get? p.1=some p.2:=by
 obtain⟨b,hb,e⟩:=EX.mp hp;cases q:h.get? b with
 | none=>rw[q]at e;cases e
 | some o=>
  rw[q]at e;have e':(b,o)=p:=ET.inj e;subst e';exact⟨hb,q⟩
theorem Inv.pinned{pins:List (Addr×Obj)}{Z:St}{H:Hp}{s:Jf}{fp:List Addr}(I:Inv X pins Z H s)(hf:∀b∈fp,dQ X pins H b)(ho:∀b∈fp,∃o,s.heap.get? b=some o/\∀v,o.data ≠ .cell v):Inv X (pins++bp fp s.heap) Z H s:=
 I.pins_of λp hp=>(yaM hp).elim (λz=>I.pin p (yaR _ z)) λz=>by
  obtain⟨hb,e⟩:=kX z;obtain⟨f0,f1,f2,_⟩:=hf p.1 hb;obtain⟨o,e',d⟩:=ho p.1 hb;rw[e]at e';cases e';exact⟨e,f0,f1,f2,d⟩
theorem Inv.unpinned{pins pl:List (Addr×Obj)}{Z:St}{H:Hp}{s:Jf}(I:Inv X (pins++pl) Z H s):Inv X pins Z H s:=I.pins_of λp hp=>I.pin p (yaR _ (yaL _ hp))
theorem Ao{iter:Expr}{body:List Stmt}{wi:TI}{g:TG}{tb:TS}{pos:Pos}(hp:Lq (Jj X.prog X.w) X.A X.env X.xe)(hc:X.calm=true)(hi:PI X tg iter wi)(hg:PG X tg g)(hb:PSs X body tb)
  (hs:∀x,Jt iter X.env x=pure x:=by intro _;rfl):PS X (.For tg iter body [] pos) (Df wi g tb):=by
 intro pins s Z H D I h;refine wpAny_For (thn (hi pins s Z H _ I h) λv s1 h1=>thn h1 λitv s2 h2=>?_) hs;obtain⟨it,fp,tn,J,H2,e,I2,T,st2,f2,W,⟨m0,w0⟩,turn⟩:=h2;subst e;have stat:∀{H':Hp},(∀b∈fp,H' b=none)->∀b∈fp,dQ X pins H' b:=λhn b hb=>⟨hn b hb,(f2 b hb).2⟩;refine codeAny_forLoop_any (λn s'=>∃i Z' H',Inv X pins Z' H' s'/\tn i s'.heap/\(∀b∈fp,H' b=none)/\W i n Z' H') ?_ m0 ⟨0,Z,H2,I2,st2,λb hb=>(f2 b hb).1,w0⟩;rintro n s3 ⟨i,Z3,H3,I3,st3,fr3,w3⟩;rcases turn i n Z3 H3 w3 with⟨stop,qn⟩|⟨go,N,hN,step⟩
 ·refine JY hp (thn (T.done X rfl rfl rfl hc i pins s3 Z3 H3 X.xe I3 (stat fr3) st3 stop) λr s4 ⟨hr,I4⟩=>?_);subst hr;exact KI ⟨Z3,H3,I4,qn⟩
 ·refine JY hp (thn (T.item X rfl rfl rfl hc i pins s3 Z3 H3 X.xe I3 (stat fr3) st3 go) λr s4 ⟨u,hr,h4⟩=>?_);subst hr;refine JY hp (thn h4 λ_ s5 ⟨x,H5,I5,r5,y5,st5,fr5⟩=>?_);have I5':=I5.pinned (stat fr5) (T.obj _ _ st5);refine JY hp (thn (hg _ s5 Z3 H5 x u _ I5' r5 (step x H5 y5)) λ_ s6 ⟨Z6,H6,I6,q6⟩=>?_);refine JY hp (thn (hb _ s6 Z6 H6 _ I6 q6) λf s7 q7=>?_);have again:∀{Z7:St} {H7:Hp},Inv X (pins++bp fp s5.heap) Z7 H7 s7->N Z7 H7->∃m,m<n/\∃i Z' H',Inv X pins Z' H' s7/\tn i s7.heap/\(∀b∈fp,H' b=none)/\W i m Z' H':=λ{Z7 H7} I7 n7=>by
   obtain⟨m',hm,w7⟩:=hN Z7 H7 n7;refine⟨m',hm,i+1,Z7,H7,I7.unpinned,T.keep _ _ _ st5 λb hb o e=>(I7.pin (b,o) (yaR _ (yaR _ (bm hb e)))).1,λb hb=>?_,w7⟩;obtain⟨o,e,d⟩:=T.obj _ _ st5 b hb;exact(I7.pin (b,o) (yaR _ (yaR _ (bm hb e)))).2.1
  cases f with
  | next=>obtain⟨Z7,H7,I7,n7⟩:=q7;exact again I7 n7
  | cont=>obtain⟨Z7,H7,I7,n7⟩:=q7;exact again I7 n7
  | brk=>obtain⟨Z7,H7,I7,q7⟩:=q7;exact⟨Z7,H7,I7.unpinned,q7⟩
  | ret v=>obtain⟨x7,Z7,H7,I7,r7,q7⟩:=q7;exact⟨x7,Z7,H7,I7.unpinned,r7,q7⟩
end
abbrev R2:=V->V->Hp->VK->Prop
def OpR(X:Cx)(f:Jd->Jd->Sem Jd)(r:R2):Prop:=
 ∀(pins:List (Addr×Obj)) (s:Jf) (Z:St) (H:Hp) (x y:V) (v u:Jd) (Q:VK),Inv X pins Z H s->RelV x v->RelV y u->r x y H Q →
  Jk (Jj X.prog X.w) X.A (f v u) (EP X pins Z Q) X.xe s
def UnR(X:Cx)(f:Jd->Sem Jd)(r:V->Hp->VK->Prop):Prop:=
 ∀(pins:List (Addr×Obj)) (s:Jf) (Z:St) (H:Hp) (x:V) (v:Jd) (Q:VK),Inv X pins Z H s->RelV x v->r x H Q →
  Jk (Jj X.prog X.w) X.A (f v) (EP X pins Z Q) X.xe s
def ID(X:Cx)(f:Jd)(r:List V->Hp->VK->Prop):Prop:=
 ∀(pins:List (Addr×Obj)) (s:Jf) (Z:St) (H:Hp) (xs:List V) (us:List Jd) (Q:VK),Inv X pins Z H s->Vals xs us->r xs H Q →
  Jk (Jj X.prog X.w) X.A (call f us) (EP X pins Z Q) X.xe s
def DF(X:Cx)(r:V->Hp->(Bool->Hp->Prop)->Prop):Prop:=
 ∀(pins:List (Addr×Obj)) (s:Jf) (Z:St) (H:Hp) (x:V) (v:Jd) (Q:Bool->Hp->Prop),Inv X pins Z H s->RelV x v->r x H Q →
  Jk (Jj X.prog X.w) X.A (Nf v) (TP X pins Z Q) X.xe s
def tOp(r:R2)(ta tb:TE):TE:=λZ H Q=>ta Z H λx H1=>tb Z H1 λy H2=>r x y H2 Q
def tUn(r:V->Hp->VK->Prop)(ta:TE):TE:=λZ H Q=>ta Z H λx H1=>r x H1 Q
def rI(C:Int->Int->Prop)(g:Int->Int->V):R2:=λx y H Q=>∃i j,x=.int i/\y=.int j/\C i j/\Q (g i j) H
def rI0(g:Int->Int->V):R2:=λx y H Q=>∃i j,x=.int i/\y=.int j/\Q (g i j) H
def rU(g:Int->V):V->Hp->VK->Prop:=λx H Q=>∃i,x=.int i/\Q (g i) H
section
variable {X:Cx}{a b c:Expr}{ta tb tc:TE}{pos:Pos}
theorem yV(ha:PE X a ta)(hb:PE X b tb){pins:List (Addr×Obj)}{s:Jf}{Z:St}{H:Hp}{R:V->V->Hp->Prop}(I:Inv X pins Z H s)
  (h:ta Z H λx H1=>tb Z H1 λy H2=>R x y H2) {Q:Jd->Jf->Prop} {f:Jd->Jd->Sem Jd}
  (hf:∀v u s2 x y H2,Inv X pins Z H2 s2->RelV x v->RelV y u->R x y H2->Jk (Jj X.prog X.w) X.A (f v u) Q X.xe s2) :
  Jk (Jj X.prog X.w) X.A (eval a X.env) (λv s₁=>Jk (Jj X.prog X.w) X.A (eval b X.env) (λu s₂=>Jk (Jj X.prog X.w) X.A (f v u) Q X.xe s₂) X.xe s₁) X.xe s:=by
 refine thn (ha pins s Z H _ I h) λv s1 ⟨x,H1,I1,r1,q1⟩=>?_;refine thn (hb pins s1 Z H1 _ I1 q1) λu s2 ⟨y,H2,I2,r2,q2⟩=>?_;exact hf v u s2 x y H2 I2 r1 r2 q2
theorem Co{op:Ng}{r:R2}(ho:OpR X (JK op) r)(ha:PE X a ta)(hb:PE X b tb):PE X (.BinOp a op b pos) (tOp r ta tb):=by
 intro pins s Z H Q I h;exact wpAny_BinOp (yV ha hb I h λv u s2 x y H2 I2 rx ry q=>ho pins s2 Z H2 x y v u Q I2 rx ry q)
theorem Cq{op:UnaryOp}{r:V->Hp->VK->Prop}(ho:UnR X (unaryOp op) r)(ha:PE X a ta):PE X (.UnaryOp op a pos) (tUn r ta):=by
 intro pins s Z H Q I h;exact UnaryOp_ (thn (ha pins s Z H _ I h) λv s1 ⟨x,H1,I1,r1,q1⟩=>ho pins s1 Z H1 x v Q I1 r1 q1)
theorem opI{f:Jd->Jd->Sem Jd}{C:Int->Int->Prop}{g:Int->Int->Int}
  (rule:∀(i j:Int) (t u:Tok) (s:Jf) (Q:Jd->Jf->Prop) (E:Jd->Jf->Prop),C i j->Q (.int (g i j) s.toks) {s with toks:=s.toks+1}->Jk (Jj X.prog X.w) X.A (f (.int i t) (.int j u)) Q E s) :
  OpR X f (rI C λi j=>.int (g i j)):=by
 intro pins s Z H x y v u Q I rx ry h;obtain⟨i,j,rfl,rfl,hc,q⟩:=h;obtain⟨t,rfl⟩:=rx;obtain⟨t',rfl⟩:=ry;exact rule i j t t' s _ _ hc ⟨.int (g i j),H,I.tok _,⟨_,rfl⟩,q⟩
theorem B2{f:Jd->Jd->Sem Jd}{g:Int->Int->Int}
  (rule:∀(i j:Int) (t u:Tok) (s:Jf) (Q:Jd->Jf->Prop) (E:Jd->Jf->Prop),Q (.int (g i j) s.toks) {s with toks:=s.toks+1}->Jk (Jj X.prog X.w) X.A (f (.int i t) (.int j u)) Q E s) :
  OpR X f (rI0 λi j=>.int (g i j)):=by
 intro pins s Z H x y v u Q I rx ry h;obtain⟨i,j,rfl,rfl,q⟩:=h;obtain⟨t,rfl⟩:=rx;obtain⟨t',rfl⟩:=ry;exact rule i j t t' s _ _ ⟨.int (g i j),H,I.tok _,⟨_,rfl⟩,q⟩
theorem zE{f:Jd->Jd->Sem Jd}{g:Int->Int->Bool}
  (rule:∀(i j:Int) (t u:Tok) (s:Jf) (Q:Jd->Jf->Prop) (E:Jd->Jf->Prop),Q (.bool (g i j)) s->Jk (Jj X.prog X.w) X.A (f (.int i t) (.int j u)) Q E s) :
  OpR X f (rI0 λi j=>.bl (g i j)):=by
 intro pins s Z H x y v u Q I rx ry h;obtain⟨i,j,rfl,rfl,q⟩:=h;obtain⟨t,rfl⟩:=rx;obtain⟨t',rfl⟩:=ry;exact rule i j t t' s _ _ ⟨.bl (g i j),H,I,rfl,q⟩
def yP(i j:Int):Prop:=0<=j/\j<=1000000/\i.natAbs<2^64
def I0(i j:Int):Prop:=(-(2^64)<i/\i<2^64)∨(-(2^64)<j/\j<2^64)
theorem I0.ok{i j:Int}(h:I0 i j):IntMulOk i j:=by
 rcases h with⟨h1,h2⟩|⟨h1,h2⟩;exact .of_left (intBits_le_64 h1 h2);exact .of_right (intBits_le_64 h1 h2)
theorem op_add:OpR X (JK .Add) (rI0 λi j=>.int (i+j)):=B2 λ_ _ _ _ _ _ _ q=>add_int q
theorem zP:OpR X (JK .Sub) (rI0 λi j=>.int (i-j)):=B2 λ_ _ _ _ _ _ _ q=>sub_int q
theorem op_mul:OpR X (JK .Mult) (rI I0 λi j=>.int (i*j)):=opI λ_ _ _ _ _ _ _ hc q=>mul_int q hc.ok
theorem zK:OpR X (JK .Mod) (rI (λ_ j=>0<j) λi j=>.int (i % j)):=opI λi j _ _ _ _ _ hc q=>by
 have h1:(0:Int)<j:=hc;exact mod_int' (by omega) (by rw[Int.fmod_eq_emod_of_nonneg i (by omega)];exact q)
theorem zO:OpR X (JK .Pow) (rI yP λi j=>.int (i^j.toNat)):=opI λ_ _ _ _ _ _ _ hc q=>pow_int_small hc.1 hc.2.1 hc.2.2 q
theorem unI{f:Jd->Sem Jd}{g:Int->Int}
  (rule:∀(i:Int) (t:Tok) (s:Jf) (Q:Jd->Jf->Prop) (E:Jd->Jf->Prop),Q (.int (g i) s.toks) {s with toks:=s.toks+1}->Jk (Jj X.prog X.w) X.A (f (.int i t)) Q E s) :
  UnR X f (rU λi=>.int (g i)):=by
 intro pins s Z H x v Q I rx h;obtain⟨i,rfl,q⟩:=h;obtain⟨t,rfl⟩:=rx;exact rule i t s _ _ ⟨.int (g i),H,I.tok _,⟨_,rfl⟩,q⟩
theorem Bp:UnR X (unaryOp .USub) (rU λi=>.int (-i)):=unI λ_ _ _ _ _ q=>neg_int q
end
noncomputable def u4:V->V->Bool
 | .non,.non=>true|.non,.int _=>true|.int _,.non=>true|.non,.bl _=>true|.bl _,.non=>true|.non,.str _=>true|.str _,.non=>true
 | .int _,.int _=>true|.bl _,.bl _=>true|.str _,.str _=>true|.byt _,.byt _=>true
 | .int _,.str _=>true|.str _,.int _=>true|.bl _,.str _=>true|.str _,.bl _=>true
 | _,_=>false
def rEq:R2:=λx y H Q=>u4 x y=true/\Q (.bl (decide (x=y))) H
def rNe:R2:=λx y H Q=>u4 x y=true/\Q (.bl (!decide (x=y))) H
theorem o6{i j:Int}:decide (V.int i=V.int j)=(i==j):=by
 rw[EY];simp
theorem rY{i j:Bool}:decide (V.bl i=V.bl j)=(i==j):=by
 rw[EY];simp
theorem o7{i j:Str}:decide (V.str i=V.str j)=(i==j):=by
 rw[EY];simp
theorem o5{i j:Array UInt8}:decide (V.byt i=V.byt j)=(i.toList==j.toList):=by
 rw[EY];cases i;cases j;simp
section
variable {X:Cx}{a b c:Expr}{ta tb tc:TE}{pos:Pos}
theorem aR{pins:List (Addr×Obj)}{Z:St}{H:Hp}{s:Jf}{Q:VK}{k k':Bool}(I:Inv X pins Z H s)(q:Q (.bl k) H)(e:k=k'):EP X pins Z Q (.bool k') s:=by
 subst e;exact⟨.bl k,H,I,rfl,q⟩
theorem op_eq:OpR X (JE .Eq) rEq:=by
 intro pins s Z H x y v u Q I rx ry h;obtain⟨hs,q⟩:=h;cases x with
 | non=>
  cases rx;cases y with
  | non=>cases ry;exact PySem.EqNone.eq_none_none (aR I q (by simp))
  | bl j=>cases ry;exact PySem.EqNone.eq_none_bool (aR I q (by simp))
  | int j=>obtain⟨t',rfl⟩:=ry;exact PySem.EqNone.eq_none_int (aR I q (by simp))
  | str j=>obtain⟨t',rfl⟩:=ry;exact PySem.EqNone.eq_none_str (aR I q (by simp))
  | _=>exact absurd (show false=true from hs) EA
 | bl i=>
  cases rx;cases y with
  | non=>cases ry;exact PySem.EqNone.eq_bool_none (aR I q (by simp))
  | bl j=>cases ry;exact eq_bool (aR I q rY)
  | str j=>obtain⟨t',rfl⟩:=ry;exact PySem.EqMixed.eq_bool_str (aR I q (by simp))
  | _=>exact absurd (show false=true from hs) EA
 | int i=>
  obtain⟨t,rfl⟩:=rx;cases y with
  | non=>cases ry;exact PySem.EqNone.eq_int_none (aR I q (by simp))
  | int j=>obtain⟨t',rfl⟩:=ry;exact eq_int (aR I q o6)
  | str j=>obtain⟨t',rfl⟩:=ry;exact PySem.EqMixed.eq_int_str (aR I q (by simp))
  | _=>exact absurd (show false=true from hs) EA
 | str i=>
  obtain⟨t,rfl⟩:=rx;cases y with
  | non=>cases ry;exact PySem.EqNone.eq_str_none (aR I q (by simp))
  | bl j=>cases ry;exact PySem.EqMixed.eq_str_bool (aR I q (by simp))
  | int j=>obtain⟨t',rfl⟩:=ry;exact PySem.EqMixed.eq_str_int (aR I q (by simp))
  | str j=>obtain⟨t',rfl⟩:=ry;exact eq_str (aR I q o7)
  | _=>exact absurd (show false=true from hs) EA
 | byt i=>
  obtain⟨t,rfl⟩:=rx;cases y with
  | byt j=>obtain⟨t',rfl⟩:=ry;exact PySem.W.eq_bytes (aR I q o5)
  | _=>exact absurd (show false=true from hs) EA
 | _=>cases y<;>exact absurd (show false=true from hs) EA
theorem op_ne:OpR X (JE .NotEq) rNe:=by
 intro pins s Z H x y v u Q I rx ry h;obtain⟨hs,q⟩:=h;cases x with
 | non=>
  cases rx;cases y with
  | non=>cases ry;exact PySem.EqNone.ne_none_none (aR I q (by simp))
  | bl j=>cases ry;exact PySem.EqNone.ne_none_bool (aR I q (by simp))
  | int j=>obtain⟨t',rfl⟩:=ry;exact PySem.EqNone.ne_none_int (aR I q (by simp))
  | str j=>obtain⟨t',rfl⟩:=ry;exact PySem.EqNone.ne_none_str (aR I q (by simp))
  | _=>exact absurd (show false=true from hs) EA
 | bl i=>
  cases rx;cases y with
  | non=>cases ry;exact PySem.EqNone.ne_bool_none (aR I q (by simp))
  | bl j=>cases ry;exact ne_bool (aR I q (congrArg not rY))
  | str j=>obtain⟨t',rfl⟩:=ry;exact PySem.EqMixed.ne_bool_str (aR I q (by simp))
  | _=>exact absurd (show false=true from hs) EA
 | int i=>
  obtain⟨t,rfl⟩:=rx;cases y with
  | non=>cases ry;exact PySem.EqNone.ne_int_none (aR I q (by simp))
  | int j=>obtain⟨t',rfl⟩:=ry;exact ne_int (aR I q (congrArg not o6))
  | str j=>obtain⟨t',rfl⟩:=ry;exact PySem.EqMixed.ne_int_str (aR I q (by simp))
  | _=>exact absurd (show false=true from hs) EA
 | str i=>
  obtain⟨t,rfl⟩:=rx;cases y with
  | non=>cases ry;exact PySem.EqNone.ne_str_none (aR I q (by simp))
  | bl j=>cases ry;exact PySem.EqMixed.ne_str_bool (aR I q (by simp))
  | int j=>obtain⟨t',rfl⟩:=ry;exact PySem.EqMixed.ne_str_int (aR I q (by simp))
  | str j=>obtain⟨t',rfl⟩:=ry;exact ne_str (aR I q (congrArg not o7))
  | _=>exact absurd (show false=true from hs) EA
 | byt i=>
  obtain⟨t,rfl⟩:=rx;cases y with
  | byt j=>obtain⟨t',rfl⟩:=ry;exact PySem.W.ne_bytes (aR I q (congrArg not o5))
  | _=>exact absurd (show false=true from hs) EA
 | _=>cases y<;>exact absurd (show false=true from hs) EA
theorem B5:OpR X (JE .Lt) (rI0 λi j=>.bl (decide (i<j))):=zE λ_ _ _ _ _ _ _ q=>lt_int q
theorem B4:OpR X (JE .Gt) (rI0 λi j=>.bl (decide (j<i))):=zE λ_ _ _ _ _ _ _ q=>gt_int q
theorem B3:OpR X (JE .GtE) (rI0 λi j=>.bl (decide (j<=i))):=zE λ_ _ _ _ _ _ _ q=>ge_int q
theorem op_in_str:OpR X (JE .In) (λx y H Q=>∃i j,x=.str i/\y=.str j/\Q (.bl (!(JS j i 0 j.length 1).isEmpty)) H):=by
 intro pins s Z H x y v u Q I rx ry h;obtain⟨i,j,rfl,rfl,q⟩:=h;obtain⟨t,rfl⟩:=rx;obtain⟨t',rfl⟩:=ry;exact in_str (aR I q rfl)
theorem OpR.or{f:Jd->Jd->Sem Jd}{r r':R2}(h:OpR X f r)(h':OpR X f r'):OpR X f (λx y H Q=>r x y H Q∨r' x y H Q):=by
 intro pins s Z H x y v u Q I rx ry q;rcases q with q|q;exact h pins s Z H x y v u Q I rx ry q;exact h' pins s Z H x y v u Q I rx ry q
theorem wE{op:NA}{r:R2}(ho:OpR X (JE op) r)(ha:PE X a ta)(hb:PE X b tb)(hm:KD op b=false):PE X (.Compare a [op] [b] pos) (tOp r ta tb):=by
 intro pins s Z H Q I h;exact wpAny_Compare1 (yV ha hb I h λv u s2 x y H2 I2 rx ry q=>ho pins s2 Z H2 x y v u Q I2 rx ry q) hm
def yN(t:TE):TT:=λZ H Q=>t Z H λx H'=>∃k,x=.bl k/\Q k H'
theorem wV{op:NA}{r:R2}(ho:OpR X (JE op) r)(ha:PE X a ta)(hb:PE X b tb)(hm:KD op b=false):PT X (.Compare a [op] [b] pos) (yN (tOp r ta tb)):=by
 intro pins s Z H Q I h;refine LM (thn (ha pins s Z H _ I h) λv s1 ⟨x,H1,I1,r1,q1⟩=>thn (hb pins s1 Z H1 _ I1 q1) λu s2 ⟨y,H2,I2,r2,q2⟩=>
  thn (ho pins s2 Z H2 x y v u _ I2 r1 r2 q2) λc s3 ⟨z,H3,I3,r3,k,e,q3⟩=>?_) hm
 subst e;cases r3;exact JZ ⟨H3,I3,q3⟩
def vD(K:yF)(x:V)(H:Hp)(k:Bool):Prop:=
 match x with
 | .non=>k=false
 | .bl b=>k=b
 | .int i=>k=(i != 0)
 | .str y=>y.length<=sizeLine/\k=((y.length:Int) != 0)
 | .byt y=>y.size<=sizeLine/\k=((y.size:Int) != 0)
 | .ref p=>(∃xs,SqL K H p xs/\k = !xs.isEmpty)∨(∃xs,SqT K H p xs/\k = !xs.isEmpty) ∨ ∃kvs,H p=some (.dK kvs)/\k = !kvs.isEmpty
 | _=>False
theorem nQ{κ : Type}{kvs:List (κ×V)}{vs:List (κ×Jd)}(r:KV kvs vs):(!vs.isEmpty) = !kvs.isEmpty:=by
 cases r<;>rfl
theorem jS{xs:List V}{its:List Jd}(r:Vals xs its):(!its.toArray.isEmpty) = !xs.isEmpty:=by
 cases r<;>simp
theorem gX:(sizeLine:Nat)<2^63:=by rw[Ji];decide
theorem Bh:DF X (λx H Q=>∃k,vD X.K x H k/\Q k H):=by
 intro pins s Z H x v Q I rx h;obtain⟨k,e,q⟩:=h;have hl:=gX;have hs:sizeLine=16777216:=Ji;cases x with
 | non=>
  cases rx;have e':k=false:=e;subst e';exact truthy_none ⟨H,I,q⟩
 | bl b=>
  cases rx;have e':k=b:=e;subst e';exact JZ ⟨H,I,q⟩
 | int i=>
  obtain⟨t,rfl⟩:=rx;have e':k=(i != 0):=e;subst e';exact PySem.P.truthy_int ⟨H,I,q⟩
 | str y=>
  obtain⟨t,rfl⟩:=rx;obtain⟨hy,e'⟩:y.length<=sizeLine/\k=((y.length:Int) != 0):=e;subst e';exact PySem.P.truthy_str (by omega) ⟨H,I.tok _,q⟩
 | byt y=>
  obtain⟨t,rfl⟩:=rx;obtain⟨hy,e'⟩:y.size<=sizeLine/\k=((y.size:Int) != 0):=e;subst e';exact PySem.W.truthy_bytes (by omega) ⟨H,I.tok _,q⟩
 | ref p=>
  cases rx;have e':(∃xs,SqL X.K H p xs/\k = !xs.isEmpty)∨(∃xs,SqT X.K H p xs/\k = !xs.isEmpty) ∨ ∃kvs,H p=some (.dK kvs)/\k = !kvs.isEmpty:=e;rcases e' with⟨xs,hx,e'⟩|⟨xs,hx,e'⟩|⟨kvs,hx,e'⟩
  ·subst e';obtain⟨its,r,pl,hz⟩:=I.list hx;have hlen:=r.length;exact wpAny_truthy_list pl.isList (by simp only[Eh];omega) ⟨H,I.tok _,by rw[jS r];exact q⟩
  ·subst e';obtain⟨its,r,pl,hz⟩:=I.tuple hx;have hlen:=r.length;exact truthy_tuple pl (by simp only[Eh];omega) ⟨H,I.tok _,by rw[jS r];exact q⟩
  ·subst e';obtain⟨hz,hS,vs,r,m⟩:kvs.length<=sizeLine/\(p==Kw)=false/\∃vs,KV kvs vs/\s.heap.DictOf (bA X.prog X.w) p vs:=I.hok p _ hx;have hlen:kvs.length=vs.length:=Paired.length r;exact wpAny_truthy_dict hS m (by omega) ⟨H,I.tok _,by rw[nQ r];exact q⟩
 | _=>exact(show False from e).elim
theorem ui(ha:PE X a ta)(he:∀whole,LO a X.env whole=(do let v ←whole;Ki a.pos;JR [v] (Nf v))) :
  PT X a (λZ H Q=>ta Z H λx H'=>∃k,vD X.K x H' k/\Q k H'):=by
 intro pins s Z H Q I h;exact isTrue_plain (thn (ha pins s Z H _ I h) λv s1 ⟨x,H1,I1,r1,q1⟩=>Bh pins s1 Z H1 x v Q I1 r1 q1) (he _)
theorem op_add_str:OpR X (JK .Add) (λx y H Q=>∃i j,x=.str i/\y=.str j/\i.length+j.length<=sizeLine/\Q (.str (i++j)) H):=by
 intro pins s Z H x y v u Q I rx ry h;obtain⟨i,j,rfl,rfl,hz,q⟩:=h;obtain⟨t,rfl⟩:=rx;obtain⟨t',rfl⟩:=ry;exact add_str (λt' tk=>⟨.str (i++j),H,I.tok _,⟨_,rfl⟩,q⟩) hz
theorem gp{x:V}{us:List Jd}(r:Vals [x] us):∃u,us=[u]/\RelV x u:=by
 cases r with
 | cons r1 r2=>cases r2;exact⟨_,rfl,r1⟩
theorem pT{x y:V}{us:List Jd}(r:Vals [x,y] us):∃u w',us=[u,w']/\RelV x u/\RelV y w':=by
 cases r with
 | cons r1 r2=>
  cases r2 with
  | cons r3 r4=>cases r4;exact⟨_,_,rfl,r1,r3⟩
theorem p7(hc:X.calm=true):ID X (.builtin "max") (λxs H Q=>∃i j,xs=[.int i,.int j]/\Q (.int (if j>i then j else i)) H):=by
 intro pins s Z H xs us Q I r h;obtain⟨i,j,rfl,q⟩:=h;obtain⟨u,w',rfl,⟨t,rfl⟩,⟨t',rfl⟩⟩:=pT r;refine max_two_ints (I.ok.hd hc) λh' tk k=>⟨_,H,I.kept k,?_,q⟩;by_cases hj:j>i;rw[if_pos hj,if_pos hj];exact⟨_,rfl⟩;rw[if_neg hj,if_neg hj];exact⟨_,rfl⟩
theorem p8(hc:X.calm=true):ID X (.builtin "min") (λxs H Q=>∃i j,xs=[.int i,.int j]/\Q (.int (if j<i then j else i)) H):=by
 intro pins s Z H xs us Q I r h;obtain⟨i,j,rfl,q⟩:=h;obtain⟨u,w',rfl,⟨t,rfl⟩,⟨t',rfl⟩⟩:=pT r;refine min_two_ints (I.ok.hd hc) λh' tk k=>⟨_,H,I.kept k,?_,q⟩;by_cases hj:j<i;rw[if_pos hj,if_pos hj];exact⟨_,rfl⟩;rw[if_neg hj,if_neg hj];exact⟨_,rfl⟩
theorem pX:ID X (.type "int") (λxs H Q=>(∃i,xs=[.int i]/\Q (.int i) H) ∨ ∃k,xs=[.bl k]/\Q (.int (if k then 1 else 0)) H):=by
 intro pins s Z H xs us Q I r h;rcases h with⟨i,rfl,q⟩|⟨k,rfl,q⟩
 ·obtain⟨u,rfl,t,rfl⟩:=gp r;exact call_int_int ⟨.int i,H,I,⟨_,rfl⟩,q⟩
 ·obtain⟨u,rfl,r1⟩:=gp r;cases r1;exact call_int_bool ⟨.int (if k then 1 else 0),H,I.tok _,⟨_,rfl⟩,q⟩
end
structure ObjM(h:Heap)(x dx C:Addr)(mA:Str->Option Jd):Prop where
 obj:h.get? x=some (HY C dx)
 ns:h.Ns1 dx mA
 ne:dx≠x
theorem RelO.some_of{v:V}{o:Option Jd}(r:RelO (some v) o):∃u,o=some u/\RelV v u:=by
 cases o with
 | none=>exact(show False from r).elim
 | some u=>exact⟨u,rfl,r⟩
structure Cls(K:yF)(C:Addr):Prop where
 pg:PySem.W.plainGet K C Str.empty=true
 hd:PySem.W.hasDictIn K C=true
 po:PySem.W.plainOver K C=true
 sa:GC K (.ref C) "__setattr__" = some (some (.builtin "object.__setattr__"))
structure Con(K:yF)(C:Addr)(f:Str)(v:V)(u:Jd):Prop where
 at_:GC K (.ref C) f=some (some u)
 rel:RelV v u
 get:HF K u "__get__" = some none
 cp:PySem.W.copiedNames.contains f=false
structure Meth(K:yF)(C:Addr)(m:Str)(f:Addr):Prop where
 at_:GC K (.ref C) m=some (some (.ref f))
 fn:PySem.W.isFn K (.ref f)=true
 kp:FH K (.ref f)=true
section
variable {X:Cx}{pins:List (Addr×Obj)}{Z:St}{H:Hp}{s:Jf}{A:Jw}{E:Jd->Jf->Prop}{Q:Jd->Jf->Prop}{c:Jd}{b:Bool}
inductive IS(K:yF) (H:Hp):V->Jd->Prop where
 | non:IS K H .non (.type "NoneType")
 | bl (x:Bool):IS K H (.bl x) (.type "bool")
 | int (i:Int):IS K H (.int i) (.type "int")
 | str (x:Str):IS K H (.str x) (.type "str")
 | flt (x:UInt64):IS K H (.flt x) (.type "float")
 | lst {a:Addr} {xs:List V} (e:H a=some (.lst xs)):IS K H (.ref a) (.type "list")
 | frz {a:Addr} {o:Obj} {xs:List V} (e:H a=some (.frz o (.lst xs))):IS K H (.ref a) (.type "list")
 | tup {a:Addr} {xs:List V} (e:H a=some (.tup xs)):IS K H (.ref a) (.type "tuple")
 | dK {a:Addr} {kvs:List (Key×V)} (e:H a=some (.dK kvs)):IS K H (.ref a) (.type "dict")
 | dT {a:Addr} {kvs:List (List Key×V)} (e:H a=some (.dT kvs)):IS K H (.ref a) (.type "dict")
 | ins {a C dx:Addr} {fs:List (Str×V)} (e:H a=some (.ins C dx fs)) (cl:Cls K C) (ha:GC K (.ref C) "__class__" = some (some (.builtin "object.__class__")))
   (hn:HF K (.builtin "object.__class__") "__get__" = some (some (.builtin "getset_descriptor.__get__"))) (htk:PySem.W.takesIn K (.builtin "object.__class__")=some true)
   (hm:PySem.W.mroIn K C (.type "object")=some true):IS K H (.ref a) (.ref C)
end
structure IF(k:Nat)(A:Jw):Prop where
 hd:A.handled=none
 gd:A.guards=some []
 dp:A.depth+3*k+5<Nk
 un:A.units+16*k+200<JP
theorem IF.mono{j k:Nat}{A:Jw}(r:IF k A)(h:j<=k):IF j A:=⟨r.hd,r.gd,by have:=r.dp;omega,by have:=r.un;omega⟩
theorem IF.deeper{k:Nat}{A:Jw}(r:IF (k+1) A)(env:Env):IF k (A.deeper env):=
 ⟨r.hd,r.gd,by have:=r.dp;show A.depth+1+3*k+5<_;omega,by have:=r.un;show A.units+3+16*k+200<_;omega⟩
theorem IF.depth{k:Nat}{A:Jw}(r:IF k A):A.depth<Nk:=by have:=r.dp;omega
theorem IF.units{k:Nat}{A:Jw}(r:IF k A):A.units+64<JP:=by have:=r.un;omega
def Di:TA:=λ_ H Q=>Q [] H
def pM(ta:TE)(tr:TA):TA:=λZ H Q=>ta Z H λx H1=>tr Z H1 λxs H2=>Q (x::xs) H2
section
variable {X:Cx}{e:Expr}{es:List Expr}{te:TE}{t:TA}{pos:Pos}
theorem lP:PA X [] Di:=λ_ _ _ _ H Q I h=>Calls.spliced_nil ⟨[],H,I,.nil,h⟩
theorem wB(ha:PE X e te)(hr:PA X es t)(hs:Jv (e::es) X.env=(false,eval e X.env)::Jv es X.env:=by rfl):PA X (e::es) (pM te t):=by
 intro pos pins s Z H Q I h;rw[hs];show Jk _ _ (spliced ((false,eval e X.env)::Kq pos (Jv es X.env))) _ _ s;refine Calls.spliced_cons (thn (ha pins s Z H _ I h) λu s1 ⟨x,H1,I1,r1,q1⟩=>?_);exact thn (hr pos pins s1 Z H1 _ I1 q1) λus s2 ⟨xs,H2,I2,r2,q2⟩=>⟨x::xs,H2,I2,.cons r1 r2,q2⟩
def Dp(t:TA):TE:=λZ H Q=>t Z H λxs H1=>xs.length<=sizeLine/\∀p,H1 p=none->Q (.ref p) (upd H1 p (.tup xs))
def Dh(t:TA):TE:=λZ H Q=>t Z H λxs H1=>xs.length<=sizeLine/\∀p,H1 p=none->Q (.ref p) (upd H1 p (.lst xs))
theorem Ai{x1}(h:PA X es t):PE X (.Tuple es x1 pos) (Dp t):=by
 intro pins s Z H Q I hq;refine wpAny_Tuple_spliced (thn (h pos pins s Z H _ I hq) λus s1 ⟨xs,H1,I1,r,z,q⟩=>⟨by rw[←r.length];exact z,?_⟩);have hf:H1 s1.heap.objs.size=none:=I1.hok.fresh (Eo _);refine⟨.ref s1.heap.objs.size,upd H1 s1.heap.objs.size (.tup xs),I1.laid (t':=s1.toks) (λb u e=>Jg _ e) (Eo _) ?_,rfl,q _ hf⟩;exact⟨z,us,r,⟨_,Jn _ rfl,⟨rfl,rfl⟩,_,rfl⟩⟩
theorem Af(h:PA X es t):PE X (.List es pos) (Dh t):=by
 intro pins s Z H Q I hq;refine wpAny_List_spliced (thn (h pos pins s Z H _ I hq) λus s1 ⟨xs,H1,I1,r,z,q⟩=>⟨by rw[←r.length];exact z,?_⟩);have hf:H1 s1.heap.objs.size=none:=I1.hok.fresh (Eo _);refine⟨.ref s1.heap.objs.size,upd H1 s1.heap.objs.size (.lst xs),I1.laid (t':=s1.toks) (λb u e=>Jg _ e) (Eo _) ?_,rfl,q _ hf⟩;exact⟨z,us,0,r,Jn _ rfl⟩
end
abbrev Sp:=List V->Hp->VK->XK->Prop
abbrev CXT:=List Env->Hp->Jf->XK->Jd->Jf->Prop
structure Jb(P:Jq)(w:JB)(K:yF)(mg:Str->Option Jd)(base:Heap)(A:Jw)(outer:List Env)(s:Jf)(H:Hp):Prop where
 frames:A.frames=some outer
 mod:Mod K mg base
 bs:∀b o,base.get? b=some o->s.heap.get? b=some o/\H b=none
 bsz:base.objs.size<=s.heap.objs.size
 funs:s.heap.FunFrames base outer
 frf:∀b∈frs outer,H b=none
 hok:HOk P w H s.heap
 bare:Lf s.gens
def CE(outer:List Env)(P:Jq)(w:JB)(H:Hp)(s:Jf)(Q:VK)(u:Jd)(s':Jf):Prop:=
 ∃v H',s'.os=s.os/\Lf s'.gens/\Un (frs outer) [] H H' s.heap s'.heap/\HOk P w H' s'.heap/\RelV v u/\Q v H'
def CR(CX:CXT)(outer:List Env)(P:Jq)(w:JB)(H:Hp)(s:Jf)(Q:VK)(E:XK)(r:LA)(s':Jf):Prop:=
 match r with
 | .ok (.ret u)=>CE outer P w H s Q u s'
 | .ok _=>False
 | .error e=>CX outer H s E e s'
structure IY(P:Jq)(w:JB)(K:yF)(mg:Str->Option Jd)(base:Heap)(CX:CXT)(k:Nat)(f:Addr)(fd:Kf)(ps:List Str)(sp:Sp):Prop where
 len:∀vs H Q E,sp vs H Q E->vs.length=ps.length
 run:∀(A:Jw) (outer:List Env) (s:Jf) (H:Hp) (args:Args) (us:List Jd) (vs:List V) (Q:VK) (E:XK),IF k A->Jb P w K mg base A outer s H->LX s fd args (ps.zip us)->Vals vs us->sp vs H Q E →
  JN (Jj P w) A (.call (.ref f) args) (CR CX outer P w H s Q E) s
section
variable {X:Cx}{pins:List (Addr×Obj)}{Z:St}{H:Hp}{s s':Jf}
theorem Inv.env0(I:Inv X pins Z H s):Jb X.prog X.w X.K X.mg X.base X.A X.stack s H:=
 ⟨I.ok.frames,I.ok.mod,I.bs,ER I.ok.bsz I.sz,I.stack,I.stkFree,I.hok,I.bare⟩
theorem Inv.after{Q:VK}{u:Jd}(I:Inv X pins Z H s)(h:CE X.stack X.prog X.w H s Q u s'):EP X pins Z Q u s':=by
 obtain⟨v,H',os,bare,un,hok,r,q⟩:=h;obtain⟨hh,g,d,t,os'⟩:=s';obtain rfl:os'=s.os:=os;exact⟨v,H',I.call (h':=hh) (g':=g) (d':=d) (t':=t) (ch:=[]) un hok bare (λb z=>absurd z (by simp)),r,q⟩
end
def j8(sp:Sp)(dvs:List V)(E:XK)(t:TA):TE:=λZ H Q=>t Z H λvs H1=>sp (vs++dvs) H1 Q E
def IV(K:yF)(fd:Kf)(ps:List Str)(ds:List Jd):Prop:=
 ∀(s:Jf) (us:List Jd),K.In s.heap->(us++ds).length=ps.length->LX s fd ⟨us,[]⟩ (ps.zip (us++ds))
theorem IV.all{K:yF}{fd:Kf}{ps:List Str}(h:∀us:List Jd,us.length=ps.length->Nl fd ⟨us,[]⟩=pure (ps.zip us)):IV K fd ps []:=λs us _ hl=>by
 rw[EB]at hl⊢;exact .of_eq (h us hl)
def nH(CX:CXT)(X:Cx)(E:XK):Prop:=∀(pins:List (Addr×Obj)) (Z:St) (H:Hp) (s:Jf) (e:Jd) (s':Jf),Inv X pins Z H s->CX X.stack H s E e s'->X.xe e s'
section
variable {X:Cx}{CX:CXT}{k:Nat}{f C:Addr}{fd:Kf}{ps:List Str}{sp:Sp}{dvs:List V}{ds:List Jd}{E:XK}{x m:Str}{p pos apos:Pos}{e o:Expr}{es:List Expr}{ta:TE}{t:TA}
theorem Bb{pins:List (Addr×Obj)}{Z:St}{H:Hp}{s:Jf}{Q:VK}{us:List Jd}{vs:List V}(F:IY X.prog X.w X.K X.mg X.base CX k f fd ps sp)(hr:IF k X.A)(hb:IV X.K fd ps ds)(hd:Vals dvs ds)(hx:nH CX X E)
  (I:Inv X pins Z H s) (r:Vals vs us) (h:sp (vs++dvs) H Q E):Jk (Jj X.prog X.w) X.A (call (.ref f) us) (EP X pins Z Q) X.xe s:=by
 have r2:Vals (vs++dvs) (us++ds):=r.append hd;have hl:(us++ds).length=ps.length:=by rw[←r2.length];exact F.len _ _ _ _ h
 refine wpAny_call (LB (F.run X.A X.stack s H ⟨us,[]⟩ (us++ds) (vs++dvs) Q E hr I.env0 (hb s us I.kIn hl) r2 h) λr s' hq=>?_);cases r with
 | error e=>exact hx pins Z H s e s' I hq
 | ok fl=>
  cases fl with
  | ret u=>exact I.after hq
  | next=>exact Ke hq
  | brk=>exact Ke hq
  | cont=>exact Ke hq
theorem wD(F:IY X.prog X.w X.K X.mg X.base CX k f fd ps sp)(hr:IF k X.A)(hg:Gl X x)(hm:X.mg x=some (.ref f))(hk:FH X.K (.ref f)=true)(hb:IV X.K fd ps ds)(hd:Vals dvs ds)(hx:nH CX X E)
  (ha:PA X (e::es) t) (hdb:(x==("__debug__" : Str))=false:=by decide) (he:Jv (e::es) X.env=(false,eval e X.env)::Jv es X.env:=by rfl) (hpl:(Kq pos (Jv es X.env)).any (·.1)=false:=by rfl) :
  PE X (.Call (.Name x p) (e::es) [] pos) (j8 sp dvs E t):=by
 intro pins s Z H Q I h;refine K1 (wa I hg hm ?_ hdb);refine PySem.W.callWith_K (h₀:=X.base) I.ok.mod.kin hk (thn (ha pos pins s Z H _ I h) λus s1 ⟨vs,H1,I1,r,q⟩=>⟨I1.kIn,?_⟩) he hpl;exact Bb F hr hb hd hx I1 r q
end
section
variable {X:Cx}{CX:CXT}{k:Nat}{f C:Addr}{fd:Kf}{ps ks:List Str}{sp:Sp}{E:XK}{x m:Str}{p pos apos kpos:Pos}{e o:Expr}{es:List Expr}{kws:List M9}{te ta:TE}{t tk:TA}{nm:Option Str}
structure KBinds(K:yF)(fd:Kf)(ps ks:List Str)(g:List Jd->List Jd->List Jd)(gV:List V->List V->List V):Prop where
 to:∀(s:Jf) (us ws:List Jd),K.In s.heap->(g us ws).length=ps.length->LX s fd ⟨us,ks.zip ws⟩ (ps.zip (g us ws))
 rel:∀{vs:List V} {us:List Jd} {zs:List V} {ws:List Jd},Vals vs us->Vals zs ws->Vals (gV vs zs) (g us ws)
variable {g:List Jd->List Jd->List Jd}{gV:List V->List V->List V}
end
structure Is(N P:List Str)(sc:JW):Prop where
 kind:sc.kind=.function
 co:sc.isCoroutine=false
 gen:sc.isGenerator=false
 nd:N.Nodup
 pre:N.take P.length=P
 par:∀x∈P,sc.names.lookup x=some .local∨sc.names.lookup x=some .cell
 nofree:∀y∈sc.names,y.2 ≠ .free
theorem kC{kindOf:Str->Option Jp}{x:Str}:∀{binds:List (Str×Jd)} {m:Str->Option Jd},(∀v,(x,v)∉binds)->Nm kindOf binds m x=m x
 | [],_,_=>rfl
 | (n,v)::r,m,h=>by
  unfold Nm;rw[kC λw hw=>h w (ymC _ hw)];split
  ·have:x≠n:=by rintro rfl;exact h v ymS
   simp[this]
  ·rfl
theorem kA{kindOf:Str->Option Jp}{x:Str}:∀{binds:List (Str×Jd)} {m:Str->Option Jd},(∀v,(x,v)∉binds)->Nn kindOf binds m x=m x
 | [],_,_=>rfl
 | (n,v)::r,m,h=>by
  unfold Nn;rw[kA λw hw=>h w (ymC _ hw)];split;rfl
  ·have:x≠n:=by rintro rfl;exact h v ymS
   simp[this]
theorem kB{kindOf:Str->Option Jp}{x:Str}{v:Jd}:∀{P:List Str} {vs:List Jd} {i:Nat} {m:Str->Option Jd},P.Nodup->P[i]?=some x->vs[i]?=some v->kindOf x=some .local →
  Nm kindOf (P.zip vs) m x=some v
 | [],_,_,_,_,h,_,_=>by simp at h
 | _::_,[],_,_,_,_,h,_=>by simp at h
 | p::P,w::vs,0,m,nd,h1,h2,hk=>by
  simp at h1 h2;subst h1;subst h2;show Nm kindOf ((p,w)::P.zip vs) m p=_;unfold Nm;rw[kC λv hv=>(EF.mp nd).1 (Hc hv).1,if_pos hk];simp
 | p::P,w::vs,i+1,m,nd,h1,h2,hk=>by
  show Nm kindOf ((p,w)::P.zip vs) m x=_;unfold Nm;exact kB (i:=i) (EF.mp nd).2 (by simpa using h1) (by simpa using h2) hk
theorem kz{kindOf:Str->Option Jp}{x:Str}{v:Jd}:∀{P:List Str} {vs:List Jd} {i:Nat} {m:Str->Option Jd},P.Nodup->P[i]?=some x->vs[i]?=some v->kindOf x≠some .local →
  Nn kindOf (P.zip vs) m x=some v
 | [],_,_,_,_,h,_,_=>by simp at h
 | _::_,[],_,_,_,_,h,_=>by simp at h
 | p::P,w::vs,0,m,nd,h1,h2,hk=>by
  simp at h1 h2;subst h1;subst h2;show Nn kindOf ((p,w)::P.zip vs) m p=_;unfold Nn;rw[kA λv hv=>(EF.mp nd).1 (Hc hv).1,if_neg hk];simp
 | p::P,w::vs,i+1,m,nd,h1,h2,hk=>by
  show Nn kindOf ((p,w)::P.zip vs) m x=_;unfold Nn;exact kz (i:=i) (EF.mp nd).2 (by simpa using h1) (by simpa using h2) hk
noncomputable def bM(N:List Str) (vs:List V):St:=vs.map some++El (N.length-vs.length) none
noncomputable def kh(CX:CXT) (P:Jq) (w:JB) (K:yF) (mg:Str->Option Jd) (base:Heap) (N:List Str) (qual:Str) (scope:JW) (f:Addr) (cd:Jd) (A:Jw) (outer:List Env) (s:Jf) (H:Hp) (E:XK):Cx where
 prog:=P
 w:=w
 K:=K
 mg:=mg
 base:=base
 A:=A.deeper (KJ qual scope s.heap.objs.size f cd)
 N:=N
 s₀:=s
 H₀:=H
 env:=KJ qual scope s.heap.objs.size f cd
 outer:=outer
 stack:=KJ qual scope s.heap.objs.size f cd::outer
 ex:=[]
 calm:=true
 fn:=λ_=>true
 pn:=[]
 xe:=λe s'=>Jk (Jj P w) (A.deeper (KJ qual scope s.heap.objs.size f cd)) (leaving (KJ qual scope s.heap.objs.size f cd) e) (λ_ s''=>CX outer H s E e s'') (λe' s''=>CX outer H s E e' s'') s'
theorem me{sc:JW}{n:Nat}{x:Str}(h:sc.names.lookup x=some .cell):∃c,(Jy n sc.names []).lookup x=some c:=by
 have q:=Gi sc.names n [] (.inl h);exact Fz.mp q
theorem ql{CX:CXT}{P:Jq}{w:JB}{K:yF}{mg:Str->Option Jd}{base:Heap}{N ps:List Str}{qual:Str}{scope:JW}{f:Addr}{cd:Jd}{A:Jw}{outer:List Env}{s s1:Jf}{H:Hp}{E:XK}{us:List Jd}{vs:List V}
  (S:Is N ps scope) (hd:A.handled=none) (gd:A.guards=some []) (e0:Jb P w K mg base A outer s H) (hl:vs.length=ps.length) (r:Vals vs us)
  (x:InCallC s s.heap.objs.size (Nm (KJ qual scope s.heap.objs.size f cd).kindOf (ps.zip us) λ_=>none) (Jy (s.heap.objs.size+1) scope.names []) (Nn (KJ qual scope s.heap.objs.size f cd).kindOf (ps.zip us) λ_=>none) s1) :
  Inv (kh CX P w K mg base N qual scope f cd A outer s H E) [] (bM N vs) H s1:=by
 have hpl:ps.length<=N.length:=by have:=congrArg FK S.pre;rw[EZ]at this;omega
 obtain⟨h1,tk,rfl,hk⟩:=x.done;have noA:∀b:Addr,b∉(kh CX P w K mg base N qual scope f cd A outer s H E).ex:=λb z=>absurd (show b∈([]:List Addr)from z) (by simp);refine⟨⟨e0.mod,S.kind,rfl,rfl,Eo _,λy z c h1 h2=>?_,λy hy=>?_,λy c _ h=>?_,λ_=>hd,λ_=>gd,Jw.frames_deeper e0.frames,.inr ⟨rfl,rfl⟩,λb z=>absurd z (noA b),e0.bs,e0.bsz,λb _ _=>noA b,λb z=>absurd z (noA b),e0.funs,e0.frf⟩,
  rfl,e0.bare,Un.kept hk,⟨_,x.toInCall.ns,λi y v h1 h2 h3=>?_⟩,λy c h=>⟨_,x.cell y c h⟩,e0.hok.fresh (Eo _),λy c h=>?_,λp hp=>absurd (show p∈([]:List (Addr×Obj))from hp) (by simp),e0.hok.kept hk,?_⟩
 ·exact name_of_addr x.apart (FE h1) (FE h2)
 ·have hy:scope.names.lookup y=some .cell∨scope.names.lookup y=some .free:=hy;rcases hy with hy|hy;exact me hy;exact absurd rfl (S.nofree _ (FE hy))
 ·exact HE (x.above y c (FE h))
 ·have hi:i<vs.length:=by
   unfold bM at h2;by_cases hi:i<vs.length;exact hi
   ·rw[Ft (by simpa using hi)]at h2;rw[GR]at h2;split at h2<;>cases h2
  have ha:vs[i]?=some v:=by
   unfold bM at h2;rw[E4 (by simpa using hi),Ep]at h2;cases e:vs[i]? with
   | none=>rw[e]at h2;cases h2
   | some a=>rw[e]at h2;cases h2;rfl
  obtain⟨u,hu,rv⟩:=r.get ha;have hp:ps[i]?=some y:=by
   rw[←S.pre,GM (by omega)];exact h1
  have ndP:ps.Nodup:=by rw[←S.pre];exact S.nd.sublist (List.take_sublist _ _)
  refine⟨u,rv,?_⟩;rcases S.par y (ymG hp)with k|k;exact .inl ⟨k,kB ndP hp hu k⟩
  ·obtain⟨c,e⟩:=me (n:=s.heap.objs.size+1) k;refine .inr ⟨.inl k,c,e,?_⟩;have q:=x.cell y c e;rw[kz ndP hp hu (by show scope.names.lookup y≠_;rw[k];decide)]at q;exact q
 ·exact e0.hok.fresh (HE (x.above y c (FE h)))
 ·unfold bM;show _=N.length;rw[Et,Ej,List.length_replicate];omega
theorem BL{CX:CXT}{P:Jq}{w:JB}{K:yF}{mg:Str->Option Jd}{base:Heap}{k:Nat}{f:Addr}{name qual:Str}{params:Arguments}{body:List Stmt}{scope:JW}{dV kV doc pm cdv ct oc:Jd}{an od:Option Addr}
  {osl:Array (Option Jd)} {N ps:List Str} {sp:Sp} (lk:K.lookup f=some ⟨oc,od,.func (FA name qual params body scope dV kV doc pm an cdv ct),osl⟩) (hcd:F6 K cdv qual=true) (S:Is N ps scope)
  (len:∀vs H Q E,sp vs H Q E->vs.length=ps.length)
  (hbody:∀(A:Jw) (outer:List Env) (s:Jf) (H:Hp) (vs:List V) (Q:VK) (E:XK),IF k (A.deeper (KJ qual scope s.heap.objs.size f cdv))->sp vs H Q E →
   ∃t,PSs (kh CX P w K mg base N qual scope f cdv A outer s H E) body t/\t {nx:=λ_ H'=>Q .non H',rt:=Q} (bM N vs) H) :
  IY P w K mg base CX (k+1) f (FA name qual params body scope dV kV doc pm an cdv ct) ps sp:=by
 refine⟨len,λA outer s H args us vs Q E hr e0 hb r hsp=>?_⟩;have hl:=len _ _ _ _ hsp;have KX:K.In s.heap:=e0.mod.kin.keeps λb o e=>(e0.bs b o e).1;have lim:s.heap.NoLimit:=e0.mod.nolimit.keeps λb o e=>(e0.bs b o e).1;have hkind:∀y∈ps.zip us,scope.names.lookup y.1=some .local∨(scope.names.lookup y.1=some .cell/\((Jy (s.heap.objs.size+1) scope.names []).lookup y.1).isSome=true):=fun⟨n,v⟩ hy=>by
  rcases S.par n (Hc hy).1 with q|q;exact .inl q;exact .inr ⟨q,Gi _ _ _ (.inl q)⟩
 refine codeAny_call_function hr.depth (KX _ _ lk) rfl S.co S.gen rfl (PySem.W.codeRec_of KX hcd) (hb _ _ _ _ ?_);refine wpAny_newFunctionEnv_cells S.kind hkind λenv he s1 x=>?_;subst he;refine⟨lim.keeps x.toInCall.keep,codeAny_func ?_⟩;obtain⟨t,ht,hq⟩:=hbody A outer s H vs Q E (hr.deeper _) hsp;have I:Inv (kh CX P w K mg base N qual scope f cdv A outer s H E) [] (bM N vs) H s1:=ql S hr.hd hr.gd e0 hl r x;refine Jo (ht [] s1 (bM N vs) H _ I hq) (λfl s' hs=>?_) λe s' hs=>hs;have fin:∀{Z':St} {H':Hp} {v:V} {u:Jd},Inv (kh CX P w K mg base N qual scope f cdv A outer s H E) [] Z' H' s'->RelV v u->Q v H'->CE outer P w H s Q u s':=
  λ{Z' H' v u} J rv q=>⟨v,H',J.os,J.bare,J.base,J.hok,rv,q⟩
 cases fl with
 | ret u=>
  obtain⟨v,Z',H',J,rv,q⟩:=hs;exact fin J rv q
 | next=>
  obtain⟨Z',H',J,q⟩:=hs;exact fin (v:=V.non) (u:=Ml) J rfl q
 | brk=>
  obtain⟨_,_,_,q⟩:=hs;exact Ke q
 | cont=>
  obtain⟨_,_,_,q⟩:=hs;exact Ke q
section
variable {X:Cx}{x:Str}{p pos:Pos}{e:Expr}{es:List Expr}{t:TA}{id T:String}{r:List V->Hp->VK->Prop}
def tCB(r:List V->Hp->VK->Prop)(t:TA):TE:=λZ H Q=>t Z H λvs H1=>r vs H1 Q
theorem tE(hc:ID X (.builtin id) r)(hg:Gl X x)(hm:X.mg x=none)(hv:JQ x=some (.builtin id))(ha:PA X (e::es) t)(hn:x ≠ "__name__" :=by decide)(hdb:(x==("__debug__" : Str))=false:=by decide)
  (he:Jv (e::es) X.env=(false,eval e X.env)::Jv es X.env:=by rfl) (hpl:(Kq pos (Jv es X.env)).any (·.1)=false:=by rfl):PE X (.Call (.Name x p) (e::es) [] pos) (tCB r t):=by
 intro pins s Z H Q I h;refine K1 (jX I hg hm hv ?_ hn hdb);exact HQ (thn (ha pos pins s Z H _ I h) λus s1 ⟨vs,H1,I1,r1,q1⟩=>hc pins s1 Z H1 vs us Q I1 r1 q1) he hpl
theorem qE(hc:ID X (.type T) r)(hg:Gl X x)(hm:X.mg x=none)(hv:JQ x=some (.type T))(ha:PA X (e::es) t)(hn:x ≠ "__name__" :=by decide)(hdb:(x==("__debug__" : Str))=false:=by decide)
  (he:Jv (e::es) X.env=(false,eval e X.env)::Jv es X.env:=by rfl) (hpl:(Kq pos (Jv es X.env)).any (·.1)=false:=by rfl):PE X (.Call (.Name x p) (e::es) [] pos) (tCB r t):=by
 intro pins s Z H Q I h;refine K1 (jX I hg hm hv ?_ hn hdb);exact FZ (thn (ha pos pins s Z H _ I h) λus s1 ⟨vs,H1,I1,r1,q1⟩=>hc pins s1 Z H1 vs us Q I1 r1 q1) he hpl
end
end L2
namespace HT
open PySem PyProof.Rows
section
variable {prog:Jq}{w:JB}{A:Jw}{E:Jd->Jf->Prop}{s:Jf}
theorem cat_tup{t b:Addr}{vs ws:List Jd}{Q:Jd->Jf->Prop}(ht:Ny s.heap t vs.toArray)(hb:Ny s.heap b ws.toArray)(hv:vs≠[])
  (h1:ws=[]->Q (.ref t) s) (h2:ws≠[]->Q (.ref s.heap.objs.size) {s with heap:=s.heap.push {cls:=.type "tuple",data:=.seq (vs++ws).toArray}})
  (hsz:vs.length+ws.length<=sizeLine):Jk (Jj prog w) A (JK .Add (.ref t) (.ref b)) Q E s:=by
 obtain⟨⟨cls,dd,data,sl⟩,ho,hc,n,hd⟩:=id ht;obtain⟨⟨cls2,dd2,data2,sl2⟩,ho2,hc2,n2,hd2⟩:=id hb;simp only at hc hd hc2 hd2;subst hc hd hc2 hd2;have e:vs.toArray++ws.toArray=(vs++ws).toArray:=by simp
 by_cases hw:ws=[]
 ·exact My ⟨_,ho,rfl⟩ ⟨_,ho2,rfl⟩ Lr Mf PySem.F.slot_tuple_add PySem.F.entry_tuple_add (PySem.F.args_tuple_add_2 _ _)
   (tuple_addW1 t b vs.toArray ws.toArray n n2 dd dd2 sl sl2 (by simpa using hv) (by simp[hw])) ⟨ho,ho2,h1 hw⟩
 ·refine My ⟨_,ho,rfl⟩ ⟨_,ho2,rfl⟩ Lr Mf PySem.F.slot_tuple_add PySem.F.entry_tuple_add (PySem.F.args_tuple_add_2 _ _)
   (tuple_addW2 t b vs.toArray ws.toArray n n2 dd dd2 sl sl2 (by simpa using hv) (by simpa using hw) (by rw[Eh,Eh];exact hsz)) ⟨ho,ho2,?_⟩
  rw[e];exact h2 hw
noncomputable def sIx(n d:Nat):Option Int->Nat
 | none=>d
 | some v=>if v<0 then(v+(n:Int)).toNat else min v.toNat n
theorem sIx_none(n d:Nat):sIx n d none=d:=rfl
theorem sIx_nat(n d k:Nat):sIx n d (some (k:Int))=min k n:=by
 show(if(k:Int)<0 then((k:Int)+(n:Int)).toNat else min (k:Int).toNat n)=min k n;rw[if_neg (by omega),ES]
theorem sIx_le(n d:Nat)(hd:d<=n)(o:Option Int):sIx n d o<=n:=by
 cases o with
 | none=>exact hd
 | some v=>
  show(if v<0 then(v+(n:Int)).toNat else min v.toNat n)<=n;by_cases hv:v<0;rw[if_pos hv];omega;rw[if_neg hv];exact Nat.min_le_right _ _
theorem clip_eq(v:Int)(n d:Nat):(if v<0 then max (v+(n:Int)) 0 else min v (n:Int))=((sIx n d (some v):Nat):Int):=by
 show(if v<0 then max (v+(n:Int)) 0 else min v (n:Int))=(((if v<0 then(v+(n:Int)).toNat else min v.toNat n):Nat):Int);by_cases hv:v<0;simp only[if_pos hv];omega;simp only[if_neg hv];omega
theorem adjust_gen(lo hi:Option Int)(n:Nat):JG lo hi 1 (n:Int)=(((sIx n 0 lo:Nat):Int),((sIx n n hi:Nat):Int)):=by
 have h1:¬ ((1:Int)<0):=by omega
 unfold JG;simp only[h1,if_false];refine Ip ?_ ?_
 ·cases lo with
  | none=>rfl
  | some v=>exact clip_eq v n 0
 ·cases hi with
  | none=>rfl
  | some v=>exact clip_eq v n n
theorem places_gen(i j:Nat):JA (i:Int) (j:Int) 1=j-i:=by
 unfold JA;have h1:(1:Int)>0:=by omega
 simp only[h1,if_true,Ig];split<;>omega
theorem slicePart_{v:Jd}{o:Option Int}{Q:Option Int->Jf->Prop}(p:Ll v o)(h:Q o s):Jk (Jj prog w) A (MY v) Q E s:=by
 cases p with
 | none=>exact K2 h
 | int i t=>exact slicePart_int h
theorem sliceApplied_gen{sl:Addr}{vl vu:Jd}{lo hi:Option Int}{n:Nat}{Q:Int×Int×Nat->Jf->Prop}(hs:s.heap.IsSliceOf sl vl vu .none)(pl:Ll vl lo)(pu:Ll vu hi)
  (h:Q (((sIx n 0 lo:Nat):Int),1,sIx n n hi-sIx n 0 lo) s):Jk (Jj prog w) A (JX (.ref sl) (pure (n:Int))) Q E s:=by
 obtain⟨os,hos,hcs,hds⟩:=id hs;unfold JX Lc;refine Je (Je (Kb hos hds (x:=vl) rfl (Je (Kb hos hds (x:=vu) rfl (Je (Kb hos hds (x:=.none) rfl (Jh ?_)))))));refine Je (K2 ?_);show Jk _ _ (if((1:Int)==0)=true then _ else _) _ _ s;rw[if_neg (by decide)];refine Je (slicePart_ pl (Je (slicePart_ pu (Je (Jh ?_)))));show Jk _ _ (match JG lo hi 1 (n:Int)with|(lo,hi)=>pure (lo,(1:Int),JA lo hi 1)) _ _ s;rw[adjust_gen lo hi n];show Jk _ _ (pure (((sIx n 0 lo:Nat):Int),(1:Int),JA ((sIx n 0 lo:Nat):Int) ((sIx n n hi:Nat):Int) 1)) _ _ s;rw[places_gen];exact Jh h
theorem pick_gen(xs:Array Jd)(i k:Nat):((EU k).filterMap λ(m:Nat)=>xs[((i:Int)+(m:Int)*1).toNat]?).toArray=((xs.toList.drop i).take k).toArray:=by
 have e:(λ(m:Nat)=>xs[((i:Int)+(m:Int)*1).toNat]?)=λm=>xs[i+m]?:=by
  funext m;have:((i:Int)+(m:Int)*1).toNat=i+m:=by omega
  rw[this]
 rw[e];have:=NP xs i k;rw[Ge]at this;have e2:((λx=>xs[x]?)∘λx=>i+x)=λm=>xs[i+m]?:=rfl;rw[e2]at this;rw[this]
theorem getItem_tuple_cut{t sl:Addr}{items:Array Jd}{vl vu:Jd}{lo hi:Option Int}{Q:Jd->Jf->Prop}(ht:Ny s.heap t items)(hs:s.heap.IsSliceOf sl vl vu .none)(pl:Ll vl lo)(pu:Ll vu hi)
  (hw:¬ (sIx items.size 0 lo=0/\sIx items.size items.size hi=items.size))
  (h:Q (.ref s.heap.objs.size) {s with heap:=s.heap.push {cls:=.type "tuple",data:=.seq ((items.toList.drop (sIx items.size 0 lo)).take (sIx items.size items.size hi-sIx items.size 0 lo)).toArray}})
  (hsz:items.size<=sizeLine):Jk (Jj prog w) A (KU (.ref t) (.ref sl)) Q E s:=by
 have htake:sizeOk (.seq ((items.toList.drop (sIx items.size 0 lo)).take (sIx items.size items.size hi-sIx items.size 0 lo)).toArray):=by
  show((items.toList.drop (sIx items.size 0 lo)).take (sIx items.size items.size hi-sIx items.size 0 lo)).toArray.size<=sizeLine;rw[Eh,EZ,Fm,Fv];omega
 have hj:sIx items.size items.size hi<=items.size:=sIx_le _ _ (Eo _) hi;obtain⟨os,hos,hcs,hds⟩:=id hs;have hTs:s.TypeIs (.ref sl) "slice" :=⟨os,hos,hcs⟩;unfold KU;try with_reducible refine JJ ?_
 first|refine Je (Jh ?_)|skip
 refine Je (Lh ht.typeIs (by decide) ?_);refine Je (Kn (name:=JF "__getitem__") ht.typeIs E7
  (Kx E7 ht.typeIs Mb ?_ (Mo _ _)))
 show Jk _ _ (K3 (.ref t) >>= _) _ _ s;refine Je (Mg ht ?_);refine Je (KW hTs ?_);rw[if_pos (by decide)];refine Je (sliceApplied_gen hs pl pu ?_);have hno:¬ ((((sIx items.size 0 lo:Nat):Int)==0&&(1:Int)==1&&(sIx items.size items.size hi-sIx items.size 0 lo)==items.size)=true):=by
  intro q;rw[Ei,Ei]at q;have q1:((sIx items.size 0 lo:Nat):Int)=0:=eq_of_beq q.1.1;have q2:sIx items.size items.size hi-sIx items.size 0 lo=items.size:=eq_of_beq q.2;exact hw ⟨by omega,by omega⟩
 show Jk _ _ (if(((sIx items.size 0 lo:Nat):Int)==0&&(1:Int)==1&&(sIx items.size items.size hi-sIx items.size 0 lo)==items.size)=true then _ else _) _ _ s;rw[if_neg hno,pick_gen];first
  | exact Je (m:=Jr _) (Js (Jh ⟨_,rfl,Jh h⟩) htake)
  | exact Je (m:=Jr _) (Js (Je (Jh (Jh ⟨_,rfl,Jh h⟩))) htake)
  | exact Je (Je (m:=Jr _) (Js (Jh (Jh ⟨_,rfl,Jh h⟩)) htake))
  | exact Je (Je (m:=Jr _) (Js (Jh ⟨_,rfl,Jh h⟩) htake))
end
end HT
namespace L2
open PySem PySem.Spec PyProof.Rows
abbrev TO:=St->Hp->(Option Int->Hp->Prop)->Prop
def PO(X:Cx)(e:Option Expr)(t:TO):Prop:=
 ∀(pins:List (Addr×Obj)) (s:Jf) (Z:St) (H:Hp) (Q:Option Int->Hp->Prop),Inv X pins Z H s->t Z H Q →
  Jk (Jj X.prog X.w) X.A (evalPart e X.env) (λu s'=>∃o H',Inv X pins Z H' s'/\Ll u o/\Q o H') X.xe s
def pP:TO:=λ_ H Q=>Q none H
def pQ(t:TE):TO:=λZ H Q=>t Z H λx H1=>∃i,x=.int i/\Q (some i) H1
section
variable {X:Cx}{e:Expr}{te:TE}{lo hi:Option Expr}{tl th:TO}{pos p2:Pos}
theorem wN:PO X none pP:=by
 intro pins s Z H Q I h;rw[Lm];exact Jh ⟨none,H,I,.none,h⟩
theorem lQ(h:PE X e te):PO X (some e) (pQ te):=by
 intro pins s Z H Q I hw;rw[evalPart_some];refine thn (h pins s Z H _ I hw) λu s1 ⟨x,H1,I1,r1,q1⟩=>?_;obtain⟨i,rfl,q⟩:=q1;obtain⟨t,rfl⟩:=r1;exact⟨some i,H1,I1,.int i t,q⟩
def SlR(X:Cx)(r:V->Option Int->Option Int->Hp->VK->Prop):Prop:=
 ∀(pins:List (Addr×Obj)) (s:Jf) (Z:St) (H:Hp) (x:V) (v vl vu:Jd) (lo hi:Option Int) (sl:Addr) (Q:VK),Inv X pins Z H s->RelV x v->s.heap.IsSliceOf sl vl vu .none->Ll vl lo->Ll vu hi->r x lo hi H Q →
  ∃T id,typeLookup (.type T) "__getitem__" = pure (some (.builtin id))/\s.TypeIs v T/\Jk (Jj X.prog X.w) X.A (KU v (.ref sl)) (EP X pins Z Q) X.xe s
theorem SlR.or{r r':V->Option Int->Option Int->Hp->VK->Prop}(h:SlR X r)(h':SlR X r'):SlR X (λx lo hi H Q=>r x lo hi H Q∨r' x lo hi H Q):=by
 intro pins s Z H x v vl vu lo hi sl Q I rx hs pl pu q;rcases q with q|q;exact h pins s Z H x v vl vu lo hi sl Q I rx hs pl pu q;exact h' pins s Z H x v vl vu lo hi sl Q I rx hs pl pu q
def tSl(r:V->Option Int->Option Int->Hp->VK->Prop)(te:TE)(tl th:TO):TE:=λZ H Q=>te Z H λx H1=>tl Z H1 λl H2=>th Z H2 λu H3=>r x l u H3 Q
theorem tJ{r:V->Option Int->Option Int->Hp->VK->Prop}(hr:SlR X r)(he:PE X e te)(hl:PO X lo tl)(hu:PO X hi th):PE X (.Subscript e (.Slice lo hi none p2) pos) (tSl r te tl th):=by
 intro pins s Z H Q I h;refine Mp (thn (he pins s Z H _ I h) λv s1 ⟨x,H1,I1,r1,q1⟩=>?_);refine MW (thn (hl pins s1 Z H1 _ I1 q1) λvl s2 ⟨l,H2,I2,pl,q2⟩=>thn (hu pins s2 Z H2 _ I2 q2) λvu s3 ⟨u,H3,I3,pu,q3⟩=>?_);rw[Lm];refine Jh ?_;have I4:Inv X pins Z H3 {s3 with heap:=s3.heap.push {cls:=.type "slice",data:=.fields #[vl,vu,.none]}}:=I3.kept (t':=s3.toks) λb ob q=>Jg _ q;obtain⟨T,id,hT,ht,hg⟩:=hr pins {s3 with heap:=s3.heap.push {cls:=.type "slice",data:=.fields #[vl,vu,.none]}} Z H3 x v vl vu l u s3.heap.objs.size Q I4 r1 (K4 ..) pl pu q3;show Jk (Jj X.prog X.w) X.A (Ln e (.Slice lo hi none p2) v (.ref s3.heap.objs.size)) (EP X pins Z Q) X.xe {s3 with heap:=s3.heap.push {cls:=.type "slice",data:=.fields #[vl,vu,.none]}};exact NQ (ops:=[.ref s3.heap.objs.size,v]) ht hT hg (by with_unfolding_all rfl)
noncomputable def jN(xs:List V) (lo hi:Option Int):List V:=(xs.drop (HT.sIx xs.length 0 lo)).take (HT.sIx xs.length xs.length hi-HT.sIx xs.length 0 lo)
theorem jm(xs:List V)(lo hi:Option Int):(jN xs lo hi).length<=xs.length:=by
 unfold jN;rw[EZ,Fm];omega
def C6(K:yF):V->Option Int->Option Int->Hp->VK->Prop:=λx lo hi H Q=>∃a xs,x=.ref a/\SqT K H a xs ∧
 ¬ (HT.sIx xs.length 0 lo=0/\HT.sIx xs.length xs.length hi=xs.length)/\∀p,H p=none->Q (.ref p) (upd H p (.tup (jN xs lo hi)))
theorem sl_tup:SlR X (C6 X.K):=by
 intro pins s Z H x v vl vu lo hi sl Q I rx hs pl pu h;obtain⟨a,xs,rfl,hx,hw,q⟩:=h;cases rx;obtain⟨its,r,ht,hz⟩:=I.tuple hx;have hlen:its.toArray.size=xs.length:=by rw[Eh];exact r.length.symm
 refine⟨"tuple",_,E7.lookup,ht.typeIs,?_⟩;refine HT.getItem_tuple_cut ht hs pl pu (by rw[hlen];exact hw) ?_ (by rw[hlen];exact hz);rw[hlen];refine⟨.ref s.heap.objs.size,_,I.laid (t':=s.toks) (o:=.tup (jN xs lo hi)) (λb ob q=>Jg _ q) (Eo _) ?_,rfl,q _ (I.hok.fresh (Eo _))⟩;exact⟨ER (jm xs lo hi) hz,_,(r.drop (HT.sIx xs.length 0 lo)).take (HT.sIx xs.length xs.length hi-HT.sIx xs.length 0 lo),IH.new _ _⟩
def yA(K:yF):R2:=λx y H Q=>∃a b xs ys,x=.ref a/\y=.ref b/\SqT K H a xs/\SqT K H b ys/\xs≠[]/\xs.length+ys.length<=sizeLine ∧
 (ys=[]->Q (.ref a) H)/\(ys≠[]->∀p,H p=none->Q (.ref p) (upd H p (.tup (xs++ys))))
theorem Vals.nil_iff{xs:List V}{us:List Jd}(r:Vals xs us):us=[]↔xs=[]:=by
 cases r with
 | nil=>simp
 | cons _ _=>simp
theorem wu:OpR X (JK .Add) (yA X.K):=by
 intro pins s Z H x y v u Q I rx ry h;obtain⟨a,b,xs,ys,rfl,rfl,ha,hb,hx,hz,q1,q2⟩:=h;cases rx;cases ry;obtain⟨its,r1,p1,_⟩:=I.tuple ha;obtain⟨its2,r2,p2,_⟩:=I.tuple hb;refine HT.cat_tup p1 p2 (λz=>hx (r1.nil_iff.mp z)) (λz=>⟨.ref a,H,I,rfl,q1 (r2.nil_iff.mp z)⟩) (λz=>?_) (by rw[←r1.length,←r2.length];exact hz);refine⟨.ref s.heap.objs.size,_,I.laid (t':=s.toks) (o:=.tup (xs++ys)) (λb ob q=>Jg _ q) (Eo _) ?_,rfl,q2 (λw=>z (r2.nil_iff.mpr w)) _ (I.hok.fresh (Eo _))⟩;exact⟨by rw[Et];exact hz,_,r1.append r2,IH.new _ _⟩
end
noncomputable def ixN(n:Nat) (i:Int):Option Nat:=if 0<=i then(if i<n then some i.toNat else none)else if -(n:Int)<=i then some (i+n).toNat else none
noncomputable def atI{α:Type} (xs:List α) (i:Int):Option α:=(ixN xs.length i).bind λj=>xs[j]?
theorem lK{n:Nat}{i:Int}{j:Nat}(h:ixN n i=some j):NC i n=some j/\j<n/\-(n:Int)<=i/\i<n:=by
 unfold ixN at h;by_cases h0:0<=i
 ·rw[if_pos h0]at h;by_cases h1:i<n
  ·rw[if_pos h1]at h;have e:i.toNat=j:=ET.inj h;exact⟨by rw[MX h0 h1,e],by omega,by omega,h1⟩
  ·rw[if_neg h1]at h;cases h
 ·rw[if_neg h0]at h;by_cases h1 : -(n:Int)<=i
  ·rw[if_pos h1]at h;have e:(i+n).toNat=j:=ET.inj h;exact⟨by rw[seqIndex_neg (by omega) h1,e],by omega,h1,by omega⟩
  ·rw[if_neg h1]at h;cases h
theorem lr{α:Type}{xs:List α}{i:Int}{v : α}(h:atI xs i=some v):∃j,NC i xs.length=some j/\xs[j]?=some v/\j<xs.length/\-(xs.length:Int)<=i/\i<xs.length:=by
 unfold atI at h;cases e:ixN xs.length i with
 | none=>rw[e]at h;cases h
 | some j=>
  rw[e]at h;obtain⟨h1,h2,h3,h4⟩:=lK e;exact⟨j,h1,h,h2,h3,h4⟩
def oY(b:Expr):Prop:=∀o i,LQ b false o i=operate [o,i] (KU o i)
def IxR(X:Cx)(r:R2):Prop:=
 ∀(value slice:Expr) (pins:List (Addr×Obj)) (s:Jf) (Z:St) (H:Hp) (x y:V) (v u:Jd) (Q:VK),Inv X pins Z H s->RelV x v->RelV y u->r x y H Q →
  LQ slice false v u=operate [v,u] (KU v u)->Jk (Jj X.prog X.w) X.A (Ln value slice v u) (EP X pins Z Q) X.xe s
def MtR(X:Cx)(id:String)(r:V->List V->Hp->VK->Prop):Prop:=
 ∀(pins:List (Addr×Obj)) (s:Jf) (Z:St) (H:Hp) (x:V) (xs:List V) (v:Jd) (us:List Jd) (Q:VK),Inv X pins Z H s->RelV x v->Vals xs us->r x xs H Q →
  Jk (Jj X.prog X.w) X.A (call (.builtin id) (v::us)) (EP X pins Z Q) X.xe s
section
variable {X:Cx}{a b:Expr}{ta tb:TE}{pos:Pos}
theorem IxR.or{r r':R2}(h:IxR X r)(h':IxR X r'):IxR X (λx y H Q=>r x y H Q∨r' x y H Q):=by
 intro value slice pins s Z H x y v u Q I rx ry q hs;rcases q with q|q;exact h value slice pins s Z H x y v u Q I rx ry q hs;exact h' value slice pins s Z H x y v u Q I rx ry q hs
theorem MtR.or{id:String}{r r':V->List V->Hp->VK->Prop}(h:MtR X id r)(h':MtR X id r'):MtR X id (λx xs H Q=>r x xs H Q∨r' x xs H Q):=by
 intro pins s Z H x xs v us Q I rx rs q;rcases q with q|q;exact h pins s Z H x xs v us Q I rx rs q;exact h' pins s Z H x xs v us Q I rx rs q
theorem Cn{r:R2}(hr:IxR X r)(ha:PE X a ta)(hb:PE X b tb)(hs:oY b):PE X (.Subscript a b pos) (tOp r ta tb):=by
 intro pins s Z H Q I h;exact Mp (yV ha hb I h λv u s2 x y H2 I2 rx ry q=>hr a b pins s2 Z H2 x y v u Q I2 rx ry q (hs _ _))
def CZ(K:yF):R2:=λx y H Q=>∃p xs i v,x=.ref p/\y=.int i/\SqL K H p xs/\atI xs i=some v/\Q v H
def C1(K:yF):R2:=λx y H Q=>∃p xs i v,x=.ref p/\y=.int i/\SqT K H p xs/\atI xs i=some v/\Q v H
def C0:R2:=λx y H Q=>∃z i c,x=.str z/\y=.int i/\z.length<=sizeLine/\atI z.cps.toList i=some c/\Q (.str ⟨#[c]⟩) H
theorem ix_list:IxR X (CZ X.K):=by
 intro value slice pins s Z H x y v u Q I rx ry h hs;obtain⟨p,xs,i,z,rfl,rfl,hq,he,q⟩:=h;cases rx;obtain⟨t,rfl⟩:=ry;obtain⟨its,r,pl,hz⟩:=I.list hq;obtain⟨j,h1,h2,h3,h4,h5⟩:=lr he;obtain⟨w,ew,rw'⟩:=r.get h2;have hl:=r.length;have hn:=gX;have fin:EP X pins Z Q w s:=⟨z,H,I,rw',q⟩;by_cases h0:0<=i
 ·have hj:i.toNat=j:=by
   rw[MX h0 h5]at h1;exact ET.inj h1
  exact item_listR pl.isList h0 (by omega) (by rw[hj];simpa using ew) fin hs
 ·have hj:(i+(its.toArray.size:Int)).toNat=j:=by
   rw[seqIndex_neg (by omega) h4]at h1;rw[Eh,←hl];exact ET.inj h1
  exact LC (x:=w) pl.isList.typeIs Mz.lookup
   (wpAny_getItem_list_neg (Q:=λr s'=>r=w/\EP X pins Z Q r s') pl.isList (by omega) (by rw[Eh]<;>omega) (by omega) (by rw[hj];simpa using ew) ⟨rfl,fin⟩) hs
theorem ix_tup:IxR X (C1 X.K):=by
 intro value slice pins s Z H x y v u Q I rx ry h hs;obtain⟨p,xs,i,z,rfl,rfl,hq,he,q⟩:=h;cases rx;obtain⟨t,rfl⟩:=ry;obtain⟨its,r,pl,hz⟩:=I.tuple hq;obtain⟨j,h1,h2,h3,h4,h5⟩:=lr he;obtain⟨w,ew,rw'⟩:=r.get h2;have hl:=r.length;have hn:=gX;have fin:EP X pins Z Q w s:=⟨z,H,I,rw',q⟩;exact LC (x:=w) pl.typeIs slot_tuple_getitem.lookup
  (getItem_tuple (j:=j) (Q:=λr s'=>r=w/\EP X pins Z Q r s') pl (by omega) (by omega) (by rw[Eh,←hl];exact h1) (by simpa using ew) ⟨rfl,fin⟩) hs
theorem zp:IxR X C0:=by
 intro value slice pins s Z H x y v u Q I rx ry h hs;obtain⟨z,i,c,rfl,rfl,hz,he,q⟩:=h;obtain⟨t,rfl⟩:=rx;obtain⟨t',rfl⟩:=ry;obtain⟨j,h1,h2,h3,h4,h5⟩:=lr he;have hl:z.cps.toList.length=z.length:=by simp[NV]
 rw[hl]at h1 h4 h5;have hn:=gX;exact NQ (No s z t) slot_str_getitem.lookup (getItem_str (c:=c) (by
  have e1:decide (i < -(2^63:Int))=false:=decide_eq_false (by omega);have e2:decide (i≥2^63)=false:=decide_eq_false (by omega);rw[e1,e2,Bool.or_false]) (by rw[h1];simpa using h2) ⟨.str ⟨#[c]⟩,H,I.tok _,⟨_,rfl⟩,q⟩) hs
def rIx(K:yF):R2:=λx y H Q=>CZ K x y H Q∨C1 K x y H Q∨C0 x y H Q
theorem zo:IxR X (rIx X.K):=ix_list.or (ix_tup.or zp)
theorem n8(its:List Jd)(n j:Nat)(u:Jd):Kj (·.setIfInBounds j u) {cls:=.type "list",data:=.seq its.toArray n}={cls:=.type "list",data:=.seq (its.set j u).toArray n}:=by
 simp[Kj]
theorem Inv.lst{pins:List (Addr×Obj)}{Z:St}{H:Hp}{s:Jf}{p:Addr}{xs:List V}(I:Inv X pins Z H s)(h:H p=some (.lst xs)) :
  ∃(its:List Jd) (n:Nat),Vals xs its/\s.heap.get? p=some {cls:=.type "list",data:=.seq its.toArray n}/\xs.length<=sizeLine:=by
 obtain⟨z,its,n,r,e⟩:=I.hok p _ h;exact⟨its,n,r,e,z⟩
theorem Inv.lstUpd{pins:List (Addr×Obj)}{Z:St}{H:Hp}{s:Jf}{p:Addr}{xs ys:List V}{its its':List Jd}{n n':Nat}{f:Obj->Obj}(I:Inv X pins Z H s)(h:H p=some (.lst xs))
  (ho:s.heap.get? p=some {cls:=.type "list",data:=.seq its.toArray n}) (hf:f {cls:=.type "list",data:=.seq its.toArray n}={cls:=.type "list",data:=.seq its'.toArray n'}) (r:Vals ys its') (hz:ys.length<=sizeLine) (t:Nat) :
  Inv X pins Z (upd H p (.lst ys)) {s with heap:=s.heap.update p f,toks:=t}:=by
 have e:(s.heap.update p f).get? p=some {cls:=.type "list",data:=.seq its'.toArray n'}:=by
  rw[Heap.get?_update_self f ho (by rw[hf]<;>rfl),hf]
 refine I.write (x:=p) (e:=p) (by rw[h];trivial) (.inl rfl) (λb u hb q=>(LD _ _ (JI hb)).trans q) ⟨_,e⟩ ?_;exact⟨hz,its',n',r,e⟩
def yH:V->V->V->Hp->(Hp->Prop)->Prop:=λo i v H Q=>∃p xs k j,o=.ref p/\i=.int k/\H p=some (.lst xs)/\ixN xs.length k=some j/\Q (upd H p (.lst (xs.set j v)))
theorem u7:yR X yH:=by
 intro pins s Z H o i v ov iv u Q I ro ri rv h;obtain⟨p,xs,k,j,rfl,rfl,hp,hj,q⟩:=h;cases ro;obtain⟨t,rfl⟩:=ri;obtain⟨its,n,r,ho,hz⟩:=I.lst hp;obtain⟨h1,h2,h3,h4⟩:=lK hj;have hl:=r.length;have hn:=gX;have I':Inv X pins Z (upd H p (.lst (xs.set j v))) {s with heap:=s.heap.update p (Kj (·.setIfInBounds j u))}:=
  I.lstUpd hp ho (n8 its n j u) (r.set rv j) (by rw[Gc];exact hz) s.toks
 by_cases h0:0<=k
 ·have hk:k.toNat=j:=by
   rw[MX h0 h4]at h1;exact ET.inj h1
  exact PySem.W.ki_setAt ho h0 (by omega) (by rw[Eh,←hl];exact h4) (by rw[hk];exact⟨_,I',q⟩)
 ·have hk:(k+(its.toArray.size:Int)).toNat=j:=by
   rw[seqIndex_neg (by omega) h3]at h1;rw[Eh,←hl];exact ET.inj h1
  exact PySem.W.ki_setBack ho (by omega) (by rw[Eh,←hl];exact h3) (by omega) (by rw[hk];exact⟨_,I',q⟩)
theorem l4(lo hi:Option Int)(n:Nat):(Kc lo hi none n).1=((HT.sIx n 0 lo:Nat):Int)/\(Kc lo hi none n).2.1=((HT.sIx n n hi:Nat):Int)/\(Kc lo hi none n).2.2=1:=by
 refine⟨?_,?_,rfl⟩
 ·cases lo with
  | none=>simp[Kc,HT.sIx]
  | some i=>
   simp only[Kc,HT.sIx,GS,show(1:Int)>0 by decide,if_true];by_cases h:i<0;simp only[h,if_true]<;>omega;simp only[h,if_false]<;>omega
 ·cases hi with
  | none=>simp[Kc,HT.sIx]
  | some i=>
   simp only[Kc,HT.sIx,GS,show(1:Int)>0 by decide,if_true];by_cases h:i<0;simp only[h,if_true]<;>omega;simp only[h,if_false]<;>omega
theorem kw(its:List Jd)(lo hi:Option Int):slicePick its.toArray lo hi none=((its.drop (HT.sIx its.length 0 lo)).take (HT.sIx its.length its.length hi-HT.sIx its.length 0 lo)).toArray:=by
 obtain⟨h1,h2,h3⟩:=l4 lo hi its.toArray.size;unfold slicePick;rw[h1,h2,h3];simp only[Np,NP,Eh]<;>rfl
def C5(K:yF):V->Option Int->Option Int->Hp->VK->Prop:=λx lo hi H Q=>∃a xs,x=.ref a/\SqL K H a xs/\∀p,H p=none->Q (.ref p) (upd H p (.lst (jN xs lo hi)))
theorem sl_list:SlR X (C5 X.K):=by
 intro pins s Z H x v vl vu lo hi sl Q I rx hs pl pu h;obtain⟨a,xs,rfl,hx,q⟩:=h;cases rx;obtain⟨its,r,ht,hz⟩:=I.list hx;have hlen:=r.length;refine⟨"list",_,Mz.lookup,ht.isList.typeIs,?_⟩;refine wpAny_getItem_list_slice ht.isList hs pl pu .none (by simp) ?_ (by rw[Eh]<;>omega);rw[kw,←hlen];refine⟨.ref s.heap.objs.size,_,I.laid (t':=s.toks) (o:=.lst (jN xs lo hi)) (λb ob q=>Jg _ q) (Eo _) ?_,rfl,q _ (I.hok.fresh (Eo _))⟩;exact⟨ER (jm xs lo hi) hz,_,0,(r.drop (HT.sIx xs.length 0 lo)).take (HT.sIx xs.length xs.length hi-HT.sIx xs.length 0 lo),Jn _ rfl⟩
noncomputable def jq:V->Bool
 | .non=>true
 | .bl _=>true
 | .int _=>true
 | .str _=>true
 | _=>false
noncomputable def eqV:V->V->Bool
 | .non,.non=>true
 | .bl a,.bl b=>a==b
 | .bl a,.int b=>(if a then 1 else 0)==b
 | .int a,.bl b=>a==(if b then 1 else 0)
 | .int a,.int b=>a==b
 | .str a,.str b=>a==b
 | _,_=>false
theorem y6{A:Jw}{s:Jf}{y x:V}{u v:Jd}(ry:RelV y u)(rx:RelV x v)(fy:jq y=true)(fx:jq x=true):Jz A s u v (eqV y x):=by
 cases y with
 | non=>
  cases ry;cases x with
  | non=>cases rx;exact Jz.same _
  | bl b=>cases rx;exact Jz.none_bool b
  | int b=>obtain⟨t,rfl⟩:=rx;exact Jz.none_int b t
  | str b=>obtain⟨t,rfl⟩:=rx;exact Jz.none_str b t
  | _=>exact absurd (show false=true from fx) EA
 | bl a=>
  cases ry;cases x with
  | non=>cases rx;exact Jz.bool_none a
  | bl b=>cases rx;exact Jz.bool_bool a b
  | int b=>obtain⟨t,rfl⟩:=rx;exact Jz.bool_int a b t
  | str b=>obtain⟨t,rfl⟩:=rx;exact Jz.bool_str a b t
  | _=>exact absurd (show false=true from fx) EA
 | int a=>
  obtain⟨t',rfl⟩:=ry;cases x with
  | non=>cases rx;exact Jz.int_none a t'
  | bl b=>cases rx;exact Jz.int_bool a t' b
  | int b=>obtain⟨t,rfl⟩:=rx;exact Jz.int_int a t' b t
  | str b=>obtain⟨t,rfl⟩:=rx;exact Mj a t' b t
  | _=>exact absurd (show false=true from fx) EA
 | str a=>
  obtain⟨t',rfl⟩:=ry;cases x with
  | non=>cases rx;exact Jz.str_none a t'
  | bl b=>cases rx;exact Jz.str_bool a t' b
  | int b=>obtain⟨t,rfl⟩:=rx;exact Mk a t' b t
  | str b=>obtain⟨t,rfl⟩:=rx;exact Jz.str_str a t' b t
  | _=>exact absurd (show false=true from fx) EA
 | _=>exact absurd (show false=true from fy) EA
noncomputable def eqU(x:V) (u:Jd):Bool:=match u with
 | .none=>eqV .non x
 | .bool b=>eqV (.bl b) x
 | .int i _=>eqV (.int i) x
 | .str z _=>eqV (.str z) x
 | _=>false
theorem se{x y:V}{u:Jd}(r:RelV y u)(f:jq y=true):eqU x u=eqV y x:=by
 cases y with
 | non=>cases r;rfl
 | bl b=>cases r;rfl
 | int i=>obtain⟨t,rfl⟩:=r;rfl
 | str z=>obtain⟨t,rfl⟩:=r;rfl
 | _=>exact absurd (show false=true from f) EA
theorem ie{x:V}:∀{xs:List V} {us:List Jd},Vals xs us->xs.all jq=true->us.any (eqU x)=xs.any λy=>eqV y x
 | _,_,.nil,_=>rfl
 | y::xs,u::us,.cons r t,f=>by
  rw[Fs,Ei]at f;rw[GN,GN,se r f.1,ie t f.2]
theorem fY{A:Jw}{s:Jf}{x:V}{v:Jd}(rx:RelV x v)(fx:jq x=true):∀{xs:List V} {us:List Jd},Vals xs us->xs.all jq=true->∀u∈us,Jz A s u v (eqU x u)
 | _,_,.nil,_=>λu hu=>by cases hu
 | y::xs,u::us,.cons r t,f=>λu' hu=>by
  rw[Fs,Ei]at f;rcases ycM hu with rfl|hu;rw[se r f.1];exact y6 r rx f.1 fx;exact fY rx fx t f.2 u' hu
noncomputable def inV(x:V) (xs:List V):Bool:=xs.any λy=>eqV y x
def rIn(K:yF)(neg:Bool):R2:=λx y H Q=>∃p xs,y=.ref p/\(SqL K H p xs∨SqT K H p xs)/\jq x=true/\xs.all jq=true/\Q (.bl (if neg then !inV x xs else inV x xs)) H
theorem op_in_seq:OpR X (JE .In) (rIn X.K false):=by
 intro pins s Z H x y v u Q I rx ry h;obtain⟨p,xs,rfl,hq,fx,fs,q⟩:=h;cases ry;rcases hq with hq|hq
 ·obtain⟨its,r,pl,hz⟩:=I.list hq;refine MZ (eqU x) pl.isList (λw hw=>fY rx fx r fs w (by simpa using hw)) ⟨.bl _,H,I,rfl,?_⟩;rw[show its.toArray.any (eqU x)=its.any (eqU x) by simp,ie r fs];exact q
 ·obtain⟨its,r,pl,hz⟩:=I.tuple hq;refine MQ (eqU x) pl (λw hw=>fY rx fx r fs w (by simpa using hw)) ⟨.bl _,H,I,rfl,?_⟩;rw[show its.toArray.any (eqU x)=its.any (eqU x) by simp,ie r fs];exact q
theorem op_notIn_seq:OpR X (JE .NotIn) (rIn X.K true):=by
 intro pins s Z H x y v u Q I rx ry h;obtain⟨p,xs,rfl,hq,fx,fs,q⟩:=h;cases ry;rcases hq with hq|hq
 ·obtain⟨its,r,pl,hz⟩:=I.list hq;refine Mq (eqU x) pl.isList (λw hw=>fY rx fx r fs w (by simpa using hw)) ⟨.bl _,H,I,rfl,?_⟩;rw[show its.toArray.any (eqU x)=its.any (eqU x) by simp,ie r fs];exact q
 ·obtain⟨its,r,pl,hz⟩:=I.tuple hq;refine Mc (eqU x) pl (λw hw=>fY rx fx r fs w (by simpa using hw)) ⟨.bl _,H,I,rfl,?_⟩;rw[show its.toArray.any (eqU x)=its.any (eqU x) by simp,ie r fs];exact q
theorem op_notIn_str:OpR X (JE .NotIn) (λx y H Q=>∃i j,x=.str i/\y=.str j/\Q (.bl (!(!(JS j i 0 j.length 1).isEmpty))) H):=by
 intro pins s Z H x y v u Q I rx ry h;obtain⟨i,j,rfl,rfl,q⟩:=h;obtain⟨t,rfl⟩:=rx;obtain⟨t',rfl⟩:=ry;exact notIn_str ⟨.bl _,H,I,rfl,q⟩
theorem lv:ID X (.builtin "len") (λxs H Q=>∃p ys,xs=[.ref p]/\(SqL X.K H p ys∨SqT X.K H p ys)/\Q (.int ys.length) H):=by
 intro pins s Z H xs us Q I r h;obtain⟨p,ys,rfl,hq,q⟩:=h;obtain⟨u,rfl,rx⟩:=gp r;cases rx;have hn:=gX;rcases hq with hq|hq
 ·obtain⟨its,r',pl,hz⟩:=I.list hq;have hlen:=r'.length;exact Calls.call_len_list pl.isList (by simp only[Eh]<;>omega) ⟨.int ys.length,H,I.tok _,⟨s.toks+1,by rw[Eh,hlen]⟩,q⟩
 ·obtain⟨its,r',pl,hz⟩:=I.tuple hq;have hlen:=r'.length;exact len_tuple pl (by simp only[Eh]<;>omega) ⟨.int ys.length,H,I.tok _,⟨s.toks+1,by rw[Eh,hlen]⟩,q⟩
theorem lw:ID X (.builtin "len") (λxs H Q=>∃z,xs=[.str z]/\z.length<=sizeLine/\Q (.int z.length) H):=by
 intro pins s Z H xs us Q I r h;obtain⟨z,rfl,hz,q⟩:=h;obtain⟨u,rfl,t,rfl⟩:=gp r;have hn:=gX;exact len_str (by omega) ⟨.int z.length,H,I.tok _,⟨_,rfl⟩,q⟩
theorem ID.or{f:Jd}{r r':List V->Hp->VK->Prop}(h:ID X f r)(h':ID X f r'):ID X f (λxs H Q=>r xs H Q∨r' xs H Q):=by
 intro pins s Z H xs us Q I rs q;rcases q with q|q;exact h pins s Z H xs us Q I rs q;exact h' pins s Z H xs us Q I rs q
theorem lx:ID X (.type "list") (λxs H Q=>∃p ys,xs=[.ref p]/\(SqL X.K H p ys∨SqT X.K H p ys)/\∀l,H l=none->Q (.ref l) (upd H l (.lst ys))):=by
 intro pins s Z H xs us Q I r h;obtain⟨p,ys,rfl,hq,q⟩:=h;obtain⟨u,rfl,rx⟩:=gp r;cases rx;have fin:∀(its:List Jd),Vals ys its->ys.length<=sizeLine->∀(h':Heap) (c':Nat),(∀b o',s.heap.get? b=some o'->h'.get? b=some o') →
   h'.get? s.heap.objs.size=some {cls:=.type "list",dict:=none,data:=.seq its.toArray c',slots:=#[]}->EP X pins Z Q (.ref s.heap.objs.size) {s with heap:=h'}:=λits r' hz h' c' kp e=>
  ⟨.ref s.heap.objs.size,_,I.laid (t':=s.toks) kp (Eo _) (show Iz X.prog X.w _ h' _ (.lst ys)from⟨hz,its,c',r',e⟩),rfl,q _ (I.hok.fresh (Eo _))⟩
 rcases hq with hq|hq
 ·obtain⟨its,r',pl,hz⟩:=I.list hq;have hlen:=r'.length;obtain⟨o,ho,hc,n,hd⟩:=pl.isList;exact call_list_seq p (.inl rfl) ho hc hd (λh' c' kp e=>fin its r' hz h' c' kp e) (by simp only[Eh]<;>omega)
 ·obtain⟨its,r',pl,hz⟩:=I.tuple hq;have hlen:=r'.length;obtain⟨o,ho,hc,n,hd⟩:=pl;exact call_list_seq p (.inr rfl) ho hc hd (λh' c' kp e=>fin its r' hz h' c' kp e) (by simp only[Eh]<;>omega)
theorem kf:ID X (.type "tuple") (λxs H Q=>∃p ys,xs=[.ref p]/\((SqL X.K H p ys/\∀l,H l=none->Q (.ref l) (upd H l (.tup ys)))∨(SqT X.K H p ys/\Q (.ref p) H))):=by
 intro pins s Z H xs us Q I r h;obtain⟨p,ys,rfl,h⟩:=h;obtain⟨u,rfl,rx⟩:=gp r;cases rx;rcases h with⟨hq,q⟩|⟨hq,q⟩
 ·obtain⟨its,r',pl,hz⟩:=I.list hq;have hlen:=r'.length;refine call_tuple_list pl.isList (λh' kp=>?_) (by simp only[Eh]<;>omega);have I1:Inv X pins Z H {s with heap:=h'}:=I.kept (t':=s.toks) kp;have I2:Inv X pins Z (upd H h'.objs.size (.tup ys)) {s with heap:=h'.push {cls:=.type "tuple",data:=.seq its.toArray}}:=
   I1.laid (t':=s.toks) (λb o e=>Jg _ e) (Eo _) (show Iz X.prog X.w _ _ _ (.tup ys)from⟨hz,its,r',IH.new _ _⟩)
  exact⟨.ref h'.objs.size,_,I2,rfl,q _ (I1.hok.fresh (Eo _))⟩
 ·obtain⟨its,r',pl,hz⟩:=I.tuple hq;exact call_tuple_same pl ⟨.ref p,H,I,rfl,q⟩
def tyV(K:yF)(T:String)(x:V)(H:Hp):Prop:=match x with
 | .str _=>T = "str"
 | .int _=>T = "int"
 | .ref p=>(T = "list" ∧ ∃xs,SqL K H p xs)∨(T = "tuple" ∧ ∃o,K.lookup p=some o/\o.cls=.type "tuple" ∧ o.dict=none) ∨
   (T = "dict" ∧ ((∃kvs,H p=some (.dK kvs)) ∨ ∃kvs,H p=some (.dT kvs)))∨(T = "set" ∧ ∃S n,H p=some (.set S n))
 | _=>False
theorem vg{pins:List (Addr×Obj)}{Z:St}{H:Hp}{s:Jf}{T:String}{x:V}{v:Jd}(I:Inv X pins Z H s)(r:RelV x v)(ty:tyV X.K T x H) :
  s.TypeIs v T/\∀a,v=.ref a->∃ob,s.heap.get? a=some ob/\ob.dict=none:=by
 cases x with
 | str z=>
  obtain⟨t,rfl⟩:=r;cases (show T = "str" from ty);exact⟨No s z t,λ_ e=>nomatch e⟩
 | int i=>
  obtain⟨t,rfl⟩:=r;cases (show T = "int" from ty);exact⟨Ky s i t,λ_ e=>nomatch e⟩
 | ref p=>
  cases r;rcases ty with⟨rfl,xs,hq⟩|⟨rfl,o,hk,hc,hd⟩|⟨rfl,hk⟩|⟨rfl,S,n,hk⟩
  ·obtain⟨its,_,pl,_⟩:=I.list hq;refine⟨pl.isList.typeIs,λa e=>?_⟩;cases e;obtain⟨o,n,e,c,hd,_⟩:=pl;exact⟨o,e,hd⟩
  ·refine⟨⟨o,I.kIn p o hk,hc⟩,λa e=>?_⟩;cases e;exact⟨o,I.kIn _ o hk,hd⟩
  ·have z:∃o,s.heap.get? p=some o/\o.ExactDict:=by
    rcases hk with⟨kvs,hk⟩|⟨kvs,hk⟩
    ·obtain⟨_,_,_,_,o,_,_,e,ex,_⟩:=I.hok p _ hk;exact⟨o,e,ex⟩
    ·obtain⟨_,_,_,_,o,_,_,e,ex,_⟩:=I.hok p _ hk;exact⟨o,e,ex⟩
   obtain⟨o,e,ex⟩:=z;refine⟨⟨o,e,ex.1⟩,λa e2=>?_⟩;cases e2;exact⟨o,e,ex.2.1⟩
  ·obtain⟨o,_,_,_,e,ex,_⟩:=I.hok p _ hk;refine⟨⟨o,e,ex.1⟩,λa e2=>?_⟩;cases e2;exact⟨o,e,ex.2.1⟩
 | _=>exact Ke ty
def Bf(K:yF)(T:String)(r:V->List V->Hp->VK->Prop)(to:TE):TE:=λZ H Q=>to Z H λx H1=>tyV K T x H1/\r x [] H1 Q
def tBM(K:yF)(T:String)(r:V->List V->Hp->VK->Prop)(to:TE)(t:TA):TE:=λZ H Q=>to Z H λx H1=>tyV K T x H1/\t Z H1 λxs H2=>r x xs H2 Q
variable {o e:Expr}{es:List Expr}{to:TE}{t:TA}{name:Str}{apos cpos:Pos}{T id:String}{r:V->List V->Hp->VK->Prop}
theorem Ae(pa:Kz T)(slot:Slot T name id)(hty:Mr (.builtin id)=pure (.type "method_descriptor"))(hm:MtR X id r)(ho:PE X o to)
  (hbase:JU o name X.env (eval o X.env)=eval o X.env:=by rfl) (hline:(apos.endLine==cpos.line)=true:=by rfl):PE X (.Call (.Attribute o name apos) [] [] cpos) (Bf X.K T r to):=by
 intro pins s Z H Q I h;refine wpAny_Call_method0_late hbase hline (thn (ho pins s Z H _ I h) λv s1 ⟨x,H1,I1,r1,ty,q1⟩=>?_);obtain⟨h1,h2⟩:=vg I1 r1 ty;exact⟨T,id,pa,slot,hty,h1,h2,LF rfl (PySem.evalArgs_none (hm pins s1 Z H1 x [] v [] Q I1 r1 .nil q1))⟩
theorem Ck(pa:Kz T)(slot:Slot T name id)(hty:Mr (.builtin id)=pure (.type "method_descriptor"))(hm:MtR X id r)(ho:PE X o to)(ha:PA X (e::es) t)
  (hbase:JU o name X.env (eval o X.env)=eval o X.env:=by rfl)
  (hfew:((Kq cpos (Jv (e::es) X.env)).all (λx=>!x.1)&&(backToKw cpos (keywordEach [] X.env)).all (λx=>x.1.isSome)
   && decide ((e::es).length+([]:List M9).length+(if([]:List M9).isEmpty then 0 else 1)<30))=true:=by rfl)
  (hline:(apos.endLine==cpos.line)=true:=by rfl) (hs:Jv (e::es) X.env=(false,eval e X.env)::Jv es X.env:=by rfl) (hplain:(Kq cpos (Jv es X.env)).any (·.1)=false:=by rfl) :
  PE X (.Call (.Attribute o name apos) (e::es) [] cpos) (tBM X.K T r to t):=by
 intro pins s Z H Q I h;refine wpAny_Call_method_late hbase hfew hline rfl (thn (ho pins s Z H _ I h) λv s1 ⟨x,H1,I1,r1,ty,q1⟩=>?_);obtain⟨h1,h2⟩:=vg I1 r1 ty;refine⟨T,id,pa,slot,hty,h1,h2,?_⟩;have hA:=ha cpos pins s1 Z H1 _ I1 q1;rw[hs]at hA⊢;refine LF (by show(false||(Kq cpos (Jv es X.env)).any (·.1))=false;rw[hplain]<;>rfl) (Calls.evalArgs_plain ?_);exact thn hA λus s2 ⟨vs,H2,I2,r2,q2⟩=>hm pins s2 Z H2 x vs v us Q I2 r1 r2 q2
end
def MtM(X:Cx)(id:String)(r:V->List V->Hp->VK->Prop):Prop:=
 ∀(pins:List (Addr×Obj)) (s:Jf) (Z:St) (H:Hp) (x:V) (xs:List V) (v:Jd) (us:List Jd) (Q:VK),Inv X pins Z H s->RelV x v->Vals xs us->r x xs H Q →
  Jk (Jj X.prog X.w) X.A (call (.builtin id) (v::us)) (EP X pins Z Q) X.xe s
theorem Vals.one:∀{x:V} {us:List Jd},Vals [x] us->∃u,us=[u]/\RelV x u
 | _,_,.cons r .nil=>⟨_,rfl,r⟩
theorem Vals.zero:∀{us:List Jd},Vals [] us->us=[]
 | _,.nil=>rfl
theorem Vals.dropLast{xs:List V}{us:List Jd}(h:Vals xs us):Vals xs.dropLast us.dropLast:=by
 induction h with
 | nil=>exact .nil
 | cons r t ih=>
  cases t with
  | nil=>exact .nil
  | cons q t'=>exact .cons r ih
theorem Vals.eraseIdx:∀{xs:List V} {us:List Jd} (i:Nat),Vals xs us->Vals (xs.eraseIdx i) (us.eraseIdx i)
 | _,_,_,.nil=>.nil
 | _,_,0,.cons _ t=>t
 | _,_,i+1,.cons r t=>.cons r (Vals.eraseIdx i t)
theorem Vals.reverse{xs:List V}{us:List Jd}(h:Vals xs us):Vals xs.reverse us.reverse:=by
 induction h with
 | nil=>exact .nil
 | cons r t ih=>rw[F4,F4];exact Vals.append ih (.cons r .nil)
theorem Vals.rep{xs:List V}{us:List Jd}(h:Vals xs us):∀k:Nat,Vals (El k xs).flatten (El k us).flatten
 | 0=>.nil
 | k+1=>by
  rw[E3,E3,Fu,Fu];exact Vals.append h (Vals.rep h k)
theorem nO{α:Type}(l:List α):l.eraseIdx (l.length-1)=l.dropLast:=by
 induction l with
 | nil=>rfl
 | cons a r ih=>
  cases r with
  | nil=>rfl
  | cons b r=>
   have e:(a::b::r).length-1=((b::r).length-1)+1:=by
    have h1:(a::b::r).length=r.length+2:=rfl;have h2:(b::r).length=r.length+1:=rfl;omega
   rw[e,Fn,ih];all_goals rfl
theorem iW{α:Type}:∀(l:List α) (i:Nat),(l.eraseIdx i).length<=l.length
 | [],_=>Eo _
 | _::_,0=>HX _
 | _::r,i+1=>HR (iW r i)
theorem eM(its:List Jd):∀(k:Nat) (acc:List Jd),
  G4 (λx1 x2=>x1++x2) acc.toArray (El k its.toArray)=(acc++(El k its).flatten).toArray
 | 0,acc=>by simp
 | k+1,acc=>by
  have e:acc.toArray++its.toArray=(acc++its).toArray:=by simp
  have e2:(acc++its)++(El k its).flatten=acc++(El (k+1) its).flatten:=by
   rw[E3,Fu,Eu]
  rw[←e2,←eM its k (acc++its),←e,E3,Fj]
section
variable {X:Cx}{pins:List (Addr×Obj)}{Z:St}{H:Hp}{s:Jf}{l b:Addr}{xs ys zs:List V}
theorem Inv.lset{its its':List Jd}{n:Nat}{f:Array Jd->Array Jd}{t':Nat}(I:Inv X pins Z H s)(hH:H l=some (.lst xs))
  (e:s.heap.get? l=some {cls:=.type "list",data:=.seq its.toArray n}) (hf:f its.toArray=its'.toArray) (hv:Vals ys its') (hz:ys.length<=sizeLine) :
  Inv X pins Z (upd H l (.lst ys)) {s with heap:=s.heap.update l (Kj f),toks:=t'}:=by
 have q:=PySem.IsL.update e f;rw[hf]at q;refine I.write (x:=l) (e:=l) (by rw[hH];exact trivial) (.inl rfl) (λb' u hb hu=>(LD s.heap (Kj f) (JI hb)).trans hu) ⟨_,q⟩ ?_;exact⟨hz,its',_,hv,q⟩
theorem Inv.lnew{its:List Jd}{t':Nat}(I:Inv X pins Z H s)(hv:Vals ys its)(hz:ys.length<=sizeLine) :
  Inv X pins Z (upd H s.heap.objs.size (.lst ys)) {s with heap:=s.heap.push {cls:=.type "list",data:=.seq its.toArray},toks:=t'}:=
 I.laid (λ_ _ q=>Jg _ q) (Eo _) ⟨hz,its,0,hv,Jn _ rfl⟩
theorem Inv.fresh(I:Inv X pins Z H s):H s.heap.objs.size=none:=I.hok.fresh (Eo _)
theorem Inv.lstM(I:Inv X pins Z H s)(hH:H l=some (.lst xs)):xs.length<=sizeLine/\∃(its:List Jd) (n:Nat),Vals xs its/\xs.length=its.length/\s.heap.get? l=some {cls:=.type "list",data:=.seq its.toArray n}:=by
 obtain⟨z,its,n,r,e⟩:=I.hok l _ hH;exact⟨z,its,n,r,r.length,e⟩
theorem dF{n:Nat}(h:n<=sizeLine):JC n=false:=by
 unfold JC;exact decide_eq_false (by omega)
end
section
variable {X:Cx}
def lR:V->List V->Hp->VK->Prop:=λx vs H Q=>∃l xs y,x=.ref l/\vs=[y]/\H l=some (.lst xs)/\xs.length<sizeLine/\Q .non (upd H l (.lst (xs++[y])))
theorem qx:MtM X "list.append" lR:=by
 intro pins s Z H x vs v us Q I rx rv h;obtain⟨l,xs,y,rfl,rfl,hH,hz,q⟩:=h;cases rx;obtain⟨u,rfl,ru⟩:=rv.one;obtain⟨z,its,n,r,hl,e⟩:=I.lstM hH;refine JO F.slot_list_append ⟨_,e,rfl⟩ F.entry_list_append (F.args_list_append_2 _ _) (PySem.list_append l its.toArray n u (by rw[Eh];omega)) ⟨e,?_⟩;refine⟨.non,_,I.lset (its':=its++[u]) hH e (by simp) (r.append (.cons ru .nil)) ?_,rfl,q⟩;rw[Et,FX];omega
def xp:V->List V->Hp->VK->Prop:=λx vs H Q=>∃l b xs zs,x=.ref l/\vs=[.ref b]/\H l=some (.lst xs)/\H b=some (.lst zs)/\xs.length+zs.length<=sizeLine/\Q .non (upd H l (.lst (xs++zs)))
theorem mt_extend:MtM X "list.extend" xp:=by
 intro pins s Z H x vs v us Q I rx rv h;obtain⟨l,b,xs,zs,rfl,rfl,hH,hB,hz,q⟩:=h;cases rx;obtain⟨u,rfl,ru⟩:=rv.one;cases ru;obtain⟨z,its,n,r,hl,e⟩:=I.lstM hH;obtain⟨z2,its2,n2,r2,hl2,e2⟩:=I.lstM hB;have hsz:its.toArray.size+its2.toArray.size<=sizeLine:=by rw[Eh,Eh];omega
 have hlong:¬ (!its.toArray.isEmpty&&JC (its.toArray.size+its2.toArray.size))=true:=by
  rw[dF hsz,GD];exact EA
 refine JO K6 ⟨_,e,rfl⟩ KR (KG _ _)
  (Kr l its.toArray n b its2.toArray n2 hlong (by rw[Eh];omega) (by omega)) ⟨e,e2,?_⟩
 refine⟨.non,_,I.lset (its':=its++its2) hH e (by simp) (r.append r2) ?_,rfl,q⟩;rw[Et];omega
def AZ:V->List V->Hp->VK->Prop:=λx vs H Q=>∃l xs y,x=.ref l/\vs=[]/\H l=some (.lst xs)/\xs[xs.length-1]?=some y/\Q y (upd H l (.lst xs.dropLast))
theorem zA:MtM X "list.pop" AZ:=by
 intro pins s Z H x vs v us Q I rx rv h;obtain⟨l,xs,y,rfl,rfl,hH,hy,q⟩:=h;cases rx;have hus:=rv.zero;subst hus;obtain⟨z,its,n,r,hl,e⟩:=I.lstM hH;obtain⟨u,hu,ru⟩:=r.get hy;have hy':its.toArray[its.toArray.size-1]?=some u:=by
  show its.toArray[its.length-1]?=some u;rw[←Gp,←hl];exact hu
 refine JO M0 ⟨_,e,rfl⟩ MR (F.args_list_pop_1 _) (MeetsSeq.list_pop_last l its.toArray n u hy' (by rw[Eh];omega)) ⟨e,?_⟩;refine⟨y,_,I.lset (its':=its.dropLast) hH e ?_ r.dropLast ?_,ru,q⟩
 ·show its.toArray.eraseIdxIfInBounds (its.toArray.size-1)=its.dropLast.toArray;rw[Eh,FO,nO]
 ·rw[List.length_dropLast];omega
def ou:V->List V->Hp->VK->Prop:=λx vs H Q=>∃l xs i k y,x=.ref l/\vs=[.int i]/\H l=some (.lst xs)/\-(2^63)<=i/\i<2^63/\NC i xs.length=some k/\xs[k]?=some y/\Q y (upd H l (.lst (xs.eraseIdx k)))
theorem sO:MtM X "list.pop" ou:=by
 intro pins s Z H x vs v us Q I rx rv h;obtain⟨l,xs,i,k,y,rfl,rfl,hH,h1,h2,hk,hy,q⟩:=h;cases rx;obtain⟨u,rfl,ru⟩:=rv.one;obtain⟨t,rfl⟩:=ru;obtain⟨z,its,n,r,hl,e⟩:=I.lstM hH;obtain⟨w,hw,rw'⟩:=r.get hy;refine JO M0 ⟨_,e,rfl⟩ MR (F.args_list_pop_2 _ _)
  (MeetsSeq.list_pop_at l its.toArray n i t k w (La h1 h2) (by rw[Eh,←hl];exact hk) (by rw[←Gp];exact hw) (by rw[Eh];omega)) ⟨e,?_⟩
 refine⟨y,_,I.lset (its':=its.eraseIdx k) hH e ?_ (r.eraseIdx k) ?_,rw',q⟩
 ·show its.toArray.eraseIdxIfInBounds k=(its.eraseIdx k).toArray;rw[FO]
 ·have:=iW xs k;omega
def CV:R2:=λx y H Q=>∃l b xs zs,x=.ref l/\y=.ref b/\H l=some (.lst xs)/\H b=some (.lst zs)/\xs.length+zs.length<=sizeLine/\∀p,H p=none->Q (.ref p) (upd H p (.lst (xs++zs)))
theorem op_cat:OpR X (JK .Add) CV:=by
 intro pins s Z H x y v u Q I rx ry h;obtain⟨l,b,xs,zs,rfl,rfl,hH,hB,hz,q⟩:=h;cases rx;cases ry;obtain⟨z,its,n,r,hl,e⟩:=I.lstM hH;obtain⟨z2,its2,n2,r2,hl2,e2⟩:=I.lstM hB;refine PySem.P.add_list e e2 ?_ (by rw[Eh,Eh];omega);have ea:its.toArray++its2.toArray=(its++its2).toArray:=by simp
 rw[ea];exact⟨.ref _,_,I.lnew (t':=s.toks) (r.append r2) (by rw[Et];omega),rfl,q _ I.fresh⟩
def C4:R2:=λx y H Q=>∃l k xs,x=.ref l/\y=.int k/\H l=some (.lst xs)/\-(2^63)<=k/\k<2^63/\xs.length*k.toNat<=sizeLine ∧
 ∀p,H p=none->Q (.ref p) (upd H p (.lst (El k.toNat xs).flatten))
theorem iy{α:Type}(xs:List α)(k:Nat):(El k xs).flatten.length=k*xs.length:=by
 induction k with
 | zero=>simp
 | succ k ih=>rw[E3,Fu,Et,ih,Nat.succ_mul,Nat.add_comm]
theorem op_rep:OpR X (JK .Mult) C4:=by
 intro pins s Z H x y v u Q I rx ry h;obtain⟨l,k,xs,rfl,rfl,hH,h1,h2,hz,q⟩:=h;cases rx;obtain⟨t,rfl⟩:=ry;obtain⟨z,its,n,r,hl,e⟩:=I.lstM hH;have hlen:its.toArray.size*k.toNat<=sizeLine:=by rw[Eh,←hl];exact hz
 have hcap:¬ its.toArray.size*k.toNat>(2^63-1) / 8:=by
  have:(sizeLine:Nat)<=(2^63-1) / 8:=by decide
  omega
 have hfit:¬ (!Builtin.List.listFitsIndex k)=true:=by
  rw[La h1 h2];exact EA
 have hlong:¬ JC (its.toArray.size*k.toNat)=true:=by
  rw[dF hlen];exact EA
 have hnew:G4 (λx1 x2=>x1++x2) #[] (El (if its.toArray.isEmpty=true then 0 else k.toNat) its.toArray)=(El k.toNat its).flatten.toArray:=by
  have f0:∀m:Nat,G4 (λx1 x2=>x1++x2) #[] (El m its.toArray)=(El m its).flatten.toArray:=λm=>by
   have:=eM its m [];rw[Fx]at this;exact this
  rw[f0];cases its with
  | nil=>simp
  | cons a r'=>rw[if_neg (by simp)]
 refine Km (T:="list") (U:="int") (by decide) ⟨_,e,rfl⟩ (λs'=>Ky s' k t) M1 LJ Kg repeat_list Ls.lookup
  (JO Kg (Ky s k t) Lu (Li _ _) (LN k t l its.toArray n)
   ⟨e,rfl,⟨_,e,rfl⟩,JO M3 ⟨_,e,rfl⟩ MU (MB _ _) (Ko l its.toArray n k t hfit hcap hlong) ⟨e,?_⟩⟩)
 rw[hnew];exact⟨.ref _,_,I.lnew (t':=s.toks) (r.rep k.toNat) (by rw[iy,HG];exact hz),rfl,q _ I.fresh⟩
end
section
variable {prog:Jq}{w:JB}{A:Jw}{E:Jd->Jf->Prop}{s:Jf}
theorem rm(its its2:List Jd)(a c:Nat):its.toArray.extract 0 a++its2.toArray++its.toArray.extract c its.toArray.size=(its.take a++its2++its.drop c).toArray:=by
 apply Array.toList_inj.mp;first
  | (simp
     exact EG (by simp))
  | simp[EG]
  | simp
theorem nK{a c n:Nat}(hac:a<=c)(hc:c<=n):Kc (some (a:Int)) (some (c:Int)) none n=((a:Int),(c:Int),1):=by
 simp only[Kc,GS];have h1:¬ ((a:Int)<0):=by omega
 have h2:¬ ((c:Int)<0):=by omega
 simp only[h1,h2,if_false,show(1:Int)>0 by decide,if_true];congr 1;omega;congr 1;omega
set_option maxRecDepth 100000 in
theorem ku{l b sl:Addr}{items new:Array Jd}{n n2:Nat}{vl vu:Jd}{a c:Nat}{Q:Unit->Jf->Prop}
  (e:s.heap.get? l=some {cls:=.type "list",data:=.seq items n}) (e2:s.heap.get? b=some {cls:=.type "list",data:=.seq new n2}) (hne:l≠b)
  (hs:s.heap.IsSliceOf sl vl vu .none) (pl:Ll vl (some (a:Int))) (pu:Ll vu (some (c:Int))) (hac:a<=c) (hc:c<=items.size)
  (hsz:items.size+new.size<=sizeLine) (h:Q () {s with heap:=s.heap.update l (Kj λxs=>xs.extract 0 a++new++xs.extract c xs.size)}) :
  Jk (Jj prog w) A (Lg (.ref l) (.ref sl) (.ref b)) Q E s:=by
 have hl:s.heap.IsList l items:=PySem.IsL.isList e;have hb:s.heap.IsList b new:=PySem.IsL.isList e2;obtain⟨os,hos,hcs,hds⟩:=id hs;have hTs:s.TypeIs (.ref sl) "slice" :=⟨os,hos,hcs⟩;have hstep:¬ ((rawPart none==rawInt 0)=true):=EA;have hsame:Lo (.ref l) (.ref b)=false:=by
  unfold Lo;exact beq_eq_false_iff_ne.mpr hne
 have hmax:(max (a:Int) (c:Int)).toNat=c:=by omega
 have hz':((λxs:Array Jd=>xs.extract 0 a++new++xs.extract c xs.size) items).size<=sizeLine+1:=by
  simp only[HH,Array.size_extract];omega
 unfold Lg;try with_reducible refine JJ ?_
 first|refine Je (Jh ?_)|skip
 refine Je (Lh hl.typeIs (by decide) ?_);refine Je (Kn (name:=JF "__setitem__") hl.typeIs MC
  (Kx MC hl.typeIs entry_list_setitem ?_ (args_list_setitem _ _ _)))
 show Jk _ _ (KY (.ref sl) >>= _) _ _ s;refine Je ?_;unfold KY;refine Je (M4 hTs slice_no_index ?_);simp only[Option.isNone_none,if_true];refine Jh ?_;show Jk _ _ (Mr (.ref sl) >>= _) _ _ s;refine Je (KW hTs ?_);first
  | rw[if_neg (by decide)]
  | refine PySem.W.KFB.if_not (by decide) ?_
 rw[listSliceParts_eq];refine Je (Je (Kb hos hds (x:=.none) rfl (Je (LR .none ?_))));rw[if_neg hstep];refine Je (Kb hos hds (x:=vl) rfl (Je (LR pl ?_)));refine Je (Kb hos hds (x:=vu) rfl (Je (LR pu (Jh ?_))));first
  | simp only[hsame,GE,if_false]
  | refine PySem.W.KFB.if_not hsame ?_
  | (dsimp only
     rw[if_neg (by rw[hsame];exact EA)])
 refine Je (m:=Ld (.ref b) "must assign iterable to extended slice") ?_;unfold Ld;refine Je (KW hb.typeIs ?_);first
  | refine PySem.W.KFB.if_so (by decide) ?_
  | rw[if_pos (by decide)]
  | simp only[beq_self_eq_true,Ih,if_true]
 unfold NI;refine Je (Nq e2 rfl (Jh ?_));refine Je (Je (Nq e rfl (Jh ?_)));refine Je (wpAny_of_eq ((sliceIndices_raw (some (a:Int)) (some (c:Int)) none items.size (by simp)).trans (congrArg (pure:Int×Int×Int->Sem (Int×Int×Int)) (nK hac hc))) ?_);show Jk _ _ (if((1:Int)==1)=true then _ else _) _ _ s;rw[if_pos (by decide)];refine Je (Ni ?_);first
  | simp only[dF hsz,GE,if_false]
  | refine PySem.W.KFB.if_not (dF hsz) ?_
 first|refine Je (Jh ?_)|skip
 show Jk _ _ (updateSeq l (λxs=>xs.extract 0 ((a:Int)).toNat++new++xs.extract (max (a:Int) (c:Int)).toNat xs.size) >>= _) _ _ s;rw[hmax,ES];refine Je (LK (hz:=ER (FQ _ _) hsz) (_hz':=hz') e rfl ?_);refine Je (wpAny_letGo ?_);first
  | exact Je (Jh (Jh ⟨.none,rfl,Jh h⟩))
  | exact Jh ⟨.none,rfl,Jh h⟩
end
section
variable {X:Cx}
theorem rj{pins:List (Addr×Obj)}{s:Jf}{Z:St}{H:Hp}{l b sl:Addr}{xs ys:List V}{a c:Int}{vl vu:Jd}{Q:Unit->Jf->Prop}(I:Inv X pins Z H s)
  (hH:H l=some (.lst xs)) (hB:H b=some (.lst ys)) (hne:l≠b) (hs:s.heap.IsSliceOf sl vl vu .none) (ra:RelV (.int a) vl) (rc:RelV (.int c) vu) (h0:0<=a) (hac:a<=c) (hc:c<=xs.length)
  (hz:xs.length+ys.length<=sizeLine) (h:∀s',Inv X pins Z (upd H l (.lst (xs.take a.toNat++ys++xs.drop c.toNat))) s'->Q () s') :
  Jk (Jj X.prog X.w) X.A (Lg (.ref l) (.ref sl) (.ref b)) Q X.xe s:=by
 obtain⟨ta,rfl⟩:=ra;obtain⟨tc,rfl⟩:=rc;obtain⟨z,its,n,r,hl,e⟩:=I.lstM hH;obtain⟨z2,its2,n2,r2,hl2,e2⟩:=I.lstM hB;obtain⟨a',rfl⟩:=GU h0;obtain⟨c',rfl⟩:=GU (Int.le_trans h0 hac);simp only[ES]at h;refine ku (a:=a') (c:=c') e e2 hne hs (.int _ _) (.int _ _) (by omega) (by rw[Eh];omega) (by rw[Eh,Eh];omega) (h _ ?_);refine I.lset (its':=its.take a'++its2++its.drop c') (t':=s.toks) hH e ?_ (Vals.append (Vals.append (r.take _) r2) (r.drop _)) ?_;exact rm its its2 a' c'
 ·rw[Et,Et,EZ,Fm];omega
end
end L2
namespace Att
open PySem PySem.W PySem.Calls PyProof.Rows
theorem ints_of_wellAll{P:NJ}{h:Heap}:∀(ns:List Int) (vs:List Jd),WellAll P h vs (ns.map N3)->Na vs ns:=by
 intro ns
 induction ns with
 | nil=>
  intro vs w;rw[FB]at w;cases w;exact .nil
 | cons n ns ih=>
  intro vs w;rw[Ek]at w;cases w with
  | cons a b=>
   cases a;exact .cons _ _ (ih _ b)
theorem script_of{l:NK}{n:Nat}(hn:l.most=some n){P:NJ}{h:Heap}{args:List N0}{vals:List Jd}
  (hpre:l.row.toRowW.claim.pre args=true) (hwl:WellAll P h vals args) :
  ∃a vs ns,vals=[Nx a]/\args=[N0.list (ns.map N3)]/\h.get? a=some {cls:=.type "list",data:=.seq vs.toArray}/\Na vs ns/\ns.length<=n:=by
 have hsh:NL.hasAll [] args [.list .int]=true:=(pre_splitW hpre).1;have hc:l.pre.holds [] {args:=args}=true:=(pre_splitW hpre).2;obtain⟨d,r,rfl,h1,h2⟩:=hasAllW_cons hsh;obtain rfl:=hasAllW_nil h2;obtain⟨xs,rfl,h3⟩:=hasW_list h1;obtain⟨ns,rfl⟩:=items_int h3;have hlen:ns.length<=n:=by
  unfold NK.pre at hc;have h4:(WTm.not (.lt (.lit (.int (n:Int))) (.len (.arg 0)))).holds [] {args:=[.list (ns.map .int)]}=true:=by
   have h4:=(holds_andW hc).1;rw[hn]at h4;exact h4
  have h5:=condW_of h4 (w_not (w_lt w_lit (w_len_list (w_arg rfl))));rw[Ej]at h5;refine Nat.le_of_not_lt λq=>?_;have q':(n:Int)<((ns.length:Nat):Int):=by omega
  first
   | (rw[decide_eq_true q']at h5;exact absurd h5 (by decide))
   | (simp at h5;omega)
 cases hwl with
 | cons w1 w2=>
  cases w2;cases w1 with
  | list ho hall=>exact⟨_,_,ns,rfl,rfl,ho,ints_of_wellAll ns _ hall,hlen⟩
theorem post_true(l:NK)(args:List N0):l.row.toRowW.claim.post args (.bool true) args=true:=
 postW_of (r:=l.row.toRowW) (X:=(true==true))
  (show NW [] (.bool true) .bool=true by first|rfl|decide|simp[NW,NL.arms,NL.armsAll])
  (show(WTm.eq .res (.lit (.bool true))).value [] {args:=args,res:=some (.bool true),after:=args}=some (.bool (true==true))from w_eq_bool (w_res rfl) w_lit) rfl
theorem attach_call{l:NK}{n:Nat}{q:Jq}{loose:List Str}{XP:(Str->Option Jd)->Heap->Prop}{YP:JB->Heap->Prop}{d:DefRec}
  (hn:l.most=some n) (hdf:d.params.defaults=[])
  (call:∀(w:JB) (s₀ s₁ : Jf) (mg mb:Str->Option Jd) (fa:Addr) (o:Obj) (pm cd doc:Jd) (a:Addr) (vs:List Jd) (ns:List Int),
   Ground q loose [] XP w s₀ mg mb s₁.heap->YP w s₁.heap →
   s₁.heap.get? fa=some o->o.data=.func (docDef d.name d.params d.body d.scope pm cd doc)->s₁.heap.CodeRec cd d.name->mg d.name=some (.ref fa) →
   s₁.heap.get? a=some {cls:=.type "list",data:=.seq vs.toArray}->Na vs ns->ns.length<=n->s₁.gens = #[] →
   JN (Jj l.prog w) LY (.call (.ref fa) ⟨[.ref a],[]⟩) (λr s'=>r=.ok (.ret (.bool true))/\OldK s₁.heap s'.heap/\s'.os=s₁.os/\Lf s'.gens) s₁) :
  WalkO q loose XP YP l.row.toRowW d [] (λf vs=>PySem.call f vs):=by
 intro w s₀ s₁ mg mb G Y fa o pm cd doc dV kV ho hd hcd hD hmg hg args vals as hpre hlay hrd hwl hlo;obtain rfl:dV=.none:=Dflts.none hD hdf;obtain rfl:kV=.none:=Dflts.noKw hD;obtain⟨a,vs,ns,rfl,rfl,hobj,hints,hlen⟩:=script_of hn hpre hwl;refine enter_call (LB (call w s₀ s₁ mg mb fa o pm cd doc a vs ns G Y ho (fd_plain hd) hcd hmg hobj hints hlen hg) λr s' hq=>?_);obtain⟨rfl,h2,h3,h4⟩:=hq;exact⟨.inl ⟨.bool true,.bool true,[],rfl,λ_=>rfl,.bool true,post_true l _,λ_=>⟨List.Pairwise.nil,λ_ hm=>(nomatch hm)⟩⟩,h2,h3,h4⟩
end Att
namespace L2
open PySem PySem.Spec PyProof.Rows
theorem lh:∀{vs:List Jd} {ns:List Int},Na vs ns->Vals (ns.map V.int) vs
 | _,_,.nil=>.nil
 | _,_,.cons n t h=>.cons ⟨t,rfl⟩ (lh h)
def BF(H:Hp):Prop:=∀b,H b=none ∨ ∃o xs,H b=some (.frz o (.lst xs))
theorem sD{P:Jq}{w:JB}{K:yF}{mg mb:Str->Option Jd}{CX:CXT}{k:Nat}{fa a:Addr}{fd:Kf}{x:Str}{sp:Sp}{s₁ : Jf}{vs:List Jd}{ns:List Int}
  (KX:K.In s₁.heap) (hns:s₁.heap.Ns JH mg) (hb:s₁.heap.Ns Mm mb) (hbb:∀x:Str,x ≠ "__name__" → mb x=JQ x) (hlim:s₁.heap.NoLimit) (hg:s₁.gens = #[])
  (ha:s₁.heap.get? a=some {cls:=.type "list",data:=.seq vs.toArray}) (hi:Na vs ns) (hl:ns.length<=sizeLine) (hr:IF k LY)
  (F:∀base:Heap,K.In base->base.Ns JH mg->IY P w K mg base CX k fa fd [x] sp) (hbind:∀(s:Jf) (u:Jd),LX s fd ⟨[u],[]⟩ [(x,u)])
  (hsp:∀H:Hp,BF H->SqL K H a (ns.map V.int)->sp [.ref a] H (λv _=>v=.bl true) λ_ _ _=>False)
  (hCX:∀H e s',CX [] H s₁ (λ_ _ _=>False) e s'->False) :
  JN (Jj P w) LY (.call (.ref fa) ⟨[.ref a],[]⟩) (λr s'=>r=.ok (.ret (.bool true))/\OldK s₁.heap s'.heap/\s'.os=s₁.os/\Lf s'.gens) s₁:=by
 have rv:=lh hi;have lenV:=hi.length;have core:∀H:Hp,BF H->SqL K H a (ns.map V.int)->HOk P w H s₁.heap->(∀b,H b≠none->b=a)->(H a≠none->K.lookup a=none) →
   JN (Jj P w) LY (.call (.ref fa) ⟨[.ref a],[]⟩) (λr s'=>r=.ok (.ret (.bool true))/\OldK s₁.heap s'.heap/\s'.os=s₁.os/\Lf s'.gens) s₁:=by
  intro H hO hS hok hA hK;have base_of:∀{b:Addr} {o:Obj},s₁.heap.get? b=some o->H b=none->(lF s₁.heap H).get? b=some o:=λe n=>sn e n;have noA:∀{b:Addr} {o:Obj} {es:Array ND} {ep:Nat},s₁.heap.get? b=some o->o.data=.dict es ep->H b=none:=λ{b o es ep} e d=>by
   cases q:H b with
   | none=>rfl
   | some u=>
    have e':b=a:=hA b (by rw[q];simp);subst e';rw[ha]at e;cases e;have d':Data.seq vs.toArray _=Data.dict es ep:=d;cases d'
  have nsK:∀{b:Addr} {m:Str->Option Jd},s₁.heap.Ns b m->(lF s₁.heap H).Ns b m:=λ{b m} ⟨o,es,ep,e,d,r⟩=>⟨o,es,ep,base_of e (noA e d),d,r⟩;have hKb:K.In (lF s₁.heap H):=λb o e=>base_of (KX b o e) (by
   cases q:H b with
   | none=>rfl
   | some u=>
    have e':b=a:=hA b (by rw[q];simp);subst e';rw[hK (by rw[q];simp)]at e;cases e)
  have hM:Mod K mg (lF s₁.heap H):=⟨hKb,nsK hns,⟨mb,nsK hb,hbb⟩,let ⟨mc,h1,h2⟩:=hlim;⟨mc,nsK h1,h2⟩⟩;have e0:Jb P w K mg (lF s₁.heap H) LY [] s₁ H:=⟨rfl,hM,λb o e=>wr e,Nat.le_of_eq (qj _ _),trivial,λb hb=>absurd (show b∈([]:List Addr)from hb) (by simp),hok,.of_eq hg⟩;refine LB ((F _ hKb (nsK hns)).run LY [] s₁ H ⟨[.ref a],[]⟩ [.ref a] [.ref a] _ _ hr e0 (hbind s₁ (.ref a)) (.cons rfl .nil) (hsp H hO hS)) λr s' h=>?_;cases r with
  | error e=>exact(hCX H e s' h).elim
  | ok fl=>
   cases fl with
   | next=>exact Ke h
   | brk=>exact Ke h
   | cont=>exact Ke h
   | ret u=>
    obtain⟨v,H',os,bare,un,hok',r',q⟩:=h;have q':v=.bl true:=q;subst q';obtain rfl:u=Kv true:=r';refine⟨rfl,OldK.of_keep λb o e=>?_,os,bare⟩;cases q:H b with
    | none=>exact un.keep b o e q (by intro z;exact absurd (show b∈([]:List Addr)from z) (by simp)) (by simp)
    | some u=>
     rcases hO b with z|⟨ob,xs,z⟩;rw[q]at z;cases z
     ·have z2:=un.frzs b ob _ z;obtain⟨e1,_⟩:=hok b _ z;obtain⟨e2,_⟩:=hok' b _ z2;rw[e]at e1;cases e1;exact e2
 cases hk:K.lookup a with
 | some o=>
  have e:=KX a o hk;rw[ha]at e;cases e;refine core (λ_=>none) (λ_=>.inl rfl) (.inr ⟨_,vs.toArray,_,hk,rfl,rfl,rfl,by rw[Eh,lenV];exact hl,by simpa using rv⟩) (λb u z=>by have z':(none:Option HO)=some u:=z;cases z') (λb z=>absurd rfl z) λz=>absurd rfl z
 | none=>
  refine core (λb=>if b=a then some (.frz {cls:=.type "list",data:=.seq vs.toArray} (.lst (ns.map V.int)))else none) (λb=>?_) (.inl (.inr ⟨{cls:=.type "list",data:=.seq vs.toArray},if_pos rfl⟩)) (λb u z=>?_) (λb z=>?_) λ_=>hk
  ·by_cases hb:b=a;exact .inr ⟨_,_,if_pos hb⟩;exact .inl (if_neg hb)
  ·by_cases hb:b=a
   ·have z':=(if_pos hb).symm.trans z;cases z';subst hb;exact⟨ha,by rw[Ej];exact hl,vs,_,rv,ha⟩
   ·have z':=(if_neg hb).symm.trans z;cases z'
  ·by_cases hb:b=a;exact hb;exact absurd (if_neg hb) z
noncomputable def dg(s:Stmt):Arguments:=match s with
 | .FunctionDef _ a _ _ _ _ _ _ _ _=>a
 | _=>{posonlyargs:=[],args:=[],vararg:=none,kwonlyargs:=[],kw_defaults:=[],kwarg:=none,defaults:=[]}
noncomputable def bu(s:Stmt):List Stmt:=match s with
 | .FunctionDef _ _ b _ _ _ _ _ _ _=>b
 | _=>[]
noncomputable def ai(s:Stmt):JW:=match s with
 | .FunctionDef _ _ _ _ _ _ sc _ _ _=>sc
 | _=>{kind:=.function,names:=[],isGenerator:=false,isCoroutine:=false}
abbrev CX0:CXT:=λ_ _ _ _ _ _=>False
abbrev E0:XK:=λ_ _ _=>False
theorem Ci{X:Cx}:nH CX0 X E0:=λ_ _ _ _ _ _ _ h=>h.elim
structure Fun(K:yF)(x qual:Str)(st:Stmt)(f:Addr)(fd:Kf):Prop where
 ex:∃(oc:Jd) (od:Option Addr) (kV doc pm:Jd) (an:Option Addr) (cdv ct:Jd) (osl:Array (Option Jd)),
  fd=FA x qual (dg st) (bu st) (ai st) .none kV doc pm an cdv ct/\K.lookup f=some ⟨oc,od,.func fd,osl⟩/\F6 K cdv qual=true
 kp:FH K (.ref f)=true
section
variable {P:Jq}{w:JB}{K:yF}{mg:Str->Option Jd}{base:Heap}
theorem Fun.ok{x qual:Str}{st:Stmt}{f:Addr}{fd:Kf}{N ps:List Str}{k:Nat}{sp:Sp}(F:Fun K x qual st f fd)(S:Is N ps (ai st))(len:∀vs H Q E,sp vs H Q E->vs.length=ps.length)
  (hbody:∀(cdv:Jd) (A:Jw) (outer:List Env) (s:Jf) (H:Hp) (vs:List V) (Q:VK) (E:XK),IF k (A.deeper (KJ qual (ai st) s.heap.objs.size f cdv))->sp vs H Q E →
   ∃t,PSs (kh CX0 P w K mg base N qual (ai st) f cdv A outer s H E).nox (bu st) t/\t {nx:=λ_ H'=>Q .non H',rt:=Q} (bM N vs) H):IY P w K mg base CX0 (k+1) f fd ps sp:=by
 obtain⟨oc,od,kV,doc,pm,an,cdv,ct,osl,rfl,lk,hcd⟩:=F.ex;refine BL lk hcd S len λA outer s H vs Q E hr hsp=>?_;obtain⟨t,h,q⟩:=hbody cdv A outer s H vs Q E hr hsp;exact⟨t,h.nox,q⟩
theorem zf{x qual:Str}{st:Stmt}{f:Addr}{oc:Jd}{od an:Option Addr}{osl:Array (Option Jd)}{kV doc pm cdv ct:Jd}(l:K.lookup f=some ⟨oc,od,.func (FA x qual (dg st) (bu st) (ai st) .none kV doc pm an cdv ct),osl⟩)
  (c:F6 K cdv qual=true) (k:FH K (.ref f)=true):Fun K x qual st f (FA x qual (dg st) (bu st) (ai st) .none kV doc pm an cdv ct):=⟨⟨oc,od,kV,doc,pm,an,cdv,ct,osl,rfl,l,c⟩,k⟩
end
theorem BN{A:Jw}{k:Nat}(hr:IF k A):A.units+1<JP:=Fy (Hr (by decide:1<=64) _) hr.units
theorem nR{A B:Prop}(h:B):if false=true then A else B:=by
 rw[if_neg EA];exact h
theorem nS{A B:Prop}(h:A):if true=true then A else B:=by
 rw[if_pos rfl];exact h
def IG(H H':Hp):Prop:=∀b o,H b=some o->H' b=some o
theorem IG.refl(H:Hp):IG H H:=λ_ _ h=>h
noncomputable def br(env:Env):List (Str×Jp)->List (Str×Addr)->List (Str×Addr)
 | [],acc=>acc
 | (n,k)::r,acc=>if k == .free then br env r ((n,(env.cells.lookup n).getD 0)::acc)else br env r acc
theorem iQ{env:Env}:∀(names:List (Str×Jp)) (acc:List (Str×Addr)),(∀x∈names,x.2=.free->∃c,env.cells.lookup x.1=some c) →
  (forIn names acc λ(x:Str×Jp) (cs:List (Str×Addr))=>if x.2 == .free then(do let c ←cellOf env x.1;pure (KM ((x.1,c)::cs)):Sem _)else pure (KM cs))=(pure (br env names acc):Sem _)
 | [],acc,_=>rfl
 | (n,k)::r,acc,h=>by
  have hr:∀x∈r,x.2=.free->∃c,env.cells.lookup x.1=some c:=λx hx=>h x (ymC _ hx);rw[List.forIn_cons];unfold br;by_cases hk:(k==JV)=true
  ·obtain⟨c,hc⟩:=h (n,k) ymS (by simpa using hk);have hc':env.cells.lookup n=some c:=hc;have e:cellOf env n=pure c:=by unfold cellOf;rw[hc']
   simp only[hk,if_true,e,hc',Option.getD_some,pure_bind];exact iQ r _ hr
  ·have hk':(k==JV)=false:=by simpa using hk
   simp only[hk',GE,if_false,pure_bind];exact iQ r _ hr
theorem cK{env:Env}{scope:JW}(h:∀x∈scope.names,x.2=.free->∃c,env.cells.lookup x.1=some c):closureFor scope env=pure (br env scope.names []):=by
 have:=iQ (env:=env) scope.names [] h;simp only[closureFor];rw[this,pure_bind]
theorem iP{env:Env}{x:Str}{c:Addr}:∀(names:List (Str×Jp)) (acc:List (Str×Addr)),(∀y∈names,y.2=.free->∃c,env.cells.lookup y.1=some c)->(acc.lookup x=some c->env.cells.lookup x=some c) →
  (br env names acc).lookup x=some c->env.cells.lookup x=some c
 | [],acc,_,h0,h=>h0 h
 | (n,k)::r,acc,hn,h0,h=>by
  have hr:∀y∈r,y.2=.free->∃c,env.cells.lookup y.1=some c:=λy hy=>hn y (ymC _ hy);unfold br at h;by_cases hk:(k==JV)=true
  ·rw[if_pos hk]at h;refine iP r _ hr (λe=>?_) h;obtain⟨c',hc'⟩:=hn (n,k) ymS (by simpa using hk);have hc'':env.cells.lookup n=some c':=hc';rw[E5]at e;by_cases hx:(x==n)=true
   ·rw[hx]at e;have hxn:x=n:=by simpa using hx
    subst hxn;rw[hc'']at e⊢;exact e
   ·have hx':(x==n)=false:=by simpa using hx
    rw[hx']at e;exact h0 e
  ·rw[if_neg hk]at h;exact iP r acc hr h0 h
theorem iO{env:Env}{x:Str}:∀(names:List (Str×Jp)) (acc:List (Str×Addr)),(acc.lookup x).isSome=true->((br env names acc).lookup x).isSome=true
 | [],_,h=>h
 | (n,k)::r,acc,h=>by
  unfold br;by_cases hk:(k==JV)=true
  ·rw[if_pos hk];refine iO r _ ?_;rw[E5];cases hx:(x==n)with
   | true=>rfl
   | false=>exact h
  ·rw[if_neg hk];exact iO r acc h
theorem eW{env:Env}{x:Str}:∀(names:List (Str×Jp)) (acc:List (Str×Addr)),(x,JV)∈names->((br env names acc).lookup x).isSome=true
 | [],_,h=>by cases h
 | (n,k)::r,acc,h=>by
  unfold br;rcases ycM h with e|h
  ·cases e;rw[if_pos (by rfl)];refine iO r _ ?_;rw[E5,beq_self_eq_true];rfl
  ·by_cases hk:(k==JV)=true
   ·rw[if_pos hk];exact eW r _ h
   ·rw[if_neg hk];exact eW r _ h
theorem jK{x:Str}{c:Addr}:∀(names:List (Str×Jp)) (n:Nat) (acc:List (Str×Addr)),(Jy n names acc).lookup x=some c->(n<=c/\(x,Ju)∈names)∨acc.lookup x=some c
 | [],_,_,h=>.inr h
 | (y,k)::r,n,acc,h=>by
  unfold Jy at h;by_cases hk:(k==Ju)=true
  ·rw[if_pos hk]at h;rcases jK r (n+1) _ h with⟨h1,h2⟩|h1;exact .inl ⟨by omega,ymC _ h2⟩
   ·rw[E5]at h1;by_cases hx:(x==y)=true
    ·rw[hx]at h1;have hxy:x=y:=by simpa using hx
     have hkc:k=.cell:=by simpa using hk
     subst hxy hkc;cases h1;exact .inl ⟨Eo _,ymS⟩
    ·have hx':(x==y)=false:=by simpa using hx
     rw[hx']at h1;exact .inr h1
  ·rw[if_neg hk]at h;rcases jK r n _ h with⟨h1,h2⟩|h1;exact .inl ⟨h1,ymC _ h2⟩;exact .inr h1
theorem nL:∀(names:List (Str×Jp)) (n:Nat) (acc:List (Str×Addr)),(∀x c,acc.lookup x=some c->c<n)->(∀x y c,acc.lookup x=some c->acc.lookup y=some c->x=y) →
  ∀x y c,(Jy n names acc).lookup x=some c->(Jy n names acc).lookup y=some c->x=y
 | [],_,_,_,hi,x,y,c,h1,h2=>hi x y c h1 h2
 | (z,k)::r,n,acc,hb,hi,x,y,c,h1,h2=>by
  unfold Jy at h1 h2;by_cases hk:(k==Ju)=true
  ·rw[if_pos hk]at h1 h2;refine nL r (n+1) ((z,n)::acc) (λa b e=>?_) (λa b d e1 e2=>?_) x y c h1 h2
   ·rw[E5]at e;cases q:(a==z)with
    | true=>rw[q]at e;cases e;exact HS _
    | false=>rw[q]at e;exact HI (hb a b e)
   ·rw[E5]at e1 e2;cases q1:(a==z)with
    | true=>
     cases q2:(b==z)with
     | true=>rw[beq_iff_eq.mp q1,beq_iff_eq.mp q2]
     | false=>rw[q1]at e1;rw[q2]at e2;cases e1;exact absurd (hb b n e2) (Ff _)
    | false=>
     cases q2:(b==z)with
     | true=>rw[q1]at e1;rw[q2]at e2;cases e2;exact absurd (hb a n e1) (Ff _)
     | false=>rw[q1]at e1;rw[q2]at e2;exact hi a b d e1 e2
  ·rw[if_neg hk]at h1 h2;exact nL r n acc hb hi x y c h1 h2
theorem jL{x:Str}:∀(names:List (Str×Jp)) (n:Nat) (acc:List (Str×Addr)),(x,Ju)∉names->(Jy n names acc).lookup x=acc.lookup x
 | [],_,_,_=>rfl
 | (y,k)::r,n,acc,h=>by
  unfold Jy;by_cases hk:(k==Ju)=true
  ·rw[if_pos hk,jL r _ _ (λz=>h (ymC _ z)),E5];have hkc:k=.cell:=by simpa using hk
   have hx:(x==y)=false:=by
    cases q:(x==y)with
    | false=>rfl
    | true=>exact absurd (by rw[beq_iff_eq.mp q,hkc];exact ymS) h
   rw[hx]
  ·rw[if_neg hk];exact jL r _ _ λz=>h (ymC _ z)
theorem ly{x:Str}{c:Addr}:∀(names:List (Str×Jp)) (n:Nat) (acc:List (Str×Addr)),((x,Ju)∈names ∨ ∀c',acc.lookup x=some c'->n<=c')->(Jy n names acc).lookup x=some c->∀lo,lo<=n->(∀c',acc.lookup x=some c'->lo<=c')∨(x,Ju)∈names->lo<=c
 | [],n,acc,_,h,lo,hl,h2=>by
  rcases h2 with h2|h2;exact h2 c h;cases h2
 | (y,k)::r,n,acc,_,h,lo,hl,h2=>by
  unfold Jy at h;by_cases hk:(k==Ju)=true
  ·rw[if_pos hk]at h;have key:(∀c',((y,n)::acc).lookup x=some c'->lo<=c')∨(x,Ju)∈r:=by
    by_cases hx:(x==y)=true
    ·refine .inl λc' e=>?_;rw[E5,hx]at e;cases e;exact hl
    ·have hx':(x==y)=false:=by simpa using hx
     rcases h2 with h2|h2
     ·refine .inl λc' e=>?_;rw[E5,hx']at e;exact h2 c' e
     ·rcases ycM h2 with e|h2
      ·cases e;simp at hx
      ·exact .inr h2
   have key2:(x,Ju)∈r ∨ ∀c',((y,n)::acc).lookup x=some c'->n+1<=c'∨True:=.inr λ_ _=>.inr trivial;rcases key with key|key
   ·by_cases hm:(x,Ju)∈r;exact ly r (n+1) _ (.inl hm) h lo (by omega) (.inr hm)
    ·rw[jL r _ _ hm]at h;exact key c h
   ·exact ly r (n+1) _ (.inl key) h lo (by omega) (.inr key)
  ·rw[if_neg hk]at h;have key:(∀c',acc.lookup x=some c'->lo<=c')∨(x,Ju)∈r:=by
    rcases h2 with h2|h2;exact .inl h2
    ·rcases ycM h2 with e|h2
     ·cases e;exact absurd rfl hk
     ·exact .inr h2
   by_cases hm:(x,Ju)∈r;exact ly r n _ (.inl hm) h lo hl (.inr hm)
   ·rcases key with key|key
    ·rw[jL r _ _ hm]at h;exact key c h
    ·exact absurd key hm
theorem eA{x:Str}{c:Addr}:∀(names:List (Str×Jp)) (h:Heap) (acc:List (Str×Addr)),(Jy h.objs.size names acc).lookup x=some c->(pushCells h names).IsCell c none∨acc.lookup x=some c
 | [],_,_,e=>.inr e
 | (y,k)::r,h,acc,e=>by
  unfold Jy at e;unfold pushCells;by_cases hk:(k==Ju)=true
  ·rw[if_pos hk]at e⊢;have e':(Jy (h.push {cls:=.type "cell",data:=.cell none}).objs.size r ((y,h.objs.size)::acc)).lookup x=some c:=by rw[LS];exact e
   rcases eA r (h.push {cls:=.type "cell",data:=.cell none}) ((y,h.objs.size)::acc) e' with q|q;exact .inl q
   ·rw[E5]at q;cases hx:(x==y)with
    | true=>
     rw[hx]at q;cases q;exact .inl ⟨_,LL r _ _ _ (Jn _ rfl),rfl⟩
    | false=>rw[hx]at q;exact .inr q
  ·rw[if_neg hk]at e⊢;exact eA r h acc e
theorem dP{M:NY}{A:Jw}{E:Jd->Jf->Prop}{s:Jf}{scope:JW}{globals:Addr}{cl:List (Str×Addr)}{qual:Str}{env:Env}{Q:Env->Jf->Prop}
  (hQ:∀h',h'.Ns s.heap.objs.size (λ_=>none)->(∀b o,s.heap.get? b=some o->h'.get? b=some o)->(∀x c,(Jy (s.heap.objs.size+1) scope.names cl).lookup x=some c->h'.IsCell c none∨cl.lookup x=some c) →
   Q (newEnv scope s.heap.objs.size globals (Jy (s.heap.objs.size+1) scope.names cl) qual none .none (some env) Mm) {s with heap:=h'}) :
  Jk M A (Ks scope globals cl [] qual none .none (some env)) Q E s:=by
 simp only[Ks,Option.isSome_some,if_true];refine Je (wpAny_alloc ?_);refine Je (wpAny_layCells _ (λname kind cells=>by cases hkc:kind==Ju<;>simp[hkc]) _ _ _ _ ?_);rw[show({s with heap:=s.heap.push {cls:=.type "dict",data:=.dict #[]}}:Jf).heap.objs.size=s.heap.objs.size+1 from LS ..];rw[List.forIn_nil];refine Je (Jh (Jh (hQ _ ?_ ?_ ?_)));exact(Heap.Ns.new s.heap (.type "dict")).keeps (LL _ _);exact λb o e=>LL _ _ b o (Jg _ e)
 ·intro x c e;have e':(Jy (s.heap.push {cls:=.type "dict",data:=.dict #[]}).objs.size scope.names cl).lookup x=some c:=by rw[LS];exact e
  exact eA _ _ _ e'
noncomputable def rlK(env:Env) (n:Str) (k:Jp):Jp:=if(k == .free&&env.scope.kind == .function&&env.kindOf n==some .cell)then .cell else k
theorem kR{env:Env}{x:Str}:∀(names:List (Str×Jp)),
  (names.map λ(n,k)=>if(k==JV&&env.scope.kind == .function&&env.kindOf n==some .cell)then(n,Ju)else(n,k)).lookup x=(names.lookup x).map (rlK env x)
 | []=>rfl
 | (n,k)::r=>by
  have ih:=kR (env:=env) (x:=x) r;rw[Ek,E5];have e1:(if(k==JV&&env.scope.kind == .function&&env.kindOf n==some .cell)then(n,Ju)else(n,k))=(n,rlK env n k):=by
   unfold rlK;split<;>rfl
  show Gw x ((if(k==JV&&env.scope.kind == .function&&env.kindOf n==some .cell)then(n,Ju)else(n,k))::_)=_;rw[e1,E5,E5];cases hx:(x==n)with
  | true=>
   have e2:=beq_iff_eq.mp hx;subst e2;rfl
  | false=>exact ih
theorem fX{scope:JW}{env:Env}{x:Str}:(LG scope env).names.lookup x=(scope.names.lookup x).map (rlK env x):=kR scope.names
structure Blk(osc sc:JW)(N N':List Str)(fr:List (Option Nat)):Prop where
 kind:sc.kind=.function
 nd:N'.Nodup
 len:fr.length=N'.length
 free:∀(i j:Nat) (x:Str),fr[i]?=some (some j)->N'[i]?=some x->N[j]?=some x/\sc.names.lookup x=some .free
 out:∀x∈sc.names,x.2=.free->(osc.names.lookup x.1=some .cell∨osc.names.lookup x.1=some .free)/\(x.1,Ju)∉sc.names
 locl:∀x∈sc.names,x.2=.local->sc.names.lookup x.1=some .local
noncomputable def BI(osc sc:JW) (N N':List Str) (fr:List (Option Nat)):Bool:=
 (sc.kind == .function)&&decide N'.Nodup&&(fr.length==N'.length) &&
 (fr.zip N').all (λp=>match p.1 with|none=>true|some j=>N[j]? == some p.2&&sc.names.lookup p.2==some .free) &&
 sc.names.all (λp=>(p.2 != .free||((osc.names.lookup p.1==some .cell||osc.names.lookup p.1==some .free) && !sc.names.contains (p.1,.cell)))&&(p.2 != .local||sc.names.lookup p.1==some .local))
theorem Blk.of{osc sc:JW}{N N':List Str}{fr:List (Option Nat)}(h:BI osc sc N N' fr=true):Blk osc sc N N' fr:=by
 unfold BI at h;simp only[Ei]at h;obtain⟨⟨⟨⟨h1,h2⟩,h3⟩,h4⟩,h5⟩:=h;refine⟨by simpa using h1,of_decide_eq_true h2,by simpa using h3,λi j x e1 e2=>?_,λx hx hk=>?_,λx hx hk=>?_⟩
 ·have hm:(some j,x)∈fr.zip N':=by
   refine FY.mpr ⟨i,?_⟩;rw[List.getElem?_zip_eq_some];exact⟨e1,e2⟩
  have:=E6.mp h4 _ hm;simp only[Ei]at this;exact⟨by simpa using this.1,by simpa using this.2⟩
 ·have:=E6.mp h5 x hx;simp only[Ei]at this;have t1:=this.1;rw[hk]at t1;simp only[bne_self_eq_false,Hw,Ei,FD,EM]at t1;refine⟨t1.1.imp (λz=>by simpa using z) (λz=>by simpa using z),λhm=>?_⟩;have t2:=t1.2;rw[List.contains_iff_mem.mpr hm]at t2;cases t2
 ·have:=E6.mp h5 x hx;simp only[Ei]at this;have t1:=this.2;rw[hk]at t1;simp only[bne_self_eq_false,Hw]at t1;simpa using t1
noncomputable def aL(fr:List (Option Nat)) (Z:St):St:=fr.map λo=>match o with
 | none=>none
 | some j=>Z.getD j none
theorem bC(fr:List (Option Nat))(Z:St):(aL fr Z).length=fr.length:=by unfold aL;rw[Ej]
noncomputable def yY(X:Cx) (scope:JW) (N':List Str) (cells:List (Str×Addr)) (C:Addr) (s:Jf) (H:Hp) (ex:List Addr) (pn:List (Addr×Obj)) (xe:Jd->Jf->Prop):Cx where
 prog:=X.prog
 w:=X.w
 K:=X.K
 mg:=X.mg
 base:=X.base
 A:=X.A
 N:=N'
 s₀:=s
 H₀:=H
 env:=NR scope cells C X.env
 outer:=X.stack
 stack:=X.stack
 ex:=ex
 fn:=λx=>scope.names.lookup x==some .cell
 calm:=X.calm
 pn:=pn
 xe:=xe
section
variable {X:Cx}{pins:List (Addr×Obj)}{Z:St}{H H':Hp}{s:Jf}{scope:JW}{N':List Str}{fr:List (Option Nat)}{ex:List Addr}{xe:Jd->Jf->Prop}
theorem dD{sc:JW}{x:Str}{k:Jp}(h:sc.names.lookup x=some k):(x,k)∈sc.names:=FE h
theorem Inv.freeCells(I:Inv X pins Z H s)(B:Blk X.env.scope scope X.N N' fr):∀x∈scope.names,x.2=.free->∃c,X.env.cells.lookup x.1=some c:=λx hx hk=>I.ok.has x.1 (B.out x hx hk).1
theorem Inv.enter{h':Heap}(I:Inv X pins Z H s)(B:Blk X.env.scope scope X.N N' fr)(hex:∀b∈ex,dQ X pins H b/\∃o,s.heap.get? b=some o)
  (hns:h'.Ns s.heap.objs.size (λ_=>none)) (hk:∀b o,s.heap.get? b=some o->h'.get? b=some o)
  (hc:∀x c,(Jy (s.heap.objs.size+1) scope.names (br X.env scope.names [])).lookup x=some c->h'.IsCell c none∨(br X.env scope.names []).lookup x=some c) :
  Inv (yY X scope N' (Jy (s.heap.objs.size+1) scope.names (br X.env scope.names [])) s.heap.objs.size s H ex (X.pn++pins) xe) [] (aL fr Z) H {s with heap:=h'}:=by
 have hfc:=I.freeCells B;have old:∀x c,(br X.env scope.names []).lookup x=some c->X.env.cells.lookup x=some c:=λx c e=>iP scope.names [] hfc (λz=>by cases z) e;have lt:∀x c,X.env.cells.lookup x=some c->c<s.heap.objs.size:=λx c e=>by
  obtain⟨v,q⟩:=I.cell x c e;exact q.lt
 have cases2:∀x c,(Jy (s.heap.objs.size+1) scope.names (br X.env scope.names [])).lookup x=some c->s.heap.objs.size+1<=c∨X.env.cells.lookup x=some c:=λx c e=>
  (jK _ _ _ e).imp (λz=>z.1) (old x c)
 have hlt:∀b∈ex,b<s.heap.objs.size:=λb hb=>by
  obtain⟨o,e⟩:=(hex b hb).2;exact Jm e
 have has:∀x,scope.names.lookup x=some .cell∨scope.names.lookup x=some .free->∃c,(Jy (s.heap.objs.size+1) scope.names (br X.env scope.names [])).lookup x=some c:=λx hx=>by
  refine Fz.mp (Gi _ _ _ (hx.imp id λz=>eW _ _ (dD z)))
 refine⟨⟨I.ok.mod,?_,I.ok.glob,I.ok.blt,Eo _,?_,?_,?_,I.ok.hd,I.ok.gd,I.ok.frames,.inl rfl,?_,I.bs,ER I.ok.bsz I.sz,?_,?_,I.stack,I.stkFree⟩,rfl,I.bare,Un.kept hk,⟨_,hns,?_⟩,?_,?_,?_,?_,I.hok.kept hk,?_⟩;exact B.kind;exact nL _ _ _ (λx c e=>HI (lt x c (old x c e))) (λx y c e1 e2=>I.ok.inj x y c (old x c e1) (old y c e2))
 ·intro x hx;refine has x ?_;have hx':(LG scope X.env).names.lookup x=some .cell∨(LG scope X.env).names.lookup x=some .free:=hx;rw[fX]at hx';cases q:scope.names.lookup x with
  | none=>rw[q]at hx';rcases hx' with z|z<;>cases z
  | some k=>
   rw[q]at hx';have hx2:rlK X.env x k=.cell∨rlK X.env x k=.free:=hx'.imp (λz=>ET.inj z) (λz=>ET.inj z);unfold rlK at hx2;split at hx2
   ·rename_i hc;simp only[Ei]at hc;have:k=.free:=by simpa using hc.1.1
    rw[this];exact .inr rfl
   ·rcases hx2 with z|z<;>rw[z];exact .inl rfl;exact .inr rfl
 ·intro x c hf e;have hf':scope.names.lookup x=some .cell:=by
   have:(scope.names.lookup x==some Ju)=true:=hf;simpa using this
  exact ly _ _ _ (.inl (dD hf')) e _ (HX _) (.inr (dD hf'))
 ·intro b hb;obtain⟨⟨_,_,_,_,f4,_⟩,_⟩:=hex b hb;refine⟨EW (hlt b hb),λx c e z=>?_⟩;rcases cases2 x c e with q|q
  ·rw[z]at q;exact absurd (EH (hlt b hb) (Nat.le_of_succ_le q)) (Ff _)
  ·exact f4 x c q z
 ·intro b o e hb;obtain⟨⟨_,_,_,f3,_,_⟩,_⟩:=hex b hb;rcases f3 with z|z;exact I.ok.noex b o e z;exact absurd (EH (Jm e) (ER I.ok.bsz z)) (Ff _)
 ·intro b hb hf;obtain⟨⟨_,f1,f2,_,_,_⟩,_⟩:=hex b hb;rcases ycM (I.stkSub b hf)with z|z;exact f1 z;exact f2 z
 ·intro i x v e1 e2 e3;unfold aL at e2;rw[Ep]at e2;cases q:fr[i]? with
  | none=>rw[q]at e2;cases e2
  | some o=>
   rw[q]at e2;cases o with
   | none=>simp at e2
   | some j=>
    have e2':Z.getD j none=some v:=by simpa using e2
    obtain⟨b1,b2⟩:=B.free i j x q e1;have e4:Z[j]?=some (some v):=by
     rw[EL]at e2';cases q2:Z[j]? with
     | none=>rw[q2]at e2';cases e2'
     | some y=>rw[q2]at e2';simp at e2';rw[e2']
    obtain⟨o1,o2⟩:=B.out (x,.free) (dD b2) rfl;obtain⟨m,hn,hl⟩:=I.loc;have vis:Vis X.env.scope x:=o1.elim (λz=>.inr (.inl z)) λz=>.inr (.inr z);obtain⟨u,r,l⟩:=hl j x v b1 e4 vis;refine⟨u,r,.inr ?_⟩;have nl:∃c,X.env.cells.lookup x=some c/\s.heap.IsCell c (some u):=by
     rcases l with⟨kl,_⟩|⟨_,c,h1,h2⟩
     ·have kl':X.env.scope.names.lookup x=some .local:=kl;rcases o1 with z|z<;>· have z':X.env.scope.names.lookup x=_:=z;rw[kl']at z';cases z'
     ·exact⟨c,h1,h2⟩
    obtain⟨c,h1,h2⟩:=nl;have kd:(NR scope (Jy (s.heap.objs.size+1) scope.names (br X.env scope.names [])) s.heap.objs.size X.env).kindOf x=some .cell∨(NR scope (Jy (s.heap.objs.size+1) scope.names (br X.env scope.names [])) s.heap.objs.size X.env).kindOf x=some .free:=by
     show(LG scope X.env).names.lookup x=some .cell∨(LG scope X.env).names.lookup x=some .free;rw[fX,b2];show some (rlK X.env x .free)=_∨some (rlK X.env x .free)=_;unfold rlK;split;exact .inl rfl;exact .inr rfl
    refine⟨kd,c,?_,h2.keeps hk⟩;show(Jy (s.heap.objs.size+1) scope.names (br X.env scope.names [])).lookup x=some c;rw[jL _ _ _ o2];obtain⟨c',hc'⟩:=Fz.mp (eW (env:=X.env) scope.names [] (dD b2));rw[hc'];have:=old x c' hc';rw[h1]at this;exact this.symm
 ·intro x c e;rcases hc x c e with q|q;exact⟨_,q⟩
  ·obtain⟨v,z⟩:=I.cell x c (old x c q);exact⟨v,z.keeps hk⟩
 ·exact I.hok.fresh (Eo _)
 ·intro x c e;rcases cases2 x c e with q|q
  ·exact I.hok.fresh (by omega)
  ·exact I.freeC x c q
 ·intro p hp;have hp':p∈X.pn++pins:=by
   have:p∈(X.pn++pins)++[]:=hp;rwa [EB]at this
  obtain⟨e,n,ne,nf,d⟩:=I.pin p hp';refine⟨hk _ _ e,n,EW (Jm e),λz=>?_,d⟩;rcases ycM (I.stkSub p.1 z)with q|q;exact ne q;exact nf q
 ·show(aL fr Z).length=N'.length;rw[bC,B.len]
theorem Inv.leave{cells:List (Str×Addr)}{C:Addr}{pins':List (Addr×Obj)}{Z':St}{s':Jf}{pn:List (Addr×Obj)}(I:Inv X pins Z H s)(hex:∀b∈ex,dQ X pins H b)
  (J:Inv (yY X scope N' cells C s H ex pn xe) pins' Z' H' s'):Inv X pins Z H' s':=
 I.call' J.os J.base J.hok J.bare λb hb=>by
  obtain⟨_,f1,_,f3,f4,f5⟩:=hex b hb;exact⟨f3,f1,f4,f5⟩
theorem Inv.track{d:Addr}{o:HO}(I:Inv X pins Z H s)(hd:dQ X pins H d)(hX:d∉X.ex∨X.s₀.heap.objs.size<=d)(h0:X.s₀.heap.objs.size<=d)(new:Iz X.prog X.w (upd H d o) s.heap d o):Inv X pins Z (upd H d o) s:=by
 obtain⟨f0,f1,f2,f3,f4,f5⟩:=hd;refine⟨I.ok,I.os,I.bare,⟨I.base.keep,I.base.slot,λb u q n hx=>?_,I.base.there,λb xs q=>?_,λb u xs q=>?_,λb ps q=>?_⟩,I.loc,I.cell,?_,λx c e=>?_,λp hp=>?_,λb u q=>?_,I.len⟩
 ·rw[aN (EW (EH (Jm q) h0))];exact I.base.free b u q n hx
 ·have:=I.base.tups b xs q;rw[aN (ba this f0)];exact this
 ·have:=I.base.frzs b u xs q;rw[aN (ba this f0)];exact this
 ·obtain⟨m,this⟩:=I.base.tbls b ps q;exact⟨m,by rw[aN (ba this f0)];exact this⟩
 ·rw[aN (JI f1)];exact I.free
 ·rw[aN (f4 x c e)];exact I.freeC x c e
 ·obtain⟨e,n,ne,nf,dd⟩:=I.pin p hp;exact⟨e,by rw[aN (f5 p hp)];exact n,ne,nf,dd⟩
 ·by_cases hb:b=d
  ·subst hb;rw[aA]at q;cases q;exact new
  ·rw[aN hb]at q;exact(I.hok b u q).stay (λ_ _ _ z=>z) (λc z=>by rw[aN (ba z f0)];exact z) λc xs z=>by rw[aN (ba z f0)];exact z
end
noncomputable abbrev jF(ifs:List Expr) (env:Env):Sem Bool:=forIn ifs true λc r=>if r=true then do let ok ←LO c env (eval c env);pure (KM ok)else pure (KM r)
theorem fU{prog:Jq}{w:JB}{A:Jw}{R:LA->Jf->Prop}{s:Jf}{elt target iter:Expr}{ifs:List Expr}{scope:JW}{pos:Pos}{it acc:Jd}{env:Env}(I:Nat->Jf->Prop)
  (turn:∀n s,I n s->Jk (Jj prog w) A (Mn it) (λr s₁=>match r with
   | none=>R (.ok .next) s₁
   | some v=>Jk (Jj prog w) A (JM target it v) (λ_ s₁'=>Jk (Jj prog w) A (Kh target env v) (λ_ s₂=>
     Jk (Jj prog w) A (jF ifs env) (λok s₃=>
      if ok=true then Jk (Jj prog w) A (eval elt env) (λx s₄=>
       Jk (Jj prog w) A (call (.builtin "list.append") [acc,x]) (λ_ s₅=>∃m,m<n/\I m s₅) (Kl (Jj prog w) A env λe s'=>R (.error e) s') s₄) (Kl (Jj prog w) A env λe s'=>R (.error e) s') s₃
      else∃m,m<n/\I m s₃) (Kl (Jj prog w) A env λe s'=>R (.error e) s') s₂) (Kl (Jj prog w) A env λe s'=>R (.error e) s') s₁') (Kl (Jj prog w) A env λe s'=>R (.error e) s') s₁) (Kl (Jj prog w) A env λe s'=>R (.error e) s') s)
  (n:Nat) (h:I n s):JN (Jj prog w) A (.compLoop (.ListComp elt [⟨target,iter,ifs,0⟩] scope pos) 0 it acc env) R s:=by
 refine LH rfl I (λn s hI=>?_) n h;show Jk _ A ((Lv (.ListComp elt [⟨target,iter,ifs,0⟩] scope pos) 0 it acc env).onRaise (λx=>do LZ x env;KN x)) _ _ s;refine LU ?_;rw[compTurn_list];refine Je (JL (Je (Jo (turn n s hI) (λr s₁ h₁=>?_) λ_ _ h'=>h')));cases r with
 | none=>exact Jh h₁
 | some v=>
  refine Je (Jo h₁ (λ_ s₁' h₁'=>?_) λ_ _ h'=>h');refine Je (Jo h₁' (λ_ s₂ h₂=>Je (Jo h₂ (λok s₃ h₃=>?_) λ_ _ h'=>h')) λ_ _ h'=>h');cases ok with
  | false=>exact Jh ⟨rfl,h₃⟩
  | true=>
   exact Je (Je (Jo h₃ (λx s₄ h₄=>Je (Jo h₄ (λ_ s₅ h₅=>Jh (Jh ⟨rfl,h₅⟩)) λ_ _ h'=>h')) λ_ _ h'=>h'))
def PTs(X:Cx)(ifs:List Expr)(t:TT):Prop:=
 ∀(pins:List (Addr×Obj)) (s:Jf) (Z:St) (H:Hp) (Q:Bool->Hp->Prop),Inv X pins Z H s->t Z H Q->Jk (Jj X.prog X.w) X.A (jF ifs X.env) (TP X pins Z Q) X.xe s
def Dq:TT:=λ_ H Q=>Q true H
theorem wW{X:Cx}:PTs X [] Dq:=λ_ _ _ H _ I h=>wpAny_tests_nil ⟨H,I,h⟩
theorem wX{X:Cx}{c:Expr}{t:TT}(h:PT X c t):PTs X [c] t:=λpins s Z H Q I q=>wpAny_tests_one (h pins s Z H Q I q)
def Kp(fr:List (Option Nat))(Z Z':St):Prop:=Z'.length=Z.length/\∀i j:Nat,fr[i]?=some (some j)->Z'[i]?=Z[i]?
theorem Kp.refl(fr:List (Option Nat))(Z:St):Kp fr Z Z:=⟨rfl,λ_ _ _=>rfl⟩
theorem Kp.trans{fr:List (Option Nat)}{Z Z' Z'':St}(a:Kp fr Z Z')(b:Kp fr Z' Z''):Kp fr Z Z'':=⟨b.1.trans a.1,λi j e=>(b.2 i j e).trans (a.2 i j e)⟩
def b9(fr:List (Option Nat))(g:TG):Prop:=∀v Z H (Q Q':St->Hp->Prop),(∀Z' H',Q Z' H'->Kp fr Z Z'->Q' Z' H')->g v Z H Q->g v Z H Q'
def jG(fr:List (Option Nat))(g:TGs):Prop:=∀v Z H (Q Q':St->Hp->Prop),(∀Z' H',Q Z' H'->Kp fr Z Z'->Q' Z' H')->g v Z H Q->g v Z H Q'
theorem vQ{fr:List (Option Nat)}{i:Nat}(h:fr[i]?=some none):b9 fr (kL i):=λv Z H Q Q' k q=>by
 refine k _ _ q ⟨Gc,λi' j e=>?_⟩;have:i≠i':=λz=>by subst z;rw[h]at e;cases e
 exact ED this
theorem zi{fr:List (Option Nat)}:jG fr zg:=λv Z H Q Q' k q=>⟨q.1,k _ _ q.2 (Kp.refl _ _)⟩
theorem vP{fr:List (Option Nat)}{g:TG}{gs:TGs}(h1:b9 fr g)(h2:jG fr gs):jG fr (si g gs):=λvs Z H Q Q' k q=>by
 obtain⟨v,r,e,q⟩:=q;refine⟨v,r,e,h1 v Z H _ _ (λZ1 H1 q1 k1=>h2 r Z1 H1 _ _ (λZ2 H2 q2 k2=>k Z2 H2 q2 (k1.trans k2)) q1) q⟩
theorem zj{fr:List (Option Nat)}{K:yF}{n:Nat}{gs:TGs}(h:jG fr gs):b9 fr (vO K n gs):=λv Z H Q Q' k q=>by
 obtain⟨a,xs,e1,e2,e3,q⟩:=q;exact⟨a,xs,e1,e2,e3,h xs Z H Q Q' k q⟩
structure Bk where
 cells:List (Str×Addr)
 C:Addr
 s:Jf
 H:Hp
 ex:List Addr
 pn:List (Addr×Obj)
noncomputable abbrev cxB(X:Cx) (scope:JW) (N':List Str) (b:Bk):Cx:=yY X scope N' b.cells b.C b.s b.H b.ex b.pn λ_ _=>False
def va(wi:TI)(fr:List (Option Nat))(g:TG)(tc:TT)(te:TE):TE:=λZ H Q=>
 wi Z H λJ H1=>∃W:Nat->Nat->List V->Hp->Prop,(∃m,W 0 m [] H1)/\∀i m acc H,W i m acc H->acc.length<sizeLine ∧
  ((J.stop i H/\∀d,H d=none->Q (.ref d) (upd H d (.lst acc))) ∨
  (J.go i H/\∃N:List V->Hp->Prop,(∀acc' H',N acc' H'->∃m',m'<m/\W (i+1) m' acc' H') ∧
   ∀x H',J.yld i H x H'->g x (aL fr Z) H' λZ2 H2=>tc Z2 H2 λb H3=>if b=true then te Z2 H3 λv H4=>N (acc++[v]) H4 else N acc H3))
section
variable {X:Cx}{elt tg iter:Expr}{ifs:List Expr}{scope:JW}{pos:Pos}{N':List Str}{fr:List (Option Nat)}{wi:TI}{g:TG}{tc:TT}{te:TE}
theorem jM(hc:X.calm=true)(B:Blk X.env.scope scope X.N N' fr)
  (hg:∀b,PG (cxB X scope N' b) tg g) (hgk:b9 fr g) (ht:∀b,PTs (cxB X scope N' b) ifs tc) (he:∀b,PE (cxB X scope N' b) elt te)
  {pins:List (Addr×Obj)} {Z:St} {Q:VK} {itv:Jd} {s2:Jf} {E:Jd->Jf->Prop} {RR:Jd->Addr->LA->Jf->Prop}
  (h2:PIE X pins Z tg (λJ H1=>∃W:Nat->Nat->List V->Hp->Prop,(∃m,W 0 m [] H1)/\∀i m acc H,W i m acc H->acc.length<sizeLine ∧
   ((J.stop i H/\∀d,H d=none->Q (.ref d) (upd H d (.lst acc))) ∨
   (J.go i H/\∃N:List V->Hp->Prop,(∀acc' H',N acc' H'->∃m',m'<m/\W (i+1) m' acc' H') ∧
    ∀x H',J.yld i H x H'->g x (aL fr Z) H' λZ2 H2=>tc Z2 H2 λb H3=>if b=true then te Z2 H3 λv H4=>N (acc++[v]) H4 else N acc H3))) itv s2)
  (hRR:∀(d C:Addr) (v:V) (H':Hp) (s':Jf) m',Inv X pins Z H' s'->v=.ref d->Q v H'->s'.heap.Ns C m'->dQ X pins H' C->C≠d->RR (.ref d) C (.ok .next) s') :
  Jk (Jj X.prog X.w) X.A (NM []) (λacc s₃=>Jk (Jj X.prog X.w) X.A (Ks scope X.env.globals (br X.env scope.names []) [] X.env.qual none .none (some X.env)) (λcenv s₄=>
   JN (Jj X.prog X.w) X.A (.compStart (.ListComp elt [⟨tg,iter,ifs,0⟩] scope pos) 0 itv acc {cenv with scope:=LG scope X.env}) (RR acc cenv.locals) s₄) E s₃) E s2:=by
 obtain⟨it,fp,tn,J,H2,rfl,I2,T,st2,f2,W,⟨m0,w0⟩,turn⟩:=h2;refine Js ?_;generalize hd:s2.heap.objs.size=d;have I3:Inv X pins Z H2 {s2 with heap:=s2.heap.push {cls:=.type "list",dict:=none,data:=.seq ([]:List Jd).toArray}}:=I2.kept (t':=s2.toks) λb o e=>Jg _ e;have fd:dQ X pins H2 d:=I2.fpOk (by rw[hd];exact Eo _) (I2.hok.fresh (by rw[hd];exact Eo _));have od:(s2.heap.push {cls:=.type "list",dict:=none,data:=.seq ([]:List Jd).toArray}).get? d=some {cls:=.type "list",dict:=none,data:=.seq ([]:List Jd).toArray}:=by rw[←hd];exact Jn _ rfl
 have st3:tn 0 (s2.heap.push {cls:=.type "list",dict:=none,data:=.seq ([]:List Jd).toArray}):=T.keep _ _ _ st2 λb _ o e=>Jg _ e;have ne_d:∀b∈fp,b≠d:=λb hb=>by
  obtain⟨o,e,_⟩:=T.obj _ _ st2 b hb;rw[←hd];exact EW (Jm e)
 have hd0:X.s₀.heap.objs.size<=d:=by rw[←hd];exact I2.sz
 generalize hs3:({s2 with heap:=s2.heap.push {cls:=.type "list",dict:=none,data:=.seq ([]:List Jd).toArray}}:Jf)=s3 at I3;have od3:s3.heap.get? d=some {cls:=.type "list",dict:=none,data:=.seq ([]:List Jd).toArray}:=by rw[←hs3];exact od
 have st3':tn 0 s3.heap:=by rw[←hs3];exact st3
 have hex:∀b∈d::fp,dQ X pins H2 b/\∃o,s3.heap.get? b=some o:=λb hb=>by
  rcases ycM hb with e|hb;subst e;exact⟨fd,_,od3⟩
  ·obtain⟨o,e,_⟩:=T.obj _ _ st3' b hb;exact⟨f2 b hb,o,e⟩
 refine dP λh4 hns hk hcl=>?_;have J0:=I3.enter (ex:=d::fp) (xe:=λ_ _=>False) B hex hns hk hcl;generalize hCs:Jy (s3.heap.objs.size+1) scope.names (br X.env scope.names [])=cells at J0;have hCd:s3.heap.objs.size≠d:=λz=>by have:=Jm od3;rw[z]at this;exact Ff _ this
 let bk:Bk:=⟨cells,s3.heap.objs.size,s3,H2,d::fp,X.pn++pins⟩
 have J0':Inv (cxB X scope N' bk) [] (aL fr Z) H2 {s3 with heap:=h4}:=J0;show JN (Jj X.prog X.w) X.A (.compStart (.ListComp elt [⟨tg,iter,ifs,0⟩] scope pos) 0 (.ref it) (.ref d) (cxB X scope N' bk).env) (RR (.ref d) s3.heap.objs.size) {s3 with heap:=h4};have ne_pn:∀p∈X.pn++pins,p.1≠d/\∀b∈fp,p.1≠b:=λp hp=>⟨fd.2.2.2.2.2 p hp,λb hb=>(f2 b hb).2.2.2.2.2 p hp⟩;have fpk:∀{Hx:Hp} {o:Obj},(∀b∈fp,Hx b=none)->∀b∈fp,dQ (cxB X scope N' bk) [(d,o)] Hx b:=λ{Hx o} hn b hb=>by
  have hb':b∈d::fp:=ymC _ hb;refine⟨hn b hb,(J0'.ok.exf b hb').1,J0'.ok.exfs b hb',.inl hb',λx c e=>(J0'.ok.exf b hb').2 x c e,λp hp=>?_⟩;have hp':p∈(X.pn++pins)++[(d,o)]:=hp;rcases yaM hp' with z|z;exact(ne_pn p z).2 b hb
  ·have:p=(d,o):=by simpa using z
   rw[this];exact JI (ne_d b hb)
 have loop:∀s4:Jf,Inv (cxB X scope N' bk) [] (aL fr Z) H2 s4->tn 0 s4.heap->s4.heap.PlainList d #[] →
   JN (Jj X.prog X.w) X.A (.compLoop (.ListComp elt [⟨tg,iter,ifs,0⟩] scope pos) 0 (.ref it) (.ref d) (cxB X scope N' bk).env) (RR (.ref d) s3.heap.objs.size) s4:=by
  intro s4 J4 st4 pl4;refine fU (λn s'=>∃i acc its H' Z',Inv (cxB X scope N' bk) [] Z' H' s'/\Kp fr (aL fr Z) Z'/\tn i s'.heap/\(∀b∈fp,H' b=none)/\H' d=none/\s'.heap.PlainList d (G5 its)/\Vals acc its/\W i n acc H') ?_ m0
   ⟨0,[],[],H2,aL fr Z,J4,Kp.refl _ _,st4,λb hb=>(f2 b hb).1,fd.1,pl4,.nil,w0⟩
  rintro n s5 ⟨i,acc,its,H5,Z5,J5,kp5,st5,fr5,hd5,⟨n5,pl5⟩,va5,w5⟩;obtain⟨hz,cs⟩:=turn i n acc H5 w5;have J5p:Inv (cxB X scope N' bk) [(d,{cls:=.type "list",data:=.seq its.toArray n5})] Z5 H5 s5:=J5.pins_of λp hp=>by
   have:p=(d,{cls:=.type "list",data:=.seq its.toArray n5}):=by simpa using hp
   subst this;exact⟨pl5,hd5,(J0'.ok.exf d ymS).1,J0'.ok.exfs d ymS,λv z=>by cases z⟩
  rcases cs with⟨stop,q⟩|⟨go,N,hN,step⟩
  ·refine thn (T.done (cxB X scope N' bk) rfl rfl rfl hc i _ s5 Z5 H5 _ J5p (fpk fr5) st5 stop) λr s6 ⟨hr,J6⟩=>?_;subst hr;obtain⟨e6,n6,_⟩:=J6.pin (d,{cls:=.type "list",data:=.seq its.toArray n5}) (yaR _ (by simp));have I6:Inv X pins Z H5 s6:=I3.leave (λb hb=>(hex b hb).1) J6;have I6t:Inv X pins Z (upd H5 d (.lst acc)) s6:=I6.track ⟨hd5,fd.2⟩ (.inr hd0) hd0 ⟨by omega,its,n5,va5,e6⟩;obtain⟨m6,hn6,_⟩:=J6.loc;refine hRR d s3.heap.objs.size (.ref d) _ s6 m6 I6t rfl (q d hd5) hn6 ?_ hCd;exact I3.fpOk (Eo _) (by rw[aN hCd];exact J6.free)
  ·refine thn (T.item (cxB X scope N' bk) rfl rfl rfl hc i _ s5 Z5 H5 _ J5p (fpk fr5) st5 go) λr s6 ⟨u,hr,h6⟩=>?_;subst hr;refine thn h6 λ_ s7 ⟨x,H7,J7,r7,y7,st7,fr7⟩=>?_;have J7w:Inv (cxB X scope N' bk) [(d,{cls:=.type "list",data:=.seq its.toArray n5})] (aL fr Z) H7 s7:=J7.weak kp5.1.symm λk v e=>by
    cases q:fr[k]? with
    | none=>
     unfold aL at e;rw[Ep,q]at e;cases e
    | some o=>
     cases o with
     | none=>
      unfold aL at e;rw[Ep,q]at e;simp at e
     | some j=>rw[kp5.2 k j q];exact e
   have J7p:=J7w.pinned (fpk fr7) (T.obj _ _ st7);have never:∀{α:Type} {t:Sem α} {QQ : α->Jf->Prop} {EE:Jd->Jf->Prop} {ss:Jf},Jk (Jj X.prog X.w) X.A t QQ (λ_ _=>False) ss->Jk (Jj X.prog X.w) X.A t QQ EE ss:=λhh=>Jo hh (λ_ _ z=>z) λ_ _ z=>z.elim;have G:=hgk x (aL fr Z) H7 _ (λZ2 H2=>(tc Z2 H2 λb H3=>if b=true then te Z2 H3 λv H4=>N (acc++[v]) H4 else N acc H3)/\Kp fr (aL fr Z) Z2) (λZ' H' a b=>⟨a,b⟩) (step x H7 y7);refine never (thn (hg bk _ s7 (aL fr Z) H7 x u _ J7p r7 G) λ_ s8 ⟨Z8,H8,J8,q8,kp8⟩=>?_);refine never (thn (ht bk _ s8 Z8 H8 _ J8 q8) λok s9 ⟨H9,J9,q9⟩=>?_);have keepT:∀{Zx:St} {Hx:Hp} {sx:Jf},Inv (cxB X scope N' bk) ([(d,{cls:=.type "list",data:=.seq its.toArray n5})]++bp fp s7.heap) Zx Hx sx->(∀b∈fp,∀o,s7.heap.get? b=some o->sx.heap.get? b=some o)/\(∀b∈fp,Hx b=none)/\sx.heap.get? d=some {cls:=.type "list",data:=.seq its.toArray n5}/\Hx d=none:=λ{Zx Hx sx} Jx=>by
    refine⟨λb hb o e=>(Jx.pin (b,o) (yaR _ (yaR _ (bm hb e)))).1,λb hb=>?_,?_⟩
    ·obtain⟨o,e,_⟩:=T.obj _ _ st7 b hb;exact(Jx.pin (b,o) (yaR _ (yaR _ (bm hb e)))).2.1
    ·have:=Jx.pin (d,{cls:=.type "list",data:=.seq its.toArray n5}) (yaR _ (yaL _ (by simp)));exact⟨this.1,this.2.1⟩
   cases ok with
   | false=>
    rw[if_neg (by decide)]at q9⊢;obtain⟨m',hm,w9⟩:=hN _ _ q9;obtain⟨k1,k2,k3,k4⟩:=keepT J9;exact⟨m',hm,i+1,acc,its,H9,Z8,J9.pins_of (λp hp=>by simp at hp),kp8,T.keep _ _ _ st7 k1,k2,k4,⟨n5,k3⟩,va5,w9⟩
   | true=>
    rw[if_pos rfl]at q9⊢;refine never (thn (he bk _ s9 Z8 H9 _ J9 q9) λy s10 ⟨v,H10,J10,r10,q10⟩=>?_);obtain⟨m',hm,w10⟩:=hN _ _ q10;obtain⟨k1,k2,k3,k4⟩:=keepT J10;have hzs:its.toArray.size<=sizeLine:=by rw[Eh,←va5.length];omega
    refine Lw (hsz:=hzs) ⟨n5,k3⟩ λh11 pl11 sb11=>?_;have J10':Inv (cxB X scope N' bk) [] Z8 H10 s10:=J10.pins_of (λp hp=>by simp at hp);have J11:Inv (cxB X scope N' bk) [] Z8 H10 {s10 with heap:=h11}:=J10'.turned (it:=d) (t':=s10.toks) (λb o hb e=>(sb11.2 b hb).trans e) k4 (J0'.ok.exf d ymS).1 (.inl ymS) (λx c e=>(J0'.ok.exf d ymS).2 x c e) λp hp=>by
     have hp':p∈(X.pn++pins)++[]:=hp;rw[EB]at hp';exact(ne_pn p hp').1
    refine⟨m',hm,i+1,acc++[v],its++[y],H10,Z8,J11,kp8,T.keep _ _ _ st7 (λb hb o e=>(sb11.2 b (ne_d b hb)).trans (k1 b hb o e)),k2,k4,?_,va5.append (.cons r10 .nil),w10⟩;have:(its++[y]).toArray=its.toArray.push y:=by simp
    rw[this];exact pl11
 have st4:tn 0 h4:=T.keep _ _ _ st3' λb _ o e=>hk b o e;have pl4:h4.PlainList d #[]:=⟨0,hk d _ od3⟩;have L4:=loop {s3 with heap:=h4} J0' st4 pl4;exact LI L4 (T.self X.A 0 _ _ _ st4 L4)
theorem wF(hc:X.calm=true)(B:Blk X.env.scope scope X.N N' fr)(hi:PI X tg iter wi)
  (hg:∀b,PG (cxB X scope N' b) tg g) (hgk:b9 fr g) (ht:∀b,PTs (cxB X scope N' b) ifs tc) (he:∀b,PE (cxB X scope N' b) elt te)
  (hs:∀x,Jt iter X.env x=pure x:=by intro _;rfl):PE X (.ListComp elt [⟨tg,iter,ifs,0⟩] scope pos) (va wi fr g tc te):=by
 intro pins s Z H Q I h;rw[eval_ListComp];refine J1 (use:=none) rfl hs (cK (I.freeCells B)) B.kind B.locl (thn (hi pins s Z H _ I h) λv s1 h1=>thn h1 λitv s2 h2=>?_);refine jM (RR:=λacc C=>Nr (Jj X.prog X.w) X.A X.xe none (EP X pins Z Q) acc C) hc B hg hgk ht he h2 ?_;intro d C v H' s' m' I' hv q hn fC hCd;refine⟨m',hn,λh'' sb=>?_⟩;obtain⟨c0,c1,c2,c3,c4,c5⟩:=fC;exact⟨v,H',I'.turned (it:=C) (t':=s'.toks) (λb o hb e=>(sb.2 b hb).trans e) c0 c1 c3 c4 c5,by rw[hv];rfl,q⟩
theorem oq{i:Nat}{x:Str}{pos' spos:Pos}(hc:X.calm=true)(hN:X.N.Nodup)(hi':X.N[i]?=some x)(hx:X.env.scope.names.lookup x=some .local)(B:Blk X.env.scope scope X.N N' fr)(hi:PI X tg iter wi)
  (hg:∀b,PG (cxB X scope N' b) tg g) (hgk:b9 fr g) (ht:∀b,PTs (cxB X scope N' b) ifs tc) (he:∀b,PE (cxB X scope N' b) elt te)
  (hsw:Lp (.ListComp elt [⟨tg,iter,ifs,0⟩] scope pos) (some (.Name x pos')) spos.line X.env=pure true:=by rfl)
  (hs:∀x,Jt iter X.env x=pure x:=by intro _;rfl):PS X (.Assign [.Name x pos'] (.ListComp elt [⟨tg,iter,ifs,0⟩] scope pos) spos) (xT (va wi fr g tc te) (kL i)):=by
 intro pins s Z H D I h;rw[exec_Assign_Name_used _ _ _ _ hsw];refine Je (JL (Je ?_));show Jk _ _ (do let _ ←comprehension (.ListComp elt [⟨tg,iter,ifs,0⟩] scope pos) scope X.env _ (NM []) false (eval iter X.env) (some (Kh (.Name x pos') X.env))) _ _ s;refine Je (Jo (J1 (use:=some (Kh (.Name x pos') X.env)) (Q:=λ_ s'=>SP X pins D .next s') rfl hs (cK (I.freeCells B)) B.kind B.locl (thn (hi pins s Z H _ I h) λv s1 h1=>thn h1 λitv s2 h2=>?_)) (λ_ s' hq=>Jh (Jh hq)) λ_ _ e=>e);refine jM (Q:=λv H1=>kL i v Z H1 D.nx) (RR:=λacc C=>Nr (Jj X.prog X.w) X.A X.xe (some (Kh (.Name x pos') X.env)) (λ_ s'=>SP X pins D .next s') acc C) hc B hg hgk ht he h2 ?_;intro d C v H' s' m' I' hv q hn fC hCd;obtain⟨c0,c1,c2,c3,c4,c5⟩:=fC;subst hv;refine Mt (k9 I' hN hi' (.inl hx) (show RelV (.ref d) (.ref d)from rfl) (λs6 I6 ⟨a,sa,ha⟩=>?_) (.inr hx));have haC:C≠a:=by
  rcases ha with z|z;rw[z];exact c1;exact λz'=>c4 x a z z'.symm
 refine⟨m',hn.sameBut sa haC,λh'' sb=>?_⟩;exact⟨_,H',I6.turned (it:=C) (t':=s6.toks) (λb o hb e=>(sb.2 b hb).trans e) c0 c1 c3 c4 c5,q⟩
end
inductive D where
 | int (i:Int)|str (x:Str)|tup (ds:List D)
mutual
def Rep(K:yF)(H:Hp):D->V->Prop
 | .int i,v=>v=.int i
 | .str x,v=>v=.str x
 | .tup ds,v=>∃a xs,v=.ref a/\SqT K H a xs/\IA K H ds xs
def IA(K:yF)(H:Hp):List D->List V->Prop
 | [],xs=>xs=[]
 | d::ds,xs=>∃x r,xs=x::r/\Rep K H d x/\IA K H ds r
end
mutual
noncomputable def D.depth:D->Nat
 | .int _=>0
 | .str _=>0
 | .tup ds=>aJ ds+1
noncomputable def aJ:List D->Nat
 | []=>0
 | d::ds=>max d.depth (aJ ds)
end
theorem kH{d:D}:∀{ds:List D},d∈ds->d.depth<=aJ ds
 | [],h=>by cases h
 | e::ds,h=>by
  rw[aJ];rcases ycM h with z|z;rw[z];exact He _ _;exact ER (kH z) (GV _ _)
theorem IA.length{K:yF}{H:Hp}:∀{ds:List D} {xs:List V},IA K H ds xs->xs.length=ds.length
 | [],xs,h=>by rw[IA]at h;rw[h];rfl
 | d::ds,xs,h=>by
  rw[IA]at h;obtain⟨x,r,rfl,_,h3⟩:=h;rw[Ey,Ey,h3.length]
theorem Rep.tup_iff{K:yF}{H:Hp}{ds:List D}{v:V}:Rep K H (.tup ds) v ↔ ∃a xs,v=.ref a/\SqT K H a xs/\IA K H ds xs:=by rw[Rep]
theorem IG.laid{H:Hp}{p:Addr}{o:HO}(hp:H p=none):IG H (upd H p o):=λb u e=>by rw[aN (ba e hp)];exact e
section
variable {X:Cx}{pins:List (Addr×Obj)}{Z:St}{H:Hp}{s:Jf}
mutual
theorem Rep.inj(I:Inv X pins Z H s):∀{d e:D} {v:V},Rep X.K H d v->Rep X.K H e v->d=e
 | .int i,.int j,v,h,h'=>by simp only[Rep]at h h';subst h;cases h';rfl
 | .int i,.str j,v,h,h'=>by simp only[Rep]at h h';subst h;cases h'
 | .int i,.tup j,v,h,h'=>by simp only[Rep]at h h';subst h;obtain⟨_,_,z,_⟩:=h';cases z
 | .str i,.int j,v,h,h'=>by simp only[Rep]at h h';subst h;cases h'
 | .str i,.str j,v,h,h'=>by simp only[Rep]at h h';subst h;cases h';rfl
 | .str i,.tup j,v,h,h'=>by simp only[Rep]at h h';subst h;obtain⟨_,_,z,_⟩:=h';cases z
 | .tup i,.int j,v,h,h'=>by simp only[Rep]at h h';subst h';obtain⟨_,_,z,_⟩:=h;cases z
 | .tup i,.str j,v,h,h'=>by simp only[Rep]at h h';subst h';obtain⟨_,_,z,_⟩:=h;cases z
 | .tup ds,.tup es,v,h,h'=>by
  simp only[Rep]at h h';obtain⟨a,xs,rfl,h2,h3⟩:=h;obtain⟨b,ys,z,h4,h5⟩:=h';cases z;rw[I.tuple_inj h4 h2]at h5;rw[IA.inj I h3 h5]
theorem IA.inj(I:Inv X pins Z H s):∀{ds es:List D} {xs:List V},IA X.K H ds xs->IA X.K H es xs->ds=es
 | [],[],xs,h,h'=>rfl
 | [],e::es,xs,h,h'=>by simp only[IA]at h h';subst h;obtain⟨_,_,z,_⟩:=h';cases z
 | d::ds,[],xs,h,h'=>by simp only[IA]at h h';subst h';obtain⟨_,_,z,_⟩:=h;cases z
 | d::ds,e::es,xs,h,h'=>by
  simp only[IA]at h h';obtain⟨x,r,rfl,h2,h3⟩:=h;obtain⟨y,q,z,h4,h5⟩:=h';cases z;rw[Rep.inj I h2 h4,IA.inj I h3 h5]
end
open SeqAt in
mutual
theorem r8(I:Inv X pins Z H s):∀(d e:D) {x y:V} {u v:Jd} {A:Jw},Rep X.K H d x->Rep X.K H e y->RelV x u->RelV y v->A.units+d.depth<JP->∃b,(b=true↔d=e)/\EqAt A s u v b
 | .int i,.int j,x,y,u,v,A,h,h',r,r',_=>by
  simp only[Rep]at h h';subst h h';obtain⟨t,rfl⟩:=r;obtain⟨t',rfl⟩:=r';exact⟨_,by simp,EqAt.int_int i t j t'⟩
 | .int i,.str j,x,y,u,v,A,h,h',r,r',_=>by
  simp only[Rep]at h h';subst h h';obtain⟨t,rfl⟩:=r;obtain⟨t',rfl⟩:=r';exact⟨_,by simp,EqAt.int_str i t j t'⟩
 | .str i,.int j,x,y,u,v,A,h,h',r,r',_=>by
  simp only[Rep]at h h';subst h h';obtain⟨t,rfl⟩:=r;obtain⟨t',rfl⟩:=r';exact⟨_,by simp,EqAt.str_int i t j t'⟩
 | .str i,.str j,x,y,u,v,A,h,h',r,r',_=>by
  simp only[Rep]at h h';subst h h';obtain⟨t,rfl⟩:=r;obtain⟨t',rfl⟩:=r';exact⟨_,by simp,EqAt.str_str i t j t'⟩
 | .int i,.tup j,x,y,u,v,A,h,h',r,r',hu=>by
  simp only[Rep]at h h';subst h;obtain⟨t,rfl⟩:=r;obtain⟨a,xs,rfl,h2,_⟩:=h';cases r';obtain⟨its,_,p,_⟩:=I.tuple h2;exact⟨false,by simp,EqAt.int_tuple i t (show s.heap.IsTuple a its.toArray from p) (Fy (FQ _ _) hu)⟩
 | .str i,.tup j,x,y,u,v,A,h,h',r,r',hu=>by
  simp only[Rep]at h h';subst h;obtain⟨t,rfl⟩:=r;obtain⟨a,xs,rfl,h2,_⟩:=h';cases r';obtain⟨its,_,p,_⟩:=I.tuple h2;exact⟨false,by simp,EqAt.str_tuple i t (show s.heap.IsTuple a its.toArray from p) (Fy (FQ _ _) hu)⟩
 | .tup j,.int i,x,y,u,v,A,h,h',r,r',hu=>by
  simp only[Rep]at h h';subst h';obtain⟨t,rfl⟩:=r';obtain⟨a,xs,rfl,h2,_⟩:=h;cases r;obtain⟨its,_,p,_⟩:=I.tuple h2;exact⟨false,by simp,EqAt.tuple_int i t (show s.heap.IsTuple a its.toArray from p) (Fy (FQ _ _) hu)⟩
 | .tup j,.str i,x,y,u,v,A,h,h',r,r',hu=>by
  simp only[Rep]at h h';subst h';obtain⟨t,rfl⟩:=r';obtain⟨a,xs,rfl,h2,_⟩:=h;cases r;obtain⟨its,_,p,_⟩:=I.tuple h2;exact⟨false,by simp,EqAt.tuple_str i t (show s.heap.IsTuple a its.toArray from p) (Fy (FQ _ _) hu)⟩
 | .tup ds,.tup es,x,y,u,v,A,h,h',r,r',hu=>by
  by_cases hne:u=v
  ·subst hne;have hxy:x=y:=r.inj r';subst hxy;exact⟨true,by simp[Rep.inj I h h'],EqAt.same u⟩
  ·simp only[Rep]at h h';obtain⟨a,xs,rfl,h2,h3⟩:=h;obtain⟨b,ys,rfl,h4,h5⟩:=h';cases r;cases r';obtain⟨its,rv,p,_⟩:=I.tuple h2;obtain⟨its',rv',p',_⟩:=I.tuple h4;have hab:a≠b:=λz=>hne (by rw[z]);have hu':A.in1.units+aJ ds<JP:=by
    have:A.units+(aJ ds+1)<JP:=by rw[D.depth]at hu;exact hu
    show A.units+1+aJ ds<JP;omega
   obtain⟨e,he,hE⟩:=gv I ds es (A:=A.in1) h3 h5 rv rv' hu';have R:=RcAt.tuples (A:=A) (s:=s) (l:=a) (b:=b) (items:=its.toArray) (items2:=its'.toArray) (e:=e) (show s.heap.IsTuple a its.toArray from p) (show s.heap.IsTuple b its'.toArray from p') (Fy (FQ _ _) hu) (λj h1 h2=>by
    simpa using hE j (its[j]'(by simpa using h1)) (its'[j]'(by simpa using h2)) (by simp) (by simp))
   refine⟨_,?_,EqAt.of_refs hab R⟩;rw[he.symm];have l1:its.toArray.size=ds.length:=by rw[Eh,←rv.length,h3.length]
   have l2:its'.toArray.size=es.length:=by rw[Eh,←rv'.length,h5.length]
   rw[l1,l2];simp
theorem gv(I:Inv X pins Z H s):∀(ds es:List D) {xs ys:List V} {us vs:List Jd} {A:Jw},IA X.K H ds xs->IA X.K H es ys->Vals xs us->Vals ys vs->A.units+aJ ds<JP →
  ∃e:Nat->Bool,(((EU (min ds.length es.length)).all e=true/\ds.length=es.length)↔D.tup ds=D.tup es)/\∀(j:Nat) u v,us[j]?=some u->vs[j]?=some v->EqAt A s u v (e j)
 | [],es,xs,ys,us,vs,A,h,h',r,r',_=>by
  rw[IA]at h;subst h;cases r;refine⟨λ_=>true,?_,λj u v e=>by simp at e⟩;cases es<;>simp
 | d::ds,[],xs,ys,us,vs,A,h,h',r,r',_=>by
  rw[IA]at h';subst h';cases r';exact⟨λ_=>true,by simp,λj u v _ e=>by simp at e⟩
 | d::ds,e::es,xs,ys,us,vs,A,h,h',r,r',hu=>by
  simp only[IA]at h h';obtain⟨x,q,rfl,h2,h3⟩:=h;obtain⟨y,q',rfl,h4,h5⟩:=h';cases r with
  | cons r1 r2=>
   cases r' with
   | cons r3 r4=>
    rw[aJ]at hu;have m1:=He d.depth (aJ ds);have m2:=GV d.depth (aJ ds);obtain⟨b,hb,hB⟩:=r8 I d e (A:=A) h2 h4 r1 r3 (by omega);obtain⟨f,hf,hF⟩:=gv I ds es (A:=A) h3 h5 r2 r4 (by omega);refine⟨λj=>match j with|0=>b|j+1=>f j,?_,λj u v e1 e2=>?_⟩
    ·have hf':((EU (min ds.length es.length)).all f=true/\ds.length=es.length)↔ds=es:=by rw[hf];simp
     rw[Ey,Ey,Nat.succ_min_succ,G6,Fs,HJ];simp only[D.tup.injEq,FG.injEq,Ei,Nat.add_right_cancel_iff];rw[←hf',←hb];constructor;rintro⟨⟨a1,a2⟩,a3⟩;exact⟨a1,a2,a3⟩;rintro⟨a1,a2,a3⟩;exact⟨⟨a1,a2⟩,a3⟩
    ·cases j with
     | zero=>simp at e1 e2;subst e1 e2;exact hB
     | succ j=>exact hF j u v (by simpa using e1) (by simpa using e2)
end
end
section
variable {X:Cx}
def CW(K:yF):R2:=λx y H Q=>∃ds es,Rep K H (.tup ds) x/\Rep K H (.tup es) y/\aJ ds<=50/\∀b,(b=true↔ds=es)->Q (.bl b) H
def C2(K:yF):R2:=λx y H Q=>∃ds es,Rep K H (.tup ds) x/\Rep K H (.tup es) y/\aJ ds<=50/\∀b,(b=true↔ds≠es)->Q (.bl b) H
theorem zF(hu:X.A.units+64<JP):OpR X (JE .Eq) (CW X.K):=by
 intro pins s Z H x y v u Q I rx ry h;obtain⟨ds,es,h1,h2,hd,q⟩:=h;rw[Rep.tup_iff]at h1 h2;obtain⟨a,xs,rfl,h3,h4⟩:=h1;obtain⟨b,ys,rfl,h5,h6⟩:=h2;cases rx;cases ry;obtain⟨its,rv,p,_⟩:=I.tuple h3;obtain⟨its',rv',p',_⟩:=I.tuple h5;have hu':X.A.in1.units+aJ ds<JP:=by show X.A.units+1+aJ ds<JP;omega
 obtain⟨e,he,hE⟩:=gv I ds es (A:=X.A.in1) h4 h6 rv rv' hu';have R:=Nt.tuples (A:=X.A) (s:=s) (l:=a) (b:=b) (items:=its.toArray) (items2:=its'.toArray) (e:=e) (show s.heap.IsTuple a its.toArray from p) (show s.heap.IsTuple b its'.toArray from p') (by omega) (λj h1 h2=>by
  simpa using hE j (its[j]'(by simpa using h1)) (its'[j]'(by simpa using h2)) (by simp) (by simp))
 refine R X.prog X.w X.xe _ ⟨.bl _,H,I,rfl,q _ ?_⟩;have l1:its.toArray.size=ds.length:=by rw[Eh,←rv.length,h4.length]
 have l2:its'.toArray.size=es.length:=by rw[Eh,←rv'.length,h6.length]
 have he':((EU (min ds.length es.length)).all e=true/\ds.length=es.length)↔ds=es:=by rw[he];simp
 rw[l1,l2,←he'];simp
theorem zL(hu:X.A.units+64<JP):OpR X (JE .NotEq) (C2 X.K):=by
 intro pins s Z H x y v u Q I rx ry h;obtain⟨ds,es,h1,h2,hd,q⟩:=h;rw[Rep.tup_iff]at h1 h2;obtain⟨a,xs,rfl,h3,h4⟩:=h1;obtain⟨b,ys,rfl,h5,h6⟩:=h2;cases rx;cases ry;obtain⟨its,rv,p,_⟩:=I.tuple h3;obtain⟨its',rv',p',_⟩:=I.tuple h5;have hu':X.A.in1.units+aJ ds<JP:=by show X.A.units+1+aJ ds<JP;omega
 obtain⟨e,he,hE⟩:=gv I ds es (A:=X.A.in1) h4 h6 rv rv' hu';have R:=NT (A:=X.A) (s:=s) (l:=a) (b:=b) (items:=its.toArray) (items2:=its'.toArray) (e:=e) (show s.heap.IsTuple a its.toArray from p) (show s.heap.IsTuple b its'.toArray from p') (by omega) (λj h1 h2=>by
  simpa using hE j (its[j]'(by simpa using h1)) (its'[j]'(by simpa using h2)) (by simp) (by simp))
 refine R X.prog X.w X.xe _ ⟨.bl _,H,I,rfl,q _ ?_⟩;have l1:its.toArray.size=ds.length:=by rw[Eh,←rv.length,h4.length]
 have l2:its'.toArray.size=es.length:=by rw[Eh,←rv'.length,h6.length]
 have he':((EU (min ds.length es.length)).all e=true/\ds.length=es.length)↔ds=es:=by rw[he];simp
 rw[l1,l2,ne_eq,←not_congr he',EM,←Gr,Ei,beq_iff_eq]
def CY(K:yF):R2:=λx y H Q=>∃a b xs ys ds es,x=.ref a/\y=.ref b/\SqL K H a xs/\SqL K H b ys/\IA K H ds xs/\IA K H es ys/\aJ ds<=50/\∀c,(c=true↔ds=es)->Q (.bl c) H
def C3(K:yF):R2:=λx y H Q=>∃a b xs ys ds es,x=.ref a/\y=.ref b/\SqL K H a xs/\SqL K H b ys/\IA K H ds xs/\IA K H es ys/\aJ ds<=50/\∀c,(c=true↔ds≠es)->Q (.bl c) H
theorem zG(hu:X.A.units+64<JP):OpR X (JE .Eq) (CY X.K):=by
 intro pins s Z H x y v u Q I rx ry h;obtain⟨a,b,xs,ys,ds,es,rfl,rfl,h3,h5,h4,h6,hd,q⟩:=h;cases rx;cases ry;obtain⟨its,rv,p,_⟩:=I.list h3;obtain⟨its',rv',p',_⟩:=I.list h5;have hu':X.A.in1.units+aJ ds<JP:=by show X.A.units+1+aJ ds<JP;omega
 obtain⟨e,he,hE⟩:=gv I ds es (A:=X.A.in1) h4 h6 rv rv' hu';have l1:its.toArray.size=ds.length:=by rw[Eh,←rv.length,h4.length]
 have l2:its'.toArray.size=es.length:=by rw[Eh,←rv'.length,h6.length]
 have he':((EU (min ds.length es.length)).all e=true/\ds.length=es.length)↔ds=es:=by rw[he];simp
 by_cases hl:ds.length=es.length
 ·have R:=Nt.lists (A:=X.A) (s:=s) (l:=a) (b:=b) (items:=its.toArray) (items2:=its'.toArray) (e:=e) p.isList p'.isList (by rw[l1,l2];exact hl) (by omega) (λj h1 h2=>by
   simpa using hE j (its[j]'(by simpa using h1)) (its'[j]'(by simpa using h2)) (by simp) (by simp))
  refine R X.prog X.w X.xe _ ⟨.bl _,H,I,rfl,q _ ?_⟩;rw[l1,←he',←hl,Ii];simp
 ·have R:=Nt.lists_lengths (A:=X.A) (s:=s) (l:=a) (b:=b) (items:=its.toArray) (items2:=its'.toArray) p.isList p'.isList (by rw[l1,l2];simpa using hl) (by omega);refine R X.prog X.w X.xe _ ⟨.bl _,H,I,rfl,q _ ?_⟩;constructor;intro z;cases z;intro z;exact absurd (by rw[z]) hl
theorem zM(hu:X.A.units+64<JP):OpR X (JE .NotEq) (C3 X.K):=by
 intro pins s Z H x y v u Q I rx ry h;obtain⟨a,b,xs,ys,ds,es,rfl,rfl,h3,h5,h4,h6,hd,q⟩:=h;cases rx;cases ry;obtain⟨its,rv,p,_⟩:=I.list h3;obtain⟨its',rv',p',_⟩:=I.list h5;have hu':X.A.in1.units+aJ ds<JP:=by show X.A.units+1+aJ ds<JP;omega
 obtain⟨e,he,hE⟩:=gv I ds es (A:=X.A.in1) h4 h6 rv rv' hu';have l1:its.toArray.size=ds.length:=by rw[Eh,←rv.length,h4.length]
 have l2:its'.toArray.size=es.length:=by rw[Eh,←rv'.length,h6.length]
 have he':((EU (min ds.length es.length)).all e=true/\ds.length=es.length)↔ds=es:=by rw[he];simp
 by_cases hl:ds.length=es.length
 ·have R:=NX (A:=X.A) (s:=s) (l:=a) (b:=b) (items:=its.toArray) (items2:=its'.toArray) (e:=e) p.isList p'.isList (by rw[l1,l2];exact hl) (by omega) (λj h1 h2=>by
   simpa using hE j (its[j]'(by simpa using h1)) (its'[j]'(by simpa using h2)) (by simp) (by simp))
  refine R X.prog X.w X.xe _ ⟨.bl _,H,I,rfl,q _ ?_⟩;rw[l1,ne_eq,←not_congr he',←hl,Ii];simp
 ·have R:=Nu (A:=X.A) (s:=s) (l:=a) (b:=b) (items:=its.toArray) (items2:=its'.toArray) p.isList p'.isList (by rw[l1,l2];simpa using hl) (by omega);refine R X.prog X.w X.xe _ ⟨.bl _,H,I,rfl,q _ ?_⟩;constructor;intro _ z;exact absurd (by rw[z]) hl;intro _;rfl
open Classical in
noncomputable def isD(K:yF) (H:Hp) (d:D) (u:Jd):Bool:=decide (∃v,RelV v u/\Rep K H d v)
open Classical in
theorem lI{K:yF}{H:Hp}{d:D}{u:Jd}:isD K H d u=true ↔ ∃v,RelV v u/\Rep K H d v:=by
 unfold isD;exact decide_eq_true_iff
theorem ig{pins:List (Addr×Obj)}{Z:St}{H:Hp}{s:Jf}(I:Inv X pins Z H s){d:D}:∀{ds:List D} {xs:List V} {us:List Jd},IA X.K H ds xs->Vals xs us->(us.any (isD X.K H d)=true↔d∈ds)
 | [],xs,us,h,r=>by rw[IA]at h;subst h;cases r;simp
 | e::ds,xs,us,h,r=>by
  rw[IA]at h;obtain⟨x,q,rfl,h2,h3⟩:=h;cases r with
  | @cons _ u0 _ us0 r1 r2=>
   rw[GN,FD,ig I h3 r2,E8];have:isD X.K H d u0=true↔d=e:=by
    rw[lI];constructor
    ·rintro⟨v,rv,hv⟩;rw[rv.inj r1]at hv;exact Rep.inj I hv h2
    ·intro z;subst z;exact⟨x,r1,h2⟩
   rw[this]
theorem eK{pins:List (Addr×Obj)}{Z:St}{H:Hp}{s:Jf}(I:Inv X pins Z H s){A:Jw}{d:D}{x:V}{v:Jd}(hx:Rep X.K H d x)(rx:RelV x v){ds:List D}(hu:A.units+aJ ds<JP) :
  ∀{es:List D} {xs:List V} {us:List Jd},(∀e∈es,e∈ds)->IA X.K H es xs->Vals xs us->∀u∈us,Jz A s u v (isD X.K H d u)
 | [],xs,us,_,h,r=>by rw[IA]at h;subst h;cases r;intro u hu;cases hu
 | e::es,xs,us,hs,h,r=>by
  rw[IA]at h;obtain⟨y,q,rfl,h2,h3⟩:=h;cases r with
  | cons r1 r2=>
   intro u hu';rcases ycM hu' with z|z
   ·subst z;obtain⟨b,hb,hB⟩:=r8 I e d (A:=A) h2 hx r1 rx (Fy (Hr (kH (hs e ymS)) _) hu);have:isD X.K H d u=b:=by
     have h5:isD X.K H d u=true↔e=d:=by
      rw[lI];constructor
      ·rintro⟨w,rw',hw⟩;rw[rw'.inj r1]at hw;exact(Rep.inj I hw h2).symm
      ·intro z;subst z;exact⟨y,r1,h2⟩
     rw[EY,h5,hb]
    rw[this];exact hB
   ·exact eK I hx rx hu (λe' h'=>hs e' (ymC _ h')) h3 r2 u z
def xq(K:yF)(neg:Bool):R2:=λx y H Q=>∃p xs d ds,y=.ref p/\(SqL K H p xs∨SqT K H p xs)/\Rep K H d x/\IA K H ds xs/\aJ ds<=50/\∀b,(b=true↔(if neg=true then d∉ds else d∈ds))->Q (.bl b) H
theorem zI(hu:X.A.units+64<JP):OpR X (JE .In) (xq X.K false):=by
 intro pins s Z H x y v u Q I rx ry h;obtain⟨p,xs,d,ds,rfl,hq,hx,hs,hd,q⟩:=h;cases ry;have hu':X.A.in1.units+aJ ds<JP:=by show X.A.units+1+aJ ds<JP;omega
 rcases hq with hq|hq
 ·obtain⟨its,rv,pl,_⟩:=I.list hq;refine MZ (isD X.K H d) pl.isList (λy hy=>eK I hx rx hu' (λ_ z=>z) hs rv y (by simpa using hy)) ⟨.bl _,H,I,rfl,q _ ?_⟩;rw[if_neg (by decide),←ig I hs rv];simp
 ·obtain⟨its,rv,pl,_⟩:=I.tuple hq;refine MQ (isD X.K H d) (show s.heap.IsTuple p its.toArray from pl) (λy hy=>eK I hx rx hu' (λ_ z=>z) hs rv y (by simpa using hy)) ⟨.bl _,H,I,rfl,q _ ?_⟩;rw[if_neg (by decide),←ig I hs rv];simp
theorem qB(hu:X.A.units+64<JP):OpR X (JE .NotIn) (xq X.K true):=by
 intro pins s Z H x y v u Q I rx ry h;obtain⟨p,xs,d,ds,rfl,hq,hx,hs,hd,q⟩:=h;cases ry;have hu':X.A.in1.units+aJ ds<JP:=by show X.A.units+1+aJ ds<JP;omega
 rcases hq with hq|hq
 ·obtain⟨its,rv,pl,_⟩:=I.list hq;refine Mq (isD X.K H d) pl.isList (λy hy=>eK I hx rx hu' (λ_ z=>z) hs rv y (by simpa using hy)) ⟨.bl _,H,I,rfl,q _ ?_⟩;rw[if_pos rfl,←ig I hs rv];simp
 ·obtain⟨its,rv,pl,_⟩:=I.tuple hq;refine Mc (isD X.K H d) (show s.heap.IsTuple p its.toArray from pl) (λy hy=>eK I hx rx hu' (λ_ z=>z) hs rv y (by simpa using hy)) ⟨.bl _,H,I,rfl,q _ ?_⟩;rw[if_pos rfl,←ig I hs rv];simp
def nE(i j:Int):Prop:=0<j/\j<2^64
theorem qA:OpR X (JK .FloorDiv) (rI nE λi j=>.int (i / j)):=opI λi j _ _ _ _ _ hc q=>by
 have h1:(0:Int)<j:=hc.1;have h2:j<2^64:=hc.2;refine floordiv_int (by omega) (by rw[Int.fdiv_eq_ediv_of_nonneg i (by omega)];exact q) (.inl (PyProof.noPylong_of_log2 ?_));have h3:j.natAbs<2^64:=by omega
 have h4:j.natAbs≠0:=by omega
 have:=(Nat.log2_lt h4).mpr h3;omega
theorem Ak{tg e:Expr}{te:TE}(he:PE X e te):PI X tg e (λZ H R=>te Z H λx H1=>∃z:Str,x=.str z/\R ⟨λi _=>i<z.cps.size,λi H y H'=>H'=H/\∃c,z.cps[i]?=some c/\y=.str ⟨#[c]⟩,λi _=>z.cps.size<=i⟩ H1):=by
 intro pins s Z H R I h;refine thn (he pins s Z H _ I h) λv s1 ⟨x,H1,I1,r1,q1⟩=>?_;obtain⟨z,rfl,q⟩:=q1;obtain⟨t,rfl⟩:=r1;have main:∀(n:String) (o:Obj),(["enumerate","zip","dict_itemiterator","dict_reverseitemiterator","odict_iterator","itertools.zip_longest","itertools.pairwise"].contains n=false) →
   o={cls:=.type n,data:=.fields #[.str z t,.int 0 0]}->(∀A':Jw,A'.handled=none->NZ X.prog X.w A' s1.heap.objs.size [s1.heap.objs.size] [s1.heap.objs.size] z.cps.size (SignAt z) (λi h=>h.IsStrIter s1.heap.objs.size n z t i)) →
   (∀(A:Jw) (i:Nat) (s:Jf) (Q:Jd->Jf->Prop) (E:Jd->Jf->Prop),s.heap.IsStrIter s1.heap.objs.size n z t i->Q (.ref s1.heap.objs.size) s->Jk (Jj X.prog X.w) A (MP (.ref s1.heap.objs.size)) Q E s) →
   PIE X pins Z tg R (.ref s1.heap.objs.size) {s1 with heap:=s1.heap.push o}:=by
  intro n o hn ho W hself;subst ho;refine⟨s1.heap.objs.size,[s1.heap.objs.size],λi h=>h.IsStrIter s1.heap.objs.size n z t i/\i<=z.cps.size,_,H1,rfl,I1.kept (t':=s1.toks) λb o e=>Jg _ e,?_,⟨⟨_,Jn _ rfl,rfl,rfl⟩,Fd _⟩,λb hb=>?_,q⟩
  ·refine⟨by simp,λi h st b hb=>?_,λi h h' st k=>⟨?_,st.2⟩,?_,?_,λA i s Q E st h=>?_⟩
   ·have e:b=s1.heap.objs.size:=by simpa using hb
    subst e;obtain⟨o,e,c,d⟩:=st.1;exact⟨o,e,λv z=>by rw[d]at z;cases z⟩
   ·obtain⟨o,ho,r⟩:=st.1;exact⟨o,k _ (by simp) o ho,r⟩
   ·intro Y hP hw hK hc i pins' s' Z' H' E I' hf st hg;obtain⟨f0,f1,f2,f3,f4,f5⟩:=hf s1.heap.objs.size (by simp);refine(W Y.A (I'.ok.hd hc)).item i s' _ _ hg st.1 λv h' tk hv st' kk=>?_;obtain⟨c,u,hc',rfl⟩:=hv;have I1':Inv Y pins' Z' H' {s' with heap:=h',toks:=tk}:=I'.turned (λb o hb e=>kk b o (by simpa using hb) e) f0 f1 f3 f4 f5;obtain⟨o,e,cl,d⟩:=id st';exact⟨_,rfl,pf (s:={s' with heap:=h',toks:=tk}) e cl d hn ⟨.str ⟨#[c]⟩,H',I1',⟨u,rfl⟩,⟨rfl,c,hc',rfl⟩,⟨st',hg⟩,λb hb=>(hf b hb).1⟩⟩
   ·intro Y hP hw hK hc i pins' s' Z' H' E I' hf st hg;obtain⟨f0,f1,f2,f3,f4,f5⟩:=hf s1.heap.objs.size (by simp);have hi:i=z.cps.size:=Nat.le_antisymm st.2 hg;refine(W Y.A (I'.ok.hd hc)).done s' _ _ (hi▸st.1) λh' tk kk=>⟨rfl,?_⟩;exact I'.turned (λb o hb e=>kk b o (by simpa using hb) e) f0 f1 f3 f4 f5
   ·exact hself A i s Q E st.1 h
  ·have e:b=s1.heap.objs.size:=by simpa using hb
   subst e;exact I1.fpOk (Eo _) (I1.hok.fresh (Eo _))
 cases ha:z.cps.all (· < 128);exact wpAny_pyIter_wide ha (main "str_iterator" _ (by decide) rfl (λA' hA=>NZ.strWide hA _ z t) λA i s Q E st h=>wpAny_pyIter_striter_wide st h);exact wpAny_pyIter_ascii ha (main "str_ascii_iterator" _ (by decide) rfl (λA' hA=>NZ.strAscii hA _ z t) λA i s Q E st h=>wpAny_pyIter_striter_ascii st h)
end
noncomputable abbrev sL(z:Str):List Nat:=z.cps.toList
noncomputable abbrev oL(l:List Nat):Str:=⟨l.toArray⟩
theorem dM(l:List Nat):sL (oL l)=l:=rfl
theorem sR(z:Str):oL (sL z)=z:=by cases z;rfl
theorem eD(z:Str):z.length=(sL z).length:=by unfold NV sL;rw[Fv]
theorem j6(x y:Str):sL (x++y)=sL x++sL y:=by
 show(x.cps++y.cps).toList=_;rw[Array.toList_append]
theorem l0{x y:Str}(h:sL x=sL y):x=y:=by rw[←sR x,h,sR]
noncomputable def cU{α:Type} (xs:List α) (lo hi:Option Int):List α:=(xs.drop (HT.sIx xs.length 0 lo)).take (HT.sIx xs.length xs.length hi-HT.sIx xs.length 0 lo)
theorem nt(lo hi:Option Int)(n:Nat):JD lo hi 1 n=(EU (HT.sIx n n hi-HT.sIx n 0 lo)).map (HT.sIx n 0 lo + ·):=by
 have h1:(1:Int)>0:=by omega
 have clip:∀(v:Option Int) (d:Nat),(match v with|none=>(d:Int)|some i=>(if(1:Int)>0 then max 0 (min (if i<0 then i+(n:Int)else i) (n:Int))else max (-1) (min (if i<0 then i+(n:Int)else i) ((n:Int)-1))))=((HT.sIx n d v:Nat):Int):=by
  intro v d;cases v with
  | none=>rfl
  | some i=>
   show(if(1:Int)>0 then max 0 (min (if i<0 then i+(n:Int)else i) (n:Int))else _)=(((if i<0 then(i+(n:Int)).toNat else min i.toNat n):Nat):Int);rw[if_pos h1];by_cases hi:i<0;simp only[if_pos hi];omega;simp only[if_neg hi];omega
 have e:JD lo hi 1 n=sliceRange ((HT.sIx n 0 lo:Nat):Int) ((HT.sIx n n hi:Nat):Int) 1:=by
  unfold JD;simp only[h1,if_true];have c1:=clip lo 0;have c2:=clip hi n;simp only[h1,if_true]at c1 c2;rw[←c1,←c2];rfl
 rw[e,Np]
theorem ln(x:Str)(lo hi:Option Int):NE x lo hi=oL (cU (sL x) lo hi):=by
 have hn:x.length=(sL x).length:=eD x;have key:((JD lo hi 1 x.length).filterMap (x.cps[·]?))=cU (sL x) lo hi:=by
  rw[nt,hn];unfold cU;exact NP x.cps _ _
 unfold NE;split
 ·rename_i h;have h2:(JD lo hi 1 x.length).length=x.length:=by
   simp only[Ei]at h;simpa using h.2
  have h3:(cU (sL x) lo hi)=sL x:=by
   unfold cU;rw[nt,Ej,HK,hn]at h2;have a1:=HT.sIx_le (sL x).length (sL x).length (Eo _) hi;have a2:HT.sIx (sL x).length 0 lo=0∨(sL x).length=0:=by omega
   rcases a2 with a2|a2
   ·rw[a2,Ib];exact EG (by omega)
   ·rw[FS a2];simp
  rw[h3,sR]
 ·rw[key]
section
variable {X:Cx}
theorem Be:SlR X (λx lo hi H Q=>∃z,x=.str z/\z.length<=sizeLine/\Q (.str (oL (cU (sL z) lo hi))) H):=by
 intro pins s Z H x v vl vu lo hi sl Q I rx hs pl pu h;obtain⟨z,rfl,hz,q⟩:=h;obtain⟨t,rfl⟩:=rx;have hp:∀{v:Jd} {o:Option Int},Ll v o->∃p:Option (Int×Tok),v=partValue p/\p.map (·.1)=o:=λ{v o} p=>by
  cases p with
  | none=>exact⟨none,rfl,rfl⟩
  | int i t=>exact⟨some (i,t),rfl,rfl⟩
 obtain⟨l,rfl,rfl⟩:=hp pl;obtain⟨u,rfl,rfl⟩:=hp pu;refine⟨"str",_,F.slot_str_getitem.lookup,No _ _ _,?_⟩;refine wpAny_getItem_str_slice (l:=l) (u:=u) (st:=none) hs rfl ?_;have e:sliceMade z t l u none=if((1:Int)==1&&(JD (l.map (·.1)) (u.map (·.1)) 1 z.length).length==z.length)=true then Made.val (.str z t)else Made.str ⟨((JD (l.map (·.1)) (u.map (·.1)) 1 z.length).filterMap (z.cps[·]?)).toArray⟩:=rfl;rw[e];refine M5 ⟨ER (Txt.slice_le z _ _) hz,λt' k=>?_⟩;refine⟨.str (NE z (l.map (·.1)) (u.map (·.1))),H,I.tok k,⟨t',rfl⟩,?_⟩;rw[ln];exact q
def rSl(K:yF):V->Option Int->Option Int->Hp->VK->Prop:=λx lo hi H Q=>C6 K x lo hi H Q∨C5 K x lo hi H Q ∨ ∃z,x=.str z/\z.length<=sizeLine/\Q (.str (oL (cU (sL z) lo hi))) H
theorem oJ{zs:List Str}:∀{us:List Jd},Vals (zs.map V.str) us->StrsAre us zs:=by
 induction zs with
 | nil=>intro us r;rw[FB]at r;cases r;exact .nil
 | cons n ns ih=>
  intro us r;rw[Ek]at r;cases r with
  | cons r1 r2=>
   obtain⟨t,e⟩:=r1;subst e;exact .cons n t (ih r2)
theorem wn:MtR X "str.join" (λx vs H Q=>∃z a zs,x=.str z/\vs=[.ref a]/\SqL X.K H a (zs.map V.str)/\(zs.map (·.length)).sum+zs.length*z.length<=16777216/\Q (.str (Kt z zs)) H):=by
 intro pins s Z H x xs v us Q I rx rv h;obtain⟨z,a,zs,rfl,rfl,hq,hz,q⟩:=h;obtain⟨t,rfl⟩:=rx;obtain⟨u,rfl,ru⟩:=gp rv;cases ru;obtain⟨its,r,p,_⟩:=I.list hq;exact join_list p.isList (by simpa using oJ r) hz λt' k=>⟨.str (Kt z zs),H,I.tok k,⟨t',rfl⟩,q⟩
theorem qh(zs:List Str):sL (Kt (oL []) zs)=(zs.map sL).flatten:=by
 have key:∀(zs:List Str) (acc:Array Nat),(zs.foldl (λacc p=>acc++(oL []).cps++p.cps) acc).toList=acc.toList++(zs.map sL).flatten:=by
  intro zs
  induction zs with
  | nil=>intro acc;simp
  | cons z zs ih=>
   intro acc;rw[Fj,ih];simp
 cases zs with
 | nil=>rfl
 | cons z zs=>
  show(zs.foldl (λacc p=>acc++(oL []).cps++p.cps) z.cps).toList=_;rw[key];simp
theorem op_mulS:OpR X (JK .Mult) (λx y H Q=>∃z n,x=.str z/\y=.int n/\1<=n/\n<=1000/\z.length<=1000/\Q (.str (oL (El n.toNat (sL z)).flatten)) H):=by
 intro pins s Z H x y v u Q I rx ry h;obtain⟨z,n,rfl,rfl,h1,h2,h3,q⟩:=h;obtain⟨t,rfl⟩:=rx;obtain⟨t',rfl⟩:=ry;have hf:∀(m:Nat) (acc:Array Nat),(El m z.cps).foldl (· ++ ·) acc=acc++(El m (sL z)).flatten.toArray:=by
  intro m
  induction m with
  | zero=>intro acc;simp
  | succ m ih=>intro acc;rw[E3,Fj,ih,E3,Fu];apply Array.ext';simp
 have hlen:z.length*n.toNat<=1000*1000:=GF h3 (by omega);have e3:¬ n<1:=by omega
 refine P.mul_str ?_ ?_ ?_ ?_;rw[decide_eq_false (by omega),decide_eq_false (by omega)];rfl
 ·intro _ _;have a1:n*9223372036854775<=2^63-1:=by omega
  have:(9223372036854775:Int)<=(2^63-1) / n:=(Int.le_ediv_iff_mul_le (by omega)).mpr (by omega);omega
 ·intro _ _;unfold NU;exact decide_eq_false (by rw[Ji];omega)
 ·rw[if_neg e3];refine M5 ?_;have hv:(if(n==1||z.length==0)=true then z else(⟨(El n.toNat z.cps).foldl (· ++ ·) #[]⟩:Str))=oL (El n.toNat (sL z)).flatten:=by
   split
   ·rename_i hc;rcases Bool.or_eq_true_iff.mp hc with c|c
    ·have:n=1:=by simpa using c
     subst this;show z=oL (El 1 (sL z)).flatten;simp only[E3,List.replicate_zero,Fu,List.flatten_nil,EB]
    ·have h0:(sL z).length=0:=by rw[←eD];simpa using c
     have h00:sL z=[]:=FS h0;rw[h00];apply l0;rw[h00,dM];symm;exact List.eq_nil_iff_forall_not_mem.mpr λa ha=>by
      obtain⟨l,hl,hal⟩:=HU.mp ha;rw[List.eq_of_mem_replicate hl]at hal;cases hal
   ·rw[hf];simp
  rw[hv];refine⟨?_,λt2 k=>⟨.str (oL (El n.toNat (sL z)).flatten),H,I.tok k,⟨t2,rfl⟩,q⟩⟩;rw[eD,dM,iy,←eD,Ji,HG];omega
theorem i8:fillsNumberSlot (.type "tuple") "mul" = pure false:=
 PySem.fillsNumberSlot_seq (id:="tuple.__mul__") (r:=some (.builtin "tuple.__rmul__")) KA.lookup (by decide +kernel) MF.lookup (by decide +kernel)
theorem lY:seqRepeat? (.type "tuple")=pure (some (.builtin "tuple.__mul__")):=by
 unfold seqRepeat?;rw[HV (T:="tuple") (name:="__mul__") (id:="tuple.__mul__") KA.lookup (by decide +kernel),HV (T:="tuple") (name:="__rmul__") (id:="tuple.__rmul__") MF.lookup (by decide +kernel)];rfl
theorem jR(a:Int)(t:Tok)(l:Addr)(items:Array Jd)(n:Nat)(dd:Option Addr)(sl:Array (Option Jd)) :
  NS (Jl.«int.__rmul__» ⟨[.int a t,.ref l],[]⟩) (λ_ R s=>s.heap.get? l=some {cls:=.type "tuple",dict:=dd,data:=.seq items n,slots:=sl}/\R (.ok (.ret Jd.notImplemented)) s):=
 .of_wp λprog w A R s h=>by obtain⟨hp,g,d,tk,os⟩:=s;obtain⟨hl,h⟩:=h;wp_walk;exact⟨_,rfl,h⟩
theorem jy(l:Addr)(items:Array Jd)(n:Nat)(dd:Option Addr)(sl:Array (Option Jd))(k:Int)(t:Tok)(h1:2<=k)(h2:k<=1000)(hne:items.isEmpty=false)(hz:items.size<=1000) :
  NS (Jl.«tuple.__mul__» ⟨[.ref l,.int k t],[]⟩) (λ_ R s=>s.heap.get? l=some {cls:=.type "tuple",dict:=dd,data:=.seq items n,slots:=sl} ∧
   R (.ok (.ret (.ref s.heap.objs.size))) {s with heap:=s.heap.push {cls:=.type "tuple",data:=.seq ((El k.toNat items).foldl (· ++ ·) #[])}}):=
 .of_wp λprog w A R s h=>by
  obtain⟨hp,g,d,tk,os⟩:=s;obtain⟨hl,h⟩:=h;have c1:¬ (decide (k < -(2^63))||decide (k≥2^63))=true:=by rw[decide_eq_false (by omega),decide_eq_false (by omega)];decide
  have c2:¬ (items.isEmpty||k==1)=true:=by rw[hne];simp;omega
  have c3:¬ (decide (k<=0)||items.isEmpty)=true:=by rw[hne,decide_eq_false (by omega)];decide
  have c0:((items.size:Nat):Int)*k<=1000*1000:=Int.mul_le_mul (by omega) h2 (by omega) (by omega);have c4:¬ ((items.size:Int)*k>(2^63-1) / 8):=by omega
  have c5:¬ Lb ((items.size:Int)*k)=true:=by unfold Lb;simp;rw[Ji];omega
  have f1:=Ly;wp_walk using J3 hl
  rw[if_neg c1];refine Je (Mg ⟨_,hl,rfl,n,rfl⟩ ?_);dsimp only;rw[if_neg c2,if_neg c3,if_neg c4,if_neg c5];have hsz:sizeOk (.seq ((El k.toNat items).foldl (· ++ ·) #[])):=by
   show((El k.toNat items).foldl (· ++ ·) #[]).size<=sizeLine;have f0:=eM items.toList k.toNat [];have e0:(El k.toNat items.toList.toArray).foldl (· ++ ·) #[]=(El k.toNat items.toList).flatten.toArray:=by simpa using f0
   have e1:items.toList.toArray=items:=by simp
   rw[e1]at e0;rw[e0,Eh,iy,Fv,Ji];have a1:k.toNat*items.size<=1000*1000:=GF (by omega) hz;omega
  first
   | exact Je (m:=Jr _) (Js (Jh ⟨_,rfl,h⟩) hsz)
   | exact Je (Je (m:=Jr _) (Js (Jh ⟨_,rfl,h⟩) hsz))
def yE(K:yF):R2:=λx y H Q=>∃l k xs,x=.ref l/\y=.int k/\SqT K H l xs/\xs≠[]/\xs.length<=1000/\1<=k/\k<=1000 ∧
 (k=1->Q (.ref l) H)/\(2<=k->∀p,H p=none->Q (.ref p) (upd H p (.tup (El k.toNat xs).flatten)))
theorem wx:OpR X (JK .Mult) (yE X.K):=by
 intro pins s Z H x y v u Q I rx ry h;obtain⟨l,k,xs,rfl,rfl,hH,hne,hlen,h1,h2,q1,q2⟩:=h;cases rx;obtain⟨t,rfl⟩:=ry;obtain⟨its,r,p,hz⟩:=I.tuple (X:=X) hH;obtain⟨⟨cls,dd,data,sl⟩,ho,hc,n,hd⟩:=id p;simp only at hc hd;subst hc hd;have hl:=r.length;have hne':its.toArray.isEmpty=false:=by
  cases its with
  | nil=>cases r;exact absurd rfl hne
  | cons a r'=>rfl
 have hTy:s.TypeIs (.ref l) "tuple" :=⟨_,ho,rfl⟩;refine Km (T:="tuple") (U:="int") (by decide) hTy (λs'=>Ky s' k t) i8 LJ Kg lY Ls.lookup
  (JO Kg (Ky s k t) Lu (Li _ _) (jR k t l its.toArray n dd sl)
   ⟨ho,rfl,hTy,?_⟩)
 by_cases hk:k=1
 ·subst hk;refine Kx KA hTy MH ?_ (Ms _ _);have f1:=Ly;have c1:¬ (decide ((1:Int) < -(2^63))||decide ((1:Int)≥2^63))=true:=by decide
  obtain⟨hp,g,d,tk,os⟩:=s;wp_walk using J3 ho
  exact⟨_,rfl,.ref l,H,I,rfl,q1 rfl⟩
 ·refine JO KA hTy MH (Ms _ _) (jy l its.toArray n dd sl k t (by omega) h2 hne' (by rw[Eh,←hl];exact hlen)) ⟨ho,?_⟩;have e0:(El k.toNat its.toArray).foldl (· ++ ·) #[]=(El k.toNat its).flatten.toArray:=by simpa using eM its k.toNat []
  rw[e0];refine⟨.ref s.heap.objs.size,_,I.laid (t':=s.toks) (o:=.tup (El k.toNat xs).flatten) (λb ob q=>Jg _ q) (Eo _) ?_,rfl,q2 (by omega) _ (I.hok.fresh (Eo _))⟩;refine⟨?_,_,r.rep k.toNat,IH.new _ _⟩;rw[iy,Ji];have a1:k.toNat*xs.length<=1000*1000:=GF (by omega) hlen;omega
theorem gS(l:Addr)(items:Array Jd)(n:Nat)(b:Addr)(items2:Array Jd)(n2:Nat)(dd:Option Addr)(sl:Array (Option Jd))(hs0:¬(!items.isEmpty&&JC (items.size+items2.size))=true)(hs1:items.size<=sizeLine)(hs2:items.size+items2.size<=sizeLine+1) :
  NS (Jl.«list.extend» ⟨[.ref l,.ref b],[]⟩) (λ_ R s=>s.heap.get? l=some {cls:=.type "list",dict:=none,data:=.seq items n,slots:=#[]}/\s.heap.get? b=some {cls:=.type "tuple",dict:=dd,data:=.seq items2 n2,slots:=sl}/\R (.ok (.ret Ml)) {s with heap:=s.heap.update l (Kj λx=>x++items2),toks:=s.toks}):=
 .of_wp λprog w A R s h=>by
  obtain⟨hp,g,d,tk,os⟩:=s;obtain⟨hl,hb,h⟩:=h;have f1:=Ly;have f2:=AutoSeq1.sub_tuple_tuple;have f3:=AutoSeq1.sub_list_list;have f4:=AutoSeq1.sub_tuple_list;have f5:=AutoSeq1.sub_list_tuple;have hz':(items++items2).size<=sizeLine+1:=by rw[HH];exact hs2
  wp_walk using(LK hl rfl (hz:=hs1) (_hz':=hz')),J3 hl,J3 hb;exact⟨_,rfl,h⟩
def mX(K:yF):V->List V->Hp->VK->Prop:=λx vs H Q=>∃l b xs zs,x=.ref l/\vs=[.ref b]/\H l=some (.lst xs)/\SqT K H b zs/\xs.length+zs.length<=sizeLine/\Q .non (upd H l (.lst (xs++zs)))
theorem oh:MtM X "list.extend" (mX X.K):=by
 intro pins s Z H x vs v us Q I rx rv h;obtain⟨l,b,xs,zs,rfl,rfl,hH,hB,hz,q⟩:=h;cases rx;obtain⟨u,rfl,ru⟩:=rv.one;cases ru;obtain⟨z,its,n,r,hl,e⟩:=I.lstM hH;obtain⟨its2,r2,p2,z2⟩:=I.tuple hB;obtain⟨⟨cls,dd,data,sl⟩,ho,hc,n2,hd⟩:=id p2;simp only at hc hd;subst hc hd;have hl2:=r2.length;have hsz:its.toArray.size+its2.toArray.size<=sizeLine:=by rw[Eh,Eh];omega
 have hlong:¬ (!its.toArray.isEmpty&&JC (its.toArray.size+its2.toArray.size))=true:=by
  rw[dF hsz,GD];exact EA
 refine JO K6 ⟨_,e,rfl⟩ KR (KG _ _)
  (gS l its.toArray n b its2.toArray n2 dd sl hlong (by rw[Eh];omega) (by omega)) ⟨e,ho,?_⟩
 refine⟨.non,_,I.lset (its':=its++its2) hH e (by simp) (r.append r2) ?_,rfl,q⟩;rw[Et];omega
end
section
variable {X:Cx}
theorem fJ{α β:Type}{f : α->Option β}{g : α->β}:∀{l:List α},(∀k∈l,f k=some (g k))->l.filterMap f=l.map g
 | [],_=>rfl
 | a::l,h=>by
  rw[EI,h a ymS,Ek];show g a::_=_;rw[fJ λk hk=>h k (ymC _ hk)]
theorem uU(xs:Array Jd):((EU xs.size).filterMap λ(k:Nat)=>xs[(((xs.size:Int)-1)+(k:Int) * -1).toNat]?)=xs.toList.reverse:=by
 apply FL;intro i;rw[fJ (g:=λk=>(xs[xs.size-1-k]?).getD default) (λk hk=>?_),Ep]
 ·by_cases hi:i<xs.size
  ·have h2:xs.size-1-i<xs.size:=by omega
   rw[List.getElem?_range hi,List.getElem?_reverse (by simpa using hi)];simp[h2]
  ·rw[Hg (by simpa using hi),Hg (by simpa using hi)];rfl
 ·have hk':=Fi.mp hk;have e1:((((xs.size:Nat):Int)-1)+(k:Int) * -1).toNat=xs.size-1-k:=by omega
  rw[e1];have h2:xs.size-1-k<xs.size:=by omega
  simp[h2]
theorem ir{prog:Jq}{w:JB}{A:Jw}{E:Jd->Jf->Prop}{s:Jf}{t sl:Addr}{tt:Tok}{items:Array Jd}{Q:Jd->Jf->Prop}(ht:Ny s.heap t items)(hs:s.heap.IsSliceOf sl .none .none (.int (-1) tt))
  (h:Q (.ref s.heap.objs.size) {s with heap:=s.heap.push {cls:=.type "tuple",data:=.seq items.toList.reverse.toArray}})
  (hsz:items.size<=sizeLine):Jk (Jj prog w) A (KU (.ref t) (.ref sl)) Q E s:=by
 have htake:sizeOk (.seq items.toList.reverse.toArray):=by
  show items.toList.reverse.toArray.size<=sizeLine;rw[Eh,Hs,Fv];exact hsz
 obtain⟨os,hos,hcs,hds⟩:=id hs;have hTs:s.TypeIs (.ref sl) "slice" :=⟨os,hos,hcs⟩;unfold KU;try with_reducible refine JJ ?_
 first|refine Je (Jh ?_)|skip
 refine Je (Lh ht.typeIs (by decide) ?_);refine Je (Kn (name:=JF "__getitem__") ht.typeIs E7
  (Kx E7 ht.typeIs Mb ?_ (Mo _ _)))
 show Jk _ _ (K3 (.ref t) >>= _) _ _ s;refine Je (Mg ht ?_);refine Je (KW hTs ?_);rw[if_pos (by decide)];have app:∀{Q':Int×Int×Nat->Jf->Prop},Q' ((items.size:Int)-1,-1,items.size) s->Jk (Jj prog w) A.in1 (JX (.ref sl) (pure (items.size:Int))) Q' E s:=by
  intro Q' hq;unfold JX Lc;refine Je (Je (Kb hos hds (x:=.none) rfl (Je (Kb hos hds (x:=.none) rfl (Je (Kb hos hds (x:=.int (-1) tt) rfl (Jh ?_)))))));refine Je (slicePart_int ?_);show Jk _ _ (if((-1:Int)==0)=true then _ else _) _ _ s;rw[if_neg (by decide)];refine Je (K2 (Je (K2 (Je (Jh ?_)))));show Jk _ _ (match JG none none (-1) (items.size:Int)with|(lo,hi)=>pure (lo,(-1:Int),JA lo hi (-1))) _ _ s;have e1:JG none none (-1) (items.size:Int)=((items.size:Int)-1,-1):=by
   unfold JG;simp
  rw[e1];have e2:JA ((items.size:Int)-1) (-1) (-1)=items.size:=by
   unfold JA;rw[if_neg (by omega)];split;rw[Int.neg_neg,Ig];omega;omega
  show Jk _ _ (pure ((items.size:Int)-1,(-1:Int),JA ((items.size:Int)-1) (-1) (-1))) _ _ s;rw[e2];exact Jh hq
 refine Je (app ?_);show Jk _ _ (if((((items.size:Int)-1)==0&&(-1:Int)==1&&items.size==items.size))=true then _ else _) _ _ s;rw[if_neg (by simp),uU];first
  | exact Je (m:=Jr _) (Js (Jh ⟨_,rfl,Jh h⟩) htake)
  | exact Je (m:=Jr _) (Js (Je (Jh (Jh ⟨_,rfl,Jh h⟩))) htake)
  | exact Je (Je (m:=Jr _) (Js (Jh (Jh ⟨_,rfl,Jh h⟩)) htake))
  | exact Je (Je (m:=Jr _) (Js (Jh ⟨_,rfl,Jh h⟩) htake))
def ve(K:yF)(te:TE):TE:=λZ H Q=>te Z H λx H1=>∃a xs,x=.ref a/\SqT K H1 a xs/\∀p,H1 p=none->Q (.ref p) (upd H1 p (.tup xs.reverse))
theorem wH{e:Expr}{te:TE}{j:Nat}{p1 p2 p3 pos:Pos}(he:PE X e te):PE X (.Subscript e (.Slice none none (some (.UnaryOp .USub (.Constant (.int 1) j p1) p2)) p3) pos) (ve X.K te):=by
 intro pins s Z H Q I h;refine Mp (thn (he pins s Z H _ I h) λv s1 ⟨x,H1,I1,r1,q1⟩=>?_);obtain⟨a,xs,rfl,hq,q⟩:=q1;cases r1;refine MW ?_;rw[Lm];refine Jh (Jh ?_);rw[evalPart_some];refine thn (Cq Bp tI pins s1 Z H1 (λx H2=>x=.int (-1)/\H2=H1) I1 ⟨1,rfl,rfl,rfl⟩) λvu s2 ⟨y,H2,I2,r2,e1,e2⟩=>?_;subst e1 e2;obtain⟨tt,rfl⟩:=r2;have I3:Inv X pins Z H2 {s2 with heap:=s2.heap.push {cls:=.type "slice",data:=.fields #[.none,.none,.int (-1) tt]}}:=I2.kept (t':=s2.toks) λb ob q=>Jg _ q;obtain⟨its,r,ht,hz⟩:=I3.tuple hq;show Jk (Jj X.prog X.w) X.A (Ln e (.Slice none none (some (.UnaryOp .USub (.Constant (.int 1) j p1) p2)) p3) (.ref a) (.ref s2.heap.objs.size)) (EP X pins Z Q) X.xe {s2 with heap:=s2.heap.push {cls:=.type "slice",data:=.fields #[.none,.none,.int (-1) tt]}};refine NQ (ops:=[.ref a,.ref s2.heap.objs.size]) ht.typeIs E7.lookup (ir (tt:=tt) ht (K4 ..) ?_ (by rw[Eh,←r.length];exact hz)) (by with_unfolding_all rfl);refine⟨.ref _,_,I3.laid (t':=s2.toks) (o:=.tup xs.reverse) (λb ob q=>Jg _ q) (Eo _) ?_,rfl,q _ (I3.hok.fresh (Eo _))⟩;exact⟨by rw[Hs];exact hz,its.reverse,r.reverse,IH.new _ _⟩
theorem oN{A:Jw}{bs:List Bool}:TruthOf X.prog X.w A (λi v=>(bs.map Kv)[i]?=some v) (λi=>bs.getD i false):=by
 intro i v s Q E hv hq;rw[Ep]at hv;cases q:bs[i]? with
 | none=>rw[q]at hv;cases hv
 | some b=>
  rw[q]at hv;cases hv;have e:bs.getD i false=b:=by rw[EL,q];rfl
  simp only[e]at hq;exact JZ hq
theorem Dr{bs:List Bool}:∀{us:List Jd},Vals (bs.map V.bl) us->us=bs.map Kv:=by
 induction bs with
 | nil=>intro us r;rw[FB]at r;cases r;rfl
 | cons b bs ih=>
  intro us r;rw[Ek]at r;cases r with
  | cons r1 r2=>rw[ih r2,Ek];cases r1;rfl
theorem range_getD(bs:List Bool):(EU bs.length).all (λi=>bs.getD i false)=bs.all id:=by
 have:(EU bs.length).map (λi=>bs.getD i false)=bs:=NF bs false
 conv=>rhs;rw[←this]
 rw[HJ];rfl
theorem rS(hc:X.calm=true):ID X (.builtin "all") (λxs H Q=>∃(a:Addr) (bs:List Bool),xs=[.ref a]/\SqL X.K H a (bs.map V.bl)/\Q (.bl (bs.all id)) H):=by
 intro pins s Z H xs us Q I rv h;obtain⟨a,bs,rfl,hq,q⟩:=h;obtain⟨u,rfl,ru⟩:=gp rv;cases ru;obtain⟨its,r,p,hz⟩:=I.list hq;have e:=Dr r;subst e;have hne:a≠s.heap.objs.size:=by
  obtain⟨o,n,e,_⟩:=p;exact EW (Jm e)
 refine call_all_walk (Mw p.isList ?_);refine⟨s.heap.objs.size,_,_,_,_,_,λi=>bs.getD i false,rfl,NZ.list (A:=X.A.in1) (show X.A.in1.handled=none from I.ok.hd hc) s.heap.objs.size a hne (bs.map Kv).toArray,⟨⟨_,Jn _ rfl,rfl,rfl⟩,?_⟩,?_,λh' tk hk=>?_⟩;exact p.isList.at λo e=>Jg _ e
 ·intro i v s Q E hv hq;exact oN (bs:=bs) i v s Q E (by simpa using hv) hq
 ·have I1:Inv X pins Z H {s with heap:=h',toks:=tk}:=I.kept λb o e=>hk b o (λz=>absurd (ysM z) (EW (Jm e))) (Jg _ e);refine⟨.bl _,H,I1,rfl,?_⟩;have:(EU (bs.map Kv).toArray.size).all (λi=>bs.getD i false)=bs.all id:=by rw[Eh,Ej];exact range_getD bs
  rw[this];exact q
def sj(to:TE)(tl th:TO):TG:=λv Z H Q=>to Z H λo H1=>tl Z H1 λl H2=>th Z H2 λu H3=>∃p b xs ys a c,o=.ref p/\v=.ref b/\l=some a/\u=some c/\H3 p=some (.lst xs)/\H3 b=some (.lst ys)/\p≠b/\0<=a/\a<=c/\c<=xs.length/\xs.length+ys.length<=sizeLine ∧
 Q Z (upd H3 p (.lst (xs.take a.toNat++ys++xs.drop c.toNat)))
theorem tM{o:Expr}{lo hi:Option Expr}{to:TE}{tl th:TO}{p2 pos:Pos}(ho:PE X o to)(hl:PO X lo tl)(hu:PO X hi th)
  (ha:∀v,Kh (.Subscript o (.Slice lo hi none p2) pos) X.env v=(do
   let ov ←JR [v] (eval o X.env)
   let iv ←JR [v,ov] (eval (.Slice lo hi none p2) X.env)
   Ki pos
   JR [v,ov,iv] (Lg ov iv v)
   M8 [iv,v,ov] []):=by intro _;rfl):PG X (.Subscript o (.Slice lo hi none p2) pos) (sj to tl th):=by
 intro pins s Z H v u Q I r h;rw[ha];refine Je (JJ (thn (ho pins s Z H _ I h) λov s1 ⟨x,H1,I1,r1,q1⟩=>?_));refine Je (JJ (MW (thn (hl pins s1 Z H1 _ I1 q1) λvl s2 ⟨l,H2,I2,pl,q2⟩=>thn (hu pins s2 Z H2 _ I2 q2) λvu s3 ⟨w',H3,I3,pu,q3⟩=>?_)));rw[Lm];refine Jh ?_;obtain⟨p,b,xs,ys,a,c,rfl,rfl,rfl,rfl,hp,hb,hne,h0,hac,hc,hz,q⟩:=q3;have I4:Inv X pins Z H3 {s3 with heap:=s3.heap.push {cls:=.type "slice",data:=.fields #[vl,vu,.none]}}:=I3.kept (t':=s3.toks) λb ob q=>Jg _ q;cases r1;cases r;refine Je (JL (Je (JJ ?_)));cases pl with
 | int _ t1=>
  cases pu with
  | int _ t2=>
   exact rj (sl:=s3.heap.objs.size) I4 hp hb hne (K4 ..) ⟨t1,rfl⟩ ⟨t2,rfl⟩ h0 hac hc hz λs' I'=>wpAny_release ⟨Z,_,I',q⟩
end
def Has(P:Jq)(w:JB)(K:yF)(mg:Str->Option Jd)(base:Heap)(k:Nat)(name:Str)(ps:List Str)(sp:Sp):Prop:=
 ∃(f:Addr) (fd:Kf),mg name=some (.ref f)/\FH K (.ref f)=true/\IV K fd ps []/\IY P w K mg base CX0 k f fd ps sp/\∃oc od osl,K.lookup f=some ⟨oc,od,.func fd,osl⟩
def Def(K:yF)(mg:Str->Option Jd)(name:Str)(st:Stmt)(ps:List Str):Prop:=
 ∃(f:Addr) (fd:Kf),mg name=some (.ref f)/\Fun K name name st f fd/\IV K fd ps []
theorem Def.has{P:Jq}{w:JB}{K:yF}{mg:Str->Option Jd}{base:Heap}{k:Nat}{name:Str}{st:Stmt}{N ps:List Str}{sp:Sp}(d:Def K mg name st ps)(S:Is N ps (ai st))(len:∀vs H Q E,sp vs H Q E->vs.length=ps.length)
  (hbody:∀(f:Addr) (cdv:Jd) (A:Jw) (outer:List Env) (s:Jf) (H:Hp) (vs:List V) (Q:VK) (E:XK),IF k (A.deeper (KJ name (ai st) s.heap.objs.size f cdv))->sp vs H Q E →
   ∃t,PSs (kh CX0 P w K mg base N name (ai st) f cdv A outer s H E).nox (bu st) t/\t {nx:=λ_ H'=>Q .non H',rt:=Q} (bM N vs) H):Has P w K mg base (k+1) name ps sp:=by
 obtain⟨f,fd,h1,F,b⟩:=d;obtain⟨oc,od,kV,doc,pm,an,cdv,ct,osl,e,lk,hcd⟩:=F.ex;exact⟨f,fd,h1,F.kp,b,F.ok S len (hbody f),oc,od,osl,lk⟩
theorem sE{P:Jq}{w:JB}{K:yF}{mg:Str->Option Jd}{fa:Addr}{name:Str}{st:Stmt}{x:Str}{k:Nat}{sp:Sp}(hfa:mg name=some (.ref fa))(d:Def K mg name st [x])
  (hb:∀(kV doc pm:Jd) (an:Option Addr) (cdv ct:Jd) (s:Jf) (v:Jd),LX s (FA name name (dg st) (bu st) (ai st) .none kV doc pm an cdv ct) ⟨[v],[]⟩ [(x,v)])
  (H:∀base:Heap,K.In base->base.Ns JH mg->Has P w K mg base k name [x] sp) :
  ∃fd:Kf,(∀(s:Jf) (v:Jd),LX s fd ⟨[v],[]⟩ [(x,v)])/\∀base:Heap,K.In base->base.Ns JH mg->IY P w K mg base CX0 k fa fd [x] sp:=by
 obtain⟨f,fd,h1,F,b⟩:=d;rw[hfa]at h1;cases h1;obtain⟨oc,od,kV,doc,pm,an,cdv,ct,osl,e,lk,hcd⟩:=F.ex;refine⟨fd,λs v=>by rw[e];exact hb _ _ _ _ _ _ s v,λbase kb nb=>?_⟩;obtain⟨f',fd',g1,_,_,g4,oc',od',osl',lk'⟩:=H base kb nb;rw[hfa]at g1;cases g1;rw[lk]at lk';cases lk';exact g4
section
variable {X:Cx}{x:Str}{e:Expr}{es:List Expr}{p pos:Pos}{k:Nat}{ps:List Str}{sp:Sp}{t:TA}
theorem Cm(h:Has X.prog X.w X.K X.mg X.base k x ps sp)(hr:IF k X.A)(hg:Gl X x)(ha:PA X (e::es) t)(hdb:(x==("__debug__" : Str))=false:=by decide)
  (he:Jv (e::es) X.env=(false,eval e X.env)::Jv es X.env:=by rfl) (hpl:(Kq pos (Jv es X.env)).any (·.1)=false:=by rfl) :
  PE X (.Call (.Name x p) (e::es) [] pos) (j8 sp [] E0 t):=by
 obtain⟨f,fd,h1,h2,h3,h4,_⟩:=h;exact wD h4 hr hg h1 h2 h3 .nil Ci ha hdb he hpl
end
section
variable {X:Cx}
def yy(K:yF):R2:=λx y H Q=>rI0 (λi j=>.int (i+j)) x y H Q∨((∃i j,x=.str i/\y=.str j/\i.length+j.length<=sizeLine/\Q (.str (i++j)) H)∨(CV x y H Q∨yA K x y H Q))
theorem op_addX:OpR X (JK .Add) (yy X.K):=op_add.or (op_add_str.or (op_cat.or wu))
def yC(K:yF):R2:=λx y H Q=>rI I0 (λi j=>.int (i*j)) x y H Q∨((∃z n,x=.str z/\y=.int n/\1<=n/\n<=1000/\z.length<=1000/\Q (.str (oL (El n.toNat (sL z)).flatten)) H)∨(C4 x y H Q∨yE K x y H Q))
theorem op_mulX:OpR X (JK .Mult) (yC X.K):=op_mul.or (op_mulS.or (op_rep.or wx))
def AV(K:yF):R2:=λx y H Q=>rEq x y H Q∨(CW K x y H Q∨CY K x y H Q)
theorem zH(hu:X.A.units+64<JP):OpR X (JE .Eq) (AV X.K):=op_eq.or ((zF hu).or (zG hu))
def AY(K:yF):R2:=λx y H Q=>rNe x y H Q∨(C2 K x y H Q∨C3 K x y H Q)
theorem zN(hu:X.A.units+64<JP):OpR X (JE .NotEq) (AY X.K):=op_ne.or ((zL hu).or (zM hu))
def AW(K:yF):R2:=λx y H Q=>(∃i j,x=.str i/\y=.str j/\Q (.bl (!(JS j i 0 j.length 1).isEmpty)) H)∨(rIn K false x y H Q∨xq K false x y H Q)
theorem zJ(hu:X.A.units+64<JP):OpR X (JE .In) (AW X.K):=op_in_str.or (op_in_seq.or (zI hu))
def lT(K:yF):R2:=λx y H Q=>(∃i j,x=.str i/\y=.str j/\Q (.bl (!(!(JS j i 0 j.length 1).isEmpty))) H)∨(rIn K true x y H Q∨xq K true x y H Q)
theorem qC(hu:X.A.units+64<JP):OpR X (JE .NotIn) (lT X.K):=op_notIn_str.or (op_notIn_seq.or (qB hu))
theorem Ea:SlR X (rSl X.K):=sl_tup.or (sl_list.or Be)
def uw(K:yF):List V->Hp->VK->Prop:=λxs H Q=>(∃p ys,xs=[.ref p]/\(SqL K H p ys∨SqT K H p ys)/\Q (.int ys.length) H)∨(∃z,xs=[.str z]/\z.length<=sizeLine/\Q (.int z.length) H)
theorem pY:ID X (.builtin "len") (uw X.K):=ID.or lv lw
theorem Db(n:String):RelV (.ty n) (.type n):=rfl
end
noncomputable def Its(z:Str):It:=⟨λi _=>i<z.cps.size,λi H y H'=>H'=H/\∃c,z.cps[i]?=some c/\y=.str ⟨#[c]⟩,λi _=>z.cps.size<=i⟩
def BO(te:TE):TI:=λZ H R=>te Z H λx H1=>∃z:Str,x=.str z/\R (Its z) H1
theorem wM{X:Cx}{tg e:Expr}{te:TE}(he:PE X e te):PI X tg e (BO te):=Ak he
theorem jZ{N:List Str}(h:decide N.Nodup=true):N.Nodup:=of_decide_eq_true h
section
variable {X:Cx}{K:yF}
theorem DZ(h:X.K=K):IxR X (rIx K):=h▸zo
def uC(K:yF):List V->Hp->VK->Prop:=λxs H Q=>∃p ys,xs=[.ref p]/\((SqL K H p ys/\∀l,H l=none->Q (.ref l) (upd H l (.tup ys)))∨(SqT K H p ys/\Q (.ref p) H))
def ux(K:yF):List V->Hp->VK->Prop:=λxs H Q=>∃p ys,xs=[.ref p]/\(SqL K H p ys∨SqT K H p ys)/\∀l,H l=none->Q (.ref l) (upd H l (.lst ys))
def CU(K:yF):List V->Hp->VK->Prop:=λxs H Q=>∃(a:Addr) (bs:List Bool),xs=[.ref a]/\SqL K H a (bs.map V.bl)/\Q (.bl (bs.all id)) H
def yB(K:yF):V->List V->Hp->VK->Prop:=λx vs H Q=>∃z a zs,x=.str z/\vs=[.ref a]/\SqL K H a (zs.map V.str)/\(zs.map (·.length)).sum+zs.length*z.length<=16777216/\Q (.str (Kt z zs)) H
theorem D8{e:Expr}{te:TE}{j:Nat}{p1 p2 p3 pos:Pos}(h:X.K=K)(he:PE X e te):PE X (.Subscript e (.Slice none none (some (.UnaryOp .USub (.Constant (.int 1) j p1) p2)) p3) pos) (ve K te):=h▸wH he
theorem tgK{es:List Expr}{k:Nat}{t:TGs}{n:Nat}{pos:Pos}(h:X.K=K)(hc:X.calm=true)(hs:PGs X es t)
  (hn:(JT es X.env).length=n:=by rfl) (hst:(JT es X.env).findIdx? (·.1)=none:=by rfl):PG X (.Tuple es k pos) (vO K n t):=h▸Aj hc hs hn hst
theorem ilK{tg l:Expr}{tl:TE}(h:X.K=K)(hl:PE X l tl):PI X tg l (ph K tl):=h▸wL hl
theorem itK{tg l:Expr}{tl:TE}(h:X.K=K)(hl:PE X l tl):PI X tg l (vR K tl):=h▸Al hl
def Do(K:yF)(ta:TE):TT:=λZ H Q=>ta Z H λx H'=>∃k,vD K x H' k/\Q k H'
theorem Eb{a:Expr}{ta:TE}(h:X.K=K)(ha:PE X a ta)(he:∀whole,LO a X.env whole=(do let v ←whole;Ki a.pos;JR [v] (Nf v))):PT X a (Do K ta):=h▸ui ha he
variable {o e:Expr}{es:List Expr}{to:TE}{t:TA}{name:Str}{apos cpos:Pos}{T id:String}{r:V->List V->Hp->VK->Prop}
theorem DM(h:X.K=K)(pa:Kz T)(slot:Slot T name id)(hty:Mr (.builtin id)=pure (.type "method_descriptor"))(hm:MtR X id r)(ho:PE X o to)
  (hbase:JU o name X.env (eval o X.env)=eval o X.env:=by rfl) (hline:(apos.endLine==cpos.line)=true:=by rfl):PE X (.Call (.Attribute o name apos) [] [] cpos) (Bf K T r to):=h▸Ae pa slot hty hm ho hbase hline
theorem bmK(h:X.K=K)(pa:Kz T)(slot:Slot T name id)(hty:Mr (.builtin id)=pure (.type "method_descriptor"))(hm:MtR X id r)(ho:PE X o to)(ha:PA X (e::es) t)
  (hbase:JU o name X.env (eval o X.env)=eval o X.env:=by rfl)
  (hfew:((Kq cpos (Jv (e::es) X.env)).all (λx=>!x.1)&&(backToKw cpos (keywordEach [] X.env)).all (λx=>x.1.isSome)
   && decide ((e::es).length+([]:List M9).length+(if([]:List M9).isEmpty then 0 else 1)<30))=true:=by rfl)
  (hline:(apos.endLine==cpos.line)=true:=by rfl) (hs:Jv (e::es) X.env=(false,eval e X.env)::Jv es X.env:=by rfl) (hplain:(Kq cpos (Jv es X.env)).any (·.1)=false:=by rfl) :
  PE X (.Call (.Attribute o name apos) (e::es) [] cpos) (tBM K T r to t):=h▸Ck pa slot hty hm ho ha hbase hfew hline hs hplain
end
structure Bi(mg:Str->Option Jd):Prop where
 b_len:mg "len" = none
 b_all:mg "all" = none
 b_any:mg "any" = none
 b_tuple:mg "tuple" = none
 b_list:mg "list" = none
 b_range:mg "range" = none
 b_min:mg "min" = none
 b_max:mg "max" = none
 b_int:mg "int" = none
 b_bool:mg "bool" = none
 b_isinstance:mg "isinstance" = none
 b_str:mg "str" = none
 b_sorted:mg "sorted" = none
 b_sum:mg "sum" = none
 b_zip:mg "zip" = none
 b_enumerate:mg "enumerate" = none
 b_dict:mg "dict" = none
 b_abs:mg "abs" = none
 b_repr:mg "repr" = none
 b_reversed:mg "reversed" = none
 b_set:mg "set" = none
noncomputable abbrev LET:Str:="abcdefghijklmnopqrstuvwxyz"
theorem lm:(sL LET).length=26:=by decide +kernel
theorem LET_len':LET.length=26:=by decide +kernel
noncomputable def rd:D->Option D
 | .tup [.str x,nm,row]=>if x=("at" : Str)then some (.tup [nm,row])else none
 | _=>none
theorem oP(elt tg iter tg2 iter2:Expr)(ifs2:List Expr)(scope:JW)(pos:Pos)(it acc:Jd)(env:Env) :
  Lv (.ListComp elt [⟨tg,iter,[],0⟩,⟨tg2,iter2,ifs2,0⟩] scope pos) 0 it acc env=(Ki iter.pos >>= λ_=>Mn it >>= λr=>match r with
   | none=>pure (.done .next)
   | some v=>JM tg it v >>= λ_=>Kh tg env v >>= λ_=>
    (eval iter2 env >>= λx=>Ki iter2.pos >>= λ_=>Jt iter2 env x >>= λx=>JR [x] (MP x) >>= λj=>runOwn (.compStart (.ListComp elt [⟨tg,iter,[],0⟩,⟨tg2,iter2,ifs2,0⟩] scope pos) 1 j acc env) env >>= λ_=>
     again (.compLoop (.ListComp elt [⟨tg,iter,[],0⟩,⟨tg2,iter2,ifs2,0⟩] scope pos) 0 it acc env))):=by
 unfold Lv;rfl
theorem oO(elt tg2 iter2:Expr)(g1:Mh)(ifs2:List Expr)(scope:JW)(pos:Pos)(it acc:Jd)(env:Env) :
  Lv (.ListComp elt [g1,⟨tg2,iter2,ifs2,0⟩] scope pos) 1 it acc env=(do
   Ki iter2.pos
   match ←Mn it with
   | none=>pure (.done .next)
   | some v=>
    JM tg2 it v
    Kh tg2 env v
    let mut ok:=true
    for c in ifs2 do
     if ok then ok ←LO c env (eval c env)
    if ok then
     (do let _ ←call (.builtin "list.append") [acc,←eval elt env])
    again (.compLoop (.ListComp elt [g1,⟨tg2,iter2,ifs2,0⟩] scope pos) 1 it acc env)):=by rfl
theorem nU{prog:Jq}{w:JB}{A:Jw}{R:LA->Jf->Prop}{s:Jf}{elt tg2 iter2:Expr}{g1:Mh}{ifs2:List Expr}{scope:JW}{pos:Pos}{it acc:Jd}{env:Env}(I:Nat->Jf->Prop)
  (turn:∀n s,I n s->Jk (Jj prog w) A (Mn it) (λr s₁=>match r with
   | none=>R (.ok .next) s₁
   | some v=>Jk (Jj prog w) A (JM tg2 it v) (λ_ s₁'=>Jk (Jj prog w) A (Kh tg2 env v) (λ_ s₂=>
     Jk (Jj prog w) A (jF ifs2 env) (λok s₃=>
      if ok=true then Jk (Jj prog w) A (eval elt env) (λx s₄=>
       Jk (Jj prog w) A (call (.builtin "list.append") [acc,x]) (λ_ s₅=>∃m,m<n/\I m s₅) (λ_ _=>False) s₄) (λ_ _=>False) s₃
      else∃m,m<n/\I m s₃) (λ_ _=>False) s₂) (λ_ _=>False) s₁') (λ_ _=>False) s₁) (λ_ _=>False) s)
  (n:Nat) (h:I n s):JN (Jj prog w) A (.compLoop (.ListComp elt [g1,⟨tg2,iter2,ifs2,0⟩] scope pos) 1 it acc env) R s:=by
 have never:∀{α:Type} {t:Sem α} {QQ : α->Jf->Prop} {EE:Jd->Jf->Prop} {ss:Jf},Jk (Jj prog w) A t QQ (λ_ _=>False) ss->Jk (Jj prog w) A t QQ EE ss:=λhh=>Jo hh (λ_ _ z=>z) λ_ _ z=>z.elim;refine LH rfl I (λn s hI=>?_) n h;show Jk _ A ((Lv (.ListComp elt [g1,⟨tg2,iter2,ifs2,0⟩] scope pos) 1 it acc env).onRaise (λx=>do LZ x env;KN x)) _ _ s;refine LU ?_;rw[oO];refine Je (JL (Je (Jo (turn n s hI) (λr s₁ h₁=>?_) λ_ _ z=>z.elim)));cases r with
 | none=>exact Jh h₁
 | some v=>
  refine Je (Jo h₁ (λ_ s₁' h₁'=>?_) λ_ _ z=>z.elim);refine Je (Jo h₁' (λ_ s₂ h₂=>Je (Jo h₂ (λok s₃ h₃=>?_) λ_ _ z=>z.elim)) λ_ _ z=>z.elim);cases ok with
  | false=>exact Jh ⟨rfl,h₃⟩
  | true=>
   exact Je (Je (Jo h₃ (λx s₄ h₄=>Je (Jo h₄ (λ_ s₅ h₅=>Jh (Jh ⟨rfl,h₅⟩)) λ_ _ z=>z.elim)) λ_ _ z=>z.elim))
theorem nq{prog:Jq}{w:JB}{A:Jw}{R:LA->Jf->Prop}{s:Jf}{elt tg2 iter2:Expr}{g1:Mh}{ifs2:List Expr}{scope:JW}{pos:Pos}{it acc:Jd}{env:Env}
  (h0:JN (Jj prog w) A (.compLoop (.ListComp elt [g1,⟨tg2,iter2,ifs2,0⟩] scope pos) 1 it acc env) R s)
  (h:Jk (Jj prog w) A (MP it) (λit' s'=>JN (Jj prog w) A (.compLoop (.ListComp elt [g1,⟨tg2,iter2,ifs2,0⟩] scope pos) 1 it' acc env) R s') (Kl (Jj prog w) A env λx s'=>R (.error x) s') s) :
  JN (Jj prog w) A (.compStart (.ListComp elt [g1,⟨tg2,iter2,ifs2,0⟩] scope pos) 1 it acc env) R s:=by
 refine codeAny_of_tree ?_;show Jk _ _ ((compStart (.ListComp elt [g1,⟨tg2,iter2,ifs2,0⟩] scope pos) 1 it acc env).onRaise (λx=>do LZ x env;Ki theWindowsPlace)) _ _ s;refine wpAny_notedAt ?_;unfold compStart;show Jk _ _ (ask >>= _) _ _ s;refine Je (wpAny_askSetting (wpAny_ite ?_));split
 ·first
   | exact Jh (NG rfl h0)
   | exact Je (Jh (Jh (NG rfl h0)))
 ·refine Je (Ni ?_);show Jk _ _ (Ki iter2.pos >>= _) _ _ s;exact Je (JL (Je (Jo h (λit' s' h'=>Jh (NG rfl h')) λ_ _ x=>x)))
theorem nV{prog:Jq}{w:JB}{A:Jw}{R:LA->Jf->Prop}{s:Jf}{elt tg iter tg2 iter2:Expr}{ifs2:List Expr}{scope:JW}{pos:Pos}{it acc:Jd}{env:Env}(hs:∀x,Jt iter2 env x=pure x)(I:Nat->Jf->Prop)
  (turn:∀n s,I n s->Jk (Jj prog w) A (Mn it) (λr s₁=>match r with
   | none=>R (.ok .next) s₁
   | some v=>Jk (Jj prog w) A (JM tg it v) (λ_ s₁'=>Jk (Jj prog w) A (Kh tg env v) (λ_ s₂=>
     Jk (Jj prog w) A (eval iter2 env) (λx s₃=>Jk (Jj prog w) A (MP x) (λj s₄=>
      JN (Jj prog w) A (.compStart (.ListComp elt [⟨tg,iter,[],0⟩,⟨tg2,iter2,ifs2,0⟩] scope pos) 1 j acc env) (λr s₅=>match r with|.ok _=>∃m,m<n/\I m s₅|.error _=>False) s₄)
       (λ_ _=>False) s₃) (λ_ _=>False) s₂) (λ_ _=>False) s₁') (λ_ _=>False) s₁) (λ_ _=>False) s)
  (n:Nat) (h:I n s):JN (Jj prog w) A (.compLoop (.ListComp elt [⟨tg,iter,[],0⟩,⟨tg2,iter2,ifs2,0⟩] scope pos) 0 it acc env) R s:=by
 refine LH rfl I (λn s hI=>?_) n h;show Jk _ A ((Lv (.ListComp elt [⟨tg,iter,[],0⟩,⟨tg2,iter2,ifs2,0⟩] scope pos) 0 it acc env).onRaise (λx=>do LZ x env;KN x)) _ _ s;refine LU ?_;rw[oP];refine Je (JL (Je (Jo (turn n s hI) (λr s₁ h₁=>?_) λ_ _ z=>z.elim)));cases r with
 | none=>exact Jh h₁
 | some v=>
  refine Je (Jo h₁ (λ_ s₁' h₁'=>?_) λ_ _ z=>z.elim);refine Je (Jo h₁' (λ_ s₂ h₂=>?_) λ_ _ z=>z.elim);refine Je (Jo h₂ (λx s₃ h₃=>Je (JL (Je (wpAny_of_eq (hs x) (Je (JJ (Jo h₃ (λj s₄ h₄=>?_) λ_ _ z=>z.elim))))))) λ_ _ z=>z.elim);refine Je (wpAny_runOwn (LB h₄ λr s₅ h₅=>?_));cases r with
  | ok f=>exact Jh ⟨rfl,h₅⟩
  | error e=>exact h₅.elim
def rH(J2:It)(Zi:St)(g2:TG)(tc2:TT)(te:TE)(acc0:List V)(H3:Hp)(N:List V->Hp->Prop):Prop:=
 ∃W2:Nat->Nat->List V->Hp->Prop,(∃m,W2 0 m acc0 H3)/\∀i m acc H,W2 i m acc H->acc.length<sizeLine ∧
  ((J2.stop i H/\N acc H) ∨
  (J2.go i H/\∃N2:List V->Hp->Prop,(∀acc' H',N2 acc' H'->∃m',m'<m/\W2 (i+1) m' acc' H') ∧
   ∀x H',J2.yld i H x H'->g2 x Zi H' λZ3 H4=>tc2 Z3 H4 λb H5=>if b=true then te Z3 H5 λv H6=>N2 (acc++[v]) H6 else N2 acc H5))
def rJ(J:It)(Zi:St)(g:TG)(wi2:TI)(fr2:List (Option Nat))(g2:TG)(tc2:TT)(te:TE)(H1:Hp)(Q:VK):Prop:=
 ∃W:Nat->Nat->List V->Hp->Prop,(∃m,W 0 m [] H1)/\∀i m acc H,W i m acc H->acc.length<sizeLine ∧
  ((J.stop i H/\∀d,H d=none->Q (.ref d) (upd H d (.lst acc))) ∨
  (J.go i H/\∃N:List V->Hp->Prop,(∀acc' H',N acc' H'->∃m',m'<m/\W (i+1) m' acc' H') ∧
   ∀x H',J.yld i H x H'->g x Zi H' λZ2 H2=>wi2 Z2 H2 λJ2 H3=>rH J2 (aL fr2 Z2) g2 tc2 te acc H3 N))
def vb(wi:TI)(fr:List (Option Nat))(g:TG)(wi2:TI)(fr2:List (Option Nat))(g2:TG)(tc2:TT)(te:TE):TE:=λZ H Q=>wi Z H λJ H1=>rJ J (aL fr Z) g wi2 fr2 g2 tc2 te H1 Q
section
variable {X:Cx}{elt tg iter tg2 iter2:Expr}{ifs2:List Expr}{scope:JW}{pos:Pos}{N':List Str}{fr fr2:List (Option Nat)}{wi wi2:TI}{g g2:TG}{tc2:TT}{te:TE}
noncomputable def nw(fr fr2:List (Option Nat)):Bool:=(fr2.length==fr.length)&&(EU fr.length).all λk=>(fr2[k]? == some (some k))||(fr2[k]? == some none&&fr[k]? == some none)
theorem pW{fr:List (Option Nat)}{Z Z5:St}(kp:Kp fr (aL fr Z) Z5):∀(k:Nat) v,(aL fr Z)[k]?=some (some v)->Z5[k]?=some (some v):=λk v e=>by
 cases q:fr[k]? with
 | none=>
  unfold aL at e;rw[Ep,q]at e;cases e
 | some o=>
  cases o with
  | none=>
   unfold aL at e;rw[Ep,q]at e;simp at e
  | some j=>rw[kp.2 k j q];exact e
theorem zx{Z Z8 Z5:St}(h:nw fr fr2=true)(kp8:Kp fr (aL fr Z) Z8)(kp5:Kp fr2 (aL fr2 Z8) Z5):Kp fr (aL fr Z) Z5:=by
 unfold nw at h;rw[Ei]at h;obtain⟨h1,h2⟩:=h;have hl:fr2.length=fr.length:=by simpa using h1
 refine⟨by rw[kp5.1,bC,bC,hl],λk j e=>?_⟩;have hk:k<fr.length:=(Eg.mp e).1;have h3:=E6.mp h2 k (Fi.mpr hk);rw[e]at h3;have h4:fr2[k]?=some (some k):=by
  rw[FD]at h3;rcases h3 with z|z;simpa using z
  ·rw[Ei]at z;have z2:=z.2;simp at z2
 rw[kp5.2 k k h4,←kp8.2 k j e];have hlen:k<Z8.length:=by rw[kp8.1,bC];exact hk
 unfold aL;rw[Ep,h4];show some (Z8.getD k none)=_;rw[EL,EQ hlen];rfl
theorem mf(hc:X.calm=true)(B:Blk X.env.scope scope X.N N' fr)(hsub:nw fr fr2=true)
  (hg:∀b,PG (cxB X scope N' b) tg g) (hgk:b9 fr g) (hi2:∀b,PI (cxB X scope N' b) tg2 iter2 wi2) (hg2:∀b,PG (cxB X scope N' b) tg2 g2) (hgk2:b9 fr2 g2) (ht:∀b,PTs (cxB X scope N' b) ifs2 tc2) (he:∀b,PE (cxB X scope N' b) elt te)
  (hs2:∀b x,Jt iter2 (cxB X scope N' b).env x=pure x)
  {pins:List (Addr×Obj)} {Z:St} {Q:VK} {itv:Jd} {s2:Jf} {E:Jd->Jf->Prop} {RR:Jd->Addr->LA->Jf->Prop}
  (h2:PIE X pins Z tg (λJ H1=>rJ J (aL fr Z) g wi2 fr2 g2 tc2 te H1 Q) itv s2)
  (hRR:∀(d C:Addr) (v:V) (H':Hp) (s':Jf) m',Inv X pins Z H' s'->v=.ref d->Q v H'->s'.heap.Ns C m'->dQ X pins H' C->C≠d->RR (.ref d) C (.ok .next) s') :
  Jk (Jj X.prog X.w) X.A (NM []) (λacc s₃=>Jk (Jj X.prog X.w) X.A (Ks scope X.env.globals (br X.env scope.names []) [] X.env.qual none .none (some X.env)) (λcenv s₄=>
   JN (Jj X.prog X.w) X.A (.compStart (.ListComp elt [⟨tg,iter,[],0⟩,⟨tg2,iter2,ifs2,0⟩] scope pos) 0 itv acc {cenv with scope:=LG scope X.env}) (RR acc cenv.locals) s₄) E s₃) E s2:=by
 obtain⟨it,fp,tn,J,H2,rfl,I2,T,st2,f2,W,⟨m0,w0⟩,turn⟩:=h2;refine Js ?_;generalize hd:s2.heap.objs.size=d;have I3:Inv X pins Z H2 {s2 with heap:=s2.heap.push {cls:=.type "list",dict:=none,data:=.seq ([]:List Jd).toArray}}:=I2.kept (t':=s2.toks) λb o e=>Jg _ e;have fd:dQ X pins H2 d:=I2.fpOk (by rw[hd];exact Eo _) (I2.hok.fresh (by rw[hd];exact Eo _));have od:(s2.heap.push {cls:=.type "list",dict:=none,data:=.seq ([]:List Jd).toArray}).get? d=some {cls:=.type "list",dict:=none,data:=.seq ([]:List Jd).toArray}:=by rw[←hd];exact Jn _ rfl
 have st3:tn 0 (s2.heap.push {cls:=.type "list",dict:=none,data:=.seq ([]:List Jd).toArray}):=T.keep _ _ _ st2 λb _ o e=>Jg _ e;have ne_d:∀b∈fp,b≠d:=λb hb=>by
  obtain⟨o,e,_⟩:=T.obj _ _ st2 b hb;rw[←hd];exact EW (Jm e)
 have hd0:X.s₀.heap.objs.size<=d:=by rw[←hd];exact I2.sz
 generalize hs3:({s2 with heap:=s2.heap.push {cls:=.type "list",dict:=none,data:=.seq ([]:List Jd).toArray}}:Jf)=s3 at I3;have od3:s3.heap.get? d=some {cls:=.type "list",dict:=none,data:=.seq ([]:List Jd).toArray}:=by rw[←hs3];exact od
 have st3':tn 0 s3.heap:=by rw[←hs3];exact st3
 have hex:∀b∈d::fp,dQ X pins H2 b/\∃o,s3.heap.get? b=some o:=λb hb=>by
  rcases ycM hb with e|hb;subst e;exact⟨fd,_,od3⟩
  ·obtain⟨o,e,_⟩:=T.obj _ _ st3' b hb;exact⟨f2 b hb,o,e⟩
 refine dP λh4 hns hk hcl=>?_;have J0:=I3.enter (ex:=d::fp) (xe:=λ_ _=>False) B hex hns hk hcl;generalize hCs:Jy (s3.heap.objs.size+1) scope.names (br X.env scope.names [])=cells at J0;have hCd:s3.heap.objs.size≠d:=λz=>by have:=Jm od3;rw[z]at this;exact Ff _ this
 let bk:Bk:=⟨cells,s3.heap.objs.size,s3,H2,d::fp,X.pn++pins⟩
 have J0':Inv (cxB X scope N' bk) [] (aL fr Z) H2 {s3 with heap:=h4}:=J0;show JN (Jj X.prog X.w) X.A (.compStart (.ListComp elt [⟨tg,iter,[],0⟩,⟨tg2,iter2,ifs2,0⟩] scope pos) 0 (.ref it) (.ref d) (cxB X scope N' bk).env) (RR (.ref d) s3.heap.objs.size) {s3 with heap:=h4};have ne_pn:∀p∈X.pn++pins,p.1≠d/\∀b∈fp,p.1≠b:=λp hp=>⟨fd.2.2.2.2.2 p hp,λb hb=>(f2 b hb).2.2.2.2.2 p hp⟩;have never:∀{α:Type} {t:Sem α} {QQ : α->Jf->Prop} {EE:Jd->Jf->Prop} {ss:Jf},Jk (Jj X.prog X.w) X.A t QQ (λ_ _=>False) ss->Jk (Jj X.prog X.w) X.A t QQ EE ss:=λhh=>Jo hh (λ_ _ z=>z) λ_ _ z=>z.elim;have fpk:∀{Hx:Hp} {o:Obj},(∀b∈fp,Hx b=none)->∀b∈fp,dQ (cxB X scope N' bk) [(d,o)] Hx b:=λ{Hx o} hn b hb=>by
  have hb':b∈d::fp:=ymC _ hb;refine⟨hn b hb,(J0'.ok.exf b hb').1,J0'.ok.exfs b hb',.inl hb',λx c e=>(J0'.ok.exf b hb').2 x c e,λp hp=>?_⟩;have hp':p∈(X.pn++pins)++[(d,o)]:=hp;rcases yaM hp' with z|z;exact(ne_pn p z).2 b hb
  ·have:p=(d,o):=by simpa using z
   rw[this];exact JI (ne_d b hb)
 have dC:=(J0'.ok.exf d ymS).1;have dS:=J0'.ok.exfs d ymS;have loop:∀s4:Jf,Inv (cxB X scope N' bk) [] (aL fr Z) H2 s4->tn 0 s4.heap->s4.heap.PlainList d #[] →
   JN (Jj X.prog X.w) X.A (.compLoop (.ListComp elt [⟨tg,iter,[],0⟩,⟨tg2,iter2,ifs2,0⟩] scope pos) 0 (.ref it) (.ref d) (cxB X scope N' bk).env) (RR (.ref d) s3.heap.objs.size) s4:=by
  intro s4 J4 st4 pl4;refine nV (hs2 bk) (λn s'=>∃i acc its H' Z',Inv (cxB X scope N' bk) [] Z' H' s'/\Kp fr (aL fr Z) Z'/\tn i s'.heap/\(∀b∈fp,H' b=none)/\H' d=none/\s'.heap.PlainList d (G5 its)/\Vals acc its/\W i n acc H') ?_ m0
   ⟨0,[],[],H2,aL fr Z,J4,Kp.refl _ _,st4,λb hb=>(f2 b hb).1,fd.1,pl4,.nil,w0⟩
  rintro n s5 ⟨i,acc,its,H5,Z5,J5,kp5,st5,fr5,hd5,⟨n5,pl5⟩,va5,w5⟩;obtain⟨hz,cs⟩:=turn i n acc H5 w5;have J5p:Inv (cxB X scope N' bk) [(d,{cls:=.type "list",data:=.seq its.toArray n5})] Z5 H5 s5:=J5.pins_of λp hp=>by
   have:p=(d,{cls:=.type "list",data:=.seq its.toArray n5}):=by simpa using hp
   subst this;exact⟨pl5,hd5,dC,dS,λv z=>by cases z⟩
  rcases cs with⟨stop,q⟩|⟨go,N,hN,step⟩
  ·refine never (thn (T.done (cxB X scope N' bk) rfl rfl rfl hc i _ s5 Z5 H5 _ J5p (fpk fr5) st5 stop) λr s6 ⟨hr,J6⟩=>?_);subst hr;obtain⟨e6,n6,_⟩:=J6.pin (d,{cls:=.type "list",data:=.seq its.toArray n5}) (yaR _ (by simp));have I6:Inv X pins Z H5 s6:=I3.leave (λb hb=>(hex b hb).1) J6;have I6t:Inv X pins Z (upd H5 d (.lst acc)) s6:=I6.track ⟨hd5,fd.2⟩ (.inr hd0) hd0 ⟨by omega,its,n5,va5,e6⟩;obtain⟨m6,hn6,_⟩:=J6.loc;refine hRR d s3.heap.objs.size (.ref d) _ s6 m6 I6t rfl (q d hd5) hn6 ?_ hCd;exact I3.fpOk (Eo _) (by rw[aN hCd];exact J6.free)
  ·refine never (thn (T.item (cxB X scope N' bk) rfl rfl rfl hc i _ s5 Z5 H5 _ J5p (fpk fr5) st5 go) λr s6 ⟨u,hr,h6⟩=>?_);subst hr;refine never (thn h6 λ_ s7 ⟨x,H7,J7,r7,y7,st7,fr7⟩=>?_);have J7w:Inv (cxB X scope N' bk) [(d,{cls:=.type "list",data:=.seq its.toArray n5})] (aL fr Z) H7 s7:=J7.weak kp5.1.symm (pW kp5);have J7p:=J7w.pinned (fpk fr7) (T.obj _ _ st7);have G:=hgk x (aL fr Z) H7 _ (λZ2 H2=>(wi2 Z2 H2 λJ2 H3=>rH J2 (aL fr2 Z2) g2 tc2 te acc H3 N)/\Kp fr (aL fr Z) Z2) (λZ' H' a b=>⟨a,b⟩) (step x H7 y7);refine never (thn (hg bk _ s7 (aL fr Z) H7 x u _ J7p r7 G) λ_ s8 ⟨Z8,H8,J8,q8,kp8⟩=>?_);refine never (thn (hi2 bk _ s8 Z8 H8 _ J8 q8) λv9 s9 h9=>thn h9 λj s10 h10=>?_);obtain⟨it2,fp2,tn2,J2,H10,rfl,J10,T2,st10,f10,W2,⟨m2,w2⟩,turn2⟩:=h10;have keep1:∀{pp:List (Addr×Obj)} {Zx:St} {Hx:Hp} {sx:Jf},(∀p∈bp fp s7.heap,p∈pp)->Inv (cxB X scope N' bk) pp Zx Hx sx->(∀b∈fp,∀o,s7.heap.get? b=some o->sx.heap.get? b=some o)/\(∀b∈fp,Hx b=none):=λ{pp Zx Hx sx} hpp Jx=>by
    refine⟨λb hb o e=>(Jx.pin (b,o) (yaR _ (hpp _ (bm hb e)))).1,λb hb=>?_⟩;obtain⟨o,e,_⟩:=T.obj _ _ st7 b hb;exact(Jx.pin (b,o) (yaR _ (hpp _ (bm hb e)))).2.1
   have ne2:∀b∈fp2,b≠d:=λb hb z=>(f10 b hb).2.2.2.2.2 (d,{cls:=.type "list",data:=.seq its.toArray n5}) (yaR _ (yaL _ (by simp))) z.symm;have fpk2:∀{Hx:Hp} {o:Obj},(∀b∈fp2,Hx b=none)->∀b∈fp2,dQ (cxB X scope N' bk) ([(d,o)]++bp fp s7.heap) Hx b:=λ{Hx o} hn b hb=>by
    obtain⟨_,k1,k2,k3,k4,k5⟩:=f10 b hb;refine⟨hn b hb,k1,k2,k3,k4,λp hp=>?_⟩;rcases yaM hp with z|z;exact k5 p (yaL _ z)
    ·rcases yaM z with z|z
     ·have:p=(d,o):=by simpa using z
      rw[this];exact(ne2 b hb).symm
     ·exact k5 p (yaR _ (yaR _ z))
   obtain⟨e10,hd10,_⟩:=J10.pin (d,{cls:=.type "list",data:=.seq its.toArray n5}) (yaR _ (yaL _ (by simp)));have J10w:Inv (cxB X scope N' bk) (bp fp s7.heap) (aL fr2 Z8) H10 s10:=by
    have J10p:Inv (cxB X scope N' bk) (bp fp s7.heap) Z8 H10 s10:=J10.pins_of λp hp=>J10.pin p (yaR _ (yaR _ hp));refine J10p.weak ?_ λk v e=>?_
    ·rw[bC,kp8.1,bC];unfold nw at hsub;rw[Ei]at hsub;have h1:=hsub.1;simpa using h1
    ·unfold aL at e;rw[Ep]at e;cases q:fr2[k]? with
     | none=>rw[q]at e;cases e
     | some o=>
      rw[q]at e;cases o with
      | none=>simp at e
      | some j=>
       have hk:k<fr.length:=by
        unfold nw at hsub;rw[Ei]at hsub;have h1:fr2.length=fr.length:=by simpa using hsub.1
        have:=(Eg.mp q).1;omega
       have hj:j=k:=by
        unfold nw at hsub;rw[Ei]at hsub;have h3:=E6.mp hsub.2 k (Fi.mpr hk);rw[q]at h3;simp at h3;exact h3
       subst hj;have e':Z8.getD j none=some v:=by simpa using e
       rw[EL]at e';cases q2:Z8[j]? with
       | none=>rw[q2]at e';cases e'
       | some y=>rw[q2]at e';simp at e';rw[e']
   have inner:∀s11:Jf,s11=s10->JN (Jj X.prog X.w) X.A (.compLoop (.ListComp elt [⟨tg,iter,[],0⟩,⟨tg2,iter2,ifs2,0⟩] scope pos) 1 (.ref it2) (.ref d) (cxB X scope N' bk).env)
     (λr s₅=>match r with|.ok _=>∃m,m<n/\∃i acc its H' Z',Inv (cxB X scope N' bk) [] Z' H' s₅/\Kp fr (aL fr Z) Z'/\tn i s₅.heap/\(∀b∈fp,H' b=none)/\H' d=none/\s₅.heap.PlainList d (G5 its)/\Vals acc its/\W i m acc H'|.error _=>False) s11:=by
    rintro s11 rfl;refine nU (λn2 s'=>∃i2 acc its H' Z',Inv (cxB X scope N' bk) (bp fp s7.heap) Z' H' s'/\Kp fr2 (aL fr2 Z8) Z'/\tn2 i2 s'.heap/\(∀b∈fp2,H' b=none)/\H' d=none/\s'.heap.PlainList d (G5 its)/\Vals acc its/\W2 i2 n2 acc H') ?_ m2
     ⟨0,acc,its,H10,aL fr2 Z8,J10w,Kp.refl _ _,st10,λb hb=>(f10 b hb).1,hd10,⟨n5,e10⟩,va5,w2⟩
    rintro n' t5 ⟨i2,acc2,its2,K5,τ5,L5,kq5,ut5,gr5,he5,⟨n6,ql5⟩,vb5,x5⟩;obtain⟨hz2,cs2⟩:=turn2 i2 n' acc2 K5 x5;have L5p:Inv (cxB X scope N' bk) ([(d,{cls:=.type "list",data:=.seq its2.toArray n6})]++bp fp s7.heap) τ5 K5 t5:=L5.pins_of λp hp=>by
     rcases yaM hp with z|z
     ·have:p=(d,{cls:=.type "list",data:=.seq its2.toArray n6}):=by simpa using z
      subst this;exact⟨ql5,he5,dC,dS,λv z=>by cases z⟩
     ·exact L5.pin p (yaR _ z)
    rcases cs2 with⟨stop2,q2⟩|⟨go2,N2,hN2,step2⟩
    ·refine thn (T2.done (cxB X scope N' bk) rfl rfl rfl hc i2 _ t5 τ5 K5 _ L5p (fpk2 gr5) ut5 stop2) λr t6 ⟨hr,L6⟩=>?_;subst hr;obtain⟨e6,n6',_⟩:=L6.pin (d,{cls:=.type "list",data:=.seq its2.toArray n6}) (yaR _ (yaL _ (by simp)));obtain⟨m',hm,w6⟩:=hN _ _ q2;obtain⟨k1,k2⟩:=keep1 (λp hp=>yaR _ hp) L6;exact⟨m',hm,i+1,acc2,its2,K5,τ5,L6.pins_of (λp hp=>by simp at hp),zx hsub kp8 kq5,T.keep _ _ _ st7 k1,k2,n6',⟨n6,e6⟩,vb5,w6⟩
    ·refine thn (T2.item (cxB X scope N' bk) rfl rfl rfl hc i2 _ t5 τ5 K5 _ L5p (fpk2 gr5) ut5 go2) λr t6 ⟨u2,hr,h6⟩=>?_;subst hr;refine thn h6 λ_ t7 ⟨x2,K7,L7,s7r,y72,ut7,gr7⟩=>?_;have L7w:Inv (cxB X scope N' bk) ([(d,{cls:=.type "list",data:=.seq its2.toArray n6})]++bp fp s7.heap) (aL fr2 Z8) K7 t7:=L7.weak kq5.1.symm (pW kq5);have L7p:=L7w.pinned (fpk2 gr7) (T2.obj _ _ ut7);have G2:=hgk2 x2 (aL fr2 Z8) K7 _ (λZ3 H4=>(tc2 Z3 H4 λb H5=>if b=true then te Z3 H5 λv H6=>N2 (acc2++[v]) H6 else N2 acc2 H5)/\Kp fr2 (aL fr2 Z8) Z3) (λZ' H' a b=>⟨a,b⟩) (step2 x2 K7 y72);refine thn (hg2 bk _ t7 (aL fr2 Z8) K7 x2 u2 _ L7p s7r G2) λ_ t8 ⟨τ8,K8,L8,q82,kq8⟩=>?_;refine thn (ht bk _ t8 τ8 K8 _ L8 q82) λok t9 ⟨K9,L9,q9⟩=>?_;have keepT:∀{Zx:St} {Hx:Hp} {sx:Jf},Inv (cxB X scope N' bk) (([(d,{cls:=.type "list",data:=.seq its2.toArray n6})]++bp fp s7.heap)++bp fp2 t7.heap) Zx Hx sx->(∀b∈fp2,∀o,t7.heap.get? b=some o->sx.heap.get? b=some o)/\(∀b∈fp2,Hx b=none)/\sx.heap.get? d=some {cls:=.type "list",data:=.seq its2.toArray n6}/\Hx d=none:=λ{Zx Hx sx} Jx=>by
      refine⟨λb hb o e=>(Jx.pin (b,o) (yaR _ (yaR _ (bm hb e)))).1,λb hb=>?_,?_⟩
      ·obtain⟨o,e,_⟩:=T2.obj _ _ ut7 b hb;exact(Jx.pin (b,o) (yaR _ (yaR _ (bm hb e)))).2.1
      ·have:=Jx.pin (d,{cls:=.type "list",data:=.seq its2.toArray n6}) (yaR _ (yaL _ (yaL _ (by simp))));exact⟨this.1,this.2.1⟩
     have strip:∀{Zx:St} {Hx:Hp} {sx:Jf},Inv (cxB X scope N' bk) (([(d,{cls:=.type "list",data:=.seq its2.toArray n6})]++bp fp s7.heap)++bp fp2 t7.heap) Zx Hx sx->Inv (cxB X scope N' bk) (bp fp s7.heap) Zx Hx sx:=λJx=>Jx.pins_of λp hp=>Jx.pin p (yaR _ (yaL _ (yaR _ hp)));cases ok with
     | false=>
      rw[if_neg (by decide)]at q9⊢;obtain⟨m',hm,w9⟩:=hN2 _ _ q9;obtain⟨k1,k2,k3,k4⟩:=keepT L9;exact⟨m',hm,i2+1,acc2,its2,K9,τ8,strip L9,kq8,T2.keep _ _ _ ut7 k1,k2,k4,⟨n6,k3⟩,vb5,w9⟩
     | true=>
      rw[if_pos rfl]at q9⊢;refine thn (he bk _ t9 τ8 K9 _ L9 q9) λy t10 ⟨v,K10,L10,r10,q10⟩=>?_;obtain⟨m',hm,w10⟩:=hN2 _ _ q10;obtain⟨k1,k2,k3,k4⟩:=keepT L10;have hzs:its2.toArray.size<=sizeLine:=by rw[Eh,←vb5.length];omega
      refine Lw (hsz:=hzs) ⟨n6,k3⟩ λh11 pl11 sb11=>?_;have L11:Inv (cxB X scope N' bk) (bp fp s7.heap) τ8 K10 {t10 with heap:=h11}:=(strip L10).turned (it:=d) (t':=t10.toks) (λb o hb e=>(sb11.2 b hb).trans e) k4 dC (.inl ymS) (λx c e=>(J0'.ok.exf d ymS).2 x c e) λp hp=>by
       have hp':p∈(X.pn++pins)++bp fp s7.heap:=hp;rcases yaM hp' with z|z;exact(ne_pn p z).1;exact ne_d p.1 (kX z).1
      refine⟨m',hm,i2+1,acc2++[v],its2++[y],K10,τ8,L11,kq8,T2.keep _ _ _ ut7 (λb hb o e=>(sb11.2 b (ne2 b hb)).trans (k1 b hb o e)),k2,k4,?_,vb5.append (.cons r10 .nil),w10⟩;have:(its2++[y]).toArray=its2.toArray.push y:=by simp
      rw[this];exact pl11
   exact nq (inner s10 rfl) (T2.self X.A 0 _ _ _ st10 (inner s10 rfl))
 have st4:tn 0 h4:=T.keep _ _ _ st3' λb _ o e=>hk b o e;have pl4:h4.PlainList d #[]:=⟨0,hk d _ od3⟩;have L4:=loop {s3 with heap:=h4} J0' st4 pl4;exact LI L4 (T.self X.A 0 _ _ _ st4 L4)
theorem tF(hc:X.calm=true)(B:Blk X.env.scope scope X.N N' fr)(hsub:nw fr fr2=true)(hi:PI X tg iter wi)
  (hg:∀b,PG (cxB X scope N' b) tg g) (hgk:b9 fr g) (hi2:∀b,PI (cxB X scope N' b) tg2 iter2 wi2) (hg2:∀b,PG (cxB X scope N' b) tg2 g2) (hgk2:b9 fr2 g2) (ht:∀b,PTs (cxB X scope N' b) ifs2 tc2) (he:∀b,PE (cxB X scope N' b) elt te)
  (hs:∀x,Jt iter X.env x=pure x:=by intro _;rfl) (hs2:∀b x,Jt iter2 (cxB X scope N' b).env x=pure x:=by intro _ _;rfl) :
  PE X (.ListComp elt [⟨tg,iter,[],0⟩,⟨tg2,iter2,ifs2,0⟩] scope pos) (vb wi fr g wi2 fr2 g2 tc2 te):=by
 intro pins s Z H Q I h;rw[eval_ListComp];refine J1 (use:=none) rfl hs (cK (I.freeCells B)) B.kind B.locl (thn (hi pins s Z H _ I h) λv s1 h1=>thn h1 λitv s2 h2=>?_);refine mf (RR:=λacc C=>Nr (Jj X.prog X.w) X.A X.xe none (EP X pins Z Q) acc C) hc B hsub hg hgk hi2 hg2 hgk2 ht he hs2 h2 ?_;intro d C v H' s' m' I' hv q hn fC hCd;refine⟨m',hn,λh'' sb=>?_⟩;obtain⟨c0,c1,c2,c3,c4,c5⟩:=fC;exact⟨v,H',I'.turned (it:=C) (t':=s'.toks) (λb o hb e=>(sb.2 b hb).trans e) c0 c1 c3 c4 c5,by rw[hv];rfl,q⟩
end
open PySem.AutoSeq1 (wpAny_loadPart')
def lS:V->List V->Hp->VK->Prop:=λx vs H Q=>∃l xs i y,x=.ref l/\vs=[.int i,y]/\H l=some (.lst xs)/\0<=i/\i<=xs.length/\xs.length<sizeLine/\Q .non (upd H l (.lst (xs.take i.toNat++y::xs.drop i.toNat)))
theorem qy{X:Cx}:MtM X "list.insert" lS:=by
 intro pins s Z H x vs v us Q I rx rv h;obtain⟨l,xs,i,y,rfl,rfl,hH,hi0,hi,hz0,q⟩:=h;cases rx;obtain⟨u1,u2,rfl,ru,ry⟩:=pT rv;obtain⟨t,rfl⟩:=ru;obtain⟨z,its,n,r,hl,e⟩:=I.lstM hH;have h63:i<2^63:=by rw[Ji]at hz0;omega
 have h62 : -(2^63)<=i:=by omega
 have hfit:¬(!Builtin.List.listFitsIndex i)=true:=by rw[La h62 h63];exact EA
 have hsz:its.toArray.size<=sizeLine:=by rw[Eh];omega
 refine JO F.slot_list_insert ⟨_,e,rfl⟩ F.entry_list_insert (F.args_list_insert_3 _ _ _) (PySem.AutoSeq1.list_insert_list_int_val_1 l _ n i t u2 hfit hsz) ⟨e,?_⟩;refine⟨.non,_,I.lset (its':=its.take i.toNat++u2::its.drop i.toNat) hH e ?_ ((r.take i.toNat).append (.cons ry (r.drop i.toNat))) ?_,rfl,q⟩
 ·show(its.toArray.extract 0 (if i<0 then(i+(its.toArray.size:Int)).toNat else min i.toNat its.toArray.size)).push u2++its.toArray.extract (if i<0 then(i+(its.toArray.size:Int)).toNat else min i.toNat its.toArray.size)=(its.take i.toNat++u2::its.drop i.toNat).toArray;have hm:min i.toNat its.toArray.size=i.toNat:=by rw[Eh];omega
  rw[if_neg (by omega),hm];simp;rw[EG (by rw[Fm];exact Eo _)]
 ·rw[Et,EZ,Ey,Fm];omega
noncomputable def dB:Expr->Bool
 | .Starred _ _=>true
 | _=>false
theorem bq{e:Expr}{es:List Expr}{env:Env}(h:dB e=false):Jv (e::es) env=(false,eval e env)::Jv es env:=by
 cases e<;>first|rfl|cases h
noncomputable def bo:List Expr->Bool
 | []=>true
 | e::es=>(!dB e)&&bo es
theorem cQ{env:Env}{pos:Pos}:∀{es:List Expr},bo es=true->(Kq pos (Jv es env)).any (·.1)=false
 | [],_=>rfl
 | e::es,h=>by
  rw[bo,Ei]at h;have h1:dB e=false:=by simpa using h.1
  rw[bq h1];show(false||(Kq pos (Jv es env)).any (·.1))=false;rw[cQ h.2];rfl
theorem jt{env:Env}{pos:Pos}:∀{es:List Expr},bo es=true->(Kq pos (Jv es env)).all (λx=>!x.1)=true
 | [],_=>rfl
 | e::es,h=>by
  rw[bo,Ei]at h;have h1:dB e=false:=by simpa using h.1
  rw[bq h1];show(!false&&(Kq pos (Jv es env)).all (λx=>!x.1))=true;rw[jt h.2];rfl
section
variable {X:Cx}{K:yF}{e:Expr}{es:List Expr}{te:TE}{t:TA}{x:Str}{p pos:Pos}{k:Nat}{ps:List Str}{sp:Sp}
theorem eS(ha:PE X e te)(hr:PA X es t)(hs:dB e=false:=by rfl):PA X (e::es) (pM te t):=wB ha hr (bq hs)
theorem om(h:Has X.prog X.w X.K X.mg X.base k x ps sp)(hr:IF k X.A)(hg:Gl X x)(ha:PA X (e::es) t)(hn:bo (e::es)=true:=by rfl)(hdb:(x==("__debug__" : Str))=false:=by decide):PE X (.Call (.Name x p) (e::es) [] pos) (j8 sp [] E0 t):=by
 rw[bo,Ei]at hn;exact Cm h hr hg ha hdb (bq (by simpa using hn.1)) (cQ hn.2)
theorem kZ{id:String}{r:List V->Hp->VK->Prop}(hc:ID X (.builtin id) r)(hg:Gl X x)(hm:X.mg x=none)(hb:JQ x=some (.builtin id))(ha:PA X (e::es) t)(hn:bo (e::es)=true:=by rfl)(hx:x≠("__name__" : Str):=by decide)(hdb:(x==("__debug__" : Str))=false:=by decide):PE X (.Call (.Name x p) (e::es) [] pos) (tCB r t):=by
 rw[bo,Ei]at hn;exact tE hc hg hm hb ha hx hdb (bq (by simpa using hn.1)) (cQ hn.2)
theorem dH{T:String}{r:List V->Hp->VK->Prop}(hc:ID X (.type T) r)(hg:Gl X x)(hm:X.mg x=none)(hb:JQ x=some (.type T))(ha:PA X (e::es) t)(hn:bo (e::es)=true:=by rfl)(hx:x≠("__name__" : Str):=by decide)(hdb:(x==("__debug__" : Str))=false:=by decide):PE X (.Call (.Name x p) (e::es) [] pos) (tCB r t):=by
 rw[bo,Ei]at hn;exact qE hc hg hm hb ha hx hdb (bq (by simpa using hn.1)) (cQ hn.2)
theorem yX{o:Expr}{to:TE}{name:Str}{apos cpos:Pos}{T id:String}{r:V->List V->Hp->VK->Prop}(h:X.K=K)(pa:Kz T)(slot:Slot T name id)(hty:Mr (.builtin id)=pure (.type "method_descriptor"))(hm:MtR X id r)(ho:PE X o to)(ha:PA X (e::es) t)(hn:bo (e::es)=true:=by rfl)(hlen:decide ((e::es).length<30)=true:=by rfl)
  (hbase:JU o name X.env (eval o X.env)=eval o X.env:=by rfl) (hline:(apos.endLine==cpos.line)=true:=by rfl):PE X (.Call (.Attribute o name apos) (e::es) [] cpos) (tBM K T r to t):=by
 have hn':=hn;rw[bo,Ei]at hn';refine bmK h pa slot hty hm ho ha hbase ?_ hline (bq (by simpa using hn'.1)) (cQ hn'.2);rw[jt hn];have:=of_decide_eq_true hlen;simp only[Hy,List.length_nil,Nat.add_zero,List.isEmpty_nil,if_true];rw[decide_eq_true this];rfl
end
inductive I where
 | non|bl (b:Bool)|int (i:Int)|str (x:Str)|tup (is:List I)|ls (is:List I)
 | fd (ks:List Key) (is:List I)
mutual
def I.beq:I->I->Bool
 | .non,.non=>true
 | .bl a,.bl b=>a==b
 | .int a,.int b=>decide (a=b)
 | .str a,.str b=>decide (a=b)
 | .tup a,.tup b=>I.beqs a b
 | .ls a,.ls b=>I.beqs a b
 | .fd k a,.fd j b=>decide (k=j)&&I.beqs a b
 | _,_=>false
def I.beqs:List I->List I->Bool
 | [],[]=>true
 | a::as,b::bs=>I.beq a b&&I.beqs as bs
 | _,_=>false
end
mutual
theorem I.beq_iff:∀{a b:I},I.beq a b=true↔a=b
 | .non,b=>by cases b<;>simp[I.beq]
 | .bl x,b=>by cases b<;>simp[I.beq]
 | .int x,b=>by cases b<;>simp[I.beq]
 | .str x,b=>by cases b<;>simp[I.beq]
 | .tup x,b=>by
  cases b with
  | tup y=>rw[I.beq,I.beqs_iff,I.tup.injEq]
  | _=>simp[I.beq]
 | .ls x,b=>by
  cases b with
  | ls y=>rw[I.beq,I.beqs_iff,I.ls.injEq]
  | _=>simp[I.beq]
 | .fd k x,b=>by
  cases b with
  | fd j y=>rw[I.beq,Ei,I.beqs_iff,I.fd.injEq,decide_eq_true_iff]
  | _=>simp[I.beq]
theorem I.beqs_iff:∀{a b:List I},I.beqs a b=true↔a=b
 | [],b=>by cases b<;>simp[I.beqs]
 | x::xs,b=>by
  cases b with
  | nil=>simp[I.beqs]
  | cons y ys=>rw[I.beqs,Ei,I.beq_iff,I.beqs_iff,FG.injEq]
end
instance:DecidableEq I:=λa b=>decidable_of_iff (I.beq a b=true) I.beq_iff
inductive T where
 | im (i:I)|tup (ts:List T)|li (is:List I)|lst (ts:List T)|di (kvs:List (I×I))|dc (kvs:List (I×T))|ins (C:Addr) (fs:List (Str×T))
noncomputable def bZ:Key->I
 | .inl i=>.int i
 | .inr x=>.str x
def DAt(K:yF)(H:Hp)(a:Addr)(ks:List (I×V)):Prop:=∃ys:List (Key×V),H a=some (.dK ys)/\ks=ys.map λp=>(bZ p.1,p.2)
mutual
def RpI(K:yF)(H:Hp):I->V->Prop
 | .non,v=>v=.non
 | .bl b,v=>v=.bl b
 | .int i,v=>v=.int i
 | .str x,v=>v=.str x
 | .tup is,v=>∃a xs,v=.ref a/\SqT K H a xs/\Ir K H is xs
 | .ls is,v=>∃a o xs,v=.ref a/\H a=some (.frz o (.lst xs))/\Ir K H is xs
 | .fd ks is,v=>∃a o ys,v=.ref a/\H a=some (.frz o (.dK ys))/\ys.map (·.1)=ks/\Ir K H is (ys.map (·.2))
def Ir(K:yF)(H:Hp):List I->List V->Prop
 | [],xs=>xs=[]
 | t::ts,xs=>∃x r,xs=x::r/\RpI K H t x/\Ir K H ts r
end
mutual
def Rp(K:yF)(H:Hp):T->V->List Addr->Prop
 | .im i,v,F=>RpI K H i v/\F=[]
 | .tup ts,v,F=>∃a xs,v=.ref a/\SqT K H a xs/\Rps K H ts xs F
 | .li is,v,F=>∃a xs,v=.ref a/\Rd H a (.lst xs)/\Ir K H is xs/\F=[a]
 | .lst ts,v,F=>∃a xs F',v=.ref a/\Rd H a (.lst xs)/\Rps K H ts xs F'/\F=a::F'
 | .di kvs,v,F=>∃a ys,v=.ref a/\DAt K H a ys/\Ir K H (kvs.map (·.2)) (ys.map (·.2))/\ys.map (·.1)=kvs.map (·.1)/\F=[a]
 | .dc kvs,v,F=>∃a ys F',v=.ref a/\DAt K H a ys/\Rpk K H kvs ys F'/\F=a::F'
 | .ins C fs,v,F=>∃a dx ys F',v=.ref a/\H a=some (.ins C dx ys)/\Rpf K H fs ys F'/\F=a::F'
def Rps(K:yF)(H:Hp):List T->List V->List Addr->Prop
 | [],xs,F=>xs=[]/\F=[]
 | t::ts,xs,F=>∃x r F1 F2,xs=x::r/\Rp K H t x F1/\Rps K H ts r F2/\F=F1++F2
def Rpk(K:yF)(H:Hp):List (I×T)->List (I×V)->List Addr->Prop
 | [],xs,F=>xs=[]/\F=[]
 | (k,t)::ts,xs,F=>∃x r F1 F2,xs=(k,x)::r/\Rp K H t x F1/\Rpk K H ts r F2/\F=F1++F2
def Rpf(K:yF)(H:Hp):List (Str×T)->List (Str×V)->List Addr->Prop
 | [],xs,F=>xs=[]/\F=[]
 | (k,t)::ts,xs,F=>∃x r F1 F2,xs=(k,x)::r/\Rp K H t x F1/\Rpf K H ts r F2/\F=F1++F2
end
noncomputable def DW:HO->Bool
 | .lst _=>true|.dK _=>true|.dT _=>true|.ins _ _ _=>true|.ext _=>true|_=>false
def Mu(H:Hp)(a:Addr):Prop:=∃o,H a=some o/\DW o=true
def Iy(M:List Addr)(H H':Hp):Prop:=∀b o,H b=some o->b∉M->H' b=some o
theorem IG.offM{H H':Hp}(s:IG H H')(M:List Addr):Iy M H H':=λb o h _=>s b o h
theorem Iy.refl(M:List Addr)(H:Hp):Iy M H H:=λb o h _=>h
theorem Iy.mono{M M':List Addr}{H H1:Hp}(x:Iy M H H1)(y:∀a∈M,a∈M'):Iy M' H H1:=λb o h n=>x b o h λz=>n (y b z)
theorem Iy.upd{H:Hp}{a:Addr}{o:HO}:Iy [a] H (upd H a o):=λb u h n=>by rw[aN (by simpa using n)];exact h
theorem Iy.rd{M:List Addr}{H H':Hp}{a:Addr}{o:HO}(x:Iy M H H')(n:a∉M)(h:Rd H a o):Rd H' a o:=by
 rcases h with h|⟨u,h⟩;exact .inl (x a _ h n);exact .inr ⟨u,x a _ h n⟩
theorem Iy.sqT{K:yF}{M:List Addr}{H H':Hp}{a:Addr}{xs:List V}(x:Iy M H H')(hM:∀b∈M,Mu H b)(h:SqT K H a xs):SqT K H' a xs:=by
 rcases h with(h|⟨u,h⟩)|h;exact .inl (.inl (x a _ h λz=>by obtain⟨o,e,m⟩:=hM a z;rw[h]at e;cases e;cases m));exact .inl (.inr ⟨u,x a _ h λz=>by obtain⟨o,e,m⟩:=hM a z;rw[h]at e;cases e;cases m⟩);exact .inr h
theorem DAt.off{K:yF}{M:List Addr}{H H':Hp}{a:Addr}{ks:List (I×V)}(x:Iy M H H')(n:a∉M)(h:DAt K H a ks):DAt K H' a ks:=by
 obtain⟨ys,h1,h2⟩:=h;exact⟨ys,x a _ h1 n,h2⟩
theorem DAt.dom{K:yF}{H:Hp}{a:Addr}{ks:List (I×V)}(h:DAt K H a ks):∃o,H a=some o:=by
 obtain⟨ys,h1,h2⟩:=h;exact⟨_,h1⟩
theorem Rd.dom{H:Hp}{a:Addr}{u:HO}(h:Rd H a u):∃o,H a=some o:=by
 rcases h with h|⟨o,h⟩;exact⟨_,h⟩;exact⟨_,h⟩
mutual
theorem RpI.off{K:yF}{M:List Addr}{H H':Hp}(x:Iy M H H')(hM:∀b∈M,Mu H b):∀{t:I} {v:V},RpI K H t v->RpI K H' t v
 | .non,_,h=>by rw[RpI]at h⊢;exact h
 | .bl _,_,h=>by rw[RpI]at h⊢;exact h
 | .int _,_,h=>by rw[RpI]at h⊢;exact h
 | .str _,_,h=>by rw[RpI]at h⊢;exact h
 | .tup ts,_,h=>by rw[RpI]at h⊢;obtain⟨a,xs,h1,h2,h3⟩:=h;exact⟨a,xs,h1,x.sqT hM h2,Ir.off x hM h3⟩
 | .ls ts,_,h=>by
  rw[RpI]at h⊢;obtain⟨a,o,xs,h1,h2,h3⟩:=h;exact⟨a,o,xs,h1,x a _ h2 (λz=>by obtain⟨u,e,m⟩:=hM a z;rw[h2]at e;cases e;cases m),Ir.off x hM h3⟩
 | .fd ks ts,_,h=>by
  rw[RpI]at h⊢;obtain⟨a,o,ys,h1,h2,h3,h4⟩:=h;exact⟨a,o,ys,h1,x a _ h2 (λz=>by obtain⟨u,e,m⟩:=hM a z;rw[h2]at e;cases e;cases m),h3,Ir.off x hM h4⟩
theorem Ir.off{K:yF}{M:List Addr}{H H':Hp}(x:Iy M H H')(hM:∀b∈M,Mu H b):∀{ts:List I} {xs:List V},Ir K H ts xs->Ir K H' ts xs
 | [],_,h=>by rw[Ir]at h⊢;exact h
 | t::ts,_,h=>by
  rw[Ir]at h⊢;obtain⟨y,r,h1,h2,h3⟩:=h;exact⟨y,r,h1,RpI.off x hM h2,Ir.off x hM h3⟩
end
mutual
theorem Rp.off{K:yF}{M:List Addr}{H H':Hp}(x:Iy M H H')(hM:∀b∈M,Mu H b):∀{t:T} {v:V} {F:List Addr},(∀a∈F,a∉M)->Rp K H t v F->Rp K H' t v F
 | .im _,_,_,_,h=>by rw[Rp]at h⊢;exact⟨RpI.off x hM h.1,h.2⟩
 | .tup ts,_,_,n,h=>by rw[Rp]at h⊢;obtain⟨a,xs,h1,h2,h3⟩:=h;exact⟨a,xs,h1,x.sqT hM h2,Rps.off x hM n h3⟩
 | .li ts,_,_,n,h=>by
  rw[Rp]at h⊢;obtain⟨a,xs,h1,h2,h3,rfl⟩:=h;exact⟨a,xs,h1,x.rd (n a ymS) h2,Ir.off x hM h3,rfl⟩
 | .lst ts,_,_,n,h=>by
  rw[Rp]at h⊢;obtain⟨a,xs,F',h1,h2,h3,rfl⟩:=h;exact⟨a,xs,F',h1,x.rd (n a ymS) h2,Rps.off x hM (λb hb=>n b (ymC _ hb)) h3,rfl⟩
 | .di kvs,_,_,n,h=>by
  rw[Rp]at h⊢;obtain⟨a,xs,h1,h2,h3,h4,rfl⟩:=h;exact⟨a,xs,h1,h2.off x (n a ymS),Ir.off x hM h3,h4,rfl⟩
 | .dc kvs,_,_,n,h=>by
  rw[Rp]at h⊢;obtain⟨a,xs,F',h1,h2,h3,rfl⟩:=h;exact⟨a,xs,F',h1,h2.off x (n a ymS),Rpk.off x hM (λb hb=>n b (ymC _ hb)) h3,rfl⟩
 | .ins C fs,_,_,n,h=>by
  rw[Rp]at h⊢;obtain⟨a,dx,xs,F',h1,h2,h3,rfl⟩:=h;exact⟨a,dx,xs,F',h1,x a _ h2 (n a ymS),Rpf.off x hM (λb hb=>n b (ymC _ hb)) h3,rfl⟩
theorem Rps.off{K:yF}{M:List Addr}{H H':Hp}(x:Iy M H H')(hM:∀b∈M,Mu H b):∀{ts:List T} {xs:List V} {F:List Addr},(∀a∈F,a∉M)->Rps K H ts xs F->Rps K H' ts xs F
 | [],_,_,_,h=>by rw[Rps]at h⊢;exact h
 | t::ts,_,_,n,h=>by
  rw[Rps]at h⊢;obtain⟨y,r,F1,F2,h1,h2,h3,rfl⟩:=h;exact⟨y,r,F1,F2,h1,Rp.off x hM (λb hb=>n b (yaL _ hb)) h2,Rps.off x hM (λb hb=>n b (yaR _ hb)) h3,rfl⟩
theorem Rpk.off{K:yF}{M:List Addr}{H H':Hp}(x:Iy M H H')(hM:∀b∈M,Mu H b):∀{ts:List (I×T)} {xs:List (I×V)} {F:List Addr},(∀a∈F,a∉M)->Rpk K H ts xs F->Rpk K H' ts xs F
 | [],_,_,_,h=>by rw[Rpk]at h⊢;exact h
 | (k,t)::ts,_,_,n,h=>by
  rw[Rpk]at h⊢;obtain⟨y,r,F1,F2,h1,h2,h3,rfl⟩:=h;exact⟨y,r,F1,F2,h1,Rp.off x hM (λb hb=>n b (yaL _ hb)) h2,Rpk.off x hM (λb hb=>n b (yaR _ hb)) h3,rfl⟩
theorem Rpf.off{K:yF}{M:List Addr}{H H':Hp}(x:Iy M H H')(hM:∀b∈M,Mu H b):∀{ts:List (Str×T)} {xs:List (Str×V)} {F:List Addr},(∀a∈F,a∉M)->Rpf K H ts xs F->Rpf K H' ts xs F
 | [],_,_,_,h=>by rw[Rpf]at h⊢;exact h
 | (k,t)::ts,_,_,n,h=>by
  rw[Rpf]at h⊢;obtain⟨y,r,F1,F2,h1,h2,h3,rfl⟩:=h;exact⟨y,r,F1,F2,h1,Rp.off x hM (λb hb=>n b (yaL _ hb)) h2,Rpf.off x hM (λb hb=>n b (yaR _ hb)) h3,rfl⟩
end
theorem Rps.same{K:yF}{H H':Hp}(x:IG H H'){t:List T}{v:List V}{F:List Addr}(h:Rps K H t v F):Rps K H' t v F:=Rps.off (x.offM []) (by simp) (by simp) h
theorem Ir.same{K:yF}{H H':Hp}(x:IG H H'){t:List I}{v:List V}(h:Ir K H t v):Ir K H' t v:=Ir.off (x.offM []) (by simp) h
mutual
theorem Rp.dom{K:yF}{H:Hp}:∀{t:T} {v:V} {F:List Addr},Rp K H t v F->∀a∈F,∃o,H a=some o
 | .im _,_,_,h=>by rw[Rp]at h;rw[h.2];simp
 | .tup ts,_,_,h=>by rw[Rp]at h;obtain⟨_,_,_,_,h⟩:=h;exact Rps.dom h
 | .li ts,_,_,h=>by
  rw[Rp]at h;obtain⟨a,xs,h1,h2,h3,rfl⟩:=h;intro b hb;rw[ysM hb];exact h2.dom
 | .lst ts,_,_,h=>by
  rw[Rp]at h;obtain⟨a,xs,F',h1,h2,h3,rfl⟩:=h;intro b hb;rcases ycM hb with rfl|hb;exact h2.dom;exact Rps.dom h3 b hb
 | .di ts,_,_,h=>by
  rw[Rp]at h;obtain⟨a,xs,h1,h2,h3,h4,rfl⟩:=h;intro b hb;rw[ysM hb];exact h2.dom
 | .dc ts,_,_,h=>by
  rw[Rp]at h;obtain⟨a,xs,F',h1,h2,h3,rfl⟩:=h;intro b hb;rcases ycM hb with rfl|hb;exact h2.dom;exact Rpk.dom h3 b hb
 | .ins C ts,_,_,h=>by
  rw[Rp]at h;obtain⟨a,dx,xs,F',h1,h2,h3,rfl⟩:=h;intro b hb;rcases ycM hb with rfl|hb;exact⟨_,h2⟩;exact Rpf.dom h3 b hb
theorem Rps.dom{K:yF}{H:Hp}:∀{ts:List T} {xs:List V} {F:List Addr},Rps K H ts xs F->∀a∈F,∃o,H a=some o
 | [],_,_,h=>by rw[Rps]at h;rw[h.2];simp
 | t::ts,_,_,h=>by
  rw[Rps]at h;obtain⟨y,r,F1,F2,h1,h2,h3,rfl⟩:=h;intro b hb;rcases yaM hb with hb|hb;exact Rp.dom h2 b hb;exact Rps.dom h3 b hb
theorem Rpk.dom{K:yF}{H:Hp}:∀{ts:List (I×T)} {xs:List (I×V)} {F:List Addr},Rpk K H ts xs F->∀a∈F,∃o,H a=some o
 | [],_,_,h=>by rw[Rpk]at h;rw[h.2];simp
 | (k,t)::ts,_,_,h=>by
  rw[Rpk]at h;obtain⟨y,r,F1,F2,h1,h2,h3,rfl⟩:=h;intro b hb;rcases yaM hb with hb|hb;exact Rp.dom h2 b hb;exact Rpk.dom h3 b hb
theorem Rpf.dom{K:yF}{H:Hp}:∀{ts:List (Str×T)} {xs:List (Str×V)} {F:List Addr},Rpf K H ts xs F->∀a∈F,∃o,H a=some o
 | [],_,_,h=>by rw[Rpf]at h;rw[h.2];simp
 | (k,t)::ts,_,_,h=>by
  rw[Rpf]at h;obtain⟨y,r,F1,F2,h1,h2,h3,rfl⟩:=h;intro b hb;rcases yaM hb with hb|hb;exact Rp.dom h2 b hb;exact Rpf.dom h3 b hb
end
theorem Ir.nil{K:yF}{H:Hp}:Ir K H [] []:=by rw[Ir]
theorem Ir.cons{K:yF}{H:Hp}{t:I}{ts:List I}{x:V}{xs:List V}(h:RpI K H t x)(hs:Ir K H ts xs):Ir K H (t::ts) (x::xs):=by rw[Ir];exact⟨x,xs,rfl,h,hs⟩
theorem Ir.cons_inv{K:yF}{H:Hp}{t:I}{ts:List I}{xs:List V}(h:Ir K H (t::ts) xs):∃x r,xs=x::r/\RpI K H t x/\Ir K H ts r:=by rw[Ir]at h;exact h
theorem Ir.nil_inv{K:yF}{H:Hp}{xs:List V}(h:Ir K H [] xs):xs=[]:=by rw[Ir]at h;exact h
theorem Ir.length{K:yF}{H:Hp}:∀{ts:List I} {xs:List V},Ir K H ts xs->xs.length=ts.length
 | [],xs,h=>by rw[h.nil_inv];rfl
 | d::ds,xs,h=>by obtain⟨x,r,rfl,_,h3⟩:=h.cons_inv;rw[Ey,Ey,h3.length]
theorem Ir.get{K:yF}{H:Hp}:∀{ts:List I} {xs:List V} {i:Nat} {t:I},Ir K H ts xs->ts[i]?=some t->∃x,xs[i]?=some x/\RpI K H t x
 | [],_,_,_,_,e=>by simp at e
 | d::ds,xs,0,d',h,e=>by
  obtain⟨x,r,rfl,h2,h3⟩:=h.cons_inv;simp at e;subst e;exact⟨x,rfl,h2⟩
 | d::ds,xs,i+1,d',h,e=>by
  obtain⟨x,r,rfl,h2,h3⟩:=h.cons_inv;obtain⟨y,h4,h5⟩:=Ir.get (i:=i) h3 (by simpa using e);exact⟨y,by simpa using h4,h5⟩
theorem Ir.append{K:yF}{H:Hp}:∀{ds es:List I} {xs ys:List V},Ir K H ds xs->Ir K H es ys->Ir K H (ds++es) (xs++ys)
 | [],es,xs,ys,h,h'=>by obtain rfl:=h.nil_inv;exact h'
 | d::ds,es,xs,ys,h,h'=>by
  obtain⟨x,r,rfl,h2,h3⟩:=h.cons_inv;exact Ir.cons h2 (Ir.append h3 h')
theorem Ir.take{K:yF}{H:Hp}:∀{ds:List I} {xs:List V} (n:Nat),Ir K H ds xs->Ir K H (ds.take n) (xs.take n)
 | ds,xs,0,h=>by simp only[GG];exact Ir.nil
 | [],xs,n+1,h=>by obtain rfl:=h.nil_inv;exact Ir.nil
 | d::ds,xs,n+1,h=>by
  obtain⟨x,r,rfl,h2,h3⟩:=h.cons_inv;exact Ir.cons h2 (Ir.take n h3)
theorem Ir.drop{K:yF}{H:Hp}:∀{ds:List I} {xs:List V} (n:Nat),Ir K H ds xs->Ir K H (ds.drop n) (xs.drop n)
 | ds,xs,0,h=>h
 | [],xs,n+1,h=>by obtain rfl:=h.nil_inv;exact Ir.nil
 | d::ds,xs,n+1,h=>by
  obtain⟨x,r,rfl,h2,h3⟩:=h.cons_inv;exact Ir.drop n h3
theorem Ir.one{K:yF}{H:Hp}{t:I}{x:V}(h:RpI K H t x):Ir K H [t] [x]:=.cons h .nil
theorem Ir.reverse{K:yF}{H:Hp}:∀{ds:List I} {xs:List V},Ir K H ds xs->Ir K H ds.reverse xs.reverse
 | [],xs,h=>by obtain rfl:=h.nil_inv;exact Ir.nil
 | d::ds,xs,h=>by
  obtain⟨x,r,rfl,h2,h3⟩:=h.cons_inv;rw[F4,F4];exact Ir.append (Ir.reverse h3) (.one h2)
theorem Ir.set{K:yF}{H:Hp}{t:I}{x:V}(hx:RpI K H t x):∀{ds:List I} {xs:List V} (n:Nat),Ir K H ds xs->Ir K H (ds.set n t) (xs.set n x)
 | [],xs,n,h=>by obtain rfl:=h.nil_inv;exact Ir.nil
 | d::ds,xs,0,h=>by obtain⟨y,r,rfl,h2,h3⟩:=h.cons_inv;exact Ir.cons hx h3
 | d::ds,xs,n+1,h=>by obtain⟨y,r,rfl,h2,h3⟩:=h.cons_inv;exact Ir.cons h2 (Ir.set hx n h3)
theorem Ir.ints{K:yF}{H:Hp}:∀(ns:List Int),Ir K H (ns.map I.int) (ns.map V.int)
 | []=>Ir.nil
 | n::ns=>Ir.cons (by rw[RpI]) (Ir.ints ns)
theorem Rps.nil{K:yF}{H:Hp}:Rps K H [] [] []:=by rw[Rps];exact⟨rfl,rfl⟩
theorem Rps.cons{K:yF}{H:Hp}{t:T}{ts:List T}{x:V}{xs:List V}{F F':List Addr}(h:Rp K H t x F)(hs:Rps K H ts xs F'):Rps K H (t::ts) (x::xs) (F++F'):=by rw[Rps];exact⟨x,xs,F,F',rfl,h,hs,rfl⟩
theorem Rps.cons_inv{K:yF}{H:Hp}{t:T}{ts:List T}{xs:List V}{F:List Addr}(h:Rps K H (t::ts) xs F):∃x r F1 F2,xs=x::r/\Rp K H t x F1/\Rps K H ts r F2/\F=F1++F2:=by rw[Rps]at h;exact h
theorem Rps.nil_inv{K:yF}{H:Hp}{xs:List V}{F:List Addr}(h:Rps K H [] xs F):xs=[]/\F=[]:=by rw[Rps]at h;exact h
theorem Rps.length{K:yF}{H:Hp}:∀{ts:List T} {xs:List V} {F:List Addr},Rps K H ts xs F->xs.length=ts.length
 | [],xs,_,h=>by rw[h.nil_inv.1];rfl
 | d::ds,xs,_,h=>by obtain⟨x,r,_,_,rfl,_,h3,_⟩:=h.cons_inv;rw[Ey,Ey,h3.length]
theorem Rps.append{K:yF}{H:Hp}:∀{ds es:List T} {xs ys:List V} {F G:List Addr},Rps K H ds xs F->Rps K H es ys G->Rps K H (ds++es) (xs++ys) (F++G)
 | [],es,xs,ys,F,G,h,h'=>by obtain⟨rfl,rfl⟩:=h.nil_inv;exact h'
 | d::ds,es,xs,ys,F,G,h,h'=>by
  obtain⟨x,r,F1,F2,rfl,h2,h3,rfl⟩:=h.cons_inv;rw[Eu];exact Rps.cons h2 (Rps.append h3 h')
theorem Rps.at{K:yF}{H:Hp}:∀{ts:List T} {xs:List V} {F:List Addr} {i:Nat} {t:T},Rps K H ts xs F->ts[i]?=some t →
  ∃x A G B,xs[i]?=some x/\Rp K H t x G/\F=A++G++B/\Rps K H (ts.take i) (xs.take i) A/\Rps K H (ts.drop (i+1)) (xs.drop (i+1)) B
 | [],_,_,_,_,_,e=>by simp at e
 | d::ds,xs,_,0,d',h,e=>by
  obtain⟨x,r,F1,F2,rfl,h2,h3,rfl⟩:=h.cons_inv;simp at e;subst e;exact⟨x,[],F1,F2,rfl,h2,by simp,Rps.nil,by simpa using h3⟩
 | d::ds,xs,_,i+1,d',h,e=>by
  obtain⟨x,r,F1,F2,rfl,h2,h3,rfl⟩:=h.cons_inv;obtain⟨y,A,G,B,h4,h5,h6,h7,h8⟩:=Rps.at (i:=i) h3 (by simpa using e);refine⟨y,F1++A,G,B,by simpa using h4,h5,by rw[h6];simp,?_,by simpa using h8⟩;simpa using Rps.cons h2 h7
theorem Rps.take{K:yF}{H:Hp}:∀{ds:List T} {xs:List V} {F:List Addr} (n:Nat),Rps K H ds xs F->∃G G',Rps K H (ds.take n) (xs.take n) G/\Rps K H (ds.drop n) (xs.drop n) G'/\F=G++G'
 | ds,xs,F,0,h=>⟨[],F,by simp only[GG];exact Rps.nil,by simpa using h,rfl⟩
 | [],xs,F,n+1,h=>by obtain⟨rfl,rfl⟩:=h.nil_inv;exact⟨[],[],Rps.nil,Rps.nil,rfl⟩
 | d::ds,xs,F,n+1,h=>by
  obtain⟨x,r,F1,F2,rfl,h2,h3,rfl⟩:=h.cons_inv;obtain⟨G,G',g1,g2,rfl⟩:=Rps.take n h3;exact⟨F1++G,G',Rps.cons h2 g1,g2,by rw[Eu]⟩
theorem Rps.ims{K:yF}{H:Hp}:∀{is:List I} {xs:List V} {F:List Addr},Rps K H (is.map T.im) xs F↔(Ir K H is xs/\F=[])
 | [],xs,F=>by rw[FB,Rps,Ir]
 | i::is,xs,F=>by
  rw[Ek,Rps,Ir];constructor
  ·rintro⟨x,r,F1,F2,rfl,h1,h2,rfl⟩;rw[Rp]at h1;have:=Rps.ims.mp h2;exact⟨⟨x,r,rfl,h1.1,this.1⟩,by rw[h1.2,this.2];rfl⟩
  ·rintro⟨⟨x,r,rfl,h1,h2⟩,rfl⟩;exact⟨x,r,[],[],rfl,by rw[Rp];exact⟨h1,rfl⟩,Rps.ims.mpr ⟨h2,rfl⟩,rfl⟩
theorem iJ{K:yF}{H:Hp}{i:I}{v:V}(h:RpI K H i v):Rp K H (.im i) v []:=by rw[Rp];exact⟨h,rfl⟩
theorem aX{K:yF}{H:Hp}{i:I}{v:V}{F:List Addr}(h:Rp K H (.im i) v F):RpI K H i v/\F=[]:=by rw[Rp]at h;exact h
noncomputable def I.sc:I->Option V
 | .non=>some .non|.bl b=>some (.bl b)|.int i=>some (.int i)|.str x=>some (.str x)|.tup _=>none|.ls _=>none|.fd _ _=>none
theorem jv{t:I}{K:yF}{H:Hp}{v:V}(h:t.sc=some v):RpI K H t v:=by
 cases t<;>simp only[I.sc]at h<;>cases h<;>rw[RpI]
theorem yJ{t:I}{K:yF}{H:Hp}{v w:V}(h:t.sc=some v)(r:RpI K H t w):w=v:=by
 cases t<;>simp only[I.sc]at h<;>cases h<;>rw[RpI]at r<;>exact r
inductive Ac where
 | ix (n:Nat)|ky (k:I)|fd (f:Str)
 deriving DecidableEq
noncomputable def bW{κ α:Type} [DecidableEq κ]:List (κ × α)->κ->Option α
 | [],_=>none
 | (k',t)::r,k=>if k'=k then some t else bW r k
noncomputable def iG{κ α:Type} [DecidableEq κ]:List (κ × α)->κ->α->List (κ × α)
 | [],_,_=>[]
 | (k',t)::r,k,s=>if k'=k then(k',s)::r else(k',t)::iG r k s
noncomputable def iK:T->Ac->Option T
 | .lst ts,.ix n=>ts[n]?
 | .dc kvs,.ky k=>bW kvs k
 | .ins _ fs,.fd f=>bW fs f
 | _,_=>none
noncomputable def wY:T->Ac->T->T
 | .lst ts,.ix n,s=>.lst (ts.set n s)
 | .dc kvs,.ky k,s=>.dc (iG kvs k s)
 | .ins C fs,.fd f,s=>.ins C (iG fs f s)
 | t,_,_=>t
noncomputable def T.sub:T->List Ac->Option T
 | t,[]=>some t
 | t,a::p=>(iK t a).bind λs=>s.sub p
noncomputable def T.put:T->List Ac->T->T
 | _,[],s=>s
 | t,a::p,s=>match iK t a with
  | some u=>wY t a (u.put p s)
  | none=>t
def at1(K:yF)(H:Hp):V->Ac->V->Prop
 | v,.ix n,w=>∃a xs,v=.ref a/\H a=some (.lst xs)/\xs[n]?=some w
 | v,.ky k,w=>∃a ys,v=.ref a/\DAt K H a ys/\bW ys k=some w
 | v,.fd f,w=>∃a C dx ys,v=.ref a/\H a=some (.ins C dx ys)/\bW ys f=some w
def atP(K:yF)(H:Hp):V->List Ac->V->Prop
 | v,[],w=>w=v
 | v,a::p,w=>∃u,at1 K H v a u/\atP K H u p w
theorem DAt.det{K:yF}{H:Hp}{a:Addr}{xs ys:List (I×V)}(h:DAt K H a xs)(g:DAt K H a ys):xs=ys:=by
 obtain⟨zs,h1,rfl⟩:=h;obtain⟨zs',h2,rfl⟩:=g;rw[h1]at h2;cases h2;rfl
theorem o0{K:yF}{H:Hp}{v w w':V}{a:Ac}(h:at1 K H v a w)(g:at1 K H v a w'):w=w':=by
 cases a with
 | ix n=>
  obtain⟨a,xs,rfl,h1,h2⟩:=h;obtain⟨a',xs',e,g1,g2⟩:=g;cases e;rw[h1]at g1;cases g1;rw[h2]at g2;cases g2;rfl
 | ky k=>
  obtain⟨a,xs,rfl,h1,h2⟩:=h;obtain⟨a',xs',e,g1,g2⟩:=g;cases e;have:=h1.det g1;subst this;rw[h2]at g2;cases g2;rfl
 | fd f=>
  obtain⟨a,C,dx,xs,rfl,h1,h2⟩:=h;obtain⟨a',C',dx',xs',e,g1,g2⟩:=g;cases e;rw[h1]at g1;cases g1;rw[h2]at g2;cases g2;rfl
theorem ij{K:yF}{H:Hp}:∀{p:List Ac} {v w w':V},atP K H v p w->atP K H v p w'->w=w'
 | [],v,w,w',h,g=>by rw[atP]at h g;rw[h,g]
 | a::p,v,w,w',h,g=>by
  rw[atP]at h g;obtain⟨u,h1,h2⟩:=h;obtain⟨u',g1,g2⟩:=g;have:=o0 h1 g1;subst this;exact ij h2 g2
theorem o3{K:yF}{H:Hp}{a:Ac}:∀{p:List Ac} {v w u:V},atP K H v p w->at1 K H w a u->atP K H v (p++[a]) u
 | [],v,w,u,h,g=>by rw[atP]at h;subst h;exact⟨u,g,rfl⟩
 | b::p,v,w,u,h,g=>by
  rw[atP]at h;obtain⟨x,h1,h2⟩:=h;exact⟨x,h1,o3 h2 g⟩
theorem pK{a:Ac}:∀{p:List Ac} {t s u:T},t.sub p=some s->iK s a=some u->t.sub (p++[a])=some u
 | [],t,s,u,h,g=>by rw[T.sub]at h;cases h;rw[Fx,T.sub,g];rfl
 | b::p,t,s,u,h,g=>by
  rw[T.sub]at h;rw[EC,T.sub];cases e:iK t b with
  | none=>rw[e]at h;cases h
  | some x=>rw[e]at h;exact pK (p:=p) h g
section
variable {K:yF}{H:Hp}
theorem Rpk.at{k:I}:∀{ts:List (I×T)} {xs:List (I×V)} {F:List Addr} {t:T},Rpk K H ts xs F->bW ts k=some t →
  ∃x A G B,bW xs k=some x/\Rp K H t x G/\F=A++G++B/\∀H' s' G',(∀{u:T} {w:V} {F':List Addr},(∀a∈F',a∈A∨a∈B)->Rp K H u w F'->Rp K H' u w F')->Rp K H' s' x G'->Rpk K H' (iG ts k s') xs (A++G'++B)
 | [],xs,F,t,h,e=>by simp[bW]at e
 | (k',d)::ds,xs,F,t,h,e=>by
  rw[Rpk]at h;obtain⟨x,r,F1,F2,rfl,h2,h3,rfl⟩:=h;by_cases hk:k'=k
  ·subst hk;simp[bW]at e;subst e;refine⟨x,[],F1,F2,by simp[bW],h2,by simp,λH' s' G' st q=>?_⟩;simp only[iG,if_pos];rw[Rpk];refine⟨x,r,G',F2,rfl,q,?_,by simp⟩;have:∀{ts:List (I×T)} {xs:List (I×V)} {F:List Addr},(∀a∈F,a∈F2)->Rpk K H ts xs F->Rpk K H' ts xs F:=by
    intro ts
    induction ts with
    | nil=>intro xs F _ h;rw[Rpk]at h⊢;exact h
    | cons p ts ih=>
     intro xs F hF h;obtain⟨k2,t2⟩:=p;rw[Rpk]at h⊢;obtain⟨y,r,G1,G2,h1,h2,h3,rfl⟩:=h;exact⟨y,r,G1,G2,h1,st (λa ha=>.inr (hF a (yaL _ ha))) h2,ih (λa ha=>hF a (yaR _ ha)) h3,rfl⟩
   exact this (λa ha=>ha) h3
  ·simp[bW,hk]at e;obtain⟨y,A,G,B,h4,h5,h6,h7⟩:=Rpk.at h3 e;refine⟨y,F1++A,G,B,by simp[bW,hk,h4],h5,by rw[h6];simp,λH' s' G' st q=>?_⟩;simp only[iG,if_neg hk];rw[Rpk];exact⟨x,r,F1,A++G'++B,rfl,st (λa ha=>.inl (yaL _ ha)) h2,h7 H' s' G' (λha=>st (λa h=>(ha a h).imp (yaR _) id)) q,by simp⟩
theorem Rpf.at{k:Str}:∀{ts:List (Str×T)} {xs:List (Str×V)} {F:List Addr} {t:T},Rpf K H ts xs F->bW ts k=some t →
  ∃x A G B,bW xs k=some x/\Rp K H t x G/\F=A++G++B/\∀H' s' G',(∀{u:T} {w:V} {F':List Addr},(∀a∈F',a∈A∨a∈B)->Rp K H u w F'->Rp K H' u w F')->Rp K H' s' x G'->Rpf K H' (iG ts k s') xs (A++G'++B)
 | [],xs,F,t,h,e=>by simp[bW]at e
 | (k',d)::ds,xs,F,t,h,e=>by
  rw[Rpf]at h;obtain⟨x,r,F1,F2,rfl,h2,h3,rfl⟩:=h;by_cases hk:k'=k
  ·subst hk;simp[bW]at e;subst e;refine⟨x,[],F1,F2,by simp[bW],h2,by simp,λH' s' G' st q=>?_⟩;simp only[iG,if_pos];rw[Rpf];refine⟨x,r,G',F2,rfl,q,?_,by simp⟩;have:∀{ts:List (Str×T)} {xs:List (Str×V)} {F:List Addr},(∀a∈F,a∈F2)->Rpf K H ts xs F->Rpf K H' ts xs F:=by
    intro ts
    induction ts with
    | nil=>intro xs F _ h;rw[Rpf]at h⊢;exact h
    | cons p ts ih=>
     intro xs F hF h;obtain⟨k2,t2⟩:=p;rw[Rpf]at h⊢;obtain⟨y,r,G1,G2,h1,h2,h3,rfl⟩:=h;exact⟨y,r,G1,G2,h1,st (λa ha=>.inr (hF a (yaL _ ha))) h2,ih (λa ha=>hF a (yaR _ ha)) h3,rfl⟩
   exact this (λa ha=>ha) h3
  ·simp[bW,hk]at e;obtain⟨y,A,G,B,h4,h5,h6,h7⟩:=Rpf.at h3 e;refine⟨y,F1++A,G,B,by simp[bW,hk,h4],h5,by rw[h6];simp,λH' s' G' st q=>?_⟩;simp only[iG,if_neg hk];rw[Rpf];exact⟨x,r,F1,A++G'++B,rfl,st (λa ha=>.inl (yaL _ ha)) h2,h7 H' s' G' (λha=>st (λa h=>(ha a h).imp (yaR _) id)) q,by simp⟩
theorem Mu.lst{a:Addr}{xs:List V}(m:Mu H a)(h:Rd H a (.lst xs)):H a=some (.lst xs):=by
 rcases h with h|⟨o,h⟩;exact h;obtain⟨u,e,m⟩:=m;rw[h]at e;cases e;cases m
theorem Rps.stay{H':Hp}:∀{ts:List T} {xs:List V} {F:List Addr},(∀{u:T} {w:V} {F':List Addr},(∀a∈F',a∈F)->Rp K H u w F'->Rp K H' u w F')->Rps K H ts xs F->Rps K H' ts xs F
 | [],_,_,_,h=>by rw[Rps]at h⊢;exact h
 | t::ts,_,_,n,h=>by
  rw[Rps]at h⊢;obtain⟨y,r,F1,F2,h1,h2,h3,rfl⟩:=h;exact⟨y,r,F1,F2,h1,n (λa ha=>yaL _ ha) h2,Rps.stay (λha=>n λa h=>yaR _ (ha a h)) h3,rfl⟩
theorem Rp.at1{t s:T}{v:V}{F:List Addr}{a:Ac}(h:Rp K H t v F)(mu:∀b∈F,Mu H b)(nd:F.Nodup)(e:iK t a=some s) :
  ∃w A G B,L2.at1 K H v a w/\Rp K H s w G/\F=A++G++B/\∀H' s' G',Iy G H H'->Rp K H' s' w G'->Rp K H' (wY t a s') v (A++G'++B):=by
 have dj:∀{A G B:List Addr},F=A++G++B->∀b,(b∈A∨b∈B)->b∉G:=by
  intro A G B e b hb hg;rw[e]at nd;rcases hb with hb|hb;exact(Em.mp (Em.mp nd).1).2.2 b hb b hg rfl;exact(Em.mp nd).2.2 b (yaR _ hg) b hb rfl
 have muG:∀{A G B:List Addr},F=A++G++B->∀b∈G,Mu H b:=λe b hb=>mu b (by rw[e];simp[hb]);cases t with
 | lst ts=>
  cases a with
  | ix n=>
   rw[Rp]at h;obtain⟨a,xs,F',rfl,h2,h3,rfl⟩:=h;have ha:=(mu a ymS).lst h2;obtain⟨x,A,G,B,h4,h5,h6,h7,h8⟩:=h3.at e;have e':a::F'=(a::A)++G++B:=by rw[h6];simp
   refine⟨x,a::A,G,B,⟨a,xs,rfl,ha,h4⟩,h5,e',λH' s' G' off q=>?_⟩;have st:∀{u:T} {w:V} {F':List Addr},(∀b∈F',b∈A∨b∈B)->Rp K H u w F'->Rp K H' u w F':=λhb r=>r.off off (muG e') (λb z=>dj e' b ((hb b z).imp (ymC _) id));show Rp K H' (.lst (ts.set n s')) (.ref a) _;rw[Rp];refine⟨a,xs,A++G'++B,rfl,.inl (off a _ ha (dj e' a (.inl ymS))),?_,by simp⟩;have hn:n<ts.length:=(Eg.mp e).1;have hn':n<xs.length:=(Eg.mp h4).1;have e1:ts.set n s'=ts.take n++s'::ts.drop (n+1):=by rw[List.set_eq_take_append_cons_drop,if_pos hn]
   have e2:xs=xs.take n++x::xs.drop (n+1):=by
    have:=Eg.mp h4;obtain⟨hl,hx⟩:=this
    conv=>lhs;rw[←Gq n xs,E9 hl,hx]
   rw[e1,e2,Eu];exact Rps.append (Rps.stay (λhb=>st λb z=>.inl (hb b z)) h7) (Rps.cons q (Rps.stay (λhb=>st λb z=>.inr (hb b z)) h8))
  | ky k=>cases e
  | fd k=>cases e
 | dc kvs=>
  cases a with
  | ky k=>
   rw[Rp]at h;obtain⟨a,xs,F',rfl,h2,h3,rfl⟩:=h;obtain⟨x,A,G,B,h4,h5,h6,h7⟩:=h3.at e;have e':a::F'=(a::A)++G++B:=by rw[h6];simp
   refine⟨x,a::A,G,B,⟨a,xs,rfl,h2,h4⟩,h5,e',λH' s' G' off q=>?_⟩;have st:∀{u:T} {w:V} {F':List Addr},(∀b∈F',b∈A∨b∈B)->Rp K H u w F'->Rp K H' u w F':=λhb r=>r.off off (muG e') (λb z=>dj e' b ((hb b z).imp (ymC _) id));show Rp K H' (.dc (iG kvs k s')) (.ref a) _;rw[Rp];exact⟨a,xs,A++G'++B,rfl,h2.off off (dj e' a (.inl ymS)),h7 H' s' G' st q,by simp⟩
  | ix k=>cases e
  | fd k=>cases e
 | ins C fs=>
  cases a with
  | fd k=>
   rw[Rp]at h;obtain⟨a,dx,xs,F',rfl,h2,h3,rfl⟩:=h;obtain⟨x,A,G,B,h4,h5,h6,h7⟩:=h3.at e;have e':a::F'=(a::A)++G++B:=by rw[h6];simp
   refine⟨x,a::A,G,B,⟨a,C,dx,xs,rfl,h2,h4⟩,h5,e',λH' s' G' off q=>?_⟩;have st:∀{u:T} {w:V} {F':List Addr},(∀b∈F',b∈A∨b∈B)->Rp K H u w F'->Rp K H' u w F':=λhb r=>r.off off (muG e') (λb z=>dj e' b ((hb b z).imp (ymC _) id));show Rp K H' (.ins C (iG fs k s')) (.ref a) _;rw[Rp];exact⟨a,dx,xs,A++G'++B,rfl,off a _ h2 (dj e' a (.inl ymS)),h7 H' s' G' st q,by simp⟩
  | ix k=>cases e
  | ky k=>cases e
 | im _=>cases a<;>cases e
 | tup _=>cases a<;>cases e
 | li _=>cases a<;>cases e
 | di _=>cases a<;>cases e
theorem Rp.atP:∀{p:List Ac} {t s:T} {v:V} {F:List Addr},Rp K H t v F->(∀b∈F,Mu H b)->F.Nodup->t.sub p=some s →
  ∃w A G B,L2.atP K H v p w/\Rp K H s w G/\F=A++G++B/\∀H' s' G',Iy G H H'->Rp K H' s' w G'->Rp K H' (t.put p s') v (A++G'++B)
 | [],t,s,v,F,h,mu,nd,e=>by
  rw[T.sub]at e;cases e;exact⟨v,[],F,[],rfl,h,by simp,λH' s' G' _ q=>by rw[T.put];simpa using q⟩
 | a::p,t,s,v,F,h,mu,nd,e=>by
  rw[T.sub]at e;cases e1:iK t a with
  | none=>rw[e1]at e;cases e
  | some u=>
   rw[e1]at e;obtain⟨w,A,G,B,h1,h2,rfl,h4⟩:=h.at1 mu nd e1;have nd2:=(Em.mp (Em.mp nd).1).2.1;obtain⟨x,A',G',B',g1,g2,rfl,g4⟩:=Rp.atP (p:=p) h2 (λb hb=>mu b (yaL _ (yaR _ hb))) nd2 e;refine⟨x,A++A',G',B'++B,⟨w,h1,g1⟩,g2,by simp,λH' s' G2 off q=>?_⟩;rw[T.put,e1];have:=h4 H' (u.put p s') (A'++G2++B') (off.mono λb hb=>by simp[hb]) (g4 H' s' G2 off q);simpa using this
end
inductive Kd where
 | ow|io (k:Nat)|vw (r:Option Nat) (p:Option (List Ac))
structure R where
 k:Kd
 t:T
structure En where
 key:Option Nat
 v:V
 r:R
structure Hd where
 e:En
 F:List Addr
structure Gm where
 K:yF
 H0:Hp
 io:List Addr
 iov:List V
noncomputable def Kd.isOw:Kd->Bool
 | .vw _ _=>false|_=>true
noncomputable def Kd.root:Kd->Option Nat
 | .vw r _=>r|_=>none
noncomputable def Hd.own(h:Hd):List Addr:=if h.e.r.k.isOw=true then h.F else []
def IC(Γ:Gm)(H:Hp)(L:List Hd)(h:Hd):Prop:=match h.e.r.k with
 | .ow=>∀a∈h.F,Γ.H0 a=none
 | .io k=>Γ.iov[k]?=some h.e.v
 | .vw none _=>∀a∈h.F,a∉L.flatMap Hd.own
 | .vw (some j) p=>∃g∈L,g.e.key=some j/\g.e.r.k.isOw=true/\(∀a∈h.F,a∈g.F∨a∉L.flatMap Hd.own)/\∀q,p=some q->g.e.r.t.sub q=some h.e.r.t/\atP Γ.K H g.e.v q h.e.v
structure GW(Γ:Gm)(H:Hp)(L:List Hd):Prop where
 nd:(L.flatMap Hd.own).Nodup
 ad:∀a∈L.flatMap Hd.own,Mu H a/\(Γ.H0 a=none∨a ∈ Γ.io)
 rp:∀h∈L,Rp Γ.K H h.e.r.t h.e.v h.F
 kd:∀h∈L,IC Γ H L h
 ks:(L.filterMap λh=>h.e.key).Nodup
 fr:∀b o,Γ.H0 b=some o->b∉Γ.io->H b=some o
 iol:∀a ∈ Γ.io,∃o,H a=some o
section
variable {Γ:Gm}{H H':Hp}{L L':List Hd}{h:Hd}
theorem IC.sub(k:IC Γ H L h)(s:∀g∈L,g.e.r.k.isOw=true->g∈L')(o:∀a∈L'.flatMap Hd.own,a∈L.flatMap Hd.own):IC Γ H L' h:=by
 unfold IC at k⊢;split at k;exact k;exact k;exact λa ha z=>k a ha (o a z)
 ·obtain⟨g,h1,h2,h3,h4,h5⟩:=k;exact⟨g,s g h1 h3,h2,h3,λa ha=>(h4 a ha).imp id λz w=>z (o a w),h5⟩
theorem GW.perm(G:GW Γ H L)(p:L.Perm L'):GW Γ H L':=
 ⟨(p.flatMap_right _).nodup_iff.mp G.nd,λa ha=>G.ad a ((p.flatMap_right _).mem_iff.mpr ha),λh hh=>G.rp h (p.mem_iff.mpr hh),λh hh=>(G.kd h (p.mem_iff.mpr hh)).sub (λg hg _=>p.mem_iff.mp hg) (λa ha=>(p.flatMap_right _).mem_iff.mpr ha),(p.filterMap _).nodup_iff.mp G.ks,G.fr,G.iol⟩
theorem jC(s:L'.Sublist L):(L'.flatMap Hd.own).Sublist (L.flatMap Hd.own):=by
 induction s with
 | slnil=>exact List.Sublist.refl _
 | cons a s ih=>rw[Ew];exact ih.trans (List.sublist_append_right _ _)
 | cons_cons a s ih=>rw[Ew,Ew];exact(List.Sublist.refl _).append ih
theorem GW.sub(G:GW Γ H L)(s:L'.Sublist L)(ro:∀h∈L',∀j,h.e.r.k.root=some j->∀g∈L,g.e.key=some j->g.e.r.k.isOw=true->g∈L'):GW Γ H L':=by
 refine⟨(jC s).nodup G.nd,λa ha=>G.ad a ((jC s).subset ha),λh hh=>G.rp h (s.subset hh),λh hh=>?_,(s.filterMap _).nodup G.ks,G.fr,G.iol⟩;have k:=G.kd h (s.subset hh);unfold IC at k⊢;split at k;exact k;exact k;exact λa ha z=>k a ha ((jC s).subset z)
 ·rename_i j p e;obtain⟨g,h1,h2,h3,h4,h5⟩:=k;exact⟨g,ro h hh j (by rw[e];rfl) g h1 h2 h3,h2,h3,λa ha=>(h4 a ha).imp id λz w=>z ((jC s).subset w),h5⟩
theorem GW.drop(G:GW Γ H (h::L))(hk:h.e.key=none):GW Γ H L:=by
 refine G.sub (G7 _ _) λg hg j _ x hx hj _=>?_;rcases ycM hx with rfl|hx;rw[hk]at hj;cases hj;exact hx
theorem GW.dropK(G:GW Γ H (h::L))(hr:∀g∈L,∀j,h.e.key=some j->g.e.r.k.root≠some j):GW Γ H L:=by
 refine G.sub (G7 _ _) λg hg j hj x hx hk _=>?_;rcases ycM hx with rfl|hx;exact absurd hj (hr g hg j hk);exact hx
theorem GW.filter(G:GW Γ H L)(p:Hd->Bool)(hp:∀h∈L,h.e.r.k.isOw=true->p h=true):GW Γ H (L.filter p):=
 G.sub Fh λh hh j hj g hg hk ho=>Er.mpr ⟨hg,hp g hg ho⟩
theorem GW.new0(G:GW Γ H L){a:Addr}(e:H a=none) : Γ.H0 a=none:=by
 cases q : Γ.H0 a with
 | none=>rfl
 | some o=>
  exfalso;by_cases hio:a ∈ Γ.io;obtain⟨o,e'⟩:=G.iol a hio;rw[e]at e';cases e';have:=G.fr a o q hio;rw[e]at this;cases this
theorem GW.push(G:GW Γ H L){v:V}{r:R}{F:List Addr}(hr:Rp Γ.K H r.t v F)(hk:IC Γ H L ⟨⟨none,v,r⟩,F⟩)(hF:r.k.isOw=false∨F=[]):GW Γ H (⟨⟨none,v,r⟩,F⟩::L):=by
 have e:Hd.own ⟨⟨none,v,r⟩,F⟩=[]:=by
  unfold Hd.own;rcases hF with h|h;simp[h];simp[h]
 refine⟨by rw[Ew,e];exact G.nd,λa ha=>G.ad a (by rw[Ew,e]at ha;exact ha),λx hx=>?_,λx hx=>?_,?_,G.fr,G.iol⟩
 ·rcases ycM hx with rfl|hx;exact hr;exact G.rp x hx
 ·rcases ycM hx with rfl|hx;exact hk.sub (λg hg _=>ymC _ hg) (λa ha=>by rw[Ew,e]at ha;exact ha);exact(G.kd x hx).sub (λg hg _=>ymC _ hg) (λa ha=>by rw[Ew,e]at ha;exact ha)
 ·rw[EI];exact G.ks
theorem GW.rekey(G:GW Γ H (h::L))(hk:h.e.key=none){key:Option Nat}(hn:∀j,key=some j->j∉L.filterMap λh=>h.e.key):GW Γ H (⟨⟨key,h.e.v,h.e.r⟩,h.F⟩::L):=by
 have eo:((⟨⟨key,h.e.v,h.e.r⟩,h.F⟩:Hd)::L).flatMap Hd.own=(h::L).flatMap Hd.own:=rfl;have ro:∀x∈L,IC Γ H (h::L) x->IC Γ H (⟨⟨key,h.e.v,h.e.r⟩,h.F⟩::L) x:=λx hx k=>by
  unfold IC at k⊢;split at k;exact k;exact k;exact k
  ·obtain⟨g,h1,h2,h3⟩:=k;rcases ycM h1 with rfl|h1;rw[hk]at h2;cases h2;exact⟨g,ymC _ h1,h2,h3⟩
 refine⟨G.nd,G.ad,λx hx=>?_,λx hx=>?_,?_,G.fr,G.iol⟩
 ·rcases ycM hx with rfl|hx;exact G.rp h ymS;exact G.rp x (ymC _ hx)
 ·rcases ycM hx with rfl|hx
  ·have k:=G.kd h ymS;unfold IC at k⊢;split at k;rename_i e;simp only[e];exact k;rename_i e;simp only[e];exact k;rename_i e;simp only[e];exact k
   ·rename_i e;simp only[e];obtain⟨g,h1,h2,h3⟩:=k;rcases ycM h1 with rfl|h1;rw[hk]at h2;cases h2;exact⟨g,ymC _ h1,h2,h3⟩
  ·exact ro x hx (G.kd x (ymC _ hx))
 ·have g:=G.ks;rw[EI,hk]at g;rw[EI];cases key with
  | none=>exact g
  | some j=>exact EF.mpr ⟨hn j rfl,g⟩
theorem iD{a:Addr}(ho:h.e.r.k.isOw=true)(ha:a∈h.F):a∈h.own:=by unfold Hd.own;rw[if_pos ho];exact ha
theorem GW.apart{hs:List Hd}(G:GW Γ H (hs++L))(hr:∀g∈L,∀h∈hs,∀j,h.e.key=some j->g.e.r.k.root≠some j)(ho:∀h∈hs,h.e.r.k.isOw=true):∀g∈L,∀a∈g.F,∀h∈hs,a∉h.F:=by
 intro g hg a ha h hh hah;have nd:=G.nd;rw[Ez]at nd;have h1:a∈hs.flatMap Hd.own:=Fc.mpr ⟨h,hh,iD (ho h hh) hah⟩;have out:a∉(hs++L).flatMap Hd.own->False:=λn=>n (by rw[Ez];exact yaL _ h1);have k:=G.kd g (yaR _ hg);have own:∀x∈L,x.e.r.k.isOw=true->a∈x.F->False:=λx hx ox hax=>
  (Em.mp nd).2.2 a h1 a (Fc.mpr ⟨x,hx,iD ox hax⟩) rfl
 unfold IC at k;split at k;rename_i e;exact own g hg (by rw[e];rfl) ha;rename_i e;exact own g hg (by rw[e];rfl) ha;exact out (k a ha)
 ·rename_i j p e;obtain⟨x,h1',h2,h3,h4,_⟩:=k;rcases h4 a ha with z|z
  ·rcases yaM h1' with hx|hx;exact hr g hg x hx j h2 (by rw[e];rfl);exact own x hx h3 z
  ·exact out z
theorem lu{M:List Addr}(off:Iy M H H'){F:List Addr}(hF:∀a∈F,a∉M)(mu:∀a∈F,Mu H a):∀{q:List Ac} {t s:T} {v w:V} {F':List Addr},(∀a∈F',a∈F)->F'.Nodup->Rp Γ.K H t v F'->t.sub q=some s->atP Γ.K H v q w->atP Γ.K H' v q w
 | [],_,_,_,_,_,_,_,_,_,h=>h
 | a::q,t,s,v,w,F',hs,nd,r,e,h=>by
  rw[atP]at h⊢;obtain⟨u,h1,h2⟩:=h;rw[T.sub]at e;cases e1:iK t a with
  | none=>rw[e1]at e;cases e
  | some x=>
   rw[e1]at e;obtain⟨y,A,G,B,g1,g2,rfl,_⟩:=r.at1 (λb hb=>mu b (hs b hb)) nd e1;have:=o0 h1 g1;subst this;refine⟨u,?_,lu off hF mu (λb hb=>hs b (yaL _ (yaR _ hb))) (Em.mp (Em.mp nd).1).2.1 g2 e h2⟩;cases a with
   | ix n=>
    obtain⟨b,xs,rfl,z1,z2⟩:=h1;refine⟨b,xs,rfl,off b _ z1 (hF b ?_),z2⟩;cases t<;>simp only[iK]at e1<;>try cases e1
    rw[Rp]at r;obtain⟨b',xs',F'',eb,_,_,eF⟩:=r;cases eb;exact hs b (by rw[eF];exact ymS)
   | ky n=>
    obtain⟨b,xs,rfl,z1,z2⟩:=h1;refine⟨b,xs,rfl,z1.off off (hF b ?_),z2⟩;cases t<;>simp only[iK]at e1<;>try cases e1
    rw[Rp]at r;obtain⟨b',xs',F'',eb,_,_,eF⟩:=r;cases eb;exact hs b (by rw[eF];exact ymS)
   | fd n=>
    obtain⟨b,C,dx,xs,rfl,z1,z2⟩:=h1;refine⟨b,C,dx,xs,rfl,off b _ z1 (hF b ?_),z2⟩;cases t<;>simp only[iK]at e1<;>try cases e1
    rw[Rp]at r;obtain⟨b',dx',xs',F'',eb,_,_,eF⟩:=r;cases eb;exact hs b (by rw[eF];exact ymS)
theorem GW.ndF(G:GW Γ H L)(hh:h∈L)(ho:h.e.r.k.isOw=true):h.F.Nodup:=by
 have nd:=G.nd;obtain⟨s,t,rfl⟩:=Gf hh;rw[Ez,Ew]at nd;have:=(Em.mp (Em.mp nd).2.1).1;unfold Hd.own at this;rw[if_pos ho]at this;exact this
theorem GW.muF(G:GW Γ H L)(hh:h∈L)(ho:h.e.r.k.isOw=true):∀a∈h.F,Mu H a:=λa ha=>(G.ad a (Fc.mpr ⟨h,hh,iD ho ha⟩)).1
theorem f9{hs:List Hd}(ho:∀h∈hs,h.e.r.k.isOw=true):hs.flatMap Hd.own=hs.flatMap (·.F):=by
 induction hs with
 | nil=>rfl
 | cons x xs ih=>
  rw[Ew,Ew,ih λh hh=>ho h (ymC _ hh)];unfold Hd.own;rw[if_pos (ho x ymS)]
theorem GW.step{hs:List Hd}(G:GW Γ H (hs++L))(ho:∀h∈hs,h.e.r.k.isOw=true)(hr:∀g∈L,∀h∈hs,∀j,h.e.key=some j->g.e.r.k.root≠some j)
  (off:Iy (hs.flatMap (·.F)) H H') (dom:∀a∈hs.flatMap (·.F),∃o,H' a=some o) {key:Option Nat} {v:V} {r:R} {F:List Addr} (nd:F.Nodup) (hF:∀a∈F,(a∈hs.flatMap (·.F)∨H a=none)/\Mu H' a) (hp:Rp Γ.K H' r.t v F)
  (hk:(r.k=.ow/\∀h∈hs,h.e.r.k=.ow) ∨ ∃k,r.k=.io k/\Γ.iov[k]?=some v) (hkey:∀j,key=some j->j∉L.filterMap λh=>h.e.key):GW Γ H' (⟨⟨key,v,r⟩,F⟩::L):=by
 have iow:r.k.isOw=true:=by rcases hk with⟨e,_⟩|⟨k,e,_⟩<;>rw[e]<;>rfl
 have eo:=f9 ho;have G':=G.nd;rw[Ez,eo]at G';have nd1:=(Em.mp G').2.1;have dj:=(Em.mp G').2.2;have adL:∀a∈L.flatMap Hd.own,Mu H a/\(Γ.H0 a=none∨a ∈ Γ.io):=λa ha=>G.ad a (by rw[Ez];exact yaR _ ha);have adM:∀a∈hs.flatMap (·.F),Mu H a/\(Γ.H0 a=none∨a ∈ Γ.io):=λa ha=>G.ad a (by rw[Ez,eo];exact yaL _ ha);have ap:=G.apart hr ho;have apM:∀g∈L,∀a∈g.F,a∉hs.flatMap (·.F):=λg hg a ha hm=>by
  obtain⟨h,hh,hah⟩:=Fc.mp hm;exact ap g hg a ha h hh hah
 have eF:Hd.own ⟨⟨key,v,r⟩,F⟩=F:=by unfold Hd.own;rw[if_pos iow]
 have f0:∀a∈F,Γ.H0 a=none∨a ∈ Γ.io:=λa ha=>by
  rcases(hF a ha).1 with z|z;exact(adM a z).2;exact .inl (G.new0 z)
 refine⟨?_,λa ha=>?_,λx hx=>?_,λx hx=>?_,?_,λb o e n=>?_,λa ha=>?_⟩
 ·rw[Ew,eF];refine Em.mpr ⟨nd,nd1,λa ha b hb=>?_⟩;rintro rfl;rcases(hF a ha).1 with z|z;exact dj a z a hb rfl
  ·obtain⟨o,e,_⟩:=(adL a hb).1;rw[z]at e;cases e
 ·rw[Ew,eF]at ha;rcases yaM ha with ha|ha;exact⟨(hF a ha).2,f0 a ha⟩
  ·obtain⟨⟨o,e,m⟩,z⟩:=adL a ha;exact⟨⟨o,off a o e λhm=>dj a hm a ha rfl,m⟩,z⟩
 ·rcases ycM hx with rfl|hx;exact hp;exact(G.rp x (yaR _ hx)).off off (λa ha=>(adM a ha).1) (apM x hx)
 ·rcases ycM hx with rfl|hx
  ·unfold IC;rcases hk with⟨e,eh⟩|⟨k,e,ek⟩
   ·simp only[e];intro a ha;rcases(hF a ha).1 with z|z
    ·obtain⟨h,hh,hah⟩:=Fc.mp z;have q:=G.kd h (yaL _ hh);unfold IC at q;rw[eh h hh]at q;exact q a hah
    ·exact G.new0 z
   ·simp only[e];exact ek
  ·have k:=G.kd x (yaR _ hx);have st:∀a∈x.F,a∉(hs++L).flatMap Hd.own->a∉((⟨⟨key,v,r⟩,F⟩:Hd)::L).flatMap Hd.own:=λa ha n z=>by
    rw[Ew,eF]at z;rcases yaM z with z|z
    ·rcases(hF a z).1 with w|w;exact n (by rw[Ez,eo];exact yaL _ w)
     ·obtain⟨o,e⟩:=(G.rp x (yaR _ hx)).dom a ha;rw[w]at e;cases e
    ·exact n (by rw[Ez];exact yaR _ z)
   unfold IC at k⊢;split at k;exact k;exact k;exact λa ha=>st a ha (k a ha)
   ·rename_i j p e;obtain⟨g,h1,h2,h3,h4,h5⟩:=k;rcases yaM h1 with hg|hg;exact absurd (by rw[e];rfl) (hr x hx g hg j h2)
    ·refine⟨g,ymC _ hg,h2,h3,λa ha=>(h4 a ha).imp id (st a ha),λq hq=>⟨(h5 q hq).1,?_⟩⟩;exact lu off (F:=g.F) (apM g hg) (G.muF (yaR _ hg) h3) (λa ha=>ha) (G.ndF (yaR _ hg) h3) (G.rp g (yaR _ hg)) (h5 q hq).1 (h5 q hq).2
 ·have g:=G.ks;rw[EJ]at g;have g2:=(Em.mp g).2.1;rw[EI];cases key with
  | none=>exact g2
  | some j=>exact EF.mpr ⟨hkey j rfl,g2⟩
 ·refine off b o (G.fr b o e n) λhm=>?_;rcases(adM b hm).2 with z|z;rw[z]at e;cases e;exact n z
 ·obtain⟨o,e⟩:=G.iol a ha;by_cases hm:a∈hs.flatMap (·.F);exact dom a hm;exact⟨o,off a o e hm⟩
end
theorem k6{α β:Type}{f : α->β}{N M:List β}(p:N.Perm M):∀L:List α,L.map f=N->∃L',L.Perm L'/\L'.map f=M:=by
 induction p with
 | nil=>intro L h;exact⟨L,List.Perm.refl _,h⟩
 | cons x p ih=>
  intro L h;cases L with
  | nil=>cases h
  | cons a L=>
   rw[Ek,FG.injEq]at h;obtain⟨L',h1,h2⟩:=ih L h.2;exact⟨a::L',h1.cons a,by rw[Ek,h.1,h2]⟩
 | swap x y l=>
  intro L h;cases L with
  | nil=>cases h
  | cons a L=>
   cases L with
   | nil=>cases h
   | cons b L=>
    simp only[Ek,FG.injEq]at h;exact⟨b::a::L,List.Perm.swap _ _ _,by simp[h.1,h.2.1,h.2.2]⟩
 | trans p q ih1 ih2=>
  intro L h;obtain⟨L1,h1,h2⟩:=ih1 L h;obtain⟨L2,h3,h4⟩:=ih2 L1 h2;exact⟨L2,h1.trans h3,h4⟩
def Iv(Γ:Gm)(H:Hp)(X:List En):Prop:=∃L,GW Γ H L/\L.map (·.e)=X
section
variable {Γ:Gm}{H H':Hp}{X Y:List En}{e:En}
theorem Iv.perm(S:Iv Γ H X)(p:X.Perm Y):Iv Γ H Y:=by
 obtain⟨L,g,e⟩:=S;obtain⟨L',h1,h2⟩:=k6 p L e;exact⟨L',g.perm h1,h2⟩
theorem aH{α β:Type}{f : α->β}{L:List α}{b : β}{X:List β}(h:L.map f=b::X):∃a L',L=a::L'/\f a=b/\L'.map f=X:=by
 cases L with
 | nil=>cases h
 | cons a L=>rw[Ek,FG.injEq]at h;exact⟨a,L,rfl,h.1,h.2⟩
theorem dY{α β:Type}{f : α->β}:∀{A:List β} {L:List α} {B:List β},L.map f=A++B->∃L1 L2,L=L1++L2/\L1.map f=A/\L2.map f=B
 | [],L,B,h=>⟨[],L,rfl,rfl,h⟩
 | a::A,L,B,h=>by
  obtain⟨x,L',rfl,h1,h2⟩:=aH h;obtain⟨L1,L2,rfl,h3,h4⟩:=dY h2;exact⟨x::L1,L2,rfl,by rw[Ek,h1,h3],h4⟩
theorem Iv.drop(S:Iv Γ H (e::X))(hk:e.key=none):Iv Γ H X:=by
 obtain⟨L,g,h⟩:=S;obtain⟨x,L',rfl,h1,h2⟩:=aH h;subst h1;exact⟨L',g.drop hk,h2⟩
theorem Iv.dropK(S:Iv Γ H (e::X))(hr:∀g∈X,∀j,e.key=some j->g.r.k.root≠some j):Iv Γ H X:=by
 obtain⟨L,g,h⟩:=S;obtain⟨x,L',rfl,h1,h2⟩:=aH h;subst h1;refine⟨L',g.dropK λy hy j hj=>hr y.e (by rw[←h2];exact EV hy) j hj,h2⟩
noncomputable def aB(M:List Nat) (e:En):Bool:=match e.r.k.root with
 | some j=>!M.contains j
 | none=>true
noncomputable def ah(M:List Nat) (E:List En):List En:=E.filter (aB M)
theorem qm(e:En):aB [] e=true:=by unfold aB;split<;>rfl
theorem bD(E:List En):ah [] E=E:=by unfold ah;rw[Fw];intro a _;exact qm a
theorem ay(M:List Nat)(A B:List En):ah M (A++B)=ah M A++ah M B:=Fa ..
theorem kM(M N:List Nat)(e:En):aB (M++N) e=(aB N e&&aB M e):=by
 unfold aB;split
 ·rename_i j _;by_cases h1:j∈M<;>by_cases h2:j∈N<;>simp[h1,h2]
 ·rfl
theorem ae(M N:List Nat)(E:List En):ah N (ah M E)=ah (M++N) E:=by
 unfold ah;rw[Gg];congr 1;funext e;rw[kM]
theorem Iv.kill(S:Iv Γ H X)(M:List Nat):Iv Γ H (ah M X):=by
 obtain⟨L,g,h⟩:=S;refine⟨L.filter λx=>aB M x.e,g.filter _ λx _ ho=>?_,?_⟩
 ·unfold aB;cases k:x.e.r.k with
  | vw r p=>rw[k]at ho;cases ho
  | ow=>rfl
  | io _=>rfl
 ·rw[←h];unfold ah;rw[Gd];rfl
theorem Iv.push(S:Iv Γ H X){v:V}{i:I}(h:RpI Γ.K H i v):Iv Γ H (⟨none,v,⟨.ow,.im i⟩⟩::X):=by
 obtain⟨L,g,hX⟩:=S;exact⟨_,g.push (v:=v) (r:=⟨.ow,.im i⟩) (iJ h) (λa ha=>by cases ha) (.inr rfl),by rw[Ek,hX]⟩
theorem Iv.rekey(S:Iv Γ H (e::X))(hk:e.key=none){key:Option Nat}(hn:∀j,key=some j->∀g∈X,g.key≠some j):Iv Γ H (⟨key,e.v,e.r⟩::X):=by
 obtain⟨L,g,h⟩:=S;obtain⟨x,L',rfl,h1,h2⟩:=aH h;subst h1;refine⟨_,g.rekey hk (key:=key) λj hj hm=>?_,by rw[Ek,h2]⟩;obtain⟨y,hy,hyk⟩:=EX.mp hm;exact hn j hj y.e (by rw[←h2];exact EV hy) hyk
theorem Iv.rd(S:Iv Γ H X)(he:e∈X):∃F,Rp Γ.K H e.r.t e.v F:=by
 obtain⟨L,g,rfl⟩:=S;obtain⟨h,hh,rfl⟩:=Ev.mp he;exact⟨h.F,g.rp h hh⟩
theorem Iv.view(S:Iv Γ H X)(he:e∈X){j:Nat}(hk:e.key=some j)(ho:e.r.k.isOw=true):Iv Γ H (⟨none,e.v,⟨.vw (some j) (some []),e.r.t⟩⟩::X):=by
 obtain⟨L,g,rfl⟩:=S;obtain⟨h,hh,rfl⟩:=Ev.mp he;exact⟨_,g.push (v:=h.e.v) (r:=⟨.vw (some j) (some []),h.e.r.t⟩) (g.rp h hh) ⟨h,hh,hk,ho,λa ha=>.inl ha,λq hq=>by cases hq;exact⟨rfl,rfl⟩⟩ (.inl rfl),rfl⟩
theorem Iv.copy(S:Iv Γ H X)(he:e∈X)(ho:e.r.k.isOw=false):Iv Γ H (⟨none,e.v,e.r⟩::X):=by
 obtain⟨L,g,rfl⟩:=S;obtain⟨h,hh,rfl⟩:=Ev.mp he;exact⟨_,g.push (v:=h.e.v) (r:=h.e.r) (F:=h.F) (g.rp h hh) (g.kd h hh) (.inl ho),rfl⟩
theorem Iv.part(S:Iv Γ H X)(he:e∈X){ro:Option Nat}{p:Option (List Ac)}(ho:e.r.k=.vw ro p){P:V->Prop}{s:T}(hp:∀F,Rp Γ.K H e.r.t e.v F->∃w G,P w/\Rp Γ.K H s w G/\∀a∈G,a∈F):∃w,P w/\Iv Γ H (⟨none,w,⟨.vw ro none,s⟩⟩::X):=by
 obtain⟨L,g,rfl⟩:=S;obtain⟨h,hh,rfl⟩:=Ev.mp he;obtain⟨w,G,h1,h2,h3⟩:=hp h.F (g.rp h hh);refine⟨w,h1,_,g.push (v:=w) (r:=⟨.vw ro none,s⟩) (F:=G) h2 ?_ (.inl rfl),rfl⟩;have k:=g.kd h hh;unfold IC at k⊢;rw[ho]at k;cases ro with
 | none=>exact λa ha=>k a (h3 a ha)
 | some j=>
  obtain⟨x,x1,x2,x3,x4,x5⟩:=k;exact⟨x,x1,x2,x3,λa ha=>x4 a (h3 a ha),λq hq=>by cases hq⟩
theorem Iv.partP(S:Iv Γ H X)(he:e∈X){j:Nat}{q:List Ac}(ho:e.r.k=.vw (some j) (some q)){a:Ac}{s:T}(hs:iK e.r.t a=some s):∃w,at1 Γ.K H e.v a w/\Iv Γ H (⟨none,w,⟨.vw (some j) (some (q++[a])),s⟩⟩::X):=by
 obtain⟨L,g,rfl⟩:=S;obtain⟨h,hh,rfl⟩:=Ev.mp he;have k:=g.kd h hh;unfold IC at k;rw[ho]at k;obtain⟨x,x1,x2,x3,x4,x5⟩:=k;obtain⟨y1,y2⟩:=x5 q rfl;have ms:x.e.r.t.sub (q++[a])=some s:=pK y1 hs;obtain⟨w,A,G,B,z1,z2,z3,_⟩:=(g.rp x x1).atP (g.muF x1 x3) (g.ndF x1 x3) ms;obtain⟨w0,A0,G0,B0,u1,u2,u3,_⟩:=(g.rp x x1).atP (g.muF x1 x3) (g.ndF x1 x3) y1;have ew:=ij u1 y2;subst ew;have nG:G0.Nodup:=by
  have:=g.ndF x1 x3;rw[u3]at this;exact(Em.mp (Em.mp this).1).2.1
 have mG:∀b∈G0,Mu H b:=λb hb=>g.muF x1 x3 b (by rw[u3];exact yaL _ (yaR _ hb));obtain⟨w',A',G',B',v1,v2,v3,_⟩:=u2.at1 mG nG hs;have e2:=ij (o3 u1 v1) z1;subst e2;refine⟨w',v1,_,g.push (v:=w') (r:=⟨.vw (some j) (some (q++[a])),s⟩) (F:=G) z2 ⟨x,x1,x2,x3,λb hb=>.inl (by rw[z3];exact yaL _ (yaR _ hb)),λq' hq=>?_⟩ (.inl rfl),rfl⟩;cases hq;exact⟨ms,z1⟩
noncomputable def au:List V->List T->List En
 | v::vs,t::ts=>⟨none,v,⟨.ow,t⟩⟩::au vs ts
 | _,_=>[]
theorem j9:∀{vs:List V} {ts:List T} {L:List Hd},vs.length=ts.length->L.map (·.e)=au vs ts->(∀h∈L,Rp Γ.K H h.e.r.t h.e.v h.F)->Rps Γ.K H ts vs (L.flatMap (·.F))/\∀h∈L,h.e.r.k=.ow/\h.e.key=none
 | [],[],L,_,h,_=>by
  have:L=[]:=FP.mp h;subst this;exact⟨Rps.nil,by simp⟩
 | v::vs,t::ts,L,hl,h,hr=>by
  obtain⟨x,L',rfl,h1,h2⟩:=aH h;obtain⟨r1,r2⟩:=j9 (vs:=vs) (ts:=ts) (by simpa using hl) h2 λy hy=>hr y (ymC _ hy);have rx:=hr x ymS;rw[h1]at rx;rw[Ew];refine⟨Rps.cons rx r1,λy hy=>?_⟩;rcases ycM hy with rfl|hy;rw[h1];exact⟨rfl,rfl⟩;exact r2 y hy
 | [],_::_,_,h,_,_=>by cases h
 | _::_,[],_,h,_,_=>by cases h
theorem Iv.use{vs:List V}{ts:List T}(S:Iv Γ H (au vs ts++X))(hl:vs.length=ts.length):∃F,Rps Γ.K H ts vs F/\F.Nodup/\(∀a∈F,Mu H a) ∧
  ∀H' v t F',Iy F H H'->(∀a∈F,∃o,H' a=some o)->F'.Nodup->(∀a∈F',(a∈F∨H a=none)/\Mu H' a)->Rp Γ.K H' t v F'->Iv Γ H' (⟨none,v,⟨.ow,t⟩⟩::X):=by
 obtain⟨L,g,h⟩:=S;obtain⟨hs,L2,rfl,h1,h2⟩:=dY h;obtain⟨r1,r2⟩:=j9 hl h1 λy hy=>g.rp y (yaL _ hy);have ho:∀h∈hs,h.e.r.k.isOw=true:=λh hh=>by rw[(r2 h hh).1];rfl
 have nd:=g.nd;rw[Ez,f9 ho]at nd;refine⟨_,r1,(Em.mp nd).1,λa ha=>(g.ad a (by rw[Ez,f9 ho];exact yaL _ ha)).1,λH' v t F' off dom nd' hF rp=>?_⟩;refine⟨_,g.step ho (λx _ y hy j hj=>by rw[(r2 y hy).2]at hj;cases hj) off dom (key:=none) (v:=v) (r:=⟨.ow,t⟩) nd' hF rp (.inl ⟨rfl,λy hy=>(r2 y hy).1⟩) (λj hj=>by cases hj),by rw[Ek,h2]⟩
theorem Iv.mutP{vs:List V}{ts:List T}{p:List Ac}{s:T}(S:Iv Γ H (e::au vs ts++X))(hl:vs.length=ts.length)(ho:e.r.k.isOw=true)(hr:∀g∈X,∀j,e.key=some j->g.r.k.root≠some j)(hs:e.r.t.sub p=some s)(hX:∀j,e.key=some j->∀g∈X,g.key≠some j) :
  ∃w G F,atP Γ.K H e.v p w/\Rp Γ.K H s w G/\Rps Γ.K H ts vs F/\(G++F).Nodup/\(∀a∈G++F,Mu H a) ∧
  ∀H' s' G',Iy G H H'->(∀a∈G,∃o,H' a=some o)->G'.Nodup->(∀a∈G',(a∈G++F∨H a=none)/\Mu H' a)->Rp Γ.K H' s' w G'->Iv Γ H' (⟨e.key,e.v,⟨e.r.k,e.r.t.put p s'⟩⟩::X):=by
 obtain⟨L,g,h⟩:=S;rw[EC]at h;obtain⟨x,L',rfl,h1,h2⟩:=aH h;obtain⟨hs',L2,rfl,h3,h4⟩:=dY h2;subst h1;obtain⟨r1,r2⟩:=j9 hl h3 λy hy=>g.rp y (ymC _ (yaL _ hy));have ho':∀h∈x::hs',h.e.r.k.isOw=true:=λh hh=>by
  rcases ycM hh with rfl|hh;exact ho;rw[(r2 h hh).1];rfl
 have nx:=g.ndF ymS ho;obtain⟨w,A,G,B,z1,z2,z3,z4⟩:=(g.rp x ymS).atP (g.muF ymS ho) nx hs;have nd:=g.nd;rw[show x::(hs'++L2)=(x::hs')++L2 from rfl,Ez,f9 ho']at nd;have nd1:=(Em.mp nd).1;rw[Ew,z3]at nd1;have mu:∀a∈(x::hs').flatMap (·.F),Mu H a:=λa ha=>(g.ad a (by rw[show x::(hs'++L2)=(x::hs')++L2 from rfl,Ez,f9 ho'];exact yaL _ ha)).1;have inM:∀a,a∈G++hs'.flatMap (·.F)->a∈(x::hs').flatMap (·.F):=λa ha=>by
  rw[Ew,z3];rcases yaM ha with z|z;exact yaL _ (yaL _ (yaR _ z));exact yaR _ z
 have ndA:=(Em.mp nd1);have ndG:(G++hs'.flatMap (·.F)).Nodup:=Em.mpr ⟨(Em.mp (Em.mp ndA.1).1).2.1,ndA.2.1,λa ha b hb=>ndA.2.2 a (yaL _ (yaR _ ha)) b hb⟩;refine⟨w,G,hs'.flatMap (·.F),z1,z2,r1,ndG,λa ha=>mu a (inM a ha),λH' s' G' off dom nd' hG rp=>?_⟩;have apAB:∀a,(a∈A∨a∈B)->a∉G++hs'.flatMap (·.F):=λa ha hm=>by
  rcases yaM hm with z|z
  ·rcases ha with q|q;exact(Em.mp (Em.mp ndA.1).1).2.2 a q a z rfl;exact(Em.mp ndA.1).2.2 a (yaR _ z) a q rfl
  ·rcases ha with q|q;exact ndA.2.2 a (yaL _ (yaL _ q)) a z rfl;exact ndA.2.2 a (yaR _ q) a z rfl
 have rp':=z4 H' s' G' off rp;refine⟨_,g.step (hs:=x::hs') (L:=L2) ho' (λy hy z hz j hj=>?_) (off.mono λa ha=>inM a (yaL _ ha)) (λa ha=>?_) (key:=x.e.key) (v:=x.e.v) (r:=⟨x.e.r.k,x.e.r.t.put p s'⟩) (F:=A++G'++B) ?_ (λa ha=>?_) rp' ?_ (λj hj hm=>?_),by rw[Ek,h4]⟩
 ·rcases ycM hz with rfl|hz;exact hr y.e (by rw[←h4];exact EV hy) j hj;rw[(r2 z hz).2]at hj;cases hj
 ·by_cases hm:a∈G;exact dom a hm
  ·obtain⟨o,e1,_⟩:=mu a ha;exact⟨o,off a o e1 hm⟩
 ·have ab:=Em.mp ndA.1;have aG:=Em.mp ab.1;have nG:∀a,(a∈A∨a∈B)->a∉G':=λa ha hg=>by
   rcases(hG a hg).1 with z|z;exact apAB a ha z
   ·have:Mu H a:=mu a (by
     rw[Ew,z3];rcases ha with q|q;exact yaL _ (yaL _ (yaL _ q));exact yaL _ (yaR _ q))
    obtain⟨o,e1,_⟩:=this;rw[z]at e1;cases e1
  refine Em.mpr ⟨Em.mpr ⟨aG.1,nd',λa ha b hb e=>nG a (.inl ha) (e▸hb)⟩,ab.2.1,λa ha b hb e=>?_⟩;subst e;rcases yaM ha with z|z;exact ab.2.2 a (yaL _ z) a hb rfl;exact nG a (.inr hb) z
 ·have old:a∈A∨a∈B->(a∈(x::hs').flatMap (·.F)∨H a=none)/\Mu H' a:=λq=>by
   have hm:a∈(x::hs').flatMap (·.F):=by
    rw[Ew,z3];rcases q with q|q;exact yaL _ (yaL _ (yaL _ q));exact yaL _ (yaR _ q)
   obtain⟨o,e1,m1⟩:=mu a hm;exact⟨.inl hm,o,off a o e1 (λz=>apAB a q (yaL _ z)),m1⟩
  rcases yaM ha with z|z
  ·rcases yaM z with z|z;exact old (.inl z);exact⟨(hG a z).1.imp (inM a) id,(hG a z).2⟩
  ·exact old (.inr z)
 ·have k:=g.kd x ymS;unfold IC at k;cases ek:x.e.r.k with
  | ow=>
   refine .inl ⟨rfl,λy hy=>?_⟩;rcases ycM hy with rfl|hy;exact ek;exact(r2 y hy).1
  | io n=>rw[ek]at k;exact .inr ⟨n,rfl,k⟩
  | vw a b=>rw[ek]at ho;cases ho
 ·obtain⟨y,hy,hyk⟩:=EX.mp hm;exact hX j hj y.e (by rw[←h4];exact EV hy) hyk
end
abbrev Rho:=List (Option R)
noncomputable def aD:Nat->List (Option V)->Rho->List En
 | i,some v::Z,some r::O=>⟨some i,v,r⟩::aD (i+1) Z O
 | i,none::Z,_::O=>aD (i+1) Z O
 | i,some _::Z,none::O=>aD (i+1) Z O
 | _,_,_=>[]
theorem bv{r:R}:∀{k:Nat} {Z:List (Option V)} {O:Rho} {i:Nat} {v:V},Z[i]?=some (some v)->O[i]?=some (some r)->(aD k Z O).Perm (⟨some (k+i),v,r⟩::aD k Z (O.set i none))
 | _,[],_,_,_,h,_=>by simp at h
 | _,_::_,[],_,_,_,h=>by simp at h
 | k,x::Z,y::O,0,v,h1,h2=>by
  simp at h1 h2;subst h1 h2;simp[aD]
 | k,x::Z,y::O,i+1,v,h1,h2=>by
  have ih:=bv (k:=k+1) (Z:=Z) (O:=O) (i:=i) (v:=v) (r:=r) (by simpa using h1) (by simpa using h2);rw[show k+1+i=k+(i+1) by omega]at ih;cases x with
  | none=>simpa[aD]using ih
  | some x=>
   cases y with
   | none=>simpa[aD]using ih
   | some y=>
    simp only[aD,HC];exact(List.Perm.cons _ ih).trans (List.Perm.swap _ _ _)
theorem kJ:∀{k:Nat} {Z:List (Option V)} {O:Rho} {i:Nat} {x:Option V},aD k (Z.set i x) (O.set i none)=aD k Z (O.set i none)
 | _,[],O,_,_=>rfl
 | _,x::Z,[],i,y=>by cases i<;>cases x<;>simp[aD]<;>cases y<;>simp[aD]
 | _,x::Z,y::O,0,z=>by cases x<;>cases z<;>simp[aD]
 | k,x::Z,y::O,i+1,z=>by
  have ih:=kJ (k:=k+1) (Z:=Z) (O:=O) (i:=i) (x:=z);cases x<;>cases y<;>simp[aD,ih]
theorem fW{k:Nat}{Z:List (Option V)}{O:Rho}{i:Nat}{v:V}{r:R}(h1:i<Z.length)(h2:i < O.length):(aD k (Z.set i (some v)) (O.set i (some r))).Perm (⟨some (k+i),v,r⟩::aD k Z (O.set i none)):=by
 have:=bv (k:=k) (Z:=Z.set i (some v)) (O:=O.set i (some r)) (i:=i) (v:=v) (r:=r) (by simp[h1]) (by simp[h2]);rw[List.set_set,kJ]at this;exact this
theorem cO{e:En}:∀{k:Nat} {Z:List (Option V)} {O:Rho},e∈aD k Z O->∃i,e.key=some (k+i)/\O[i]?=some (some e.r)/\Z[i]?=some (some e.v)
 | _,[],_,h=>by simp[aD]at h
 | _,x::_,[],h=>by cases x<;>simp[aD]at h
 | k,x::Z,y::O,h=>by
  have go:e∈aD (k+1) Z O->∃i,e.key=some (k+i)/\(y::O)[i]?=some (some e.r)/\(x::Z)[i]?=some (some e.v):=λh=>by
   obtain⟨i,h1,h2,h3⟩:=cO h;exact⟨i+1,by rw[h1];congr 1;omega,by simpa using h2,by simpa using h3⟩
  cases x with
  | none=>simp only[aD]at h;exact go h
  | some x=>
   cases y with
   | none=>simp only[aD]at h;exact go h
   | some y=>
    simp only[aD]at h;rcases ycM h with rfl|h;exact⟨0,rfl,rfl,rfl⟩;exact go h
noncomputable def db(M:List Nat) (r:R):Bool:=match r.k.root with
 | some j=>!M.contains j
 | none=>true
noncomputable def cb(M:List Nat):Option R->Option R
 | some r=>if db M r=true then some r else none
 | none=>none
noncomputable def ao(M:List Nat) (O:Rho):Rho:=O.map (cb M)
theorem aM(M:List Nat)(O:Rho):(ao M O).length=O.length:=by unfold ao;rw[Ej]
theorem eJ(M:List Nat):∀{k:Nat} {Z:List (Option V)} {O:Rho},aD k Z (ao M O)=ah M (aD k Z O)
 | _,[],_=>rfl
 | _,x::_,[]=>by cases x<;>rfl
 | k,x::Z,y::O=>by
  have ih:=eJ M (k:=k+1) (Z:=Z) (O:=O);have e:ao M (y::O)=cb M y::ao M O:=rfl;rw[e];cases x with
  | none=>simpa[aD]using ih
  | some v=>
   cases y with
   | none=>simpa[aD,cb]using ih
   | some r=>
    have hk:aB M ⟨some k,v,r⟩=db M r:=rfl;cases q:db M r with
    | true=>simp only[aD,cb,q,if_true,ah,EK,hk,ih]
    | false=>
     simp only[aD,cb,q,ah,EK,hk,ih];simp[aD,ih,ah]
theorem kO{M:List Nat}{O:Rho}{i:Nat}{r:R}(h:(ao M O)[i]?=some (some r)) : O[i]?=some (some r):=by
 unfold ao at h;rw[Ep]at h;cases q : O[i]? with
 | none=>rw[q]at h;cases h
 | some o=>
  rw[q]at h;cases o with
  | none=>cases h
  | some x=>
   have h':cb M (some x)=some r:=by simpa using h
   simp only[cb]at h';split at h';rw[ET.inj h'];exact absurd h' (by simp)
theorem qt{M:List Nat}{O:Rho}{i:Nat}{r:R}(h : O[i]?=some (some r))(ho:r.k.isOw=true):(ao M O)[i]?=some (some r):=by
 unfold ao;rw[Ep,h];have:db M r=true:=by
  unfold db;cases e:r.k with
  | vw a b=>rw[e]at ho;cases ho
  | ow=>rfl
  | io _=>rfl
 simp[cb,this]
structure Sim(Γ:Gm)(H:Hp)(O:Rho)(Z:St)(E:List En):Prop where
 sl:Iv Γ H (E++aD 0 Z O)
 al:∀(i:Nat) r,O[i]?=some (some r)->∃v,Z[i]?=some (some v)
 len:Z.length=O.length
 hi:∀e∈E,∀j,e.key=some j->O.length<=j
section
variable {Γ:Gm}{H H':Hp}{O:Rho}{Z:St}{E E':List En}{e:En}{r:R}{v w x:V}{i j:Nat}{t s:T}
theorem Sim.perm(S:Sim Γ H O Z E)(p:E.Perm E'):Sim Γ H O Z E':=⟨S.sl.perm (p.append_right _),S.al,S.len,λe he=>S.hi e (p.mem_iff.mpr he)⟩
theorem Sim.drop(S:Sim Γ H O Z (e::E))(hk:e.key=none):Sim Γ H O Z E:=⟨S.sl.drop hk,S.al,S.len,λx hx=>S.hi x (ymC _ hx)⟩
theorem Sim.swap{f:En}(S:Sim Γ H O Z (e::f::E)):Sim Γ H O Z (f::e::E):=S.perm (List.Perm.swap _ _ _)
theorem Sim.imm(S:Sim Γ H O Z E){i:I}(h:RpI Γ.K H i v):Sim Γ H O Z (⟨none,v,⟨.ow,.im i⟩⟩::E):=
 ⟨S.sl.push h,S.al,S.len,λx hx j hj=>by
  rcases ycM hx with rfl|hx;cases hj;exact S.hi x hx j hj⟩
theorem Sim.rd(S:Sim Γ H O Z E)(he:e∈E):∃F,Rp Γ.K H e.r.t e.v F:=S.sl.rd (yaL _ he)
theorem Sim.slot(S:Sim Γ H O Z E)(h : O[i]?=some (some r)):∃v,Z[i]?=some (some v)/\(⟨some i,v,r⟩:En)∈E++aD 0 Z O:=by
 obtain⟨v,hv⟩:=S.al i r h;refine⟨v,hv,yaR _ ((bv hv h).mem_iff.mpr ?_)⟩;rw[Fb];exact ymS
noncomputable def rdR(i:Nat):R->R
 | ⟨.ow,.im x⟩=>⟨.ow,.im x⟩
 | ⟨.vw a b,t⟩=>⟨.vw a b,t⟩
 | ⟨_,t⟩=>⟨.vw (some i) (some []),t⟩
theorem Sim.cons(S:Sim Γ H O Z E)(h:Iv Γ H' (⟨none,v,r⟩::(E++aD 0 Z O))):Sim Γ H' O Z (⟨none,v,r⟩::E):=
 ⟨h,S.al,S.len,λx hx j hj=>by
  rcases ycM hx with rfl|hx;cases hj;exact S.hi x hx j hj⟩
theorem Sim.var(S:Sim Γ H O Z E)(h : O[i]?=some (some r)):∃v,Z[i]?=some (some v)/\Sim Γ H O Z (⟨none,v,rdR i r⟩::E):=by
 obtain⟨v,hv,hm⟩:=S.slot h;refine⟨v,hv,S.cons ?_⟩;obtain⟨k,t⟩:=r;cases k with
 | vw a b=>exact S.sl.copy (e:=⟨some i,v,⟨.vw a b,t⟩⟩) hm rfl
 | io n=>
  have:=S.sl.view (e:=⟨some i,v,⟨.io n,t⟩⟩) hm rfl rfl;cases t<;>exact this
 | ow=>
  cases t with
  | im x=>
   obtain⟨F,rp⟩:=S.sl.rd hm;exact S.sl.push (aX rp).1
  | tup _=>exact S.sl.view (e:=⟨some i,v,⟨.ow,_⟩⟩) hm rfl rfl
  | li _=>exact S.sl.view (e:=⟨some i,v,⟨.ow,_⟩⟩) hm rfl rfl
  | lst _=>exact S.sl.view (e:=⟨some i,v,⟨.ow,_⟩⟩) hm rfl rfl
  | di _=>exact S.sl.view (e:=⟨some i,v,⟨.ow,_⟩⟩) hm rfl rfl
  | dc _=>exact S.sl.view (e:=⟨some i,v,⟨.ow,_⟩⟩) hm rfl rfl
  | ins _ _=>exact S.sl.view (e:=⟨some i,v,⟨.ow,_⟩⟩) hm rfl rfl
theorem Sim.kill(S:Sim Γ H O Z E)(M:List Nat):Sim Γ H (ao M O) Z (ah M E):=by
 refine⟨?_,λi r h=>S.al i r (kO h),by rw[aM];exact S.len,λx hx j hj=>by rw[aM];exact S.hi x (Er.mp hx).1 j hj⟩;rw[eJ,←ay];exact S.sl.kill M
theorem j0{M:List Nat}{X:List En}(hi:i∈M):∀g∈ah M X,g.r.k.root≠some i:=λg hg z=>by
 have:=(Er.mp hg).2;unfold aB at this;rw[z]at this;simp[hi]at this
theorem Sim.out(S:Sim Γ H O Z E)(h : O[i]?=some (some r))(ho:r.k.isOw=true):∃v,Z[i]?=some (some v)/\Iv Γ H (⟨some i,v,r⟩::(ah [i] E++aD 0 Z ((ao [i] O).set i none))) ∧
  (∀g∈ah [i] E++aD 0 Z ((ao [i] O).set i none),g.r.k.root≠some i)/\∀g∈ah [i] E++aD 0 Z ((ao [i] O).set i none),g.key≠some i:=by
 obtain⟨v,hv⟩:=S.al i r h;have S2:=S.kill [i];have h2:=qt (M:=[i]) h ho;have hil:i < O.length:=(Eg.mp h).1;refine⟨v,hv,S2.sl.perm ?_,λg hg=>?_,λg hg hk=>?_⟩
 ·have:=(bv (k:=0) hv h2).append_left (ah [i] E);rw[Fb]at this;exact this.trans EN
 ·rcases yaM hg with z|z;exact j0 (by simp) g z
  ·have:g∈aD 0 Z (ao [i] O):=by
    obtain⟨m,h1,h3,h4⟩:=cO z;have hm:m≠i:=λe=>by subst e;simp[aM,hil]at h3
    rw[ED (JI hm)]at h3;have:=(bv (k:=0) h4 h3).mem_iff.mpr (ymS);have e:g=⟨some (0+m),g.v,g.r⟩:=by cases g;simp only[En.mk.injEq,and_self,and_true];exact h1
    rw[e];exact this
   rw[eJ]at this;exact j0 (by simp) g this
 ·rcases yaM hg with z|z
  ·have:=S2.hi g z i hk;rw[aM]at this;omega
  ·obtain⟨m,h1,h3,h4⟩:=cO z;rw[hk,Fb]at h1;cases h1;simp[aM,hil]at h3
theorem Sim.back(S:Sim Γ H O Z E){O':Rho}{Z':St}(h:Iv Γ H' (E'++aD 0 Z' O'))(hl : O'.length=O.length)(hZ:Z'.length=Z.length)(al:∀(i:Nat) r,O'[i]?=some (some r)->∃v,Z'[i]?=some (some v))(hi:∀e∈E',∀j,e.key=some j->e∈E):Sim Γ H' O' Z' E':=
 ⟨h,al,by rw[hl,hZ];exact S.len,λe he j hj=>by rw[hl];exact S.hi e (hi e he j hj) j hj⟩
noncomputable def eR(O:Rho) (i:Nat):Bool:=match O[i]? with
 | some (some ⟨.io _,_⟩)=>false
 | some _=>true
 | none=>false
theorem yS{O:Rho}{Z:St}(al:∀(i:Nat) r,O[i]?=some (some r)->∃v,Z[i]?=some (some v))(h1:i<Z.length):∀(m:Nat) r',(O.set i (some r))[m]?=some (some r')->∃v',(Z.set i (some v))[m]?=some (some v'):=λm r' hm=>by
 by_cases e:m=i;subst e;exact⟨v,by simp[h1]⟩;rw[ED (JI e)]at hm⊢;exact al m r' hm
theorem Sim.put(S:Sim Γ H O Z (⟨none,v,r⟩::E))(hi:eR O i=true)(hr:r.k.root≠some i):Sim Γ H ((ao [i] O).set i (some r)) (Z.set i (some v)) (ah [i] E):=by
 have hil:i < O.length:=by
  unfold eR at hi;cases q : O[i]? with
  | none=>rw[q]at hi;cases hi
  | some o=>exact(Eg.mp q).1
 have hiZ:i<Z.length:=by rw[S.len];exact hil
 have hkeep:aB [i] ⟨none,v,r⟩=true:=by
  unfold aB;split
  ·rename_i j hj;have:j≠i:=λz=>hr (z▸hj);simp[this]
  ·rfl
 have ek:ah [i] (⟨none,v,r⟩::E)=⟨none,v,r⟩::ah [i] E:=by unfold ah;rw[EK,if_pos hkeep]
 have S2:=S.kill [i];rw[ek]at S2;have S3:Iv Γ H (⟨none,v,r⟩::(ah [i] E++aD 0 Z ((ao [i] O).set i none)))/\∀g∈ah [i] E++aD 0 Z ((ao [i] O).set i none),g.key≠some i:=by
  cases q:(ao [i] O)[i]? with
  | none=>rw[List.getElem?_eq_none_iff,aM]at q;omega
  | some o=>
   cases o with
   | none=>
    have e:(ao [i] O).set i none=ao [i] O:=by
     apply FL;intro m;by_cases hm:m=i;subst hm;rw[q];simp[aM,hil];rw[ED (JI hm)]
    rw[e];refine⟨S2.sl,λg hg hk=>?_⟩;rcases yaM hg with z|z
    ·have:=S2.hi g (ymC _ z) i hk;rw[aM]at this;omega
    ·obtain⟨m,h1,h3,h4⟩:=cO z;rw[hk,Fb]at h1;cases h1;rw[q]at h3;cases h3
   | some r0=>
    have q0:=kO q;by_cases ho:r0.k.isOw=true
    ·obtain⟨v0,hv0,h1,h2,h3⟩:=S.out q0 ho;rw[ek]at h1 h2 h3;refine⟨h1.dropK λg hg j hj=>by cases hj;exact h2 g hg,λg hg=>h3 g (ymC _ hg)⟩
    ·obtain⟨v0,hv0⟩:=S.al i r0 q0;have p:=(bv (k:=0) hv0 q).append_left (⟨none,v,r⟩::ah [i] E);rw[Fb]at p;have h1:=S2.sl.perm (p.trans EN);refine⟨h1.dropK λg hg j hj=>?_,λg hg hk=>?_⟩
     ·cases hj;have h1':g∈ah [i] (⟨none,v,r⟩::E)++ah [i] (aD 0 Z O):=by
       rw[ek,←eJ];rcases yaM hg with z|z;exact yaL _ z
       ·refine yaR _ ?_;obtain⟨m,h1,h3,h4⟩:=cO z;have hm:m≠i:=λe=>by subst e;simp[aM,hil]at h3
        rw[ED (JI hm)]at h3;have:=(bv (k:=0) h4 h3).mem_iff.mpr (ymS);have e:g=⟨some (0+m),g.v,g.r⟩:=by cases g;simp only[En.mk.injEq,and_self,and_true];exact h1
        rw[e];exact this
      rw[←ay]at h1';exact j0 (by simp) g h1'
     ·rcases yaM hg with z|z
      ·have:=S2.hi g (ymC _ z) i hk;rw[aM]at this;omega
      ·obtain⟨m,h1,h3,h4⟩:=cO z;rw[hk,Fb]at h1;cases h1;simp[aM,hil]at h3
 obtain⟨S3,hks⟩:=S3;have S4:=S3.rekey (e:=⟨none,v,r⟩) rfl (key:=some i) λj hj g hg=>by cases hj;exact hks g hg
 refine S2.back (S4.perm ?_) (by simp[aM]) (by simp) (yS S2.al hiZ) (λe he j hj=>ymC _ he);have p:=(fW (k:=0) (Z:=Z) (O:=ao [i] O) (v:=v) (r:=r) hiZ (by rw[aM];exact hil)).append_left (ah [i] E);rw[Fb]at p;exact(EN.symm).trans p.symm
theorem Sim.mut{vs:List V}{ts:List T}{p:List Ac}{k:Kd}(S:Sim Γ H O Z (au vs ts++⟨none,w,⟨.vw (some i) (some p),s⟩⟩::E))(hl:vs.length=ts.length)(h : O[i]?=some (some ⟨k,t⟩))(ho:k.isOw=true) :
  ∃G F,Rp Γ.K H s w G/\Rps Γ.K H ts vs F/\(G++F).Nodup/\(∀a∈G++F,Mu H a) ∧
  ∀H' s' G',Iy G H H'->(∀a∈G,∃o,H' a=some o)->G'.Nodup->(∀a∈G',(a∈G++F∨H a=none)/\Mu H' a)->Rp Γ.K H' s' w G'->Sim Γ H' ((ao [i] O).set i (some ⟨k,t.put p s'⟩)) Z (ah [i] E):=by
 have hil:i < O.length:=(Eg.mp h).1;obtain⟨v0,hv0,hm⟩:=S.slot h;have pl:t.sub p=some s/\atP Γ.K H v0 p w:=by
  obtain⟨L,g,e⟩:=S.sl;have:(⟨none,w,⟨.vw (some i) (some p),s⟩⟩:En)∈L.map (·.e):=by rw[e];simp
  obtain⟨y,hy,ey⟩:=Ev.mp this;have kd:=g.kd y hy;unfold IC at kd;rw[ey]at kd;obtain⟨x,x1,x2,x3,x4,x5⟩:=kd;have hm':(⟨some i,v0,⟨k,t⟩⟩:En)∈L.map (·.e):=by rw[e];exact hm
  obtain⟨z,hz,ez⟩:=Ev.mp hm';have:x=z:=by
   have nk:=g.ks;by_cases q:x=z;exact q
   ·exfalso;obtain⟨A,B,rfl⟩:=Gf x1;rw[EJ,EI,x2]at nk;rcases yaM hz with hz|hz;exact(Em.mp nk).2.2 i (EX.mpr ⟨z,hz,by rw[ez]⟩) i ymS rfl
    ·rcases ycM hz with hz|hz;exact q hz.symm;exact(EF.mp (Em.mp nk).2.1).1 (EX.mpr ⟨z,hz,by rw[ez]⟩)
  subst this;have:=x5 p rfl;rw[ez]at this;exact this
 obtain⟨v1,hv1,h1,h2,h3⟩:=S.out h ho;rw[hv0]at hv1;cases hv1;have ktemps:∀{vs:List V} {ts:List T},ah [i] (au vs ts)=au vs ts:=by
  intro vs
  induction vs with
  | nil=>intro ts;rfl
  | cons v vs ih=>
   intro ts;cases ts with
   | nil=>rfl
   | cons t ts=>show List.filter _ _=_;rw[au,EK,if_pos (show aB [i] ⟨none,v,⟨.ow,t⟩⟩=true from rfl)];exact congrArg _ ih
 have kv:aB [i] ⟨none,w,⟨.vw (some i) (some p),s⟩⟩=false:=by unfold aB;simp[Kd.root]
 have ek:ah [i] (au vs ts++⟨none,w,⟨.vw (some i) (some p),s⟩⟩::E)=au vs ts++ah [i] E:=by
  rw[ay,ktemps];unfold ah;rw[EK,if_neg (by rw[kv];simp)]
 rw[ek]at h1 h2 h3;rw[Eu]at h1 h2 h3;obtain⟨w',G,F,m1,m2,m3,m4,m5,m6⟩:=Iv.mutP (e:=⟨some i,v0,⟨k,t⟩⟩) (X:=ah [i] E++aD 0 Z ((ao [i] O).set i none)) (by rw[EC];exact h1) hl ho (λg hg j hj=>by cases hj;exact h2 g (yaR _ hg)) pl.1 (λj hj g hg=>by cases hj;exact h3 g (yaR _ hg));have ew:=ij m1 pl.2;subst ew;refine⟨G,F,m2,m3,m4,m5,λH' s' G' off dom nd hG rp=>?_⟩;have S5:=m6 H' s' G' off dom nd hG rp;have S2:=S.kill [i];refine S2.back (S5.perm ?_) (by simp[aM]) rfl (λm r' hm=>?_) (λe he j hj=>by rw[ek];exact yaR _ he)
 ·have p:=(fW (k:=0) (Z:=Z) (O:=ao [i] O) (v:=v0) (r:=⟨k,t.put p s'⟩) (by rw[S.len];exact hil) (by rw[aM];exact hil)).append_left (ah [i] E);rw[Fb]at p;have eZ:Z.set i (some v0)=Z:=by
   apply FL;intro m;by_cases hm:m=i;subst hm;rw[hv0];simp[S.len,hil];rw[ED (JI hm)]
  rw[eZ]at p;exact(EN.symm).trans p.symm
 ·by_cases e:m=i;subst e;exact⟨v0,hv0⟩;rw[ED (JI e)]at hm;exact S2.al m r' hm
theorem Sim.move(S:Sim Γ H O Z (⟨none,w,⟨.vw (some i) (some []),s⟩⟩::E))(h : O[i]?=some (some ⟨.ow,t⟩)):Sim Γ H ((ao [i] O).set i none) Z (⟨none,w,⟨.ow,s⟩⟩::ah [i] E):=by
 have hil:i < O.length:=(Eg.mp h).1;obtain⟨v0,hv0,hm⟩:=S.slot h;have pl:s=t/\w=v0:=by
  obtain⟨L,g,e⟩:=S.sl;have:(⟨none,w,⟨.vw (some i) (some []),s⟩⟩:En)∈L.map (·.e):=by rw[e];simp
  obtain⟨y,hy,ey⟩:=Ev.mp this;have kd:=g.kd y hy;unfold IC at kd;rw[ey]at kd;obtain⟨x,x1,x2,x3,x4,x5⟩:=kd;have hm':(⟨some i,v0,⟨.ow,t⟩⟩:En)∈L.map (·.e):=by rw[e];exact hm
  obtain⟨z,hz,ez⟩:=Ev.mp hm';have:x=z:=by
   have nk:=g.ks;by_cases q:x=z;exact q
   ·exfalso;obtain⟨A,B,rfl⟩:=Gf x1;rw[EJ,EI,x2]at nk;rcases yaM hz with hz|hz;exact(Em.mp nk).2.2 i (EX.mpr ⟨z,hz,by rw[ez]⟩) i ymS rfl
    ·rcases ycM hz with hz|hz;exact q hz.symm;exact(EF.mp (Em.mp nk).2.1).1 (EX.mpr ⟨z,hz,by rw[ez]⟩)
  subst this;have:=x5 [] rfl;rw[ez]at this;obtain⟨q1,q2⟩:=this;rw[T.sub]at q1;cases q1;exact⟨rfl,q2⟩
 obtain⟨rfl,rfl⟩:=pl;obtain⟨v1,hv1,h1,h2,h3⟩:=S.out h rfl;rw[hv0]at hv1;cases hv1;have kv:aB [i] ⟨none,w,⟨.vw (some i) (some []),s⟩⟩=false:=by unfold aB;simp[Kd.root]
 have ek:ah [i] (⟨none,w,⟨.vw (some i) (some []),s⟩⟩::E)=ah [i] E:=by
  unfold ah;rw[EK,if_neg (by rw[kv];simp)]
 rw[ek]at h1 h2 h3;have S2:=S.kill [i];refine S2.back (E':=⟨none,w,⟨.ow,s⟩⟩::ah [i] E) ?_ (by simp[aM]) rfl (λm r' hm=>?_) (λe he j hj=>?_)
 ·obtain⟨L,g,e⟩:=h1;obtain⟨x,L',rfl,e1,e2⟩:=aH e;have:=g.step (hs:=[x]) (L:=L') (H':=H) (λy hy=>by rw[ysM hy,e1];rfl) (λy hy z hz j hj=>by
   rw[ysM hz,e1]at hj;cases hj;exact h2 y.e (by rw[←e2];exact EV hy)) (Iy.refl _ _) (λa ha=>by
    obtain⟨y,hy,ha⟩:=Fc.mp ha;rw[ysM hy]at ha;exact(g.rp x ymS).dom a ha) (key:=none) (v:=w) (r:=⟨.ow,s⟩) (F:=x.F) (g.ndF ymS (by rw[e1];rfl)) (λa ha=>⟨.inl (by simpa using ha),g.muF ymS (by rw[e1];rfl) a ha⟩)
    (by have:=g.rp x ymS;rw[e1]at this;exact this) (.inl ⟨rfl,λy hy=>by rw[ysM hy,e1]⟩) (λj hj=>by cases hj)
  exact⟨_,this,by rw[Ek,e2];rfl⟩
 ·by_cases e:m=i;subst e;simp[aM,hil]at hm;rw[ED (JI e)]at hm;exact S2.al m r' hm
 ·rcases ycM he with rfl|he;cases hj;rw[ek];exact he
theorem Sim.use{vs:List V}{ts:List T}(S:Sim Γ H O Z (au vs ts++E))(hl:vs.length=ts.length):∃F,Rps Γ.K H ts vs F/\F.Nodup/\(∀a∈F,Mu H a) ∧
  ∀H' v t F',Iy F H H'->(∀a∈F,∃o,H' a=some o)->F'.Nodup->(∀a∈F',(a∈F∨H a=none)/\Mu H' a)->Rp Γ.K H' t v F'->Sim Γ H' O Z (⟨none,v,⟨.ow,t⟩⟩::E):=by
 have S1:=S.sl;rw[Eu]at S1;obtain⟨F,h1,h2,h3,h4⟩:=S1.use hl;refine⟨F,h1,h2,h3,λH' v t F' a b c d e=>?_⟩;exact⟨h4 H' v t F' a b c d e,S.al,S.len,λx hx j hj=>by
  rcases ycM hx with rfl|hx;cases hj;exact S.hi x (yaR _ hx) j hj⟩
theorem Sim.part(S:Sim Γ H O Z E)(he:e∈E){ro:Option Nat}{p:Option (List Ac)}(ho:e.r.k=.vw ro p){P:V->Prop}(hp:∀F,Rp Γ.K H e.r.t e.v F->∃w G,P w/\Rp Γ.K H s w G/\∀a∈G,a∈F):∃w,P w/\Sim Γ H O Z (⟨none,w,⟨.vw ro none,s⟩⟩::E):=by
 obtain⟨w,h1,h2⟩:=S.sl.part (yaL _ he) ho hp;exact⟨w,h1,S.cons h2⟩
theorem Sim.partP(S:Sim Γ H O Z E)(he:e∈E){q:List Ac}(ho:e.r.k=.vw (some j) (some q)){a:Ac}(hs:iK e.r.t a=some s):∃w,at1 Γ.K H e.v a w/\Sim Γ H O Z (⟨none,w,⟨.vw (some j) (some (q++[a])),s⟩⟩::E):=by
 obtain⟨w,h1,h2⟩:=S.sl.partP (yaL _ he) ho hs;exact⟨w,h1,S.cons h2⟩
end
structure ME where
 run:Rho->Option (R×Rho)
 mu:List Nat
structure MT where
 run:Rho->Option (Bool×Rho)
 mu:List Nat
structure MA where
 run:Rho->Option (List R×Rho)
 mu:List Nat
inductive Fl where
 | nx|rt (t:T)|bk|ct
structure MS where
 run:Rho->Option (Fl×Rho)
 mu:List Nat
structure MG where
 run:R->Rho->Option Rho
 mu:List Nat
structure MGs where
 run:List R->Rho->Option Rho
 mu:List Nat
noncomputable def ens:List V->List R->List En
 | v::vs,r::rs=>⟨none,v,r⟩::ens vs rs
 | _,_=>[]
noncomputable def aE(M:List Nat) (r:R):Bool:=db M r
theorem bt{M:List Nat}{r:R}{v:V}(h:aE M r=true):aB M ⟨none,v,r⟩=true:=h
theorem ar{M:List Nat}{e:En}{E:List En}(h:aB M e=true):ah M (e::E)=e::ah M E:=by unfold ah;rw[EK,if_pos h]
theorem iU{M:List Nat}:∀{vs:List V} {rs:List R},rs.all (aE M)=true->ah M (ens vs rs)=ens vs rs
 | [],_,_=>by cases ‹List R›<;>rfl
 | _::_,[],_=>rfl
 | v::vs,r::rs,h=>by
  rw[Fs,Ei]at h;rw[ens,ar (bt h.1),iU h.2]
theorem Sim.weak{Γ:Gm}{H:Hp}{O:Rho}{Z:St}{E:List En}(S:Sim Γ H O Z E)(M:List Nat):Sim Γ H O Z (ah M E):=by
 refine⟨?_,S.al,S.len,λe he=>S.hi e (Er.mp he).1⟩;obtain⟨L,g,h⟩:=S.sl;obtain⟨A,B,rfl,h1,h2⟩:=dY h;refine⟨A.filter (λx=>aB M x.e)++B,g.sub (Fh.append (List.Sublist.refl _)) λx hx j hj y hy hk ho=>?_,?_⟩
 ·rcases yaM hy with z|z
  ·refine yaL _ (Er.mpr ⟨z,?_⟩);unfold aB;cases e:y.e.r.k with
   | vw a b=>rw[e]at ho;cases ho
   | ow=>rfl
   | io _=>rfl
  ·exact yaR _ z
 ·rw[Es,h2,←h1];unfold ah;rw[Gd];rfl
def aP(K:yF)(te:TE)(m:ME):Prop:=∀(Γ:Gm) (H:Hp) (O:Rho) (Z:St) (E:List En) (Q:VK) (r:R) (O':Rho),Γ.K=K->m.run O=some (r,O')->Sim Γ H O Z E->(∀v H',Sim Γ H' O' Z (⟨none,v,r⟩::ah m.mu E)->Q v H')->te Z H Q
def dR(K:yF)(te:TT)(m:MT):Prop:=∀(Γ:Gm) (H:Hp) (O:Rho) (Z:St) (E:List En) (Q:Bool->Hp->Prop) (b:Bool) (O':Rho),Γ.K=K->m.run O=some (b,O')->Sim Γ H O Z E->(∀H',Sim Γ H' O' Z (ah m.mu E)->Q b H')->te Z H Q
def fR(K:yF)(ta:TA)(m:MA):Prop:=∀(Γ:Gm) (H:Hp) (O:Rho) (Z:St) (E:List En) (Q:List V->Hp->Prop) (rs:List R) (O':Rho),Γ.K=K->m.run O=some (rs,O')->Sim Γ H O Z E->(∀vs H',vs.length=rs.length->Sim Γ H' O' Z (ens vs rs++ah m.mu E)->Q vs H')->ta Z H Q
def IN(Γ:Gm)(O':Rho)(E:List En)(D:IT):Fl->Prop
 | .nx=>∀Z' H',Sim Γ H' O' Z' E->D.nx Z' H'
 | .bk=>∀Z' H',Sim Γ H' O' Z' E->D.bk Z' H'
 | .ct=>∀Z' H',Sim Γ H' O' Z' E->D.ct Z' H'
 | .rt t=>∀v Z' H',Sim Γ H' O' Z' [⟨none,v,⟨.ow,t⟩⟩]->D.rt v H'
def dA(K:yF)(ts:TS)(m:MS):Prop:=∀(Γ:Gm) (H:Hp) (O:Rho) (Z:St) (E:List En) (D:IT) (f:Fl) (O':Rho),Γ.K=K->(∀e∈E,e.key=none)->m.run O=some (f,O')->Sim Γ H O Z E->IN Γ O' (ah m.mu E) D f->ts D Z H
def gO(K:yF)(g:TG)(m:MG):Prop:=∀(Γ:Gm) (H:Hp) (O:Rho) (Z:St) (E:List En) (Q:St->Hp->Prop) (v:V) (r:R) (O':Rho),Γ.K=K->m.run r O=some O'->Sim Γ H O Z (⟨none,v,r⟩::E)->(∀Z' H',Sim Γ H' O' Z' (ah m.mu E)->Q Z' H')->g v Z H Q
def l8(K:yF)(g:TGs)(m:MGs):Prop:=∀(Γ:Gm) (H:Hp) (O:Rho) (Z:St) (E:List En) (Q:St->Hp->Prop) (vs:List V) (rs:List R) (O':Rho),Γ.K=K->m.run rs O=some O'->vs.length=rs.length->Sim Γ H O Z (ens vs rs++E)->(∀Z' H',Sim Γ H' O' Z' (ah m.mu E)->Q Z' H')->g vs Z H Q
def BG(X:Cx)(st:List Stmt)(m:MS):Prop:=∃ts,PSs X st ts/\dA X.K ts m
section
variable {K:yF}{X:Cx}
@[irreducible] noncomputable def mC(i:I):ME:=⟨λO=>some (⟨.ow,.im i⟩,O),[]⟩
@[irreducible] noncomputable def af(i:Nat):ME:=⟨λO=>match O[i]? with
 | some (some r)=>some (rdR i r,O)
 | _=>none,[]⟩
theorem uG{i:I}{v:V}(h:i.sc=some v):aP K (tC v) (mC i):=by with_unfolding_all
 intro Γ H O Z E Q r O' hK hr S q;cases hr;exact q v H (by rw[show(mC i).mu=[]from rfl,bD];exact S.imm (jv h))
theorem xL{i:Nat}:aP K (Bg i) (af i):=by with_unfolding_all
 intro Γ H O Z E Q r O' hK hr S q;simp only[af]at hr;split at hr
 ·rename_i r0 h0;cases hr;obtain⟨v,hv,S2⟩:=S.var h0;exact⟨v,hv,q v H (by rw[show(af i).mu=[]from rfl,bD];exact S2)⟩
 ·cases hr
@[irreducible] noncomputable def mNil:MA:=⟨λO=>some ([],O),[]⟩
@[irreducible] noncomputable def ac(m:ME)(ms:MA):MA:=⟨λO=>match m.run O with
 | some (r,O1)=>match ms.run O1 with
  | some (rs,O2)=>if aE ms.mu r=true then some (r::rs,O2)else none
  | none=>none
 | none=>none,m.mu++ms.mu⟩
theorem xC:fR K Di mNil:=by with_unfolding_all
 intro Γ H O Z E Q rs O' hK hr S q;cases hr;exact q [] H rfl (by rw[show mNil.mu=[]from rfl,bD];exact S)
theorem vJ{v:V}{r:R}{E:List En}:∀{vs:List V} {rs:List R},(ens vs rs++⟨none,v,r⟩::E).Perm (⟨none,v,r⟩::(ens vs rs++E)):=EN
theorem uH{te:TE}{ta:TA}{m:ME}{ms:MA}(h1:aP K te m)(h2:fR K ta ms):fR K (pM te ta) (ac m ms):=by with_unfolding_all
 intro Γ H O Z E Q rs O' hK hr S q;simp only[ac]at hr;split at hr
 ·rename_i r O1 e1;split at hr
  ·rename_i rs1 O2 e2;split at hr
   ·rename_i al;cases hr;refine h1 Γ H O Z E _ r O1 hK e1 S λv H1 S1=>?_;refine h2 Γ H1 O1 Z _ _ rs1 _ hK e2 S1 λvs H2 hl S2=>q (v::vs) H2 (by rw[Ey,Ey,hl]) ?_;rw[ar (bt al),ae]at S2;exact S2.perm vJ
   ·cases hr
  ·cases hr
 ·cases hr
@[irreducible] noncomputable def mNext:MS:=⟨λO=>some (.nx,O),[]⟩
@[irreducible] noncomputable def ak(a b:MS):MS:=⟨λO=>match a.run O with
 | some (.nx,O1)=>b.run O1
 | some (.rt t,O1)=>some (.rt t,O1)
 | some (.bk,O1)=>some (.bk,O1)
 | some (.ct,O1)=>some (.ct,O1)
 | none=>none,a.mu++b.mu⟩
@[irreducible] noncomputable def mIf(c:MT)(a b:MS):MS:=⟨λO=>match c.run O with
 | some (true,O1)=>a.run O1
 | some (false,O1)=>b.run O1
 | none=>none,c.mu++(a.mu++b.mu)⟩
@[irreducible] noncomputable def aZ(e:ME):MS:=⟨λO=>match e.run O with
 | some (_,O1)=>some (.nx,O1)
 | none=>none,e.mu⟩
@[irreducible] noncomputable def ax(e:ME)(g:MG):MS:=⟨λO=>match e.run O with
 | some (r,O1)=>match g.run r O1 with
  | some O2=>some (.nx,O2)
  | none=>none
 | none=>none,e.mu++g.mu⟩
@[irreducible] noncomputable def rh:R->Rho->Option (T×Rho)
 | ⟨.ow,t⟩,O=>some (t,O)
 | ⟨.vw (some i) (some []),t⟩,O=>match O[i]? with
  | some (some ⟨.ow,_⟩)=>some (t,(ao [i] O).set i none)
  | _=>none
 | _,_=>none
@[irreducible] noncomputable def bf(e:ME):MS:=⟨λO=>match e.run O with
 | some (r,O1)=>match rh r O1 with
  | some (t,O2)=>some (.rt t,O2)
  | none=>none
 | none=>none,e.mu⟩
noncomputable def mBrk:MS:=⟨λO=>some (.bk,O),[]⟩
theorem IN.weak{Γ:Gm}{O':Rho}{E:List En}{D:IT}{f:Fl}{M N:List Nat}(h:IN Γ O' (ah (M++N) E) D f):IN Γ O' (ah M E) D f:=by
 cases f with
 | rt t=>exact h
 | nx=>exact λZ' H' S=>h Z' H' (by rw[←ae];exact S.weak N)
 | bk=>exact λZ' H' S=>h Z' H' (by rw[←ae];exact S.weak N)
 | ct=>exact λZ' H' S=>h Z' H' (by rw[←ae];exact S.weak N)
theorem nT(M N:List Nat)(E:List En):ah M (ah N E)=ah N (ah M E):=by
 unfold ah;rw[Gg,Gg];congr 1;funext e;exact Bool.and_comm _ _
theorem IN.weak2{Γ:Gm}{O':Rho}{E:List En}{D:IT}{f:Fl}{M N:List Nat}(h:IN Γ O' (ah (M++N) E) D f):IN Γ O' (ah N E) D f:=by
 refine IN.weak (N:=M) ?_;rwa [←ae,nT,ae]
theorem bP{M:List Nat}{E:List En}(h:∀e∈E,e.key=none):∀e∈ah M E,e.key=none:=λe he=>h e (Er.mp he).1
theorem uO:dA K yM mNext:=by with_unfolding_all
 intro Γ H O Z E D f O' hK hE hr S q;cases hr;exact q Z H (by rw[show mNext.mu=[]from rfl,bD];exact S)
theorem xI{t u:TS}{a b:MS}(h1:dA K t a)(h2:dA K u b):dA K (Dn t u) (ak a b):=by
 intro Γ H O Z E D f O' hK hE hr S q;show t {D with nx:=u D} Z H;simp only[ak]at hr q;split at hr
 ·rename_i O1 e1;refine h1 Γ H O Z E _ .nx O1 hK hE e1 S λZ1 H1 S1=>?_;refine h2 Γ H1 O1 Z1 _ D f O' hK (bP hE) hr S1 ?_;rw[ae];exact q
 ·rename_i t1 O1 e1;cases hr;exact h1 Γ H O Z E _ (.rt t1) _ hK hE e1 S q
 ·rename_i O1 e1;cases hr;exact h1 Γ H O Z E _ .bk _ hK hE e1 S (show IN Γ _ (ah a.mu E) D .bk from q.weak)
 ·rename_i O1 e1;cases hr;exact h1 Γ H O Z E _ .ct _ hK hE e1 S (show IN Γ _ (ah a.mu E) D .ct from q.weak)
 ·cases hr
theorem xA{c:TT}{t u:TS}{mc:MT}{a b:MS}(hc:dR K c mc)(h1:dA K t a)(h2:dA K u b):dA K (Dg c t u) (mIf mc a b):=by
 intro Γ H O Z E D f O' hK hE hr S q;simp only[mIf]at hr q;rw[←ae]at q;split at hr
 ·rename_i O1 e1;refine hc Γ H O Z E _ true O1 hK e1 S λH1 S1=>nS ?_;exact h1 Γ H1 O1 Z _ D f O' hK (bP hE) hr S1 q.weak
 ·rename_i O1 e1;refine hc Γ H O Z E _ false O1 hK e1 S λH1 S1=>nR ?_;exact h2 Γ H1 O1 Z _ D f O' hK (bP hE) hr S1 q.weak2
 ·cases hr
theorem uJ{te:TE}{m:ME}(h:aP K te m):dA K (yL te) (aZ m):=by with_unfolding_all
 intro Γ H O Z E D f O' hK hE hr S q;simp only[aZ]at hr;split at hr
 ·rename_i r O1 e1;cases hr;exact h Γ H O Z E _ r _ hK e1 S λv H1 S1=>q Z H1 (S1.drop rfl)
 ·cases hr
theorem lV{te:TE}{g:TG}{m:ME}{mg:MG}(h:aP K te m)(hg:gO K g mg):dA K (xT te g) (ax m mg):=by
 intro Γ H O Z E D f O' hK hE hr S q;simp only[ax]at hr q;split at hr
 ·rename_i r O1 e1;split at hr
  ·rename_i O2 e2;cases hr;refine h Γ H O Z E _ r O1 hK e1 S λv H1 S1=>?_;exact hg Γ H1 O1 Z _ _ v r _ hK e2 S1 λZ2 H2 S2=>q Z2 H2 (by rw[←ae];exact S2)
  ·cases hr
 ·cases hr
theorem Sim.only{Γ:Gm}{H:Hp}{O:Rho}{Z:St}{e:En}{E:List En}(S:Sim Γ H O Z (e::E))(hE:∀x∈E,x.key=none):Sim Γ H O Z [e]:=by
 induction E with
 | nil=>exact S
 | cons x E ih=>exact ih (S.swap.drop (hE x ymS)) λy hy=>hE y (ymC _ hy)
theorem xG{te:TE}{m:ME}(h:aP K te m):dA K (Dm te) (bf m):=by with_unfolding_all
 intro Γ H O Z E D f O' hK hE hr S q;simp only[bf]at hr;split at hr
 ·rename_i r O1 e1;split at hr
  ·rename_i t O2 e2;cases hr;refine h Γ H O Z E _ r O1 hK e1 S λv H1 S1=>?_;obtain⟨k,t0⟩:=r;cases k with
   | ow=>
    cases e2;exact q v Z H1 (S1.only (bP hE))
   | io n=>cases e2
   | vw a b=>
    cases a with
    | none=>cases e2
    | some i=>
     cases b with
     | none=>cases e2
     | some p=>
      cases p with
      | cons _ _=>cases e2
      | nil=>
       simp only[rh]at e2;split at e2
       ·rename_i t1 h1;cases e2;exact q v Z H1 ((S1.move h1).only (bP (bP hE)))
       ·cases e2
  ·cases hr
 ·cases hr
theorem xw:dA K u9 mBrk:=by
 intro Γ H O Z E D f O' hK hE hr S q;cases hr;exact q Z H (by rw[show mBrk.mu=[]from rfl,bD];exact S)
@[irreducible] noncomputable def ag(i:Nat):MG:=⟨λr O=>if(eR O i&&aE [i] r)=true then some ((ao [i] O).set i (some r))else none,[i]⟩
theorem gQ{i:Nat}{r:R}(h:aE [i] r=true):r.k.root≠some i:=λz=>by
 unfold aE db at h;rw[z]at h;simp at h
theorem j5{i:Nat}:gO K (kL i) (ag i):=by with_unfolding_all
 intro Γ H O Z E Q v r O' hK hr S q;simp only[ag]at hr;split at hr
 ·rename_i h;cases hr;rw[Ei]at h;exact q _ H (S.put h.1 (gQ h.2))
 ·cases hr
end
section
variable {X:Cx}
theorem Inv.lstR{pins:List (Addr×Obj)}{Z:St}{H:Hp}{s:Jf}{l:Addr}{xs:List V}(I:Inv X pins Z H s)(hH:Rd H l (.lst xs)):xs.length<=sizeLine/\∃(its:List Jd) (n:Nat),Vals xs its/\xs.length=its.length/\s.heap.get? l=some {cls:=.type "list",data:=.seq its.toArray n}:=by
 obtain⟨z,its,n,r,e⟩:=hH.ok I.hok;exact⟨z,its,n,r,r.length,e⟩
def yz:R2:=λx y H Q=>∃l b xs zs,x=.ref l/\y=.ref b/\Rd H l (.lst xs)/\Rd H b (.lst zs)/\xs.length+zs.length<=sizeLine/\∀p,H p=none->Q (.ref p) (upd H p (.lst (xs++zs)))
theorem op_catR:OpR X (JK .Add) yz:=by
 intro pins s Z H x y v u Q I rx ry h;obtain⟨l,b,xs,zs,rfl,rfl,hH,hB,hz,q⟩:=h;cases rx;cases ry;obtain⟨z,its,n,r,hl,e⟩:=I.lstR hH;obtain⟨z2,its2,n2,r2,hl2,e2⟩:=I.lstR hB;refine PySem.P.add_list e e2 ?_ (by rw[Eh,Eh];omega);have ea:its.toArray++its2.toArray=(its++its2).toArray:=by simp
 rw[ea];exact⟨.ref _,_,I.lnew (t':=s.toks) (r.append r2) (by rw[Et];omega),rfl,q _ I.fresh⟩
def ut(K:yF):R2:=λx y H Q=>∃a b ys,x=.ref a/\y=.ref b/\SqT K H a []/\SqT K H b ys/\Q (.ref b) H
theorem sS:OpR X (JK .Add) (ut X.K):=by
 intro pins s Z H x y v u Q I rx ry h;obtain⟨a,b,ys,rfl,rfl,ha,hb,q⟩:=h;cases rx;cases ry;obtain⟨its,r1,p1,_⟩:=I.tuple ha;obtain⟨its2,r2,p2,_⟩:=I.tuple hb;have hv:its=[]:=r1.nil_iff.mpr rfl;subst hv;obtain⟨⟨cls,dd,data,sl⟩,ho,hc,n,hd⟩:=id p1;obtain⟨⟨cls2,dd2,data2,sl2⟩,ho2,hc2,n2,hd2⟩:=id p2;simp only at hc hd hc2 hd2;subst hc hd hc2 hd2;exact My ⟨_,ho,rfl⟩ ⟨_,ho2,rfl⟩ Lr Mf PySem.F.slot_tuple_add PySem.F.entry_tuple_add (PySem.F.args_tuple_add_2 _ _)
   (tuple_addW0 a b #[] its2.toArray n n2 dd dd2 sl sl2 rfl) ⟨ho,ho2,⟨.ref b,H,I,rfl,q⟩⟩
def ur(K:yF):R2:=λx y H Q=>yy K x y H Q∨(yz x y H Q∨ut K x y H Q)
theorem wt:OpR X (JK .Add) (ur X.K):=op_addX.or (op_catR.or sS)
def yD:R2:=λx y H Q=>∃l k xs,x=.ref l/\y=.int k/\Rd H l (.lst xs)/\-(2^63)<=k/\k<2^63/\xs.length*k.toNat<=sizeLine/\∀p,H p=none->Q (.ref p) (upd H p (.lst (El k.toNat xs).flatten))
theorem ww:OpR X (JK .Mult) yD:=by
 intro pins s Z H x y v u Q I rx ry h;obtain⟨l,k,xs,rfl,rfl,hH,h1,h2,hz,q⟩:=h;cases rx;obtain⟨t,rfl⟩:=ry;obtain⟨z,its,n,r,hl,e⟩:=I.lstR hH;have hlen:its.toArray.size*k.toNat<=sizeLine:=by rw[Eh,←hl];exact hz
 have hcap:¬ its.toArray.size*k.toNat>(2^63-1) / 8:=by
  have:(sizeLine:Nat)<=(2^63-1) / 8:=by decide
  omega
 have hfit:¬ (!Builtin.List.listFitsIndex k)=true:=by
  rw[La h1 h2];exact EA
 have hlong:¬ JC (its.toArray.size*k.toNat)=true:=by
  rw[dF hlen];exact EA
 have hnew:G4 (λx1 x2=>x1++x2) #[] (El (if its.toArray.isEmpty=true then 0 else k.toNat) its.toArray)=(El k.toNat its).flatten.toArray:=by
  have f0:∀m:Nat,G4 (λx1 x2=>x1++x2) #[] (El m its.toArray)=(El m its).flatten.toArray:=λm=>by
   have:=eM its m [];rw[Fx]at this;exact this
  rw[f0];cases its with
  | nil=>simp
  | cons a r'=>rw[if_neg (by simp)]
 refine Km (T:="list") (U:="int") (by decide) ⟨_,e,rfl⟩ (λs'=>Ky s' k t) M1 LJ Kg repeat_list Ls.lookup
  (JO Kg (Ky s k t) Lu (Li _ _) (LN k t l its.toArray n)
   ⟨e,rfl,⟨_,e,rfl⟩,JO M3 ⟨_,e,rfl⟩ MU (MB _ _) (Ko l its.toArray n k t hfit hcap hlong) ⟨e,?_⟩⟩)
 rw[hnew];exact⟨.ref _,_,I.lnew (t':=s.toks) (r.rep k.toNat) (by rw[iy,HG];exact hz),rfl,q _ I.fresh⟩
def uy(K:yF):R2:=λx y H Q=>yC K x y H Q∨yD x y H Q
theorem wv:OpR X (JK .Mult) (uy X.K):=op_mulX.or ww
def mW:V->List V->Hp->VK->Prop:=λx vs H Q=>∃l b xs zs,x=.ref l/\vs=[.ref b]/\H l=some (.lst xs)/\Rd H b (.lst zs)/\xs.length+zs.length<=sizeLine/\Q .non (upd H l (.lst (xs++zs)))
theorem og:MtM X "list.extend" mW:=by
 intro pins s Z H x vs v us Q I rx rv h;obtain⟨l,b,xs,zs,rfl,rfl,hH,hB,hz,q⟩:=h;cases rx;obtain⟨u,rfl,ru⟩:=rv.one;cases ru;obtain⟨z,its,n,r,hl,e⟩:=I.lstM hH;obtain⟨z2,its2,n2,r2,hl2,e2⟩:=I.lstR hB;have hsz:its.toArray.size+its2.toArray.size<=sizeLine:=by rw[Eh,Eh];omega
 have hlong:¬ (!its.toArray.isEmpty&&JC (its.toArray.size+its2.toArray.size))=true:=by
  rw[dF hsz,GD];exact EA
 refine JO K6 ⟨_,e,rfl⟩ KR (KG _ _)
  (Kr l its.toArray n b its2.toArray n2 hlong (by rw[Eh];omega) (by omega)) ⟨e,e2,?_⟩
 refine⟨.non,_,I.lset (its':=its++its2) hH e (by simp) (r.append r2) ?_,rfl,q⟩;rw[Et];omega
def uu(K:yF):V->List V->Hp->VK->Prop:=λx xs H Q=>mW x xs H Q∨mX K x xs H Q
theorem wm:MtR X "list.extend" (uu X.K):=MtR.or og oh
end
def Rpx(K:yF)(H:Hp)(t:T)(v:V):Prop:=∃F,Rp K H t v F
def New(K:yF)(H H':Hp)(t:T)(v:V):Prop:=IG H H'/\∃F,Rp K H' t v F/\F.Nodup/\∀a∈F,H a=none/\Mu H' a
section
variable {K:yF}{H H':Hp}{Γ:Gm}{O:Rho}{Z:St}{E:List En}{t:T}{v x y:V}{Q:VK}
theorem Sim.fresh(S:Sim Γ H O Z E)(n:New Γ.K H H' t v):Sim Γ H' O Z (⟨none,v,⟨.ow,t⟩⟩::E):=by
 obtain⟨sm,F,h1,h2,h3⟩:=n;obtain⟨F0,r0,_,_,k⟩:=Sim.use (vs:=[]) (ts:=[]) S rfl;have:=r0.nil_inv.2;subst this;exact k H' v t F (sm.offM _) (by simp) h2 (λa ha=>⟨.inr (h3 a ha).1,(h3 a ha).2⟩) h1
theorem New.im{i:I}(h:RpI K H i v):New K H H (.im i) v:=⟨IG.refl H,[],iJ h,FI,by simp⟩
theorem New.sc{i:I}(h:i.sc=some v):New K H H (.im i) v:=.im (jv h)
theorem New.tup{is:List I}{xs:List V}{p:Addr}(hp:H p=none)(h:Ir K H is xs):New K H (upd H p (.tup xs)) (.im (.tup is)) (.ref p):=by
 refine⟨IG.laid hp,[],iJ ?_,FI,by simp⟩;rw[RpI];exact⟨p,xs,rfl,SqT.of aA,h.same (IG.laid hp)⟩
theorem New.li{is:List I}{xs:List V}{p:Addr}(hp:H p=none)(h:Ir K H is xs):New K H (upd H p (.lst xs)) (.li is) (.ref p):=by
 refine⟨IG.laid hp,[p],?_,by simp,λa ha=>?_⟩;rw[Rp];exact⟨p,xs,rfl,.inl aA,h.same (IG.laid hp),rfl⟩;rw[ysM ha];exact⟨hp,_,aA,rfl⟩
theorem de{i:I}(h:Rpx K H (.im i) v):RpI K H i v:=by obtain⟨F,h⟩:=h;exact(aX h).1
theorem aK{n:Int}(h:Rpx K H (.im (.int n)) v):v=.int n:=by have:=de h;rw[RpI]at this;exact this
theorem cY{n:Str}(h:Rpx K H (.im (.str n)) v):v=.str n:=by have:=de h;rw[RpI]at this;exact this
theorem ni{n:Bool}(h:Rpx K H (.im (.bl n)) v):v=.bl n:=by have:=de h;rw[RpI]at this;exact this
theorem Bc(h:Rpx K H (.im .non) v):v=.non:=by have:=de h;rw[RpI]at this;exact this
theorem cv{is:List I}(h:Rpx K H (.im (.tup is)) v):∃a xs,v=.ref a/\SqT K H a xs/\Ir K H is xs:=by have:=de h;rw[RpI]at this;exact this
theorem cC{is:List I}(h:Rpx K H (.li is) v):∃a xs,v=.ref a/\Rd H a (.lst xs)/\Ir K H is xs:=by
 obtain⟨F,h⟩:=h;rw[Rp]at h;obtain⟨a,xs,h1,h2,h3,_⟩:=h;exact⟨a,xs,h1,h2,h3⟩
theorem yI{is:List I}(h:Rpx K H (.im (.ls is)) v):∃a xs,v=.ref a/\Rd H a (.lst xs)/\Ir K H is xs:=by
 have:=de h;rw[RpI]at this;obtain⟨a,o,xs,h1,h2,h3⟩:=this;exact⟨a,xs,h1,.inr ⟨o,h2⟩,h3⟩
theorem gi{ts:List T}(h:Rpx K H (.lst ts) v):∃a xs F,v=.ref a/\Rd H a (.lst xs)/\Rps K H ts xs F:=by
 obtain⟨F,h⟩:=h;rw[Rp]at h;obtain⟨a,xs,F',h1,h2,h3,_⟩:=h;exact⟨a,xs,F',h1,h2,h3⟩
theorem aU{a:Addr}{xs:List V}(h:Rd H a (.lst xs)):SqL K H a xs:=.inl h
def yi(K:yF)(red:V->Hp->VK->Prop)(f:T->Option T):Prop:=∀(H:Hp) (x:V) (tx t:T) (Q:VK),Rpx K H tx x->f tx=some t->(∀v H',New K H H' t v->Q v H')->red x H Q
def dW(K:yF)(red:R2)(f:T->T->Option T):Prop:=∀(H:Hp) (x y:V) (tx ty t:T) (Q:VK),Rpx K H tx x->Rpx K H ty y->f tx ty=some t->(∀v H',New K H H' t v->Q v H')->red x y H Q
def IM(K:yF)(H:Hp):List T->List V->Prop
 | [],vs=>vs=[]
 | t::ts,vs=>∃v r,vs=v::r/\Rpx K H t v/\IM K H ts r
def fH(K:yF)(red:List V->Hp->VK->Prop)(f:List T->Option T):Prop:=∀(H:Hp) (vs:List V) (ts:List T) (t:T) (Q:VK),IM K H ts vs->f ts=some t->(∀v H',New K H H' t v->Q v H')->red vs H Q
@[irreducible] noncomputable def mOp(f:T->T->Option T)(a b:ME):ME:=⟨λO=>match a.run O with
 | some (ra,O1)=>match b.run O1 with
  | some (rb,O2)=>if aE b.mu ra=true then(match f ra.t rb.t with
   | some t=>some (⟨.ow,t⟩,O2)
   | none=>none)else none
  | none=>none
 | none=>none,a.mu++b.mu⟩
theorem oA{red:R2}{f:T->T->Option T}{ta tb:TE}{a b:ME}(hp:dW K red f)(ha:aP K ta a)(hb:aP K tb b):aP K (tOp red ta tb) (mOp f a b):=by with_unfolding_all
 intro Γ H O Z E Q r O' hK hr S q;simp only[mOp]at hr;split at hr
 ·rename_i ra O1 e1;split at hr
  ·rename_i rb O2 e2;split at hr
   ·rename_i al;split at hr
    ·rename_i t e3;cases hr;refine ha Γ H O Z E _ ra O1 hK e1 S λx H1 S1=>?_;refine hb Γ H1 O1 Z _ _ rb _ hK e2 S1 λy H2 S2=>?_;rw[ar (bt al),ae]at S2;have r1:=S2.rd (ymC _ ymS);have r2:=S2.rd ymS;rw[hK]at r1 r2;refine hp H2 x y ra.t rb.t t Q r1 r2 e3 λv H3 n=>q v H3 ?_;rw[←hK]at n;exact((S2.drop rfl).drop rfl).fresh n
    ·cases hr
   ·cases hr
  ·cases hr
 ·cases hr
@[irreducible] noncomputable def mUn(f:T->Option T)(a:ME):ME:=⟨λO=>match a.run O with
 | some (ra,O1)=>(match f ra.t with
  | some t=>some (⟨.ow,t⟩,O1)
  | none=>none)
 | none=>none,a.mu⟩
theorem Ba{red:V->Hp->VK->Prop}{f:T->Option T}{ta:TE}{a:ME}(hp:yi K red f)(ha:aP K ta a):aP K (tUn red ta) (mUn f a):=by with_unfolding_all
 intro Γ H O Z E Q r O' hK hr S q;simp only[mUn]at hr;split at hr
 ·rename_i ra O1 e1;split at hr
  ·rename_i t e3;cases hr;refine ha Γ H O Z E _ ra _ hK e1 S λx H1 S1=>?_;have r1:=S1.rd ymS;rw[hK]at r1;refine hp H1 x ra.t t Q r1 e3 λv H3 n=>q v H3 ?_;rw[←hK]at n;exact(S1.drop rfl).fresh n
  ·cases hr
 ·cases hr
theorem Sim.rds:∀{vs:List V} {rs:List R} {E:List En},Sim Γ H O Z (ens vs rs++E)->vs.length=rs.length->IM Γ.K H (rs.map (·.t)) vs
 | [],[],E,S,_=>rfl
 | v::vs,r::rs,E,S,h=>by
  rw[ens,EC]at S;exact⟨v,vs,rfl,S.rd ymS,Sim.rds (S.drop rfl) (by simpa using h)⟩
 | [],_::_,_,_,h=>by cases h
 | _::_,[],_,_,h=>by cases h
theorem Sim.drops:∀{vs:List V} {rs:List R} {E:List En},Sim Γ H O Z (ens vs rs++E)->Sim Γ H O Z E
 | [],rs,E,S=>by cases rs<;>exact S
 | v::vs,[],E,S=>S
 | v::vs,r::rs,E,S=>by
  rw[ens,EC]at S;exact Sim.drops (S.drop rfl)
@[irreducible] noncomputable def mB(f:List T->Option T)(a:MA):ME:=⟨λO=>match a.run O with
 | some (rs,O1)=>(match f (rs.map (·.t))with
  | some t=>some (⟨.ow,t⟩,O1)
  | none=>none)
 | none=>none,a.mu⟩
theorem mZ{red:List V->Hp->VK->Prop}{f:List T->Option T}{ta:TA}{a:MA}(hp:fH K red f)(ha:fR K ta a):aP K (tCB red ta) (mB f a):=by with_unfolding_all
 intro Γ H O Z E Q r O' hK hr S q;simp only[mB]at hr;split at hr
 ·rename_i rs O1 e1;split at hr
  ·rename_i t e3;cases hr;refine ha Γ H O Z E _ rs _ hK e1 S λvs H1 hl S1=>?_;have r1:=S1.rds hl;rw[hK]at r1;refine hp H1 vs _ t Q r1 e3 λv H3 n=>q v H3 ?_;rw[←hK]at n;exact S1.drops.fresh n
  ·cases hr
 ·cases hr
@[irreducible] noncomputable def mM(f:T->List T->Option T)(o:ME)(a:MA):ME:=⟨λO=>match o.run O with
 | some (r,O0)=>match a.run O0 with
  | some (rs,O1)=>if aE a.mu r=true then(match f r.t (rs.map (·.t))with
   | some t=>some (⟨.ow,t⟩,O1)
   | none=>none)else none
  | none=>none
 | none=>none,o.mu++a.mu⟩
def rM(K:yF)(T0:String)(red:V->List V->Hp->VK->Prop)(f:T->List T->Option T):Prop:=∀(H:Hp) (x:V) (vs:List V) (tx:T) (ts:List T) (t:T) (Q:VK),Rpx K H tx x->IM K H ts vs->f tx ts=some t->(∀v H',New K H H' t v->Q v H')->red x vs H Q
theorem C8{T0:String}{red:V->List V->Hp->VK->Prop}{f:T->List T->Option T}{to:TE}{ta:TA}{o:ME}{a:MA}(hp:rM K T0 red f)(hty:∀(H:Hp) (x:V) (tx:T) ts t,Rpx K H tx x->f tx ts=some t->tyV K T0 x H)(ho:aP K to o)(ha:fR K ta a):aP K (tBM K T0 red to ta) (mM f o a):=by with_unfolding_all
 intro Γ H O Z E Q r O' hK hr S q;simp only[mM]at hr;split at hr
 ·rename_i r0 O0 e0;split at hr
  ·rename_i rs O1 e1;split at hr
   ·rename_i al;split at hr
    ·rename_i t e3;cases hr;refine ho Γ H O Z E _ r0 _ hK e0 S λx H1 S1=>?_;have r0':=S1.rd ymS;rw[hK]at r0';refine⟨hty H1 x _ _ _ r0' e3,?_⟩;refine ha Γ H1 O0 Z _ _ rs _ hK e1 S1 λvs H2 hl S2=>?_;rw[ar (bt al),ae]at S2;have r1:=S2.rds hl;have S3:=S2.drops;have r2:=S3.rd ymS;rw[hK]at r1 r2;refine hp H2 x vs _ _ t Q r2 r1 e3 λv H3 n=>q v H3 ?_;rw[←hK]at n;exact(S3.drop rfl).fresh n
    ·cases hr
   ·cases hr
  ·cases hr
 ·cases hr
@[irreducible] noncomputable def aI(a:ME):MT:=⟨λO=>match a.run O with
 | some (⟨_,.im (.bl b)⟩,O1)=>some (b,O1)
 | _=>none,a.mu⟩
theorem m8{ta:TE}{a:ME}(ha:aP K ta a):dR K (yN ta) (aI a):=by with_unfolding_all
 intro Γ H O Z E Q b O' hK hr S q;simp only[aI]at hr;split at hr
 ·rename_i k b0 O1 e1;cases hr;refine ha Γ H O Z E _ _ _ hK e1 S λx H1 S1=>⟨b,?_,q H1 (S1.drop rfl)⟩;have r1:=S1.rd ymS;exact ni r1
 ·cases hr
theorem A9{ta:TE}{a:ME}(ha:aP K ta a):dR K (tB ta) (aI a):=m8 ha
noncomputable def tru:T->Option Bool
 | .im .non=>some false
 | .im (.bl b)=>some b
 | .im (.int i)=>some (i != 0)
 | .im (.str x)=>if x.length<=sizeLine then some ((x.length:Int) != 0)else none
 | .im (.tup is)=>some (!is.isEmpty)
 | .li is=>some (!is.isEmpty)
 | .lst ts=>some (!ts.isEmpty)
 | .tup ts=>some (!ts.isEmpty)
 | _=>none
@[irreducible] noncomputable def n4(a:ME):MT:=⟨λO=>match a.run O with
 | some (r,O1)=>(match tru r.t with
  | some b=>some (b,O1)
  | none=>none)
 | none=>none,a.mu⟩
theorem gt{α β:Type}{l:List α}{m:List β}(h:l.length=m.length):l.isEmpty=m.isEmpty:=by
 cases l<;>cases m<;>first|rfl|cases h
theorem tru_ok'{b:Bool}(h:tru t=some b)(r:Rpx K H t v):vD K v H b:=by
 cases t with
 | im i=>
  cases i with
  | non=>rw[Bc r];cases h;rfl
  | bl x=>rw[ni r];cases h;rfl
  | int x=>rw[aK r];cases h;rfl
  | str x=>
   rw[cY r];simp only[tru]at h;split at h;cases h;exact⟨by assumption,rfl⟩;cases h
  | tup is=>
   obtain⟨a,xs,rfl,h1,h2⟩:=cv r;cases h;exact .inr (.inl ⟨xs,h1,by rw[gt h2.length]⟩)
  | ls is=>cases h
  | fd _ _=>cases h
 | li is=>
  obtain⟨a,xs,rfl,h1,h2⟩:=cC r;cases h;exact .inl ⟨xs,aU h1,by rw[gt h2.length]⟩
 | lst is=>
  obtain⟨a,xs,F,rfl,h1,h2⟩:=gi r;cases h;exact .inl ⟨xs,aU h1,by rw[gt h2.length]⟩
 | tup ts=>
  obtain⟨F,r⟩:=r;rw[Rp]at r;obtain⟨a,xs,rfl,h1,h2⟩:=r;cases h;exact .inr (.inl ⟨xs,h1,by rw[gt h2.length]⟩)
 | di _=>cases h
 | dc _=>cases h
 | ins _ _=>cases h
theorem xK{ta:TE}{a:ME}(ha:aP K ta a):dR K (Do K ta) (n4 a):=by with_unfolding_all
 intro Γ H O Z E Q b O' hK hr S q;simp only[n4]at hr;split at hr
 ·rename_i r O1 e1;split at hr
  ·rename_i b0 e2;cases hr;refine ha Γ H O Z E _ _ _ hK e1 S λx H1 S1=>⟨b,?_,q H1 (S1.drop rfl)⟩;have r1:=S1.rd ymS;rw[hK]at r1;exact tru_ok' e2 r1
  ·cases hr
 ·cases hr
@[irreducible] noncomputable def iZ(a b:MT):MT:=⟨λO=>match a.run O with
 | some (true,O1)=>b.run O1
 | some (false,O1)=>some (false,O1)
 | none=>none,a.mu++b.mu⟩
@[irreducible] noncomputable def mOr(a b:MT):MT:=⟨λO=>match a.run O with
 | some (true,O1)=>some (true,O1)
 | some (false,O1)=>b.run O1
 | none=>none,a.mu++b.mu⟩
@[irreducible] noncomputable def nX(a:MT):MT:=⟨λO=>match a.run O with
 | some (b,O1)=>some (!b,O1)
 | none=>none,a.mu⟩
theorem xu{ta tb:TT}{a b:MT}(ha:dR K ta a)(hb:dR K tb b):dR K (Dc ta tb) (iZ a b):=by
 intro Γ H O Z E Q c O' hK hr S q;simp only[iZ]at hr q;split at hr
 ·rename_i O1 e1;refine ha Γ H O Z E _ _ _ hK e1 S λH1 S1=>nS ?_;exact hb Γ H1 O1 Z _ _ _ _ hK hr S1 λH2 S2=>q H2 (by rw[←ae];exact S2)
 ·rename_i O1 e1;cases hr;exact ha Γ H O Z E _ _ _ hK e1 S λH1 S1=>nR (q H1 (by rw[←ae];exact S1.weak _))
 ·cases hr
theorem A7{ta tb:TT}{a b:MT}(ha:dR K ta a)(hb:dR K tb b):dR K (tOr ta tb) (mOr a b):=by
 intro Γ H O Z E Q c O' hK hr S q;simp only[mOr]at hr q;split at hr
 ·rename_i O1 e1;cases hr;exact ha Γ H O Z E _ _ _ hK e1 S λH1 S1=>nS (q H1 (by rw[←ae];exact S1.weak _))
 ·rename_i O1 e1;refine ha Γ H O Z E _ _ _ hK e1 S λH1 S1=>nR ?_;exact hb Γ H1 O1 Z _ _ _ _ hK hr S1 λH2 S2=>q H2 (by rw[←ae];exact S2)
 ·cases hr
theorem xD{ta:TT}{a:MT}(ha:dR K ta a):dR K (Dj ta) (nX a):=by
 intro Γ H O Z E Q c O' hK hr S q;simp only[nX]at hr q;split at hr
 ·rename_i b O1 e1;cases hr;exact ha Γ H O Z E _ _ _ hK e1 S λH1 S1=>q H1 S1
 ·cases hr
@[irreducible] noncomputable def mAndV(a b:ME):ME:=⟨λO=>match a.run O with
 | some (⟨_,.im (.bl true)⟩,O1)=>b.run O1
 | some (⟨_,.im (.bl false)⟩,O1)=>some (⟨.ow,.im (.bl false)⟩,O1)
 | _=>none,a.mu++b.mu⟩
@[irreducible] noncomputable def nY(a b:ME):ME:=⟨λO=>match a.run O with
 | some (⟨_,.im (.bl true)⟩,O1)=>some (⟨.ow,.im (.bl true)⟩,O1)
 | some (⟨_,.im (.bl false)⟩,O1)=>b.run O1
 | _=>none,a.mu++b.mu⟩
theorem xE{ta tb:TE}{a b:ME}(ha:aP K ta a)(hb:aP K tb b):aP K (Dk ta tb) (nY a b):=by
 intro Γ H O Z E Q c O' hK hr S q;simp only[nY]at hr q;split at hr
 ·rename_i k O1 e1;cases hr;refine ha Γ H O Z E _ _ _ hK e1 S λx H1 S1=>⟨true,ni (S1.rd ymS),nS (q _ H1 ?_)⟩;rw[←ae];exact((S1.drop rfl).weak _).imm (jv rfl)
 ·rename_i k O1 e1;refine ha Γ H O Z E _ _ _ hK e1 S λx H1 S1=>⟨false,ni (S1.rd ymS),nR ?_⟩;exact hb Γ H1 O1 Z _ _ _ _ hK hr (S1.drop rfl) λv H2 S2=>q v H2 (by rw[←ae];exact S2)
 ·cases hr
end
mutual
noncomputable def I.dok:I->Bool
 | .int _=>true|.str _=>true|.tup is=>I.doks is|_=>false
noncomputable def I.doks:List I->Bool
 | []=>true
 | i::is=>i.dok&&I.doks is
end
mutual
noncomputable def I.toD:I->D
 | .int i=>.int i|.str x=>.str x|.tup is=>.tup (I.toDs is)|_=>.int 0
noncomputable def I.toDs:List I->List D
 | []=>[]
 | i::is=>i.toD::I.toDs is
end
mutual
noncomputable def I.dep:I->Nat
 | .tup is=>I.deps is+1|_=>0
noncomputable def I.deps:List I->Nat
 | []=>0
 | i::is=>max i.dep (I.deps is)
end
mutual
theorem yZ:∀(i:I),i.toD.depth=i.dep
 | .non=>rfl|.bl _=>rfl|.int _=>rfl|.str _=>rfl|.ls _=>rfl|.fd _ _=>rfl
 | .tup is=>by rw[I.toD,D.depth,I.dep,eX is]
theorem eX:∀(is:List I),aJ (I.toDs is)=I.deps is
 | []=>rfl
 | i::is=>by rw[I.toDs,aJ,I.deps,yZ i,eX is]
end
mutual
theorem pR:∀{a b:I},a.dok=true->b.dok=true->(a.toD=b.toD↔a=b)
 | .non,_,h,_=>by simp[I.dok]at h
 | .bl _,_,h,_=>by simp[I.dok]at h
 | .ls _,_,h,_=>by simp[I.dok]at h
 | .fd _ _,_,h,_=>by simp[I.dok]at h
 | .int x,b,_,h=>by cases b<;>simp[I.dok]at h<;>simp[I.toD]
 | .str x,b,_,h=>by cases b<;>simp[I.dok]at h<;>simp[I.toD]
 | .tup x,b,h1,h=>by
  cases b with
  | tup y=>
   rw[I.dok]at h h1;rw[I.toD,I.toD,D.tup.injEq,I.tup.injEq];exact iM h1 h
  | non=>simp[I.dok]at h
  | bl _=>simp[I.dok]at h
  | ls _=>simp[I.dok]at h
  | fd _ _=>simp[I.dok]at h
  | int _=>simp[I.toD]
  | str _=>simp[I.toD]
theorem iM:∀{a b:List I},I.doks a=true->I.doks b=true->(I.toDs a=I.toDs b↔a=b)
 | [],b,_,_=>by cases b<;>simp[I.toDs]
 | x::xs,b,h1,h=>by
  cases b with
  | nil=>simp[I.toDs]
  | cons y ys=>
   rw[I.doks,Ei]at h h1;rw[I.toDs,I.toDs,FG.injEq,FG.injEq,pR h1.1 h.1,iM h1.2 h.2]
end
section
variable {K:yF}{H:Hp}
mutual
theorem ji:∀{i:I} {v:V},i.dok=true->RpI K H i v->Rep K H i.toD v
 | .non,_,h,_=>by simp[I.dok]at h
 | .bl _,_,h,_=>by simp[I.dok]at h
 | .ls _,_,h,_=>by simp[I.dok]at h
 | .fd _ _,_,h,_=>by simp[I.dok]at h
 | .int _,_,_,r=>by rw[RpI]at r;rw[I.toD,Rep];exact r
 | .str _,_,_,r=>by rw[RpI]at r;rw[I.toD,Rep];exact r
 | .tup is,_,h,r=>by
  rw[RpI]at r;rw[I.dok]at h;obtain⟨a,xs,h1,h2,h3⟩:=r;rw[I.toD,Rep];exact⟨a,xs,h1,h2,ft h h3⟩
theorem ft:∀{is:List I} {vs:List V},I.doks is=true->Ir K H is vs->IA K H (I.toDs is) vs
 | [],_,_,r=>by rw[Ir]at r;rw[I.toDs,IA];exact r
 | i::is,_,h,r=>by
  rw[Ir]at r;rw[I.doks,Ei]at h;obtain⟨x,xs,h1,h2,h3⟩:=r;rw[I.toDs,IA];exact⟨x,xs,h1,ji h.1 h2,ft h.2 h3⟩
end
theorem iE{i:I}:∀{is:List I},i.dok=true->I.doks is=true->(i.toD∈I.toDs is↔i∈is)
 | [],_,_=>by simp[I.toDs]
 | x::xs,h,hs=>by
  rw[I.doks,Ei]at hs;rw[I.toDs,E8,E8,pR h hs.1,iE h hs.2]
noncomputable def isI:T->Option Int
 | .im i=>(match i with|.int a=>some a|_=>none)
 | _=>none
noncomputable def isS:T->Option Str
 | .im i=>(match i with|.str a=>some a|_=>none)
 | _=>none
noncomputable def zn:T->Option (List I)
 | .im i=>(match i with|.tup a=>some a|_=>none)
 | _=>none
noncomputable def su:T->Option (List I)
 | .li a=>some a
 | _=>none
theorem ca{t:T}{a:Int}(h:isI t=some a):t=.im (.int a):=by
 cases t with
 | im i=>cases i<;>cases h;rfl
 | _=>cases h
theorem vV{t:T}{a:Str}(h:isS t=some a):t=.im (.str a):=by
 cases t with
 | im i=>cases i<;>cases h;rfl
 | _=>cases h
theorem mE{t:T}{a:List I}(h:zn t=some a):t=.im (.tup a):=by
 cases t with
 | im i=>cases i<;>cases h;rfl
 | _=>cases h
theorem eN{t:T}{a:List I}(h:su t=some a):t=.li a:=by
 cases t with
 | li i=>cases h;rfl
 | _=>cases h
noncomputable def i2(g:Int->Int->Option T) (x y:T):Option T:=match isI x with
 | some a=>(match isI y with
  | some b=>g a b
  | none=>none)
 | none=>none
theorem gU{g:Int->Int->Option T}{x y t:T}(h:i2 g x y=some t):∃a b,x=.im (.int a)/\y=.im (.int b)/\g a b=some t:=by
 unfold i2 at h;split at h
 ·rename_i a ea;split at h
  ·rename_i b eb;exact⟨a,b,ca ea,ca eb,h⟩
  ·cases h
 ·cases h
theorem aQ{α:Type}{c:Prop}[Decidable c]{t u : α}(h:(if c then some t else none)=some u):c/\t=u:=by
 by_cases hc:c;rw[if_pos hc]at h;exact⟨hc,ET.inj h⟩;rw[if_neg hc]at h;cases h
noncomputable def BH(i:I) (y:T):Option T:=match i with
 | .int a=>(match isI y with|some b=>some (.im (.int (a+b)))|none=>none)
 | .str a=>(match isS y with|some b=>if a.length+b.length<=sizeLine then some (.im (.str (a++b)))else none|none=>none)
 | .tup a=>(match zn y with|some b=>if a.length+b.length<=sizeLine then some (.im (.tup (a++b)))else none|none=>none)
 | _=>none
@[irreducible] noncomputable def bg(x y:T):Option T:=match x with
 | .im i=>BH i y
 | .li a=>(match su y with|some b=>if a.length+b.length<=sizeLine then some (.li (a++b))else none|none=>none)
 | _=>none
theorem Ir.nil_iff{is:List I}{xs:List V}(h:Ir K H is xs):xs=[]↔is=[]:=by
 have:=h.length;cases is<;>cases xs<;>first|(simp;done)|(cases this;done)
theorem tP:dW K (ur K) bg:=by
 intro H x y tx ty t Q rx ry e q;unfold bg at e;split at e
 ·rename_i i;unfold BH at e;split at e
  ·split at e
   ·rename_i b eb;cases ca eb;cases e;rw[aK rx,aK ry];exact .inl (.inl ⟨_,_,rfl,rfl,q _ H (.sc rfl)⟩)
   ·cases e
  ·split at e
   ·rename_i b eb;cases vV eb;obtain⟨hl,rfl⟩:=aQ e;rw[cY rx,cY ry];exact .inl (.inr (.inl ⟨_,_,rfl,rfl,hl,q _ H (.sc rfl)⟩))
   ·cases e
  ·rename_i a;split at e
   ·rename_i b eb;cases mE eb;obtain⟨hl,rfl⟩:=aQ e;obtain⟨p,xs,rfl,h1,h2⟩:=cv rx;obtain⟨p',ys,rfl,g1,g2⟩:=cv ry;by_cases ha:a=[]
    ·subst ha;have:=h2.nil_inv;subst this;refine .inr (.inr ⟨p,p',ys,rfl,rfl,h1,g1,q _ H (.im ?_)⟩);rw[RpI];exact⟨p',ys,rfl,g1,g2⟩
    ·refine .inl (.inr (.inr (.inr ⟨p,p',xs,ys,rfl,rfl,h1,g1,λz=>ha (h2.nil_iff.mp z),by rw[h2.length,g2.length];exact hl,λz=>q _ H (.im ?_),λz p hp=>q _ _ (.tup hp (h2.append g2))⟩)));have:=g2.nil_iff.mp z;subst this;rw[EB,RpI];exact⟨p,xs,rfl,h1,h2⟩
   ·cases e
  ·cases e
 ·split at e
  ·rename_i b eb;cases eN eb;obtain⟨hl,rfl⟩:=aQ e;obtain⟨p,xs,rfl,h1,h2⟩:=cC rx;obtain⟨p',ys,rfl,g1,g2⟩:=cC ry;exact .inr (.inl ⟨p,p',xs,ys,rfl,rfl,h1,g1,by rw[h2.length,g2.length];exact hl,λp hp=>q _ _ (.li hp (h2.append g2))⟩)
  ·cases e
 ·cases e
@[irreducible] noncomputable def cS:T->T->Option T:=i2 λa b=>some (.im (.int (a-b)))
theorem uc:dW K (rI0 λi j=>.int (i-j)) cS:=by
 intro H x y tx ty t Q rx ry e q;unfold cS at e;obtain⟨a,b,rfl,rfl,e⟩:=gU e;cases e;rw[aK rx,aK ry];exact⟨_,_,rfl,rfl,q _ H (.sc rfl)⟩
noncomputable def jr(i j:Int):Bool:=(decide (-(2^64)<i)&&decide (i<2^64))||(decide (-(2^64)<j)&&decide (j<2^64))
theorem wp{i j:Int}(h:jr i j=true):I0 i j:=by
 unfold jr at h;simp only[FD,Ei,decide_eq_true_eq]at h;exact h
noncomputable def BZ(i:I) (b:Int):Option T:=match i with
 | .int a=>if jr a b=true then some (.im (.int (a*b)))else none
 | .str a=>if 1<=b/\b<=1000/\a.length<=1000 then some (.im (.str (oL (El b.toNat (sL a)).flatten)))else none
 | .tup a=>if a≠[]/\a.length<=1000/\1<=b/\b<=1000 then some (.im (.tup (El b.toNat a).flatten))else none
 | _=>none
@[irreducible] noncomputable def dU(x y:T):Option T:=match isI y with
 | some b=>(match x with
  | .im i=>BZ i b
  | .li a=>if -(2^63)<=b/\b<2^63/\a.length*b.toNat<=sizeLine then some (.li (El b.toNat a).flatten)else none
  | _=>none)
 | none=>none
theorem Ir.reps{is:List I}{xs:List V}(h:Ir K H is xs):∀n:Nat,Ir K H (El n is).flatten (El n xs).flatten
 | 0=>.nil
 | n+1=>by
  rw[E3,E3,Fu,Fu];exact h.append (h.reps n)
theorem tZ:dW K (uy K) dU:=by
 intro H x y tx ty t Q rx ry e q;unfold dU at e;split at e
 ·rename_i b eb;cases ca eb;split at e
  ·unfold BZ at e;split at e
   ·obtain⟨h,rfl⟩:=aQ e;rw[aK rx,aK ry];exact .inl (.inl ⟨_,_,rfl,rfl,wp h,q _ H (.sc rfl)⟩)
   ·obtain⟨h,rfl⟩:=aQ e;rw[cY rx,aK ry];exact .inl (.inr (.inl ⟨_,_,rfl,rfl,h.1,h.2.1,h.2.2,q _ H (.sc rfl)⟩))
   ·rename_i a;obtain⟨h,rfl⟩:=aQ e;obtain⟨p,xs,rfl,h1,h2⟩:=cv rx;rw[aK ry];refine .inl (.inr (.inr (.inr ⟨p,b,xs,rfl,rfl,h1,λz=>h.1 (h2.nil_iff.mp z),by rw[h2.length];exact h.2.1,h.2.2.1,h.2.2.2,λz=>q _ H (.im ?_),λz p hp=>q _ _ (.tup hp (h2.reps _))⟩)));subst z;have e1:(El (1:Int).toNat a).flatten=a:=by simp
    rw[e1,RpI];exact⟨p,xs,rfl,h1,h2⟩
   ·cases e
  ·obtain⟨h,rfl⟩:=aQ e;obtain⟨p,xs,rfl,h1,h2⟩:=cC rx;rw[aK ry];exact .inr ⟨p,b,xs,rfl,rfl,h1,h.1,h.2.1,by rw[h2.length];exact h.2.2,λp hp=>q _ _ (.li hp (h2.reps _))⟩
  ·cases e
 ·cases e
@[irreducible] noncomputable def jo:T->T->Option T:=i2 λa b=>if 0<b/\b<2^64 then some (.im (.int (a / b)))else none
theorem qK:dW K (rI nE λi j=>.int (i / j)) jo:=by
 intro H x y tx ty t Q rx ry e q;unfold jo at e;obtain⟨a,b,rfl,rfl,e⟩:=gU e;obtain⟨h,rfl⟩:=aQ e;rw[aK rx,aK ry];exact⟨_,_,rfl,rfl,h,q _ H (.sc rfl)⟩
@[irreducible] noncomputable def fZ:T->T->Option T:=i2 λa b=>if 0<b then some (.im (.int (a % b)))else none
theorem tY:dW K (rI (λ_ j=>0<j) λi j=>.int (i % j)) fZ:=by
 intro H x y tx ty t Q rx ry e q;unfold fZ at e;obtain⟨a,b,rfl,rfl,e⟩:=gU e;obtain⟨h,rfl⟩:=aQ e;rw[aK rx,aK ry];exact⟨_,_,rfl,rfl,h,q _ H (.sc rfl)⟩
@[irreducible] noncomputable def qI:T->T->Option T:=i2 λa b=>if 0<=b/\b<=1000000/\a.natAbs<2^64 then some (.im (.int (a^b.toNat)))else none
theorem ua:dW K (rI yP λi j=>.int (i^j.toNat)) qI:=by
 intro H x y tx ty t Q rx ry e q;unfold qI at e;obtain⟨a,b,rfl,rfl,e⟩:=gU e;obtain⟨h,rfl⟩:=aQ e;rw[aK rx,aK ry];exact⟨_,_,rfl,rfl,h,q _ H (.sc rfl)⟩
@[irreducible] noncomputable def fS(p:Int->Int->Bool):T->T->Option T:=i2 λa b=>some (.im (.bl (p a b)))
theorem j3{p:Int->Int->Bool}:dW K (rI0 λi j=>.bl (p i j)) (fS p):=by
 intro H x y tx ty t Q rx ry e q;unfold fS at e;obtain⟨a,b,rfl,rfl,e⟩:=gU e;cases e;rw[aK rx,aK ry];exact⟨_,_,rfl,rfl,q _ H (.sc rfl)⟩
noncomputable def yK(a b:I):Bool:=match a.sc with
 | some v=>(match b.sc with
  | some w=>u4 v w
  | none=>false)
 | none=>false
noncomputable def ofV:V->I
 | .bl b=>.bl b
 | .int i=>.int i
 | .str x=>.str x
 | _=>.non
theorem yp{a:I}{v:V}(h:a.sc=some v):ofV v=a:=by cases a<;>cases h<;>rfl
noncomputable def eqI:I->I->Option Bool
 | .tup a,.tup b=>if I.doks a=true/\I.doks b=true/\I.deps a<=50 then some (decide (a=b))else none
 | a,b=>if yK a b=true then some (decide (a=b))else none
noncomputable def eqB:T->T->Option Bool
 | .im a,.im b=>eqI a b
 | .li a,.li b=>if I.doks a=true/\I.doks b=true/\I.deps a<=50 then some (decide (a=b))else none
 | _,_=>none
@[irreducible] noncomputable def eqT(x y:T):Option T:=(eqB x y).map λb=>.im (.bl b)
@[irreducible] noncomputable def neT(x y:T):Option T:=(eqB x y).map λb=>.im (.bl !b)
theorem y8{a b:I}{c:Bool}(h:eqI a b=some c):(∃x y,a=.tup x/\b=.tup y/\I.doks x=true/\I.doks y=true/\I.deps x<=50/\c=decide (x=y)) ∨ ∃v w,a.sc=some v/\b.sc=some w/\u4 v w=true/\c=decide (v=w):=by
 unfold eqI at h;split at h
 ·rename_i x y;split at h;rename_i hh;cases h;exact .inl ⟨x,y,rfl,rfl,hh.1,hh.2.1,hh.2.2,rfl⟩;cases h
 ·split at h
  ·rename_i hh;cases h;right;unfold yK at hh;split at hh
   ·rename_i v ev;split at hh
    ·rename_i w ew;refine⟨v,w,ev,ew,hh,?_⟩;have:(a=b)↔(v=w):=⟨λz=>ET.inj (ev.symm.trans ((congrArg I.sc z).trans ew)),λz=>by rw[←yp ev,←yp ew,z]⟩;exact decide_eq_decide.mpr this
    ·cases hh
   ·cases hh
  ·cases h
theorem r9{x y:V}{tx ty:T}{b:Bool}{P:V->Prop}(rx:Rpx K H tx x)(ry:Rpx K H ty y)(e:eqB tx ty=some b) :
  (u4 x y=true/\b=decide (x=y))∨(∃ds es,Rep K H (.tup ds) x/\Rep K H (.tup es) y/\aJ ds<=50/\(b=true↔ds=es))∨(∃p q xs ys ds es,x=.ref p/\y=.ref q/\SqL K H p xs/\SqL K H q ys/\IA K H ds xs/\IA K H es ys/\aJ ds<=50/\(b=true↔ds=es)):=by
 unfold eqB at e;split at e
 ·rename_i a c;rcases y8 e with⟨x1,y1,rfl,rfl,h1,h2,h3,rfl⟩|⟨v,w,h1,h2,h3,rfl⟩
  ·refine .inr (.inl ⟨I.toDs x1,I.toDs y1,?_,?_,by rw[eX];exact h3,?_⟩)
   ·have:=ji (i:=.tup x1) (by rw[I.dok];exact h1) (de rx);rwa [I.toD]at this
   ·have:=ji (i:=.tup y1) (by rw[I.dok];exact h2) (de ry);rwa [I.toD]at this
   ·rw[decide_eq_true_eq,iM h1 h2]
  ·rw[yJ h1 (de rx),yJ h2 (de ry)];exact .inl ⟨h3,rfl⟩
 ·split at e
  ·rename_i a c h;cases e;obtain⟨p,xs,rfl,h1,h2⟩:=cC rx;obtain⟨p',ys,rfl,g1,g2⟩:=cC ry;exact .inr (.inr ⟨p,p',xs,ys,_,_,rfl,rfl,aU h1,aU g1,ft h.1 h2,ft h.2.1 g2,by rw[eX];exact h.2.2,by rw[decide_eq_true_eq,iM h.1 h.2.1]⟩)
  ·cases e
 ·cases e
theorem wP:dW K (AV K) eqT:=by
 intro H x y tx ty t Q rx ry e q;unfold eqT at e;cases h:eqB tx ty with
 | none=>rw[h]at e;cases e
 | some b=>
  rw[h]at e;cases e;rcases r9 (P:=λ_=>True) rx ry h with⟨h1,rfl⟩|⟨ds,es,h1,h2,h3,h4⟩|⟨p,p',xs,ys,ds,es,h1,h2,h3,h4,h5,h6,h7,h8⟩;exact .inl ⟨h1,q _ H (.sc rfl)⟩
  ·refine .inr (.inl ⟨ds,es,h1,h2,h3,λc hc=>?_⟩);have:c=b:=by rw[EY,hc,h4]
   subst this;exact q _ H (.sc rfl)
  ·refine .inr (.inr ⟨p,p',xs,ys,ds,es,h1,h2,h3,h4,h5,h6,h7,λc hc=>?_⟩);have:c=b:=by rw[EY,hc,h8]
   subst this;exact q _ H (.sc rfl)
theorem wR:dW K (AY K) neT:=by
 intro H x y tx ty t Q rx ry e q;unfold neT at e;cases h:eqB tx ty with
 | none=>rw[h]at e;cases e
 | some b=>
  rw[h]at e;cases e;rcases r9 (P:=λ_=>True) rx ry h with⟨h1,rfl⟩|⟨ds,es,h1,h2,h3,h4⟩|⟨p,p',xs,ys,ds,es,h1,h2,h3,h4,h5,h6,h7,h8⟩;exact .inl ⟨h1,q _ H (.sc rfl)⟩
  ·refine .inr (.inl ⟨ds,es,h1,h2,h3,λc hc=>?_⟩);have:c = !b:=by cases b<;>cases c<;>simp_all
   subst this;exact q _ H (.sc rfl)
  ·refine .inr (.inr ⟨p,p',xs,ys,ds,es,h1,h2,h3,h4,h5,h6,h7,λc hc=>?_⟩);have:c = !b:=by cases b<;>cases c<;>simp_all
   subst this;exact q _ H (.sc rfl)
noncomputable def occ(i j:Str):Bool:=!(JS j i 0 j.length 1).isEmpty
noncomputable def inI(i:I) (y:T):Option Bool:=match y with
 | .im j=>(match j with
  | .str b=>(match i with
   | .str a=>some (occ a b)
   | _=>none)
  | .tup is=>if i.dok=true/\I.doks is=true/\I.deps is<=50 then some (decide (i∈is))else none
  | _=>none)
 | .li is=>if i.dok=true/\I.doks is=true/\I.deps is<=50 then some (decide (i∈is))else none
 | _=>none
noncomputable def inB(x y:T):Option Bool:=match x with
 | .im i=>inI i y
 | _=>none
@[irreducible] noncomputable def inT(x y:T):Option T:=(inB x y).map λb=>.im (.bl b)
@[irreducible] noncomputable def jx(x y:T):Option T:=(inB x y).map λb=>.im (.bl !b)
theorem sq{x y:V}{tx ty:T}{b:Bool}(rx:Rpx K H tx x)(ry:Rpx K H ty y)(e:inB tx ty=some b) :
  (∃i j,x=.str i/\y=.str j/\b=occ i j)∨(∃p xs d ds,y=.ref p/\(SqL K H p xs∨SqT K H p xs)/\Rep K H d x/\IA K H ds xs/\aJ ds<=50/\(b=true↔d∈ds)):=by
 unfold inB at e;split at e
 ·unfold inI at e;split at e
  ·split at e
   ·split at e;cases e;exact .inl ⟨_,_,cY rx,cY ry,rfl⟩;cases e
   ·obtain⟨h,rfl⟩:=aQ e;obtain⟨p,xs,rfl,h1,h2⟩:=cv ry;exact .inr ⟨p,xs,_,_,rfl,.inr h1,ji h.1 (de rx),ft h.2.1 h2,by rw[eX];exact h.2.2,by rw[decide_eq_true_eq,iE h.1 h.2.1]⟩
   ·cases e
  ·obtain⟨h,rfl⟩:=aQ e;obtain⟨p,xs,rfl,h1,h2⟩:=cC ry;exact .inr ⟨p,xs,_,_,rfl,.inl (aU h1),ji h.1 (de rx),ft h.2.1 h2,by rw[eX];exact h.2.2,by rw[decide_eq_true_eq,iE h.1 h.2.1]⟩
  ·cases e
 ·cases e
theorem wQ:dW K (AW K) inT:=by
 intro H x y tx ty t Q rx ry e q;unfold inT at e;cases h:inB tx ty with
 | none=>rw[h]at e;cases e
 | some b=>
  rw[h]at e;cases e;rcases sq rx ry h with⟨i,j,rfl,rfl,rfl⟩|⟨p,xs,d,ds,h1,h2,h3,h4,h5,h6⟩;exact .inl ⟨i,j,rfl,rfl,q _ H (.sc rfl)⟩
  ·refine .inr (.inr ⟨p,xs,d,ds,h1,h2,h3,h4,h5,λc hc=>?_⟩);have:c=b:=by rw[EY,hc,h6];simp
   subst this;exact q _ H (.sc rfl)
theorem t3:dW K (lT K) jx:=by
 intro H x y tx ty t Q rx ry e q;unfold jx at e;cases h:inB tx ty with
 | none=>rw[h]at e;cases e
 | some b=>
  rw[h]at e;cases e;rcases sq rx ry h with⟨i,j,rfl,rfl,rfl⟩|⟨p,xs,d,ds,h1,h2,h3,h4,h5,h6⟩;exact .inl ⟨i,j,rfl,rfl,q _ H (.sc rfl)⟩
  ·refine .inr (.inr ⟨p,xs,d,ds,h1,h2,h3,h4,h5,λc hc=>?_⟩);have:c = !b:=by cases b<;>cases c<;>simp_all
   subst this;exact q _ H (.sc rfl)
noncomputable def l1{α:Type} (g:T->Option α) (ts:List T):Option α:=match ts with
 | []=>none
 | t::r=>(match r with
  | []=>g t
  | _::_=>none)
theorem cc{α:Type}{g:T->Option α}{ts:List T}{u : α}(h:l1 g ts=some u):∃t,ts=[t]/\g t=some u:=by
 cases ts with
 | nil=>cases h
 | cons t r=>cases r with
  | nil=>exact⟨t,rfl,h⟩
  | cons _ _=>cases h
noncomputable def l2{α:Type} (g:T->T->Option α) (ts:List T):Option α:=match ts with
 | []=>none
 | t::r=>l1 (g t) r
theorem jW{α:Type}{g:T->T->Option α}{ts:List T}{u : α}(h:l2 g ts=some u):∃t s,ts=[t,s]/\g t s=some u:=by
 cases ts with
 | nil=>cases h
 | cons t r=>
  obtain⟨s,rfl,e⟩:=cc (show l1 (g t) r=some u from h);exact⟨t,s,rfl,e⟩
noncomputable def BX(i:I):Option T:=match i with
 | .str x=>if x.length<=sizeLine then some (.im (.int x.length))else none
 | .tup is=>some (.im (.int is.length))
 | _=>none
noncomputable def BW(t:T):Option T:=match t with
 | .im i=>BX i
 | .li is=>some (.im (.int is.length))
 | .lst ts=>some (.im (.int ts.length))
 | .tup ts=>some (.im (.int ts.length))
 | _=>none
@[irreducible] noncomputable def dh:List T->Option T:=l1 BW
theorem kr{t:T}{vs:List V}(h:IM K H [t] vs):∃v,vs=[v]/\Rpx K H t v:=by
 obtain⟨v,r,rfl,h1,h2⟩:=h;rw[IM]at h2;subst h2;exact⟨v,rfl,h1⟩
theorem Bd{t u:T}{vs:List V}(h:IM K H [t,u] vs):∃v w,vs=[v,w]/\Rpx K H t v/\Rpx K H u w:=by
 obtain⟨v,r,rfl,h1,h2⟩:=h;obtain⟨w,rfl,h3⟩:=kr h2;exact⟨v,w,rfl,h1,h3⟩
theorem lZ{ts:List T}{v:V}(h:Rpx K H (.tup ts) v):∃a xs F,v=.ref a/\SqT K H a xs/\Rps K H ts xs F:=by
 obtain⟨F,h⟩:=h;rw[Rp]at h;obtain⟨a,xs,h1,h2,h3⟩:=h;exact⟨a,xs,F,h1,h2,h3⟩
theorem tU:fH K (uw K) dh:=by
 intro H vs ts t Q r e q;unfold dh at e;have e0:=cc e;clear e;obtain⟨x,rfl,e⟩:=e0;obtain⟨v,rfl,r1⟩:=kr r;unfold BW at e;split at e
 ·unfold BX at e;split at e
  ·obtain⟨h,rfl⟩:=aQ e;rw[cY r1];exact .inr ⟨_,rfl,h,q _ H (.sc rfl)⟩
  ·cases e;obtain⟨p,xs,rfl,h1,h2⟩:=cv r1;exact .inl ⟨p,xs,rfl,.inr h1,q _ H (.sc (by rw[h2.length];rfl))⟩
  ·cases e
 ·cases e;obtain⟨p,xs,rfl,h1,h2⟩:=cC r1;exact .inl ⟨p,xs,rfl,.inl (aU h1),q _ H (.sc (by rw[h2.length];rfl))⟩
 ·cases e;obtain⟨p,xs,F,rfl,h1,h2⟩:=gi r1;exact .inl ⟨p,xs,rfl,.inl (aU h1),q _ H (.sc (by rw[h2.length];rfl))⟩
 ·cases e;obtain⟨p,xs,F,rfl,h1,h2⟩:=lZ r1;exact .inl ⟨p,xs,rfl,.inr h1,q _ H (.sc (by rw[h2.length];rfl))⟩
 ·cases e
@[irreducible] noncomputable def oe:List T->Option T:=l2 (i2 λa b=>some (.im (.int (if b<a then b else a))))
theorem tX:fH K (λxs H Q=>∃i j,xs=[.int i,.int j]/\Q (.int (if j<i then j else i)) H) oe:=by
 intro H vs ts t Q r e q;unfold oe at e;have e0:=jW e;clear e;obtain⟨x,y,rfl,e⟩:=e0;obtain⟨a,b,rfl,rfl,e⟩:=gU e;cases e;obtain⟨v,w,rfl,r1,r2⟩:=Bd r;rw[aK r1,aK r2];exact⟨_,_,rfl,q _ H (.sc rfl)⟩
@[irreducible] noncomputable def n9:List T->Option T:=l2 (i2 λa b=>some (.im (.int (if b>a then b else a))))
theorem tW:fH K (λxs H Q=>∃i j,xs=[.int i,.int j]/\Q (.int (if j>i then j else i)) H) n9:=by
 intro H vs ts t Q r e q;unfold n9 at e;have e0:=jW e;clear e;obtain⟨x,y,rfl,e⟩:=e0;obtain⟨a,b,rfl,rfl,e⟩:=gU e;cases e;obtain⟨v,w,rfl,r1,r2⟩:=Bd r;rw[aK r1,aK r2];exact⟨_,_,rfl,q _ H (.sc rfl)⟩
noncomputable def BQ(t:T):Option T:=match t with
 | .im i=>(match i with
  | .int a=>some (.im (.int a))
  | .bl b=>some (.im (.int (if b then 1 else 0)))
  | _=>none)
 | _=>none
@[irreducible] noncomputable def qk:List T->Option T:=l1 BQ
theorem tR:fH K (λxs H Q=>(∃i,xs=[.int i]/\Q (.int i) H) ∨ ∃k,xs=[.bl k]/\Q (.int (if k then 1 else 0)) H) qk:=by
 intro H vs ts t Q r e q;unfold qk at e;have e0:=cc e;clear e;obtain⟨x,rfl,e⟩:=e0;obtain⟨v,rfl,r1⟩:=kr r;unfold BQ at e;split at e
 ·split at e
  ·cases e;rw[aK r1];exact .inl ⟨_,rfl,q _ H (.sc rfl)⟩
  ·cases e;rw[ni r1];exact .inr ⟨_,rfl,q _ H (.sc rfl)⟩
  ·cases e
 ·cases e
noncomputable def xO(g:List I->T) (t:T):Option T:=match t with
 | .im i=>(match i with
  | .tup is=>some (g is)
  | _=>none)
 | .li is=>some (g is)
 | _=>none
@[irreducible] noncomputable def gK:List T->Option T:=l1 (xO λis=>.im (.tup is))
theorem ud:fH K (uC K) gK:=by
 intro H vs ts t Q r e q;unfold gK at e;have e0:=cc e;clear e;obtain⟨x,rfl,e⟩:=e0;obtain⟨v,rfl,r1⟩:=kr r;unfold xO at e;split at e
 ·split at e
  ·cases e;obtain⟨p,xs,rfl,h1,h2⟩:=cv r1;exact⟨p,xs,rfl,.inr ⟨h1,q _ H (.im (de r1))⟩⟩
  ·cases e
 ·cases e;obtain⟨p,xs,rfl,h1,h2⟩:=cC r1;exact⟨p,xs,rfl,.inl ⟨aU h1,λl hl=>q _ _ (.tup hl h2)⟩⟩
 ·cases e
@[irreducible] noncomputable def nW:List T->Option T:=l1 (xO λis=>.li is)
theorem tV:fH K (ux K) nW:=by
 intro H vs ts t Q r e q;unfold nW at e;have e0:=cc e;clear e;obtain⟨x,rfl,e⟩:=e0;obtain⟨v,rfl,r1⟩:=kr r;unfold xO at e;split at e
 ·split at e
  ·cases e;obtain⟨p,xs,rfl,h1,h2⟩:=cv r1;exact⟨p,xs,rfl,.inr h1,λl hl=>q _ _ (.li hl h2)⟩
  ·cases e
 ·cases e;obtain⟨p,xs,rfl,h1,h2⟩:=cC r1;exact⟨p,xs,rfl,.inl (aU h1),λl hl=>q _ _ (.li hl h2)⟩
 ·cases e
noncomputable def bls:List I->Option (List Bool)
 | []=>some []
 | .bl b::is=>(bls is).map (b :: ·)
 | _=>none
theorem yW{is:List I}{xs:List V}:∀{bs:List Bool},bls is=some bs->Ir K H is xs->xs=bs.map V.bl:=by
 induction is generalizing xs with
 | nil=>intro bs h r;cases h;exact r.nil_inv
 | cons i is ih=>
  intro bs h r;cases i with
  | bl b=>
   simp only[bls]at h;cases e:bls is with
   | none=>rw[e]at h;cases h
   | some cs=>
    rw[e]at h;cases h;obtain⟨x,r',rfl,h1,h2⟩:=r.cons_inv;rw[RpI]at h1;rw[h1,ih e h2];rfl
  | _=>simp[bls]at h
noncomputable def lp:List T->Option T
 | [.li is]=>(bls is).map λbs=>.im (.bl (bs.all id))
 | _=>none
theorem tQ:fH K (CU K) lp:=by
 intro H vs ts t Q r e q;unfold lp at e;split at e
 ·rename_i is;cases h:bls is with
  | none=>rw[h]at e;cases e
  | some bs=>
   rw[h]at e;cases e;obtain⟨v,rfl,r1⟩:=kr r;obtain⟨p,xs,rfl,h1,h2⟩:=cC r1;have:=yW h h2;subst this;exact⟨p,bs,rfl,aU h1,q _ H (.sc rfl)⟩
 ·cases e
noncomputable def nv:List I->Option (List Str)
 | []=>some []
 | .str b::is=>(nv is).map (b :: ·)
 | _=>none
theorem xR{is:List I}{xs:List V}:∀{bs:List Str},nv is=some bs->Ir K H is xs->xs=bs.map V.str:=by
 induction is generalizing xs with
 | nil=>intro bs h r;cases h;exact r.nil_inv
 | cons i is ih=>
  intro bs h r;cases i with
  | str b=>
   simp only[nv]at h;cases e:nv is with
   | none=>rw[e]at h;cases h
   | some cs=>
    rw[e]at h;cases h;obtain⟨x,r',rfl,h1,h2⟩:=r.cons_inv;rw[RpI]at h1;rw[h1,ih e h2];rfl
  | _=>simp[nv]at h
noncomputable def jU:T->List T->Option T
 | .im (.str z),[.li is]=>match nv is with
  | some zs=>if(zs.map (·.length)).sum+zs.length*z.length<=16777216 then some (.im (.str (Kt z zs)))else none
  | none=>none
 | _,_=>none
theorem qL:rM K "str" (yB K) jU:=by
 intro H x vs tx ts t Q rx r e q;unfold jU at e;split at e
 ·rename_i z is;split at e
  ·rename_i zs hz;split at e
   ·cases e;obtain⟨v,rfl,r1⟩:=kr r;obtain⟨p,xs,rfl,h1,h2⟩:=cC r1;have:=xR hz h2;subst this;rw[cY rx];exact⟨z,p,zs,rfl,rfl,aU h1,by assumption,q _ H (.sc rfl)⟩
   ·cases e
  ·cases e
 ·cases e
end
section
variable {Γ:Gm}{H H':Hp}{X:List En}{e:En}{O:Rho}{Z:St}{E:List En}{v:V}{t:T}{K:yF}
theorem Sim.partN(S:Sim Γ H O Z E)(sm:IG H H'){s:T}(he:e∈E){ro:Option Nat}{p:Option (List Ac)}(ho:e.r.k=.vw ro p){P:V->Prop}(hp:∀F,Rp Γ.K H e.r.t e.v F->∃w G,P w/\Rp Γ.K H' s w G/\∀a∈G,a∈F∨H a=none):∃w,P w/\Sim Γ H' O Z (⟨none,w,⟨.vw ro none,s⟩⟩::E):=by
 obtain⟨L,g,hL⟩:=S.sl;have he':e∈L.map (·.e):=by rw[hL];exact yaL _ he
 obtain⟨h,hh,rfl⟩:=Ev.mp he';obtain⟨w,G,h1,h2,h3⟩:=hp h.F (g.rp h hh);have own:∀a,H a=none->a∉L.flatMap Hd.own:=λa ha z=>by
  obtain⟨o,e,_⟩:=(g.ad a z).1;rw[ha]at e;cases e
 have g':GW Γ H' L:=by
  have:=g.step (hs:=[]) (L:=L) (H':=H') (by simp) (by simp) (sm.offM _) (by simp) (key:=none) (v:=.non) (r:=⟨.ow,.im .non⟩) (F:=[]) FI (by simp) (iJ (by rw[RpI])) (.inl ⟨rfl,by simp⟩) (λj hj=>by cases hj);exact this.drop rfl
 refine⟨w,h1,⟨⟨_,g'.push (v:=w) (r:=⟨.vw ro none,s⟩) (F:=G) h2 ?_ (.inl rfl),by rw[Ek,hL];rfl⟩,S.al,S.len,λx hx j hj=>?_⟩⟩
 ·have k:=g'.kd h hh;unfold IC at k⊢;rw[ho]at k;cases ro with
  | none=>exact λa ha=>(h3 a ha).elim (k a) (own a)
  | some j=>
   obtain⟨x,x1,x2,x3,x4,x5⟩:=k;exact⟨x,x1,x2,x3,λa ha=>(h3 a ha).elim (x4 a) (λz=>.inr (own a z)),λq hq=>by cases hq⟩
 ·rcases ycM hx with rfl|hx;cases hj;exact S.hi x hx j hj
theorem uZ:∀{ts:List T} {xs:List V} {F:List Addr},Rps K H ts xs F->∃hs:List Hd,hs.map (·.e)=au xs ts/\hs.flatMap (·.F)=F/\∀h∈hs,Rp K H h.e.r.t h.e.v h.F/\h.e.r.k=.ow/\h.e.key=none/\∀a∈h.F,a∈F
 | [],xs,F,r=>by
  obtain⟨rfl,rfl⟩:=r.nil_inv;exact⟨[],rfl,rfl,by simp⟩
 | t::ts,xs,F,r=>by
  obtain⟨y,r',F1,F2,rfl,r1,r2,rfl⟩:=r.cons_inv;obtain⟨hs,h1,h2,h3⟩:=uZ r2;refine⟨⟨⟨none,y,⟨.ow,t⟩⟩,F1⟩::hs,by rw[Ek,h1];rfl,by rw[Ew,h2],λh hh=>?_⟩;rcases ycM hh with rfl|hh;exact⟨r1,rfl,rfl,λa ha=>yaL _ ha⟩
  ·obtain⟨a,b,c,d⟩:=h3 h hh;exact⟨a,b,c,λx hx=>yaR _ (d x hx)⟩
theorem Sim.split{ts:List T}(S:Sim Γ H O Z (⟨none,v,⟨.ow,.tup ts⟩⟩::E)):∃a xs,v=.ref a/\SqT Γ.K H a xs/\xs.length=ts.length/\Sim Γ H O Z (au xs ts++E):=by
 obtain⟨L,g,h⟩:=S.sl;rw[EC]at h;obtain⟨x,L',rfl,h1,h2⟩:=aH h;have rp:=g.rp x ymS;rw[h1,Rp]at rp;obtain⟨a,xs,ev,hq,rps⟩:=rp;have k0:=g.kd x ymS;unfold IC at k0;rw[h1]at k0;have eo:x.own=x.F:=by unfold Hd.own;rw[h1];rfl
 obtain⟨hs,e1,e2,e3⟩:=uZ rps;have ho:∀h∈hs,h.e.r.k.isOw=true:=λh hh=>by rw[(e3 h hh).2.1];rfl
 have eown:(hs++L').flatMap Hd.own=(x::L').flatMap Hd.own:=by rw[Ez,Ew,f9 ho,e2,eo]
 refine⟨a,xs,ev,hq,rps.length,⟨⟨hs++L',⟨?_,?_,λy hy=>?_,λy hy=>?_,?_,g.fr,g.iol⟩,?_⟩,S.al,S.len,λy hy j hj=>?_⟩⟩;rw[eown];exact g.nd;rw[eown];exact g.ad
 ·rcases yaM hy with hy|hy;exact(e3 y hy).1;exact g.rp y (ymC _ hy)
 ·rcases yaM hy with hy|hy
  ·unfold IC;rw[(e3 y hy).2.1];exact λb hb=>k0 b ((e3 y hy).2.2.2 b hb)
  ·have k:=g.kd y (ymC _ hy);unfold IC at k⊢;split at k;exact k;exact k;rw[eown];exact k
   ·obtain⟨z,z1,z2,z3,z4,z5⟩:=k;rcases ycM z1 with rfl|z1;rw[h1]at z2;cases z2;exact⟨z,yaR _ z1,z2,z3,by rw[eown];exact z4,z5⟩
 ·have ks:=g.ks;rw[EI,h1]at ks;rw[EJ,List.filterMap_eq_nil_iff.mpr λy hy=>(e3 y hy).2.2.1];exact ks
 ·rw[Es,e1,h2,Eu]
 ·rcases yaM hy with hy|hy
  ·have:∀{xs:List V} {ts:List T},y∈au xs ts->y.key=none:=by
    intro xs
    induction xs with
    | nil=>intro ts h;cases ts<;>cases h
    | cons x xs ih=>
     intro ts h;cases ts with
     | nil=>cases h
     | cons t ts=>
      rcases ycM h with rfl|h;rfl;exact ih h
   rw[this hy]at hj;cases hj
  ·exact S.hi y (ymC _ hy) j hj
noncomputable def partV(ro:Option Nat):T->R
 | .im i=>⟨.ow,.im i⟩
 | t=>⟨.vw ro none,t⟩
noncomputable def parts:R->Option (List R)
 | ⟨_,.im (.tup is)⟩=>some (is.map λi=>⟨.ow,.im i⟩)
 | ⟨.ow,.tup ts⟩=>some (ts.map λt=>⟨.ow,t⟩)
 | ⟨.vw ro _,.tup ts⟩=>some (ts.map (partV ro))
 | _=>none
theorem lc:∀{xs:List V} {ts:List T},au xs ts=ens xs (ts.map λt=>⟨.ow,t⟩)
 | [],ts=>by cases ts<;>rfl
 | x::xs,[]=>rfl
 | x::xs,t::ts=>by rw[au,Ek,ens,lc]
theorem Sim.imms:∀{is:List I} {xs:List V} {E:List En},Sim Γ H O Z E->Ir Γ.K H is xs->Sim Γ H O Z (ens xs (is.map λi=>⟨.ow,.im i⟩)++E)
 | [],xs,E,S,r=>by obtain rfl:=r.nil_inv;exact S
 | i::is,xs,E,S,r=>by
  obtain⟨x,r',rfl,h1,h2⟩:=r.cons_inv;rw[Ek,ens,EC];exact(Sim.imms S h2).imm h1
theorem Sim.parts{r:R}{rs:List R}(S:Sim Γ H O Z (⟨none,v,r⟩::E))(h:L2.parts r=some rs):∃a xs,v=.ref a/\SqT Γ.K H a xs/\xs.length=rs.length/\Sim Γ H O Z (ens xs rs++E):=by
 unfold L2.parts at h;split at h
 ·rename_i k is;cases h;obtain⟨F,r⟩:=S.rd ymS;obtain⟨a,xs,e,hq,hr⟩:=cv ⟨F,r⟩;exact⟨a,xs,e,hq,by rw[hr.length,Ej],(S.drop rfl).imms hr⟩
 ·rename_i ts;cases h;obtain⟨a,xs,e,hq,hl,S2⟩:=S.split;rw[lc]at S2;exact⟨a,xs,e,hq,by rw[hl,Ej],S2⟩
 ·rename_i ro p ts;cases h;obtain⟨F,r⟩:=S.rd ymS;obtain⟨a,xs,G,e,hq,hr⟩:=lZ ⟨F,r⟩;obtain⟨L,g,hL⟩:=S.sl;rw[EC]at hL;obtain⟨x,L',rfl,h1,h2⟩:=aH hL;have rp:=g.rp x ymS;rw[h1,Rp]at rp;obtain⟨a',xs',ev,hq',rps⟩:=rp;have S3:Sim Γ H O Z (ens xs' (ts.map (partV ro))++E):=by
   have go:∀(ts:List T) (xs:List V) (G:List Addr),Rps Γ.K H ts xs G->(∀a∈G,a∈x.F)->∃L1,GW Γ H (L1++x::L')/\L1.map (·.e)=ens xs (ts.map (partV ro))/\∀h∈L1,h.e.key=none:=by
    intro ts
    induction ts with
    | nil=>intro xs G r _;obtain⟨rfl,rfl⟩:=r.nil_inv;exact⟨[],g,rfl,by simp⟩
    | cons t ts ih=>
     intro xs G r hG;obtain⟨y,r',F1,F2,rfl,r1,r2,rfl⟩:=r.cons_inv;obtain⟨L1,g1,e1,e2⟩:=ih r' F2 r2 λa ha=>hG a (yaR _ ha);have kx:=g1.kd x (yaR _ ymS);unfold IC at kx;rw[h1]at kx;have key:∃h:Hd,GW Γ H (h::(L1++x::L'))/\h.e=⟨none,y,partV ro t⟩:=by
      have vw:GW Γ H (⟨⟨none,y,⟨.vw ro none,t⟩⟩,F1⟩::(L1++x::L')):=by
       refine g1.push (v:=y) (r:=⟨.vw ro none,t⟩) (F:=F1) r1 ?_ (.inl rfl);unfold IC;cases ro with
       | none=>exact λa ha=>kx a (hG a (yaL _ ha))
       | some j=>
        obtain⟨z,z1,z2,z3,z4,z5⟩:=kx;exact⟨z,z1,z2,z3,λa ha=>z4 a (hG a (yaL _ ha)),λq hq=>by cases hq⟩
      cases t with
      | im i=>exact⟨_,g1.push (v:=y) (r:=⟨.ow,.im i⟩) (F:=[]) (iJ (aX r1).1) (λa ha=>by cases ha) (.inr rfl),rfl⟩
      | _=>exact⟨_,vw,rfl⟩
     obtain⟨h,gh,eh⟩:=key;refine⟨h::L1,gh,by rw[Ek,eh,e1];rfl,λz hz=>?_⟩;rcases ycM hz with rfl|hz;rw[eh];exact e2 z hz
   obtain⟨L1,g1,e1,e2⟩:=go ts xs' x.F rps λa ha=>ha;have g2:GW Γ H (L1++L'):=by
    have p:(L1++x::L').Perm (x::(L1++L')):=EN;exact(g1.perm p).drop (by rw[h1])
   refine⟨⟨_,g2,by rw[Es,e1,h2,Eu]⟩,S.al,S.len,λy hy j hj=>?_⟩;rcases yaM hy with hy|hy
   ·rw[←e1]at hy;obtain⟨z,hz,rfl⟩:=Ev.mp hy;rw[e2 z hz]at hj;cases hj
   ·exact S.hi y (ymC _ hy) j hj
  exact⟨a',xs',ev,hq',by rw[rps.length,Ej],S3⟩
 ·cases h
@[irreducible] noncomputable def mGNil:MGs:=⟨λrs O=>match rs with
 | []=>some O
 | _=>none,[]⟩
@[irreducible] noncomputable def aS(g:MG)(gs:MGs):MGs:=⟨λrs O=>match rs with
 | r::rs=>if rs.all (aE g.mu)=true then(match g.run r O with
  | some O1=>gs.run rs O1
  | none=>none)else none
 | []=>none,g.mu++gs.mu⟩
@[irreducible] noncomputable def cP(gs:MGs):MG:=⟨λr O=>match parts r with
 | some rs=>gs.run rs O
 | none=>none,gs.mu⟩
theorem uK:l8 K zg mGNil:=by with_unfolding_all
 intro Γ H O Z E Q vs rs O' hK hr hl S q;cases rs with
 | nil=>
  cases hr;have:vs=[]:=Fo.mp hl;subst this;exact⟨rfl,q Z H (by rw[show mGNil.mu=[]from rfl,bD];exact S)⟩
 | cons _ _=>cases hr
theorem qZ{g:TG}{gs:TGs}{m:MG}{ms:MGs}(h1:gO K g m)(h2:l8 K gs ms):l8 K (si g gs) (aS m ms):=by with_unfolding_all
 intro Γ H O Z E Q vs rs O' hK hr hl S q;cases rs with
 | nil=>cases hr
 | cons r rs=>
  cases vs with
  | nil=>cases hl
  | cons v vs=>
   simp only[aS]at hr q;split at hr
   ·rename_i al;split at hr
    ·rename_i O1 e1;refine⟨v,vs,rfl,?_⟩;rw[ens,EC]at S;refine h1 Γ H O Z _ _ v r O1 hK e1 S λZ1 H1 S1=>?_;rw[ay,iU al]at S1;exact h2 Γ H1 O1 Z1 _ _ vs rs O' hK hr (by simpa using hl) S1 λZ2 H2 S2=>q Z2 H2 (by rw[←ae];exact S2)
    ·cases hr
   ·cases hr
theorem uL{gs:TGs}{ms:MGs}{n:Nat}(h:l8 K gs ms)(hn:∀rs O O',ms.run rs O=some O'->rs.length=n):gO K (vO K n gs) (cP ms):=by
 intro Γ H O Z E Q v r O' hK hr S q;simp only[cP]at hr q;split at hr
 ·rename_i rs e1;obtain⟨a,xs,e,hq,hl,S2⟩:=S.parts e1;rw[hK]at hq;exact⟨a,xs,e,hq,by rw[hl];exact hn _ _ _ hr,h Γ H O Z _ _ xs rs O' hK hr hl S2 q⟩
 ·cases hr
noncomputable def consL(mv:List Nat):List R->Rho->Option (List T×Rho)
 | [],O=>some ([],O)
 | ⟨.ow,t⟩::rs,O=>match consL mv rs O with
  | some (ts,O')=>some (t::ts,O')
  | none=>none
 | ⟨.vw (some i) (some []),t⟩::rs,O=>if(mv.contains i&&rs.all (aE [i]))=true then(match O[i]? with
  | some (some ⟨.ow,_⟩)=>(match consL mv rs ((ao [i] O).set i none)with
   | some (ts,O')=>some (t::ts,O')
   | none=>none)
  | _=>none)else none
 | _,_=>none
theorem Sim.consL{mv:List Nat}:∀{rs:List R} {vs:List V} {ts:List T} {O O':Rho} {A E:List En},Sim Γ H O Z (A++(ens vs rs++E))->vs.length=rs.length->L2.consL mv rs O=some (ts,O')->(∀e∈A,e.r.k=.ow/\e.key=none)->vs.length=ts.length/\Sim Γ H O' Z (A++(au vs ts++ah mv E))
 | [],[],ts,O,O',A,E,S,_,h,hA=>by
  cases h;refine⟨rfl,?_⟩;have:=S.weak mv;rw[ay]at this;have ea:ah mv A=A:=Fw.mpr λe he=>by unfold aB;rw[(hA e he).1];rfl
  rw[ea]at this;exact this
 | r::rs,v::vs,ts,O,O',A,E,S,hl,h,hA=>by
  rw[ens,EC]at S;obtain⟨k,t⟩:=r;cases k with
  | ow=>
   simp only[L2.consL]at h;split at h
   ·rename_i ts1 O1 e1;cases h;obtain⟨h1,S1⟩:=Sim.consL (rs:=rs) (vs:=vs) (A:=A++[⟨none,v,⟨.ow,t⟩⟩]) (E:=E) (by simpa using S) (by simpa using hl) e1 (λe he=>by
     rcases yaM he with he|he;exact hA e he;rw[ysM he];exact⟨rfl,rfl⟩)
    exact⟨by simp[h1],by rw[au];simpa using S1⟩
   ·cases h
  | io n=>cases h
  | vw a b=>
   cases a with
   | none=>cases h
   | some i=>
    cases b with
    | none=>cases h
    | some p=>
     cases p with
     | cons _ _=>cases h
     | nil=>
      simp only[L2.consL]at h;split at h
      ·rename_i al;rw[Ei]at al;split at h
       ·rename_i t1 h1;split at h
        ·rename_i ts1 O1 e1;cases h;have S0:Sim Γ H O Z (⟨none,v,⟨.vw (some i) (some []),t⟩⟩::(A++(ens vs rs++E))):=S.perm EN;have S1:=S0.move h1;have ea:ah [i] A=A:=Fw.mpr λe he=>by unfold aB;rw[(hA e he).1];rfl
         rw[ay,ea,ay,iU al.2]at S1;obtain⟨h2,S2⟩:=Sim.consL (rs:=rs) (vs:=vs) (A:=A++[⟨none,v,⟨.ow,t⟩⟩]) (E:=ah [i] E) (S1.perm (by
          rw[Eu];exact(EN).symm)) (by simpa using hl) e1 (λe he=>by
          rcases yaM he with he|he;exact hA e he;rw[ysM he];exact⟨rfl,rfl⟩)
         refine⟨by simp[h2],?_⟩;rw[au];have ek:ah mv (ah [i] E)=ah mv E:=by
          rw[ae];unfold ah;congr 1;funext e;rw[kM];by_cases hk:aB mv e=true
          ·rw[hk,Hy];unfold aB at hk⊢;split
           ·rename_i j hj;rw[hj]at hk;have:j≠i:=λz=>by subst z;simp at hk;exact hk (by simpa using al.1)
            simp[this]
           ·rfl
          ·rw[Gr]at hk;rw[hk,Hk]
         rw[ek]at S2;simpa using S2
        ·cases h
       ·cases h
      ·cases h
 | [],_::_,_,_,_,_,_,_,h,_,_=>by cases h
 | _::_,[],_,_,_,_,_,_,h,_,_=>by cases h
noncomputable def ims:List T->Option (List I)
 | []=>some []
 | .im i::ts=>(ims ts).map (i :: ·)
 | _=>none
theorem lG:∀{ts:List T} {is:List I},ims ts=some is->ts=is.map T.im
 | [],is,h=>by cases h;rfl
 | .im i::ts,is,h=>by
  simp only[ims]at h;cases e:ims ts with
  | none=>rw[e]at h;cases h
  | some js=>rw[e]at h;cases h;rw[Ek,←lG e]
 | .tup _::_,_,h=>by cases h
 | .li _::_,_,h=>by cases h
 | .lst _::_,_,h=>by cases h
 | .di _::_,_,h=>by cases h
 | .dc _::_,_,h=>by cases h
 | .ins _ _::_,_,h=>by cases h
noncomputable def mL(ts:List T):T:=match ims ts with
 | some is=>.im (.tup is)
 | none=>.tup ts
noncomputable def bH(ts:List T):T:=match ims ts with
 | some is=>.li is
 | none=>.lst ts
@[irreducible] noncomputable def aC(mv:List Nat)(a:MA):ME:=⟨λO=>match a.run O with
 | some (rs,O1)=>if rs.length<=1000 then(match consL mv rs O1 with
  | some (ts,O2)=>some (⟨.ow,mL ts⟩,O2)
  | none=>none)else none
 | none=>none,a.mu++mv⟩
@[irreducible] noncomputable def aO(mv:List Nat)(a:MA):ME:=⟨λO=>match a.run O with
 | some (rs,O1)=>if rs.length<=1000 then(match consL mv rs O1 with
  | some (ts,O2)=>some (⟨.ow,bH ts⟩,O2)
  | none=>none)else none
 | none=>none,a.mu++mv⟩
theorem u8{n:Nat}(h:n<=1000):n<=sizeLine:=by rw[Ji];omega
theorem uS{ta:TA}{a:MA}{mv:List Nat}(ha:fR K ta a):aP K (Dp ta) (aC mv a):=by
 intro Γ H O Z E Q r O' hK hr S q;simp only[aC]at hr q;split at hr
 ·rename_i rs O1 e1;split at hr
  ·rename_i hz;split at hr
   ·rename_i ts O2 e2;cases hr;refine ha Γ H O Z E _ rs O1 hK e1 S λvs H1 hl S1=>⟨by rw[hl];exact u8 hz,λp hp=>?_⟩;obtain⟨hl2,S2⟩:=Sim.consL (A:=[]) (by simpa using S1) hl e2 (by simp);rw[Fx,ae]at S2;obtain⟨F,h1,h2,h3,h4⟩:=S2.use hl2;have sm:=IG.laid (o:=.tup vs) hp;refine q _ _ (h4 _ (.ref p) (mL ts) F (sm.offM _) (λa ha=>let ⟨o,e,_⟩:=h3 a ha;⟨o,sm a o e⟩) h2 (λa ha=>⟨.inl ha,let ⟨o,e,m⟩:=h3 a ha;⟨o,sm a o e,m⟩⟩) ?_);unfold mL;split
    ·rename_i is hi;rw[lG hi]at h1;obtain⟨h5,h6⟩:=Rps.ims.mp h1;subst h6;refine iJ ?_;rw[RpI];exact⟨p,vs,rfl,SqT.of aA,h5.same sm⟩
    ·rw[Rp];exact⟨p,vs,rfl,SqT.of aA,h1.same sm⟩
   ·cases hr
  ·cases hr
 ·cases hr
theorem uM{ta:TA}{a:MA}{mv:List Nat}(ha:fR K ta a):aP K (Dh ta) (aO mv a):=by
 intro Γ H O Z E Q r O' hK hr S q;simp only[aO]at hr q;split at hr
 ·rename_i rs O1 e1;split at hr
  ·rename_i hz;split at hr
   ·rename_i ts O2 e2;cases hr;refine ha Γ H O Z E _ rs O1 hK e1 S λvs H1 hl S1=>⟨by rw[hl];exact u8 hz,λp hp=>?_⟩;obtain⟨hl2,S2⟩:=Sim.consL (A:=[]) (by simpa using S1) hl e2 (by simp);rw[Fx,ae]at S2;obtain⟨F,h1,h2,h3,h4⟩:=S2.use hl2;have sm:=IG.laid (o:=.lst vs) hp;have np:p∉F:=λz=>by obtain⟨o,e,_⟩:=h3 p z;rw[hp]at e;cases e
    refine q _ _ (h4 _ (.ref p) (bH ts) (p::F) (sm.offM _) (λa ha=>let ⟨o,e,_⟩:=h3 a ha;⟨o,sm a o e⟩) (EF.mpr ⟨np,h2⟩) (λa ha=>?_) ?_)
    ·rcases ycM ha with rfl|ha;exact⟨.inr hp,_,aA,rfl⟩;exact⟨.inl ha,let ⟨o,e,m⟩:=h3 a ha;⟨o,sm a o e,m⟩⟩
    ·unfold bH;split
     ·rename_i is hi;rw[lG hi]at h1;obtain⟨h5,h6⟩:=Rps.ims.mp h1;subst h6;rw[Rp];exact⟨p,vs,rfl,.inl aA,h5.same sm,rfl⟩
     ·rw[Rp];exact⟨p,vs,F,rfl,.inl aA,h1.same sm,rfl⟩
   ·cases hr
  ·cases hr
 ·cases hr
end
section
variable {Γ:Gm}{H H':Hp}{O:Rho}{Z:St}{E:List En}{v x y:V}{t:T}{K:yF}{Q:VK}
noncomputable def ixK:Kd->Option Ac->Option Kd
 | .ow,_=>some .ow
 | .io _,_=>none
 | .vw (some r) (some p),some a=>some (.vw (some r) (some (p++[a])))
 | .vw ro _,_=>some (.vw ro none)
noncomputable def ixP(k:Kd) (a:Option Ac):T->Option R
 | .im i=>some ⟨.ow,.im i⟩
 | t=>match ixK k a with
  | some k'=>some ⟨k',t⟩
  | none=>none
noncomputable def ixI(i:I) (n:Int):Option R:=match i with
 | .tup is=>(atI is n).map λi=>⟨.ow,.im i⟩
 | .str z=>if z.length<=sizeLine then(atI (sL z) n).map λc=>⟨.ow,.im (.str ⟨#[c]⟩)⟩else none
 | _=>none
noncomputable def ixX(k:Kd) (t:T) (n:Int):Option R:=match t with
 | .im i=>ixI i n
 | .li is=>(atI is n).map λi=>⟨.ow,.im i⟩
 | .lst ts=>(match ixN ts.length n with
  | some j=>(ts[j]?).bind (ixP k (some (.ix j)))
  | none=>none)
 | .tup ts=>(match ixN ts.length n with
  | some j=>(ts[j]?).bind (ixP k none)
  | none=>none)
 | _=>none
@[irreducible] noncomputable def ixR(r:R)(t:T):Option R:=match isI t with
 | some n=>ixX r.k r.t n
 | none=>none
@[irreducible] noncomputable def mIx(a b:ME):ME:=⟨λO=>match a.run O with
 | some (ra,O1)=>match b.run O1 with
  | some (rb,O2)=>if aE b.mu ra=true then(match ixR ra rb.t with
   | some r=>some (r,O2)
   | none=>none)else none
  | none=>none
 | none=>none,a.mu++b.mu⟩
theorem l9{is:List I}{xs:List V}{n:Int}{i:I}(r:Ir K H is xs)(e:atI is n=some i):∃w,atI xs n=some w/\RpI K H i w:=by
 unfold atI at e⊢;rw[r.length];cases h:ixN is.length n with
 | none=>rw[h]at e;cases e
 | some j=>rw[h]at e;exact r.get e
theorem Sim.takeO{s:T}(S:Sim Γ H O Z (⟨none,x,⟨.ow,t⟩⟩::E)){P:V->Prop}(hp:∀F,Rp Γ.K H t x F->∃w A G B,P w/\Rp Γ.K H s w G/\F=A++G++B):∃w,P w/\Sim Γ H O Z (⟨none,w,⟨.ow,s⟩⟩::E):=by
 obtain⟨F,h1,h2,h3,h4⟩:=Sim.use (vs:=[x]) (ts:=[t]) S rfl;obtain⟨y,r',F1,F2,e,r1,r2,rfl⟩:=h1.cons_inv;cases e;have:=r2.nil_inv.2;subst this;rw[EB]at h2 h3 h4;obtain⟨w,A,G,B,p,rg,rfl⟩:=hp F1 r1;have inF:∀a∈G,a∈A++G++B:=λa ha=>yaL _ (yaR _ ha);exact⟨w,p,h4 H w s G (Iy.refl _ _) (λa ha=>let ⟨o,e,_⟩:=h3 a ha;⟨o,e⟩) (Em.mp (Em.mp h2).1).2.1 (λa ha=>⟨.inl (inF a ha),h3 a (inF a ha)⟩) rg⟩
theorem nJ{α:Type}{xs:List α}{n:Int}{j m:Nat}{w : α}(h:ixN m n=some j)(hl:xs.length=m)(hw:xs[j]?=some w):atI xs n=some w:=by
 unfold atI;rw[hl,h];exact hw
theorem Sim.ixL{k:Kd}{ts:List T}{s:T}{j:Nat}{n:Int}{r:R}(S:Sim Γ H O Z (⟨none,x,⟨k,.lst ts⟩⟩::E))(hn:ixN ts.length n=some j)(hj:ts[j]?=some s)(hr:L2.ixP k (some (.ix j)) s=some r) :
  ∃w,(∀Q:VK,Q w H->rIx Γ.K x (.int n) H Q)/\Sim Γ H O Z (⟨none,w,r⟩::E):=by
 have gen:∀F,Rp Γ.K H (.lst ts) x F->∃w A G B,(∀Q:VK,Q w H->rIx Γ.K x (.int n) H Q)/\Rp Γ.K H s w G/\F=A++G++B:=λF rp=>by
  rw[Rp]at rp;obtain⟨a,xs,F',rfl,h2,h3,rfl⟩:=rp;obtain⟨w,A,G,B,h4,h5,h6,_,_⟩:=h3.at hj;exact⟨w,a::A,G,B,λQ q=>.inl ⟨a,xs,n,w,rfl,rfl,aU h2,nJ hn h3.length h4,q⟩,h5,by rw[h6];simp⟩
 have hview:∀ro p,k=.vw ro p->∃w,(∀Q:VK,Q w H->rIx Γ.K x (.int n) H Q)/\Sim Γ H O Z (⟨none,w,⟨.vw ro none,s⟩⟩::E):=λro p hk=>by
  obtain⟨w,h1,S2⟩:=S.part (e:=⟨none,x,⟨k,.lst ts⟩⟩) ymS hk (P:=λw=>∀Q:VK,Q w H->rIx Γ.K x (.int n) H Q) (s:=s) (λF rp=>by
   obtain⟨w,A,G,B,h1,h2,h3⟩:=gen F rp;exact⟨w,G,h1,h2,λa ha=>by rw[h3];exact yaL _ (yaR _ ha)⟩)
  exact⟨w,h1,S2.swap.drop rfl⟩
 have main:∀k',ixK k (some (.ix j))=some k'->∃w,(∀Q:VK,Q w H->rIx Γ.K x (.int n) H Q)/\Sim Γ H O Z (⟨none,w,⟨k',s⟩⟩::E):=λk' hk'=>by
  cases k with
  | ow=>
   cases hk';exact S.takeO gen
  | io m=>cases hk'
  | vw ro p=>
   cases ro with
   | none=>
    cases hk';exact hview none p rfl
   | some i=>
    cases p with
    | none=>cases hk';exact hview (some i) none rfl
    | some p=>
     cases hk';obtain⟨w,h1,S2⟩:=S.partP (e:=⟨none,x,⟨.vw (some i) (some p),.lst ts⟩⟩) ymS rfl (a:=.ix j) (s:=s) hj;refine⟨w,λQ q=>?_,S2.swap.drop rfl⟩;obtain⟨F,rp⟩:=S.rd ymS;obtain⟨a,xs,G,e1,h2,h3⟩:=gi ⟨F,rp⟩;obtain⟨a',xs',e2,g1,g2⟩:=h1;have e1':x=.ref a:=e1;have e2':x=.ref a':=e2;rw[e1']at e2';cases e2';have e3:xs'=xs:=by
      rcases h2 with h2|⟨o,h2⟩;rw[h2]at g1;cases g1;rfl;rw[h2]at g1;cases g1
     subst e3;rw[e1'];exact .inl ⟨a,xs',n,w,rfl,rfl,SqL.of g1,nJ hn h3.length g2,q⟩
 cases s with
 | im i=>
  cases hr;obtain⟨F,rp⟩:=S.rd ymS;obtain⟨w,A,G,B,h1,h2,_⟩:=gen F rp;exact⟨w,h1,(S.drop rfl).imm (aX h2).1⟩
 | _=>
  simp only[L2.ixP]at hr;split at hr;rename_i k' e;cases hr;exact main k' e;cases hr
theorem Sim.ixT{k:Kd}{ts:List T}{s:T}{j:Nat}{n:Int}{r:R}(S:Sim Γ H O Z (⟨none,x,⟨k,.tup ts⟩⟩::E))(hn:ixN ts.length n=some j)(hj:ts[j]?=some s)(hr:L2.ixP k none s=some r) :
  ∃w,(∀Q:VK,Q w H->rIx Γ.K x (.int n) H Q)/\Sim Γ H O Z (⟨none,w,r⟩::E):=by
 have gen:∀F,Rp Γ.K H (.tup ts) x F->∃w A G B,(∀Q:VK,Q w H->rIx Γ.K x (.int n) H Q)/\Rp Γ.K H s w G/\F=A++G++B:=λF rp=>by
  rw[Rp]at rp;obtain⟨a,xs,rfl,h2,h3⟩:=rp;obtain⟨w,A,G,B,h4,h5,h6,_,_⟩:=h3.at hj;exact⟨w,A,G,B,λQ q=>.inr (.inl ⟨a,xs,n,w,rfl,rfl,h2,nJ hn h3.length h4,q⟩),h5,h6⟩
 have main:∀k',ixK k none=some k'->∃w,(∀Q:VK,Q w H->rIx Γ.K x (.int n) H Q)/\Sim Γ H O Z (⟨none,w,⟨k',s⟩⟩::E):=λk' hk'=>by
  cases k with
  | ow=>
   cases hk';exact S.takeO gen
  | io m=>cases hk'
  | vw ro p=>
   have hv:k'=.vw ro none:=by cases ro<;>cases p<;>cases hk'<;>rfl
   subst hv;obtain⟨w,h1,S2⟩:=S.part (e:=⟨none,x,⟨.vw ro p,.tup ts⟩⟩) ymS rfl (P:=λw=>∀Q:VK,Q w H->rIx Γ.K x (.int n) H Q) (s:=s) (λF rp=>by
    obtain⟨w,A,G,B,h1,h2,h3⟩:=gen F rp;exact⟨w,G,h1,h2,λa ha=>by rw[h3];exact yaL _ (yaR _ ha)⟩)
   exact⟨w,h1,S2.swap.drop rfl⟩
 cases s with
 | im i=>
  cases hr;obtain⟨F,rp⟩:=S.rd ymS;obtain⟨w,A,G,B,h1,h2,_⟩:=gen F rp;exact⟨w,h1,(S.drop rfl).imm (aX h2).1⟩
 | _=>
  simp only[L2.ixP]at hr;split at hr;rename_i k' e;cases hr;exact main k' e;cases hr
theorem Sim.ixR{ra r:R}{tb:T}(h:L2.ixR ra tb=some r)(S:Sim Γ H O Z (⟨none,x,ra⟩::E))(ry:Rpx Γ.K H tb y):∃w,(∀Q:VK,Q w H->rIx Γ.K x y H Q)/\Sim Γ H O Z (⟨none,w,r⟩::E):=by
 have r1:Rpx Γ.K H ra.t x:=S.rd (e:=⟨none,x,ra⟩) ymS;unfold L2.ixR at h;split at h
 ·rename_i n en;cases ca en;obtain⟨k0,t0⟩:=ra;replace r1:Rpx Γ.K H t0 x:=r1;rw[aK ry];unfold ixX at h;dsimp only at h;split at h
  ·unfold ixI at h;split at h
   ·rename_i is;cases h0:atI is n with
    | none=>rw[h0]at h;cases h
    | some i=>
     rw[h0]at h;cases h;obtain⟨p,xs,ex,g1,g2⟩:=cv r1;obtain⟨w,h3,h4⟩:=l9 g2 h0;exact⟨w,λQ q=>.inr (.inl ⟨p,xs,n,w,ex,rfl,g1,h3,q⟩),(S.drop rfl).imm h4⟩
   ·rename_i z;split at h
    ·rename_i hz;cases h0:atI (sL z) n with
     | none=>rw[h0]at h;cases h
     | some c=>
      rw[h0]at h;cases h;exact⟨_,λQ q=>.inr (.inr ⟨z,n,c,cY r1,rfl,hz,h0,q⟩),(S.drop rfl).imm (jv rfl)⟩
    ·cases h
   ·cases h
  ·rename_i is;cases h0:atI is n with
   | none=>rw[h0]at h;cases h
   | some i=>
    rw[h0]at h;cases h;obtain⟨p,xs,ex,g1,g2⟩:=cC r1;obtain⟨w,h3,h4⟩:=l9 g2 h0;exact⟨w,λQ q=>.inl ⟨p,xs,n,w,ex,rfl,aU g1,h3,q⟩,(S.drop rfl).imm h4⟩
  ·rename_i ts;split at h
   ·rename_i j hj;cases h0:ts[j]? with
    | none=>rw[h0]at h;cases h
    | some s=>
     rw[h0]at h;exact S.ixL hj h0 h
   ·cases h
  ·rename_i ts;split at h
   ·rename_i j hj;cases h0:ts[j]? with
    | none=>rw[h0]at h;cases h
    | some s=>
     rw[h0]at h;exact S.ixT hj h0 h
   ·cases h
  ·cases h
 ·cases h
theorem A6{ta tb:TE}{a b:ME}(ha:aP K ta a)(hb:aP K tb b):aP K (tOp (rIx K) ta tb) (mIx a b):=by with_unfolding_all
 intro Γ H O Z E Q r O' hK hr S q;simp only[mIx]at hr;split at hr
 ·rename_i ra O1 e1;split at hr
  ·rename_i rb O2 e2;split at hr
   ·rename_i al;split at hr
    ·rename_i r0 e3;cases hr;refine ha Γ H O Z E _ ra O1 hK e1 S λx H1 S1=>?_;refine hb Γ H1 O1 Z _ _ rb _ hK e2 S1 λy H2 S2=>?_;rw[ar (bt al),ae]at S2;have r2:=S2.rd ymS;obtain⟨w,h1,S4⟩:=Sim.ixR e3 (S2.drop rfl) r2;rw[←hK];exact h1 Q (q w _ S4)
    ·cases hr
   ·cases hr
  ·cases hr
 ·cases hr
structure MO where
 run:Rho->Option (Option Int×Rho)
 mu:List Nat
def rN(K:yF)(to:TO)(m:MO):Prop:=∀(Γ:Gm) (H:Hp) (O:Rho) (Z:St) (E:List En) (Q:Option Int->Hp->Prop) (o:Option Int) (O':Rho),Γ.K=K->m.run O=some (o,O')->Sim Γ H O Z E->(∀H',Sim Γ H' O' Z (ah m.mu E)->Q o H')->to Z H Q
@[irreducible] noncomputable def mNoPart:MO:=⟨λO=>some (none,O),[]⟩
@[irreducible] noncomputable def fK(a:ME):MO:=⟨λO=>match a.run O with
 | some (⟨_,.im (.int n)⟩,O1)=>some (some n,O1)
 | _=>none,a.mu⟩
theorem oz:rN K pP mNoPart:=by with_unfolding_all
 intro Γ H O Z E Q o O' hK hr S q;cases hr;exact q H (by rw[show mNoPart.mu=[]from rfl,bD];exact S)
theorem uP{ta:TE}{a:ME}(ha:aP K ta a):rN K (pQ ta) (fK a):=by with_unfolding_all
 intro Γ H O Z E Q o O' hK hr S q;simp only[fK]at hr;split at hr
 ·rename_i k n O1 e1;cases hr;exact ha Γ H O Z E _ _ _ hK e1 S λx H1 S1=>⟨n,aK (S1.rd ymS),q H1 (S1.drop rfl)⟩
 ·cases hr
theorem Ir.cut{is:List I}{xs:List V}(r:Ir K H is xs)(lo hi:Option Int):Ir K H (cU is lo hi) (jN xs lo hi):=by
 unfold cU jN;rw[r.length];exact(r.drop _).take _
theorem Rps.cut{ts:List T}{xs:List V}{F:List Addr}(r:Rps K H ts xs F)(lo hi:Option Int):∃A G B,Rps K H (cU ts lo hi) (jN xs lo hi) G/\F=A++G++B:=by
 unfold cU jN;rw[r.length];obtain⟨A,G1,h1,h2,rfl⟩:=r.take (HT.sIx ts.length 0 lo);obtain⟨G,B,h3,h4,rfl⟩:=h2.take (HT.sIx ts.length ts.length hi-HT.sIx ts.length 0 lo);exact⟨A,G,B,h3,by simp⟩
noncomputable def slI(i:I) (lo hi:Option Int):Option R:=match i with
 | .tup is=>if HT.sIx is.length 0 lo=0/\HT.sIx is.length is.length hi=is.length then none else some ⟨.ow,.im (.tup (cU is lo hi))⟩
 | .str z=>if z.length<=sizeLine then some ⟨.ow,.im (.str (oL (cU (sL z) lo hi)))⟩else none
 | _=>none
noncomputable def slX(k:Kd) (t:T) (lo hi:Option Int):Option R:=match t with
 | .li is=>some ⟨.ow,.li (cU is lo hi)⟩
 | .im i=>slI i lo hi
 | .lst ts=>(match k with
  | .vw ro _=>some ⟨.vw ro none,.lst (cU ts lo hi)⟩
  | _=>none)
 | _=>none
@[irreducible] noncomputable def slR(r:R)(lo hi:Option Int):Option R:=slX r.k r.t lo hi
@[irreducible] noncomputable def mSl(a:ME)(lo hi:MO):ME:=⟨λO=>match a.run O with
 | some (ra,O1)=>match lo.run O1 with
  | some (l,O2)=>match hi.run O2 with
   | some (h,O3)=>if aE (lo.mu++hi.mu) ra=true then(match slR ra l h with
    | some r=>some (r,O3)
    | none=>none)else none
   | none=>none
  | none=>none
 | none=>none,a.mu++(lo.mu++hi.mu)⟩
theorem A8{ta:TE}{tl th:TO}{a:ME}{lo hi:MO}(ha:aP K ta a)(hl:rN K tl lo)(hh:rN K th hi):aP K (tSl (rSl K) ta tl th) (mSl a lo hi):=by with_unfolding_all
 intro Γ H O Z E Q r O' hK hr S q;simp only[mSl]at hr;split at hr
 ·rename_i ra O1 e1;split at hr
  ·rename_i l O2 e2;split at hr
   ·rename_i h O3 e3;split at hr
    ·rename_i al;split at hr
     ·rename_i r0 e4;cases hr;refine ha Γ H O Z E _ ra O1 hK e1 S λx H1 S1=>?_;refine hl Γ H1 O1 Z _ _ l _ hK e2 S1 λH2 S2=>?_;refine hh Γ H2 O2 Z _ _ h _ hK e3 S2 λH3 S3=>?_;rw[ae,ar (bt al),ae]at S3;have r1:=S3.rd ymS;unfold slR slX at e4;obtain⟨k0,t0⟩:=ra;replace r1:Rpx Γ.K H3 t0 x:=r1;dsimp only at e4;split at e4
      ·cases e4;obtain⟨p,xs,ex,g1,g2⟩:=cC r1;exact .inr (.inl ⟨p,xs,ex,aU g1,λp hp=>q _ _ ((S3.drop rfl).fresh (.li hp (g2.cut l h)))⟩)
      ·unfold slI at e4;split at e4
       ·rename_i is;split at e4;cases e4
        ·rename_i hw;cases e4;obtain⟨p,xs,ex,g1,g2⟩:=cv r1;rw[hK]at g1;exact .inl ⟨p,xs,ex,g1,by rw[g2.length];exact hw,λp hp=>q _ _ ((S3.drop rfl).fresh (.tup hp (g2.cut l h)))⟩
       ·split at e4
        ·rename_i hz;cases e4;exact .inr (.inr ⟨_,cY r1,hz,q _ _ ((S3.drop rfl).imm (jv rfl))⟩)
        ·cases e4
       ·cases e4
      ·rename_i ts;split at e4
       ·rename_i ro p0;cases e4;obtain⟨p,xs,F,ex0,g1,g2⟩:=gi r1;have ex:x=.ref p:=ex0;refine .inr (.inl ⟨p,xs,ex,aU g1,λp' hp=>?_⟩);obtain⟨w,hw,S4⟩:=S3.partN (H':=upd H3 p' (.lst (jN xs l h))) (IG.laid hp) (s:=.lst (cU ts l h)) ymS rfl (P:=λw=>w=.ref p') (λF rp=>by
         have rp':Rp Γ.K H3 (.lst ts) x F:=rp;rw[Rp]at rp';obtain⟨a',xs',F',ex',g1',g2',rfl⟩:=rp';rw[ex]at ex';cases ex';have e3:xs'=xs:=by
          rcases g1 with g1|⟨o,g1⟩<;>rcases g1' with g1'|⟨o',g1'⟩<;>rw[g1]at g1'<;>cases g1'<;>rfl
         subst e3;obtain⟨A,G,B,g3,rfl⟩:=g2'.cut l h;refine⟨.ref p',p'::G,rfl,?_,λb hb=>?_⟩
         ·rw[Rp];exact⟨p',_,G,rfl,.inl aA,g3.same (IG.laid hp),rfl⟩
         ·rcases ycM hb with rfl|hb;exact .inr hp;exact .inl (ymC _ (yaL _ (yaR _ hb))))
        subst hw;exact q _ _ (S4.swap.drop rfl)
       ·cases e4
      ·cases e4
     ·cases hr
    ·cases hr
   ·cases hr
  ·cases hr
 ·cases hr
@[irreducible] noncomputable def uT:T->Option T
 | .im (.tup is)=>some (.im (.tup is.reverse))
 | _=>none
theorem xH{ta:TE}{a:ME}(ha:aP K ta a):aP K (ve K ta) (mUn uT a):=by with_unfolding_all
 intro Γ H O Z E Q r O' hK hr S q;simp only[mUn]at hr;split at hr
 ·rename_i ra O1 e1;split at hr
  ·rename_i t e2;cases hr;refine ha Γ H O Z E _ ra _ hK e1 S λx H1 S1=>?_;have r1:=S1.rd ymS;obtain⟨k,ta⟩:=ra;unfold uT at e2;split at e2
   ·rename_i is e0;cases e2;have e0':ta=.im (.tup is):=e0;subst e0';obtain⟨p,xs,ex,g1,g2⟩:=cv r1;rw[hK]at g1;exact⟨p,xs,ex,g1,λp hp=>q _ _ ((S1.drop rfl).fresh (.tup hp g2.reverse))⟩
   ·cases e2
  ·cases hr
 ·cases hr
def cJ(K:yF)(red:V->List V->Hp->VK->Prop)(f:T->List T->Option (T×I)):Prop:=∀(H:Hp) (w:V) (vs:List V) (s:T) (ts:List T) (s':T) (i:I) (G F:List Addr) (Q:VK),Rp K H s w G->Rps K H ts vs F->(G++F).Nodup->(∀a∈G++F,Mu H a)->f s ts=some (s',i) →
 (∀v H' G',Iy G H H'->(∀a∈G,∃o,H' a=some o)->G'.Nodup->(∀a∈G',(a∈G++F∨H a=none)/\Mu H' a)->Rp K H' s' w G'->RpI K H' i v->Q v H')->red w vs H Q
@[irreducible] noncomputable def mutR(i:Nat)(mv:List Nat)(f:T->List T->Option (T×I))(r0:R)(rs:List R)(O1:Rho):Option (R×Rho):=match r0 with
 | ⟨.vw (some j) (some p),s⟩=>if(decide (j=i) && !mv.contains i)=true then(match consL mv rs O1 with
  | some (ts,O2)=>(match f s ts with
   | some (s',res)=>(match O2[i]? with
    | some (some ⟨k,t⟩)=>if k.isOw=true then some (⟨.ow,.im res⟩,(ao [i] O2).set i (some ⟨k,t.put p s'⟩))else none
    | _=>none)
   | none=>none)
  | none=>none)else none
 | _=>none
theorem Sim.mutR{i:Nat}{mv:List Nat}{red:V->List V->Hp->VK->Prop}{f:T->List T->Option (T×I)}{r0:R}{rs:List R}{r:R}{O1 O':Rho}{vs:List V}(hK : Γ.K=K)(hp:cJ K red f)(h:L2.mutR i mv f r0 rs O1=some (r,O'))(hl:vs.length=rs.length)(S:Sim Γ H O1 Z (ens vs rs++⟨none,x,r0⟩::E))(q:∀v H',Sim Γ H' O' Z (⟨none,v,r⟩::ah (mv++[i]) E)->Q v H'):red x vs H Q:=by
 unfold L2.mutR at h;split at h
 ·rename_i j p s;split at h
  ·rename_i hc;rw[Ei,decide_eq_true_eq,EM]at hc;obtain⟨rfl,hmv⟩:=hc;split at h
   ·rename_i ts O2 e1;split at h
    ·rename_i s' res e2;split at h
     ·rename_i k t e3;split at h
      ·rename_i ho;cases h;obtain⟨hl2,S2⟩:=Sim.consL (A:=[]) (by simpa using S) hl e1 (by simp);rw[Fx,ar (show aB mv ⟨none,x,⟨.vw (some j) (some p),s⟩⟩=true by unfold aB;simp only[Kd.root];rw[hmv];rfl)]at S2;obtain⟨G,F,h1,h2,h3,h4,h5⟩:=S2.mut hl2 e3 ho;rw[hK]at h1 h2;refine hp H x vs s ts s' res G F Q h1 h2 h3 h4 e2 λv H' G' a b c d e g=>q v H' ?_;rw[←ae];rw[←hK]at e g;exact(h5 H' s' G' a b c d e).imm g
      ·cases h
     ·cases h
    ·cases h
   ·cases h
  ·cases h
 ·cases h
@[irreducible] noncomputable def bK(i:Nat)(mv:List Nat)(f:T->List T->Option (T×I))(o:ME)(a:MA):ME:=⟨λO=>match o.run O with
 | some (r0,O0)=>match a.run O0 with
  | some (rs,O1)=>if aE a.mu r0=true then L2.mutR i mv f r0 rs O1 else none
  | none=>none
 | none=>none,(o.mu++a.mu)++(mv++[i])⟩
theorem pC{T0:String}{red:V->List V->Hp->VK->Prop}{f:T->List T->Option (T×I)}{i:Nat}{mv:List Nat}{to:TE}{ta:TA}{o:ME}{a:MA}(hp:cJ K red f)(hty:∀(H:Hp) (x:V) (tx:T) ts r,Rpx K H tx x->f tx ts=some r->tyV K T0 x H)(ho:aP K to o)(ha:fR K ta a):aP K (tBM K T0 red to ta) (bK i mv f o a):=by
 intro Γ H O Z E Q r O' hK hr S q;simp only[bK]at hr q;split at hr
 ·rename_i r0 O0 e0;split at hr
  ·rename_i rs O1 e1;split at hr
   ·rename_i al;refine ho Γ H O Z E _ r0 _ hK e0 S λx H1 S1=>?_;have r0':=S1.rd ymS;rw[hK]at r0';refine⟨?_,?_⟩
    ·unfold L2.mutR at hr;split at hr
     ·split at hr
      ·split at hr
       ·split at hr;rename_i e2;exact hty H1 x _ _ _ r0' e2;cases hr
       ·cases hr
      ·cases hr
     ·cases hr
    ·refine ha Γ H1 O0 Z _ _ rs _ hK e1 S1 λvs H2 hl S2=>?_;rw[ar (bt al),ae]at S2;exact Sim.mutR hK hp hr hl S2 λv H' S3=>q v H' (by rw[←ae];exact S3)
   ·cases hr
  ·cases hr
 ·cases hr
@[irreducible] noncomputable def kU(i:Nat)(f:T->List T->Option (T×I))(o:ME):ME:=⟨λO=>match o.run O with
 | some (r0,O0)=>L2.mutR i [] f r0 [] O0
 | none=>none,o.mu++[i]⟩
theorem uN{T0:String}{red:V->List V->Hp->VK->Prop}{f:T->List T->Option (T×I)}{i:Nat}{to:TE}{o:ME}(hp:cJ K red f)(hty:∀(H:Hp) (x:V) (tx:T) ts r,Rpx K H tx x->f tx ts=some r->tyV K T0 x H)(ho:aP K to o):aP K (Bf K T0 red to) (kU i f o):=by
 intro Γ H O Z E Q r O' hK hr S q;simp only[kU]at hr q;split at hr
 ·rename_i r0 O0 e0;refine ho Γ H O Z E _ r0 _ hK e0 S λx H1 S1=>?_;have r0':=S1.rd ymS;rw[hK]at r0';refine⟨?_,?_⟩
  ·unfold L2.mutR at hr;split at hr
   ·split at hr
    ·split at hr
     ·split at hr;rename_i e2;exact hty H1 x _ _ _ r0' e2;cases hr
     ·cases hr
    ·cases hr
   ·cases hr
  ·exact Sim.mutR (vs:=[]) (mv:=[]) hK hp hr rfl S1 λv H' S3=>q v H' (by rw[←ae];exact S3)
 ·cases hr
theorem iF{is:List I}{w:V}{G:List Addr}(h:Rp K H (.li is) w G)(mu:∀a∈G,Mu H a):∃a xs,w=.ref a/\H a=some (.lst xs)/\Ir K H is xs/\G=[a]:=by
 rw[Rp]at h;obtain⟨a,xs,h1,h2,h3,rfl⟩:=h;exact⟨a,xs,h1,(mu a ymS).lst h2,h3,rfl⟩
theorem zB{ts:List T}{w:V}{G:List Addr}(h:Rp K H (.lst ts) w G)(mu:∀a∈G,Mu H a):∃a xs F,w=.ref a/\H a=some (.lst xs)/\Rps K H ts xs F/\G=a::F:=by
 rw[Rp]at h;obtain⟨a,xs,F,h1,h2,h3,rfl⟩:=h;exact⟨a,xs,F,h1,(mu a ymS).lst h2,h3,rfl⟩
theorem fG{is':List I}{xs xs':List V}{a:Addr}{F:List Addr}{i:I}{v:V}(hH:H a=some (.lst xs))(hr:Ir K H is' xs')(hi:RpI K H i v)
  (q:∀v H' G',Iy [a] H H'->(∀b∈[a],∃o,H' b=some o)->G'.Nodup->(∀b∈G',(b∈[a]++F∨H b=none)/\Mu H' b)->Rp K H' (.li is') (.ref a) G'->RpI K H' i v->Q v H'):Q v (upd H a (.lst xs')):=by
 have hM:∀b∈[a],Mu H b:=λb hb=>by rw[ysM hb];exact⟨_,hH,rfl⟩
 refine q v _ [a] Iy.upd (λb hb=>by rw[ysM hb];exact⟨_,aA⟩) (by simp) (λb hb=>?_) ?_ (hi.off Iy.upd hM);rw[ysM hb];exact⟨.inl (by simp),_,aA,rfl⟩;rw[Rp];exact⟨a,xs',rfl,.inl aA,hr.off Iy.upd hM,rfl⟩
theorem pS{ts':List T}{xs xs':List V}{a:Addr}{G F F':List Addr}{i:I}{v:V}(hH:H a=some (.lst xs))(nd:(a::F').Nodup)(mu:∀b∈F',Mu H b)(hF:∀b∈F',b∈(a::G)++F)(hr:Rps K H ts' xs' F')(hi:RpI K H i v)
  (q:∀v H' G',Iy (a::G) H H'->(∀b∈a::G,∃o,H' b=some o)->G'.Nodup->(∀b∈G',(b∈(a::G)++F∨H b=none)/\Mu H' b)->Rp K H' (.lst ts') (.ref a) G'->RpI K H' i v->Q v H') (dG:∀b∈G,∃o,H b=some o):Q v (upd H a (.lst xs')):=by
 have hM:∀b∈[a],Mu H b:=λb hb=>by rw[ysM hb];exact⟨_,hH,rfl⟩
 have na:∀b∈F',b≠a:=λb hb z=>(EF.mp nd).1 (z▸hb);refine q v _ (a::F') (Iy.upd.mono λb hb=>by rw[ysM hb];exact ymS) (λb hb=>?_) nd (λb hb=>?_) ?_ (hi.off Iy.upd hM)
 ·by_cases e:b=a;subst e;exact⟨_,aA⟩
  ·rcases ycM hb with z|z;exact absurd z e;obtain⟨o,h⟩:=dG b z;exact⟨o,by rw[aN e];exact h⟩
 ·rcases ycM hb with rfl|hb;exact⟨.inl (by simp),_,aA,rfl⟩
  ·refine⟨.inl (hF b hb),?_⟩;obtain⟨o,h,m⟩:=mu b hb;exact⟨o,by rw[aN (na b hb)];exact h,m⟩
 ·rw[Rp];refine⟨a,xs',F',rfl,.inl aA,hr.off Iy.upd hM (λb hb z=>na b hb (ysM z)),rfl⟩
noncomputable def ap1(s t:T):Option (T×I):=match s with
 | .li is=>(match t with
  | .im i=>if is.length<sizeLine then some (.li (is++[i]),.non)else none
  | _=>if is.length<sizeLine then some (.lst (is.map .im++[t]),.non)else none)
 | .lst ts=>if ts.length<sizeLine then some (.lst (ts++[t]),.non)else none
 | _=>none
@[irreducible] noncomputable def apT(s:T)(ts:List T):Option (T×I):=l1 (ap1 s) ts
theorem nh{t:T}{vs:List V}{F:List Addr}(h:Rps K H [t] vs F):∃v,vs=[v]/\Rp K H t v F:=by
 obtain⟨v,r,F1,F2,rfl,h1,h2,rfl⟩:=h.cons_inv;obtain⟨rfl,rfl⟩:=h2.nil_inv;exact⟨v,rfl,by rw[EB];exact h1⟩
theorem D9{t u:T}{vs:List V}{F:List Addr}(h:Rps K H [t,u] vs F):∃v w F1 F2,vs=[v,w]/\Rp K H t v F1/\Rp K H u w F2/\F=F1++F2:=by
 obtain⟨v,r,F1,F2,rfl,h1,h2,rfl⟩:=h.cons_inv;obtain⟨w,rfl,h3⟩:=nh h2;exact⟨v,w,F1,F2,rfl,h1,h3,rfl⟩
theorem bS:RpI K H .non .non:=by rw[RpI]
theorem mT:cJ K lR apT:=by
 intro H w vs s ts s' i G F Q rw0 rs nd mu e q;unfold apT at e;have e0:=cc e;clear e;obtain⟨tt,rfl,e⟩:=e0;obtain⟨y,rfl,h3⟩:=nh rs;unfold ap1 at e;split at e
 ·rename_i is;obtain⟨a,xs,rfl,h1,h2,rfl⟩:=iF rw0 λa ha=>mu a (yaL _ ha);split at e
  ·obtain⟨hz,e⟩:=aQ e;cases e;exact⟨a,xs,y,rfl,rfl,h1,by rw[h2.length];exact hz,fG h1 (h2.append (.one (aX h3).1)) bS q⟩
  ·obtain⟨hz,e⟩:=aQ e;cases e;refine⟨a,xs,y,rfl,rfl,h1,by rw[h2.length];exact hz,pS (G:=[]) (F:=F) (F':=F) h1 nd (λb hb=>mu b (yaR _ hb)) (λb hb=>yaR _ hb) ?_ bS q (by simp)⟩;have:=Rps.append (Rps.ims.mpr ⟨h2,rfl⟩) (Rps.cons h3 Rps.nil);simpa using this
 ·obtain⟨hz,e⟩:=aQ e;cases e;obtain⟨a,xs,F0,rfl,h1,h2,rfl⟩:=zB rw0 λa ha=>mu a (yaL _ ha);have mm:∀b∈F0++F,b∈(a::F0)++F:=λb hb=>(yaM hb).elim (λz=>yaL _ (ymC _ z)) λz=>yaR _ z;refine⟨a,xs,y,rfl,rfl,h1,by rw[h2.length];exact hz,pS (G:=F0) (F:=F) (F':=F0++F) h1 (by simpa using nd) (λb hb=>mu b (mm b hb)) mm ?_ bS q (λb hb=>h2.dom b hb)⟩;have:=Rps.append h2 (Rps.cons h3 Rps.nil);simpa using this
 ·cases e
theorem lg{is:List I}{x:V}(h:Rpx K H (.li is) x):tyV K "list" x H:=by
 obtain⟨a,xs,rfl,h1,h2⟩:=cC h;exact .inl ⟨rfl,xs,aU h1⟩
theorem Bm{is:List T}{x:V}(h:Rpx K H (.lst is) x):tyV K "list" x H:=by
 obtain⟨a,xs,F,rfl,h1,h2⟩:=gi h;exact .inl ⟨rfl,xs,aU h1⟩
theorem rB(H:Hp)(x:V)(tx:T)(ts:List T)(r:T×I)(h:Rpx K H tx x)(e:apT tx ts=some r):tyV K "list" x H:=by
 unfold apT at e;obtain⟨t,_,e⟩:=cc e;unfold ap1 at e;split at e;exact lg h;exact Bm h;cases e
noncomputable def y9(s t:T):Option (T×I):=match su s with
 | some is=>(match su t with
  | some js=>if is.length+js.length<=sizeLine then some (.li (is++js),.non)else none
  | none=>(match zn t with
   | some js=>if is.length+js.length<=sizeLine then some (.li (is++js),.non)else none
   | none=>none))
 | none=>none
@[irreducible] noncomputable def ki(s:T)(ts:List T):Option (T×I):=l1 (y9 s) ts
theorem mU:cJ K (uu K) ki:=by
 intro H w vs s ts s' i G F Q rw0 rs nd mu e q;unfold ki at e;have e0:=cc e;clear e;obtain⟨tt,rfl,e⟩:=e0;obtain⟨y,rfl,h3⟩:=nh rs;unfold y9 at e;split at e
 ·rename_i is es;cases eN es;obtain⟨a,xs,rfl,h1,h2,rfl⟩:=iF rw0 λa ha=>mu a (yaL _ ha);split at e
  ·rename_i js ej;cases eN ej;obtain⟨hz,e⟩:=aQ e;cases e;rw[Rp]at h3;obtain⟨b,ys,rfl,g1,g2,rfl⟩:=h3;exact .inl ⟨a,b,xs,ys,rfl,rfl,h1,g1,by rw[h2.length,g2.length];exact hz,fG h1 (h2.append g2) bS q⟩
  ·split at e
   ·rename_i js ej;cases mE ej;obtain⟨hz,e⟩:=aQ e;cases e;have h4:=(aX h3).1;rw[RpI]at h4;obtain⟨b,ys,rfl,g1,g2⟩:=h4;exact .inr ⟨a,b,xs,ys,rfl,rfl,h1,g1,by rw[h2.length,g2.length];exact hz,fG h1 (h2.append g2) bS q⟩
   ·cases e
 ·cases e
theorem rC(H:Hp)(x:V)(tx:T)(ts:List T)(r:T×I)(h:Rpx K H tx x)(e:ki tx ts=some r):tyV K "list" x H:=by
 unfold ki at e;obtain⟨t,_,e⟩:=cc e;unfold y9 at e;split at e
 ·rename_i is es;cases eN es;exact lg h
 ·cases e
@[irreducible] noncomputable def mS:T->List T->Option (T×I)
 | .li is,[]=>match is[is.length-1]? with
  | some i=>some (.li is.dropLast,i)
  | none=>none
 | _,_=>none
theorem Ir.dropLast{is:List I}{xs:List V}(h:Ir K H is xs):Ir K H is.dropLast xs.dropLast:=by
 rw[Hh,Hh,h.length];exact h.take _
theorem t4:cJ K AZ mS:=by
 intro H w vs s ts s' i G F Q rw0 rs nd mu e q;unfold mS at e;split at e
 ·rename_i is;split at e
  ·rename_i j hj;cases e;obtain⟨a,xs,rfl,h1,h2,rfl⟩:=iF rw0 λa ha=>mu a (yaL _ ha);obtain⟨rfl,rfl⟩:=rs.nil_inv;obtain⟨y,hy,r⟩:=h2.get hj;rw[←h2.length]at hy;exact⟨a,xs,y,rfl,rfl,h1,hy,fG h1 h2.dropLast r q⟩
  ·cases e
 ·cases e
theorem Bn(H:Hp)(x:V)(tx:T)(ts:List T)(r:T×I)(h:Rpx K H tx x)(e:mS tx ts=some r):tyV K "list" x H:=by
 unfold mS at e;split at e;exact lg h;cases e
noncomputable def zl(s n t:T):Option (T×I):=match su s with
 | some is=>(match isI n with
  | some n=>(match t with
   | .im i=>if 0<=n/\n<=is.length/\is.length<sizeLine then some (.li (is.take n.toNat++i::is.drop n.toNat),.non)else none
   | _=>none)
  | none=>none)
 | none=>none
@[irreducible] noncomputable def lH(s:T)(ts:List T):Option (T×I):=l2 (zl s) ts
theorem mV:cJ K lS lH:=by
 intro H w vs s ts s' i G F Q rw0 rs nd mu e q;unfold lH at e;have e0:=jW e;clear e;obtain⟨tn,tt,rfl,e⟩:=e0;obtain⟨y,z,F1,F2,rfl,g1,g2,rfl⟩:=D9 rs;unfold zl at e;split at e
 ·rename_i is es;cases eN es;obtain⟨a,xs,rfl,h1,h2,rfl⟩:=iF rw0 λa ha=>mu a (yaL _ ha);split at e
  ·rename_i n en;cases ca en;split at e
   ·obtain⟨hz,e⟩:=aQ e;cases e;have e1:=aK ⟨F1,g1⟩;subst e1;exact⟨a,xs,n,z,rfl,rfl,h1,hz.1,by rw[h2.length];exact hz.2.1,by rw[h2.length];exact hz.2.2,fG h1 ((h2.take _).append (.cons (aX g2).1 (h2.drop _))) bS q⟩
   ·cases e
  ·cases e
 ·cases e
theorem rD(H:Hp)(x:V)(tx:T)(ts:List T)(r:T×I)(h:Rpx K H tx x)(e:lH tx ts=some r):tyV K "list" x H:=by
 unfold lH at e;obtain⟨t,u,_,e⟩:=jW e;unfold zl at e;split at e
 ·rename_i is es;cases eN es;exact lg h
 ·cases e
@[irreducible] noncomputable def u5(s:T)(n:T)(v:T):Option T:=match s,n,v with
 | .li is,.im (.int n),.im i=>match ixN is.length n with
  | some j=>some (.li (is.set j i))
  | none=>none
 | _,_,_=>none
@[irreducible] noncomputable def nZ(j:Nat)(o i:ME):MG:=⟨λr O=>match r with
 | ⟨.ow,tv⟩=>match o.run O with
  | some (⟨.vw (some j') (some p),s⟩,O1)=>match i.run O1 with
   | some (ri,O2)=>if(decide (j'=j) && !i.mu.contains j)=true then(match u5 s ri.t tv with
    | some s'=>(match O2[j]? with
     | some (some ⟨k,t⟩)=>if k.isOw=true then some ((ao [j] O2).set j (some ⟨k,t.put p s'⟩))else none
     | _=>none)
    | none=>none)else none
   | none=>none
  | _=>none
 | _=>none,(o.mu++i.mu)++[j]⟩
theorem Ir.set'{is:List I}{xs:List V}{i:I}{w:V}(hx:RpI K H i w)(n:Nat)(h:Ir K H is xs):Ir K H (is.set n i) (xs.set n w):=Ir.set hx n h
theorem xJ{to ti:TE}{o i:ME}{j:Nat}(ho:aP K to o)(hi:aP K ti i):gO K (zh to ti yH) (nZ j o i):=by
 intro Γ H O Z E Q v r O' hK hr S q;simp only[nZ]at hr q;split at hr
 ·rename_i tv;split at hr
  ·rename_i j' p s O1 e1;split at hr
   ·rename_i ri O2 e2;split at hr
    ·rename_i hc;rw[Ei,decide_eq_true_eq,EM]at hc;obtain⟨rfl,hmv⟩:=hc;split at hr
     ·rename_i s' e3;split at hr
      ·rename_i k t e4;split at hr
       ·rename_i hw;cases hr;refine ho Γ H O Z _ _ _ _ hK e1 S λx H1 S1=>?_;refine hi Γ H1 O1 Z _ _ _ _ hK e2 S1 λy H2 S2=>?_;have k1:aB i.mu ⟨none,x,⟨.vw (some j') (some p),s⟩⟩=true:=by unfold aB;simp only[Kd.root];rw[hmv];rfl
        have k2:∀M:List Nat,aB M ⟨none,v,⟨.ow,tv⟩⟩=true:=λM=>rfl;rw[ar k1,ae,ar (k2 _)]at S2;have ry:=S2.rd ymS;have S3:=S2.drop rfl;obtain⟨G,F,h1,h2,h3,h4,h5⟩:=Sim.mut (vs:=[v]) (ts:=[tv]) (S3.perm (List.Perm.swap _ _ _)) rfl e4 hw;generalize hri:ri.t=tri at e3;unfold u5 at e3;split at e3
        ·rename_i is n i0;split at e3
         ·rename_i m hm;cases e3;obtain⟨a,xs,rfl,g1,g2,rfl⟩:=iF h1 λa ha=>h4 a (yaL _ ha);obtain⟨z,ez,g3⟩:=nh h2;cases ez;obtain⟨g4,rfl⟩:=aX g3;have ry':∃F,Rp Γ.K H2 ri.t y F:=ry;have ey:y=.int n:=by rw[hri]at ry';exact aK ry'
          subst ey;refine⟨a,xs,n,m,rfl,rfl,g1,by rw[g2.length];exact hm,?_⟩;refine fG (Q:=λ_ H'=>Q Z H') (F:=[]) (v:=.non) (i:=.non) g1 (g2.set' g4 m) bS λv' H' G' a1 a2 a3 a4 a5 _=>q Z H' ?_;have:=h5 H' _ G' a1 a2 a3 a4 a5;rw[ae]at this;exact this
         ·cases e3
        ·cases e3
       ·cases hr
      ·cases hr
     ·cases hr
    ·cases hr
   ·cases hr
  ·cases hr
 ·cases hr
end
section
variable {Γ:Gm}{H H':Hp}{O:Rho}{Z:St}{E:List En}{v x y:V}{t:T}{K:yF}{Q:VK}
theorem iT{M N:List Nat}(h:∀j∈N,j∈M){e:En}(k:aB M e=true):aB N e=true:=by
 unfold aB at k⊢;split at k
 ·rename_i j hj;simp only[EM,Fp,decide_eq_false_iff_not]at k⊢;exact λz=>k (h j z)
 ·rfl
theorem b8{M N:List Nat}(h:∀j∈N,j∈M)(E:List En):ah N (ah M E)=ah M E:=by
 unfold ah;rw[Fw];intro e he;exact iT h (Er.mp he).2
noncomputable def itW(c:MT) (b:MS):Nat->Rho->Option (Fl×Rho)
 | 0,_=>none
 | n+1,O=>match c.run O with
  | some (true,O1)=>(match b.run O1 with
   | some (.nx,O2)=>itW c b n O2
   | some (.ct,O2)=>itW c b n O2
   | some (.bk,O2)=>some (.nx,O2)
   | some (.rt t,O2)=>some (.rt t,O2)
   | none=>none)
  | some (false,O1)=>some (.nx,O1)
  | none=>none
theorem eP{c:MT}{b:MS}:∀{n:Nat} {O:Rho} {r:Fl×Rho},itW c b n O=some r->∀m,n<=m->itW c b m O=some r
 | 0,_,_,h,_,_=>by cases h
 | n+1,O,r,h,m,hm=>by
  obtain⟨m',rfl⟩:∃m',m=m'+1:=⟨m-1,by omega⟩;rw[itW]at h⊢;split at h
  ·rename_i O1 e1;split at h;rename_i O2 e2;exact eP h m' (by omega);rename_i O2 e2;exact eP h m' (by omega);exact h;exact h;exact h
  ·exact h
  ·exact h
noncomputable def vj(c:MT) (b:MS) (O:Rho):Option (Fl×Rho):=@dite _ (∃n,(itW c b n O).isSome=true) (Classical.propDecidable _) (λh=>itW c b (KB h) O) (λ_=>none)
@[irreducible] noncomputable def cV(c:MT)(b:MS):MS:=⟨vj c b,c.mu++b.mu⟩
theorem rG{c:MT}{b:MS}{r:Fl×Rho}{n:Nat}(h:itW c b n O=some r):(cV c b).run O=some r:=by with_unfolding_all
 have hx:∃n,(itW c b n O).isSome=true:=⟨n,by rw[h];rfl⟩;show vj c b O=_;unfold vj;rw[dif_pos hx];have h2:=Classical.choose_spec hx;cases e:itW c b (KB hx) O with
 | none=>rw[e]at h2;cases h2
 | some r'=>
  have a:=eP h (max n (KB hx)) (He _ _);have b':=eP e (max n (KB hx)) (GV _ _);rw[a]at b';exact b'.symm
theorem vA{c:MT}{b:MS}{r:Fl×Rho}(h:(cV c b).run O=some r):∃n,itW c b n O=some r:=by with_unfolding_all
 have h':vj c b O=some r:=h;unfold vj at h';split at h';exact⟨_,h'⟩;cases h'
theorem rf{tc:TT}{tb:TS}{c:MT}{b:MS}(hc:dR K tc c)(hb:dA K tb b):dA K (vf tc tb) (cV c b):=by with_unfolding_all
 intro Γ H O Z E D f O' hK hE hr S q;obtain⟨n,hn⟩:=vA hr;have qe:(cV c b).mu=c.mu++b.mu:=rfl;rw[qe]at q;have kc:ah c.mu (ah (c.mu++b.mu) E)=ah (c.mu++b.mu) E:=b8 (λj hj=>yaL _ hj) E;have kb:ah b.mu (ah (c.mu++b.mu) E)=ah (c.mu++b.mu) E:=b8 (λj hj=>yaR _ hj) E;have hE0:=bP (M:=c.mu++b.mu) hE;have S0:=S.weak (c.mu++b.mu);generalize ah (c.mu++b.mu) E=E0 at q kc kb hE0 S0;refine⟨λm Z H=>∃O,itW c b m O=some (f,O')/\Sim Γ H O Z E0,⟨n,O,hn,S0⟩,?_⟩
 ·rintro m Z1 H1 ⟨O1,h1,S1⟩;cases m with
  | zero=>cases h1
  | succ m=>
   rw[itW]at h1;split at h1
   ·rename_i O2 e1;refine hc Γ H1 O1 Z1 E0 _ true O2 hK e1 S1 λH2 S2=>nS ?_;rw[kc]at S2;refine⟨λZ' H'=>∃O,itW c b m O=some (f,O')/\Sim Γ H' O Z' E0,λZ' H' ⟨O3,h3,S3⟩=>⟨m,HS m,O3,h3,S3⟩,?_⟩;split at h1
    ·rename_i O3 e2;exact hb Γ H2 O2 Z1 E0 _ .nx O3 hK hE0 e2 S2 λZ' H' S3=>⟨O3,h1,by rw[kb]at S3;exact S3⟩
    ·rename_i O3 e2;exact hb Γ H2 O2 Z1 E0 _ .ct O3 hK hE0 e2 S2 λZ' H' S3=>⟨O3,h1,by rw[kb]at S3;exact S3⟩
    ·rename_i O3 e2;cases h1;exact hb Γ H2 O2 Z1 E0 _ .bk _ hK hE0 e2 S2 λZ' H' S3=>q Z' H' (by rw[kb]at S3;exact S3)
    ·rename_i t O3 e2;cases h1;exact hb Γ H2 O2 Z1 E0 _ (.rt t) _ hK hE0 e2 S2 q
    ·cases h1
   ·rename_i O2 e1;cases h1;exact hc Γ H1 O1 Z1 E0 _ false _ hK e1 S1 λH2 S2=>nR (q Z1 H2 (by rw[kc]at S2;exact S2))
   ·cases h1
structure MI where
 run:Rho->Option ((List R×List R)×Rho)
 mu:List Nat
def gP(Γ:Gm)(J:It)(vs:List V)(srcs:List R)(items:List R):Prop:=∀(H:Hp) (O:Rho) (Z:St) (E:List En),Sim Γ H O Z (ens vs srcs++E)->(∀i,items.length<=i->J.stop i H)/\∀i r,items[i]?=some r->J.go i H/\∀x H',J.yld i H x H'->Sim Γ H' O Z (⟨none,x,r⟩::(ens vs srcs++E))
def jJ(K:yF)(wi:TI)(m:MI):Prop:=∀(Γ:Gm) (H:Hp) (O:Rho) (Z:St) (E:List En) (Rr:It->Hp->Prop) (srcs:List R) (items:List R) (O':Rho),Γ.K=K->m.run O=some ((srcs,items),O')->Sim Γ H O Z E->(∀Γ':Gm,Γ'.K=Γ.K->(∀H O Z E,Sim Γ' H O Z E->Sim Γ H O Z E)->∀J vs H',vs.length=srcs.length->Sim Γ' H' O' Z (ens vs srcs++ah m.mu E)->gP Γ' J vs srcs items->Rr J H')->wi Z H Rr
theorem b7{M:List Nat}:∀{A:List En},(∀e∈A,aB M e=true)->ah M A=A
 | [],_=>rfl
 | e::A,h=>by rw[ar (h e ymS),b7 λx hx=>h x (ymC _ hx)]
theorem iq{M:List Nat}:∀{vs:List V} {rs:List R},rs.all (aE M)=true->∀e∈ens vs rs,aB M e=true
 | [],rs,_,e,h=>by cases rs<;>cases h
 | _::_,[],_,e,h=>by cases h
 | v::vs,r::rs,ha,e,h=>by
  rw[Fs,Ei]at ha;rcases ycM h with rfl|h;exact ha.1;exact iq ha.2 e h
theorem my:∀{vs:List V} {rs:List R},∀e∈ens vs rs,e.key=none
 | [],rs,e,h=>by cases rs<;>cases h
 | _::_,[],e,h=>by cases h
 | v::vs,r::rs,e,h=>by
  rcases ycM h with rfl|h;rfl;exact my e h
noncomputable def j4(n:Int):R:=⟨.ow,.im (.int n)⟩
noncomputable def ot:R:=⟨.ow,.im .non⟩
noncomputable def hJ(lo:Int) (n:Nat):List R:=(EU n).map λi:Nat=>j4 (lo+(i:Int))
theorem nD{lo:Int}{n:Nat}:gP Γ (Itr lo n) [.non] [ot] (hJ lo n):=λH O Z E S=>by
 refine⟨λi hi=>(show n<=i by simpa[hJ]using hi),λi r hr=>?_⟩;unfold hJ at hr;rw[Ep]at hr;cases e:(EU n)[i]? with
 | none=>rw[e]at hr;cases hr
 | some m=>
  rw[e]at hr;cases hr;obtain⟨h1,h2⟩:=Eg.mp e;simp at h1 h2;subst h2;refine⟨h1,λx H' y=>?_⟩;obtain⟨rfl,rfl⟩:=y;exact S.imm (jv rfl)
noncomputable def ii2(x y:T):Option (Int×Int):=match isI x with
 | some i=>(match isI y with
  | some j=>some (i,j)
  | none=>none)
 | none=>none
theorem vS{x y:T}{i j:Int}(h:ii2 x y=some (i,j)):x=.im (.int i)/\y=.im (.int j):=by
 unfold ii2 at h;split at h
 ·rename_i a ea;split at h
  ·rename_i b eb;cases h;exact⟨ca ea,ca eb⟩
  ·cases h
 ·cases h
@[irreducible] noncomputable def bd(a:MA):MI:=⟨λO=>match a.run O with
 | some (rs,O1)=>(match l1 isI (rs.map (·.t))with
  | some j=>if -(2^62)<=j/\j<2^62 then some (([ot],hJ 0 j.toNat),O1)else none
  | none=>none)
 | none=>none,a.mu⟩
@[irreducible] noncomputable def fL(a:MA):MI:=⟨λO=>match a.run O with
 | some (rs,O1)=>(match l2 ii2 (rs.map (·.t))with
  | some (i,j)=>if -(2^62)<=i/\i<2^62/\-(2^62)<=j/\j<2^62 then some (([ot],hJ i (j-i).toNat),O1)else none
  | none=>none)
 | none=>none,a.mu⟩
theorem uQ{ta:TA}{a:MA}(ha:fR K ta a):jJ K (ym ta) (bd a):=by with_unfolding_all
 intro Γ H O Z E Rr src items O' hK hr S q;simp only[bd]at hr;split at hr
 ·rename_i rs O1 e1;split at hr
  ·rename_i j ej;obtain⟨hj,e⟩:=aQ hr;cases e;obtain⟨t,et,ei⟩:=cc ej;cases ca ei;refine ha Γ H O Z E _ _ _ hK e1 S λvs H1 hl S1=>?_;have r1:=S1.rds hl;rw[et]at r1;obtain⟨w,rfl,r2⟩:=kr r1;refine⟨j,by rw[aK r2],hj.1,hj.2,q Γ rfl (λ_ _ _ _ S=>S) _ [.non] H1 rfl ?_ nD⟩;exact S1.drops.imm bS
  ·cases hr
 ·cases hr
theorem uR{ta:TA}{a:MA}(ha:fR K ta a):jJ K (yn ta) (fL a):=by with_unfolding_all
 intro Γ H O Z E Rr src items O' hK hr S q;simp only[fL]at hr;split at hr
 ·rename_i rs O1 e1;split at hr
  ·rename_i i j ej;obtain⟨hj,e⟩:=aQ hr;cases e;obtain⟨t,u,et,ei⟩:=jW ej;obtain⟨rfl,rfl⟩:=vS ei;refine ha Γ H O Z E _ _ _ hK e1 S λvs H1 hl S1=>?_;have r1:=S1.rds hl;rw[et]at r1;obtain⟨w,w',rfl,r2,r3⟩:=Bd r1;refine⟨i,j,by rw[aK r2,aK r3],hj,q Γ rfl (λ_ _ _ _ S=>S) _ [.non] H1 rfl ?_ nD⟩;exact S1.drops.imm bS
  ·cases hr
 ·cases hr
noncomputable def gW:R->Option (List R)
 | ⟨_,.li is⟩=>some (is.map λi=>⟨.ow,.im i⟩)
 | ⟨.vw ro _,.lst ts⟩=>some (ts.map (partV ro))
 | ⟨_,.im (.ls is)⟩=>some (is.map λi=>⟨.ow,.im i⟩)
 | _=>none
noncomputable def jT:R->Option (List R)
 | ⟨_,.im (.tup is)⟩=>some (is.map λi=>⟨.ow,.im i⟩)
 | _=>none
noncomputable def sI(a:ME):MI:=⟨λO=>match a.run O with
 | some (r,O1)=>(match gW r with
  | some rs=>some (([r],rs),O1)
  | none=>none)
 | none=>none,a.mu⟩
noncomputable def zy(a:ME):MI:=⟨λO=>match a.run O with
 | some (r,O1)=>(match jT r with
  | some rs=>some (([r],rs),O1)
  | none=>none)
 | none=>none,a.mu⟩
theorem Rd.det{a:Addr}{xs ys:List V}(h:Rd H a (.lst xs))(g:Rd H a (.lst ys)):xs=ys:=by
 rcases h with h|⟨o,h⟩<;>rcases g with g|⟨o',g⟩<;>rw[h]at g<;>cases g<;>rfl
theorem az{α β:Type}{f : α->β}{l:List α}{i:Nat}{b : β}(h:(l.map f)[i]?=some b):∃a,l[i]?=some a/\f a=b:=by
 rw[Ep]at h;cases e:l[i]? with
 | none=>rw[e]at h;cases h
 | some a=>rw[e]at h;exact⟨a,rfl,ET.inj h⟩
theorem Sim.partV{ro:Option Nat}{p:Option (List Ac)}{s:T}{e:En}{w:V}(S:Sim Γ H O Z E)(he:e∈E)(ho:e.r.k=.vw ro p)(hp:∀F,Rp Γ.K H e.r.t e.v F->∃G,Rp Γ.K H s w G/\∀a∈G,a∈F):Sim Γ H O Z (⟨none,w,L2.partV ro s⟩::E):=by
 cases s with
 | im i=>
  obtain⟨F,r⟩:=S.rd he;obtain⟨G,g,_⟩:=hp F r;exact S.imm (aX g).1
 | _=>
  obtain⟨w',h1,S2⟩:=S.part he ho (P:=λw'=>w'=w) (s:=_) (λF r=>let ⟨G,g,hG⟩:=hp F r;⟨w,G,rfl,g,hG⟩);subst h1;exact S2
theorem By{a:Addr}{src:R}{items:List R}(hi:gW src=some items):gP Γ (Itl Γ.K a) [.ref a] [src] items:=λH O Z E S=>by
 replace S:Sim Γ H O Z (⟨none,.ref a,src⟩::E):=S;have r1:Rpx Γ.K H src.t (.ref a):=S.rd (e:=⟨none,.ref a,src⟩) ymS;unfold gW at hi;split at hi
 ·cases hi;obtain⟨a',xs,ea,g1,g2⟩:=cC r1;cases ea;refine⟨λi hi=>⟨xs,aU g1,by rw[g2.length];simpa using hi⟩,λi r hr=>?_⟩;obtain⟨j,hj,rfl⟩:=az hr;obtain⟨w,hw,rw0⟩:=g2.get hj;refine⟨⟨xs,w,aU g1,hw⟩,λx H' y=>?_⟩;obtain⟨rfl,y⟩:=y;have:=y xs (aU g1);rw[hw]at this;cases this;exact S.imm rw0
 ·rename_i ro p ts;cases hi;obtain⟨a',xs,F,ea,g1,g2⟩:=gi r1;cases ea;refine⟨λi hi=>⟨xs,aU g1,by rw[g2.length];simpa using hi⟩,λi r hr=>?_⟩;obtain⟨j,hj,rfl⟩:=az hr;obtain⟨w,A,G,B,hw,rw0,_⟩:=g2.at hj;refine⟨⟨xs,w,aU g1,hw⟩,λx H' y=>?_⟩;obtain⟨rfl,y⟩:=y;have:=y xs (aU g1);rw[hw]at this;cases this;refine S.partV (e:=⟨none,.ref a,⟨.vw ro p,.lst ts⟩⟩) ymS rfl λF rp=>?_;have rp':Rp Γ.K _ (.lst ts) (.ref a) F:=rp;rw[Rp]at rp';obtain⟨a'',xs',F',ea,k1,k2,rfl⟩:=rp';cases ea;have:=k1.det g1;subst this;obtain⟨w',A',G',B',hw',rw',e',_⟩:=k2.at hj;rw[hw]at hw';cases hw';exact⟨G',rw',λb hb=>by rw[e'];exact ymC _ (yaL _ (yaR _ hb))⟩
 ·cases hi;obtain⟨a',xs,ea,g1,g2⟩:=yI r1;cases ea;refine⟨λi hi=>⟨xs,aU g1,by rw[g2.length];simpa using hi⟩,λi r hr=>?_⟩;obtain⟨j,hj,rfl⟩:=az hr;obtain⟨w,hw,rw0⟩:=g2.get hj;refine⟨⟨xs,w,aU g1,hw⟩,λx H' y=>?_⟩;obtain⟨rfl,y⟩:=y;have:=y xs (aU g1);rw[hw]at this;cases this;exact S.imm rw0
 ·cases hi
theorem lW{ta:TE}{a:ME}(ha:aP K ta a):jJ K (ph K ta) (sI a):=by
 intro Γ H O Z E Rr srcs items O' hK hr S q;simp only[sI]at hr;split at hr
 ·rename_i src O1 e1;split at hr
  ·rename_i rs e2;cases hr;refine ha Γ H O Z E _ _ _ hK e1 S λx H1 S1=>?_;have r1:Rpx Γ.K H1 src.t x:=S1.rd (e:=⟨none,x,src⟩) ymS;have hx:∃a xs,x=.ref a/\SqL K H1 a xs:=by
    unfold gW at e2;split at e2;obtain⟨a,xs,e,g1,g2⟩:=cC r1;exact⟨a,xs,e,aU g1⟩;obtain⟨a,xs,F,e,g1,g2⟩:=gi r1;exact⟨a,xs,e,aU g1⟩;obtain⟨a,xs,e,g1,g2⟩:=yI r1;exact⟨a,xs,e,aU g1⟩;cases e2
   obtain⟨b,xs,rfl,h2⟩:=hx;exact⟨b,rfl,⟨xs,h2⟩,q Γ rfl (λ_ _ _ _ S=>S) _ [.ref b] H1 rfl S1 (by rw[←hK];exact By e2)⟩
  ·cases hr
 ·cases hr
theorem Bz{a:Addr}{src:R}{items:List R}(hi:jT src=some items):gP Γ (Itt Γ.K a) [.ref a] [src] items:=λH O Z E S=>by
 replace S:Sim Γ H O Z (⟨none,.ref a,src⟩::E):=S;have r1:Rpx Γ.K H src.t (.ref a):=S.rd (e:=⟨none,.ref a,src⟩) ymS;unfold jT at hi;split at hi
 ·cases hi;obtain⟨a',xs,ea,g1,g2⟩:=cv r1;cases ea;refine⟨λi hi=>⟨xs,g1,by rw[g2.length];simpa using hi⟩,λi r hr=>?_⟩;obtain⟨j,hj,rfl⟩:=az hr;obtain⟨w,hw,rw0⟩:=g2.get hj;refine⟨⟨xs,w,g1,hw⟩,λx H' y=>?_⟩;obtain⟨rfl,y⟩:=y;have:=y xs g1;rw[hw]at this;cases this;exact S.imm rw0
 ·cases hi
theorem xB{ta:TE}{a:ME}(ha:aP K ta a):jJ K (vR K ta) (zy a):=by
 intro Γ H O Z E Rr srcs items O' hK hr S q;simp only[zy]at hr;split at hr
 ·rename_i src O1 e1;split at hr
  ·rename_i rs e2;cases hr;refine ha Γ H O Z E _ _ _ hK e1 S λx H1 S1=>?_;have r1:Rpx Γ.K H1 src.t x:=S1.rd (e:=⟨none,x,src⟩) ymS;have hx:∃a xs,x=.ref a/\SqT K H1 a xs:=by
    unfold jT at e2;split at e2;obtain⟨a,xs,e,g1,g2⟩:=cv r1;rw[hK]at g1;exact⟨a,xs,e,g1⟩;cases e2
   obtain⟨b,xs,rfl,h2⟩:=hx;exact⟨b,rfl,⟨xs,h2⟩,q Γ rfl (λ_ _ _ _ S=>S) _ [.ref b] H1 rfl S1 (by rw[←hK];exact Bz e2)⟩
  ·cases hr
 ·cases hr
theorem IN.back{Γ Γ':Gm}{O':Rho}{E:List En}{D:IT}{f:Fl}(bk:∀H O Z E,Sim Γ' H O Z E->Sim Γ H O Z E)(q:IN Γ O' E D f):IN Γ' O' E D f:=by
 cases f with
 | nx=>exact λZ' H' S=>q Z' H' (bk _ _ _ _ S)
 | bk=>exact λZ' H' S=>q Z' H' (bk _ _ _ _ S)
 | ct=>exact λZ' H' S=>q Z' H' (bk _ _ _ _ S)
 | rt t=>exact λv Z' H' S=>q v Z' H' (bk _ _ _ _ S)
noncomputable def eY(g:R->Rho->Option Rho) (b:Rho->Option (Fl×Rho)):List R->Rho->Option (Fl×Rho)
 | [],O=>some (.nx,O)
 | r::rs,O=>match g r O with
  | some O1=>(match b O1 with
   | some (.nx,O2)=>eY g b rs O2
   | some (.ct,O2)=>eY g b rs O2
   | some (.bk,O2)=>some (.nx,O2)
   | some (.rt t,O2)=>some (.rt t,O2)
   | none=>none)
  | none=>none
@[irreducible] noncomputable def bQ(it:MI)(g:MG)(b:MS):MS:=⟨λO=>match it.run O with
 | some ((srcs,items),O1)=>if(srcs.all (aE (g.mu++b.mu))&&items.all (aE (g.mu++b.mu)))=true then eY g.run b.run items O1 else none
 | none=>none,it.mu++(g.mu++b.mu)⟩
theorem xz{wi:TI}{g:TG}{tb:TS}{it:MI}{mg:MG}{b:MS}(hi:jJ K wi it)(hg:gO K g mg)(hb:dA K tb b):dA K (Df wi g tb) (bQ it mg b):=by
 intro Γ H O Z E D f O' hK hE hr S q;simp only[bQ]at hr q;split at hr
 ·rename_i srcs items O1 e1;split at hr
  ·rename_i al;rw[Ei]at al;refine hi Γ H O Z E _ srcs items O1 hK e1 S λΓ hK2 bk J vs H1 hlv S1 wk=>?_;replace hK:=hK2.trans hK;replace q:=IN.back bk q;rw[←ae]at q;have hE1:=bP (M:=it.mu) hE;generalize ah it.mu E=E1 at q S1 hE1;have ks:∀e∈ens vs srcs,aB (mg.mu++b.mu) e=true:=iq al.1;have kg:ah mg.mu (ens vs srcs++ah (mg.mu++b.mu) E1)=ens vs srcs++ah (mg.mu++b.mu) E1:=by
    rw[ay,b7 (λe he=>iT (λj hj=>yaL _ hj) (ks e he)),b8 (λj hj=>yaL _ hj)]
   have kb:ah b.mu (ens vs srcs++ah (mg.mu++b.mu) E1)=ens vs srcs++ah (mg.mu++b.mu) E1:=by
    rw[ay,b7 (λe he=>iT (λj hj=>yaR _ hj) (ks e he)),b8 (λj hj=>yaR _ hj)]
   have S2:=S1.weak (mg.mu++b.mu);rw[ay,b7 ks]at S2;have hE2:=bP (M:=mg.mu++b.mu) hE1;generalize ah (mg.mu++b.mu) E1=E2 at q kg kb S2 hE2;have hE3:∀e∈ens vs srcs++E2,e.key=none:=λe he=>by
    rcases yaM he with he|he;exact my e he;exact hE2 e he
   refine⟨λi m Z H=>m=items.length-i/\i<=items.length/\∃O,eY mg.run b.run (items.drop i) O=some (f,O')/\Sim Γ H O Z (ens vs srcs++E2),⟨items.length,by simp,Fd _,O1,by simpa using hr,S2⟩,?_⟩;rintro i m Z1 H2 ⟨rfl,hil,O2,h2,S3⟩;obtain⟨w1,w2⟩:=wk H2 O2 Z1 E2 S3;by_cases hlt:i<items.length
   ·have hx:items[i]?=some items[i]:=by simp[hlt]
    obtain⟨w3,w4⟩:=w2 i _ hx;rw[E9 hlt,eY]at h2;refine .inr ⟨w3,λZ' H'=>∃O,eY mg.run b.run (items.drop (i+1)) O=some (f,O')/\Sim Γ H' O Z' (ens vs srcs++E2),λZ' H' ⟨O3,h3,S4⟩=>⟨items.length-(i+1),by omega,rfl,hlt,O3,h3,S4⟩,λx H3 y=>?_⟩;have S4:=w4 x H3 y;split at h2
    ·rename_i O3 e3;refine hg Γ H3 O2 Z1 _ _ x _ O3 hK e3 S4 λZ2 H4 S5=>?_;rw[kg]at S5;split at h2
     ·rename_i O4 e4;exact hb Γ H4 O3 Z2 _ _ .nx O4 hK hE3 e4 S5 λZ' H' S6=>⟨O4,h2,by rw[kb]at S6;exact S6⟩
     ·rename_i O4 e4;exact hb Γ H4 O3 Z2 _ _ .ct O4 hK hE3 e4 S5 λZ' H' S6=>⟨O4,h2,by rw[kb]at S6;exact S6⟩
     ·rename_i O4 e4;cases h2;exact hb Γ H4 O3 Z2 _ _ .bk _ hK hE3 e4 S5 λZ' H' S6=>q Z' H' (by rw[kb]at S6;exact S6.drops)
     ·rename_i t O4 e4;cases h2;exact hb Γ H4 O3 Z2 _ _ (.rt t) _ hK hE3 e4 S5 q
     ·cases h2
    ·cases h2
   ·have e:i=items.length:=by omega
    subst e;rw[F7,eY]at h2;cases h2;exact .inl ⟨w1 _ (Eo _),q Z1 H2 S3.drops⟩
  ·cases hr
 ·cases hr
end
noncomputable def jh(π:Nat->Nat):Kd->Kd
 | .vw (some j) p=>.vw (some (π j)) p
 | k=>k
noncomputable def ge(π:Nat->Nat) (r:R):R:=⟨jh π r.k,r.t⟩
noncomputable def bn(π:Nat->Nat) (e:En):En:=⟨e.key.map π,e.v,ge π e.r⟩
section
variable {Γ:Gm}{H H':Hp}{O:Rho}{Z:St}{E X:List En}{v x y:V}{t:T}{K:yF}{Q:VK}{π:Nat->Nat}
theorem pD(k:Kd):(jh π k).isOw=k.isOw:=by
 cases k with
 | vw a b=>cases a<;>rfl
 | _=>rfl
theorem k8(k:Kd):(jh π k).root=k.root.map π:=by
 cases k with
 | vw a b=>cases a<;>rfl
 | _=>rfl
theorem Iv.ren(S:Iv Γ H X)(inj:∀e∈X,∀f∈X,∀a b,e.key=some a->f.key=some b->π a=π b->a=b):Iv Γ H (X.map (bn π)):=by
 obtain⟨L,g,rfl⟩:=S;have own:∀L:List Hd,(L.map λh:Hd=>(⟨bn π h.e,h.F⟩:Hd)).flatMap Hd.own=L.flatMap Hd.own:=by
  intro L
  induction L with
  | nil=>rfl
  | cons h L ih=>
   rw[Ek,Ew,Ew,ih];congr 1;unfold Hd.own;show(if(jh π h.e.r.k).isOw=true then h.F else [])=_;rw[pD]
 refine⟨L.map λh=>⟨bn π h.e,h.F⟩,⟨by rw[own];exact g.nd,by rw[own];exact g.ad,λh hh=>?_,λh hh=>?_,?_,g.fr,g.iol⟩,by rw[FM,FM];rfl⟩
 ·obtain⟨h0,h1,rfl⟩:=Ev.mp hh;exact g.rp h0 h1
 ·obtain⟨h0,h1,rfl⟩:=Ev.mp hh;have k:=g.kd h0 h1;unfold IC at k⊢;show match jh π h0.e.r.k with
   | .ow=>_|.io k=>_|.vw none _=>_|.vw (some j) p=>_
  cases ek:h0.e.r.k with
  | ow=>rw[ek]at k;exact k
  | io n=>rw[ek]at k;exact k
  | vw a p=>
   rw[ek]at k;cases a with
   | none=>rw[own];exact k
   | some j=>
    obtain⟨x,x1,x2,x3,x4,x5⟩:=k;refine⟨⟨bn π x.e,x.F⟩,EV x1,by show x.e.key.map π=_;rw[x2];rfl,by show(jh π x.e.r.k).isOw=true;rw[pD];exact x3,λa ha=>by rw[own];exact x4 a ha,x5⟩
 ·rw[Ge];have e:(λh:Hd=>h.e.key)∘(λh:Hd=>(⟨bn π h.e,h.F⟩:Hd))=λh=>h.e.key.map π:=rfl;rw[e];have:∀L':List Hd,(∀h∈L',h∈L)->(L'.filterMap λh=>h.e.key).Nodup->(L'.filterMap λh=>h.e.key.map π).Nodup:=by
   intro L'
   induction L' with
   | nil=>intro _ _;exact FI
   | cons h L' ih=>
    intro hs nd;rw[EI]at nd⊢;cases ek:h.e.key with
    | none=>rw[ek]at nd;exact ih (λx hx=>hs x (ymC _ hx)) nd
    | some a=>
     rw[ek]at nd;obtain⟨n1,n2⟩:=EF.mp nd;refine EF.mpr ⟨λhm=>?_,ih (λx hx=>hs x (ymC _ hx)) n2⟩;obtain⟨y,hy,ey⟩:=EX.mp hm;cases eb:y.e.key with
     | none=>rw[eb]at ey;cases ey
     | some b=>
      rw[eb]at ey;have e2 : π b=π a:=ET.inj ey;have:=inj y.e (EV (hs y (ymC _ hy))) h.e (EV (hs h ymS)) b a eb ek e2;subst this;exact n1 (EX.mpr ⟨y,hy,eb⟩)
  exact this L (λ_ h=>h) g.ks
theorem Iv.filt(S:Iv Γ H X)(p:En->Bool)(hp:∀e∈X,p e=true->∀j,e.r.k.root=some j->∀f∈X,f.key=some j->p f=true):Iv Γ H (X.filter p):=by
 obtain⟨L,g,rfl⟩:=S;refine⟨L.filter λh=>p h.e,g.sub Fh λh hh j hj x hx hk ho=>?_,by rw[Gd];rfl⟩;obtain⟨h1,h2⟩:=Er.mp hh;exact Er.mpr ⟨hx,hp h.e (EV h1) h2 j hj x.e (EV hx) hk⟩
theorem IB{e:En}:e∈aD 0 Z O ↔ ∃i,e.key=some i/\O[i]?=some (some e.r)/\Z[i]?=some (some e.v):=by
 constructor
 ·intro h;obtain⟨i,h1,h2,h3⟩:=cO h;exact⟨i,by rw[h1,Fb],h2,h3⟩
 ·rintro⟨i,h1,h2,h3⟩;have:=(bv (k:=0) h3 h2).mem_iff.mpr ymS;have e':e=⟨some (0+i),e.v,e.r⟩:=by cases e;simp only[En.mk.injEq,and_self,and_true,Fb];exact h1
  rw[e'];exact this
theorem lB:∀{k:Nat} {Z:List (Option V)} {O:Rho},(aD k Z O).Pairwise λa b=>∃i j,a.key=some i/\b.key=some j/\i<j
 | _,[],_=>List.Pairwise.nil
 | _,x::_,[]=>by cases x<;>exact List.Pairwise.nil
 | k,x::Z,y::O=>by
  have ih:=lB (k:=k+1) (Z:=Z) (O:=O);cases x with
  | none=>simpa[aD]using ih
  | some v=>
   cases y with
   | none=>simpa[aD]using ih
   | some r=>
    simp only[aD];refine List.Pairwise.cons (λb hb=>?_) ih;obtain⟨i,h1,_,_⟩:=cO hb;exact⟨k,k+1+i,rfl,h1,by omega⟩
theorem IJ{k:Nat}:(aD k Z O).Nodup:=by
 refine List.Pairwise.imp ?_ lB;rintro a b ⟨i,j,h1,h2,h3⟩ rfl;rw[h1]at h2;cases h2;omega
noncomputable def bO(fr:List (Option Nat)) (j:Nat):Bool:=match fr[j]? with
 | some (some i)=>i==j
 | _=>false
noncomputable def piF(fr:List (Option Nat)) (j:Nat):Nat:=if bO fr j=true then j else fr.length+j
noncomputable def psF(fr:List (Option Nat)) (k:Nat):Nat:=if k<fr.length then k else k-fr.length
noncomputable def jw(π:Nat->Nat):Nat->List (Option Nat)->Rho->Rho
 | _,[],_=>[]
 | k,o::fr,r::O=>(if o=some k then r.map (ge π)else none)::jw π (k+1) fr O
 | k,o::fr,[]=>none::jw π (k+1) fr []
noncomputable def inR(fr:List (Option Nat)) (O:Rho):Rho:=jw (piF fr) 0 fr O
noncomputable def gN(ψ : Nat->Nat) (tg mu:List Nat):Nat->List (Option Nat)->Rho->Rho->Rho
 | k,o::fr,ri::Oi,r::O=>(if o=some k then(cb tg ri).map (ge ψ)else cb mu r)::gN ψ tg mu (k+1) fr Oi O
 | _,[],_,O=>O.map (cb mu)
 | _,_::_,[],O=>O.map (cb mu)
 | _,_::_,_::_,[]=>[]
noncomputable def tgF(fr:List (Option Nat)):List Nat:=(EU fr.length).filter λi=>!bO fr i
noncomputable def muF(fr:List (Option Nat)) (mu:List Nat):List Nat:=mu.filter (bO fr)
noncomputable def bU(fr:List (Option Nat)) (mu:List Nat) (Oi O:Rho):Rho:=gN (psF fr) (tgF fr) (muF fr mu) 0 fr Oi O
theorem IK{fr:List (Option Nat)}{j:Nat}:bO fr j=true↔fr[j]?=some (some j):=by
 unfold bO;split;rename_i i h;rw[h];simp
 ·rename_i h;constructor;intro z;cases z;intro z;exact absurd z (h j)
theorem jQ:∀{k:Nat} {fr:List (Option Nat)} {O:Rho} {i:Nat} {r':R},(jw π k fr O)[i]?=some (some r')↔fr[i]?=some (some (k+i))/\∃r,O[i]?=some (some r)/\r'=ge π r
 | k,[],O,i,r'=>by simp[jw]
 | k,o::fr,[],0,r'=>by simp[jw]
 | k,o::fr,[],i+1,r'=>by
  rw[jw,Fq,jQ (k:=k+1) (fr:=fr) (O:=[]) (i:=i)];simp
 | k,o::fr,r::O,0,r'=>by
  rw[jw,FC,FC,FC];by_cases h:o=some k
  ·subst h;rw[if_pos rfl];cases r with
   | none=>simp
   | some r=>simp[eq_comm]
  ·rw[if_neg h];constructor;intro z;cases z;rintro⟨h1,_⟩;exact absurd (by simpa using h1) h
 | k,o::fr,r::O,i+1,r'=>by
  rw[jw,Fq,Fq,Fq,jQ (k:=k+1) (fr:=fr) (O:=O) (i:=i),show k+1+i=k+(i+1) by omega]
theorem iu:∀{k:Nat} {fr:List (Option Nat)} {O:Rho},(jw π k fr O).length=fr.length
 | k,[],O=>rfl
 | k,o::fr,[]=>by rw[jw,Ey,iu,Ey]
 | k,o::fr,r::O=>by rw[jw,Ey,iu,Ey]
theorem IP{fr:List (Option Nat)}{i:Nat}{r':R}:(inR fr O)[i]?=some (some r')↔bO fr i=true/\∃r,O[i]?=some (some r)/\r'=ge (piF fr) r:=by
 unfold inR;rw[jQ,Fb,IK]
theorem iw{fr:List (Option Nat)}{i:Nat}(h:bO fr i=true):(aL fr Z)[i]?=some (Z.getD i none):=by
 unfold aL;rw[Ep,IK.mp h];rfl
theorem getD_some{i:Nat}{v:V}:Z.getD i none=some v↔Z[i]?=some (some v):=by
 rw[EL];cases h:Z[i]? with
 | none=>simp
 | some o=>simp
theorem dv{fr:List (Option Nat)}{j:Nat}(h:bO fr j=true):piF fr j=j:=by unfold piF;rw[if_pos h]
theorem cm{fr:List (Option Nat)}{j:Nat}(h:bO fr j=false):piF fr j=fr.length+j:=by unfold piF;rw[if_neg (by rw[h];simp)]
theorem bF{fr:List (Option Nat)}{j:Nat}(h:bO fr j=true):j<fr.length:=(Eg.mp (IK.mp h)).1
theorem wK{fr:List (Option Nat)}{a b:Nat}(h:piF fr a=piF fr b):a=b:=by
 cases ha:bO fr a<;>cases hb:bO fr b;rw[cm ha,cm hb]at h;omega;rw[cm ha,dv hb]at h;have:=bF hb;omega;rw[dv ha,cm hb]at h;have:=bF ha;omega;rw[dv ha,dv hb]at h;exact h
theorem ue{fr:List (Option Nat)}(a:Nat):psF fr (piF fr a)=a:=by
 cases ha:bO fr a;rw[cm ha];unfold psF;rw[if_neg (by omega)];omega;rw[dv ha];unfold psF;rw[if_pos (bF ha)]
theorem lX{fr:List (Option Nat)}(e:En):bn (psF fr) (bn (piF fr) e)=e:=by
 obtain⟨key,v,⟨k,t⟩⟩:=e;have h1:(key.map (piF fr)).map (psF fr)=key:=by cases key<;>simp[ue]
 have h2:jh (psF fr) (jh (piF fr) k)=k:=by
  cases k with
  | vw a p=>cases a<;>simp[jh,ue]
  | _=>rfl
 show(⟨(key.map (piF fr)).map (psF fr),v,⟨jh (psF fr) (jh (piF fr) k),t⟩⟩:En)=_;rw[h1,h2]
noncomputable def eI(fr:List (Option Nat)) (e:En):Bool:=match e.key with
 | some j=>bO fr j
 | none=>false
theorem i7{α β:Type}{f : α->β}{l:List α}(h:l.Nodup)(inj:∀a∈l,∀b∈l,f a=f b->a=b):(l.map f).Nodup:=by
 induction l with
 | nil=>exact FI
 | cons a l ih=>
  obtain⟨h1,h2⟩:=EF.mp h;rw[Ek];refine EF.mpr ⟨λhm=>?_,ih h2 λx hx y hy=>inj x (ymC _ hx) y (ymC _ hy)⟩;obtain⟨b,hb,e⟩:=Ev.mp hm;have:=inj b (ymC _ hb) a ymS e;subst this;exact h1 hb
theorem inn_perm{fr:List (Option Nat)}:((aD 0 Z O).map (bn (piF fr))).Perm (aD 0 (aL fr Z) (inR fr O)++((aD 0 Z O).filter λe=>!eI fr e).map (bn (piF fr))):=by
 have inj:∀a∈aD 0 Z O,∀b∈aD 0 Z O,bn (piF fr) a=bn (piF fr) b->a=b:=λa _ b _ h=>by
  have:=congrArg (bn (psF fr)) h;rwa [lX,lX]at this
 have nd1:=i7 (IJ (k:=0) (Z:=Z) (O:=O)) inj;have nd2:(((aD 0 Z O).filter λe=>!eI fr e).map (bn (piF fr))).Nodup:=nd1.sublist (Fh.map _);refine(GH nd1 (Em.mpr ⟨IJ,nd2,?_⟩)).mpr λe=>?_
 ·rintro a ha b hb rfl;obtain⟨i,h1,h2,h3⟩:=IB.mp ha;obtain⟨hc,_⟩:=IP.mp h2;obtain⟨f,hf,rfl⟩:=Ev.mp hb;obtain⟨hf1,hf2⟩:=Er.mp hf;obtain⟨j,g1,g2,g3⟩:=IB.mp hf1;have g0:bO fr j=false:=by unfold eI at hf2;rw[g1]at hf2;simpa using hf2
  have h1':(f.key.map (piF fr))=some i:=h1;rw[g1]at h1';have h1'':piF fr j=i:=by simpa using h1'
  rw[cm g0]at h1'';have:=bF hc;omega
 ·rw[Gb];constructor
  ·intro he;obtain⟨f,hf,rfl⟩:=Ev.mp he;obtain⟨j,g1,g2,g3⟩:=IB.mp hf;cases hc:bO fr j;exact .inr (Ev.mpr ⟨f,Er.mpr ⟨hf,by unfold eI;rw[g1];simp[hc]⟩,rfl⟩)
   ·left;refine IB.mpr ⟨j,?_,IP.mpr ⟨hc,_,g2,rfl⟩,?_⟩
    ·show f.key.map (piF fr)=_;rw[g1];simp[dv hc]
    ·rw[iw hc,getD_some.mpr g3];rfl
  ·rintro(he|he)
   ·obtain⟨i,h1,h2,h3⟩:=IB.mp he;obtain⟨hc,r,h4,h5⟩:=IP.mp h2;rw[iw hc]at h3;have h3':=getD_some.mp (ET.inj h3);refine Ev.mpr ⟨⟨some i,e.v,r⟩,IB.mpr ⟨i,rfl,h4,h3'⟩,?_⟩;cases e;simp only at h1 h5;simp[bn,dv hc,h1,h5]
   ·obtain⟨f,hf,rfl⟩:=Ev.mp he;exact EV (Er.mp hf).1
noncomputable def cE(fr:List (Option Nat)) (Z:St) (O:Rho) (E:List En):List En:=(E++(aD 0 Z O).filter λe=>!eI fr e).map (bn (piF fr))
noncomputable def cA(fr:List (Option Nat)) (n:Nat):Bool:=decide (n<=fr.length)&&(EU fr.length).all λi=>!bO fr i||decide (i<n)
theorem lE{fr:List (Option Nat)}{n j:Nat}(h:cA fr n=true)(hc:bO fr j=true):j<n:=by
 unfold cA at h;rw[Ei]at h;have:=E6.mp h.2 j (Fi.mpr (bF hc));rw[hc]at this;simpa using this
theorem Sim.inn{fr:List (Option Nat)}(S:Sim Γ H O Z E)(hf:cA fr O.length=true):Sim Γ H (inR fr O) (aL fr Z) (cE fr Z O E):=by
 refine⟨?_,λi r h=>?_,by rw[bC];unfold inR;rw[iu],λe he j hj=>?_⟩
 ·have:=S.sl.ren (π:=piF fr) λe _ f _ a b _ _ h=>wK h;rw[Es]at this;refine this.perm ?_;unfold cE;rw[Es,Eu];exact(inn_perm.append_left _).trans (List.perm_append_comm.append_left _)
 ·obtain⟨hc,r0,h1,_⟩:=IP.mp h;obtain⟨v,hv⟩:=S.al i r0 h1;exact⟨v,by rw[iw hc,getD_some.mpr hv]⟩
 ·unfold inR;rw[iu];unfold cE at he;obtain⟨f,hf',rfl⟩:=Ev.mp he;have hj':f.key.map (piF fr)=some j:=hj;cases hk:f.key with
  | none=>rw[hk]at hj';cases hj'
  | some i=>
   rw[hk]at hj';have e1:piF fr i=j:=by simpa using hj'
   have hc:bO fr i=false:=by
    rcases yaM hf' with z|z
    ·cases hc:bO fr i with
     | false=>rfl
     | true=>
      have:=lE hf hc;have:=S.hi f z i hk;omega
    ·have:=(Er.mp z).2;unfold eI at this;rw[hk]at this;simpa using this
   rw[cm hc]at e1;omega
theorem kY{ψ : Nat->Nat}{tg mu:List Nat}:∀{k:Nat} {fr:List (Option Nat)} {Oi O:Rho} {i:Nat},i < O.length->O.length<=fr.length->fr.length=Oi.length->(gN ψ tg mu k fr Oi O)[i]?=some (if fr[i]?=some (some (k+i))then(cb tg (Oi.getD i none)).map (ge ψ)else cb mu (O.getD i none))
 | k,fr,Oi,[],i,h,_,_=>by cases h
 | k,[],Oi,r::O,i,_,h,_=>by simp at h
 | k,o::fr,[],r::O,i,_,_,h=>by cases h
 | k,o::fr,ri::Oi,r::O,0,h,h2,h3=>by
  rw[gN,FC,FC];simp
 | k,o::fr,ri::Oi,r::O,i+1,h,h2,h3=>by
  rw[gN,Fq,kY (k:=k+1) (by simpa using h) (by simpa using h2) (by simpa using h3),Fq,show k+1+i=k+(i+1) by omega];simp
theorem ja{ψ : Nat->Nat}{tg mu:List Nat}:∀{k:Nat} {fr:List (Option Nat)} {Oi O:Rho},(gN ψ tg mu k fr Oi O).length=O.length
 | k,[],Oi,O=>by cases Oi<;>simp[gN]
 | k,o::fr,[],O=>by simp[gN]
 | k,o::fr,ri::Oi,[]=>by simp[gN]
 | k,o::fr,ri::Oi,r::O=>by rw[gN,Ey,ja,Ey]
theorem iL{fr:List (Option Nat)}{i:Nat}:i∈tgF fr↔i<fr.length/\bO fr i=false:=by
 unfold tgF;rw[Er,Fi];simp
theorem IL{M:List Nat}{o:Option R}{r:R}:cb M o=some r↔o=some r/\db M r=true:=by
 cases o with
 | none=>simp[cb]
 | some x=>
  simp only[cb];split
  ·rename_i h;constructor;intro z;cases z;exact⟨rfl,h⟩;rintro⟨z,_⟩;rw[z]
  ·rename_i h;constructor;intro z;cases z;rintro⟨z,h2⟩;cases z;exact absurd h2 h
theorem sy{fr:List (Option Nat)}{mu:List Nat}(hmu:∀j∈mu,j<fr.length)(e:En):aB mu (bn (piF fr) e)=aB (muF fr mu) e:=by
 unfold aB;show(match (jh (piF fr) e.r.k).root with|some j=>!mu.contains j|none=>true)=_;rw[k8];cases e.r.k.root with
 | none=>rfl
 | some j=>
  show(!mu.contains (piF fr j)) = !(muF fr mu).contains j;congr 1;rw[EY];simp only[Fp,decide_eq_true_eq,muF,Er];cases hc:bO fr j
  ·rw[cm hc];constructor;intro z;have:=hmu _ z;omega;rintro⟨_,z⟩;cases z
  ·rw[dv hc];simp
theorem vX{fr:List (Option Nat)}(e:En):aB (tgF fr) (bn (piF fr) e)=true:=by
 unfold aB;show(match (jh (piF fr) e.r.k).root with|some j=>!(tgF fr).contains j|none=>true)=_;rw[k8];cases e.r.k.root with
 | none=>rfl
 | some j=>
  show(!(tgF fr).contains (piF fr j))=true;simp only[Fp,EM,decide_eq_false_iff_not,iL];rintro⟨h1,h2⟩;cases hc:bO fr j;rw[cm hc]at h1;omega;rw[dv hc,hc]at h2;cases h2
theorem Sim.outt{fr:List (Option Nat)}{mu:List Nat}{Oi:Rho}{Z2:St}(S:Sim Γ H' Oi Z2 (ah mu (cE fr Z O E)))(hf:cA fr O.length=true)(hmu:∀j∈mu,j<fr.length)(hl : Oi.length=fr.length)(kp:Kp fr (aL fr Z) Z2)
  (al:∀(i:Nat) r,O[i]?=some (some r)->∃v,Z[i]?=some (some v)) (len:Z.length=O.length) (hi:∀e∈E,∀j,e.key=some j->O.length<=j):Sim Γ H' (bU fr mu Oi O) Z (ah (muF fr mu) E):=by
 have hn : O.length<=fr.length:=by unfold cA at hf;rw[Ei,decide_eq_true_eq]at hf;exact hf.1
 have val:∀{i:Nat} {w:V},bO fr i=true->Z2[i]?=some (some w)->Z[i]?=some (some w):=λ{i w} hc h=>by
  rw[kp.2 i i (IK.mp hc),iw hc]at h;exact getD_some.mp (ET.inj h)
 have eE:ah mu (cE fr Z O E)=(ah (muF fr mu) (E++(aD 0 Z O).filter λe=>!eI fr e)).map (bn (piF fr)):=by
  unfold cE ah;rw[Gd];congr 1;apply Gj;intro e _;exact sy hmu e
 have s1:=(S.sl.kill (tgF fr));rw[ay,eE]at s1;have e1:ah (tgF fr) ((ah (muF fr mu) (E++(aD 0 Z O).filter λe=>!eI fr e)).map (bn (piF fr)))=(ah (muF fr mu) (E++(aD 0 Z O).filter λe=>!eI fr e)).map (bn (piF fr)):=by
  unfold ah;rw[Fw];intro e he;obtain⟨f,_,rfl⟩:=Ev.mp he;exact vX f
 rw[e1]at s1
 let p:En->Bool:=λe=>match e.key with
  | some k=>!(tgF fr).contains k
  | none=>true
 have kout:∀f∈E++(aD 0 Z O).filter λe=>!eI fr e,∀j,f.key=some j->bO fr j=false:=λf hf' j hj=>by
  rcases yaM hf' with z|z
  ·cases hc:bO fr j with
   | false=>rfl
   | true=>have:=lE hf hc;have:=hi f z j hj;omega
  ·have:=(Er.mp z).2;unfold eI at this;rw[hj]at this;simpa using this
 have pO:∀e∈(ah (muF fr mu) (E++(aD 0 Z O).filter λe=>!eI fr e)).map (bn (piF fr)),p e=true:=λe he=>by
  obtain⟨f,hf',rfl⟩:=Ev.mp he;have hf'':=(Er.mp hf').1;show(match f.key.map (piF fr)with|some k=>!(tgF fr).contains k|none=>true)=true;cases hk:f.key with
  | none=>rfl
  | some j=>
   have:=kout f hf'' j hk;simp only[FV,Fp,EM,decide_eq_false_iff_not,iL];rw[cm this];omega
 have s2:=s1.filt p λe he _ j hj f hf' hk=>by
  show(match f.key with|some k=>!(tgF fr).contains k|none=>true)=true;rw[hk];have hm:e∈ah (tgF fr) (ah mu (cE fr Z O E)++aD 0 Z2 Oi):=by rw[ay,eE,e1];exact he
  by_cases hj':j∈tgF fr;exact absurd hj (j0 (M:=tgF fr) (i:=j) hj' e hm);simp[hj']
 rw[Fa,Fw.mpr pO]at s2;have s3:=s2.ren (π:=psF fr) (λe he f hf' a b ha hb hab=>by
  have key:∀e∈(ah (muF fr mu) (E++(aD 0 Z O).filter λe=>!eI fr e)).map (bn (piF fr))++(ah (tgF fr) (aD 0 Z2 Oi)).filter p,∀a,e.key=some a->(∃j,a=fr.length+j/\bO fr j=false)∨bO fr a=true:=λe he a ha=>by
   rcases yaM he with z|z
   ·left;obtain⟨g,hg,rfl⟩:=Ev.mp z;have hg':=(Er.mp hg).1;have ha':g.key.map (piF fr)=some a:=ha;cases hk:g.key with
    | none=>rw[hk]at ha';cases ha'
    | some j=>
     have hc:=kout g hg' j hk;rw[hk]at ha';have:piF fr j=a:=by simpa using ha'
     exact⟨j,by rw[←this,cm hc],hc⟩
   ·right;obtain⟨z1,z2⟩:=Er.mp z;obtain⟨i,h1,h2,h3⟩:=IB.mp (Er.mp z1).1;rw[ha]at h1;cases h1;have z2':(match e.key with|some k=>!(tgF fr).contains k|none=>true)=true:=z2;rw[ha]at z2';have hlt:a<fr.length:=by
     have:=(Eg.mp h2).1;omega
    simp only[Fp,EM,decide_eq_false_iff_not,iL]at z2';cases hc:bO fr a with
    | true=>rfl
    | false=>exact absurd ⟨hlt,hc⟩ z2'
  rcases key e he a ha with⟨j,rfl,hj⟩|hj<;>rcases key f hf' b hb with⟨j',rfl,hj'⟩|hj';unfold psF at hab;rw[if_neg (by omega),if_neg (by omega)]at hab;omega
  ·unfold psF at hab;rw[if_neg (by omega),if_pos (bF hj')]at hab;have:j=b:=by omega
   subst this;rw[hj]at hj';cases hj'
  ·unfold psF at hab;rw[if_pos (bF hj),if_neg (by omega)]at hab;have:j'=a:=by omega
   subst this;rw[hj']at hj;cases hj
  ·unfold psF at hab;rw[if_pos (bF hj),if_pos (bF hj')]at hab;exact hab)
 rw[Es,FM]at s3;have e2:(ah (muF fr mu) (E++(aD 0 Z O).filter λe=>!eI fr e)).map (bn (psF fr)∘bn (piF fr))=ah (muF fr mu) (E++(aD 0 Z O).filter λe=>!eI fr e):=by
  conv=>rhs;rw[←List.map_id (ah (muF fr mu) (E++(aD 0 Z O).filter λe=>!eI fr e))]
  apply GA;intro e _;exact lX e
 rw[e2,ay,Eu]at s3;have olen:(bU fr mu Oi O).length=O.length:=by unfold bU;exact ja
 have oget:∀{i:Nat} {r:R},(bU fr mu Oi O)[i]?=some (some r)↔i < O.length/\((bO fr i=true/\∃r0,Oi[i]?=some (some r0)/\db (tgF fr) r0=true/\r=ge (psF fr) r0)∨(bO fr i=false/\O[i]?=some (some r)/\db (muF fr mu) r=true)):=λ{i r}=>by
  by_cases hlt:i < O.length
  ·unfold bU;rw[kY hlt hn hl.symm,Fb];cases hc:bO fr i
   ·rw[if_neg (λz=>by rw[IK.mpr z]at hc;cases hc)];rw[ET.injEq,IL];have : O.getD i none=some r↔O[i]?=some (some r):=by
     rw[EL];cases O[i]?<;>simp
    rw[this];simp[hlt]
   ·rw[if_pos (IK.mp hc)];rw[ET.injEq,Option.map_eq_some_iff];constructor
    ·rintro⟨r0,h1,h2⟩;obtain⟨h3,h4⟩:=IL.mp h1;refine⟨hlt,.inl ⟨rfl,r0,?_,h4,h2.symm⟩⟩;rw[EL]at h3;cases h5 : Oi[i]? with
     | none=>rw[h5]at h3;cases h3
     | some o=>rw[h5]at h3;have:o=some r0:=h3;rw[this]
    ·rintro⟨_,⟨_,r0,h1,h2,h3⟩|⟨z,_⟩⟩;exact⟨r0,IL.mpr ⟨by rw[EL,h1];rfl,h2⟩,h3.symm⟩;cases z
  ·constructor
   ·intro z;have:=(Eg.mp z).1;rw[olen]at this;exact absurd this hlt
   ·rintro⟨z,_⟩;exact absurd z hlt
 refine⟨s3.perm (List.Perm.append_left _ ?_),λi r h=>?_,by rw[olen];exact len,λe he j hj=>by rw[olen];exact hi e (Er.mp he).1 j hj⟩
 ·have ndA:(ah (muF fr mu) ((aD 0 Z O).filter λe=>!eI fr e)).Nodup:=IJ.sublist (Fh.trans Fh);have inB:∀e∈(ah (tgF fr) (aD 0 Z2 Oi)).filter p,∃i,e.key=some i/\bO fr i=true/\Oi[i]?=some (some e.r)/\Z2[i]?=some (some e.v)/\db (tgF fr) e.r=true:=λe he=>by
   obtain⟨z1,z2⟩:=Er.mp he;obtain⟨z3,z4⟩:=Er.mp z1;obtain⟨i,h1,h2,h3⟩:=IB.mp z3;have z2':(match e.key with|some k=>!(tgF fr).contains k|none=>true)=true:=z2;rw[h1]at z2';have hlt:i<fr.length:=by
    have:=(Eg.mp h2).1;omega
   simp only[Fp,EM,decide_eq_false_iff_not,iL]at z2';refine⟨i,h1,?_,h2,h3,z4⟩;cases hc:bO fr i with
   | true=>rfl
   | false=>exact absurd ⟨hlt,hc⟩ z2'
  have ndB:(((ah (tgF fr) (aD 0 Z2 Oi)).filter p).map (bn (psF fr))).Nodup:=by
   refine i7 (IJ.sublist (Fh.trans Fh)) λa ha b hb h=>?_;obtain⟨i,h1,h2,h3,h4,_⟩:=inB a ha;obtain⟨j,g1,g2,g3,g4,_⟩:=inB b hb;have hk:a.key.map (psF fr)=b.key.map (psF fr):=congrArg En.key h;rw[h1,g1]at hk;have hk':psF fr i=psF fr j:=by simpa using hk
   unfold psF at hk';rw[if_pos (bF h2),if_pos (bF g2)]at hk';subst hk';rw[h3]at g3;rw[h4]at g4;cases a;cases b;simp only at h1 g1 g3 g4;have e1:=ET.inj (ET.inj g3);have e2:=ET.inj (ET.inj g4);simp[h1,g1,e1,e2]
  refine(GH (Em.mpr ⟨ndA,ndB,?_⟩) IJ).mpr λe=>?_
  ·rintro a ha b hb rfl;obtain⟨f,hf',hfe⟩:=Ev.mp hb;obtain⟨i,h1,h2,_⟩:=inB f hf';have hk:f.key.map (psF fr)=a.key:=congrArg En.key hfe;rw[h1]at hk;have hk':a.key=some i:=by rw[←hk];simp[psF,bF h2]
   obtain⟨y1,y2⟩:=Er.mp (Er.mp ha).1;unfold eI at y2;rw[hk']at y2;simp[h2]at y2
  ·rw[Gb,IB];constructor
   ·rintro(he|he)
    ·obtain⟨z1,z2⟩:=Er.mp he;obtain⟨z3,z4⟩:=Er.mp z1;obtain⟨i,h1,h2,h3⟩:=IB.mp z3;unfold eI at z4;rw[h1]at z4;refine⟨i,h1,oget.mpr ⟨(Eg.mp h2).1,.inr ⟨by simpa using z4,h2,z2⟩⟩,h3⟩
    ·obtain⟨f,hf',rfl⟩:=Ev.mp he;obtain⟨i,h1,h2,h3,h4,h5⟩:=inB f hf';refine⟨i,?_,oget.mpr ⟨lE hf h2,.inl ⟨h2,f.r,h3,h5,rfl⟩⟩,val h2 h4⟩;show f.key.map (psF fr)=some i;rw[h1];simp[psF,bF h2]
   ·rintro⟨i,h1,h2,h3⟩;obtain⟨hlt,⟨hc,r0,g1,g2,g3⟩|⟨hc,g1,g2⟩⟩:=oget.mp h2
    ·right;obtain⟨w,hw⟩:=S.al i r0 g1;have hw':=val hc hw;rw[h3]at hw';have ew:e.v=w:=ET.inj (ET.inj hw');refine Ev.mpr ⟨⟨some i,w,r0⟩,Er.mpr ⟨Er.mpr ⟨IB.mpr ⟨i,rfl,g1,hw⟩,g2⟩,?_⟩,?_⟩
     ·show(!(tgF fr).contains i)=true;simp only[Fp,EM,decide_eq_false_iff_not,iL];rintro⟨_,z⟩;rw[hc]at z;cases z
     ·cases e;simp only at h1 g3 ew;simp[bn,h1,g3,ew,psF,bF hc]
    ·left;refine Er.mpr ⟨Er.mpr ⟨IB.mpr ⟨i,h1,g1,h3⟩,?_⟩,g2⟩;unfold eI;rw[h1];simp[hc]
 ·obtain⟨hlt,⟨hc,r0,g1,g2,g3⟩|⟨hc,g1,g2⟩⟩:=oget.mp h
  ·obtain⟨w,hw⟩:=S.al i r0 g1;exact⟨w,val hc hw⟩
  ·exact al i r g1
end
section
variable {Γ:Gm}{H H':Hp}{O:Rho}{Z:St}{E X:List En}{v x y:V}{t:T}{K:yF}{Q:VK}
theorem Sim.mkL{vs:List V}{ts:List T}{p:Addr}(S:Sim Γ H O Z (au vs ts++E))(hl:vs.length=ts.length)(hp:H p=none):Sim Γ (upd H p (.lst vs)) O Z (⟨none,.ref p,⟨.ow,bH ts⟩⟩::E):=by
 obtain⟨F,h1,h2,h3,h4⟩:=S.use hl;have sm:=IG.laid (o:=.lst vs) hp;have np:p∉F:=λz=>by obtain⟨o,e,_⟩:=h3 p z;rw[hp]at e;cases e
 refine h4 _ (.ref p) (bH ts) (p::F) (sm.offM _) (λa ha=>let ⟨o,e,_⟩:=h3 a ha;⟨o,sm a o e⟩) (EF.mpr ⟨np,h2⟩) (λa ha=>?_) ?_
 ·rcases ycM ha with rfl|ha;exact⟨.inr hp,_,aA,rfl⟩;exact⟨.inl ha,let ⟨o,e,m⟩:=h3 a ha;⟨o,sm a o e,m⟩⟩
 ·unfold bH;split
  ·rename_i is hi;rw[lG hi]at h1;obtain⟨h5,h6⟩:=Rps.ims.mp h1;subst h6;rw[Rp];exact⟨p,vs,rfl,.inl aA,h5.same sm,rfl⟩
  ·rw[Rp];exact⟨p,vs,F,rfl,.inl aA,h1.same sm,rfl⟩
theorem jk{t:T}:∀{vs:List V} {ts:List T},vs.length=ts.length->au (vs++[v]) (ts++[t])=au vs ts++[⟨none,v,⟨.ow,t⟩⟩]
 | [],[],_=>rfl
 | a::vs,b::ts,h=>by
  rw[EC,EC,au,au,jk (by simpa using h),EC]
 | [],_::_,h=>by cases h
 | _::_,[],h=>by cases h
theorem cD{M:List Nat}:∀{vs:List V} {ts:List T},ah M (au vs ts)=au vs ts
 | [],ts=>by cases ts<;>rfl
 | a::vs,[]=>rfl
 | a::vs,b::ts=>by rw[au,ar rfl,cD]
noncomputable def bh(fr:List (Option Nat)) (M:List Nat) (g:MG) (c:MT) (e:ME):List R->Rho->List T->Option (List T×Rho)
 | [],O,acc=>some (acc,O)
 | r::rs,O,acc=>match g.run (ge (piF fr) r) (inR fr O)with
  | some O1=>(match c.run O1 with
   | some (true,O2)=>(match e.run O2 with
    | some (⟨.ow,t⟩,O3)=>bh fr M g c e rs (bU fr M O3 O) (acc++[t])
    | _=>none)
   | some (false,O2)=>bh fr M g c e rs (bU fr M O2 O) acc
   | none=>none)
  | none=>none
theorem cF{fr:List (Option Nat)}{e:En}:cE fr Z O (e::E)=bn (piF fr) e::cE fr Z O E:=rfl
theorem f8{fr:List (Option Nat)}{M:List Nat}{Oi:Rho}:(bU fr M Oi O).length=O.length:=ja
theorem kF{J:It}{fr:List (Option Nat)}{g:TG}{tc:TT}{te:TE}{mg:MG}{c:MT}{e:ME}{M:List Nat}{vs:List V}{srcs:List R}{items:List R}{N:List V->Hp->Prop}(hK : Γ.K=K)(wk:gP Γ J vs srcs items)(hgk:b9 fr g)(hg:gO K g mg)(hc:dR K tc c)(he:aP K te e)(hM:M=mg.mu++(c.mu++e.mu))
  (hmu:∀j∈M,j<fr.length) (ks:∀e∈ens vs srcs,aB (muF fr M) e=true) {E2:List En} (kE:ah (muF fr M) E2=E2) {tsF:List T} {OF:Rho} {acc0:List V} {ts0:List T} (hl0:acc0.length=ts0.length) (hz:acc0.length+items.length<sizeLine)
  (hf:cA fr O.length=true) (S:Sim Γ H O Z (ens vs srcs++(au acc0 ts0++E2))) (hr:bh fr M mg c e items O ts0=some (tsF,OF))
  (q:∀acc H',acc.length=tsF.length->acc.length<=acc0.length+items.length->OF.length=O.length->Sim Γ H' OF Z (ens vs srcs++(au acc tsF++E2))->N acc H'):rH J (aL fr Z) g tc te acc0 H N:=by
 have kE2:∀acc ts,ah (muF fr M) (ens vs srcs++(au acc ts++E2))=ens vs srcs++(au acc ts++E2):=λacc ts=>by rw[ay,b7 ks,ay,cD,kE]
 refine⟨λi m acc H=>m=items.length-i/\i<=items.length/\acc.length<=acc0.length+i/\∃O1 ts,bh fr M mg c e (items.drop i) O1 ts=some (tsF,OF)/\acc.length=ts.length/\O1.length=O.length/\Sim Γ H O1 Z (ens vs srcs++(au acc ts++E2)),⟨items.length,by simp,Fd _,by omega,O,ts0,by simpa using hr,hl0,rfl,S⟩,?_⟩;rintro i m acc H1 ⟨rfl,hil,hal,O1,ts,h1,hl,hO,S1⟩;refine⟨by omega,?_⟩;obtain⟨w1,w2⟩:=wk H1 O1 Z _ S1;by_cases hlt:i<items.length
 ·have hx:items[i]?=some items[i]:=by simp[hlt]
  obtain⟨w3,w4⟩:=w2 i _ hx;rw[E9 hlt,bh]at h1;refine .inr ⟨w3,λacc' H'=>acc'.length<=acc0.length+(i+1)/\∃O1 ts,bh fr M mg c e (items.drop (i+1)) O1 ts=some (tsF,OF)/\acc'.length=ts.length/\O1.length=O.length/\Sim Γ H' O1 Z (ens vs srcs++(au acc' ts++E2)),λacc' H' ⟨ha,O3,ts3,h3,hl3,hO3,S3⟩=>⟨items.length-(i+1),by omega,rfl,hlt,ha,O3,ts3,h3,hl3,hO3,S3⟩,λx H2 y=>?_⟩;have S2:=w4 x H2 y;have hf1:cA fr O1.length=true:=by rw[hO];exact hf
  have S3:=S2.inn hf1;rw[cF]at S3;split at h1
  ·rename_i O2 e2;refine hgk x (aL fr Z) H2 (λZ2 H3=>Kp fr (aL fr Z) Z2->_) _ (λZ2 H3 z kp=>z kp) ?_;refine hg Γ H2 (inR fr O1) (aL fr Z) _ _ x _ O2 hK e2 S3 λZ2 H3 S4 kp=>?_;split at h1
   ·rename_i O3 e3;refine hc Γ H3 O2 Z2 _ _ true O3 hK e3 S4 λH4 S5=>nS ?_;split at h1
    ·rename_i t O4 e4;refine he Γ H4 O3 Z2 _ _ _ O4 hK e4 S5 λw H5 S6=>?_;rw[ae,ae]at S6;rw[←hM]at S6;have S7:Sim Γ H5 O4 Z2 (ah M (cE fr Z O1 (⟨none,w,⟨.ow,t⟩⟩::(ens vs srcs++(au acc ts++E2))))):=by
      rw[cF,ar (show aB M (bn (piF fr) ⟨none,w,⟨.ow,t⟩⟩)=true from rfl)];exact S6
     have hl4 : O4.length=fr.length:=by rw[←S6.len,kp.1,bC]
     have S8:=S7.outt hf1 hmu hl4 kp S1.al S1.len (λe' he' j hj=>by
      rcases ycM he' with rfl|he';cases hj;exact S1.hi e' he' j hj)
     rw[ar (show aB (muF fr M) ⟨none,w,⟨.ow,t⟩⟩=true from rfl),kE2]at S8;refine⟨by simp;omega,_,_,h1,by simp[hl],by rw[f8,hO],?_⟩;rw[jk hl,Eu];refine S8.perm ?_;have pp:∀(A B C:List En) (x:En),(x::(A++(B++C))).Perm (A++(B++(x::C))):=λA B C x=>by
      rw[←Eu,←Eu];exact EN.symm
     exact pp _ _ _ _
    ·cases h1
   ·rename_i O3 e3;refine hc Γ H3 O2 Z2 _ _ false O3 hK e3 S4 λH4 S5=>nR ?_;have S6:=S5.weak e.mu;rw[ae,ae]at S6;rw[←hM]at S6;have hl4 : O3.length=fr.length:=by rw[←S6.len,kp.1,bC]
    have S8:=S6.outt hf1 hmu hl4 kp S1.al S1.len S1.hi;rw[kE2]at S8;exact⟨by omega,_,_,h1,hl,by rw[f8,hO],S8⟩
   ·cases h1
  ·cases h1
 ·have ei:i=items.length:=by omega
  subst ei;rw[F7,bh]at h1;cases h1;exact .inl ⟨w1 _ (Eo _),q acc H1 hl hal hO S1⟩
noncomputable def cB(M:List Nat) (n:Nat):Bool:=M.all λj=>decide (j<n)
theorem iA{M:List Nat}{n:Nat}(h:cB M n=true):∀j∈M,j<n:=λj hj=>by
 have:=E6.mp h j hj;simpa using this
@[irreducible] noncomputable def aT(fr:List (Option Nat))(it:MI)(g:MG)(c:MT)(e:ME):ME:=⟨λO=>match it.run O with
 | some ((srcs,items),O1)=>if(cA fr O1.length&&cB (g.mu++(c.mu++e.mu)) fr.length&&srcs.all (aE (muF fr (g.mu++(c.mu++e.mu))))&&decide (items.length<sizeLine))=true then(match bh fr (g.mu++(c.mu++e.mu)) g c e items O1 []with
  | some (ts,O2)=>some (⟨.ow,bH ts⟩,O2)
  | none=>none)else none
 | none=>none,it.mu++muF fr (g.mu++(c.mu++e.mu))⟩
theorem m7{wi:TI}{fr:List (Option Nat)}{g:TG}{tc:TT}{te:TE}{it:MI}{mg:MG}{c:MT}{e:ME}(hi:jJ K wi it)(hgk:b9 fr g)(hg:gO K g mg)(hc:dR K tc c)(he:aP K te e):aP K (va wi fr g tc te) (aT fr it mg c e):=by
 intro Γ H O Z E Q r O' hK hr S q;simp only[aT]at hr q;split at hr
 ·rename_i srcs items O1 e1;split at hr
  ·rename_i hb;simp only[Ei,decide_eq_true_eq]at hb;obtain⟨⟨⟨b1,b2⟩,b3⟩,b5⟩:=hb;split at hr
   ·rename_i ts O2 e2;cases hr;refine hi Γ H O Z E _ srcs items O1 hK e1 S λΓ hK2 bk J vs H1 hlv S1 wk=>?_;replace hK:=hK2.trans hK;replace q:=λv H' S=>q v H' (bk _ _ _ _ S);rw[←ae]at q;generalize ah it.mu E=E1 at q S1;have ks:∀e'∈ens vs srcs,aB (muF fr (mg.mu++(c.mu++e.mu))) e'=true:=iq b3;have S2:=S1.weak (muF fr (mg.mu++(c.mu++e.mu)));rw[ay,b7 ks]at S2;have kE:=b8 (M:=muF fr (mg.mu++(c.mu++e.mu))) (N:=muF fr (mg.mu++(c.mu++e.mu))) (λj hj=>hj) E1;generalize ah (muF fr (mg.mu++(c.mu++e.mu))) E1=E2 at q S2 kE;refine kF (acc0:=[]) (ts0:=[]) hK wk hgk hg hc he rfl (iA b2) ks kE rfl (by simpa using b5) b1 S2 e2 λacc H' hl _ _ S3 d hd=>?_;exact q _ _ (S3.drops.mkL hl hd)
   ·cases hr
  ·cases hr
 ·cases hr
noncomputable def bV(fr fr2:List (Option Nat)) (g:MG) (it2:MI) (g2:MG) (c:MT) (e:ME):List R->Rho->List T->Option (List T×Rho)
 | [],O,acc=>some (acc,O)
 | r::rs,O,acc=>match g.run (ge (piF fr) r) (inR fr O)with
  | some O1=>(match it2.run O1 with
   | some ((srcs2,items2),O2)=>if(cA fr2 O2.length&&(decide (srcs2.length=1)&&srcs2.all (aE (muF fr2 (g2.mu++(c.mu++e.mu)))))&&decide (acc.length+items2.length<sizeLine))=true then(match bh fr2 (g2.mu++(c.mu++e.mu)) g2 c e items2 O2 acc with
    | some (ts,O3)=>bV fr fr2 g it2 g2 c e rs (bU fr (g.mu++(it2.mu++muF fr2 (g2.mu++(c.mu++e.mu)))) O3 O) ts
    | none=>none)else none
   | none=>none)
  | none=>none
@[irreducible] noncomputable def i5(fr fr2:List (Option Nat))(it:MI)(g:MG)(it2:MI)(g2:MG)(c:MT)(e:ME):ME:=⟨λO=>match it.run O with
 | some ((srcs,items),O1)=>if(cA fr O1.length&&cB (g.mu++(it2.mu++muF fr2 (g2.mu++(c.mu++e.mu)))) fr.length&&cB (g2.mu++(c.mu++e.mu)) fr2.length&&(decide (srcs.length=1)&&srcs.all (aE (muF fr (g.mu++(it2.mu++muF fr2 (g2.mu++(c.mu++e.mu))))))))=true then(match bV fr fr2 g it2 g2 c e items O1 []with
  | some (ts,O2)=>if ts.length<sizeLine then some (⟨.ow,bH ts⟩,O2)else none
  | none=>none)else none
 | none=>none,it.mu++muF fr (g.mu++(it2.mu++muF fr2 (g2.mu++(c.mu++e.mu))))⟩
theorem fV{fr:List (Option Nat)}{M:List Nat}{g:MG}{c:MT}{e:ME}:∀{items:List R} {O:Rho} {acc ts:List T} {O':Rho},bh fr M g c e items O acc=some (ts,O')->acc.length<=ts.length
 | [],O,acc,ts,O',h=>by cases h;exact Eo _
 | r::rs,O,acc,ts,O',h=>by
  rw[bh]at h;split at h
  ·split at h
   ·split at h;have:=fV h;simp at this;omega;cases h
   ·exact fV h
   ·cases h
  ·cases h
theorem ik{fr fr2:List (Option Nat)}{g:MG}{it2:MI}{g2:MG}{c:MT}{e:ME}:∀{items:List R} {O:Rho} {acc ts:List T} {O':Rho},bV fr fr2 g it2 g2 c e items O acc=some (ts,O')->acc.length<=ts.length
 | [],O,acc,ts,O',h=>by cases h;exact Eo _
 | r::rs,O,acc,ts,O',h=>by
  rw[bV]at h;split at h
  ·split at h
   ·split at h
    ·split at h;rename_i e1;exact ER (fV e1) (ik h);cases h
    ·cases h
   ·cases h
  ·cases h
theorem qV{wi wi2:TI}{fr fr2:List (Option Nat)}{g g2:TG}{tc:TT}{te:TE}{it it2:MI}{mg mg2:MG}{c:MT}{e:ME}(hi:jJ K wi it)(hgk:b9 fr g)(hg:gO K g mg)(hi2:jJ K wi2 it2)(hgk2:b9 fr2 g2)(hg2:gO K g2 mg2)(hc:dR K tc c)(he:aP K te e):aP K (vb wi fr g wi2 fr2 g2 tc te) (i5 fr fr2 it mg it2 mg2 c e):=by
 intro Γ H O Z E Q r O' hK hr S q;simp only[i5]at hr q;split at hr
 ·rename_i srcs items O1 e1;split at hr
  ·rename_i hb;simp only[Ei,decide_eq_true_eq]at hb;obtain⟨⟨⟨b1,b2⟩,b3⟩,b5,b4⟩:=hb;obtain⟨src,rfl⟩:=FT.mp b5;rw[Fs,Gk,Gv]at b4;split at hr
   ·rename_i tsF OF e2;split at hr
    ·rename_i hz;cases hr;refine hi Γ H O Z E _ [src] items O1 hK e1 S λΓ hK2 bk J vs H1 hlv S1 wk=>?_;replace hK:=hK2.trans hK;replace q:=λv H' S=>q v H' (bk _ _ _ _ S);obtain⟨v,rfl⟩:=FT.mp hlv;replace S1:Sim Γ H1 O1 Z (⟨none,v,src⟩::ah it.mu E):=S1;rw[←ae]at q;generalize hM2:mg2.mu++(c.mu++e.mu)=M2 at *;generalize hM:mg.mu++(it2.mu++muF fr2 M2)=M at *;generalize ah it.mu E=E1 at q S1;have ks:aB (muF fr M) ⟨none,v,src⟩=true:=b4;have S2:=S1.weak (muF fr M);rw[ar ks]at S2;have kE:=b8 (M:=muF fr M) (N:=muF fr M) (λj hj=>hj) E1;generalize ah (muF fr M) E1=E2 at q S2 kE;have kE2:∀acc ts,ah (muF fr M) (⟨none,v,src⟩::(au acc ts++E2))=⟨none,v,src⟩::(au acc ts++E2):=λacc ts=>by rw[ar ks,ay,cD,kE]
     refine⟨λi m acc H=>m=items.length-i/\i<=items.length/\∃O2 ts,bV fr fr2 mg it2 mg2 c e (items.drop i) O2 ts=some (tsF,O')/\acc.length=ts.length/\O2.length=O1.length/\Sim Γ H O2 Z (⟨none,v,src⟩::(au acc ts++E2)),⟨items.length,by simp,Fd _,O1,[],by simpa using e2,rfl,rfl,S2⟩,?_⟩;rintro i m acc H2 ⟨rfl,hil,O2,ts,h1,hl,hO,S3⟩;have:=ik h1;refine⟨by omega,?_⟩;obtain⟨w1,w2⟩:=wk H2 O2 Z _ S3;by_cases hlt:i<items.length
     ·have hx:items[i]?=some items[i]:=by simp[hlt]
      obtain⟨w3,w4⟩:=w2 i _ hx;rw[E9 hlt,bV]at h1;refine .inr ⟨w3,λacc' H'=>∃O2 ts,bV fr fr2 mg it2 mg2 c e (items.drop (i+1)) O2 ts=some (tsF,O')/\acc'.length=ts.length/\O2.length=O1.length/\Sim Γ H' O2 Z (⟨none,v,src⟩::(au acc' ts++E2)),λacc' H' ⟨O3,ts3,h3,hl3,hO3,S3⟩=>⟨items.length-(i+1),by omega,rfl,hlt,O3,ts3,h3,hl3,hO3,S3⟩,λx H3 y=>?_⟩;have S4:Sim Γ H3 O2 Z (⟨none,x,items[i]⟩::⟨none,v,src⟩::(au acc ts++E2)):=w4 x H3 y;have hf1:cA fr O2.length=true:=by rw[hO];exact b1
      have S5:=S4.inn hf1;rw[cF]at S5;split at h1
      ·rename_i O3 e3;refine hgk x (aL fr Z) H3 (λZ2 H4=>Kp fr (aL fr Z) Z2->_) _ (λZ2 H4 z kp=>z kp) ?_;refine hg Γ H3 (inR fr O2) (aL fr Z) _ _ x _ O3 hK e3 S5 λZ2 H4 S6 kp=>?_;split at h1
       ·rename_i srcs2 items2 O4 e4;split at h1
        ·rename_i hb2;rw[hM2]at hb2;simp only[Ei,decide_eq_true_eq]at hb2;obtain⟨⟨c1,c4,c2⟩,c3⟩:=hb2;obtain⟨src2,rfl⟩:=FT.mp c4;rw[Fs,Gk,Gv]at c2;split at h1
         ·rename_i ts3 O5 e5;rw[hM2]at e5 h1;refine hi2 Γ H4 O3 Z2 _ _ [src2] items2 O4 hK e4 S6 λΓ2 hK3 bk2 J2 vs2 H5 hlv2 S7 wk2=>?_;obtain⟨v2,rfl⟩:=FT.mp hlv2;rw[show ens [v2] [src2]=[⟨none,v2,src2⟩]from rfl,List.singleton_append]at S7;rw[ae]at S7;have ks2:aB (muF fr2 M2) ⟨none,v2,src2⟩=true:=c2;have eo:ah (mg.mu++it2.mu) (cE fr Z O2 (⟨none,v,src⟩::(au acc ts++E2)))=ah (mg.mu++it2.mu) (bn (piF fr) ⟨none,v,src⟩::(au acc ts++cE fr Z O2 E2)):=by
           congr 1;rw[cF];congr 1;unfold cE;rw[Eu,Es];congr 1;have:∀{vs:List V} {ts:List T},(au vs ts).map (bn (piF fr))=au vs ts:=by
            intro vs
            induction vs with
            | nil=>intro ts;cases ts<;>rfl
            | cons a vs ih=>
             intro ts;cases ts with
             | nil=>rfl
             | cons b ts=>rw[au,Ek,ih];rfl
           exact this
          have S8:=S7.weak (muF fr2 M2);rw[ar ks2,eo,ae]at S8;have pm:(⟨none,v2,src2⟩::ah (mg.mu++it2.mu++muF fr2 M2) (bn (piF fr) ⟨none,v,src⟩::(au acc ts++cE fr Z O2 E2))).Perm (⟨none,v2,src2⟩::(au acc ts++ah (mg.mu++it2.mu++muF fr2 M2) (bn (piF fr) ⟨none,v,src⟩::cE fr Z O2 E2))):=by
           refine List.Perm.cons _ ?_;have e9:ah (mg.mu++it2.mu++muF fr2 M2) (au acc ts++(bn (piF fr) ⟨none,v,src⟩::cE fr Z O2 E2))=au acc ts++ah (mg.mu++it2.mu++muF fr2 M2) (bn (piF fr) ⟨none,v,src⟩::cE fr Z O2 E2):=by rw[ay,cD]
           rw[←e9];exact List.Perm.filter _ EN.symm
          have S9:=S8.perm pm;have kE9:=b8 (M:=mg.mu++it2.mu++muF fr2 M2) (N:=muF fr2 M2) (λj hj=>yaR _ hj) (bn (piF fr) ⟨none,v,src⟩::cE fr Z O2 E2);refine kF (H:=H5) (O:=O4) (Z:=Z2) (E2:=ah (mg.mu++it2.mu++muF fr2 M2) (bn (piF fr) ⟨none,v,src⟩::cE fr Z O2 E2)) (acc0:=acc) (ts0:=ts) (hK3.trans hK) wk2 hgk2 hg2 hc he hM2.symm (iA b3) (λe' he'=>by rcases ysM he' with rfl;exact ks2) kE9 hl (by rw[hl];exact c3) c1 S9 e5 λacc' H6 hl' _ hO5 S10=>?_;refine⟨_,ts3,h1,hl',by rw[f8,hO],?_⟩;have S11:=bk2 _ _ _ _ (S10.drop rfl);have em:mg.mu++it2.mu++muF fr2 M2=M:=by rw[←hM,Eu]
          have pm2:(au acc' ts3++ah (mg.mu++it2.mu++muF fr2 M2) (bn (piF fr) ⟨none,v,src⟩::cE fr Z O2 E2)).Perm (ah M (cE fr Z O2 (⟨none,v,src⟩::(au acc' ts3++E2)))):=by
           have e10:cE fr Z O2 (⟨none,v,src⟩::(au acc' ts3++E2))=bn (piF fr) ⟨none,v,src⟩::(au acc' ts3++cE fr Z O2 E2):=by
            rw[cF];congr 1;unfold cE;rw[Eu,Es];congr 1;have:∀{vs:List V} {ts:List T},(au vs ts).map (bn (piF fr))=au vs ts:=by
             intro vs
             induction vs with
             | nil=>intro ts;cases ts<;>rfl
             | cons a vs ih=>
              intro ts;cases ts with
              | nil=>rfl
              | cons b ts=>rw[au,Ek,ih];rfl
            exact this
           rw[em,e10];have e11:ah M (au acc' ts3++(bn (piF fr) ⟨none,v,src⟩::cE fr Z O2 E2))=au acc' ts3++ah M (bn (piF fr) ⟨none,v,src⟩::cE fr Z O2 E2):=by rw[ay,cD]
           rw[←e11];exact List.Perm.filter _ EN
          have S12:=S11.perm pm2;have hl5 : O5.length=fr.length:=by rw[←S12.len,kp.1,bC]
          have tk:∀{vs:List V} {ts:List T} {e':En},e'∈au vs ts->e'.key=none:=by
           intro vs
           induction vs with
           | nil=>intro ts e' h;cases ts<;>cases h
           | cons a vs ih=>
            intro ts e' h;cases ts with
            | nil=>cases h
            | cons b ts=>
             rcases ycM h with rfl|h;rfl;exact ih h
          have S13:=S12.outt hf1 (iA b2) hl5 kp S3.al S3.len (λe' he' j hj=>by
           rcases ycM he' with rfl|he';cases hj
           ·rcases yaM he' with he'|he';rw[tk he']at hj;cases hj;exact S3.hi e' (ymC _ (yaR _ he')) j hj)
          rw[kE2]at S13;rw[hM];exact S13
         ·cases h1
        ·cases h1
       ·cases h1
      ·cases h1
     ·have ei:i=items.length:=by omega
      subst ei;rw[F7,bV]at h1;cases h1;exact .inl ⟨w1 _ (Eo _),λd hd=>q _ _ ((S3.drop rfl).mkL hl hd)⟩
    ·cases hr
   ·cases hr
  ·cases hr
 ·cases hr
end
section
variable {Γ:Gm}{H H':Hp}{L:List Hd}{O:Rho}{Z:St}{E X:List En}{v w x y:V}{t s:T}{K:yF}{Q:VK}
theorem GW.stepN{hs ns:List Hd}(G:GW Γ H (hs++L))(ho:∀h∈hs,h.e.r.k.isOw=true)(hr:∀g∈L,∀h∈hs,∀j,h.e.key=some j->g.e.r.k.root≠some j)
  (off:Iy (hs.flatMap (·.F)) H H') (dom:∀a∈hs.flatMap (·.F),∃o,H' a=some o) (nd:(ns.flatMap (·.F)).Nodup) (hF:∀a∈ns.flatMap (·.F),(a∈hs.flatMap (·.F)∨H a=none)/\Mu H' a) (hp:∀n∈ns,Rp Γ.K H' n.e.r.t n.e.v n.F)
  (hk:∀n∈ns,(n.e.r.k=.ow/\∀a∈n.F,H a=none ∨ ∃h∈hs,h.e.r.k=.ow/\a∈h.F) ∨ ∃k,n.e.r.k=.io k/\Γ.iov[k]?=some n.e.v) (hkey:((ns++L).filterMap λh=>h.e.key).Nodup):GW Γ H' (ns++L):=by
 have iow:∀n∈ns,n.e.r.k.isOw=true:=λn hn=>by rcases hk n hn with⟨e,_⟩|⟨k,e,_⟩<;>rw[e]<;>rfl
 have eo:=f9 ho;have en:=f9 iow;have G':=G.nd;rw[Ez,eo]at G';have nd1:=(Em.mp G').2.1;have dj:=(Em.mp G').2.2;have adL:∀a∈L.flatMap Hd.own,Mu H a/\(Γ.H0 a=none∨a ∈ Γ.io):=λa ha=>G.ad a (by rw[Ez];exact yaR _ ha);have adM:∀a∈hs.flatMap (·.F),Mu H a/\(Γ.H0 a=none∨a ∈ Γ.io):=λa ha=>G.ad a (by rw[Ez,eo];exact yaL _ ha);have ap:=G.apart hr ho;have apM:∀g∈L,∀a∈g.F,a∉hs.flatMap (·.F):=λg hg a ha hm=>by
  obtain⟨h,hh,hah⟩:=Fc.mp hm;exact ap g hg a ha h hh hah
 refine⟨?_,λa ha=>?_,λx hx=>?_,λx hx=>?_,hkey,λb o e n=>?_,λa ha=>?_⟩
 ·rw[Ez,en];refine Em.mpr ⟨nd,nd1,λa ha b hb=>?_⟩;rintro rfl;rcases(hF a ha).1 with z|z;exact dj a z a hb rfl
  ·obtain⟨o,e,_⟩:=(adL a hb).1;rw[z]at e;cases e
 ·rw[Ez,en]at ha;rcases yaM ha with ha|ha
  ·refine⟨(hF a ha).2,?_⟩;rcases(hF a ha).1 with z|z;exact(adM a z).2;exact .inl (G.new0 z)
  ·obtain⟨⟨o,e,m⟩,z⟩:=adL a ha;exact⟨⟨o,off a o e λhm=>dj a hm a ha rfl,m⟩,z⟩
 ·rcases yaM hx with hx|hx;exact hp x hx;exact(G.rp x (yaR _ hx)).off off (λa ha=>(adM a ha).1) (apM x hx)
 ·rcases yaM hx with hx|hx
  ·unfold IC;rcases hk x hx with⟨e,eh⟩|⟨k,e,ek⟩
   ·simp only[e];intro a ha;rcases eh a ha with z|⟨h,hh,he,hah⟩;exact G.new0 z
    ·have q:=G.kd h (yaL _ hh);unfold IC at q;rw[he]at q;exact q a hah
   ·simp only[e];exact ek
  ·have k:=G.kd x (yaR _ hx);have st:∀a∈x.F,a∉(hs++L).flatMap Hd.own->a∉(ns++L).flatMap Hd.own:=λa ha n z=>by
    rw[Ez,en]at z;rcases yaM z with z|z
    ·rcases(hF a z).1 with w|w;exact n (by rw[Ez,eo];exact yaL _ w)
     ·obtain⟨o,e⟩:=(G.rp x (yaR _ hx)).dom a ha;rw[w]at e;cases e
    ·exact n (by rw[Ez];exact yaR _ z)
   unfold IC at k⊢;split at k;exact k;exact k;exact λa ha=>st a ha (k a ha)
   ·rename_i j p e;obtain⟨g,h1,h2,h3,h4,h5⟩:=k;rcases yaM h1 with hg|hg;exact absurd (by rw[e];rfl) (hr x hx g hg j h2)
    ·refine⟨g,yaR _ hg,h2,h3,λa ha=>(h4 a ha).imp id (st a ha),λq hq=>⟨(h5 q hq).1,?_⟩⟩;exact lu off (F:=g.F) (apM g hg) (G.muF (yaR _ hg) h3) (λa ha=>ha) (G.ndF (yaR _ hg) h3) (G.rp g (yaR _ hg)) (h5 q hq).1 (h5 q hq).2
 ·refine off b o (G.fr b o e n) λhm=>?_;rcases(adM b hm).2 with z|z;rw[z]at e;cases e;exact n z
 ·obtain⟨o,e⟩:=G.iol a ha;by_cases hm:a∈hs.flatMap (·.F);exact dom a hm;exact⟨o,off a o e hm⟩
theorem GW.uniq(g:GW Γ H L){x z:Hd}{i:Nat}(x1:x∈L)(hz:z∈L)(x2:x.e.key=some i)(z2:z.e.key=some i):x=z:=by
 have nk:=g.ks;by_cases q:x=z;exact q
 ·exfalso;obtain⟨A,B,rfl⟩:=Gf x1;rw[EJ,EI,x2]at nk;rcases yaM hz with hz|hz;exact(Em.mp nk).2.2 i (EX.mpr ⟨z,hz,z2⟩) i ymS rfl
  ·rcases ycM hz with hz|hz;exact q hz.symm;exact(EF.mp (Em.mp nk).2.1).1 (EX.mpr ⟨z,hz,z2⟩)
theorem Sim.place{i:Nat}{p:List Ac}{r:R}{v0:V}(S:Sim Γ H O Z E)(he:(⟨none,w,⟨.vw (some i) (some p),s⟩⟩:En)∈E)(h : O[i]?=some (some r))(hv:Z[i]?=some (some v0)):r.t.sub p=some s/\atP Γ.K H v0 p w:=by
 obtain⟨v1,hv1,hm⟩:=S.slot h;rw[hv]at hv1;cases hv1;obtain⟨L,g,e⟩:=S.sl;have h1:(⟨none,w,⟨.vw (some i) (some p),s⟩⟩:En)∈L.map (·.e):=by rw[e];exact yaL _ he
 obtain⟨y,hy,ey⟩:=Ev.mp h1;have kd:=g.kd y hy;unfold IC at kd;rw[ey]at kd;obtain⟨x,x1,x2,x3,x4,x5⟩:=kd;have hm':(⟨some i,v0,r⟩:En)∈L.map (·.e):=by rw[e];exact hm
 obtain⟨z,hz,ez⟩:=Ev.mp hm';have:=g.uniq x1 hz x2 (by rw[ez]);subst this;have:=x5 p rfl;rw[ez]at this;exact this
theorem Iv.dropsN:∀{A X:List En},Iv Γ H (A++X)->(∀e∈A,e.key=none)->Iv Γ H X
 | [],_,S,_=>S
 | a::A,X,S,h=>Iv.dropsN (Iv.drop S (h a ymS)) λe he=>h e (ymC _ he)
theorem jz:∀{vs:List V} {rs:List R} {m:Nat} {r:R} {x:V},rs[m]?=some r->vs[m]?=some x->(⟨none,x,r⟩:En)∈ens vs rs
 | [],_,m,_,_,_,h=>by simp at h
 | _::_,[],m,_,_,h,_=>by simp at h
 | v::vs,r0::rs,0,r,x,h1,h2=>by simp at h1 h2;subst h1 h2;exact ymS
 | v::vs,r0::rs,m+1,r,x,h1,h2=>ymC _ (jz (by simpa using h1) (by simpa using h2))
theorem lA:∀{vs:List V} {rs:List R} {e:En},e∈ens vs rs->e.key=none
 | [],rs,e,h=>by cases rs<;>cases h
 | _::_,[],e,h=>by cases h
 | v::vs,r::rs,e,h=>by
  rcases ycM h with rfl|h;rfl;exact lA h
theorem Sim.io{vs:List V}{rs:List R}{k i:Nat}{p:List Ac}{kd:Kd}{t0:T}(S:Sim Γ H O Z (ens vs rs++E))(hk:rs[k]?=some ⟨.vw (some i) (some p),s⟩)(hw:vs[k]?=some w)(hal:∀m r,m≠k->rs[m]?=some r->aE [i] r=true)(h : O[i]?=some (some ⟨kd,t0⟩))(ho:kd.isOw=true) :
  ∃G,Rp Γ.K H s w G/\G.Nodup/\(∀a∈G,Mu H a)/\(∀m r x,m≠k->rs[m]?=some r->vs[m]?=some x->∃F,Rp Γ.K H r.t x F/\∀a∈F,a∉G) ∧
  ∀H' s' v t F G',Iy G H H'->(∀a∈G,∃o,H' a=some o)->(F++G').Nodup->(∀a∈F,H a=none/\Mu H' a)->(∀a∈G',(a∈G∨H a=none)/\Mu H' a)->Rp Γ.K H' s' w G'->Rp Γ.K H' t v F->Sim Γ H' ((ao [i] O).set i (some ⟨kd,t0.put p s'⟩)) Z (⟨none,v,⟨.ow,t⟩⟩::ah [i] E):=by
 have hil:i < O.length:=(Eg.mp h).1;obtain⟨v0,hv0,h1,h2,h3⟩:=S.out h ho;have pl:=S.place (yaL _ (jz hk hw)) h hv0;obtain⟨L,g,eL⟩:=h1;obtain⟨x,L',rfl,ex,eL'⟩:=aH eL;have hox:x.e.r.k.isOw=true:=by rw[ex];exact ho
 have nx:=g.ndF ymS hox;have mx:=g.muF ymS hox;have hsub:x.e.r.t.sub p=some s:=by rw[ex];exact pl.1
 obtain⟨w',A,G,B,z1,z2,z3,z4⟩:=(g.rp x ymS).atP mx nx hsub;have ew:w'=w:=by rw[ex]at z1;exact ij z1 pl.2
 subst ew;have inG:∀a∈G,a∈x.F:=λa ha=>by rw[z3];exact yaL _ (yaR _ ha)
 have ndx:=nx;rw[z3]at ndx;have ndA:=Em.mp ndx;have ndG:=Em.mp ndA.1;have keyL:∀g∈L',g.e.key≠some i:=λy hy=>h3 y.e (by rw[←eL'];exact EV hy);have rootL:∀g∈L',g.e.r.k.root≠some i:=λy hy=>h2 y.e (by rw[←eL'];exact EV hy);have ap:=GW.apart (hs:=[x]) (L:=L') g (λy hy z hz j hj=>by rw[ysM hz,ex]at hj;cases hj;exact rootL y hy) (λz hz=>by rw[ysM hz];exact hox);refine⟨G,z2,ndG.2.1,λa ha=>mx a (inG a ha),λm r y hm hr hy=>?_,λH' s' v t F G' off dom nd hF hG rp' rpt=>?_⟩
 ·have hmem:(⟨none,y,r⟩:En)∈ah [i] (ens vs rs++E):=Er.mpr ⟨yaL _ (jz hr hy),hal m r hm hr⟩;have hmem2:(⟨none,y,r⟩:En)∈L'.map (·.e):=by rw[eL'];exact yaL _ hmem
  obtain⟨z,hz,ez⟩:=Ev.mp hmem2;have rz:=g.rp z (ymC _ hz);rw[ez]at rz;exact⟨z.F,rz,λa ha hg=>ap z hz a ha x ymS (inG a hg)⟩
 ·have apAB:∀a,(a∈A∨a∈B)->a∉G:=λa ha hm=>by
   rcases ha with q|q;exact ndG.2.2 a q a hm rfl;exact ndA.2.2 a (yaR _ hm) a q rfl
  have inAB:∀a,(a∈A∨a∈B)->a∈x.F:=λa ha=>by
   rw[z3];rcases ha with q|q;exact yaL _ (yaL _ q);exact yaR _ q
  have rp2:=z4 H' s' G' off rp';have nFG:=Em.mp nd;have oldAB:∀a,(a∈A∨a∈B)->H a≠none:=λa ha z=>by obtain⟨o,e1,_⟩:=mx a (inAB a ha);rw[z]at e1;cases e1
  have nG':∀a,(a∈A∨a∈B)->a∉G':=λa ha hg=>by
   rcases(hG a hg).1 with z|z;exact apAB a ha z;exact oldAB a ha z
  have ndR:(A++G'++B).Nodup:=by
   refine Em.mpr ⟨Em.mpr ⟨ndG.1,nFG.2.1,λa ha b hb e=>nG' a (.inl ha) (e▸hb)⟩,ndA.2.1,λa ha b hb e=>?_⟩;subst e;rcases yaM ha with z|z;exact ndA.2.2 a (yaL _ z) a hb rfl;exact nG' a (.inr hb) z
  have memR:∀a∈A++G'++B,(a∈x.F∨H a=none)/\Mu H' a:=λa ha=>by
   have old:a∈A∨a∈B->(a∈x.F∨H a=none)/\Mu H' a:=λq=>by
    obtain⟨o,e1,m1⟩:=mx a (inAB a q);exact⟨.inl (inAB a q),o,off a o e1 (apAB a q),m1⟩
   rcases yaM ha with z|z
   ·rcases yaM z with z|z;exact old (.inl z);exact⟨(hG a z).1.imp (inG a) id,(hG a z).2⟩
   ·exact old (.inr z)
  have st:=GW.stepN (hs:=[x]) (L:=L') (H':=H') (ns:=[⟨⟨none,v,⟨.ow,t⟩⟩,F⟩,⟨⟨some i,v0,⟨kd,t0.put p s'⟩⟩,A++G'++B⟩]) g (λz hz=>by rw[ysM hz];exact hox) (λy hy z hz j hj=>by rw[ysM hz,ex]at hj;cases hj;exact rootL y hy)
   (by simpa using off.mono inG) (λa ha=>by
    have ha':a∈x.F:=by simpa using ha
    by_cases hg:a∈G;exact dom a hg;obtain⟨o,e1,_⟩:=mx a ha';exact⟨o,off a o e1 hg⟩)
   (by
    simp only[Ew,Gs,EB];refine Em.mpr ⟨nFG.1,ndR,λa ha b hb e=>?_⟩;subst e;rcases yaM hb with z|z
    ·rcases yaM z with z|z;exact oldAB a (.inl z) (hF a ha).1;exact nFG.2.2 a ha a z rfl
    ·exact oldAB a (.inr z) (hF a ha).1)
   (λa ha=>by
    simp only[Ew,Gs,EB]at ha⊢;rcases yaM ha with z|z;exact⟨.inr (hF a z).1,(hF a z).2⟩;exact memR a z)
   (λn hn=>by
    rcases ycM hn with rfl|hn;exact rpt;rw[ysM hn];rw[ex]at rp2;exact rp2)
   (λn hn=>by
    rcases ycM hn with rfl|hn;exact .inl ⟨rfl,λa ha=>.inl (hF a ha).1⟩
    ·rw[ysM hn];have kx:=g.kd x ymS;unfold IC at kx;rw[ex]at kx;cases kd with
     | ow=>exact .inl ⟨rfl,λa ha=>(memR a ha).1.elim (λz=>.inr ⟨x,ymS,by rw[ex],z⟩) .inl⟩
     | io n=>exact .inr ⟨n,rfl,kx⟩
     | vw a b=>cases ho)
   (by
    have ks:=g.ks;rw[EI,ex]at ks;exact ks)
  have S2:=S.kill [i];have SL:Iv Γ H' (⟨none,v,⟨.ow,t⟩⟩::⟨some i,v0,⟨kd,t0.put p s'⟩⟩::(ah [i] (ens vs rs++E)++aD 0 Z ((ao [i] O).set i none))):=⟨_,st,by rw[Es,eL'];rfl⟩;have SL2:Iv Γ H' (⟨none,v,⟨.ow,t⟩⟩::⟨some i,v0,⟨kd,t0.put p s'⟩⟩::(ah [i] E++aD 0 Z ((ao [i] O).set i none))):=by
   rw[ay,Eu]at SL;have pp:(⟨none,v,⟨.ow,t⟩⟩::⟨some i,v0,⟨kd,t0.put p s'⟩⟩::(ah [i] (ens vs rs)++(ah [i] E++aD 0 Z ((ao [i] O).set i none)))).Perm (ah [i] (ens vs rs)++(⟨none,v,⟨.ow,t⟩⟩::⟨some i,v0,⟨kd,t0.put p s'⟩⟩::(ah [i] E++aD 0 Z ((ao [i] O).set i none)))):=by
    refine List.Perm.trans ?_ (EN.symm);refine List.Perm.cons _ ?_;exact EN.symm
   exact(SL.perm pp).dropsN λe he=>lA (Er.mp he).1
  refine S2.back (E':=⟨none,v,⟨.ow,t⟩⟩::ah [i] E) (SL2.perm ?_) (by simp[aM]) rfl (λm r' hm=>?_) (λe he j hj=>?_)
  ·have pq:=(fW (k:=0) (Z:=Z) (O:=ao [i] O) (v:=v0) (r:=⟨kd,t0.put p s'⟩) (by rw[S.len];exact hil) (by rw[aM];exact hil)).append_left (ah [i] E);rw[Fb]at pq;have eZ:Z.set i (some v0)=Z:=by
    apply FL;intro m;by_cases hm:m=i;subst hm;rw[hv0];simp[S.len,hil];rw[ED (JI hm)]
   rw[eZ]at pq;rw[EC];exact List.Perm.cons _ ((EN.symm).trans pq.symm)
  ·by_cases e:m=i;subst e;exact⟨v0,hv0⟩;rw[ED (JI e)]at hm;exact S2.al m r' hm
  ·rcases ycM he with rfl|he;cases hj;rw[ay];exact yaR _ he
def spP(K:yF)(run:List T->Option T):Sp:=λvs H Q _=>∃ts t,IM K H ts vs/\run ts=some t/\∀v H',New K H H' t v->Q v H'
def spI(K:yF)(k:Nat)(run:List T->Option (T×T)):Sp:=λvs H Q _=>∃ts s w G t s',vs.length=ts.length/\vs[k]?=some w/\ts[k]?=some s/\Rp K H s w G/\G.Nodup/\(∀a∈G,Mu H a)/\(∀(m:Nat) x u,m≠k->vs[m]?=some x->ts[m]?=some u->∃F,Rp K H u x F/\∀a∈F,a∉G)/\run ts=some (t,s') ∧
 ∀v H' F G',Iy G H H'->(∀a∈G,∃o,H' a=some o)->(F++G').Nodup->(∀a∈F,H a=none/\Mu H' a)->(∀a∈G',(a∈G∨H a=none)/\Mu H' a)->Rp K H' s' w G'->Rp K H' t v F->Q v H'
theorem qT{run:List T->Option T}{ta:TA}{a:MA}(ha:fR K ta a):aP K (j8 (spP K run) [] E0 ta) (mB run a):=by
 have e:j8 (spP K run) [] E0 ta=tCB (λvs H Q=>spP K run vs H Q E0) ta:=by
  funext Z H Q;show(ta Z H λvs H1=>spP K run (vs++[]) H1 Q E0)=_;simp only[EB];rfl
 rw[e];exact mZ (λH vs ts t Q r e q=>⟨ts,t,r,e,q⟩) ha
@[irreducible] noncomputable def am(k j:Nat)(run:List T->Option (T×T))(a:MA):ME:=⟨λO=>match a.run O with
 | some (rs,O1)=>(match rs[k]? with
  | some ⟨.vw (some i) (some p),_⟩=>if(decide (i=j)&&(EU rs.length).all λm=>decide (m=k)||aE [j] (rs.getD m ⟨.ow,.im .non⟩))=true then(match run (rs.map (·.t))with
   | some (t,s')=>(match O1[j]? with
    | some (some ⟨kd,t0⟩)=>if kd.isOw=true then some (⟨.ow,t⟩,(ao [j] O1).set j (some ⟨kd,t0.put p s'⟩))else none
    | _=>none)
   | none=>none)else none
  | _=>none)
 | none=>none,a.mu++[j]⟩
theorem qS{k j:Nat}{run:List T->Option (T×T)}{ta:TA}{a:MA}(ha:fR K ta a):aP K (j8 (spI K k run) [] E0 ta) (am k j run a):=by
 intro Γ H O Z E Q r O' hK hr S q;show ta Z H λvs H1=>spI K k run (vs++[]) H1 Q E0;simp only[EB];simp only[am]at hr q;split at hr
 ·rename_i rs O1 e1;split at hr
  ·rename_i i p s e2;split at hr
   ·rename_i hb;rw[Ei,decide_eq_true_eq]at hb;obtain⟨rfl,hal⟩:=hb;split at hr
    ·rename_i t s' e3;split at hr
     ·rename_i kd t0 e4;split at hr
      ·rename_i ho;cases hr;refine ha Γ H O Z E _ rs O1 hK e1 S λvs H1 hl S1=>?_;have hkl:k<rs.length:=(Eg.mp e2).1;obtain⟨w,hw⟩:∃w,vs[k]?=some w:=⟨vs[k],by simp[hl,hkl]⟩;have hal':∀m r,m≠k->rs[m]?=some r->aE [i] r=true:=λm r hm hr=>by
        have hml:=(Eg.mp hr).1;have:=E6.mp hal m (Fi.mpr hml);rw[EL,hr]at this;simpa[hm]using this
       obtain⟨G,g1,g2,g3,g4,g5⟩:=S1.io e2 hw hal' e4 ho;rw[hK]at g1;refine⟨rs.map (·.t),s,w,G,t,s',by rw[Ej,hl],hw,by rw[Ep,e2];rfl,g1,g2,g3,λm x u hm hx hu=>?_,e3,λv H' F G' a1 a2 a3 a4 a5 a6 a7=>q v H' ?_⟩
       ·rw[Ep]at hu;cases hr:rs[m]? with
        | none=>rw[hr]at hu;cases hu
        | some r=>
         rw[hr]at hu;cases hu;have:=g4 m r x hm hr hx;rw[hK]at this;exact this
       ·rw[←hK]at a6 a7;have:=g5 H' s' v t F G' a1 a2 a3 a4 a5 a6 a7;rw[ae]at this;exact this
      ·cases hr
     ·cases hr
    ·cases hr
   ·cases hr
  ·cases hr
 ·cases hr
noncomputable def roR:T->R
 | .im i=>⟨.ow,.im i⟩
 | t=>⟨.vw none none,t⟩
noncomputable def cH(ts:List T) (n:Nat):Rho:=(ts.map λt=>some (roR t))++El (n-ts.length) none
theorem gR:∀(k n m:Nat),aD k (El n none) (El m none)=[]
 | _,0,_=>rfl
 | _,n+1,0=>rfl
 | k,n+1,m+1=>by simp only[E3,aD];exact gR (k+1) n m
theorem pJ{H0:Hp}{io:List Addr}{iov:List V}(n m:Nat):∀{ts:List T} {vs:List V} {k:Nat},IM K H ts vs->∃L:List Hd,L.map (·.e)=aD k (vs.map some++El n none) ((ts.map λt=>some (roR t))++El m none)/\L.flatMap Hd.own=[]/\(∀h∈L,Rp K H h.e.r.t h.e.v h.F)/\(∀h∈L,(h.e.r.k=.ow/\h.F=[])∨h.e.r.k=.vw none none)
 | [],vs,k,r=>by
  rw[IM]at r;subst r;exact⟨[],by simp[gR],rfl,by simp,by simp⟩
 | t::ts,vs,k,r=>by
  obtain⟨v,vr,rfl,⟨F,r1⟩,r2⟩:=r;obtain⟨L,h1,h2,h3,h4⟩:=pJ (H0:=H0) (io:=io) (iov:=iov) n m (k:=k+1) r2;have hroR:∃F',Rp K H (roR t).t v F'/\(((roR t).k=.ow/\F'=[])∨(roR t).k=.vw none none):=by
   cases t with
   | im i=>exact⟨[],iJ (aX r1).1,.inl ⟨rfl,rfl⟩⟩
   | _=>exact⟨F,r1,.inr rfl⟩
  obtain⟨F',g1,g2⟩:=hroR;refine⟨⟨⟨some k,v,roR t⟩,F'⟩::L,by simp[aD,h1],?_,λh hh=>?_,λh hh=>?_⟩
  ·rw[Ew,h2,EB];unfold Hd.own;rcases g2 with⟨e,rfl⟩|e;simp;rw[show(⟨⟨some k,v,roR t⟩,F'⟩:Hd).e.r.k=(roR t).k from rfl,e];rfl
  ·rcases ycM hh with rfl|hh;exact g1;exact h3 h hh
  ·rcases ycM hh with rfl|hh
   ·rcases g2 with⟨e,rfl⟩|e;exact .inl ⟨e,rfl⟩;exact .inr e
   ·exact h4 h hh
theorem IM.length:∀{ts:List T} {vs:List V},IM K H ts vs->vs.length=ts.length
 | [],vs,r=>by rw[IM]at r;subst r;rfl
 | t::ts,vs,r=>by obtain⟨v,vr,rfl,_,r2⟩:=r;rw[Ey,Ey,IM.length r2]
theorem no{ts:List T}{vs:List V}{n m:Nat}(hl:vs.length=ts.length)(i:Nat)(r:R)(h:((ts.map λt=>some (roR t))++El m none)[i]?=some (some r)):∃v,(vs.map some++El n none)[i]?=some (some v):=by
 have hi:i<ts.length:=by
  by_cases e:i<ts.length;exact e
  ·rw[Ft (by simp;omega),GR]at h;split at h<;>cases h
 refine⟨vs[i],?_⟩;rw[E4 (by simp;omega),Ep];simp[hl,hi]
theorem pc{k:Nat}:((aD k Z O).filterMap λe=>e.key).Nodup:=by
 have:=lB (k:=k) (Z:=Z) (O:=O);refine List.Pairwise.filterMap (R:=λa b=>∃i j,a.key=some i/\b.key=some j/\i<j) (λe:En=>e.key) (λa a' ⟨i,j,h1,h2,h3⟩ b hb b' hb'=>?_) this;rw[h1]at hb;rw[h2]at hb';cases hb;cases hb';omega
theorem xQ{ts:List T}{vs:List V}{N:List Str}(r:IM K H ts vs):Sim ⟨K,H,[],[]⟩ H (cH ts N.length) (bM N vs) []:=by
 obtain⟨L,h1,h2,h3,h4⟩:=pJ (H0:=H) (io:=[]) (iov:=[]) (N.length-vs.length) (N.length-ts.length) (k:=0) r;refine⟨⟨L,⟨by rw[h2];exact FI,by rw[h2];simp,h3,λh hh=>?_,?_,λb o e _=>e,by simp⟩,by rw[h1];rfl⟩,λi r' h=>no r.length i r' h,?_,by simp⟩
 ·unfold IC;rcases h4 h hh with⟨e,eF⟩|e;rw[e,eF];simp;rw[e,h2];simp
 ·have:(L.filterMap λh=>h.e.key)=(L.map (·.e)).filterMap λe=>e.key:=by rw[Ge];rfl
  rw[this,h1];exact pc
 ·simp[bM,cH,r.length]
noncomputable def cR(m:MS) (n:Nat) (ts:List T):Option T:=match m.run (cH ts n)with
 | some (.rt t,_)=>some t
 | some (.nx,_)=>some (.im .non)
 | _=>none
theorem yl{H0:Hp}(S:Sim ⟨K,H0,[],[]⟩ H' O Z [⟨none,v,⟨.ow,t⟩⟩]):New K H0 H' t v:=by
 obtain⟨L,g,e⟩:=S.sl;obtain⟨x,L',rfl,ex,_⟩:=aH e;have rp:=g.rp x ymS;rw[ex]at rp;have kd:=g.kd x ymS;unfold IC at kd;rw[ex]at kd;have ho:x.e.r.k.isOw=true:=by rw[ex];rfl
 exact⟨λb o h=>g.fr b o h (by simp),x.F,rp,g.ndF ymS ho,λa ha=>⟨kd a ha,g.muF ymS ho a ha⟩⟩
theorem Def.mp{P:Jq}{W:JB}{mg:Str->Option Jd}{base:Heap}{k:Nat}{name:Str}{st:Stmt}{N ps:List Str}(d:Def K mg name st ps)(S:Is N ps (ai st)){m:MS}
  (hbody:∀(f:Addr) (cdv:Jd) (A:Jw) (outer:List Env) (s:Jf) (H:Hp) (E:XK),IF k (A.deeper (KJ name (ai st) s.heap.objs.size f cdv))->BG (kh CX0 P W K mg base N name (ai st) f cdv A outer s H E).nox (bu st) m)
  {run:List T->Option T} (hrun:∀ts,run ts=if ts.length=ps.length then cR m N.length ts else none):Has P W K mg base (k+1) name ps (spP K run):=by
 refine d.has S (λvs H Q E h=>?_) (λf cdv A outer s H vs Q E hr h=>?_)
 ·obtain⟨ts,t,r,e,_⟩:=h;rw[hrun]at e;split at e;rename_i hl;rw[r.length,hl];cases e
 ·obtain⟨ts,t,r,e,q⟩:=h;rw[hrun]at e;split at e
  ·obtain⟨tS,p1,p2⟩:=hbody f cdv A outer s H E hr;refine⟨tS,p1,?_⟩;have S0:=xQ (N:=N) r;unfold cR at e;split at e
   ·rename_i t0 O' e1;cases e;exact p2 ⟨K,H,[],[]⟩ H _ _ [] _ _ O' rfl (by simp) e1 S0 λv Z' H' S1=>q v H' (yl S1)
   ·rename_i O' e1;cases e;exact p2 ⟨K,H,[],[]⟩ H _ _ [] _ .nx O' rfl (by simp) e1 S0 λZ' H' S1=>q .non H' (yl (S1.imm bS))
   ·cases e
  ·cases e
noncomputable def fh(k:Nat) (ts:List T) (n:Nat):Rho:=(cH ts n).set k (some ⟨.io 0,ts.getD k (.im .non)⟩)
noncomputable def fu(m:MS) (k n:Nat) (ts:List T):Option (T×T):=match m.run (fh k ts n)with
 | some (.rt t,O')=>(match O'[k]? with
  | some (some ⟨.io 0,s'⟩)=>some (t,s')
  | _=>none)
 | some (.nx,O')=>(match O'[k]? with
  | some (some ⟨.io 0,s'⟩)=>some (.im .non,s')
  | _=>none)
 | _=>none
theorem nj{G:List Addr}(n m:Nat):∀{ts:List T} {vs:List V} {k:Nat},vs.length=ts.length->(∀(i:Nat) x u,vs[i]?=some x->ts[i]?=some u->∃F,Rp K H u x F/\∀a∈F,a∉G)->∃L:List Hd,L.map (·.e)=aD k (vs.map some++El n none) ((ts.map λt=>some (roR t))++El m none)/\L.flatMap Hd.own=[]/\(∀h∈L,Rp K H h.e.r.t h.e.v h.F/\∀a∈h.F,a∉G)/\(∀h∈L,(h.e.r.k=.ow/\h.F=[])∨h.e.r.k=.vw none none)
 | [],[],k,_,_=>⟨[],by simp[gR],rfl,by simp,by simp⟩
 | t::ts,v::vs,k,hl,r=>by
  obtain⟨F,r1,r1'⟩:=r 0 v t rfl rfl;obtain⟨L,h1,h2,h3,h4⟩:=nj (G:=G) n m (ts:=ts) (vs:=vs) (k:=k+1) (by simpa using hl) (λi x u hx hu=>r (i+1) x u (by simpa using hx) (by simpa using hu));have hroR:∃F',Rp K H (roR t).t v F'/\(∀a∈F',a∉G)/\(((roR t).k=.ow/\F'=[])∨(roR t).k=.vw none none):=by
   cases t with
   | im i=>exact⟨[],iJ (aX r1).1,by simp,.inl ⟨rfl,rfl⟩⟩
   | _=>exact⟨F,r1,r1',.inr rfl⟩
  obtain⟨F',g1,g1',g2⟩:=hroR;refine⟨⟨⟨some k,v,roR t⟩,F'⟩::L,by simp[aD,h1],?_,λh hh=>?_,λh hh=>?_⟩
  ·rw[Ew,h2,EB];unfold Hd.own;rcases g2 with⟨e,rfl⟩|e;simp;rw[show(⟨⟨some k,v,roR t⟩,F'⟩:Hd).e.r.k=(roR t).k from rfl,e];rfl
  ·rcases ycM hh with rfl|hh;exact⟨g1,g1'⟩;exact h3 h hh
  ·rcases ycM hh with rfl|hh
   ·rcases g2 with⟨e,rfl⟩|e;exact .inl ⟨e,rfl⟩;exact .inr e
   ·exact h4 h hh
 | [],_::_,_,h,_=>by cases h
 | _::_,[],_,h,_=>by cases h
theorem xP{ts:List T}{vs:List V}{N:List Str}{k:Nat}{G:List Addr}(hl:vs.length=ts.length)(hw:vs[k]?=some w)(hs:ts[k]?=some s)(rp:Rp K H s w G)(nd:G.Nodup)(mu:∀a∈G,Mu H a)(ro:∀(m:Nat) x u,m≠k->vs[m]?=some x->ts[m]?=some u->∃F,Rp K H u x F/\∀a∈F,a∉G):Sim ⟨K,H,G,[w]⟩ H (fh k ts N.length) (bM N vs) []:=by
 have hkl:k<ts.length:=(Eg.mp hs).1;have hl':(vs.set k .non).length=(ts.set k (.im .non)).length:=by simp[hl]
 obtain⟨L,h1,h2,h3,h4⟩:=nj (K:=K) (H:=H) (G:=G) (N.length-vs.length) (N.length-ts.length) (ts:=ts.set k (.im .non)) (vs:=vs.set k .non) (k:=0) hl' (λm x u hx hu=>by
  by_cases e:m=k
  ·subst e;simp[hl,hkl]at hx hu;subst hx hu;exact⟨[],iJ bS,by simp⟩
  ·rw[ED (JI e)]at hx hu;exact ro m x u e hx hu)
 have eZ:(vs.set k .non).map some++El (N.length-vs.length) none=(bM N vs).set k (some .non):=by
  unfold bM;rw[Hl _ _ (by simp[hl,hkl]),G8]
 have eO:((ts.set k (.im .non)).map λt=>some (roR t))++El (N.length-ts.length) none=(cH ts N.length).set k (some ⟨.ow,.im .non⟩):=by
  unfold cH;rw[Hl _ _ (by simp[hkl]),G8];rfl
 rw[eZ,eO]at h1;have hkO:k<(cH ts N.length).length:=by simp[cH];omega
 have hkZ:k<(bM N vs).length:=by simp[bM,hl];omega
 have p1:=fW (k:=0) (Z:=bM N vs) (O:=cH ts N.length) (v:=.non) (r:=⟨.ow,.im .non⟩) hkZ hkO;rw[Fb,←h1]at p1;obtain⟨L2,pL,eL⟩:=k6 p1 L rfl;obtain⟨x,L3,rfl,ex,e3⟩:=aH eL;have inL:∀h∈L3,h∈L:=λh hh=>pL.mem_iff.mpr (ymC _ hh);have own3:L3.flatMap Hd.own=[]:=by
  rw[GX];intro h hh;rw[GX]at h2;exact h2 h (inL h hh)
 have own1:((⟨⟨some k,w,⟨.io 0,s⟩⟩,G⟩:Hd)::L3).flatMap Hd.own=G:=by rw[Ew,own3,EB];rfl
 have ht:ts.getD k (.im .non)=s:=by rw[EL,hs];rfl
 have eZ2:(bM N vs).set k (some w)=bM N vs:=by
  apply FL;intro m;by_cases hm:m=k
  ·subst hm;rw[Fg hkZ];unfold bM;rw[E4 (by simp[hl,hkl]),Ep,hw];rfl
  ·rw[ED (JI hm)]
 have p2:=fW (k:=0) (Z:=bM N vs) (O:=cH ts N.length) (v:=w) (r:=⟨.io 0,s⟩) hkZ hkO;rw[Fb,eZ2]at p2;have gw:GW ⟨K,H,G,[w]⟩ H (⟨⟨some k,w,⟨.io 0,s⟩⟩,G⟩::L3):=by
  refine⟨by rw[own1];exact nd,λa ha=>by rw[own1]at ha;exact⟨mu a ha,.inr ha⟩,λh hh=>?_,λh hh=>?_,?_,λb o e _=>e,λa ha=>let ⟨o,e,_⟩:=mu a ha;⟨o,e⟩⟩
  ·rcases ycM hh with rfl|hh;exact rp;exact(h3 h (inL h hh)).1
  ·rcases ycM hh with rfl|hh;rfl
   ·unfold IC;rcases h4 h (inL h hh)with⟨e,eF⟩|e;rw[e,eF];simp;rw[e,own1];exact(h3 h (inL h hh)).2
  ·have e5:((⟨⟨some k,w,⟨.io 0,s⟩⟩,G⟩:Hd)::L3).filterMap (λh=>h.e.key)=(x::L3).filterMap λh=>h.e.key:=by rw[EI,EI,ex]
   rw[e5];have e6:((x::L3).filterMap λh=>h.e.key)=((x::L3).map (·.e)).filterMap λe=>e.key:=by rw[Ge];rfl
   rw[e6,eL];have:=(p1.filterMap (λe:En=>e.key)).nodup_iff.mp (by rw[h1];exact pc);exact this
 refine⟨Iv.perm ⟨_,gw,rfl⟩ ?_,λi r' h=>?_,?_,by simp⟩
 ·rw[Ek,e3,Fx];unfold fh;rw[ht];exact p2.symm
 ·unfold fh at h;rw[ht]at h;by_cases e:i=k
  ·subst e;refine⟨w,?_⟩;unfold bM;rw[E4 (by simp[hl,hkl]),Ep,hw];rfl
  ·rw[ED (JI e)]at h;exact no hl i r' h
 ·simp[bM,fh,cH,hl]
theorem yk{H0:Hp}{G:List Addr}{w0:V}{k:Nat}{s':T}(S:Sim ⟨K,H0,G,[w0]⟩ H' O Z [⟨none,v,⟨.ow,t⟩⟩])(h : O[k]?=some (some ⟨.io 0,s'⟩)):∃F G',Iy G H0 H'/\(∀a∈G,∃o,H' a=some o)/\(F++G').Nodup/\(∀a∈F,H0 a=none/\Mu H' a)/\(∀a∈G',(a∈G∨H0 a=none)/\Mu H' a)/\Rp K H' s' w0 G'/\Rp K H' t v F:=by
 obtain⟨w,hw,hm⟩:=S.slot h;obtain⟨L,g,e⟩:=S.sl;rw[EC]at e hm;obtain⟨x,L',rfl,ex,e2⟩:=aH e;have hm':(⟨some k,w,⟨.io 0,s'⟩⟩:En)∈L'.map (·.e):=by
  rw[e2];rcases ycM hm with z|z;cases z;exact z
 obtain⟨y,hy,ey⟩:=Ev.mp hm';have rpx:=g.rp x ymS;rw[ex]at rpx;have rpy:=g.rp y (ymC _ hy);rw[ey]at rpy;have kx:=g.kd x ymS;unfold IC at kx;rw[ex]at kx;have ky:=g.kd y (ymC _ hy);unfold IC at ky;rw[ey]at ky;have ew:w0=w:=by simpa using ky
 subst ew;have hox:x.e.r.k.isOw=true:=by rw[ex];rfl
 have hoy:y.e.r.k.isOw=true:=by rw[ey];rfl
 refine⟨x.F,y.F,λb o hb n=>g.fr b o hb n,g.iol,?_,λa ha=>⟨kx a ha,g.muF ymS hox a ha⟩,λa ha=>?_,rpy,rpx⟩
 ·have nd:=g.nd;rw[Ew]at nd;have nx:x.own=x.F:=by unfold Hd.own;rw[if_pos hox]
  rw[nx]at nd;have nn:=Em.mp nd;exact Em.mpr ⟨nn.1,g.ndF (ymC _ hy) hoy,λa ha b hb=>nn.2.2 a ha b (Fc.mpr ⟨y,hy,iD hoy hb⟩)⟩
 ·have:=g.ad a (Fc.mpr ⟨y,ymC _ hy,iD hoy ha⟩);exact⟨this.2.symm,this.1⟩
theorem Def.mi{P:Jq}{W:JB}{mg:Str->Option Jd}{base:Heap}{k:Nat}{name:Str}{st:Stmt}{N ps:List Str}{j:Nat}(d:Def K mg name st ps)(S:Is N ps (ai st)){m:MS}
  (hbody:∀(f:Addr) (cdv:Jd) (A:Jw) (outer:List Env) (s:Jf) (H:Hp) (E:XK),IF k (A.deeper (KJ name (ai st) s.heap.objs.size f cdv))->BG (kh CX0 P W K mg base N name (ai st) f cdv A outer s H E).nox (bu st) m)
  {run:List T->Option (T×T)} (hrun:∀ts,run ts=if ts.length=ps.length then fu m j N.length ts else none):Has P W K mg base (k+1) name ps (spI K j run):=by
 refine d.has S (λvs H Q E h=>?_) (λf cdv A outer s H vs Q E hr h=>?_)
 ·obtain⟨ts,s0,w,G,t,s',hl,_,_,_,_,_,_,e,_⟩:=h;rw[hrun]at e;split at e;rename_i h2;rw[hl,h2];cases e
 ·obtain⟨ts,s0,w,G,t,s',hl,hw,hs,rp,nd,mu,ro,e,q⟩:=h;rw[hrun]at e;split at e
  ·obtain⟨tS,p1,p2⟩:=hbody f cdv A outer s H E hr;refine⟨tS,p1,?_⟩;have S0:=xP (N:=N) hl hw hs rp nd mu ro;unfold fu at e;split at e
   ·rename_i t0 O' e1;split at e
    ·rename_i s1 e2;cases e;refine p2 ⟨K,H,G,[w]⟩ H _ _ [] _ _ O' rfl (by simp) e1 S0 λv Z' H' S1=>?_;obtain⟨F,G',a1,a2,a3,a4,a5,a6,a7⟩:=yk S1 e2;exact q v H' F G' a1 a2 a3 a4 a5 a6 a7
    ·cases e
   ·rename_i O' e1;split at e
    ·rename_i s1 e2;cases e;refine p2 ⟨K,H,G,[w]⟩ H _ _ [] _ .nx O' rfl (by simp) e1 S0 λZ' H' S1=>?_;obtain⟨F,G',a1,a2,a3,a4,a5,a6,a7⟩:=yk (S1.imm bS) e2;exact q .non H' F G' a1 a2 a3 a4 a5 a6 a7
    ·cases e
   ·cases e
  ·cases e
end
structure CK{ι : Type}(C:ι->Cx)(P:Jq)(W:JB)(K:yF)(mg:Str->Option Jd)(base:Heap)(k:Nat):Prop where
 prog:∀i,(C i).prog=P
 w:∀i,(C i).w=W
 kk:∀i,(C i).K=K
 mg:∀i,(C i).mg=mg
 base:∀i,(C i).base=base
 calm:∀i,(C i).calm=true
 room:∀i,IF k (C i).A
variable {ι : Type}{C:ι->Cx}{P:Jq}{W:JB}{K:yF}{mg:Str->Option Jd}{base:Heap}{k:Nat}
noncomputable abbrev gJ(C:ι->Cx) (scope:JW) (N':List Str):ι×Bk->Cx:=λp=>cxB (C p.1) scope N' p.2
theorem CK.blk(ck:CK C P W K mg base k){scope:JW}{N':List Str}:CK (gJ C scope N') P W K mg base k:=
 ⟨λp=>ck.prog p.1,λp=>ck.w p.1,λp=>ck.kk p.1,λp=>ck.mg p.1,λp=>ck.base p.1,λp=>ck.calm p.1,λp=>ck.room p.1⟩
structure QE(C:ι->Cx)(K:yF)(e:Expr)(m:ME):Prop where
 ex:∃te,(∀i,PE (C i) e te)/\aP K te m
structure QT(C:ι->Cx)(K:yF)(e:Expr)(m:MT):Prop where
 ex:∃te,(∀i,PT (C i) e te)/\dR K te m
structure QW(C:ι->Cx)(K:yF)(e:Expr)(m:MT):Prop where
 ex:∃te,(∀i,PW (C i) e te)/\dR K te m
structure QTs(C:ι->Cx)(K:yF)(e:List Expr)(m:MT):Prop where
 ex:∃te,(∀i,PTs (C i) e te)/\dR K te m
structure QA(C:ι->Cx)(K:yF)(es:List Expr)(m:MA):Prop where
 ex:∃ta,(∀i,PA (C i) es ta)/\bo es=true/\fR K ta m
structure QS(C:ι->Cx)(K:yF)(st:Stmt)(m:MS):Prop where
 ex:∃ts,(∀i,PS (C i) st ts)/\dA K ts m
structure QSs(C:ι->Cx)(K:yF)(st:List Stmt)(m:MS):Prop where
 ex:∃ts,(∀i,PSs (C i) st ts)/\dA K ts m
structure QG(C:ι->Cx)(K:yF)(fr:Option (List (Option Nat)))(e:Expr)(m:MG):Prop where
 ex:∃g,(∀i,PG (C i) e g)/\gO K g m/\∀f,fr=some f->b9 f g
structure QGs(C:ι->Cx)(K:yF)(fr:Option (List (Option Nat)))(n:Nat)(es:List Expr)(m:MGs):Prop where
 ex:∃g,(∀i,PGs (C i) es g)/\l8 K g m/\(∀f,fr=some f->jG f g)/\(∀rs O O',m.run rs O=some O'->rs.length=n)
structure QI(C:ι->Cx)(K:yF)(tg e:Expr)(m:MI):Prop where
 ex:∃wi,(∀i,PI (C i) tg e wi)/\jJ K wi m
structure QO(C:ι->Cx)(K:yF)(e:Option Expr)(m:MO):Prop where
 ex:∃t,(∀i,PO (C i) e t)/\rN K t m
section
variable {a b c e o:Expr}{es:List Expr}{ma mb mc m:ME}{ms:MA}{pos:Pos}{mt mt':MT}
theorem CB{i:Int}{j:Nat}:QE C K (.Constant (.int i) j pos) (mC (.int i)):=⟨_,λ_=>tI,uG rfl⟩
theorem D2{x:Bool}{j:Nat}:QE C K (.Constant (.bool x) j pos) (mC (.bl x)):=⟨_,λ_=>Cj,uG rfl⟩
theorem CN{x:Str}{j:Nat}:QE C K (.Constant (.str x) j pos) (mC (.str x)):=⟨_,λ_=>Ah,uG rfl⟩
theorem CQ(n:Nat){x:Str}(hN:∀i,(C i).N[n]?=some x:=by intro _;rfl)(hv:∀i,Vis (C i).env.scope x:=by first|exact λ_=>MV rfl|exact λ_=>LV (MV rfl)|exact λ_=>LV (LV rfl))(hd:(x==("__debug__" : Str))=false:=by decide)(hcd:(x==("__classdict__" : Str))=false:=by decide):QE C K (.Name x pos) (af n):=⟨_,λi=>tK (hN i) (hv i) hd hcd,xL⟩
theorem AD:QA C K [] mNil:=⟨_,λ_=>lP,rfl,xC⟩
theorem xc(h1:QE C K e m)(h2:QA C K es ms)(hs:dB e=false:=by rfl):QA C K (e::es) (ac m ms):=by
 obtain⟨te,a,b⟩:=h1;obtain⟨ta,c,n,d⟩:=h2;exact⟨_,λi=>eS (a i) (c i) hs,by rw[bo,hs,n];rfl,uH b d⟩
theorem qP{op:Ng}{red:yF->R2}{f:T->T->Option T}(ck:CK C P W K mg base k)(ho:∀X:Cx,OpR X (JK op) (red X.K))(hp:dW K (red K) f)(ha:QE C K a ma)(hb:QE C K b mb):QE C K (.BinOp a op b pos) (mOp f ma mb):=by
 obtain⟨ta,p,r⟩:=ha;obtain⟨tb,p',r'⟩:=hb;exact⟨_,λi=>Co (r:=red K) (by have:=ho (C i);rw[ck.kk i]at this;exact this) (p i) (p' i),oA hp r r'⟩
theorem Ct(ck:CK C P W K mg base k)(ha:QE C K a ma)(hb:QE C K b mb):QE C K (.BinOp a .Add b pos) (mOp bg ma mb):=qP ck (red:=ur) (λ_=>wt) tP ha hb
theorem CO(ck:CK C P W K mg base k)(ha:QE C K a ma)(hb:QE C K b mb):QE C K (.BinOp a .Sub b pos) (mOp cS ma mb):=qP ck (red:=λ_=>rI0 λi j=>.int (i-j)) (λ_=>zP) uc ha hb
theorem CG(ck:CK C P W K mg base k)(ha:QE C K a ma)(hb:QE C K b mb):QE C K (.BinOp a .Mult b pos) (mOp dU ma mb):=qP ck (red:=uy) (λ_=>wv) tZ ha hb
theorem Ay(ck:CK C P W K mg base k)(ha:QE C K a ma)(hb:QE C K b mb):QE C K (.BinOp a .FloorDiv b pos) (mOp jo ma mb):=qP ck (red:=λ_=>rI nE λi j=>.int (i / j)) (λ_=>qA) qK ha hb
theorem CF(ck:CK C P W K mg base k)(ha:QE C K a ma)(hb:QE C K b mb):QE C K (.BinOp a .Mod b pos) (mOp fZ ma mb):=qP ck (red:=λ_=>rI (λ_ j=>0<j) λi j=>.int (i % j)) (λ_=>zK) tY ha hb
theorem CJ(ck:CK C P W K mg base k)(ha:QE C K a ma)(hb:QE C K b mb):QE C K (.BinOp a .Pow b pos) (mOp qI ma mb):=qP ck (red:=λ_=>rI yP λi j=>.int (i^j.toNat)) (λ_=>zO) ua ha hb
def gM(op:NA)(f:T->T->Option T):Prop:=∃red:yF->R2,(∀X:Cx,X.A.units+64<JP->OpR X (JE op) (red X.K))/\∀K,dW K (red K) f
theorem DR:gM .Lt (fS λi j=>decide (i<j)):=⟨λ_=>_,λ_ _=>B5,λ_=>j3⟩
theorem DP:gM .Gt (fS λi j=>decide (j<i)):=⟨λ_=>_,λ_ _=>B4,λ_=>j3⟩
theorem DO:gM .GtE (fS λi j=>decide (j<=i)):=⟨λ_=>_,λ_ _=>B3,λ_=>j3⟩
theorem DN:gM .Eq eqT:=⟨AV,λ_ hu=>zH hu,λ_=>wP⟩
theorem DS:gM .NotEq neT:=⟨AY,λ_ hu=>zN hu,λ_=>wR⟩
theorem DQ:gM .In inT:=⟨AW,λ_ hu=>zJ hu,λ_=>wQ⟩
theorem BJ:gM .NotIn jx:=⟨lT,λ_ hu=>qC hu,λ_=>t3⟩
theorem Cv{op:NA}{f:T->T->Option T}(ck:CK C P W K mg base k)(hc:gM op f)(ha:QE C K a ma)(hb:QE C K b mb)(hm:KD op b=false):QE C K (.Compare a [op] [b] pos) (mOp f ma mb):=by
 obtain⟨red,ho,hp⟩:=hc;obtain⟨ta,p,r⟩:=ha;obtain⟨tb,p',r'⟩:=hb;exact⟨_,λi=>wE (r:=red K) (by have:=ho (C i) (ck.room i).units;rw[ck.kk i]at this;exact this) (p i) (p' i) hm,oA (hp K) r r'⟩
theorem AO{op:NA}{f:T->T->Option T}(ck:CK C P W K mg base k)(hc:gM op f)(ha:QE C K a ma)(hb:QE C K b mb)(hm:KD op b=false):QT C K (.Compare a [op] [b] pos) (aI (mOp f ma mb)):=by
 obtain⟨red,ho,hp⟩:=hc;obtain⟨ta,p,r⟩:=ha;obtain⟨tb,p',r'⟩:=hb;exact⟨_,λi=>wV (r:=red K) (by have:=ho (C i) (ck.room i).units;rw[ck.kk i]at this;exact this) (p i) (p' i) hm,m8 (oA (hp K) r r')⟩
theorem AS(ha:QE C K e m)(he:∀i whole,LO e (C i).env whole=(do let v ←whole;Ki e.pos;JR [v] (Nf v)):=by intro _ _;rfl):QT C K e (aI m):=by
 obtain⟨ta,p,r⟩:=ha;exact⟨_,λi=>At (p i) (he i),A9 r⟩
theorem AR(ck:CK C P W K mg base k)(ha:QE C K e m)(he:∀i whole,LO e (C i).env whole=(do let v ←whole;Ki e.pos;JR [v] (Nf v)):=by intro _ _;rfl):QT C K e (n4 m):=by
 obtain⟨ta,p,r⟩:=ha;exact⟨_,λi=>Eb (ck.kk i) (p i) (he i),xK r⟩
theorem AQ(ha:QT C K a mt):QT C K (.UnaryOp .Not a pos) (nX mt):=by
 obtain⟨ta,p,r⟩:=ha;exact⟨_,λi=>As (p i),xD r⟩
theorem xo(ha:QT C K a mt):QW C K (.BoolOp .And [a] pos) mt:=by
 obtain⟨ta,p,r⟩:=ha;exact⟨_,λi=>w8 (p i),r⟩
theorem AU(ha:QT C K a mt):QW C K (.BoolOp .Or [a] pos) mt:=by
 obtain⟨ta,p,r⟩:=ha;exact⟨_,λi=>Aw (p i),r⟩
theorem AT{rest:List Expr}(ha:QT C K a mt)(hb:QW C K (.BoolOp .And (b::rest) pos) mt'):QW C K (.BoolOp .And (a::b::rest) pos) (iZ mt mt'):=by
 obtain⟨ta,p,r⟩:=ha;obtain⟨tb,p',r'⟩:=hb;exact⟨_,λi=>Av (p i) (p' i),xu r r'⟩
theorem CT{rest:List Expr}(ha:QT C K a mt)(hb:QW C K (.BoolOp .Or (b::rest) pos) mt'):QW C K (.BoolOp .Or (a::b::rest) pos) (mOr mt mt'):=by
 obtain⟨ta,p,r⟩:=ha;obtain⟨tb,p',r'⟩:=hb;exact⟨_,λi=>Cs (p i) (p' i),A7 r r'⟩
theorem QW.t(h:QW C K e mt):QT C K e mt:=by
 obtain⟨ta,p,r⟩:=h;exact⟨_,λi=>(p i).pt,r⟩
theorem CI{op:BoolOp}(h:QE C K a m):QE C K (.BoolOp op [a] pos) m:=by
 obtain⟨ta,p,r⟩:=h;exact⟨_,λi=>Ag (p i),r⟩
theorem D5{rest:List Expr}(ha:QE C K a ma)(hb:QE C K (.BoolOp .Or (b::rest) pos) mb):QE C K (.BoolOp .Or (a::b::rest) pos) (nY ma mb):=by
 obtain⟨ta,p,r⟩:=ha;obtain⟨tb,p',r'⟩:=hb;exact⟨_,λi=>Cp (p i) (p' i),xE r r'⟩
theorem CD(mv:List Nat)(h:QA C K es ms):QE C K (.List es pos) (aO mv ms):=by
 obtain⟨ta,p,_,r⟩:=h;exact⟨_,λi=>Af (p i),uM r⟩
theorem CP(mv:List Nat){x1:Nat}(h:QA C K es ms):QE C K (.Tuple es x1 pos) (aC mv ms):=by
 obtain⟨ta,p,_,r⟩:=h;exact⟨_,λi=>Ai (p i),uS r⟩
theorem D4(ck:CK C P W K mg base k)(ha:QE C K a ma)(hb:QE C K b mb)(hs:oY b:=by exact λ_ _=>rfl):QE C K (.Subscript a b pos) (mIx ma mb):=by
 obtain⟨ta,p,r⟩:=ha;obtain⟨tb,p',r'⟩:=hb;exact⟨_,λi=>Cn (DZ (ck.kk i)) (p i) (p' i) hs,A6 r r'⟩
theorem xg:QO C K none mNoPart:=⟨_,λ_=>wN,oz⟩
theorem xh(h:QE C K e m):QO C K (some e) (fK m):=by
 obtain⟨ta,p,r⟩:=h;exact⟨_,λi=>lQ (p i),uP r⟩
theorem D6{lo hi:Option Expr}{ml mh:MO}{p2:Pos}(ck:CK C P W K mg base k)(ha:QE C K a ma)(hl:QO C K lo ml)(hh:QO C K hi mh):QE C K (.Subscript a (.Slice lo hi none p2) pos) (mSl ma ml mh):=by
 obtain⟨ta,p,r⟩:=ha;obtain⟨tl,p',r'⟩:=hl;obtain⟨th,p'',r''⟩:=hh;exact⟨_,λi=>tJ (r:=rSl K) (by have:=Ea (X:=C i);rw[ck.kk i]at this;exact this) (p i) (p' i) (p'' i),A8 r r' r''⟩
theorem CM{j:Nat}{p1 p2 p3:Pos}(ck:CK C P W K mg base k)(ha:QE C K a ma):QE C K (.Subscript a (.Slice none none (some (.UnaryOp .USub (.Constant (.int 1) j p1) p2)) p3) pos) (mUn uT ma):=by
 obtain⟨ta,p,r⟩:=ha;exact⟨_,λi=>D8 (ck.kk i) (p i),xH r⟩
theorem Cz{x:Str}{p:Pos}{j:Nat}{ps:List Str}{run:List T->Option T}(ck:CK C P W K mg base k)(h:Has P W K mg base j x ps (spP K run))(ha:QA C K (e::es) ms)(hj:j<=k:=by first|decide|omega)(hg:∀i,Gl (C i) x:=by intro _;rfl)(hdb:(x==("__debug__" : Str))=false:=by decide):QE C K (.Call (.Name x p) (e::es) [] pos) (mB run ms):=by
 obtain⟨ta,q,n,r⟩:=ha;refine⟨_,λi=>om (by rw[ck.prog i,ck.w i,ck.kk i,ck.mg i,ck.base i];exact h) ((ck.room i).mono hj) (hg i) (q i) n hdb,qT r⟩
theorem Cy(l:Nat){x:Str}{p:Pos}{j n0:Nat}{ps:List Str}{run:List T->Option (T×T)}(ck:CK C P W K mg base k)(h:Has P W K mg base j x ps (spI K n0 run))(ha:QA C K (e::es) ms)(hj:j<=k:=by first|decide|omega)(hg:∀i,Gl (C i) x:=by intro _;rfl)(hdb:(x==("__debug__" : Str))=false:=by decide):QE C K (.Call (.Name x p) (e::es) [] pos) (am n0 l run ms):=by
 obtain⟨ta,q,n,r⟩:=ha;refine⟨_,λi=>om (by rw[ck.prog i,ck.w i,ck.kk i,ck.mg i,ck.base i];exact h) ((ck.room i).mono hj) (hg i) (q i) n hdb,qS r⟩
def l7(x:Str)(f:List T->Option T):Prop:=∃(id:String) (red:yF->List V->Hp->VK->Prop),JQ x=some (.builtin id)/\(∀X:Cx,X.calm=true->ID X (.builtin id) (red X.K))/\∀K,fH K (red K) f
def vE(x:Str)(f:List T->Option T):Prop:=∃(id:String) (red:yF->List V->Hp->VK->Prop),JQ x=some (.type id)/\(∀X:Cx,X.calm=true->ID X (.type id) (red X.K))/\∀K,fH K (red K) f
theorem Cu{x:Str}{p:Pos}{f:List T->Option T}(ck:CK C P W K mg base k)(hb:l7 x f)(hm:mg x=none)(ha:QA C K (e::es) ms)(hg:∀i,Gl (C i) x:=by intro _;rfl)(hx:x≠("__name__" : Str):=by decide)(hdb:(x==("__debug__" : Str))=false:=by decide):QE C K (.Call (.Name x p) (e::es) [] pos) (mB f ms):=by
 obtain⟨id,red,b1,b2,b3⟩:=hb;obtain⟨ta,q,n,r⟩:=ha;exact⟨_,λi=>kZ (r:=red K) (by have:=b2 (C i) (ck.calm i);rw[ck.kk i]at this;exact this) (hg i) (by rw[ck.mg i];exact hm) b1 (q i) n hx hdb,mZ (b3 K) r⟩
theorem D7{x:Str}{p:Pos}{f:List T->Option T}(ck:CK C P W K mg base k)(hb:vE x f)(hm:mg x=none)(ha:QA C K (e::es) ms)(hg:∀i,Gl (C i) x:=by intro _;rfl)(hx:x≠("__name__" : Str):=by decide)(hdb:(x==("__debug__" : Str))=false:=by decide):QE C K (.Call (.Name x p) (e::es) [] pos) (mB f ms):=by
 obtain⟨id,red,b1,b2,b3⟩:=hb;obtain⟨ta,q,n,r⟩:=ha;exact⟨_,λi=>dH (r:=red K) (by have:=b2 (C i) (ck.calm i);rw[ck.kk i]at this;exact this) (hg i) (by rw[ck.mg i];exact hm) b1 (q i) n hx hdb,mZ (b3 K) r⟩
theorem b_len:l7 "len" dh:=⟨_,uw,PySem.boot_len,λ_ _=>pY,λ_=>tU⟩
theorem b_min:l7 "min" oe:=⟨_,λ_=>_,Ik,λ_ h=>p8 h,λ_=>tX⟩
theorem b_max:l7 "max" n9:=⟨_,λ_=>_,Il,λ_ h=>p7 h,λ_=>tW⟩
theorem b_all:l7 "all" lp:=⟨_,CU,Im,λ_ h=>rS h,λ_=>tQ⟩
theorem b_int:vE "int" qk:=⟨_,λ_=>_,Io,λ_ _=>pX,λ_=>tR⟩
theorem b_tuple:vE "tuple" gK:=⟨_,uC,Gh,λ_ _=>kf,λ_=>ud⟩
theorem b_list:vE "list" nW:=⟨_,ux,G9,λ_ _=>lx,λ_=>tV⟩
def rL(T0:String)(name:Str)(f:T->List T->Option T):Prop:=∃(id:String) (red:yF->V->List V->Hp->VK->Prop),Kz T0/\Slot T0 name id/\Mr (.builtin id)=pure (.type "method_descriptor")/\(∀X:Cx,MtR X id (red X.K))/\(∀K,rM K T0 (red K) f)/\∀K (H:Hp) (x:V) (tx:T) ts t,Rpx K H tx x->f tx ts=some t->tyV K T0 x H
def jH(T0:String)(name:Str)(f:T->List T->Option (T×I)):Prop:=∃(id:String) (red:yF->V->List V->Hp->VK->Prop),Kz T0/\Slot T0 name id/\Mr (.builtin id)=pure (.type "method_descriptor")/\(∀X:Cx,MtR X id (red X.K))/\(∀K,cJ K (red K) f)/\∀K (H:Hp) (x:V) (tx:T) ts r,Rpx K H tx x->f tx ts=some r->tyV K T0 x H
theorem AA{T0:String}{name:Str}{f:T->List T->Option T}{apos:Pos}{mo:ME}(ck:CK C P W K mg base k)(hm:rL T0 name f)(ho:QE C K o mo)(ha:QA C K (e::es) ms)(hlen:decide ((e::es).length<30)=true:=by rfl)
  (hbase:∀i,JU o name (C i).env (eval o (C i).env)=eval o (C i).env:=by intro _;rfl) (hline:(apos.endLine==pos.line)=true:=by rfl):QE C K (.Call (.Attribute o name apos) (e::es) [] pos) (mM f mo ms):=by
 obtain⟨id,red,h1,h2,h3,h4,h5,h6⟩:=hm;obtain⟨to,q,r⟩:=ho;obtain⟨ta,q',n,r'⟩:=ha;exact⟨_,λi=>yX (r:=red K) (ck.kk i) h1 h2 h3 (by have:=h4 (C i);rw[ck.kk i]at this;exact this) (q i) (q' i) n hlen (hbase i) hline,C8 (h5 K) (h6 K) r r'⟩
theorem CH(l:Nat)(mv:List Nat){T0:String}{name:Str}{f:T->List T->Option (T×I)}{apos:Pos}{mo:ME}(ck:CK C P W K mg base k)(hm:jH T0 name f)(ho:QE C K o mo)(ha:QA C K (e::es) ms)(hlen:decide ((e::es).length<30)=true:=by rfl)
  (hbase:∀i,JU o name (C i).env (eval o (C i).env)=eval o (C i).env:=by intro _;rfl) (hline:(apos.endLine==pos.line)=true:=by rfl):QE C K (.Call (.Attribute o name apos) (e::es) [] pos) (bK l mv f mo ms):=by
 obtain⟨id,red,h1,h2,h3,h4,h5,h6⟩:=hm;obtain⟨to,q,r⟩:=ho;obtain⟨ta,q',n,r'⟩:=ha;exact⟨_,λi=>yX (r:=red K) (ck.kk i) h1 h2 h3 (by have:=h4 (C i);rw[ck.kk i]at this;exact this) (q i) (q' i) n hlen (hbase i) hline,pC (h5 K) (h6 K) r r'⟩
theorem AB(l:Nat){T0:String}{name:Str}{f:T->List T->Option (T×I)}{apos:Pos}{mo:ME}(ck:CK C P W K mg base k)(hm:jH T0 name f)(ho:QE C K o mo)
  (hbase:∀i,JU o name (C i).env (eval o (C i).env)=eval o (C i).env:=by intro _;rfl) (hline:(apos.endLine==pos.line)=true:=by rfl):QE C K (.Call (.Attribute o name apos) [] [] pos) (kU l f mo):=by
 obtain⟨id,red,h1,h2,h3,h4,h5,h6⟩:=hm;obtain⟨to,q,r⟩:=ho;exact⟨_,λi=>DM (r:=red K) (ck.kk i) h1 h2 h3 (by have:=h4 (C i);rw[ck.kk i]at this;exact this) (q i) (hbase i) hline,uN (h5 K) (h6 K) r⟩
theorem zz:rL "str" "join" jU:=⟨_,yB,PySem.F.plainAttrs_str,PySem.F.slot_str_join,PySem.F.type_str_join,λ_=>wn,λ_=>qL,λK H x tx ts t r e=>by
 unfold jU at e;split at e;rw[cY r];rfl;cases e⟩
theorem sJ:jH "list" "append" apT:=⟨_,λ_=>lR,PySem.F.plainAttrs_list,PySem.F.slot_list_append,PySem.F.type_list_append,λ_=>qx,λ_=>mT,λK=>rB⟩
theorem sK:jH "list" "extend" ki:=⟨_,uu,PySem.F.plainAttrs_list,PySem.F.slot_list_extend,PySem.F.type_list_extend,λ_=>wm,λ_=>mU,λK=>rC⟩
theorem BY:jH "list" "pop" mS:=⟨_,λ_=>AZ,PySem.F.plainAttrs_list,PySem.F.slot_list_pop,PySem.F.type_list_pop,λ_=>zA,λ_=>t4,λK=>Bn⟩
theorem sM:jH "list" "insert" lH:=⟨_,λ_=>lS,PySem.F.plainAttrs_list,PySem.F.slot_list_insert,PySem.F.type_list_insert,λ_=>qy,λ_=>mV,λK=>rD⟩
end
variable {ι : Type}{C:ι->Cx}{P:Jq}{W:JB}{K:yF}{mg:Str->Option Jd}{base:Heap}{k:Nat}
section
variable {a b c e o tg iter:Expr}{es:List Expr}{ma mb mc m mo mi:ME}{ms:MA}{pos:Pos}{mt mt':MT}{s1 s2:MS}{g g':MG}{gs:MGs}{it it2:MI}{fr:Option (List (Option Nat))}
theorem xf(n:Nat){x:Str}(hN:∀i,(C i).N.Nodup)(hi:∀i,(C i).N[n]?=some x:=by intro _;rfl)(hx:∀i,Loc (C i).env.scope x:=by first|exact λ_=>MV rfl|exact λ_=>LV rfl)(hf:∀i,(C i).fn x=true∨(C i).env.scope.names.lookup x=some .local:=by first|exact λ_=>.inl rfl|exact λ_=>.inr rfl)
  (hfr:∀f,fr=some f->f[n]?=some none:=by first|(intro f h;cases h;done)|(intro f h;cases h;rfl)):QG C K fr (.Name x pos) (ag n):=
 ⟨_,λi=>wI (hN i) (hi i) (hx i) (hf i),j5,λf hf'=>vQ (hfr f hf')⟩
theorem pB:QGs C K fr 0 [] mGNil:=by with_unfolding_all exact⟨_,λ_=>wJ,uK,λ_ _=>zi,λrs O O' h=>by cases rs<;>first|rfl|cases h⟩
theorem gb{n:Nat}(h1:QG C K fr e g)(h2:QGs C K fr n es gs)(hs:∀i,(JT (e::es) (C i).env).map (·.2)=Kh e (C i).env::(JT es (C i).env).map (·.2):=by intro _;rfl):QGs C K fr (n+1) (e::es) (aS g gs):=by with_unfolding_all
 obtain⟨g1,p1,r1,k1⟩:=h1;obtain⟨g2,p2,r2,k2,l2⟩:=h2;refine⟨_,λi=>tN (p1 i) (p2 i) (hs i),qZ r1 r2,λf hf=>vP (k1 f hf) (k2 f hf),λrs O O' h=>?_⟩;cases rs with
 | nil=>cases h
 | cons r rs=>
  simp only[aS]at h;split at h
  ·split at h;rw[Ey,l2 _ _ _ h];cases h
  ·cases h
theorem up{n k0:Nat}(ck:CK C P W K mg base k)(h:QGs C K fr n es gs)(hn:∀i,(JT es (C i).env).length=n:=by intro _;rfl)(hst:∀i,(JT es (C i).env).findIdx? (·.1)=none:=by intro _;rfl):QG C K fr (.Tuple es k0 pos) (cP gs):=by
 obtain⟨g,p,r,kk,l⟩:=h;exact⟨_,λi=>tgK (ck.kk i) (ck.calm i) (p i) (hn i) (hst i),uL r l,λf hf=>zj (kk f hf)⟩
theorem AE(j:Nat)(ho:QE C K o mo)(hi:QE C K e mi)
  (ha:∀i v,Kh (.Subscript o e pos) (C i).env v=(do
   let ov ←JR [v] (eval o (C i).env)
   let iv ←JR [v,ov] (eval e (C i).env)
   Ki pos
   JR [v,ov,iv] (Lg ov iv v)
   M8 [v,ov,iv] []):=by intro _ _;rfl):QG C K none (.Subscript o e pos) (nZ j mo mi):=by
 obtain⟨to,p,r⟩:=ho;obtain⟨ti,p',r'⟩:=hi;exact⟨_,λi=>tL (p i) (p' i) u7 (ha i),xJ r r',λf h=>by cases h⟩
theorem AJ:QSs C K [] mNext:=⟨_,λ_=>wT,uO⟩
theorem AK{st:Stmt}(h1:QS C K st s1):QSs C K [st] s1:=by
 obtain⟨t,p,r⟩:=h1;exact⟨_,λi=>wU (p i),r⟩
theorem xj{st:Stmt}{rest:List Stmt}(h1:QS C K st s1)(h2:QSs C K rest s2):QSs C K (st::rest) (ak s1 s2):=by
 obtain⟨t,p,r⟩:=h1;obtain⟨u,p',r'⟩:=h2;exact⟨_,λi=>uh (p i) (p' i),xI r r'⟩
theorem CS{b1 b2:List Stmt}(hc:QT C K c mt)(h1:QSs C K b1 s1)(h2:QSs C K b2 s2):QS C K (.If c b1 b2 pos) (mIf mt s1 s2):=by
 obtain⟨tc,p0,r0⟩:=hc;obtain⟨t,p,r⟩:=h1;obtain⟨u,p',r'⟩:=h2;exact⟨_,λi=>Cr (p0 i) (p i) (p' i),xA r0 r r'⟩
theorem AM(h:QE C K e m):QS C K (.Return (some e) pos) (bf m):=by
 obtain⟨t,p,r⟩:=h;exact⟨_,λi=>Aq (p i),xG r⟩
theorem xk(h:QE C K e m)(hs:∀i,Lp e none pos.line (C i).env=pure false:=by intro _;rfl):QS C K (.Expr e pos) (aZ m):=by
 obtain⟨t,p,r⟩:=h;exact⟨_,λi=>wS (p i) (hs i),uJ r⟩
theorem AG(h:QE C K e m)(hg:QG C K none tg g)(hs:∀i,Lj [tg] e pos.line (C i).env=pure false:=by intro _;rfl)(hw:∀i,Lk [tg] e (C i).env=pure none:=by intro _;rfl)
  (h1:∀i,(JT [tg] (C i).env).map (·.2)=[Kh tg (C i).env]:=by intro _;rfl):QS C K (.Assign [tg] e pos) (ax m g):=by
 obtain⟨t,p,r⟩:=h;obtain⟨u,p',r',_⟩:=hg;exact⟨_,λi=>Am (p i) (p' i) (hs i) (hw i) (h1 i),lV r r'⟩
theorem AN(n:Nat){x:Str}{pos':Pos}(hN:∀i,(C i).N.Nodup)(he:QE C K e m)(hi:∀i,(C i).N[n]?=some x:=by intro _;rfl)(hx:∀i,Loc (C i).env.scope x:=by first|exact λ_=>MV rfl|exact λ_=>LV rfl)(hs:∀i,Lp e (some (.Name x pos')) pos.line (C i).env=pure false:=by intro _;rfl)(hf:∀i,(C i).fn x=true∨(C i).env.scope.names.lookup x=some .local:=by first|exact λ_=>.inl rfl|exact λ_=>.inr rfl) :
  QS C K (.Assign [.Name x pos'] e pos) (ax m (ag n)):=by
 obtain⟨t,p,r⟩:=he;exact⟨_,λi=>Ar (hN i) (hi i) (hx i) (p i) (hs i) (hf i),lV r j5⟩
noncomputable def we(i j:Nat) (a:MA):MS:=⟨λO=>match a.run O with
 | some ([r1,r2],O1)=>if(eR O1 i&&aE [i] r1&&aE [i] r2&&eR O1 j&&aE [j] r2)=true then some (.nx,(ao [j] ((ao [i] O1).set i (some r1))).set j (some r2))else none
 | _=>none,a.mu++[i,j]⟩
theorem qz{O:Rho}{i j:Nat}{r:R}(h:eR O j=true)(hr:∀n,r.k ≠ .io n):eR ((ao [i] O).set i (some r)) j=true:=by
 unfold eR at h⊢;by_cases e:j=i
 ·subst e;have hl:j < O.length:=by
   cases q : O[j]? with
   | none=>rw[q]at h;cases h
   | some o=>exact(Eg.mp q).1
  rw[Fg (by rw[aM];exact hl)];obtain⟨k,t⟩:=r;cases k with
  | io n=>exact absurd rfl (hr n)
  | _=>rfl
 ·rw[ED (JI e)];unfold ao;rw[Ep];cases q : O[j]? with
  | none=>rw[q]at h;cases h
  | some o=>
   rw[q]at h;cases o with
   | none=>rfl
   | some x=>
    show(match some (cb [i] (some x))with|some (some ⟨.io _,_⟩)=>false|some _=>true|none=>false)=true;cases hk:cb [i] (some x)with
    | none=>rfl
    | some y=>
     obtain⟨e1,_⟩:=IL.mp hk;cases e1;exact h
noncomputable def j1(r:R):Bool:=match r.k with
 | .io _=>false
 | _=>true
theorem xF{i j:Nat}{ta:TA}{a:MA}(ha:fR K ta a)(hio:∀O rs O',a.run O=some (rs,O')->True):dA K (Dl i j ta) (we i j ⟨λO=>match a.run O with
  | some (rs,O1)=>if rs.all j1=true then some (rs,O1)else none
  | none=>none,a.mu⟩):=by
 intro Γ H O Z E D f O' hK hE hr S q;simp only[we]at hr q;split at hr
 ·rename_i r1 r2 O1 e1;split at e1
  ·rename_i rs O2 e2;split at e1
   ·rename_i hall;cases e1;split at hr
    ·rename_i hb;cases hr;simp only[Ei]at hb;obtain⟨⟨⟨⟨b1,b2⟩,b3⟩,b4⟩,b5⟩:=hb;refine ha Γ H O Z E _ _ _ hK e2 S λvs H1 hl S1=>?_;obtain⟨v,w,rfl⟩:∃v w,vs=[v,w]:=by
      cases vs with
      | nil=>cases hl
      | cons v r=>cases r with
       | nil=>cases hl
       | cons w r=>cases r with
        | nil=>exact⟨v,w,rfl⟩
        | cons _ _=>cases hl
     have S1:Sim Γ H1 O1 Z (⟨none,v,r1⟩::⟨none,w,r2⟩::ah a.mu E):=S1;refine⟨v,w,rfl,q _ H1 ?_⟩;have S2:=S1.put b1 (gQ b2);rw[ar (bt b3)]at S2;have hr1:∀n,r1.k ≠ .io n:=λn z=>by
      have:=E6.mp hall r1 ymS;unfold j1 at this;rw[z]at this;cases this
     have S3:=S2.put (qz b4 hr1) (gQ b5);rw[ae,ae]at S3;have:a.mu++([i]++[j])=a.mu++[i,j]:=rfl;rw[←Eu]at this;exact S3
    ·cases hr
   ·cases e1
  ·cases e1
 ·cases hr
@[irreducible] noncomputable def kW(i j:Nat)(a:MA):MS:=we i j ⟨λO=>match a.run O with
  | some (rs,O1)=>if rs.all j1=true then some (rs,O1)else none
  | none=>none,a.mu⟩
theorem AL(i j:Nat){x y:Str}{px py pt:Pos}{kt k2 pt2}(ck:CK C P W K mg base k)(hN:∀i,(C i).N.Nodup)(ha:QA C K [a,b] ms)(hi:∀n,(C n).N[i]?=some x:=by intro _;rfl)(hj:∀n,(C n).N[j]?=some y:=by intro _;rfl)(hij:i≠j:=by decide)
  (hx:∀n,(C n).env.scope.names.lookup x=some .local:=by intro _;rfl) (hy:∀n,(C n).env.scope.names.lookup y=some .local:=by intro _;rfl)
  (hw:∀n,Lk [.Tuple [.Name x px,.Name y py] kt pt] (.Tuple [a,b] k2 pt2) (C n).env=pure (some [x,y]):=by intro _;rfl)
  (hs:∀n,Lj [.Tuple [.Name x px,.Name y py] kt pt] (.Tuple [a,b] k2 pt2) pos.line (C n).env=pure false:=by intro _;rfl) :
  QS C K (.Assign [.Tuple [.Name x px,.Name y py] kt pt] (.Tuple [a,b] k2 pt2) pos) (kW i j ms):=by with_unfolding_all
 obtain⟨ta,p,_,r⟩:=ha;exact⟨_,λn=>Ap (ck.calm n) (hN n) (hi n) (hj n) hij (hx n) (hy n) (p n) (hw n) (hs n),xF r (λ_ _ _ _=>trivial)⟩
@[irreducible] noncomputable def qw(i:Nat)(f:Int->Int->Int)(e:ME):MS:=⟨λO=>match O[i]? with
 | some (some ⟨_,.im (.int a)⟩)=>(match e.run O with
  | some (⟨_,.im (.int b)⟩,O1)=>if eR O1 i=true then some (.nx,(ao [i] O1).set i (some ⟨.ow,.im (.int (f a b))⟩))else none
  | _=>none)
 | _=>none,e.mu++[i]⟩
theorem xv{i:Nat}{f:Int->Int->Int}{te:TE}(he:aP K te m):dA K (Dd i te (ipI f)) (qw i f m):=by
 intro Γ H O Z E D fl O' hK hE hr S q;simp only[qw]at hr q;split at hr
 ·rename_i k0 a0 e0;split at hr
  ·rename_i k1 b0 O1 e1;split at hr
   ·rename_i hn;cases hr;obtain⟨v,hv,hm⟩:=S.slot e0;obtain⟨F,rp⟩:=S.sl.rd hm;have ev:v=.int a0:=aK ⟨F,rp⟩;subst ev;refine⟨_,hv,he Γ H O Z E _ _ _ hK e1 S λy H1 S1=>?_⟩;have ey:y=.int b0:=aK (S1.rd ymS);subst ey;refine⟨a0,b0,rfl,rfl,q _ H1 ?_⟩;have S2:=((S1.drop rfl).imm (i:=.int (f a0 b0)) (v:=.int (f a0 b0)) (jv rfl)).put hn (by simp[Kd.root]);rw[ae]at S2;exact S2
   ·cases hr
  ·cases hr
 ·cases hr
theorem xi(n:Nat){x:Str}{pos':Pos}(hN:∀i,(C i).N.Nodup)(he:QE C K e m)(hi:∀i,(C i).N[n]?=some x:=by intro _;rfl)(hx:∀i,Loc (C i).env.scope x:=by first|exact λ_=>MV rfl|exact λ_=>LV rfl)(hf:∀i,(C i).fn x=true∨(C i).env.scope.names.lookup x=some .local:=by first|exact λ_=>.inl rfl|exact λ_=>.inr rfl) :
  QS C K (.AugAssign (.Name x pos') .Add e pos) (qw n (· + ·) m):=by
 obtain⟨t,p,r⟩:=he;exact⟨_,λi=>An (hN i) (hi i) (hx i) (p i) zm (hf i),xv r⟩
theorem uq{body:List Stmt}(hp:∀i,Lq (Jj (C i).prog (C i).w) (C i).A (C i).env (C i).xe)(hc:QT C K c mt)(hb:QSs C K body s1):QS C K (.While c body [] pos) (cV mt s1):=by
 obtain⟨tc,p,r⟩:=hc;obtain⟨tb,p',r'⟩:=hb;exact⟨_,λi=>ug (hp i) (p i) (p' i),rf r r'⟩
theorem AI{body:List Stmt}(ck:CK C P W K mg base k)(hp:∀i,Lq (Jj (C i).prog (C i).w) (C i).A (C i).env (C i).xe)(hi:QI C K tg iter it)(hg:QG C K none tg g)(hb:QSs C K body s1)(hs:∀i x,Jt iter (C i).env x=pure x:=by intro _ _;rfl):QS C K (.For tg iter body [] pos) (bQ it g s1):=by
 obtain⟨wi,p,r⟩:=hi;obtain⟨tg',p1,r1,_⟩:=hg;obtain⟨tb,p',r'⟩:=hb;exact⟨_,λi=>Ao (hp i) (ck.calm i) (p i) (p1 i) (p' i) (hs i),xz r r1 r'⟩
theorem qQ{p:Pos}(ck:CK C P W K mg base k)(T:Bi mg)(ha:QA C K [a] ms)(hg:∀i,Gl (C i) "range" :=by intro _;rfl)(hs:dB a=false:=by rfl):QI C K tg (.Call (.Name "range" p) [a] [] pos) (bd ms):=by
 obtain⟨ta,q,_,r⟩:=ha;exact⟨_,λi=>qF (hg i) (by rw[ck.mg i];exact T.b_range) (q i) (by rw[bq hs];rfl),uQ r⟩
theorem qR{p:Pos}(ck:CK C P W K mg base k)(T:Bi mg)(ha:QA C K [a,b] ms)(hg:∀i,Gl (C i) "range" :=by intro _;rfl)(hs:dB a=false:=by rfl)(hs2:dB b=false:=by rfl):QI C K tg (.Call (.Name "range" p) [a,b] [] pos) (fL ms):=by
 obtain⟨ta,q,_,r⟩:=ha;exact⟨_,λi=>qG (hg i) (by rw[ck.mg i];exact T.b_range) (q i) (by rw[bq hs,bq hs2];rfl) (by rw[bq hs2];rfl),uR r⟩
theorem PI.or{X:Cx}{w1 w2:TI}(h1:PI X tg iter w1)(h2:PI X tg iter w2):PI X tg iter (λZ H R=>w1 Z H R∨w2 Z H R):=by
 intro pins s Z H R I h;rcases h with h|h;exact h1 pins s Z H R I h;exact h2 pins s Z H R I h
noncomputable def eg:R->Option (List R)
 | ⟨_,.li is⟩=>some (is.map λi=>⟨.ow,.im i⟩)
 | ⟨.vw ro _,.lst ts⟩=>some (ts.map (partV ro))
 | ⟨_,.im (.tup is)⟩=>some (is.map λi=>⟨.ow,.im i⟩)
 | ⟨_,.im (.str z)⟩=>some ((sL z).map λc=>⟨.ow,.im (.str ⟨#[c]⟩)⟩)
 | ⟨_,.im (.ls is)⟩=>some (is.map λi=>⟨.ow,.im i⟩)
 | _=>none
@[irreducible] noncomputable def mIt(a:ME):MI:=⟨λO=>match a.run O with
 | some (r,O1)=>(match eg r with
  | some rs=>some (([r],rs),O1)
  | none=>none)
 | none=>none,a.mu⟩
theorem x8{Γ:Gm}{z:Str}{v:V}{src:R}:gP Γ (Its z) [v] [src] ((sL z).map λc=>⟨.ow,.im (.str ⟨#[c]⟩)⟩):=λH O Z E S=>by
 refine⟨λi hi=>?_,λi r hr=>?_⟩
 ·show z.cps.size<=i;simpa[sL]using hi
 ·obtain⟨c,hc,rfl⟩:=az hr;have hc':z.cps[i]?=some c:=by simpa[sL]using hc
  refine⟨?_,λx H' y=>?_⟩
  ·show i<z.cps.size;exact(Array.getElem?_eq_some_iff.mp hc').1
  ·obtain⟨rfl,c',h1,rfl⟩:=y;rw[hc']at h1;cases h1;exact S.imm (jv rfl)
theorem A5{ta:TE}(ha:aP K ta m):jJ K (λZ H R=>ph K ta Z H R∨(vR K ta Z H R∨BO ta Z H R)) (mIt m):=by with_unfolding_all
 intro Γ H O Z E Rr src items O' hK hr S q;simp only[mIt]at hr;split at hr
 ·rename_i r O1 e1;split at hr
  ·rename_i rs e2;cases hr;unfold eg at e2;split at e2
   ·rename_i k0 is;exact .inl (lW ha Γ H O Z E Rr _ items O' hK (by simp only[sI,e1,gW];cases e2;rfl) S q)
   ·exact .inl (lW ha Γ H O Z E Rr _ items O' hK (by simp only[sI,e1,gW];cases e2;rfl) S q)
   ·exact .inr (.inl (xB ha Γ H O Z E Rr _ items O' hK (by simp only[zy,e1,jT];cases e2;rfl) S q))
   ·rename_i k0 z;cases e2;right;right;refine ha Γ H O Z E _ _ _ hK e1 S λx H1 S1=>?_;exact⟨z,cY (S1.rd ymS),q Γ rfl (λ_ _ _ _ S=>S) _ [x] H1 rfl S1 x8⟩
   ·exact .inl (lW ha Γ H O Z E Rr _ items O' hK (by simp only[sI,e1,gW];cases e2;rfl) S q)
   ·cases e2
  ·cases hr
 ·cases hr
theorem AF(ck:CK C P W K mg base k)(ha:QE C K iter m):QI C K tg iter (mIt m):=by
 obtain⟨ta,q,r⟩:=ha;exact⟨_,λi=>PI.or (ilK (ck.kk i) (q i)) (PI.or (itK (ck.kk i) (q i)) (wM (q i))),A5 r⟩
@[irreducible] noncomputable def mYes:MT:=⟨λO=>some (true,O),[]⟩
theorem xM:dR K Dq mYes:=by with_unfolding_all
 intro Γ H O Z E Q b O' hK hr S q;cases hr;exact q H (by rw[show mYes.mu=[]from rfl,bD];exact S)
theorem xm:QTs C K [] mYes:=⟨_,λ_=>wW,xM⟩
theorem xn(h:QT C K c mt):QTs C K [c] mt:=by
 obtain⟨t,p,r⟩:=h;exact⟨_,λi=>wX (p i),r⟩
section
variable {elt tg2 iter2:Expr}{ifs:List Expr}{scope:JW}
theorem bB{N':List Str}{f:List (Option Nat)}(ck:CK C P W K mg base k)(hB:∀i,Blk (C i).env.scope scope (C i).N N' f)(hi:QI C K tg iter it)(hg:QG (gJ C scope N') K (some f) tg g)(ht:QTs (gJ C scope N') K ifs mt)(he:QE (gJ C scope N') K elt m)(hs:∀i x,Jt iter (C i).env x=pure x:=by intro _ _;rfl) :
  QE C K (.ListComp elt [⟨tg,iter,ifs,0⟩] scope pos) (aT f it g mt m):=by
 obtain⟨wi,p0,r0⟩:=hi;obtain⟨gg,p1,r1,kk⟩:=hg;obtain⟨tt,p2,r2⟩:=ht;obtain⟨te,p3,r3⟩:=he;exact⟨_,λi=>wF (ck.calm i) (hB i) (p0 i) (λb=>p1 (i,b)) (kk f rfl) (λb=>p2 (i,b)) (λb=>p3 (i,b)) (hs i),m7 r0 (kk f rfl) r1 r2 r3⟩
theorem cG(n:Nat){x:Str}{pos' spos:Pos}{N':List Str}{f:List (Option Nat)}(ck:CK C P W K mg base k)(hN:∀i,(C i).N.Nodup)(hB:∀i,Blk (C i).env.scope scope (C i).N N' f)(hi:QI C K tg iter it)(hg:QG (gJ C scope N') K (some f) tg g)(ht:QTs (gJ C scope N') K ifs mt)(he:QE (gJ C scope N') K elt m)(hn:∀i,(C i).N[n]?=some x:=by intro _;rfl)(hx:∀i,(C i).env.scope.names.lookup x=some .local:=by intro _;rfl)
  (hsw:∀i,Lp (.ListComp elt [⟨tg,iter,ifs,0⟩] scope pos) (some (.Name x pos')) spos.line (C i).env=pure true:=by intro _;rfl) (hs:∀i x,Jt iter (C i).env x=pure x:=by intro _ _;rfl) :
  QS C K (.Assign [.Name x pos'] (.ListComp elt [⟨tg,iter,ifs,0⟩] scope pos) spos) (ax (aT f it g mt m) (ag n)):=by
 obtain⟨wi,p0,r0⟩:=hi;obtain⟨gg,p1,r1,kk⟩:=hg;obtain⟨tt,p2,r2⟩:=ht;obtain⟨te,p3,r3⟩:=he;exact⟨_,λi=>oq (ck.calm i) (hN i) (hn i) (hx i) (hB i) (p0 i) (λb=>p1 (i,b)) (kk f rfl) (λb=>p2 (i,b)) (λb=>p3 (i,b)) (hsw i) (hs i),lV (m7 r0 (kk f rfl) r1 r2 r3) j5⟩
theorem xa{N':List Str}{f f2:List (Option Nat)}(ck:CK C P W K mg base k)(hB:∀i,Blk (C i).env.scope scope (C i).N N' f)(hsub:nw f f2=true)(hi:QI C K tg iter it)(hg:QG (gJ C scope N') K (some f) tg g)(hi2:QI (gJ C scope N') K tg2 iter2 it2)(hg2:QG (gJ C scope N') K (some f2) tg2 g')(ht:QTs (gJ C scope N') K ifs mt)(he:QE (gJ C scope N') K elt m)(hs:∀i x,Jt iter (C i).env x=pure x:=by intro _ _;rfl)(hs2:∀i b x,Jt iter2 (cxB (C i) scope N' b).env x=pure x:=by intro _ _ _;rfl) :
  QE C K (.ListComp elt [⟨tg,iter,[],0⟩,⟨tg2,iter2,ifs,0⟩] scope pos) (i5 f f2 it g it2 g' mt m):=by
 obtain⟨wi,p0,r0⟩:=hi;obtain⟨gg,p1,r1,kk⟩:=hg;obtain⟨wi2,p4,r4⟩:=hi2;obtain⟨gg2,p5,r5,kk2⟩:=hg2;obtain⟨tt,p2,r2⟩:=ht;obtain⟨te,p3,r3⟩:=he;exact⟨_,λi=>tF (ck.calm i) (hB i) hsub (p0 i) (λb=>p1 (i,b)) (kk f rfl) (λb=>p4 (i,b)) (λb=>p5 (i,b)) (kk2 f2 rfl) (λb=>p2 (i,b)) (λb=>p3 (i,b)) (hs i) (hs2 i),qV r0 (kk f rfl) r1 r4 (kk2 f2 rfl) r5 r2 r3⟩
end
end
structure DI(k:Nat)(name:Str)(st:Stmt) where
 f:Addr
 cdv:Jd
 A:Jw
 outer:List Env
 s:Jf
 H:Hp
 E:XK
 hr:IF k (A.deeper (KJ name (ai st) s.heap.objs.size f cdv))
noncomputable abbrev dC(P:Jq) (W:JB) (K:yF) (mg:Str->Option Jd) (base:Heap) (k:Nat) (N:List Str) (name:Str) (st:Stmt):DI k name st->Cx:=λd=>(kh CX0 P W K mg base N name (ai st) d.f d.cdv d.A d.outer d.s d.H d.E).nox
theorem rV{N:List Str}{name:Str}{st:Stmt}:CK (dC P W K mg base k N name st) P W K mg base k:=
 ⟨λ_=>rfl,λ_=>rfl,λ_=>rfl,λ_=>rfl,λ_=>rfl,λ_=>rfl,λd=>d.hr⟩
theorem Def.qp{name:Str}{st:Stmt}{N ps:List Str}(d:Def K mg name st ps)(S:Is N ps (ai st)){m:MS}(h:QSs (dC P W K mg base k N name st) K (bu st) m)
  {run:List T->Option T} (hrun:∀ts,run ts=if ts.length=ps.length then cR m N.length ts else none):Has P W K mg base (k+1) name ps (spP K run):=by
 obtain⟨t,p,r⟩:=h;exact d.mp S (λf cdv A outer s H E hr=>⟨t,p ⟨f,cdv,A,outer,s,H,E,hr⟩,r⟩) hrun
theorem Def.qi{name:Str}{st:Stmt}{N ps:List Str}{j:Nat}(d:Def K mg name st ps)(S:Is N ps (ai st)){m:MS}(h:QSs (dC P W K mg base k N name st) K (bu st) m)
  {run:List T->Option (T×T)} (hrun:∀ts,run ts=if ts.length=ps.length then fu m j N.length ts else none):Has P W K mg base (k+1) name ps (spI K j run):=by
 obtain⟨t,p,r⟩:=h;exact d.mi S (λf cdv A outer s H E hr=>⟨t,p ⟨f,cdv,A,outer,s,H,E,hr⟩,r⟩) hrun
section
variable {Γ:Gm}{H H':Hp}{L:List Hd}{O:Rho}{Z:St}{E X:List En}{v w x y:V}{t s:T}{K:yF}{Q:VK}
theorem Sim.ioT{vs:List V}{rs:List R}{k:Nat}(S:Sim Γ H O Z (ens vs rs++E))(hl:vs.length=rs.length)(hk:rs[k]?=some ⟨.ow,s⟩)(hw:vs[k]?=some w) :
  ∃G,Rp Γ.K H s w G/\G.Nodup/\(∀a∈G,Mu H a)/\(∀m r x,m≠k->rs[m]?=some r->vs[m]?=some x->∃F,Rp Γ.K H r.t x F/\∀a∈F,a∉G) ∧
  ∀H' v t F,Iy G H H'->(∀a∈G,∃o,H' a=some o)->F.Nodup->(∀a∈F,H a=none/\Mu H' a)->Rp Γ.K H' t v F->Sim Γ H' O Z (⟨none,v,⟨.ow,t⟩⟩::E):=by
 have key:∀{vs:List V} {rs:List R} {k:Nat},vs.length=rs.length->rs[k]?=some (⟨.ow,s⟩:R)->vs[k]?=some w->∃A,(ens vs rs).Perm (⟨none,w,⟨.ow,s⟩⟩::A)/\(∀e∈A,e.key=none)/\∀m r x,m≠k->rs[m]?=some r->vs[m]?=some x->(⟨none,x,r⟩:En)∈A:=by
  intro vs
  induction vs with
  | nil=>intro rs k _ _ h;simp at h
  | cons a vs ih=>
   intro rs k hl h1 h2;cases rs with
   | nil=>simp at h1
   | cons b rs=>
    cases k with
    | zero=>
     simp at h1 h2;subst h1 h2;refine⟨ens vs rs,List.Perm.refl _,λe he=>lA he,λm r x hm hr hx=>?_⟩;cases m with
     | zero=>exact absurd rfl hm
     | succ m=>exact jz (by simpa using hr) (by simpa using hx)
    | succ k=>
     obtain⟨A,p,q,g⟩:=ih (rs:=rs) (k:=k) (by simpa using hl) (by simpa using h1) (by simpa using h2);refine⟨⟨none,a,b⟩::A,(List.Perm.cons _ p).trans (List.Perm.swap _ _ _),λe he=>?_,λm r x hm hr hx=>?_⟩
     ·rcases ycM he with rfl|he;rfl;exact q e he
     ·cases m with
      | zero=>simp at hr hx;subst hr hx;exact ymS
      | succ m=>exact ymC _ (g m r x (by omega) (by simpa using hr) (by simpa using hx))
 obtain⟨A,p,hA,hin⟩:=key hl hk hw;have S1:=S.perm (p.append_right E);rw[EC]at S1;obtain⟨Lx,g,eL⟩:=S1.sl;rw[EC]at eL;obtain⟨z,L',rfl,ez,eL'⟩:=aH eL;have hoz:z.e.r.k.isOw=true:=by rw[ez];rfl
 have rz:=g.rp z ymS;rw[ez]at rz;have ap:=GW.apart (hs:=[z]) (L:=L') g (λy hy x hx j hj=>by rw[ysM hx,ez]at hj;cases hj) (λx hx=>by rw[ysM hx];exact hoz);refine⟨z.F,rz,g.ndF ymS hoz,g.muF ymS hoz,λm r x hm hr hx=>?_,λH' v t F off dom nd hF rp=>?_⟩
 ·have hmem:(⟨none,x,r⟩:En)∈L'.map (·.e):=by rw[eL'];exact yaL _ (yaL _ (hin m r x hm hr hx))
  obtain⟨u,hu,eu⟩:=Ev.mp hmem;have ru:=g.rp u (ymC _ hu);rw[eu]at ru;exact⟨u.F,ru,λa ha hg=>ap u hu a ha z ymS hg⟩
 ·have st:=GW.step (hs:=[z]) (L:=L') (H':=H') g (λx hx=>by rw[ysM hx];exact hoz) (λy hy x hx j hj=>by rw[ysM hx,ez]at hj;cases hj) (by simpa using off) (λa ha=>dom a (by simpa using ha)) (key:=none) (v:=v) (r:=⟨.ow,t⟩) (F:=F) nd (λa ha=>⟨.inr (hF a ha).1,(hF a ha).2⟩) rp (.inl ⟨rfl,λx hx=>by rw[ysM hx,ez]⟩) (λj hj=>by cases hj);have SL:Iv Γ H' (⟨none,v,⟨.ow,t⟩⟩::((A++E)++aD 0 Z O)):=⟨_,st,by rw[Ek,eL']⟩;refine⟨?_,S.al,S.len,λe he j hj=>?_⟩
  ·rw[Eu]at SL;have pp:(⟨none,v,⟨.ow,t⟩⟩::(A++(E++aD 0 Z O))).Perm (A++(⟨none,v,⟨.ow,t⟩⟩::(E++aD 0 Z O))):=EN.symm;exact(SL.perm pp).dropsN hA
  ·rcases ycM he with rfl|he;cases hj;exact S.hi e (yaR _ he) j hj
@[irreducible] noncomputable def gY(k:Nat)(run:List T->Option (T×T))(a:MA):ME:=⟨λO=>match a.run O with
 | some (rs,O1)=>(match rs[k]? with
  | some ⟨.ow,_⟩=>(match run (rs.map (·.t))with
   | some (t,_)=>some (⟨.ow,t⟩,O1)
   | none=>none)
  | _=>none)
 | none=>none,a.mu⟩
theorem qU{k:Nat}{run:List T->Option (T×T)}{ta:TA}{a:MA}(ha:fR K ta a):aP K (j8 (spI K k run) [] E0 ta) (gY k run a):=by
 intro Γ H O Z E Q r O' hK hr S q;show ta Z H λvs H1=>spI K k run (vs++[]) H1 Q E0;simp only[EB];simp only[gY]at hr q;split at hr
 ·rename_i rs O1 e1;split at hr
  ·rename_i s e2;split at hr
   ·rename_i t s' e3;cases hr;refine ha Γ H O Z E _ rs O' hK e1 S λvs H1 hl S1=>?_;have hkl:k<rs.length:=(Eg.mp e2).1;obtain⟨w,hw⟩:∃w,vs[k]?=some w:=⟨vs[k],by simp[hl,hkl]⟩;obtain⟨G,g1,g2,g3,g4,g5⟩:=S1.ioT hl e2 hw;rw[hK]at g1;refine⟨rs.map (·.t),s,w,G,t,s',by rw[Ej,hl],hw,by rw[Ep,e2];rfl,g1,g2,g3,λm x u hm hx hu=>?_,e3,λv H' F G' a1 a2 a3 a4 a5 a6 a7=>q v H' ?_⟩
    ·rw[Ep]at hu;cases hr:rs[m]? with
     | none=>rw[hr]at hu;cases hu
     | some r=>
      rw[hr]at hu;cases hu;have:=g4 m r x hm hr hx;rw[hK]at this;exact this
    ·rw[←hK]at a6 a7;exact g5 H' v t F a1 a2 (Em.mp a3).1 a4 a7
   ·cases hr
  ·cases hr
 ·cases hr
@[irreducible] noncomputable def g6(j:Nat)(o:ME)(lo hi:ME):MG:=⟨λr O=>match r with
 | ⟨.ow,.li ys⟩=>match o.run O with
  | some (⟨.vw (some j') (some p),.li xs⟩,O1)=>match lo.run O1 with
   | some (⟨_,.im (.int a)⟩,O2)=>match hi.run O2 with
    | some (⟨_,.im (.int c)⟩,O3)=>if(decide (j'=j) && !(lo.mu++hi.mu).contains j&&decide (0<=a/\a<=c/\c<=xs.length/\xs.length+ys.length<=sizeLine))=true then(match O3[j]? with
     | some (some ⟨k,t⟩)=>if k.isOw=true then some ((ao [j] O3).set j (some ⟨k,t.put p (.li (xs.take a.toNat++ys++xs.drop c.toNat))⟩))else none
     | _=>none)else none
    | _=>none
   | _=>none
  | _=>none
 | _=>none,(o.mu++(lo.mu++hi.mu))++[j]⟩
theorem re{to tl th:TE}{o lo hi:ME}{j:Nat}(ho:aP K to o)(hl:aP K tl lo)(hh:aP K th hi):gO K (sj to (pQ tl) (pQ th)) (g6 j o lo hi):=by
 intro Γ H O Z E Q v r O' hK hr S q;simp only[g6]at hr q;split at hr
 ·rename_i ys;split at hr
  ·rename_i j' p xs O1 e1;split at hr
   ·rename_i k1 a O2 e2;split at hr
    ·rename_i k2 c O3 e3;split at hr
     ·rename_i hc;rw[Ei,Ei,decide_eq_true_eq,EM,decide_eq_true_eq]at hc;obtain⟨⟨rfl,hmv⟩,hz⟩:=hc;split at hr
      ·rename_i k t e4;split at hr
       ·rename_i hw;cases hr;refine ho Γ H O Z _ _ _ _ hK e1 S λx H1 S1=>?_;refine hl Γ H1 O1 Z _ _ _ _ hK e2 S1 λya H2 S2=>?_;refine⟨a,aK (S2.rd ymS),?_⟩;refine hh Γ H2 O2 Z _ _ _ _ hK e3 (S2.drop rfl) λyc H3 S3=>?_;refine⟨c,aK (S3.rd ymS),?_⟩;have S4:=S3.drop rfl;have k1':aB (lo.mu++hi.mu) ⟨none,x,⟨.vw (some j') (some p),.li xs⟩⟩=true:=by unfold aB;simp only[Kd.root];rw[hmv];rfl
        have k2':∀M:List Nat,aB M ⟨none,v,⟨.ow,.li ys⟩⟩=true:=λM=>rfl;rw[ae,ar k1',ae,ar (k2' _)]at S4;obtain⟨G,F,h1,h2,h3,h4,h5⟩:=Sim.mut (vs:=[v]) (ts:=[.li ys]) (S4.perm (List.Perm.swap _ _ _)) rfl e4 hw;obtain⟨p0,xs',rfl,g1,g2,rfl⟩:=iF h1 λa ha=>h4 a (yaL _ ha);obtain⟨z,ez,g3⟩:=nh h2;cases ez;obtain⟨b0,ys',rfl,g4,g5,rfl⟩:=iF g3 λa ha=>h4 a (yaR _ ha);have hne:p0≠b0:=λz=>by
         have:=h3;rw[z]at this;simp at this
        refine⟨p0,b0,xs',ys',a,c,rfl,rfl,rfl,rfl,g1,g4,hne,hz.1,hz.2.1,by rw[g2.length];exact hz.2.2.1,by rw[g2.length,g5.length];exact hz.2.2.2,?_⟩;refine fG (Q:=λ_ H'=>Q Z H') (F:=[b0]) (v:=.non) (i:=.non) g1 (((g2.take _).append g5).append (g2.drop _)) bS λv' H' G' a1 a2 a3 a4 a5 _=>q Z H' ?_;have:=h5 H' _ G' a1 a2 a3 a4 a5;rw[ae]at this;exact this
       ·cases hr
      ·cases hr
     ·cases hr
    ·cases hr
   ·cases hr
  ·cases hr
 ·cases hr
noncomputable def lM:MS:=⟨λ_=>none,[]⟩
theorem q5{t:TS}:dA K t lM:=by
 intro Γ H O Z E D f O' hK hE hr S q;cases hr
end
variable {ι : Type}{C:ι->Cx}{P:Jq}{W:JB}{K:yF}{mg:Str->Option Jd}{base:Heap}{k:Nat}
section
variable {a b c e o tg iter:Expr}{es:List Expr}{ma mb mc m mo mi ml mh:ME}{ms:MA}{pos:Pos}{mt mt':MT}{s1 s2:MS}{g g':MG}{gs:MGs}{it it2:MI}{fr:Option (List (Option Nat))}
theorem CA{x:Str}{p:Pos}{j n0:Nat}{ps:List Str}{run:List T->Option (T×T)}(ck:CK C P W K mg base k)(h:Has P W K mg base j x ps (spI K n0 run))(ha:QA C K (e::es) ms)(hj:j<=k:=by first|decide|omega)(hg:∀i,Gl (C i) x:=by intro _;rfl)(hdb:(x==("__debug__" : Str))=false:=by decide):QE C K (.Call (.Name x p) (e::es) [] pos) (gY n0 run ms):=by
 obtain⟨ta,q,n,r⟩:=ha;refine⟨_,λi=>om (by rw[ck.prog i,ck.w i,ck.kk i,ck.mg i,ck.base i];exact h) ((ck.room i).mono hj) (hg i) (q i) n hdb,qU r⟩
end
section
variable {Γ:Gm}{H H':Hp}{O:Rho}{Z:St}{E:List En}{v w x y:V}{t s:T}{K:yF}{Q:VK}
@[irreducible] noncomputable def aa(n:Nat)(ms:MA):MA:=⟨λO=>match ms.run O with
 | some (rs,O2)=>(match O2[n]? with
  | some (some r)=>(match O[n]? with
   | some (some _)=>some (rdR n r::rs,O2)
   | _=>none)
  | _=>none)
 | none=>none,ms.mu⟩
theorem qW{n:Nat}{ta:TA}{ms:MA}(h2:fR K ta ms):fR K (pM (Bg n) ta) (aa n ms):=by with_unfolding_all
 intro Γ H O Z E Q rs O' hK hr S q;simp only[aa]at hr;split at hr
 ·rename_i rs1 O2 e2;split at hr
  ·rename_i r e3;split at hr
   ·rename_i r0 e4;cases hr;obtain⟨v,hv,_⟩:=S.var e4;refine⟨v,hv,?_⟩;refine h2 Γ H O Z E _ rs1 _ hK e2 S λvs H2 hl S2=>q (v::vs) H2 (by rw[Ey,Ey,hl]) ?_;obtain⟨v',hv',S3⟩:=S2.var e3;rw[hv]at hv';cases hv';exact S3
   ·cases hr
  ·cases hr
 ·cases hr
end
variable {ι : Type}{C:ι->Cx}{P:Jq}{W:JB}{K:yF}{mg:Str->Option Jd}{base:Heap}{k:Nat}
section
variable {a b c e o tg iter:Expr}{es:List Expr}{ma mb mc m mo mi ml mh:ME}{ms:MA}{pos:Pos}{mt mt':MT}{s1 s2:MS}{g g':MG}{gs:MGs}{it it2:MI}{fr:Option (List (Option Nat))}
theorem ul(n:Nat){x:Str}{p:Pos}(h2:QA C K es ms)(hN:∀i,(C i).N[n]?=some x:=by intro _;rfl)(hv:∀i,Vis (C i).env.scope x:=by first|exact λ_=>MV rfl|exact λ_=>LV (MV rfl)|exact λ_=>LV (LV rfl))(hd:(x==("__debug__" : Str))=false:=by decide)(hcd:(x==("__classdict__" : Str))=false:=by decide):QA C K (.Name x p::es) (aa n ms):=by
 obtain⟨ta,c,n',d⟩:=h2;exact⟨_,λi=>eS (tK (hN i) (hv i) hd hcd) (c i) rfl,by rw[bo,n'];rfl,qW d⟩
theorem uo(j:Nat){lo hi:Expr}{p2:Pos}(ho:QE C K o mo)(hl:QE C K lo ml)(hh:QE C K hi mh)
  (ha:∀i v,Kh (.Subscript o (.Slice (some lo) (some hi) none p2) pos) (C i).env v=(do
   let ov ←JR [v] (eval o (C i).env)
   let iv ←JR [v,ov] (eval (.Slice (some lo) (some hi) none p2) (C i).env)
   Ki pos
   JR [v,ov,iv] (Lg ov iv v)
   M8 [iv,v,ov] []):=by intro _ _;rfl):QG C K none (.Subscript o (.Slice (some lo) (some hi) none p2) pos) (g6 j mo ml mh):=by
 obtain⟨to,p,r⟩:=ho;obtain⟨tl,p',r'⟩:=hl;obtain⟨th,p'',r''⟩:=hh;exact⟨_,λi=>tM (p i) (lQ (p' i)) (lQ (p'' i)) (ha i),re r r' r'',λf h=>by cases h⟩
theorem k7{st:List Stmt}:QSs C K st lM:=⟨λ_ _ _=>False,λ_ _ _ _ _ _ _ h=>h.elim,q5⟩
end
variable {ι : Type}{C:ι->Cx}{P:Jq}{W:JB}{K:yF}{mg:Str->Option Jd}{base:Heap}{k:Nat}
section
variable {Γ:Gm}{H:Hp}{O:Rho}{Z:St}{E:List En}
noncomputable def fgt(i:Nat) (O:Rho):Rho:=(ao [i] O).set i none
theorem Sim.fgt(S:Sim Γ H O Z E)(i:Nat):Sim Γ H (L2.fgt i O) Z (ah [i] E):=by
 have S1:=S.kill [i];unfold L2.fgt;cases h:(ao [i] O)[i]? with
 | none=>rw[List.set_eq_of_length_le (by simpa using h)];exact S1
 | some o=>
  cases o with
  | none=>
   have:(ao [i] O).set i none=ao [i] O:=by
    apply FL;intro j;by_cases e:i=j
    ·subst e;have hl:=(Eg.mp h).1;rw[Fg hl,h]
    ·rw[ED e]
   rw[this];exact S1
  | some r=>
   obtain⟨v,hv⟩:=S1.al i r h;have p:=bv (k:=0) hv h;have SL:Iv Γ H (⟨some (0+i),v,r⟩::(ah [i] E++aD 0 Z ((ao [i] O).set i none))):=S1.sl.perm ((List.Perm.append_left _ p).trans EN);obtain⟨L,g,e⟩:=SL;obtain⟨x,L',rfl,ex,eL⟩:=aH e;have hno:∀y∈ah [i] E++aD 0 Z (ao [i] O),y.r.k.root≠some i:=by
    rw[eJ,←ay];exact j0 (by simp)
   refine⟨⟨L',g.dropK λy hy j hj hr=>?_,eL⟩,λm r' hm=>?_,by rw[Gc];exact S1.len,λy hy j hj=>by rw[Gc];exact S1.hi y hy j hj⟩
   ·rw[ex]at hj;have:j=i:=by simpa using hj.symm
    subst this;have:y.e∈L'.map (·.e):=Ev.mpr ⟨y,hy,rfl⟩;rw[eL]at this;have hp:=(List.Perm.append_left (ah [j] E) p).trans EN;exact hno y.e (hp.mem_iff.mpr (ymC _ this)) hr
   ·by_cases e:i=m
    ·subst e;rw[Fg (Eg.mp h).1]at hm;cases hm
    ·rw[ED e]at hm;exact S1.al m r' hm
noncomputable def fgts:List Nat->Rho->Rho
 | [],O=>O
 | i::ks,O=>fgts ks (fgt i O)
theorem Sim.fgts:∀{ks:List Nat} {O:Rho} {E:List En},Sim Γ H O Z E->Sim Γ H (L2.fgts ks O) Z (ah ks E)
 | [],O,E,S=>by rw[bD];exact S
 | i::ks,O,E,S=>by
  have:=Sim.fgts (ks:=ks) (S.fgt i);rw[ae]at this;exact this
@[irreducible] noncomputable def bE(ks:List Nat)(s:MS):MS:=⟨λO=>match s.run O with
 | some (.nx,O1)=>some (.nx,fgts ks O1)
 | some (.ct,O1)=>some (.ct,fgts ks O1)
 | some (.rt t,O1)=>some (.rt t,O1)
 | some (.bk,O1)=>some (.bk,O1)
 | none=>none,s.mu++ks⟩
theorem xy{ks:List Nat}{ts:TS}{s:MS}(h:dA K ts s):dA K ts (bE ks s):=by
 intro Γ H O Z E D f O' hK hE hr S q;simp only[bE]at hr q;split at hr
 ·rename_i O1 e1;cases hr;exact h Γ H O Z E D _ _ hK hE e1 S λZ' H' S'=>q Z' H' (by rw[←ae];exact S'.fgts)
 ·rename_i O1 e1;cases hr;exact h Γ H O Z E D _ _ hK hE e1 S λZ' H' S'=>q Z' H' (by rw[←ae];exact S'.fgts)
 ·rename_i t O1 e1;cases hr;exact h Γ H O Z E D _ _ hK hE e1 S q.weak
 ·rename_i O1 e1;cases hr;exact h Γ H O Z E D _ _ hK hE e1 S q.weak
 ·cases hr
theorem xl(ks:List Nat){st:List Stmt}{s:MS}(h:QSs C K st s):QSs C K st (bE ks s):=by
 obtain⟨t,p,r⟩:=h;exact⟨t,p,xy r⟩
end
structure W1{α:Type}(o:Option α)(Q : α->Prop):Prop where
 ex:∃x,o=some x/\Q x
structure W2{α β:Type}(o:Option (α × β))(Q : α->β->Prop):Prop where
 ex:∃x y,o=some (x,y)/\Q x y
structure WE(m:ME)(O:Rho)(Q:R->Rho->Prop):Prop where
 ex:∃x y,m.run O=some (x,y)/\Q x y
structure WT(m:MT)(O:Rho)(Q:Bool->Rho->Prop):Prop where
 ex:∃x y,m.run O=some (x,y)/\Q x y
structure WA(m:MA)(O:Rho)(Q:List R->Rho->Prop):Prop where
 ex:∃x y,m.run O=some (x,y)/\Q x y
structure WS(m:MS)(O:Rho)(Q:Fl->Rho->Prop):Prop where
 ex:∃x y,m.run O=some (x,y)/\Q x y
structure WG(m:MG)(r:R)(O:Rho)(Q:Rho->Prop):Prop where
 ex:∃x,m.run r O=some x/\Q x
structure WGs(m:MGs)(rs:List R)(O:Rho)(Q:Rho->Prop):Prop where
 ex:∃x,m.run rs O=some x/\Q x
structure WI(m:MI)(O:Rho)(Q:List R->List R->Rho->Prop):Prop where
 ex:∃r rs O',m.run O=some ((r,rs),O')/\Q r rs O'
structure WO(m:MO)(O:Rho)(Q:Option Int->Rho->Prop):Prop where
 ex:∃x y,m.run O=some (x,y)/\Q x y
structure Gu(b:Bool)(P:Prop):Prop where
 ex:b=true/\P
structure IsB(t:T)(Q:Bool->Prop):Prop where
 ex:∃b,t=.im (.bl b)/\Q b
structure IsN(t:T)(Q:Int->Prop):Prop where
 ex:∃n,t=.im (.int n)/\Q n
structure AtV(n:Nat)(O:Rho)(Q:R->Prop):Prop where
 ex:∃r,O[n]?=some (some r)/\Q r
structure AtC(k j:Nat)(rs:List R)(O:Rho)(Q:List Ac->Kd->T->Prop):Prop where
 ex:∃p t1 kd t0,rs[k]?=some ⟨.vw (some j) (some p),t1⟩/\((EU rs.length).all λm=>decide (m=k)||aE [j] (rs.getD m ⟨.ow,.im .non⟩))=true/\O[j]?=some (some ⟨kd,t0⟩)/\kd.isOw=true/\Q p kd t0
structure AtT(k:Nat)(rs:List R)(P:Prop):Prop where
 ex:∃t1,rs[k]?=some ⟨.ow,t1⟩/\P
structure AtM(l:Nat)(O:Rho)(Q:Kd->T->Prop):Prop where
 ex:∃k t,O[l]?=some (some ⟨k,t⟩)/\k.isOw=true/\Q k t
structure AtS(j:Nat)(r:R)(Q:List Ac->T->Prop):Prop where
 ex:∃p s,r=⟨.vw (some j) (some p),s⟩/\Q p s
structure Two(rs:List R)(Q:R->R->Prop):Prop where
 ex:∃r1 r2,rs=[r1,r2]/\Q r1 r2
structure Three(rs:List R)(Q:R->R->R->Prop):Prop where
 ex:∃r1 r2 r3,rs=[r1,r2,r3]/\Q r1 r2 r3
structure I9(rs:List R)(Q:Int->Prop):Prop where
 ex:∃n,rs.map (·.t)=[.im (.int n)]/\Q n
structure Jc(rs:List R)(Q:Int->Int->Prop):Prop where
 ex:∃m n,rs.map (·.t)=[.im (.int m),.im (.int n)]/\Q m n
theorem DX{b:Bool}{Q:Bool->Prop}(q:Q b):IsB (.im (.bl b)) Q:=⟨b,rfl,q⟩
theorem DY{n:Int}{Q:Int->Prop}(q:Q n):IsN (.im (.int n)) Q:=⟨n,rfl,q⟩
theorem DL{n:Nat}{O:Rho}{r:R}{Q:R->Prop}(h : O[n]?=some (some r))(q:Q r):AtV n O Q:=⟨r,h,q⟩
theorem DH{k j:Nat}{rs:List R}{O:Rho}{p:List Ac}{t1 t0:T}{kd:Kd}{Q:List Ac->Kd->T->Prop}(h1:rs[k]?=some ⟨.vw (some j) (some p),t1⟩)(h2:((EU rs.length).all λm=>decide (m=k)||aE [j] (rs.getD m ⟨.ow,.im .non⟩))=true)(h3 : O[j]?=some (some ⟨kd,t0⟩))(h4:kd.isOw=true)(q:Q p kd t0):AtC k j rs O Q:=⟨p,t1,kd,t0,h1,h2,h3,h4,q⟩
theorem DK{k:Nat}{rs:List R}{t1:T}{P:Prop}(h:rs[k]?=some ⟨.ow,t1⟩)(q:P):AtT k rs P:=⟨t1,h,q⟩
theorem yU{l:Nat}{O:Rho}{k:Kd}{t:T}{Q:Kd->T->Prop}(h : O[l]?=some (some ⟨k,t⟩))(ho:k.isOw=true)(q:Q k t):AtM l O Q:=⟨k,t,h,ho,q⟩
theorem DJ{j:Nat}{p:List Ac}{s:T}{Q:List Ac->T->Prop}(q:Q p s):AtS j ⟨.vw (some j) (some p),s⟩ Q:=⟨p,s,rfl,q⟩
theorem Bj{r1 r2:R}{Q:R->R->Prop}(q:Q r1 r2):Two [r1,r2] Q:=⟨r1,r2,rfl,q⟩
theorem vT{rs:List R}{n:Int}{Q:Int->Prop}(h:rs.map (·.t)=[.im (.int n)])(q:Q n):I9 rs Q:=⟨n,h,q⟩
theorem vU{rs:List R}{m n:Int}{Q:Int->Int->Prop}(h:rs.map (·.t)=[.im (.int m),.im (.int n)])(q:Q m n):Jc rs Q:=⟨m,n,h,q⟩
section
variable {α β:Type}{O:Rho}{a b c m:ME}{ms:MA}{ct ct':MT}{s1 s2:MS}{g:MG}{gs:MGs}{it:MI}{QE':R->Rho->Prop}{QT':Bool->Rho->Prop}{QA':List R->Rho->Prop}{Q:Fl->Rho->Prop}{QG':Rho->Prop}{P:Prop}{o:Option α}{x : α}{Q1 : α->Prop}
theorem w1(h:o=some x)(q:Q1 x):W1 o Q1:=⟨x,h,q⟩
theorem gu{b:Bool}(h:b=true)(p:P):Gu b P:=⟨h,p⟩
theorem WS.mono{Q2:Fl->Rho->Prop}(h:WS s1 O Q)(k:∀f O,Q f O->Q2 f O):WS s1 O Q2:=by obtain⟨x,y,e,q⟩:=h;exact⟨x,y,e,k x y q⟩
theorem WG.mono{r:R}{Q1 Q2:Rho->Prop}(h:WG g r O Q1)(k:∀O,Q1 O->Q2 O):WG g r O Q2:=by obtain⟨x,e,q⟩:=h;exact⟨x,e,k x q⟩
theorem WA.mono{Q1 Q2:List R->Rho->Prop}(h:WA ms O Q1)(k:∀rs O,Q1 rs O->Q2 rs O):WA ms O Q2:=by obtain⟨x,y,e,q⟩:=h;exact⟨x,y,e,k x y q⟩
theorem WT.mono{Q1 Q2:Bool->Rho->Prop}(h:WT ct O Q1)(k:∀b O,Q1 b O->Q2 b O):WT ct O Q2:=by obtain⟨x,y,e,q⟩:=h;exact⟨x,y,e,k x y q⟩
theorem WE.mono{Q2:R->Rho->Prop}(h:WE m O QE')(k:∀f O,QE' f O->Q2 f O):WE m O Q2:=by obtain⟨x,y,e,q⟩:=h;exact⟨x,y,e,k x y q⟩
theorem w_C{i:I}(q:QE' ⟨.ow,.im i⟩ O):WE (mC i) O QE':=by with_unfolding_all exact⟨_,_,rfl,q⟩
theorem nC{n:Nat}{r:R}(h : O[n]?=some (some r))(q:QE' (rdR n r) O):WE (af n) O QE':=⟨rdR n r,O,by simp only[af,h],q⟩
theorem Ed{f:T->T->Option T}(h:WE a O λra O1=>WE b O1 λrb O2=>Gu (aE b.mu ra) (W1 (f ra.t rb.t) λt=>QE' ⟨.ow,t⟩ O2)):WE (mOp f a b) O QE':=by
 obtain⟨ra,O1,e1,rb,O2,e2,al,t,e3,q⟩:=h;exact⟨⟨.ow,t⟩,O2,by simp only[mOp,e1,e2,al,if_true,e3],q⟩
theorem Ef{f:T->Option T}(h:WE a O λra O1=>W1 (f ra.t) λt=>QE' ⟨.ow,t⟩ O1):WE (mUn f a) O QE':=by
 obtain⟨ra,O1,e1,t,e3,q⟩:=h;exact⟨⟨.ow,t⟩,O1,by simp only[mUn,e1,e3],q⟩
theorem w_B{f:List T->Option T}(h:WA ms O λrs O1=>W1 (f (rs.map (·.t))) λt=>QE' ⟨.ow,t⟩ O1):WE (mB f ms) O QE':=by
 obtain⟨ra,O1,e1,t,e3,q⟩:=h;exact⟨⟨.ow,t⟩,O1,by simp only[mB,e1,e3],q⟩
theorem w_M{f:T->List T->Option T}(h:WE a O λra O1=>WA ms O1 λrs O2=>Gu (aE ms.mu ra) (W1 (f ra.t (rs.map (·.t))) λt=>QE' ⟨.ow,t⟩ O2)):WE (mM f a ms) O QE':=by
 obtain⟨ra,O1,e1,rb,O2,e2,al,t,e3,q⟩:=h;exact⟨⟨.ow,t⟩,O2,by simp only[mM,e1,e2,al,if_true,e3],q⟩
theorem Bs(h:WE a O λra O1=>WE b O1 λrb O2=>Gu (aE b.mu ra) (W1 (ixR ra rb.t) λr=>QE' r O2)):WE (mIx a b) O QE':=by
 obtain⟨ra,O1,e1,rb,O2,e2,al,r,e3,q⟩:=h;exact⟨r,O2,by simp only[mIx,e1,e2,al,if_true,e3],q⟩
theorem yf{QO':Option Int->Rho->Prop}(q:QO' none O):WO mNoPart O QO':=by with_unfolding_all exact⟨_,_,rfl,q⟩
theorem yg{QO':Option Int->Rho->Prop}(h:WE a O λr O1=>IsN r.t λn=>QO' (some n) O1):WO (fK a) O QO':=by
 obtain⟨⟨k,t⟩,O1,e1,n,e2,q⟩:=h;cases e2;exact⟨some n,O1,by simp only[fK,e1],q⟩
theorem Ee{lo hi:MO}(h:WE a O λra O1=>WO lo O1 λl O2=>WO hi O2 λu O3=>Gu (aE (lo.mu++hi.mu) ra) (W1 (slR ra l u) λr=>QE' r O3)):WE (mSl a lo hi) O QE':=by
 obtain⟨ra,O1,e1,l,O2,e2,u,O3,e3,al,r,e4,q⟩:=h;exact⟨r,O3,by simp only[mSl,e1,e2,e3,al,if_true,e4],q⟩
theorem Dz(h:WE a O λr O1=>IsB r.t λbb=>(bb=true->QE' ⟨.ow,.im (.bl true)⟩ O1)/\(bb=false->WE b O1 QE')):WE (nY a b) O QE':=by
 obtain⟨⟨k,t⟩,O1,e1,bb,e2,q1,q2⟩:=h;cases e2;cases bb with
 | false=>obtain⟨p,O2,e,q⟩:=q2 rfl;exact⟨p,O2,by simp only[nY,e1,e],q⟩
 | true=>exact⟨_,_,by simp only[nY,e1],q1 rfl⟩
theorem Bt{mv:List Nat}(h:WA ms O λrs O1=>Gu (decide (rs.length<=1000)) (W2 (consL mv rs O1) λts O2=>QE' ⟨.ow,bH ts⟩ O2)):WE (aO mv ms) O QE':=by
 obtain⟨rs,O1,e1,hl,ts,O2,e2,q⟩:=h;exact⟨⟨.ow,bH ts⟩,O2,by simp only[aO,e1,if_pos (of_decide_eq_true hl),e2],q⟩
theorem Bw{mv:List Nat}(h:WA ms O λrs O1=>Gu (decide (rs.length<=1000)) (W2 (consL mv rs O1) λts O2=>QE' ⟨.ow,mL ts⟩ O2)):WE (aC mv ms) O QE':=by
 obtain⟨rs,O1,e1,hl,ts,O2,e2,q⟩:=h;exact⟨⟨.ow,mL ts⟩,O2,by simp only[aC,e1,if_pos (of_decide_eq_true hl),e2],q⟩
theorem xU{k j:Nat}{run:List T->Option (T×T)}(h:WA ms O λrs O1=>AtC k j rs O1 λp kd t0=>W2 (run (rs.map (·.t))) λt s'=>QE' ⟨.ow,t⟩ ((ao [j] O1).set j (some ⟨kd,t0.put p s'⟩))):WE (am k j run ms) O QE':=by
 obtain⟨rs,O1,e1,p,t1,kd,t0,e2,al,e3,ow,t,s',e4,q⟩:=h;refine⟨⟨.ow,t⟩,(ao [j] O1).set j (some ⟨kd,t0.put p s'⟩),?_,q⟩;simp only[am,e1];simp only[e2];rw[if_pos (by rw[Ei];exact⟨rfl,al⟩)];simp only[e4,e3,ow,if_true]
theorem xV{k:Nat}{run:List T->Option (T×T)}(h:WA ms O λrs O1=>AtT k rs (W2 (run (rs.map (·.t))) λt _=>QE' ⟨.ow,t⟩ O1)):WE (gY k run ms) O QE':=by
 obtain⟨rs,O1,e1,t1,e2,t,s',e4,q⟩:=h;exact⟨⟨.ow,t⟩,O1,by simp only[gY,e1,e2,e4],q⟩
theorem vp{l:Nat}{mv:List Nat}{f:T->List T->Option (T×I)}(h:WE a O λra O1=>WA ms O1 λrs O2=>Gu (aE ms.mu ra) (W2 (mutR l mv f ra rs O2) QE')):WE (bK l mv f a ms) O QE':=by
 obtain⟨ra,O1,e1,rs,O2,e2,al,p,O3,e3,q⟩:=h;exact⟨p,O3,by simp only[bK,e1,e2,al,if_true,e3],q⟩
theorem Bu{l:Nat}{f:T->List T->Option (T×I)}(h:WE a O λra O1=>W2 (mutR l [] f ra [] O1) QE'):WE (kU l f a) O QE':=by
 obtain⟨ra,O1,e1,p,O3,e3,q⟩:=h;exact⟨p,O3,by simp only[kU,e1,e3],q⟩
theorem oW{l:Nat}{mv:List Nat}{f:T->List T->Option (T×I)}{p:List Ac}{s:T}{rs:List R}{QQ:R->Rho->Prop}(hm:mv.contains l=false)(h:W2 (consL mv rs O) λts O2=>AtM l O2 λk t=>W2 (f s ts) λs' res=>QQ ⟨.ow,.im res⟩ ((ao [l] O2).set l (some ⟨k,t.put p s'⟩))):W2 (mutR l mv f ⟨.vw (some l) (some p),s⟩ rs O) QQ:=by
 obtain⟨ts,O2,hc,k,t,ho,hk,s',res,e,q⟩:=h;refine⟨_,_,?_,q⟩;unfold mutR;simp only[decide_true,hm,hc,e,ho,hk,Ic,Ga,if_true]
theorem Bx(q:QA' [] O):WA mNil O QA':=by with_unfolding_all exact⟨_,_,rfl,q⟩
theorem x0(h:WE m O λr O1=>WA ms O1 λrs O2=>Gu (aE ms.mu r) (QA' (r::rs) O2)):WA (ac m ms) O QA':=by
 obtain⟨ra,O1,e1,rb,O2,e2,al,q⟩:=h;exact⟨ra::rb,O2,by simp only[ac,e1,e2,al,if_true],q⟩
theorem vq{n:Nat}{r0:R}(h0 : O[n]?=some (some r0))(h:WA ms O λrs O2=>AtV n O2 λr=>QA' (rdR n r::rs) O2):WA (aa n ms) O QA':=by
 obtain⟨rs,O2,e1,r,e2,q⟩:=h;exact⟨rdR n r::rs,O2,by simp only[aa,e1,e2,h0],q⟩
theorem yh(h:WE a O λr O1=>IsB r.t λbb=>QT' bb O1):WT (aI a) O QT':=by
 obtain⟨⟨k,t⟩,O1,e1,bb,e2,q⟩:=h;cases e2;exact⟨bb,O1,by simp only[aI,e1],q⟩
theorem BE(h:WE a O λr O1=>W1 (tru r.t) λbb=>QT' bb O1):WT (n4 a) O QT':=by
 obtain⟨r,O1,e1,bb,e2,q⟩:=h;exact⟨bb,O1,by simp only[n4,e1,e2],q⟩
theorem BD(h:WT ct O λbb O1=>QT' (!bb) O1):WT (nX ct) O QT':=by
 obtain⟨r,O1,e1,q⟩:=h;exact⟨_,_,by simp only[nX,e1],q⟩
theorem BC(h:WT ct O λbb O1=>(bb=true->WT ct' O1 QT')/\(bb=false->QT' false O1)):WT (iZ ct ct') O QT':=by
 obtain⟨bb,O1,e1,q1,q2⟩:=h;cases bb with
 | true=>obtain⟨p,O2,e,q⟩:=q1 rfl;exact⟨p,O2,by simp only[iZ,e1,e],q⟩
 | false=>exact⟨_,_,by simp only[iZ,e1],q2 rfl⟩
theorem DC(h:WT ct O λbb O1=>(bb=true->QT' true O1)/\(bb=false->WT ct' O1 QT')):WT (mOr ct ct') O QT':=by
 obtain⟨bb,O1,e1,q1,q2⟩:=h;cases bb with
 | false=>obtain⟨p,O2,e,q⟩:=q2 rfl;exact⟨p,O2,by simp only[mOr,e1,e],q⟩
 | true=>exact⟨_,_,by simp only[mOr,e1],q1 rfl⟩
theorem jl(q:QT' true O):WT mYes O QT':=by with_unfolding_all exact⟨_,_,rfl,q⟩
theorem x9{i:Nat}{r:R}(h:(eR O i&&aE [i] r)=true)(q:QG' ((ao [i] O).set i (some r))):WG (ag i) r O QG':=⟨(ao [i] O).set i (some r),by simp only[ag,h,if_true],q⟩
theorem yb(q:QG' O):WGs mGNil [] O QG':=by with_unfolding_all exact⟨_,rfl,q⟩
theorem vz{r:R}{rs:List R}(al:rs.all (aE g.mu)=true)(h:WG g r O λO1=>WGs gs rs O1 QG'):WGs (aS g gs) (r::rs) O QG':=by
 obtain⟨O1,e1,O2,e2,q⟩:=h;exact⟨O2,by simp only[aS,al,if_true,e1,e2],q⟩
theorem BB{r:R}{rs:List R}(hp:parts r=some rs)(h:WGs gs rs O QG'):WG (cP gs) r O QG':=by
 obtain⟨O2,e2,q⟩:=h;exact⟨O2,by simp only[cP,hp,e2],q⟩
theorem BA{j:Nat}{tv:T}(h:WE a O λra O1=>WE b O1 λrb O2=>AtS j ra λp s=>Gu (!b.mu.contains j) (AtM j O2 λk t=>W1 (u5 s rb.t tv) λs'=>QG' ((ao [j] O2).set j (some ⟨k,t.put p s'⟩)))):WG (nZ j a b) ⟨.ow,tv⟩ O QG':=by
 obtain⟨ra,O1,e1,rb,O2,e2,p,s,rfl,hm,k,t,e3,ow,s',e4,q⟩:=h;refine⟨_,?_,q⟩;simp only[nZ,e1,e2,hm,decide_true,Ga,if_true,e4,e3,ow]
theorem vy{j:Nat}{ys:List I}(h:WE a O λra O1=>WE b O1 λrb O2=>WE c O2 λrc O3=>∃p xs k t i n,ra=⟨.vw (some j) (some p),.li xs⟩/\rb.t=.im (.int i)/\rc.t=.im (.int n)/\(b.mu++c.mu).contains j=false/\(0<=i/\i<=n/\n<=xs.length/\xs.length+ys.length<=sizeLine)/\O3[j]?=some (some ⟨k,t⟩)/\k.isOw=true/\QG' ((ao [j] O3).set j (some ⟨k,t.put p (.li (xs.take i.toNat++ys++xs.drop n.toNat))⟩))):WG (g6 j a b c) ⟨.ow,.li ys⟩ O QG':=by
 obtain⟨ra,O1,e1,⟨_,_⟩,O2,e2,⟨_,_⟩,O3,e3,p,xs,k,t,i,n,rfl,rfl,rfl,hm,hz,e4,ow,q⟩:=h;refine⟨_,?_,q⟩;simp only[g6,e1,e2,e3,hm,decide_true,Ic,Hy];rw[if_pos (decide_eq_true hz)];simp only[e4,ow,if_true]
theorem Bv(q:Q .nx O):WS mNext O Q:=by with_unfolding_all exact⟨_,_,rfl,q⟩
@[irreducible] def zb(b:MS)(Q:Fl->Rho->Prop):Fl->Rho->Prop
 | .nx,O=>WS b O Q
 | .rt t,O=>Q (.rt t) O
 | .bk,O=>Q .bk O
 | .ct,O=>Q .ct O
theorem yO(h:WS s1 O (zb s2 Q)):WS (ak s1 s2) O Q:=by with_unfolding_all
 obtain⟨f,O1,e1,q⟩:=h;cases f with
 | nx=>have q:WS s2 O1 Q:=q;obtain⟨p,O2,e,q⟩:=q;exact⟨p,O2,by simp only[ak,e1,e],q⟩
 | rt t=>exact⟨.rt t,O1,by simp only[ak,e1],q⟩
 | bk=>exact⟨.bk,O1,by simp only[ak,e1],q⟩
 | ct=>exact⟨.ct,O1,by simp only[ak,e1],q⟩
theorem bI(h:WT ct O λbb O1=>(bb=true->WS s1 O1 Q)/\(bb=false->WS s2 O1 Q)):WS (mIf ct s1 s2) O Q:=by
 obtain⟨bb,O1,e1,q1,q2⟩:=h;cases bb with
 | true=>obtain⟨p,O2,e,q⟩:=q1 rfl;exact⟨p,O2,by simp only[mIf,e1,e],q⟩
 | false=>obtain⟨p,O2,e,q⟩:=q2 rfl;exact⟨p,O2,by simp only[mIf,e1,e],q⟩
theorem oV(h:WE m O λ_ O1=>Q .nx O1):WS (aZ m) O Q:=by
 obtain⟨r,O1,e1,q⟩:=h;exact⟨.nx,O1,by simp only[aZ,e1],q⟩
theorem Ds(h:WE m O λr O1=>WG g r O1 λO2=>Q .nx O2):WS (ax m g) O Q:=by
 obtain⟨r,O1,e1,O2,e2,q⟩:=h;exact⟨.nx,O2,by simp only[ax,e1,e2],q⟩
theorem DB(h:WE m O λr O1=>W2 (rh r O1) λt O2=>Q (.rt t) O2):WS (bf m) O Q:=by
 obtain⟨r,O1,e1,t,O2,e2,q⟩:=h;exact⟨.rt t,O2,by simp only[bf,e1,e2],q⟩
theorem Dt{i:Nat}{f:Int->Int->Int}{k:Kd}{x:Int}(h0 : O[i]?=some (some ⟨k,.im (.int x)⟩))(h:WE m O λr O1=>IsN r.t λy=>Gu (eR O1 i) (Q .nx ((ao [i] O1).set i (some ⟨.ow,.im (.int (f x y))⟩)))):WS (qw i f m) O Q:=by
 obtain⟨⟨k',t'⟩,O1,e1,y,e2,hn,q⟩:=h;cases e2;exact⟨_,_,by simp only[qw,h0,e1,hn,if_true],q⟩
theorem DA{i j:Nat}(h:WA ms O λrs O1=>Two rs λr1 r2=>Gu (j1 r1&&j1 r2) (Gu (eR O1 i&&aE [i] r1&&aE [i] r2&&eR O1 j&&aE [j] r2) (Q .nx ((ao [j] ((ao [i] O1).set i (some r1))).set j (some r2))))):WS (kW i j ms) O Q:=by
 obtain⟨rs,O1,e1,r1,r2,rfl,hb,hc,q⟩:=h;refine⟨.nx,(ao [j] ((ao [i] O1).set i (some r1))).set j (some r2),?_,q⟩;rw[Ei]at hb;simp only[kW,we,e1,Fs,Gk,hb.1,hb.2,Gv,Ga,if_true,hc]
@[irreducible] def za(ks:List Nat)(Q:Fl->Rho->Prop):Fl->Rho->Prop
 | .nx,O=>Q .nx (fgts ks O)
 | .ct,O=>Q .ct (fgts ks O)
 | .rt t,O=>Q (.rt t) O
 | .bk,O=>Q .bk O
theorem Dw{ks:List Nat}(h:WS s1 O (za ks Q)):WS (bE ks s1) O Q:=by with_unfolding_all
 obtain⟨f,O1,e1,q⟩:=h;cases f with
 | nx=>exact⟨_,_,by simp only[bE,e1],q⟩
 | ct=>exact⟨_,_,by simp only[bE,e1],q⟩
 | rt t=>exact⟨_,_,by simp only[bE,e1],q⟩
 | bk=>exact⟨_,_,by simp only[bE,e1],q⟩
def qf(Inv:Nat->Rho->Prop)(i:Nat)(Q:Fl->Rho->Prop):Fl->Rho->Prop
 | .nx,O=>Inv (i+1) O
 | .ct,O=>Inv (i+1) O
 | .bk,O=>Q .nx O
 | .rt t,O=>Q (.rt t) O
theorem pd{items:List R}(Inv:Nat->Rho->Prop)(hs:∀i r O,items[i]?=some r->Inv i O->WG g r O λO1=>WS s1 O1 (qf Inv i Q))(he:∀O,Inv items.length O->Q .nx O):∀(l:List R) (i:Nat) (O:Rho),items.drop i=l->i<=items.length->Inv i O->W2 (eY g.run s1.run l O) Q
 | [],i,O,hl,hi,hI=>by
  have:i=items.length:=by have:=congrArg FK hl;simp at this;omega
  subst this;exact⟨_,_,rfl,he O hI⟩
 | r::l,i,O,hl,hi,hI=>by
  have hr:items[i]?=some r:=by rw[←Gz,hl];rfl
  have hlt:=(Eg.mp hr).1;have hl':items.drop (i+1)=l:=by rw[←GI,hl];rfl
  obtain⟨O1,e1,f,O2,e2,q⟩:=hs i r O hr hI;have k:=pd Inv hs he l (i+1) O2 hl' hlt;simp only[eY,e1,e2];cases f with
  | nx=>exact k q
  | ct=>exact k q
  | bk=>exact⟨_,_,rfl,q⟩
  | rt t=>exact⟨_,_,rfl,q⟩
theorem vm(h:WI it O λsrc items O1=>Gu (src.all (aE (g.mu++s1.mu))&&items.all (aE (g.mu++s1.mu))) (∃Inv:Nat->Rho->Prop,Inv 0 O1/\(∀i r O,items[i]?=some r->Inv i O->WG g r O λO1=>WS s1 O1 (qf Inv i Q))/\∀O,Inv items.length O->Q .nx O)):WS (bQ it g s1) O Q:=by
 obtain⟨src,items,O1,e1,al,Inv,h0,hs,he⟩:=h;obtain⟨p,O2,e,q⟩:=pd (Q:=Q) Inv hs he items 0 O1 rfl (Fd _) h0;exact⟨p,O2,by simp only[bQ,e1];rw[if_pos al];exact e,q⟩
theorem lq{M:List Nat}{items:List R}(h:∀r∈items,r.k=.ow):items.all (aE M)=true:=E6.mpr λr hr=>by unfold aE db;rw[h r hr];rfl
theorem Br{i:Nat}(h:WA ms O λrs O1=>∃n:Int,rs.map (·.t)=[.im (.int n)]/\-(2^62)<=n/\n<2^62/\(∃Inv:Nat->Rho->Prop,Inv 0 O1/\(∀(j:Nat) O,(j:Int)<n->Inv j O->WG (ag i) (j4 j) O λO1=>WS s1 O1 (qf Inv j Q))/\∀O,Inv n.toNat O->Q .nx O)):WS (bQ (bd ms) (ag i) s1) O Q:=by
 obtain⟨rs,O1,e1,n,e2,h1,h2,Inv,h0,hs,he⟩:=h;refine vm ⟨[ot],hJ 0 n.toNat,O1,by simp only[bd,e1,e2,l1,isI];rw[if_pos ⟨h1,h2⟩],?_,Inv,h0,λj r O hr hI=>?_,λO hI=>he O (by simpa[hJ]using hI)⟩
 ·rw[Ei];exact⟨rfl,lq λr hr=>by obtain⟨x,_,rfl⟩:=Ev.mp hr;rfl⟩
 ·obtain⟨x,hx,rfl⟩:=az hr;obtain⟨a1,a2⟩:=Eg.mp hx;simp at a1 a2;subst a2;have:=hs j O (by omega) hI;rw[Ij];exact this
theorem xY{i:Nat}(h:WA ms O λrs O1=>∃m n:Int,rs.map (·.t)=[.im (.int m),.im (.int n)]/\(-(2^62)<=m/\m<2^62/\-(2^62)<=n/\n<2^62)/\(∃Inv:Nat->Rho->Prop,Inv 0 O1/\(∀(j:Nat) O,m+(j:Int)<n->Inv j O->WG (ag i) (j4 (m+j)) O λO1=>WS s1 O1 (qf Inv j Q))/\∀O,Inv (n-m).toNat O->Q .nx O)):WS (bQ (fL ms) (ag i) s1) O Q:=by
 obtain⟨rs,O1,e1,m,n,e2,h1,Inv,h0,hs,he⟩:=h;refine vm ⟨[ot],hJ m (n-m).toNat,O1,by simp only[fL,e1,e2,l2,l1,ii2,isI];rw[if_pos h1],?_,Inv,h0,λj r O hr hI=>?_,λO hI=>he O (by simpa[hJ]using hI)⟩
 ·rw[Ei];exact⟨rfl,lq λr hr=>by obtain⟨x,_,rfl⟩:=Ev.mp hr;rfl⟩
 ·obtain⟨x,hx,rfl⟩:=az hr;obtain⟨a1,a2⟩:=Eg.mp hx;simp at a1 a2;subst a2;exact hs j O (by omega) hI
theorem Bq(h:WE m O λr O1=>∃is:List I,eg r=some (is.map λi=>⟨.ow,.im i⟩)/\aE (g.mu++s1.mu) r=true/\(∃Inv:Nat->Rho->Prop,Inv 0 O1/\(∀j x O,is[j]?=some x->Inv j O->WG g ⟨.ow,.im x⟩ O λO1=>WS s1 O1 (qf Inv j Q))/\∀O,Inv is.length O->Q .nx O)):WS (bQ (mIt m) g s1) O Q:=by
 obtain⟨r,O1,e1,is,e2,al,Inv,h0,hs,he⟩:=h;refine vm ⟨[r],is.map (λi=>⟨.ow,.im i⟩),O1,by simp only[mIt,e1,e2],?_,Inv,h0,λj r O hr hI=>?_,λO hI=>he O (by simpa using hI)⟩
 ·rw[Ei];exact⟨by rw[Fs,Gk,al];rfl,lq λr hr=>by obtain⟨x,_,rfl⟩:=Ev.mp hr;rfl⟩
 ·obtain⟨x,hx,rfl⟩:=az hr;exact hs j x O hx hI
theorem xZ(Inv:Nat->Rho->Prop)(n:Nat)(h0:Inv n O) (hs:∀n O,Inv n O->WT ct O λbb O1=>(bb=false->Q .nx O1)/\(bb=true->WS s1 O1 λf O2=>match f with
  | .nx=>∃m,m<n/\Inv m O2
  | .ct=>∃m,m<n/\Inv m O2
  | .bk=>Q .nx O2
  | .rt t=>Q (.rt t) O2)):WS (cV ct s1) O Q:=by
 have key:∀n O,Inv n O->W2 (itW ct s1 (n+1) O) Q:=by
  intro n
  induction n using Nat.strongRecOn with
  | _ n ih=>
   intro O hI;obtain⟨bb,O1,e1,q1,q2⟩:=hs n O hI;cases bb with
   | false=>exact⟨.nx,O1,by simp only[itW,e1],q1 rfl⟩
   | true=>
    obtain⟨f,O2,e2,q⟩:=q2 rfl;cases f with
    | nx=>
     obtain⟨m,hm,hI'⟩:=q;obtain⟨p,O3,e,q⟩:=ih m hm O2 hI';exact⟨p,O3,by simp only[itW,e1,e2];exact eP e _ (by omega),q⟩
    | ct=>
     obtain⟨m,hm,hI'⟩:=q;obtain⟨p,O3,e,q⟩:=ih m hm O2 hI';exact⟨p,O3,by simp only[itW,e1,e2];exact eP e _ (by omega),q⟩
    | bk=>exact⟨.nx,O2,by simp only[itW,e1,e2],q⟩
    | rt t=>exact⟨.rt t,O2,by simp only[itW,e1,e2],q⟩
 obtain⟨p,O3,e,q⟩:=key n O h0;exact⟨p,O3,rG e,q⟩
theorem il{fr:List (Option Nat)}{M:List Nat}{items:List R}{QC:List T->Rho->Prop}(Inv:Nat->List T->Rho->Prop)
  (hs:∀i r acc O,items[i]?=some r->Inv i acc O->WG g (ge (piF fr) r) (inR fr O) λO1=>WT ct O1 λbb O2=>(bb=true->WE m O2 λr O3=>∃t,r=⟨.ow,t⟩/\Inv (i+1) (acc++[t]) (bU fr M O3 O))/\(bb=false->Inv (i+1) acc (bU fr M O2 O)))
  (he:∀acc O,Inv items.length acc O->QC acc O):∀(l:List R) (i:Nat) (acc:List T) (O:Rho),items.drop i=l->i<=items.length->Inv i acc O->W2 (bh fr M g ct m l O acc) QC
 | [],i,acc,O,hl,hi,hI=>by
  have:i=items.length:=by have:=congrArg FK hl;simp at this;omega
  subst this;exact⟨_,_,rfl,he acc O hI⟩
 | r::l,i,acc,O,hl,hi,hI=>by
  have hr:items[i]?=some r:=by rw[←Gz,hl];rfl
  have hlt:=(Eg.mp hr).1;have hl':items.drop (i+1)=l:=by rw[←GI,hl];rfl
  obtain⟨O1,e1,bb,O2,e2,q1,q2⟩:=hs i r acc O hr hI;cases bb with
  | true=>
   obtain⟨r',O3,e3,t,rfl,q⟩:=q1 rfl;simp only[bh,e1,e2,e3];exact il Inv hs he l (i+1) _ _ hl' hlt q
  | false=>
   simp only[bh,e1,e2];exact il Inv hs he l (i+1) _ _ hl' hlt (q2 rfl)
theorem oU{fr:List (Option Nat)} (h:WI it O λsrc items O1=>Gu (cA fr O1.length&&cB (g.mu++(ct.mu++m.mu)) fr.length&&src.all (aE (muF fr (g.mu++(ct.mu++m.mu))))) (items.length<sizeLine/\∃Inv:Nat->List T->Rho->Prop,Inv 0 [] O1 ∧
  (∀i r acc O,items[i]?=some r->Inv i acc O->WG g (ge (piF fr) r) (inR fr O) λO1=>WT ct O1 λbb O2=>(bb=true->WE m O2 λr O3=>∃t,r=⟨.ow,t⟩/\Inv (i+1) (acc++[t]) (bU fr (g.mu++(ct.mu++m.mu)) O3 O))/\(bb=false->Inv (i+1) acc (bU fr (g.mu++(ct.mu++m.mu)) O2 O))) ∧
  ∀acc O,Inv items.length acc O->QE' ⟨.ow,bH acc⟩ O)):WE (aT fr it g ct m) O QE':=by
 obtain⟨src,items,O1,e1,al,hl,Inv,h0,hs,he⟩:=h;obtain⟨ts,O2,e,q⟩:=il (QC:=λacc O=>QE' ⟨.ow,bH acc⟩ O) Inv hs he items 0 [] O1 rfl (Fd _) h0;refine⟨⟨.ow,bH ts⟩,O2,?_,q⟩;simp only[aT,e1];rw[if_pos (by rw[Ei];exact⟨al,decide_eq_true hl⟩)];simp only[e]
theorem yd{QI':List R->List R->Rho->Prop}(h:WA ms O λrs O1=>∃n:Int,rs.map (·.t)=[.im (.int n)]/\(-(2^62)<=n/\n<2^62)/\QI' [ot] (hJ 0 n.toNat) O1):WI (bd ms) O QI':=by
 obtain⟨rs,O1,e1,n,e2,h1,q⟩:=h;exact⟨_,_,_,by simp only[bd,e1,e2,l1,isI];rw[if_pos h1],q⟩
theorem ye{QI':List R->List R->Rho->Prop}(h:WA ms O λrs O1=>∃m n:Int,rs.map (·.t)=[.im (.int m),.im (.int n)]/\(-(2^62)<=m/\m<2^62/\-(2^62)<=n/\n<2^62)/\QI' [ot] (hJ m (n-m).toNat) O1):WI (fL ms) O QI':=by
 obtain⟨rs,O1,e1,m,n,e2,h1,q⟩:=h;exact⟨_,_,_,by simp only[fL,e1,e2,l2,l1,ii2,isI];rw[if_pos h1],q⟩
theorem l6{QI':List R->List R->Rho->Prop}(h:WE m O λr O1=>W1 (eg r) λrs=>QI' [r] rs O1):WI (mIt m) O QI':=by
 obtain⟨r,O1,e1,rs,e2,q⟩:=h;exact⟨[r],rs,O1,by simp only[mIt,e1,e2],q⟩
end
section
variable {α β:Type}{O:Rho}{QT1:T->Prop}{QR:R->Prop}{QI1:T->I->Prop}{m:MS}{n k:Nat}{ts:List T}
@[irreducible] def fP(R:T->Prop):Fl->Rho->Prop
 | .rt t,_=>R t
 | .nx,_=>R (.im .non)
 | _,_=>False
@[irreducible] def fI(k:Nat)(R:T->T->Prop):Fl->Rho->Prop
 | .rt t,O=>∃s',O[k]?=some (some ⟨.io 0,s'⟩)/\R t s'
 | .nx,O=>∃s',O[k]?=some (some ⟨.io 0,s'⟩)/\R (.im .non) s'
 | _,_=>False
theorem pH{run:List T->Option T}{l:Nat}(hrun:run ts=if ts.length=l then cR m n ts else none)(hl:ts.length=l)(h:WS m (cH ts n) (fP QT1)):W1 (run ts) QT1:=by with_unfolding_all
 rw[hrun,if_pos hl];obtain⟨f,O,e,q⟩:=h;cases f with
 | nx=>exact⟨_,by simp only[cR,e],q⟩
 | rt t=>exact⟨_,by simp only[cR,e],q⟩
 | bk=>cases q
 | ct=>cases q
theorem gI{run:List T->Option (T×T)}{l:Nat}{Q2:T->T->Prop}(hrun:run ts=if ts.length=l then fu m k n ts else none)(hl:ts.length=l)(h:WS m (fh k ts n) (fI k Q2)):W2 (run ts) Q2:=by with_unfolding_all
 rw[hrun,if_pos hl];obtain⟨f,O,e,q⟩:=h;cases f with
 | nx=>have q:∃s',O[k]?=some (some ⟨.io 0,s'⟩)/\Q2 (.im .non) s':=q;obtain⟨s',e2,q⟩:=q;exact⟨_,_,by simp only[fu,e,e2],q⟩
 | rt t=>have q:∃s',O[k]?=some (some ⟨.io 0,s'⟩)/\Q2 t s':=q;obtain⟨s',e2,q⟩:=q;exact⟨_,_,by simp only[fu,e,e2],q⟩
 | bk=>cases q
 | ct=>cases q
variable {a b:Int}{s z:Str}{is js:List I}{i j:I}
theorem zR(q:QT1 (.im (.int (a+b)))):W1 (bg (.im (.int a)) (.im (.int b))) QT1:=by with_unfolding_all exact⟨_,rfl,q⟩
theorem lO(h:s.length+z.length<=sizeLine)(q:QT1 (.im (.str (s++z)))):W1 (bg (.im (.str s)) (.im (.str z))) QT1:=by with_unfolding_all exact⟨_,if_pos h,q⟩
theorem oj(h:is.length+js.length<=sizeLine)(q:QT1 (.li (is++js))):W1 (bg (.li is) (.li js)) QT1:=by with_unfolding_all exact⟨_,if_pos h,q⟩
theorem Ch(q:QT1 (.im (.int (a-b)))):W1 (cS (.im (.int a)) (.im (.int b))) QT1:=by with_unfolding_all exact⟨_,rfl,q⟩
theorem B1(h1 : -(2^64)<a)(h2:a<2^64):jr a b=true:=by unfold jr;simp only[h1,h2,decide_true,Ga,Ih]
theorem D1(h1 : -(2^64)<b)(h2:b<2^64):jr a b=true:=by unfold jr;simp only[h1,h2,decide_true,Ga,Bool.or_true]
theorem tp(h:jr a b=true)(q:QT1 (.im (.int (a*b)))):W1 (dU (.im (.int a)) (.im (.int b))) QT1:=by with_unfolding_all exact⟨_,if_pos h,q⟩
theorem tu(h:is≠[]/\is.length<=1000/\1<=b/\b<=1000)(q:QT1 (.im (.tup (El b.toNat is).flatten))):W1 (dU (.im (.tup is)) (.im (.int b))) QT1:=by with_unfolding_all exact⟨_,if_pos h,q⟩
theorem tq(h : -(2^63)<=b/\b<2^63/\is.length*b.toNat<=sizeLine)(q:QT1 (.li (El b.toNat is).flatten)):W1 (dU (.li is) (.im (.int b))) QT1:=by with_unfolding_all exact⟨_,if_pos h,q⟩
theorem zU(h:0<b/\b<2^64)(q:QT1 (.im (.int (a / b)))):W1 (jo (.im (.int a)) (.im (.int b))) QT1:=by with_unfolding_all exact⟨_,if_pos h,q⟩
theorem tm(h:0<b)(q:QT1 (.im (.int (a % b)))):W1 (fZ (.im (.int a)) (.im (.int b))) QT1:=by with_unfolding_all exact⟨_,if_pos h,q⟩
theorem yv(h:0<=b/\b<=1000000/\a.natAbs<2^64)(q:QT1 (.im (.int (a^b.toNat)))):W1 (qI (.im (.int a)) (.im (.int b))) QT1:=by with_unfolding_all exact⟨_,if_pos h,q⟩
theorem B6{p:Int->Int->Bool}(q:QT1 (.im (.bl (p a b)))):W1 (fS p (.im (.int a)) (.im (.int b))) QT1:=by with_unfolding_all exact⟨_,rfl,q⟩
theorem B7(q:QT1 (.im (.bl (decide (a=b))))):W1 (eqT (.im (.int a)) (.im (.int b))) QT1:=by with_unfolding_all exact⟨_,rfl,by simpa using q⟩
theorem B9(q:QT1 (.im (.bl (decide (s=z))))):W1 (eqT (.im (.str s)) (.im (.str z))) QT1:=by with_unfolding_all exact⟨_,rfl,by simpa using q⟩
theorem B8(h:I.doks is=true/\I.doks js=true/\I.deps is<=50)(q:QT1 (.im (.bl (decide (is=js))))):W1 (eqT (.li is) (.li js)) QT1:=⟨_,by simp only[eqT,eqB];rw[if_pos h];rfl,q⟩
theorem BP(h:i.dok=true/\I.doks is=true/\I.deps is<=50):inB (.im i) (.im (.tup is))=some (decide (i∈is)):=by cases i<;>exact if_pos h
theorem sW(h:i.dok=true/\I.doks is=true/\I.deps is<=50)(q:QT1 (.im (.bl (decide (i∈is))))):W1 (inT (.im i) (.im (.tup is))) QT1:=⟨_,by unfold inT;rw[BP h];rfl,q⟩
theorem yo(h:i.dok=true/\I.doks is=true/\I.deps is<=50):inB (.im i) (.li is)=some (decide (i∈is)):=by cases i<;>exact if_pos h
theorem j2(h:i.dok=true/\I.doks is=true/\I.deps is<=50)(q:QT1 (.im (.bl (decide (i∈is))))):W1 (inT (.im i) (.li is)) QT1:=⟨_,by unfold inT;rw[yo h];rfl,q⟩
theorem g7(h:i.dok=true/\I.doks is=true/\I.deps is<=50)(q:QT1 (.im (.bl (!decide (i∈is))))):W1 (jx (.im i) (.li is)) QT1:=⟨_,by unfold jx;rw[yo h];rfl,q⟩
theorem zY(h:s.length<=sizeLine)(q:QT1 (.im (.int s.length))):W1 (dh [.im (.str s)]) QT1:=by with_unfolding_all exact⟨_,if_pos h,q⟩
theorem zZ(q:QT1 (.im (.int is.length))):W1 (dh [.im (.tup is)]) QT1:=by with_unfolding_all exact⟨_,rfl,q⟩
theorem zX(q:QT1 (.im (.int is.length))):W1 (dh [.li is]) QT1:=by with_unfolding_all exact⟨_,rfl,q⟩
theorem wz{us:List T}(q:QT1 (.im (.int us.length))):W1 (dh [.lst us]) QT1:=by with_unfolding_all exact⟨_,rfl,q⟩
theorem Cc(q:QT1 (.im (.int (if b<a then b else a)))):W1 (oe [.im (.int a),.im (.int b)]) QT1:=by with_unfolding_all exact⟨_,rfl,q⟩
theorem Cb(q:QT1 (.im (.int (if b>a then b else a)))):W1 (n9 [.im (.int a),.im (.int b)]) QT1:=by with_unfolding_all exact⟨_,rfl,q⟩
theorem zV{c:Bool}(q:QT1 (.im (.int (if c then 1 else 0)))):W1 (qk [.im (.bl c)]) QT1:=by with_unfolding_all exact⟨_,rfl,q⟩
theorem Ad(q:QT1 (.im (.tup is))):W1 (gK [.li is]) QT1:=by with_unfolding_all exact⟨_,rfl,q⟩
theorem z7(q:QT1 (.li is)):W1 (nW [.li is]) QT1:=by with_unfolding_all exact⟨_,rfl,q⟩
theorem Cf(q:QT1 (.im (.tup is.reverse))):W1 (uT (.im (.tup is))) QT1:=by with_unfolding_all exact⟨_,rfl,q⟩
theorem yT{xs:List α}{x : α}{n:Nat}{i:Int}(hi:i=n)(h:xs[n]?=some x):atI xs i=some x:=by
 subst hi;have:=(Eg.mp h).1;unfold atI ixN;rw[if_pos (by omega),if_pos (by omega)];simpa using h
theorem nI{xs:List α}{i:Int}(h0:0<=i)(h1:i<xs.length):∃x,atI xs i=some x/\xs[i.toNat]?=some x:=by
 have:i.toNat<xs.length:=by omega
 exact⟨xs[i.toNat],yT (n:=i.toNat) (by omega) (EQ this),EQ this⟩
theorem yu{kd:Kd}{x:I}(h:atI is a=some x)(q:QR ⟨.ow,.im x⟩):W1 (ixR ⟨kd,.im (.tup is)⟩ (.im (.int a))) QR:=⟨_,by simp only[ixR,isI,ixX,ixI,h,FV],q⟩
theorem yt{kd:Kd}{x:I}(h:atI is a=some x)(q:QR ⟨.ow,.im x⟩):W1 (ixR ⟨kd,.li is⟩ (.im (.int a))) QR:=⟨_,by simp only[ixR,isI,ixX,ixI,h,FV],q⟩
theorem tj{kd:Kd}(h0:0<=a)(h1:a<is.length)(q:∀x,is[a.toNat]?=some x->QR ⟨.ow,.im x⟩):W1 (ixR ⟨kd,.im (.tup is)⟩ (.im (.int a))) QR:=by
 obtain⟨x,h,h'⟩:=nI h0 h1;exact yu h (q x h')
theorem sZ{kd:Kd}(h0:0<=a)(h1:a<is.length)(q:∀x,is[a.toNat]?=some x->QR ⟨.ow,.im x⟩):W1 (ixR ⟨kd,.li is⟩ (.im (.int a))) QR:=by
 obtain⟨x,h,h'⟩:=nI h0 h1;exact yt h (q x h')
theorem tf{kd:Kd}(hz:s.length<=sizeLine)(h0:0<=a)(h1:a<(sL s).length)(q:∀c,(sL s)[a.toNat]?=some c->QR ⟨.ow,.im (.str ⟨#[c]⟩)⟩):W1 (ixR ⟨kd,.im (.str s)⟩ (.im (.int a))) QR:=by
 obtain⟨x,h,h'⟩:=nI h0 h1;exact⟨_,by simp only[ixR,isI,ixX,ixI,if_pos hz,h,FV],q x h'⟩
theorem ol{ro:Option Nat}{p:Option (List Ac)}{us:List T}{u:T}(h0:0<=a)(h1:us[a.toNat]?=some u)(hu:∀i,u ≠ .im i){kd:Kd}(hk:ixK (.vw ro p) (some (.ix a.toNat))=some kd)(q:QR ⟨kd,u⟩):W1 (ixR ⟨.vw ro p,.lst us⟩ (.im (.int a))) QR:=by
 have hl:=(Eg.mp h1).1;refine⟨⟨kd,u⟩,?_,q⟩;unfold ixR;have:ixN us.length a=some a.toNat:=by unfold ixN;rw[if_pos h0,if_pos (by omega)]
 simp only[isI,ixX,this,h1,Option.bind_some];cases u with
 | im i=>exact absurd rfl (hu i)
 | _=>simp only[ixP,hk]
theorem tw{n:Nat}(ha:a=n)(h:n<is.length)(q:QT1 (.li (is.set n i))):W1 (u5 (.li is) (.im (.int a)) (.im i)) QT1:=by
 subst ha;refine⟨_,?_,q⟩;unfold u5;have:ixN is.length (n:Int)=some n:=by unfold ixN;rw[if_pos (by omega),if_pos (by omega)];simp
 simp only[this]
theorem bc(h:is.length<sizeLine)(q:QI1 (.li (is++[i])) .non):W2 (apT (.li is) [.im i]) QI1:=by with_unfolding_all exact⟨_,_,if_pos h,q⟩
theorem sU(h:is.length+js.length<=sizeLine)(q:QI1 (.li (is++js)) .non):W2 (ki (.li is) [.li js]) QI1:=by with_unfolding_all exact⟨_,_,if_pos h,q⟩
theorem sV(h:is.length+js.length<=sizeLine)(q:QI1 (.li (is++js)) .non):W2 (ki (.li is) [.im (.tup js)]) QI1:=by with_unfolding_all exact⟨_,_,if_pos h,q⟩
theorem Cd(q:QI1 (.li is) i):W2 (mS (.li (is++[i])) []) QI1:=⟨_,_,by simp[mS],q⟩
theorem yr(h:0<=a/\a<=is.length/\is.length<sizeLine)(q:QI1 (.li (is.take a.toNat++i::is.drop a.toNat)) .non):W2 (lH (.li is) [.im (.int a),.im i]) QI1:=by with_unfolding_all exact⟨_,_,if_pos h,q⟩
theorem Cg{kd:Kd}{lo hi:Option Int}(q:QR ⟨.ow,.li (cU is lo hi)⟩):W1 (slR ⟨kd,.li is⟩ lo hi) QR:=⟨_,by simp only[slR,slX,slI,slX],q⟩
theorem mQ{kd:Kd}{lo hi:Option Int}(h:¬(HT.sIx is.length 0 lo=0/\HT.sIx is.length is.length hi=is.length))(q:QR ⟨.ow,.im (.tup (cU is lo hi))⟩):W1 (slR ⟨kd,.im (.tup is)⟩ lo hi) QR:=⟨_,by simp only[slR,slX,slI,slX];rw[if_neg h],q⟩
theorem yw{kd:Kd}{lo hi:Option Int}(h:s.length<=sizeLine)(q:QR ⟨.ow,.im (.str (oL (cU (sL s) lo hi)))⟩):W1 (slR ⟨kd,.im (.str s)⟩ lo hi) QR:=⟨_,by simp only[slR,slX,slI,slX];rw[if_pos h],q⟩
theorem z9{t:T}{Q2:T->Rho->Prop}(q:Q2 t O):W2 (rh ⟨.ow,t⟩ O) Q2:=by with_unfolding_all exact⟨_,_,rfl,q⟩
theorem Aa{t t':T}{n:Nat}{Q2:T->Rho->Prop}(h : O[n]?=some (some ⟨.ow,t'⟩))(q:Q2 t ((ao [n] O).set n none)):W2 (rh ⟨.vw (some n) (some []),t⟩ O) Q2:=⟨_,_,by simp only[rh,h],q⟩
theorem nM{mv:List Nat}{Q2:List T->Rho->Prop}(q:Q2 [] O):W2 (consL mv [] O) Q2:=⟨_,_,rfl,q⟩
theorem o4{mv:List Nat}{t:T}{rs:List R}{Q2:List T->Rho->Prop}(h:W2 (consL mv rs O) λts O'=>Q2 (t::ts) O'):W2 (consL mv (⟨.ow,t⟩::rs) O) Q2:=by
 obtain⟨ts,O',e,q⟩:=h;exact⟨t::ts,O',by simp only[consL,e],q⟩
theorem mK{is:List I}:bH (is.map T.im)=.li is:=by
 have:ims (is.map T.im)=some is:=by induction is with
  | nil=>rfl
  | cons i is ih=>simp only[Ek,ims,ih,FV]
 unfold bH;rw[this]
end
theorem dsp{p:Prop}[Decidable p]{A B:Prop}(h1:p->A)(h2:¬p->B):(decide p=true->A)/\(decide p=false->B):=⟨λh=>h1 (of_decide_eq_true h),λh=>h2 (of_decide_eq_false h)⟩
theorem DV{p:Prop}[Decidable p]{A B:Prop}(h1:¬p->A)(h2:p->B):((!decide p)=true->A)/\((!decide p)=false->B):=⟨λh=>h1 (by simpa using h),λh=>h2 (by simpa using h)⟩
theorem bsp{b:Bool}{A B:Prop}(h1:b=true->A)(h2:b=false->B):(b=true->A)/\(b=false->B):=⟨h1,h2⟩
theorem spT{A B:Prop}(h:A):(true=true->A)/\(true=false->B):=⟨λ_=>h,λz=>absurd z (by decide)⟩
theorem spF{A B:Prop}(h:B):(false=true->A)/\(false=false->B):=⟨λz=>absurd z (by decide),λ_=>h⟩
section
variable {O:Rho}{m:ME}{ms:MA}{g:MG}{ct:MT}{QE':R->Rho->Prop}
theorem pV{i:Nat}{fr:List (Option Nat)} (h:WA ms O λrs O1=>∃n:Int,rs.map (·.t)=[.im (.int n)]/\(-(2^62)<=n/\n<16000000)/\Gu (cA fr O1.length&&cB ([i]++([]++m.mu)) fr.length) (∃Inv:Nat->List T->Rho->Prop,Inv 0 [] O1 ∧
  (∀(j:Nat) acc O,(j:Int)<n->Inv j acc O->WG (ag i) (j4 j) (inR fr O) λO1=>WE m O1 λr O3=>∃t,r=⟨.ow,t⟩/\Inv (j+1) (acc++[t]) (bU fr ([i]++([]++m.mu)) O3 O)) ∧
  ∀acc O,Inv n.toNat acc O->QE' ⟨.ow,bH acc⟩ O)):WE (aT fr (bd ms) (ag i) mYes m) O QE':=by with_unfolding_all
 obtain⟨rs,O1,e1,n,e2,h1,al,Inv,h0,hs,he⟩:=h;refine oU (yd ⟨rs,O1,e1,n,e2,⟨h1.1,by omega⟩,?_,?_,Inv,h0,λj r acc O hr hI=>?_,λacc O hI=>he acc O (by simpa[hJ]using hI)⟩)
 ·rw[Ei]at al⊢;rw[Ei];exact⟨⟨al.1,al.2⟩,rfl⟩
 ·rw[Ji];simp[hJ];omega
 ·obtain⟨x,hx,rfl⟩:=az hr;obtain⟨a1,a2⟩:=Eg.mp hx;simp at a1 a2;subst a2;have:=hs j acc O (by omega) hI;rw[Ij];refine WG.mono this λO1 q=>jl ⟨λ_=>q,λz=>by cases z⟩
theorem vk{i:Nat}{fr:List (Option Nat)} (h:WA ms O λrs O1=>∃a n:Int,rs.map (·.t)=[.im (.int a),.im (.int n)]/\(-(2^62)<=a/\a<2^62/\-(2^62)<=n/\n<2^62/\n-a<16000000)/\Gu (cA fr O1.length&&cB ([i]++([]++m.mu)) fr.length) (∃Inv:Nat->List T->Rho->Prop,Inv 0 [] O1 ∧
  (∀(j:Nat) acc O,a+(j:Int)<n->Inv j acc O->WG (ag i) (j4 (a+j)) (inR fr O) λO1=>WE m O1 λr O3=>∃t,r=⟨.ow,t⟩/\Inv (j+1) (acc++[t]) (bU fr ([i]++([]++m.mu)) O3 O)) ∧
  ∀acc O,Inv (n-a).toNat acc O->QE' ⟨.ow,bH acc⟩ O)):WE (aT fr (fL ms) (ag i) mYes m) O QE':=by with_unfolding_all
 obtain⟨rs,O1,e1,a,n,e2,h1,al,Inv,h0,hs,he⟩:=h;refine oU (ye ⟨rs,O1,e1,a,n,e2,⟨h1.1,h1.2.1,h1.2.2.1,h1.2.2.2.1⟩,?_,?_,Inv,h0,λj r acc O hr hI=>?_,λacc O hI=>he acc O (by simpa[hJ]using hI)⟩)
 ·rw[Ei]at al⊢;rw[Ei];exact⟨⟨al.1,al.2⟩,rfl⟩
 ·rw[Ji];simp[hJ];omega
 ·obtain⟨x,hx,rfl⟩:=az hr;obtain⟨a1,a2⟩:=Eg.mp hx;simp at a1 a2;subst a2;have:=hs j acc O (by omega) hI;refine WG.mono this λO1 q=>jl ⟨λ_=>q,λz=>by cases z⟩
theorem pU{fr:List (Option Nat)}{ma:ME} (h:WE ma O λr O1=>∃is:List I,eg r=some (is.map λi=>⟨.ow,.im i⟩)/\is.length<sizeLine/\Gu (cA fr O1.length&&cB (g.mu++(ct.mu++m.mu)) fr.length&&aE (muF fr (g.mu++(ct.mu++m.mu))) r) (∃Inv:Nat->List T->Rho->Prop,Inv 0 [] O1 ∧
  (∀(j:Nat) x acc O,is[j]?=some x->Inv j acc O->WG g ⟨.ow,.im x⟩ (inR fr O) λO1=>WT ct O1 λbb O2=>(bb=true->WE m O2 λr O3=>∃t,r=⟨.ow,t⟩/\Inv (j+1) (acc++[t]) (bU fr (g.mu++(ct.mu++m.mu)) O3 O))/\(bb=false->Inv (j+1) acc (bU fr (g.mu++(ct.mu++m.mu)) O2 O))) ∧
  ∀acc O,Inv is.length acc O->QE' ⟨.ow,bH acc⟩ O)):WE (aT fr (mIt ma) g ct m) O QE':=by
 obtain⟨r,O1,e1,is,e2,hl,al,Inv,h0,hs,he⟩:=h;refine oU (l6 ⟨r,O1,e1,_,e2,(by rw[Fs,Gk,Gv];exact al),by simpa using hl,Inv,h0,λj r acc O hr hI=>?_,λacc O hI=>he acc O (by simpa using hI)⟩);obtain⟨x,hx,rfl⟩:=az hr;exact hs j x acc O hx hI
end
theorem gF{α:Type}{f : α->I}{l:List α}:bH (l.map λx=>T.im (f x))=.li (l.map f):=by
 have:=mK (is:=l.map f);rwa [FM]at this
section
variable {S α:Type}{O:Rho}{m:ME}{ms:MA}{g:MG}{ct:MT}{s1:MS}{QE':R->Rho->Prop}{Q:Fl->Rho->Prop}{fr:List (Option Nat)}{i:Nat}
theorem eV(st:S->Rho)(emb : α->I)(P:Nat->S->List α->Prop) (h:WA ms O λrs O1=>I9 rs λn=>(-(2^62)<=n/\n<16000000)/\(cA fr O1.length&&cB ([i]++([]++m.mu)) fr.length)=true/\∃s0,O1=st s0/\P 0 s0 [] ∧
  (∀(j:Nat) s l,(j:Int)<n->P j s l->WG (ag i) (j4 j) (inR fr (st s)) λO1=>WE m O1 λr O3=>∃x s',r=⟨.ow,.im (emb x)⟩/\bU fr ([i]++([]++m.mu)) O3 (st s)=st s'/\P (j+1) s' (l++[x])) ∧
  ∀s l,P n.toNat s l->QE' ⟨.ow,.li (l.map emb)⟩ (st s)):WE (aT fr (bd ms) (ag i) mYes m) O QE':=by
 obtain⟨rs,O1,e1,n,e2,h1,al,s0,rfl,h0,hs,he⟩:=h;refine pV ⟨rs,_,e1,n,e2,h1,al,λj acc O=>∃s l,acc=l.map (λx=>T.im (emb x))/\O=st s/\P j s l,⟨s0,[],rfl,rfl,h0⟩,?_,?_⟩
 ·rintro j acc O hj ⟨s,l,rfl,rfl,hP⟩;refine(hs j s l hj hP).mono λO1 q=>q.mono λr O3 ⟨x,s',e,e',hP'⟩=>⟨_,e,s',l++[x],by simp,e',hP'⟩
 ·rintro acc O ⟨s,l,rfl,rfl,hP⟩;rw[gF];exact he s l hP
theorem rE(st:S->Rho)(emb : α->I)(P:Nat->S->List α->Prop) (h:WA ms O λrs O1=>Jc rs λa n=>(-(2^62)<=a/\a<2^62/\-(2^62)<=n/\n<2^62/\n-a<16000000)/\(cA fr O1.length&&cB ([i]++([]++m.mu)) fr.length)=true/\∃s0,O1=st s0/\P 0 s0 [] ∧
  (∀(j:Nat) s l,a+(j:Int)<n->P j s l->WG (ag i) (j4 (a+j)) (inR fr (st s)) λO1=>WE m O1 λr O3=>∃x s',r=⟨.ow,.im (emb x)⟩/\bU fr ([i]++([]++m.mu)) O3 (st s)=st s'/\P (j+1) s' (l++[x])) ∧
  ∀s l,P (n-a).toNat s l->QE' ⟨.ow,.li (l.map emb)⟩ (st s)):WE (aT fr (fL ms) (ag i) mYes m) O QE':=by
 obtain⟨rs,O1,e1,a,n,e2,h1,al,s0,rfl,h0,hs,he⟩:=h;refine vk ⟨rs,_,e1,a,n,e2,h1,al,λj acc O=>∃s l,acc=l.map (λx=>T.im (emb x))/\O=st s/\P j s l,⟨s0,[],rfl,rfl,h0⟩,?_,?_⟩
 ·rintro j acc O hj ⟨s,l,rfl,rfl,hP⟩;refine(hs j s l hj hP).mono λO1 q=>q.mono λr O3 ⟨x,s',e,e',hP'⟩=>⟨_,e,s',l++[x],by simp,e',hP'⟩
 ·rintro acc O ⟨s,l,rfl,rfl,hP⟩;rw[gF];exact he s l hP
theorem cT(st:S->Rho)(emb : α->I)(P:Nat->S->List α->Prop){ma:ME} (h:WE ma O λr O1=>∃is:List I,eg r=some (is.map λi=>⟨.ow,.im i⟩)/\is.length<sizeLine/\(cA fr O1.length&&cB (g.mu++([]++m.mu)) fr.length&&aE (muF fr (g.mu++([]++m.mu))) r)=true/\∃s0,O1=st s0/\P 0 s0 [] ∧
  (∀(j:Nat) x s l,is[j]?=some x->P j s l->WG g ⟨.ow,.im x⟩ (inR fr (st s)) λO1=>WE m O1 λr O3=>∃x s',r=⟨.ow,.im (emb x)⟩/\bU fr (g.mu++([]++m.mu)) O3 (st s)=st s'/\P (j+1) s' (l++[x])) ∧
  ∀s l,P is.length s l->QE' ⟨.ow,.li (l.map emb)⟩ (st s)):WE (aT fr (mIt ma) g mYes m) O QE':=by with_unfolding_all
 obtain⟨r,O1,e1,is,e2,hl,al,s0,rfl,h0,hs,he⟩:=h;refine pU ⟨r,_,e1,is,e2,hl,al,λj acc O=>∃s l,acc=l.map (λx=>T.im (emb x))/\O=st s/\P j s l,⟨s0,[],rfl,rfl,h0⟩,?_,?_⟩
 ·rintro j x acc O hj ⟨s,l,rfl,rfl,hP⟩;refine(hs j x s l hj hP).mono λO1 q=>jl ⟨λ_=>q.mono λr O3 ⟨x,s',e,e',hP'⟩=>⟨_,e,s',l++[x],by simp,e',hP'⟩,λz=>by cases z⟩
 ·rintro acc O ⟨s,l,rfl,rfl,hP⟩;rw[gF];exact he s l hP
theorem dO(st:S->Rho)(emb : α->I)(P:Nat->S->List α->Prop){ma:ME} (h:WE ma O λr O1=>∃is:List I,eg r=some (is.map λi=>⟨.ow,.im i⟩)/\is.length<sizeLine/\(cA fr O1.length&&cB (g.mu++(ct.mu++m.mu)) fr.length&&aE (muF fr (g.mu++(ct.mu++m.mu))) r)=true/\∃s0,O1=st s0/\P 0 s0 [] ∧
  (∀(j:Nat) x s l,is[j]?=some x->P j s l->WG g ⟨.ow,.im x⟩ (inR fr (st s)) λO1=>WT ct O1 λbb O2=>(bb=true->WE m O2 λr O3=>∃x s',r=⟨.ow,.im (emb x)⟩/\bU fr (g.mu++(ct.mu++m.mu)) O3 (st s)=st s'/\P (j+1) s' (l++[x]))/\(bb=false->∃s',bU fr (g.mu++(ct.mu++m.mu)) O2 (st s)=st s'/\P (j+1) s' l)) ∧
  ∀s l,P is.length s l->QE' ⟨.ow,.li (l.map emb)⟩ (st s)):WE (aT fr (mIt ma) g ct m) O QE':=by
 obtain⟨r,O1,e1,is,e2,hl,al,s0,rfl,h0,hs,he⟩:=h;refine pU ⟨r,_,e1,is,e2,hl,al,λj acc O=>∃s l,acc=l.map (λx=>T.im (emb x))/\O=st s/\P j s l,⟨s0,[],rfl,rfl,h0⟩,?_,?_⟩
 ·rintro j x acc O hj ⟨s,l,rfl,rfl,hP⟩;refine(hs j x s l hj hP).mono λO1 q=>q.mono λbb O2 ⟨q1,q2⟩=>⟨λhb=>(q1 hb).mono λr O3 ⟨x,s',e,e',hP'⟩=>⟨_,e,s',l++[x],by simp,e',hP'⟩,λhb=>?_⟩;obtain⟨s',e',hP'⟩:=q2 hb;exact⟨s',l,rfl,e',hP'⟩
 ·rintro acc O ⟨s,l,rfl,rfl,hP⟩;rw[gF];exact he s l hP
@[irreducible] def fFs(st:S->Rho)(P:S->Prop)(Q:Fl->Rho->Prop):Fl->Rho->Prop
 | .nx,O=>∃s,O=st s/\P s
 | .ct,O=>∃s,O=st s/\P s
 | .bk,O=>Q .nx O
 | .rt t,O=>Q (.rt t) O
theorem lC{st:S->Rho}{P:Nat->S->Prop}{j:Nat}{f:Fl}{O:Rho}(h:fFs st (P (j+1)) Q f O):qf (λj O=>∃s,O=st s/\P j s) j Q f O:=by with_unfolding_all cases f<;>exact h
theorem cN(st:S->Rho)(P:Nat->S->Prop) (h:WA ms O λrs O1=>I9 rs λn=>(-(2^62)<=n/\n<2^62)/\∃s0,O1=st s0/\P 0 s0 ∧
  (∀(j:Nat) s,(j:Int)<n->P j s->WG (ag i) (j4 j) (st s) λO1=>WS s1 O1 (fFs st (P (j+1)) Q))/\∀s,P n.toNat s->Q .nx (st s)):WS (bQ (bd ms) (ag i) s1) O Q:=by
 obtain⟨rs,O1,e1,n,e2,h1,s0,rfl,h0,hs,he⟩:=h;refine Br ⟨rs,_,e1,n,e2,h1.1,h1.2,λj O=>∃s,O=st s/\P j s,⟨s0,rfl,h0⟩,?_,?_⟩
 ·rintro j O hj ⟨s,rfl,hP⟩;exact(hs j s hj hP).mono λO1 q=>q.mono λf O2 q=>lC q
 ·rintro O ⟨s,rfl,hP⟩;exact he s hP
theorem vn(st:S->Rho)(P:Nat->S->Prop) (h:WA ms O λrs O1=>Jc rs λa n=>(-(2^62)<=a/\a<2^62/\-(2^62)<=n/\n<2^62)/\∃s0,O1=st s0/\P 0 s0 ∧
  (∀(j:Nat) s,a+(j:Int)<n->P j s->WG (ag i) (j4 (a+j)) (st s) λO1=>WS s1 O1 (fFs st (P (j+1)) Q))/\∀s,P (n-a).toNat s->Q .nx (st s)):WS (bQ (fL ms) (ag i) s1) O Q:=by
 obtain⟨rs,O1,e1,a,n,e2,h1,s0,rfl,h0,hs,he⟩:=h;refine xY ⟨rs,_,e1,a,n,e2,h1,λj O=>∃s,O=st s/\P j s,⟨s0,rfl,h0⟩,?_,?_⟩
 ·rintro j O hj ⟨s,rfl,hP⟩;exact(hs j s hj hP).mono λO1 q=>q.mono λf O2 q=>lC q
 ·rintro O ⟨s,rfl,hP⟩;exact he s hP
theorem bT(st:S->Rho)(P:Nat->S->Prop) (h:WE m O λr O1=>∃is:List I,eg r=some (is.map λi=>⟨.ow,.im i⟩)/\aE (g.mu++s1.mu) r=true/\∃s0,O1=st s0/\P 0 s0 ∧
  (∀(j:Nat) x s,is[j]?=some x->P j s->WG g ⟨.ow,.im x⟩ (st s) λO1=>WS s1 O1 (fFs st (P (j+1)) Q))/\∀s,P is.length s->Q .nx (st s)):WS (bQ (mIt m) g s1) O Q:=by
 obtain⟨r,O1,e1,is,e2,al,s0,rfl,h0,hs,he⟩:=h;refine Bq ⟨r,_,e1,is,e2,al,λj O=>∃s,O=st s/\P j s,⟨s0,rfl,h0⟩,?_,?_⟩
 ·rintro j x O hj ⟨s,rfl,hP⟩;exact(hs j x s hj hP).mono λO1 q=>q.mono λf O2 q=>lC q
 ·rintro O ⟨s,rfl,hP⟩;exact he s hP
theorem gr(st:S->Rho)(P:S->Prop)(μ : S->Nat)(s0:S)(e0 : O=st s0)(h0:P s0)(hs:∀s,P s->WT ct (st s) λbb O1=>(bb=true->WS s1 O1 (fFs st (λs'=>μ s' < μ s/\P s') Q))/\(bb=false->Q .nx O1)):WS (cV ct s1) O Q:=by with_unfolding_all
 subst e0;refine xZ (λn O=>∃s,O=st s/\P s/\μ s=n) (μ s0) ⟨s0,rfl,h0,rfl⟩ ?_;rintro n O ⟨s,rfl,hP,rfl⟩;refine(hs s hP).mono λbb O1 ⟨q1,q2⟩=>⟨q2,λhb=>(q1 hb).mono λf O2 q=>?_⟩;cases f with
 | nx=>have q:∃s',O2=st s'/\μ s' < μ s/\P s':=q;obtain⟨s',e,hl,hP'⟩:=q;exact⟨μ s',hl,s',e,hP',rfl⟩
 | ct=>have q:∃s',O2=st s'/\μ s' < μ s/\P s':=q;obtain⟨s',e,hl,hP'⟩:=q;exact⟨μ s',hl,s',e,hP',rfl⟩
 | bk=>exact q
 | rt t=>exact q
end
section
variable {S α:Type}{O:Rho}{m:ME}{ms:MA}{QE':R->Rho->Prop}{fr:List (Option Nat)}{i:Nat}
theorem sN{emb : α->T}(hne:∀x i,emb x ≠ .im i):∀{l:List α},l≠[]->bH (l.map emb)=.lst (l.map emb)
 | [],h=>absurd rfl h
 | x::l,_=>by
  unfold bH;have:ims ((x::l).map emb)=none:=by
   rw[Ek];cases h:emb x with
   | im i=>exact absurd h (hne x i)
   | _=>rfl
  rw[this]
theorem ka(st:S->Rho)(emb : α->T)(hne:∀x i,emb x ≠ .im i)(P:Nat->S->List α->Prop) (h:WA ms O λrs O1=>I9 rs λn=>(1<=n/\n<16000000)/\(cA fr O1.length&&cB ([i]++([]++m.mu)) fr.length)=true/\∃s0,O1=st s0/\P 0 s0 [] ∧
  (∀(j:Nat) s l,(j:Int)<n->P j s l->WG (ag i) (j4 j) (inR fr (st s)) λO1=>WE m O1 λr O3=>∃x s',r=⟨.ow,emb x⟩/\bU fr ([i]++([]++m.mu)) O3 (st s)=st s'/\P (j+1) s' (l++[x])) ∧
  ∀s l,P n.toNat s l->l.length=n.toNat->QE' ⟨.ow,.lst (l.map emb)⟩ (st s)):WE (aT fr (bd ms) (ag i) mYes m) O QE':=by
 obtain⟨rs,O1,e1,n,e2,h1,al,s0,rfl,h0,hs,he⟩:=h;refine pV ⟨rs,_,e1,n,e2,⟨by omega,h1.2⟩,al,λj acc O=>∃s l,acc=l.map emb/\l.length=j/\O=st s/\P j s l,⟨s0,[],rfl,rfl,rfl,h0⟩,?_,?_⟩
 ·rintro j acc O hj ⟨s,l,rfl,hl,rfl,hP⟩;refine(hs j s l hj hP).mono λO1 q=>q.mono λr O3 ⟨x,s',e,e',hP'⟩=>⟨_,e,s',l++[x],by simp,by simp[hl],e',hP'⟩
 ·rintro acc O ⟨s,l,rfl,hl,rfl,hP⟩;rw[sN hne (by intro z;rw[z]at hl;simp at hl;omega)];exact he s l hP hl
theorem uj{ts:List T}{n:Nat}{u s:T}(h:ts[n]?=some u):T.put (.lst ts) [.ix n] s=.lst (ts.set n s):=by simp only[T.put,iK,h,wY]
end
section
variable {O:Rho}{b:MS}{Q:Fl->Rho->Prop}{t s':T}{k:Nat}{ks:List Nat}
theorem BK{R:T->T->Prop}(h : O[k]?=some (some ⟨.io 0,s'⟩))(q:R t s'):fI k R (.rt t) O:=by with_unfolding_all exact⟨s',h,q⟩
theorem BM{R:T->Prop}(q:R t):fP R (.rt t) O:=by with_unfolding_all exact q
theorem pe(h:WS b O Q):zb b Q .nx O:=by with_unfolding_all exact h
theorem vN(h:Q (.rt t) O):zb b Q (.rt t) O:=by with_unfolding_all exact h
theorem vL(h:Q .nx (fgts ks O)):za ks Q .nx O:=by with_unfolding_all exact h
theorem vK(h:Q .bk O):za ks Q .bk O:=by with_unfolding_all exact h
variable {S:Type}{st:S->Rho}{P:S->Prop}
theorem zd(h:∃s,O=st s/\P s):fFs st P Q .nx O:=by with_unfolding_all exact h
end
section
variable {M:List Nat}{O:Rho}{t s:T}{n i:Nat}{p:Option (List Ac)}{k:Nat}{x:I}
theorem zq:ao M []=[]:=rfl
theorem BS:ao M (some ⟨.ow,t⟩::O)=some ⟨.ow,t⟩::ao M O:=rfl
theorem BR:ao M (some ⟨.io n,t⟩::O)=some ⟨.io n,t⟩::ao M O:=rfl
theorem vW:ao M (none::O)=none::ao M O:=rfl
theorem BU:ao M (some ⟨.vw none p,t⟩::O)=some ⟨.vw none p,t⟩::ao M O:=rfl
theorem wZ:T.put t [] s=s:=by cases t<;>rfl
theorem xr{j:Int}:j4 j=⟨.ow,.im (.int j)⟩:=rfl
theorem A1:rdR i ⟨.ow,.im x⟩=⟨.ow,.im x⟩:=rfl
theorem A3{a:Option Nat}:rdR i ⟨.vw a p,t⟩=⟨.vw a p,t⟩:=rfl
theorem A2{l:List I}:rdR i ⟨.ow,.li l⟩=⟨.vw (some i) (some []),.li l⟩:=rfl
theorem xt{l:List T}:rdR i ⟨.ow,.lst l⟩=⟨.vw (some i) (some []),.lst l⟩:=rfl
theorem sf:fgts [] O=O:=rfl
theorem qg{ks:List Nat}:fgts (i::ks) O=fgts ks ((ao [i] O).set i none):=rfl
theorem Iw{run:List T->Option T}{l:Nat}{m:MS}{ts:List T}{QT1:T->Prop}(O:Rho)(hrun:run ts=if ts.length=l then cR m n ts else none)(hl:ts.length=l)(he:cH ts n=O)(h:WS m O (fP QT1)):W1 (run ts) QT1:=pH hrun hl (he▸h)
theorem II{run:List T->Option (T×T)}{l:Nat}{m:MS}{ts:List T}{Q2:T->T->Prop}(O:Rho)(hrun:run ts=if ts.length=l then fu m k n ts else none)(hl:ts.length=l)(he:fh k ts n=O)(h:WS m O (fI k Q2)):W2 (run ts) Q2:=gI hrun hl (he▸h)
end
end L2
namespace L2
open PySem PySem.Spec PyProof.Rows
section
variable {O:Rho}{g g2:MG}{ct:MT}{m:ME}{it it2:MI}{QE':R->Rho->Prop}{fr fr2:List (Option Nat)}
theorem kD{items:List R}{QC:List T->Rho->Prop}(Inv:Nat->List T->Rho->Prop)
  (hs:∀i r acc O,items[i]?=some r->Inv i acc O->WG g (ge (piF fr) r) (inR fr O) λO1=>WI it2 O1 λsrc2 items2 O2=>Gu (cA fr2 O2.length&&(decide (src2.length=1)&&src2.all (aE (muF fr2 (g2.mu++(ct.mu++m.mu)))))) (acc.length+items2.length<sizeLine/\W2 (bh fr2 (g2.mu++(ct.mu++m.mu)) g2 ct m items2 O2 acc) λts O3=>Inv (i+1) ts (bU fr (g.mu++(it2.mu++muF fr2 (g2.mu++(ct.mu++m.mu)))) O3 O)))
  (he:∀acc O,Inv items.length acc O->QC acc O):∀(l:List R) (i:Nat) (acc:List T) (O:Rho),items.drop i=l->i<=items.length->Inv i acc O->W2 (bV fr fr2 g it2 g2 ct m l O acc) QC
 | [],i,acc,O,hl,hi,hI=>by
  have:i=items.length:=by have:=congrArg FK hl;simp at this;omega
  subst this;exact⟨_,_,rfl,he acc O hI⟩
 | r::l,i,acc,O,hl,hi,hI=>by
  have hr:items[i]?=some r:=by rw[←Gz,hl];rfl
  have hlt:=(Eg.mp hr).1;have hl':items.drop (i+1)=l:=by rw[←GI,hl];rfl
  obtain⟨O1,e1,src2,items2,O2,e2,al,hz,ts,O3,e3,q⟩:=hs i r acc O hr hI;simp only[bV,e1,e2];rw[if_pos (by rw[Ei];exact⟨al,decide_eq_true hz⟩)];simp only[e3];exact kD Inv hs he l (i+1) _ _ hl' hlt q
theorem xW(h:WI it O λsrc items O1=>Gu (cA fr O1.length&&cB (g.mu++(it2.mu++muF fr2 (g2.mu++(ct.mu++m.mu)))) fr.length&&cB (g2.mu++(ct.mu++m.mu)) fr2.length&&(decide (src.length=1)&&src.all (aE (muF fr (g.mu++(it2.mu++muF fr2 (g2.mu++(ct.mu++m.mu)))))))) (∃Inv:Nat->List T->Rho->Prop,Inv 0 [] O1 ∧
  (∀i r acc O,items[i]?=some r->Inv i acc O->WG g (ge (piF fr) r) (inR fr O) λO1=>WI it2 O1 λsrc2 items2 O2=>Gu (cA fr2 O2.length&&(decide (src2.length=1)&&src2.all (aE (muF fr2 (g2.mu++(ct.mu++m.mu)))))) (acc.length+items2.length<sizeLine/\W2 (bh fr2 (g2.mu++(ct.mu++m.mu)) g2 ct m items2 O2 acc) λts O3=>Inv (i+1) ts (bU fr (g.mu++(it2.mu++muF fr2 (g2.mu++(ct.mu++m.mu)))) O3 O))) ∧
  ∀acc O,Inv items.length acc O->acc.length<sizeLine/\QE' ⟨.ow,bH acc⟩ O)):WE (i5 fr fr2 it g it2 g2 ct m) O QE':=by
 obtain⟨src,items,O1,e1,al,Inv,h0,hs,he⟩:=h;obtain⟨ts,O2,e,hz,q⟩:=kD (QC:=λacc O=>acc.length<sizeLine/\QE' ⟨.ow,bH acc⟩ O) Inv hs he items 0 [] O1 rfl (Fd _) h0;refine⟨⟨.ow,bH ts⟩,O2,?_,q⟩;simp only[i5,e1];rw[if_pos al];simp only[e];rw[if_pos hz]
theorem qa{items:List I}{M:List Nat}{QC:List T->Rho->Prop}(st:Rho)(hst:∀x,WG g (ge (piF fr2) ⟨.ow,.im x⟩) (inR fr2 st) λO1=>WE m O1 λr O3=>r=⟨.ow,.im x⟩/\bU fr2 M O3 st=st)(acc:List T)(q:QC (acc++items.map T.im) st):W2 (bh fr2 M g mYes m (items.map λi=>⟨.ow,.im i⟩) st acc) QC:=by
 refine il (items:=items.map λi=>⟨.ow,.im i⟩) (λi a O=>O=st/\a=acc++(items.take i).map T.im) (λi r a O hr hI=>?_) (λa O hI=>?_) _ 0 acc st rfl (Fd _) ⟨rfl,by simp⟩
 ·obtain⟨rfl,rfl⟩:=hI;obtain⟨x,hx,rfl⟩:=az hr;refine(hst x).mono λO1 w=>jl ⟨λ_=>w.mono λr O3 ⟨e,e'⟩=>⟨_,e,e',?_⟩,λz=>by cases z⟩;rw[Hm,hx];simp
 ·obtain⟨rfl,rfl⟩:=hI;simp at *;exact q
end
noncomputable def less(K:yF) (a:Addr):yF:=K.filter λp=>!(p.1==a)
theorem iz:∀{K:yF} {a b:Addr},b≠a->(less K a).lookup b=K.lookup b
 | [],_,_,_=>rfl
 | (c,o)::K,a,b,h=>by
  have ih:=iz (K:=K) h;by_cases e:c=a
  ·subst e;have:less ((c,o)::K) c=less K c:=by simp[less]
   rw[this,ih];show _=match b==c with|true=>some o|false=>Gw b K
   rw[beq_eq_false_iff_ne.mpr h]
  ·have:less ((c,o)::K) a=(c,o)::less K a:=by simp[less,e]
   rw[this];show(match b==c with|true=>some o|false=>Gw b (less K a))=match b==c with|true=>some o|false=>Gw b K
   rw[ih]
theorem iX:∀{K:yF} {a:Addr},(less K a).lookup a=none
 | [],_=>rfl
 | (c,o)::K,a=>by
  have ih:=iX (K:=K) (a:=a);by_cases e:c=a
  ·subst e;have:less ((c,o)::K) c=less K c:=by simp[less]
   rw[this,ih]
  ·have:less ((c,o)::K) a=(c,o)::less K a:=by simp[less,e]
   rw[this];show(match a==c with|true=>some o|false=>Gw a (less K a))=none;rw[beq_eq_false_iff_ne.mpr (JI e)];exact ih
theorem wd{K:yF}{a:Addr}{h:Heap}(X:K.In h):(less K a).In h:=λb o e=>by
 by_cases q:b=a;subst q;rw[iX]at e;cases e;rw[iz q]at e;exact X b o e
def Lst(o:Obj):Prop:=∃vs:Array Jd,o={cls:=.type "list",data:=.seq vs}
def IZ(K:yF)(a:Addr):Prop:=∀o,K.lookup a=some o->Lst o
theorem IZ.get{K:yF}{a b:Addr}{o:Obj}(h:IZ K a)(e:K.lookup b=some o)(n:¬ Lst o):(less K a).lookup b=some o:=by
 rw[iz (a:=a) λq:b=a=>n (h o (by rw[←q];exact e))];exact e
def Iu(K:yF)(mg:Str->Option Jd)(name:Str)(st:Stmt)(ps:List Str):Prop:=
 ∃(f:Addr) (fd:Kf),mg name=some (.ref f)/\Fun K name name st f fd/\(∀us:List Jd,us.length=ps.length->Nl fd ⟨us,[]⟩=pure (ps.zip us))
theorem Iu.to{K:yF}{mg:Str->Option Jd}{name:Str}{st:Stmt}{ps:List Str}(d:Iu K mg name st ps):Def K mg name st ps:=by
 obtain⟨f,fd,h1,h2,h3⟩:=d;exact⟨f,fd,h1,h2,.all h3⟩
theorem Iu.less{K:yF}{mg:Str->Option Jd}{name:Str}{st:Stmt}{ps:List Str}{a:Addr}(d:Iu K mg name st ps)(h:IZ K a):Iu (less K a) mg name st ps:=by
 obtain⟨f,fd,h1,F,h3⟩:=d;obtain⟨oc,od,kV,doc,pm,an,cdv,ct,osl,e,lk,hcd⟩:=F.ex;have lk':=h.get lk (by rintro⟨vs,z⟩;cases z);refine⟨f,fd,h1,⟨⟨oc,od,kV,doc,pm,an,cdv,ct,osl,e,lk',?_⟩,?_⟩,h3⟩
 ·unfold F6 at hcd⊢;cases cdv with
  | ref c=>
   dsimp only at hcd⊢;cases q:Gw c K with
   | none=>rw[q]at hcd;cases hcd
   | some o=>
    by_cases w:c=a
    ·subst w;obtain⟨vs,rfl⟩:=h o q;rw[q]at hcd;cases hcd
    ·rw[iz w];exact hcd
  | _=>cases hcd
 ·unfold FH;dsimp only;rw[lk']
theorem Iu.mk'{K:yF}{h:Heap}{mg:Str->Option Jd}{name:Str}{st:Stmt}{ps:List Str}(X:K.In h)(G:h.Ns JH mg){f:Addr}{oc:Jd}{od an:Option Addr}{osl:Array (Option Jd)}{kV doc pm cdv ct:Jd}
  (a:HL K JH name=some (some (.ref f))) (l:K.lookup f=some ⟨oc,od,.func (FA name name (dg st) (bu st) (ai st) .none kV doc pm an cdv ct),osl⟩) (c:F6 K cdv name=true) (k:FH K (.ref f)=true)
  (hb:∀(kV doc pm:Jd) (an:Option Addr) (cdv ct:Jd) (us:List Jd),us.length=ps.length->Nl (FA name name (dg st) (bu st) (ai st) .none kV doc pm an cdv ct) ⟨us,[]⟩=pure (ps.zip us)):Iu K mg name st ps:=
 ⟨f,_,PySem.W.mg_of X G a,zf l c k,hb kV doc pm an cdv ct⟩
theorem walkP{l:PySem.W.OpenLaw}{k:Nat}{q:Jq}{loose:List Str}{XP:(Str->Option Jd)->Heap->Prop}{YP:JB->Heap->Prop}{d:DefRec}{K:NJ->yF}{x:Str}{st:Stmt}{run:List T->Option T}{A:(Str->Option Jd)->yF->Prop}
  (hn:l.most=some 63) (hdf:d.params.defaults=[]) (hr:IF k LY)
  (hY:∀(w:JB) (h:Heap),YP w h->(K w.params).In h)
  (hA:∀(w:JB) (mg:Str->Option Jd) (h:Heap),(K w.params).In h->h.Ns JH mg->A mg (K w.params))
  (hL:∀(mg:Str->Option Jd) (K:yF) (a:Addr),A mg K->IZ K a->A mg (less K a))
  (hd:∀(mg:Str->Option Jd) (K:yF),A mg K->Def K mg d.name st [x])
  (hb:∀(kV doc pm:Jd) (an:Option Addr) (cdv ct:Jd) (s:Jf) (v:Jd),LX s (FA d.name d.name (dg st) (bu st) (ai st) .none kV doc pm an cdv ct) ⟨[v],[]⟩ [(x,v)])
  (F:∀(w:JB) (mg:Str->Option Jd) (K:yF) (base:Heap),A mg K->Has l.prog w K mg base k d.name [x] (spP K run))
  (law:∀ns:List Int,ns.length<=63->run [.li (ns.map .int)]=some (.im (.bl true))) :
  PySem.W.WalkO q loose XP YP l.row.toRowW d [] (λf vs=>PySem.call f vs):=by
 refine Att.attach_call hn hdf λw s₀ s₁ mg mb fa o pm cd doc a vs ns G Y ho hd' hcd hmg hobj hints hlen hg=>?_;have KX:=hY w _ Y;have a0:=hA w mg _ KX G.T.g;have la:IZ (K w.params) a:=λo e=>by
  have e2:=KX a o e;rw[hobj]at e2;cases e2;exact⟨_,rfl⟩
 have a1:=hL mg _ a a0 la;obtain⟨fd,hb',hF⟩:=sE hmg (hd mg _ a1) hb λbase _ _=>F w mg (less (K w.params) a) base a1;refine sD (wd KX) G.T.g G.T.b G.T.builtins G.T.nolimit hg hobj hints (ER hlen (by decide)) hr hF hb' (λH hO hS=>?_) (λ_ _ _ z=>z);rcases hS with hS|⟨o,its,n,e,_⟩
 ·refine⟨[.li (ns.map .int)],_,?_,law ns hlen,?_⟩
  ·refine⟨_,_,rfl,⟨[a],?_⟩,rfl⟩;exact⟨a,_,rfl,hS,Ir.ints ns,rfl⟩
  ·intro v H' z;obtain⟨_,F,z,_⟩:=z;rw[Rp]at z;exact z.1
 ·rw[iX]at e;cases e
noncomputable def vs(x:String) (t:Tok):Jd:=.str (JF x) t
noncomputable def vi(n:Int):Jd:=.int n 0
noncomputable def vr(a:Addr):Jd:=.ref a
noncomputable def eO(p:NJ) (x:String) (t:Tok) (v:Jd):ND:=⟨PyData.keyHash p (JF x),.str (JF x) t,v⟩
noncomputable def oC(vs:List Jd):Obj:={cls:=.type "code",data:=.fields vs.toArray}
noncomputable def oD(es:List ND) (n:Nat):Obj:={cls:=.type "dict",data:=.dict es.toArray n}
noncomputable def oF(x:String) (st:Stmt) (pm:Jd) (c:Addr):Obj:={cls:=.type "function",data:=.func (FA (JF x) (JF x) (dg st) (bu st) (ai st) .none .none .none pm none (.ref c) .none)}
noncomputable def oc(x:String) (t l n r:Nat) (v:Option (Nat×Nat)) (d e:Nat):Obj:=oC [vs x t,vs x (t+1),vs "/claim/cut.py" (t+2),vi l,vi n,vi 0,vi 0,vi 3,vr r,.bool true,vi 181,vr (r+1),.none,(match v with|some p=>vr p.1|none=>.none),(match v with|some p=>vr p.2|none=>.none),vr d,vi e,vi l,vs "/claim/cut.py" (e+1)]
theorem Iu.mkO{K:yF}{h:Heap}{mg:Str->Option Jd}{x:String}{st:Stmt}{ps:List Str}(X:K.In h)(G:h.Ns JH mg)(f:Addr)(pm:Jd)(c:Addr)
  (hb:∀(kV doc pm:Jd) (an:Option Addr) (cdv ct:Jd) (us:List Jd),us.length=ps.length->Nl (FA (JF x) (JF x) (dg st) (bu st) (ai st) .none kV doc pm an cdv ct) ⟨us,[]⟩=pure (ps.zip us))
  (a:HL K JH (JF x)=some (some (.ref f)):=by rfl') (l:K.lookup f=some (oF x st pm c):=by rfl') (cd:F6 K (.ref c) (JF x)=true:=by rfl'):Iu K mg (JF x) st ps:=
 Iu.mk' X G a l cd (by unfold FH;dsimp only;rw[l];rfl) hb
theorem bN{K:yF}{h:Heap}{mg:Str->Option Jd}(X:K.In h)(G:h.Ns JH mg){n:Str}(e:HL K JH n=some none:=by rfl'):mg n=none:=PySem.W.mg_none_of X G e
section
variable {α A B C D E F:Type}{f g:A->B->C->D->E->F->List Jd->α}
theorem IU{α:Type}{n:Nat}{l:List α}(h:l.length=n+1):∃a r,l=a::r/\r.length=n:=by
 cases l with
 | nil=>cases h
 | cons a r=>exact⟨a,r,rfl,Nat.succ.inj h⟩
theorem by1(h:∀x1 x2 x3 x4 x5 x6 a0,f x1 x2 x3 x4 x5 x6 [a0]=g x1 x2 x3 x4 x5 x6 [a0]):∀x1 x2 x3 x4 x5 x6 (us:List Jd),us.length=1->f x1 x2 x3 x4 x5 x6 us=g x1 x2 x3 x4 x5 x6 us:=λx1 x2 x3 x4 x5 x6 us e=>by
 obtain⟨a0,u0,rfl,e0⟩:=IU e;obtain rfl:=Fo.mp e0;exact h x1 x2 x3 x4 x5 x6 a0
theorem by2(h:∀x1 x2 x3 x4 x5 x6 a0 a1,f x1 x2 x3 x4 x5 x6 [a0,a1]=g x1 x2 x3 x4 x5 x6 [a0,a1]):∀x1 x2 x3 x4 x5 x6 (us:List Jd),us.length=2->f x1 x2 x3 x4 x5 x6 us=g x1 x2 x3 x4 x5 x6 us:=λx1 x2 x3 x4 x5 x6 us e=>by
 obtain⟨a0,u0,rfl,e0⟩:=IU e;obtain⟨a1,u1,rfl,e1⟩:=IU e0;obtain rfl:=Fo.mp e1;exact h x1 x2 x3 x4 x5 x6 a0 a1
theorem by3(h:∀x1 x2 x3 x4 x5 x6 a0 a1 a2,f x1 x2 x3 x4 x5 x6 [a0,a1,a2]=g x1 x2 x3 x4 x5 x6 [a0,a1,a2]):∀x1 x2 x3 x4 x5 x6 (us:List Jd),us.length=3->f x1 x2 x3 x4 x5 x6 us=g x1 x2 x3 x4 x5 x6 us:=λx1 x2 x3 x4 x5 x6 us e=>by
 obtain⟨a0,u0,rfl,e0⟩:=IU e;obtain⟨a1,u1,rfl,e1⟩:=IU e0;obtain⟨a2,u2,rfl,e2⟩:=IU e1;obtain rfl:=Fo.mp e2;exact h x1 x2 x3 x4 x5 x6 a0 a1 a2
end
end L2
namespace L2
open PySem
noncomputable section
noncomputable def bX:MS:=(ak (mIf (aI (mOp eqT (mIx (af 0) (mC (.int 0))) (mC (.str "op")))) (bf (mSl (af 0) (fK (mC (.int 2))) mNoPart)) mNext)
  (ak (mIf (aI (mOp eqT (mIx (af 0) (mC (.int 0))) (mC (.str "if")))) (bf (mSl (af 0) (fK (mC (.int 1))) mNoPart)) mNext)
  (bf (aC [] mNil))))
noncomputable def cW(ts:List T):Option T:=if ts.length=1 then cR bX 1 ts else none
noncomputable def dt:MS:=(ak (ax (aO [] mNil) (ag 1))
  (ak (ax (aO [0] (aa 0 mNil)) (ag 2))
  (ak (cV (n4 (af 2))
  (bE [3] (ak (ax (kU 2 mS (af 2)) (ag 3))
  (ak (aZ (bK 1 [3] apT (af 1) (aa 3 mNil)))
  (aZ (bK 2 [] ki (af 2) (ac (mUn uT (mB cW (aa 3 mNil))) mNil)))))))
  (bf (af 1)))))
noncomputable def fo(ts:List T):Option T:=if ts.length=1 then cR dt 4 ts else none
noncomputable def gE:MS:=(bf (mB gK (ac (aT [none,none] (mIt (mB fo (aa 0 mNil))) (ag 1) (aI (mOp eqT (mIx (af 1) (mC (.int 0))) (mC (.str "at")))) (aC [] (ac (mIx (af 1) (mC (.int 1))) (ac (mIx (af 1) (mC (.int 2))) mNil)))) mNil)))
noncomputable def jg(ts:List T):Option T:=if ts.length=1 then cR gE 1 ts else none
noncomputable def cj:MS:=(ak (ax (aO [] mNil) (ag 2))
  (ak (bQ (mIt (mB jg (aa 1 mNil))) (cP (aS (ag 3) (aS (ag 4) mGNil)))
  (bE [3,4,5] (ak (ax (aC [0,3,4] (aa 0 (aa 3 (aa 4 mNil)))) (ag 5))
  (mIf (aI (mOp jx (af 5) (af 2))) (aZ (bK 2 [5] apT (af 2) (aa 5 mNil))) mNext))))
  (bf (af 2))))
noncomputable def dL(ts:List T):Option T:=if ts.length=2 then cR cj 6 ts else none
noncomputable def du:MS:=(bf (mB gK (ac (i5 [none,none,none,none] [some 0,some 1,some 2,none] (mIt (mIx (af 0) (mC (.int 2)))) (cP (aS (ag 1) (aS (ag 2) mGNil))) (mIt (mB dL (aa 1 (aa 2 mNil)))) (ag 3) mYes (af 3)) mNil)))
noncomputable def fq(ts:List T):Option T:=if ts.length=1 then cR du 1 ts else none
noncomputable def iB:MS:=(ak (ax (mOp bg (mOp dU (mC (.int 7901)) (af 1)) (mC (.int 24697))) (ag 2))
  (ak (mIf (aI (mOp (fS λi j=>decide (i<j)) (af 1) (mB dh (aa 0 mNil)))) (ax (mIx (af 0) (af 1)) (ag 2)) (mIf (aI (mOp (fS λi j=>decide (j<i)) (mB dh (aa 0 mNil)) (mC (.int 0)))) (ax (mOp bg (mOp dU (mOp fZ (mIx (af 0) (mOp fZ (af 1) (mB dh (aa 0 mNil)))) (mC (.int 2147483629))) (mC (.int 31))) (mOp dU (mC (.int 7901)) (af 1))) (ag 2)) mNext))
  (ak (ax (mC (.int 0)) (ag 3))
  (ak (mIf (aI (mOp (fS λi j=>decide (j<=i)) (af 2) (mOp qI (mC (.int 10)) (mC (.int 18))))) (ax (af 2) (ag 3)) mNext)
  (bf (aO [3] (aa 3 (ac (mOp bg (mOp fZ (mOp qI (mOp bg (mOp dU (mOp fZ (af 2) (mC (.int 2147483629))) (mC (.int 48271))) (mOp dU (mC (.int 40692)) (af 1))) (mC (.int 5))) (mC (.int 2147483629))) (mC (.int 1))) mNil))))))))
noncomputable def gc(ts:List T):Option T:=if ts.length=2 then cR iB 4 ts else none
noncomputable def iC:MS:=(ak (mIf (aI (mOp (fS λi j=>decide (j<i)) (mIx (af 0) (mC (.int 0))) (mC (.int 0)))) (ak (ax (mOp fZ (mIx (af 0) (mC (.int 0))) (af 1)) (ag 2))
  (ak (ax (mOp jo (mIx (af 0) (mC (.int 0))) (af 1)) (nZ 0 (af 0) (mC (.int 0))))
  (bf (af 2)))) mNext)
  (ak (ax (mOp fZ (mOp dU (mIx (af 0) (mC (.int 1))) (mC (.int 48271))) (mC (.int 2147483647))) (ag 3))
  (ak (ax (mOp bg (mOp fZ (mOp bg (mOp dU (af 3) (mC (.int 40692))) (mC (.int 30103))) (mC (.int 2147483399))) (mC (.int 1))) (nZ 0 (af 0) (mC (.int 1))))
  (bf (mOp fZ (mOp jo (mOp bg (mOp dU (af 3) (mC (.int 2147483647))) (mIx (af 0) (mC (.int 1)))) (mC (.int 8191))) (af 1))))))
noncomputable def aj(ts:List T):Option (T×T):=if ts.length=2 then fu iC 0 4 ts else none
noncomputable def gB:MS:=(ak (ax (mC (.str "abcdefghijklmnopqrstuvwxyz")) (ag 2))
  (ak (ax (mM jU (mC (.str "")) (ac (aT [some 0,none,some 2,none,none,none,none,none,none] (bd (ac (am 0 0 aj (aa 0 (ac (mC (.int 6)) mNil))) mNil)) (ag 7) mYes (mIx (af 2) (am 0 0 aj (aa 0 (ac (mC (.int 26)) mNil))))) mNil)) (ag 3))
  (ak (kW 4 5 (ac (am 0 0 aj (aa 0 (ac (mC (.int 26)) mNil))) (ac (am 0 0 aj (aa 0 (ac (mOp bg (mB dh (aa 3 mNil)) (mC (.int 1))) mNil))) mNil)))
  (ak (ax (aO [] mNil) (ag 6))
  (ak (bQ (bd (aa 1 mNil)) (ag 7)
  (bE [7,8] (ak (ax (mOp bg (mOp bg (mSl (af 3) mNoPart (fK (af 5))) (mIx (af 2) (mOp fZ (mOp bg (af 4) (mOp dU (mC (.int 5)) (af 7))) (mC (.int 26))))) (mSl (af 3) (fK (af 5)) mNoPart)) (ag 8))
  (ak (mIf (aI (mOp eqT (mOp fZ (af 7) (mC (.int 2))) (mC (.int 1)))) (ax (mOp bg (af 8) (mC (.str "q"))) (ag 8)) mNext)
  (ak (mIf (aI (mOp inT (af 8) (aC [] (ac (mC (.str "min")) (ac (mC (.str "max")) (ac (mC (.str "rest")) (ac (mC (.str "less")) (ac (mC (.str "if")) mNil)))))))) (ax (mOp bg (af 8) (mC (.str "w"))) (ag 8)) mNext)
  (aZ (bK 6 [8] apT (af 6) (aa 8 mNil))))))))
  (bf (af 6)))))))
noncomputable def je(ts:List T):Option (T×T):=if ts.length=2 then fu gB 0 9 ts else none
noncomputable def jA:MS:=(ak (mIf (aI (mOp eqT (am 0 0 aj (aa 0 (ac (mC (.int 4)) mNil))) (mC (.int 0)))) (bf (mOp dU (aC [] (ac (mC (.int 0)) mNil)) (af 1))) mNext)
  (bf (mB gK (ac (aT [some 0,none,none] (bd (aa 1 mNil)) (ag 2) mYes (mIx (aO [] (ac (mC (.int 0)) (ac (mC (.int 1)) (ac (mOp cS (mC (.int 0)) (mC (.int 1))) (ac (mC (.int 2)) (ac (mOp cS (mC (.int 0)) (mC (.int 2))) mNil)))))) (am 0 0 aj (aa 0 (ac (mC (.int 5)) mNil))))) mNil))))
noncomputable def jD(ts:List T):Option (T×T):=if ts.length=2 then fu jA 0 2 ts else none
noncomputable def dm:MS:=(ak (ax (am 0 0 aj (aa 0 (aa 1 mNil))) (ag 2))
  (ak (ax (aT [some 0,none,none,none,none] (fL (ac (mOp bg (af 2) (mC (.int 1))) (aa 1 mNil))) (ag 4) mYes (mIx (aO [] (ac (mC (.int 0)) (ac (mC (.int 1)) (ac (mOp cS (mC (.int 0)) (mC (.int 1))) (ac (mC (.int 2)) (ac (mOp cS (mC (.int 0)) (mC (.int 2))) mNil)))))) (am 0 0 aj (aa 0 (ac (mC (.int 5)) mNil))))) (ag 3))
  (bf (mB gK (ac (mOp bg (mOp bg (mOp dU (aO [] (ac (mC (.int 0)) mNil)) (af 2)) (aO [] (ac (mOp cS (mOp cS (mC (.int 0)) (mC (.int 1))) (am 0 0 aj (aa 0 (ac (mC (.int 2)) mNil)))) mNil))) (af 3)) mNil)))))
noncomputable def dw(ts:List T):Option (T×T):=if ts.length=2 then fu dm 0 4 ts else none
noncomputable def ce:MS:=(ak (ax (aT [none,none,none,none,none,none] (bd (aa 2 mNil)) (ag 4) mYes (aO [] mNil)) (ag 3))
  (ak (bQ (bd (aa 2 mNil)) (ag 4)
  (bE [4,5] (bQ (bd (ac (am 0 0 aj (aa 0 (ac (mC (.int 4)) mNil))) mNil)) (ag 5)
  (bE [5] (aZ (bK 3 [] apT (mIx (af 3) (af 4)) (ac (aC [] (ac (am 0 0 aj (aa 0 (aa 2 mNil))) (ac (am 0 0 jD (aa 0 (aa 1 mNil))) mNil))) mNil)))))))
  (bf (af 3))))
noncomputable def dI(ts:List T):Option (T×T):=if ts.length=3 then fu ce 0 6 ts else none
noncomputable def cf:MS:=(ak (ax (aT [none,none,none,none,none,none] (bd (aa 2 mNil)) (ag 4) mYes (aO [] mNil)) (ag 3))
  (ak (bQ (bd (aa 2 mNil)) (ag 4)
  (bE [4,5] (bQ (bd (ac (mOp bg (mC (.int 1)) (am 0 0 aj (aa 0 (ac (mC (.int 3)) mNil)))) mNil)) (ag 5)
  (bE [5] (mIf (iZ (aI (mOp (fS λi j=>decide (j<i)) (af 4) (mC (.int 0)))) (aI (mOp eqT (am 0 0 aj (aa 0 (ac (mC (.int 4)) mNil))) (mC (.int 0))))) (aZ (bK 3 [] apT (mIx (af 3) (af 4)) (ac (aC [] (ac (am 0 0 aj (aa 0 (aa 4 mNil))) (ac (mOp dU (aC [] (ac (mC (.int 0)) mNil)) (af 1)) mNil))) mNil))) (aZ (bK 3 [] apT (mIx (af 3) (af 4)) (ac (aC [] (ac (am 0 0 aj (aa 0 (aa 2 mNil))) (ac (am 0 0 dw (aa 0 (aa 1 mNil))) mNil))) mNil))))))))
  (bf (af 3))))
noncomputable def cn(ts:List T):Option (T×T):=if ts.length=3 then fu cf 0 6 ts else none
noncomputable def ci:MS:=(ak (ax (aO [] mNil) (ag 3))
  (ak (bQ (bd (ac (mB dh (aa 0 mNil)) mNil)) (ag 4)
  (bE [4] (aZ (bK 3 [] apT (af 3) (ac (mOp dU (mIx (af 0) (mOp fZ (mOp bg (af 4) (af 1)) (mB dh (aa 0 mNil)))) (mIx (af 2) (af 4))) mNil)))))
  (bf (mB gK (aa 3 mNil)))))
noncomputable def cu(ts:List T):Option T:=if ts.length=3 then cR ci 5 ts else none
noncomputable def bG:MS:=(ak (ax (mOp bg (mC (.int 1)) (am 0 0 aj (aa 0 (ac (mC (.int 2)) mNil)))) (ag 3))
  (ak (ax (aO [] (ac (aC [] (ac (mC (.int 0)) (ac (mC (.int 0)) (ac (aC [3] (ac (mC (.int 0)) (aa 3 mNil))) mNil)))) (ac (aC [] (ac (mC (.int 1)) (ac (mC (.int 1)) (ac (aC [] (ac (mC (.int 0)) (ac (mOp cS (mOp cS (mC (.int 0)) (mC (.int 1))) (am 0 0 aj (aa 0 (ac (mC (.int 2)) mNil)))) mNil))) mNil)))) (ac (aC [] (ac (mC (.int 0)) (ac (mC (.int 1)) (ac (aC [] (ac (mOp cS (mC (.int 0)) (mC (.int 1))) (ac (mOp cS (am 0 0 aj (aa 0 (ac (mC (.int 3)) mNil))) (mC (.int 1))) mNil))) mNil)))) mNil)))) (ag 4))
  (ak (aZ (bK 4 [] apT (af 4) (ac (aC [] (ac (mC (.int 1)) (ac (mC (.int 0)) (ac (aC [] (ac (mOp cS (mC (.int 0)) (am 0 0 aj (aa 0 (ac (mC (.int 2)) mNil)))) (ac (mC (.int 0)) mNil))) mNil)))) mNil)))
  (ak (mIf (aI (mOp eqT (af 1) (mC (.int 3)))) (ak (ax (aO [] (ac (aC [] (ac (mC (.int 0)) (ac (mC (.int 0)) (ac (aC [3] (ac (mC (.int 0)) (ac (mC (.int 0)) (aa 3 mNil)))) mNil)))) (ac (aC [] (ac (mC (.int 1)) (ac (mC (.int 1)) (ac (aC [] (ac (mC (.int 0)) (ac (mC (.int 0)) (ac (mOp cS (mC (.int 0)) (mC (.int 1))) mNil)))) mNil)))) (ac (aC [] (ac (mC (.int 0)) (ac (mC (.int 1)) (ac (aC [] (ac (mC (.int 0)) (ac (mOp cS (mC (.int 0)) (mC (.int 1))) (ac (mC (.int 0)) mNil)))) mNil)))) (ac (aC [] (ac (mC (.int 1)) (ac (mC (.int 0)) (ac (aC [] (ac (mC (.int 0)) (ac (mC (.int 0)) (ac (am 0 0 aj (aa 0 (ac (mC (.int 2)) mNil))) mNil)))) mNil)))) mNil))))) (ag 4))
  (ax (mOp bg (af 4) (aO [] (ac (aC [] (ac (mC (.int 2)) (ac (mC (.int 2)) (ac (aC [] (ac (mC (.int 0)) (ac (mOp bg (mC (.int 1)) (am 0 0 aj (aa 0 (ac (mC (.int 2)) mNil)))) (ac (mC (.int 0)) mNil)))) mNil)))) (ac (aC [] (ac (mC (.int 0)) (ac (mC (.int 2)) (ac (aC [] (ac (mOp cS (mC (.int 0)) (mC (.int 1))) (ac (mC (.int 0)) (ac (mC (.int 1)) mNil)))) mNil)))) (ac (aC [] (ac (mC (.int 2)) (ac (mC (.int 0)) (ac (aC [] (ac (mC (.int 0)) (ac (mC (.int 0)) (ac (mC (.int 0)) mNil)))) mNil)))) mNil))))) (ag 4))) mNext)
  (ak (kW 5 6 (ac (am 0 0 aj (aa 0 (aa 1 mNil))) (ac (aT [some 0,none,none,none,none,none,none,none,none,none,none,none] (bd (aa 1 mNil)) (ag 11) mYes (mOp cS (mC (.int 1)) (mOp dU (mC (.int 2)) (am 0 0 aj (aa 0 (ac (mC (.int 2)) mNil)))))) mNil)))
  (ak (ax (aT [none,none,none,none,none,none,none,none,none,none,none] (bd (aa 2 mNil)) (ag 8) mYes (aO [] mNil)) (ag 7))
  (ak (bQ (mIt (af 4)) (cP (aS (ag 8) (aS (ag 9) (aS (ag 10) mGNil))))
  (bE [8,9,10] (aZ (bK 7 [] apT (mIx (af 7) (af 8)) (ac (aC [9] (aa 9 (ac (mB cu (aa 10 (aa 5 (aa 6 mNil)))) mNil))) mNil)))))
  (ak (bQ (fL (ac (mC (.int 3)) (aa 2 mNil))) (ag 8)
  (bE [8] (aZ (bK 7 [] apT (mIx (af 7) (af 8)) (ac (aC [] (ac (am 0 0 aj (aa 0 (aa 8 mNil))) (ac (am 0 0 jD (aa 0 (aa 1 mNil))) mNil))) mNil)))))
  (bf (af 7))))))))))
noncomputable def cq(ts:List T):Option (T×T):=if ts.length=3 then fu bG 0 11 ts else none
noncomputable def cg:MS:=(ak (ax (am 0 0 cn (aa 0 (aa 1 (aa 2 mNil)))) (ag 3))
  (ak (ax (mOp bg (mC (.int 1)) (am 0 0 aj (aa 0 (aa 2 mNil)))) (ag 4))
  (ak (ax (mOp dU (aO [] (ac (mC (.int 0)) mNil)) (af 1)) (ag 5))
  (ak (bQ (bd (aa 4 mNil)) (ag 6)
  (bE [6,7] (ak (ax (aT [some 0,none,none,none,none,none,none,none,none] (bd (aa 1 mNil)) (ag 8) mYes (mOp cS (am 0 0 aj (aa 0 (ac (mC (.int 3)) mNil))) (mC (.int 1)))) (ag 7))
  (ak (ax (aT [none,none,none,none,none,some 5,none,some 7,none] (bd (aa 1 mNil)) (ag 8) mYes (mOp cS (mB n9 (ac (mOp cS (mC (.int 0)) (mC (.int 2))) (ac (mB oe (ac (mC (.int 2)) (ac (mOp bg (mIx (af 5) (af 8)) (mIx (af 7) (af 8))) mNil))) mNil))) (mIx (af 5) (af 8)))) (ag 7))
  (ak (mIf (aI (mOp eqT (mOp bg (af 6) (mC (.int 1))) (af 4))) (ax (aT [none,none,none,none,none,none,none,none,none] (mIt (af 5)) (ag 8) mYes (mOp cS (mC (.int 0)) (af 8))) (ag 7)) mNext)
  (ak (ax (aT [none,none,none,none,none,some 5,none,some 7,none] (bd (aa 1 mNil)) (ag 8) mYes (mOp bg (mIx (af 5) (af 8)) (mIx (af 7) (af 8)))) (ag 5))
  (aZ (bK 3 [] lH (mIx (af 3) (af 6)) (ac (mC (.int 0)) (ac (aC [] (ac (mOp fZ (mOp bg (af 6) (mC (.int 1))) (af 4)) (ac (mB gK (aa 7 mNil)) mNil))) mNil))))))))))
  (bf (af 3))))))
noncomputable def dJ(ts:List T):Option (T×T):=if ts.length=3 then fu cg 0 8 ts else none
noncomputable def gC:MS:=(ak (kW 1 2 (ac (am 0 0 aj (aa 0 (ac (mC (.int 8)) mNil))) (ac (am 0 0 aj (aa 0 (ac (mC (.int 16)) mNil))) mNil)))
  (ak (ax (mIx (aO [] (ac (mC (.int 1)) (ac (mC (.int 2)) (ac (mC (.int 2)) (ac (mC (.int 2)) (ac (mC (.int 2)) (ac (mC (.int 1)) (ac (mC (.int 2)) (ac (mC (.int 3)) mNil))))))))) (mOp fZ (af 2) (mC (.int 8)))) (ag 3))
  (ak (ax (mOp bg (mC (.int 1)) (am 0 0 aj (aa 0 (ac (mIx (aO [] (ac (mC (.int 3)) (ac (mC (.int 6)) mNil))) (mOp jo (af 2) (mC (.int 8)))) mNil)))) (ag 4))
  (ak (mIf (aI (mOp (fS λi j=>decide (i<j)) (af 1) (mC (.int 3)))) (bf (aC [3] (aa 3 (ac (am 0 0 dI (aa 0 (aa 3 (aa 4 mNil)))) mNil)))) mNext)
  (ak (mIf (aI (mOp (fS λi j=>decide (i<j)) (af 1) (mC (.int 5)))) (bf (aC [3] (aa 3 (ac (am 0 0 cn (aa 0 (aa 3 (aa 4 mNil)))) mNil)))) mNext)
  (ak (mIf (aI (mOp eqT (af 1) (mC (.int 5)))) (bf (aC [3] (aa 3 (ac (am 0 0 dJ (aa 0 (aa 3 (aa 4 mNil)))) mNil)))) mNext)
  (ak (ax (mB n9 (ac (mC (.int 2)) (aa 3 mNil))) (ag 3))
  (bf (aC [3] (aa 3 (ac (am 0 0 cq (aa 0 (aa 3 (ac (mB n9 (aa 3 (ac (mB oe (aa 4 (ac (mC (.int 5)) mNil))) mNil))) mNil)))) mNil)))))))))))
noncomputable def jf(ts:List T):Option (T×T):=if ts.length=1 then fu gC 0 5 ts else none
noncomputable def gx:MS:=(ak (ax (mB nW (aa 1 mNil)) (ag 2))
  (ak (cV (aI (mOp (fS λi j=>decide (j<i)) (mB dh (aa 2 mNil)) (mC (.int 1))))
  (bE [3,4] (ak (ax (am 0 0 aj (aa 0 (ac (mOp cS (mB dh (aa 2 mNil)) (mC (.int 1))) mNil))) (ag 3))
  (bE [3,4] (mIf (iZ (aI (mOp (fS λi j=>decide (j<i)) (mB dh (aa 2 mNil)) (mC (.int 2)))) (aI (mOp eqT (am 0 0 aj (aa 0 (ac (mC (.int 5)) mNil))) (mC (.int 0))))) (ak (ax (mB oe (aa 3 (ac (mOp cS (mB dh (aa 2 mNil)) (mC (.int 3))) mNil))) (ag 3))
  (ax (aO [] (ac (aC [] (ac (mC (.str "if")) (ac (mIx (af 2) (af 3)) (ac (mIx (af 2) (mOp bg (af 3) (mC (.int 1)))) (ac (mIx (af 2) (mOp bg (af 3) (mC (.int 2)))) mNil))))) mNil)) (g6 2 (af 2) (af 3) (mOp bg (af 3) (mC (.int 3)))))) (ak (ax (mIx (aO [] (ac (mC (.str "+")) (ac (mC (.str "-")) (ac (mC (.str "*")) (ac (mC (.str "min")) (ac (mC (.str "max")) (ac (mC (.str "rest")) (ac (mC (.str "less")) mNil)))))))) (am 0 0 aj (aa 0 (ac (mC (.int 7)) mNil)))) (ag 4))
  (ax (aO [] (ac (aC [4] (ac (mC (.str "op")) (aa 4 (ac (mIx (af 2) (af 3)) (ac (mIx (af 2) (mOp bg (af 3) (mC (.int 1)))) mNil))))) mNil)) (g6 2 (af 2) (af 3) (mOp bg (af 3) (mC (.int 2)))))))))))
  (bf (mIx (af 2) (mC (.int 0))))))
noncomputable def jb(ts:List T):Option (T×T):=if ts.length=2 then fu gx 0 5 ts else none
noncomputable def gy:MS:=(ak (ax (am 0 0 jf (aa 0 mNil)) (cP (aS (ag 1) (aS (ag 2) mGNil))))
  (ak (ax (mIx (aO [] (ac (mOp bg (mC (.int 2)) (am 0 0 aj (aa 0 (ac (mC (.int 9)) mNil)))) (ac (mOp bg (mC (.int 2)) (am 0 0 aj (aa 0 (ac (mC (.int 998)) mNil)))) (ac (mOp cS (mC (.int 1000000000)) (am 0 0 aj (aa 0 (ac (mC (.int 9)) mNil)))) mNil)))) (am 0 0 aj (aa 0 (ac (mC (.int 3)) mNil)))) (ag 3))
  (ak (ax (am 0 0 je (aa 0 (ac (mB dh (aa 2 mNil)) mNil))) (ag 4))
  (ak (ax (aO [] mNil) (ag 5))
  (ak (bQ (bd (ac (mB dh (aa 2 mNil)) mNil)) (ag 6)
  (bE [6,7,8,9] (ak (ax (aT [none,none,none,none,some 4,none,none,none,none,none,none,none] (mIt (mSl (mIx (af 2) (af 6)) mNoPart (fK (mOp jo (mC (.int 16)) (mB dh (aa 2 mNil)))))) (cP (aS (ag 10) (aS (ag 11) mGNil))) mYes (aC [11] (ac (mC (.str "at")) (ac (mIx (af 4) (af 10)) (aa 11 mNil))))) (ag 7))
  (ak (bQ (bd (ac (mOp bg (am 0 0 aj (aa 0 (ac (mC (.int 2)) mNil))) (mB qk (ac (mOp eqT (af 7) (aO [] mNil)) mNil))) mNil)) (ag 8)
  (bE [8,9] (ak (ax (am 0 0 aj (aa 0 (ac (mIx (aO [] (ac (mC (.int 9)) (ac (mC (.int 1000000001)) mNil))) (am 0 0 aj (aa 0 (ac (mC (.int 2)) mNil)))) mNil))) (ag 9))
  (aZ (bK 7 [] lH (af 7) (ac (am 0 0 aj (aa 0 (ac (mOp bg (mB dh (aa 7 mNil)) (mC (.int 1))) mNil))) (ac (aC [9] (ac (mC (.str "num")) (aa 9 mNil))) mNil)))))))
  (aZ (bK 5 [] apT (af 5) (ac (aC [] (ac (mIx (af 4) (af 6)) (ac (am 0 0 jb (aa 0 (aa 7 mNil))) mNil))) mNil)))))))
  (bf (aC [1,3] (aa 1 (aa 3 (ac (mB gK (aa 5 mNil)) mNil))))))))))
noncomputable def jc(ts:List T):Option (T×T):=if ts.length=1 then fu gy 0 10 ts else none
end
end L2
namespace L2
open PySem PySem.Spec PyProof.Rows
inductive TyB(K:yF) (H:Hp):V->String->Prop where
 | non:TyB K H .non "NoneType"
 | bl (x:Bool):TyB K H (.bl x) "bool"
 | int (i:Int):TyB K H (.int i) "int"
 | str (x:Str):TyB K H (.str x) "str"
 | tup {a:Addr} {xs:List V}:SqT K H a xs->TyB K H (.ref a) "tuple"
 | lst {a:Addr} {xs:List V}:SqL K H a xs->TyB K H (.ref a) "list"
 | dK {a:Addr} {kvs:List (Key×V)}:H a=some (.dK kvs)->TyB K H (.ref a) "dict"
theorem TyB.kit{X:Cx}{pins:List (Addr×Obj)}{Z:St}{H:Hp}{s:Jf}{x:V}{u:Jd}{n:String}(I:Inv X pins Z H s)(r:RelV x u)(t:TyB X.K H x n):∃Hq,PySem.W.KitX X.K u (.type n) Hq/\Hq s.heap/\u≠Nw "__main__.__loader__#opaque" :=by
 cases t with
 | non=>cases (show u=Ml from r);exact⟨_,PySem.W.kitx_none,KC,λz=>nomatch z⟩
 | bl y=>cases (show u=Kv y from r);exact⟨_,PySem.W.kitx_bool,KC,λz=>nomatch z⟩
 | int i=>obtain⟨t,q⟩:=(show∃t,u=LW i t from r);cases q;exact⟨_,PySem.W.kitx_int,KC,λz=>nomatch z⟩
 | str y=>obtain⟨t,q⟩:=(show∃t,u=MM y t from r);cases q;exact⟨_,PySem.W.kitx_str,KC,λz=>nomatch z⟩
 | @tup a xs hq=>
  cases r;obtain⟨its,r,p,_⟩:=I.tuple hq;obtain⟨o,h1,h2,_⟩:=p;exact⟨_,PySem.W.kitx_tuple,⟨o,h1,h2⟩,λz=>nomatch z⟩
 | @lst a xs hq=>
  cases r;obtain⟨its,r,p,_⟩:=I.list hq;obtain⟨o,n,h1,h2,_⟩:=p;exact⟨_,PySem.W.kitx_list,⟨o,h1,h2⟩,λz=>nomatch z⟩
 | @dK a kvs e=>
  cases r;obtain⟨_,_,vs,_,p⟩:=(show Iz X.prog X.w H s.heap a (.dK kvs)from I.hok a _ e);obtain⟨o,es,ep,h1,h2,_⟩:=p;exact⟨_,PySem.W.kitx_dict,⟨o,h1,h2.1⟩,λz=>nomatch z⟩
def AX(K:yF)(n:String):List V->Hp->VK->Prop:=λxs H Q=>∃x t b,xs=[x,.ty n]/\TyB K H x t/\Hn K (.type t) (.type n)=some b/\Q (.bl b) H
theorem rT{X:Cx}(n:String):ID X (.builtin "isinstance") (AX X.K n):=by
 intro pins s Z H xs us Q I rv h;obtain⟨x,t,b,rfl,ty,e,q⟩:=h;obtain⟨u,w',rfl,r1,r2⟩:=pT rv;cases r2;obtain⟨Hq,h1,h2,h3⟩:=ty.kit I r1;exact PySem.W.kia_one h1 I.kIn h2 e h3 λtk=>⟨.bl b,H,I.tok tk,rfl,q⟩
noncomputable def tyN:T->Option String
 | .im .non=>some "NoneType"
 | .im (.bl _)=>some "bool"
 | .im (.int _)=>some "int"
 | .im (.str _)=>some "str"
 | .im (.tup _)=>some "tuple"
 | .im (.ls _)=>none
 | .im (.fd _ _)=>none
 | .tup _=>some "tuple"
 | .li _=>some "list"
 | .lst _=>some "list"
 | .di _=>some "dict"
 | .dc _=>some "dict"
 | .ins _ _=>none
noncomputable def mD(n m:String):Bool:=n==m||(n == "bool" && m == "int")
@[irreducible] noncomputable def mF(ns:List String)(t:T):Option T:=(tyN t).map λn=>.im (.bl (ns.any (mD n)))
theorem Bl{K:yF}{H:Hp}{x:V}{n:String}:∀{t:T},Rpx K H t x->tyN t=some n->TyB K H x n
 | .im i,r,e=>by
  have h:=de r;cases i<;>rw[RpI]at h<;>cases e;rw[h];exact .non;rw[h];exact .bl _;rw[h];exact .int _;rw[h];exact .str _;obtain⟨a,xs,rfl,h,_⟩:=h;exact .tup h
 | .tup ts,r,e=>by cases e;obtain⟨a,xs,F,rfl,h,_⟩:=lZ r;exact .tup h
 | .li ts,r,e=>by cases e;obtain⟨a,xs,rfl,h,_⟩:=cC r;exact .lst (.inl h)
 | .lst ts,r,e=>by cases e;obtain⟨a,xs,F,rfl,h,_⟩:=gi r;exact .lst (.inl h)
 | .di ts,r,e=>by cases e;obtain⟨F,r⟩:=r;rw[Rp]at r;obtain⟨a,xs,rfl,⟨ys,h,_⟩,_⟩:=r;exact .dK h
 | .dc ts,r,e=>by cases e;obtain⟨F,r⟩:=r;rw[Rp]at r;obtain⟨a,xs,F',rfl,⟨ys,h,_⟩,_⟩:=r;exact .dK h
 | .ins C ts,r,e=>by cases e
noncomputable def oT:List String:=["int","bool","str","tuple","list","dict"]
theorem qu{K:yF}{n m:String}{t:T}(e:tyN t=some n)(hm:m∈oT):Hn K (.type n) (.type m)=some (mD n m):=by
 have hn:n = "NoneType" ∨ n∈oT:=by
  unfold tyN at e;split at e<;>cases e<;>first|exact .inl rfl|exact .inr (by decide)
 rcases hn with rfl|hn
 ·rcases ycM hm with rfl|hm;rfl;rcases ycM hm with rfl|hm;rfl;rcases ycM hm with rfl|hm;rfl;rcases ycM hm with rfl|hm;rfl;rcases ycM hm with rfl|hm;rfl;rcases ycM hm with rfl|hm;rfl;cases hm
 ·have key:∀a∈oT,∀b∈oT,Hn K (.type a) (.type b)=some (mD a b):=by
   intro a ha b hb;simp only[oT,E8,FR,or_false]at ha hb;rcases ha with rfl|rfl|rfl|rfl|rfl|rfl<;>rcases hb with rfl|rfl|rfl|rfl|rfl|rfl<;>rfl
  exact key n hn m hm
section
variable {ι : Type}{C:ι->Cx}{P:Jq}{W:JB}{K:yF}{mg:Str->Option Jd}{base:Heap}{k:Nat}{e:Expr}{m:ME}{pos:Pos}
theorem tT{n:String}(hn:n∈oT):yi K (λx H Q=>AX K n [x,.ty n] H Q) (mF [n]):=by
 intro H x tx t Q r e q;unfold mF at e;cases e1:tyN tx with
 | none=>rw[e1]at e;cases e
 | some n'=>
  rw[e1]at e;cases e;refine⟨x,n',_,rfl,Bl r e1,qu e1 hn,?_⟩;refine q _ H ⟨IG.refl H,[],?_,FI,λa h=>by cases h⟩;rw[Rp,RpI];exact⟨by simp,rfl⟩
theorem CC{n:String}{x:Str}{p p1:Pos}(ck:CK C P W K mg base k)(hb:mg "isinstance" = none)(hx:mg x=none)(bx:JQ x=some (.type n))(hn:n∈oT)(ha:QE C K e m)(hg:∀i,Gl (C i) "isinstance" :=by intro _;rfl)(hg1:∀i,Gl (C i) x:=by intro _;rfl)
  (hs:dB e=false:=by rfl) (hxn:x≠("__name__" : Str):=by decide) (hdb:(x==("__debug__" : Str))=false:=by decide):QE C K (.Call (.Name "isinstance" p) [e,.Name x p1] [] pos) (mUn (mF [n]) m):=by
 obtain⟨ta,q,r⟩:=ha;refine⟨_,λi=>kZ (r:=AX K n) (by have:=rT (X:=C i) n;rw[ck.kk i]at this;exact this) (hg i) (by rw[ck.mg i];exact hb) boot_isinstance (eS (hs:=hs) (q i) (eS (wC (hg1 i) (by rw[ck.mg i];exact hx) bx (Db n) hxn hdb) lP)) (by show(!dB e&&true)=true;rw[hs];rfl),?_⟩;exact Ba (tT hn) r
end
theorem Ca{QT1:T->Prop}{ns:List String}{t:T}{n:String}(h:tyN t=some n)(q:QT1 (.im (.bl (ns.any (mD n))))):W1 (mF ns t) QT1:=⟨_,by unfold mF;rw[h];rfl,q⟩
structure ZAp(z TI TO i1 i2 l1 l2:Addr):Prop where
 ap:TI≠z/\TO≠z/\TI≠TO/\TI≠i1/\TI≠i2/\i1≠z/\i2≠z/\i1≠TO/\i2≠TO/\i1≠i2
 f1:z∉[i1,l1]/\TO∉[i1,l1]/\i2∉[i1,l1]
 f2:z∉[i2,l2]/\TO∉[i2,l2]/\i1∉[i2,l2]
 n1:l1≠i1
 n2:l2≠i2
theorem sX{QT1:T->Prop}{ns:List String}{t:T}{n:String}{b:Bool}(h:tyN t=some n)(hb:ns.any (mD n)=b)(q:QT1 (.im (.bl b))):W1 (mF ns t) QT1:=Ca h (by rw[hb];exact q)
end L2
namespace L2
open PySem
noncomputable section
end
end L2
namespace L2
open PySem PySem.Spec PyProof.Rows
section
variable {κ : Type}[DecidableEq κ]
noncomputable def nz(kvs:List (κ×V)) (k : κ):Option V:=(kvs.find? λkv=>decide (kv.1=k)).map (·.2)
theorem nB{p : κ×V}{r:List (κ×V)}{k : κ}(e:p.1=k):nz (p::r) k=some p.2:=by simp[nz,Fk,e]
theorem nA{p : κ×V}{r:List (κ×V)}{k : κ}(e:¬ p.1=k):nz (p::r) k=nz r k:=by simp[nz,Fk,e]
theorem KV.val{kvs:List (κ×V)}{vs:List (κ×Jd)}(r:KV kvs vs)(k : κ):RelO (nz kvs k) (L0 vs k):=by
 unfold KV at r
 induction r with
 | nil=>exact KC
 | @cons p q ps qs h t ih=>
  obtain⟨h1,h2⟩:=h;by_cases e:p.1=k
  ·have e':q.1=k:=h1.symm.trans e;have b:L0 (q::qs) k=some q.2:=by simp[L0,Fk,e']
   rw[nB e,b];exact h2
  ·have e':¬ q.1=k:=λz=>e (h1.trans z);have b:L0 (q::qs) k=L0 qs k:=by simp[L0,Fk,e']
   rw[nA e,b];exact ih
end
theorem sw{P:Jq}{w:JB}{k:Key}{u:Jd}(r:RelV (kV k) u):(bA P w).is k u=true:=by
 cases k with
 | inl i=>obtain⟨t,e⟩:=(show∃t,u=LW i t from r);subst e;exact mI P w i t
 | inr x=>obtain⟨t,e⟩:=(show∃t,u=MM x t from r);subst e;exact mJ P w x t
section
variable {P:Jq}{w:JB}{H:Hp}{h:Heap}{a:Addr}
theorem C7{u:HO}(ok:HOk P w H h)(e:Rd H a u):Iz P w H h a u:=e.ok ok
theorem yj{kvs:List (Key×V)}(ok:HOk P w H h)(e:Rd H a (.dK kvs)):kvs.length<=sizeLine/\(a==Kw)=false/\∃vs,KV kvs vs/\h.DictOf (bA P w) a vs:=
 show Iz P w H h a (.dK kvs)from C7 ok e
end
def Ja(H:Hp)(a:Addr)(y:V)(r:Option V):Prop:=∃kvs k,Rd H a (.dK kvs)/\y=kV k/\r=nz kvs k
section
variable {X:Cx}{pins:List (Addr×Obj)}{Z:St}{H:Hp}{s:Jf}{a:Addr}{y v:V}{u r:Jd}{o:Option V}{A:Jw}{E:Jd->Jf->Prop}
theorem Inv.big(I:Inv X pins Z H s):Kw<s.heap.objs.size:=by
 have h:JH<s.heap.objs.size:=(I.mod.glob.keeps I.bk).lt;exact Nat.lt_trans (by decide) h
theorem qc{Q:Jd->Jf->Prop}(hu:A.units+1<JP)(I:Inv X pins Z H s)(g:Ja H a y (some v))(ry:RelV y u)(h:∀w' s',Inv X pins Z H s'->RelV v w'->Q w' s') :
  Jk (Jj X.prog X.w) A (KU (.ref a) u) Q E s:=by
 obtain⟨kvs,k,e,ey,l⟩:=g;subst ey;obtain⟨z,hd,vs,rel,dd⟩:=yj I.hok e;obtain⟨w',hw,rw'⟩:=RelO.some_of (v:=v) (o:=L0 vs k) (by rw[l];exact rel.val k);exact wpAny_getItem_of (sw ry) dd.mapOf hw (h w' _ (I.tok _) rw')
end
def yQ(i:Expr):Prop:=∀ov iv,LQ i false ov iv=operate [ov,iv] (KU ov iv)
theorem xS{prog:Jq}{w:JB}{A:Jw}{E:Jd->Jf->Prop}{s:Jf}{env:Env}{value slice:Expr}{pos:Pos}{T id:String}{Q:Jd->Jf->Prop}
  (hl:typeLookup (.type T) "__getitem__" = pure (some (.builtin id))) (hs:yQ slice)
  (h:Jk (Jj prog w) A (eval value env) (λo s₁=>Jk (Jj prog w) A (eval slice env) (λi s₂=>s₂.TypeIs o T/\Jk (Jj prog w) A (KU o i) Q E s₂) E s₁) E s) :
  Jk (Jj prog w) A (eval (.Subscript value slice pos) env) Q E s:=by
 refine Mp (Jo h (λo s₁ h₁=>Jo h₁ (λi s₂ h₂=>?_) λ_ _ x=>x) λ_ _ x=>x);obtain⟨hT,h₂⟩:=h₂;unfold Ln;refine Je ?_;rw[getitemInPython_of_ne hT.not_modules];refine Je (M4 hT hl ?_);have fin:Jk (Jj prog w) A (LQ slice false o i) (λr s₃=>Jk (Jj prog w) A (letTemporaryGo value o r >>= λ_=>pure r) Q E s₃) E s₂:=by
  rw[hs o i];exact wpAny_operating (Jo h₂ (λr s₃ h₃=>Je (wpAny_letTemporaryGo (Jh h₃))) λ_ _ x=>x)
 first
  | exact Jh (Je fin)
  | exact Je (Jh (Je fin))
  | exact Je fin
theorem mr{X:Cx}{pins:List (Addr×Obj)}{Z:St}{H:Hp}{s:Jf}{a:Addr}{y:V}{o:Option V}(I:Inv X pins Z H s)(g:Ja H a y o):s.TypeIs (.ref a) "dict" :=by
 obtain⟨kvs,k,e,_,_⟩:=g;obtain⟨_,_,vs,_,dd⟩:=yj I.hok e;exact dd.typeIs
def De(td ty:TE):TE:=λZ H Q=>td Z H λx H1=>ty Z H1 λy H2=>∃a v,x=.ref a/\Ja H2 a y (some v)/\Q v H2
section
variable {X:Cx}{o i e value:Expr}{pos pos' tpos:Pos}{td ty tv:TE}
theorem wG(hu:X.A.units+1<JP)(ho:PE X o td)(hi:PE X i ty)(hs:yQ i):PE X (.Subscript o i pos) (De td ty):=by
 intro pins s Z H Q I h;refine xS PySem.F.slot_dict_getitem.lookup hs (thn (ho pins s Z H _ I h) λu s1 ⟨x,H1,I1,rx,q1⟩=>thn (hi pins s1 Z H1 _ I1 q1) λiv s2 ⟨y,H2,I2,ry,a,v,ex,g,q2⟩=>?_);subst ex;obtain rfl:u=Nx a:=rx;exact⟨mr I2 g,qc hu I2 g ry λw' s3 I3 rw'=>⟨v,H2,I3,rw',q2⟩⟩
end
theorem rZ{P:Jq}{w:JB}{H:Hp}(h:Heap)(hb:Kw<h.objs.size):Iz P w H (h.push {cls:=.type "dict",data:=.dict #[]}) h.objs.size (.dK []):=
 ⟨Fd _,beq_eq_false_iff_ne.mpr (JI (EW hb)),[],.nil,M6 h⟩
def vd:TE:=λ_ H Q=>∀p,H p=none->Q (.ref p) (upd H p (.dK []))
section
variable {X:Cx}{pos:Pos}
theorem tH:PE X (.Dict [] [] pos) vd:=λpins s Z H Q I h=>
 wpAny_Dict_empty ⟨.ref s.heap.objs.size,_,I.laid (a:=s.heap.objs.size) (o:=.dK []) (t':=s.toks) (λ_ _ q=>Jg _ q) (Eo _) (rZ s.heap I.big),rfl,h _ (I.hok.fresh (Eo _))⟩
end
noncomputable def vY(i:I):Option Key:=match i with
 | .int n=>some (.inl n)
 | .str x=>some (.inr x)
 | _=>none
section
variable {K:yF}{H:Hp}
theorem vZ{i:I}{q:Key}(e:vY i=some q):i=bZ q:=by
 unfold vY at e;split at e<;>cases e<;>rfl
theorem pi{i:I}{q:Key}{x:V}(e:vY i=some q)(r:RpI K H i x):x=kV q:=by
 rw[vZ e]at r;cases q<;>(rw[bZ,RpI]at r;exact r)
def dgR:R2:=λx y H Q=>∃a v,x=.ref a/\Ja H a y (some v)/\Q v H
theorem sA{a b:Key}(h:bZ a=bZ b):a=b:=by cases a<;>cases b<;>(unfold bZ at h;cases h)<;>rfl
end
section
variable {X:Cx}{pins:List (Addr×Obj)}{Z:St}{H:Hp}{s:Jf}
theorem Inv.frz{a:Addr}{xs:List V}(I:Inv X pins Z H s)(h:H a=some (.lst xs)):∃o,Inv X pins Z (upd H a (.frz o (.lst xs))) s:=by
 obtain⟨z,its,n,r,e⟩:=(show Iz X.prog X.w H s.heap a (.lst xs)from I.hok a _ h);exact⟨_,I.write (t':=s.toks) (h':=s.heap) (by rw[h];exact KC) (.inl rfl) (λb u _ q=>q) ⟨_,e⟩ ⟨e,z,its,n,r,e⟩⟩
end
end L2
namespace L2
open PySem
noncomputable section
noncomputable def dn(rec:List T->Option T):MS:=(ak (mIf (aI (mOp eqT (mIx (af 0) (mC (.int 0))) (mC (.str "num")))) (bf (aO [] mNil)) mNext)
  (ak (mIf (aI (mOp eqT (mIx (af 0) (mC (.int 0))) (mC (.str "at")))) (bf (aO [] (ac (aC [] (ac (mIx (af 0) (mC (.int 1))) (ac (mIx (af 0) (mC (.int 2))) mNil))) mNil))) mNext)
  (ak (ax (aO [] mNil) (ag 1))
  (ak (bQ (mIt (mSl (af 0) (fK (mOp bg (mC (.int 1)) (mB qk (ac (mOp eqT (mIx (af 0) (mC (.int 0))) (mC (.str "op"))) mNil)))) mNoPart)) (ag 2)
  (bE [2] (aZ (bK 1 [] ki (af 1) (ac (mB rec (aa 2 mNil)) mNil)))))
  (bf (af 1))))))
noncomputable def cr:Nat->List T->Option T
 | 0=>λts=>if ts.length=1 then cR lM 3 ts else none
 | n+1=>λts=>if ts.length=1 then cR (dn (cr n)) 3 ts else none
noncomputable def gD:MS:=(ak (ax (aO [] mNil) (ag 1))
  (ak (bQ (mIt (mIx (af 0) (mC (.int 2)))) (cP (aS (ag 2) (aS (ag 3) mGNil)))
  (bE [2,3,4,5] (bQ (mIt (mB (cr 24) (aa 3 mNil))) (cP (aS (ag 4) (aS (ag 5) mGNil)))
  (bE [4,5] (mIf (aI (mOp jx (aC [2,4,5] (aa 2 (aa 4 (aa 5 mNil)))) (af 1))) (aZ (bK 1 [] apT (af 1) (ac (aC [2,4,5] (aa 2 (aa 4 (aa 5 mNil)))) mNil))) mNext)))))
  (bf (af 1))))
noncomputable def gG(ts:List T):Option T:=if ts.length=1 then cR gD 6 ts else none
end
end L2
namespace L2
open PySem PySem.Spec PyProof.Rows
section
variable {κ : Type}[DecidableEq κ]
noncomputable def fg{α:Type}:List (κ × α)->κ->α->List (κ × α)
 | [],k,v=>[(k,v)]
 | p::r,k,v=>if p.1=k then(p.1,v)::r else p::fg r k v
theorem pw{k : κ}{u:Jd}:∀{vs:List (κ×Jd)},k∉vs.map (·.1)->vs.map (λkv=>if kv.1=k then(kv.1,u)else kv)=vs
 | [],_=>rfl
 | p::r,h=>by
  rw[Ek,E8,not_or]at h;rw[Ek,if_neg (λz=>h.1 z.symm),pw h.2]
theorem jj(k : κ)(u:Jd):∀{vs:List (κ×Jd)},(vs.map (·.1)).Nodup->stored vs k u=fg vs k u
 | [],_=>by simp[stored,fg]
 | p::r,h=>by
  rw[Ek,EF]at h;have ih:=jj k u h.2;obtain⟨k',t⟩:=p;unfold stored at ih⊢;rw[fg];by_cases e:k'=k
  ·subst e;rw[if_pos (by simp),if_pos rfl,Ek,if_pos rfl,pw h.1]
  ·rw[if_neg e,←ih,GN];simp only[decide_eq_false e,Hw,Ek,if_neg e,EC];split<;>rfl
theorem KV.put{k : κ}{y:V}{u:Jd}(ry:RelV y u):∀{kvs:List (κ×V)} {vs:List (κ×Jd)},KV kvs vs->KV (fg kvs k y) (fg vs k u)
 | _,_,.nil=>.cons ⟨rfl,ry⟩ .nil
 | (k1,y1)::_,(k2,u2)::_,.cons h t=>by
  have e:k1=k2:=h.1;subst e;rw[fg,fg];by_cases e:k1=k;rw[if_pos e,if_pos e];exact .cons ⟨rfl,ry⟩ t;rw[if_neg e,if_neg e];exact .cons h (KV.put ry t)
end
def yG:vC:=λo i v H Q=>∃a kvs k,o=.ref a/\i=kV k/\H a=some (.dK kvs)/\(fg kvs k v).length<=sizeLine/\Q (upd H a (.dK (fg kvs k v)))
theorem u6{X:Cx}:yR X yG:=by
 intro pins s Z H o i v ov iv u Q I ro ri rv h;obtain⟨a,kvs,k,rfl,rfl,e,hl,q⟩:=h;cases ro;obtain⟨z,hd,vs,rel,dd⟩:=(show Iz X.prog X.w H s.heap a (.dK kvs)from I.hok a _ e);have hz:vs.length<=sizeLine:=by have:=Paired.length rel;omega
 refine wpAny_setItem_pairs (hsz:=hz) (sw ri) dd λh' dd' hs=>⟨_,?_,q⟩;have he:∃q,h'.get? a=some q:=let ⟨q,_,_,hq,_⟩:=dd';⟨q,hq⟩
 exact I.write (x:=a) (e:=a) (t':=s.toks+1) (by rw[e];exact KC) (.inl rfl) (λb q hb z=>(hs.2 b hb).trans z) he (show Iz X.prog X.w _ h' a (.dK (fg kvs k v))from⟨hl,hd,_,KV.put rv rel,by rw[jj k u (let ⟨_,_,_,_,_,_,_,_,hn⟩:=dd;hn)]at dd';exact dd'⟩)
noncomputable def mR(is:List I) (i:Int):Option (T×I):=if 0<=i/\i<1000000000 then(match is[i.toNat]? with
 | some x=>some (.li (is.eraseIdx i.toNat),x)
 | none=>none)else none
noncomputable def yx(is:List I) (t:T):Option (T×I):=match isI t with
 | some i=>mR is i
 | none=>none
@[irreducible] noncomputable def ff(s:T)(ts:List T):Option (T×I):=match s with
 | .li is=>l1 (yx is) ts
 | _=>none
section
variable {K:yF}{H:Hp}
theorem Ir.erase:∀{is:List I} {xs:List V} (n:Nat),Ir K H is xs->Ir K H (is.eraseIdx n) (xs.eraseIdx n)
 | [],_,n,h=>by rw[Ir]at h;subst h;rw[Gn,Gn,Ir]
 | i::is,_,0,h=>by
  rw[Ir]at h;obtain⟨x,r,rfl,_,h2⟩:=h;exact h2
 | i::is,_,n+1,h=>by
  rw[Ir]at h;obtain⟨x,r,rfl,h1,h2⟩:=h;rw[Fn,Fn,Ir];exact⟨x,_,rfl,h1,Ir.erase n h2⟩
theorem oo:cJ K ou ff:=by
 intro H w vs s ts s' i G F Q rw0 rs nd mu e q;unfold ff at e;split at e
 ·rename_i is;have e0:=cc e;clear e;obtain⟨t,rfl,e⟩:=e0;unfold yx at e;split at e
  ·rename_i n hn;unfold mR at e;split at e
   ·rename_i hb;split at e
    ·rename_i x hx;cases e;obtain⟨a,xs,rfl,h1,h2,rfl⟩:=iF rw0 λa ha=>mu a (yaL _ ha);obtain⟨z,rfl,g⟩:=nh rs;have et:t=.im (.int n):=by
      unfold isI at hn;split at hn
      ·split at hn;cases hn;rfl;cases hn
      ·cases hn
     subst et;have gz:=aK ⟨_,g⟩;obtain⟨_,rfl⟩:=aX g;subst gz;obtain⟨y,hy,r⟩:=h2.get hx;have hlt:n.toNat<xs.length:=(Eg.mp hy).1;refine⟨a,xs,n,n.toNat,y,rfl,rfl,h1,by omega,by omega,?_,hy,fG h1 (h2.erase n.toNat) r q⟩;have hx2:ixN xs.length n=some n.toNat:=by
      unfold ixN;rw[if_pos hb.1,if_pos (by omega)]
     exact(lK hx2).1
    ·cases e
   ·cases e
  ·cases e
 ·cases e
theorem vh(H:Hp)(x:V)(tx:T)(ts:List T)(r:T×I)(h:Rpx K H tx x)(e:ff tx ts=some r):tyV K "list" x H:=by
 unfold ff at e;split at e;exact lg h;cases e
end
theorem wf:jH "list" "pop" ff:=⟨_,λ_=>ou,PySem.F.plainAttrs_list,PySem.F.slot_list_pop,PySem.F.type_list_pop,λ_=>sO,λ_=>oo,λK=>vh⟩
section
variable {ι : Type}{C:ι->Cx}{K:yF}{pos:Pos}
theorem AH:QS C K (.Break pos) mBrk:=⟨_,λ_=>uf,xw⟩
end
section
variable {O:Rho}{is:List I}{n:Nat}{x:I}{QI1:T->I->Prop}
theorem tO{i:Int}(h0:0<=i)(hb:i<1000000000)(h:is[i.toNat]?=some x):mR is i=some (.li (is.eraseIdx i.toNat),x):=by
 unfold mR;rw[if_pos ⟨h0,hb⟩,h]
theorem qH{i:Int}:ff (.li is) [.im (.int i)]=mR is i:=by unfold ff;rfl
theorem wA{i:Int}(h0:0<=i)(hb:i<1000000000)(h:is[i.toNat]?=some x)(q:QI1 (.li (is.eraseIdx i.toNat)) x):W2 (ff (.li is) [.im (.int i)]) QI1:=by
 rw[qH,tO h0 hb h];exact⟨_,_,rfl,q⟩
end
theorem fN{prog:Jq}{w:JB}{A:Jw}{R:LA->Jf->Prop}{s:Jf}{kx vx target iter:Expr}{ifs:List Expr}{scope:JW}{pos:Pos}{it:Jd}{D:Addr}{env:Env}(I:Nat->Jf->Prop)
  (turn:∀n s,I n s->Jk (Jj prog w) A (Mn it) (λr s₁=>match r with
   | none=>R (.ok .next) s₁
   | some v=>Jk (Jj prog w) A (JM target it v) (λ_ s₁'=>Jk (Jj prog w) A (Kh target env v) (λ_ s₂=>
     Jk (Jj prog w) A (jF ifs env) (λok s₃=>
      if ok=true then Jk (Jj prog w) A (eval kx env) (λkv s₄=>Jk (Jj prog w) A (eval vx env) (λvv s₅=>
       Jk (Jj prog w) A (dictSet D kv vv) (λ_ s₆=>∃m,m<n/\I m s₆) (Kl (Jj prog w) A env λe s'=>R (.error e) s') s₅) (Kl (Jj prog w) A env λe s'=>R (.error e) s') s₄) (Kl (Jj prog w) A env λe s'=>R (.error e) s') s₃
      else∃m,m<n/\I m s₃) (Kl (Jj prog w) A env λe s'=>R (.error e) s') s₂) (Kl (Jj prog w) A env λe s'=>R (.error e) s') s₁') (Kl (Jj prog w) A env λe s'=>R (.error e) s') s₁) (Kl (Jj prog w) A env λe s'=>R (.error e) s') s)
  (n:Nat) (h:I n s):JN (Jj prog w) A (.compLoop (.DictComp kx vx [⟨target,iter,ifs,0⟩] scope pos) 0 it (.ref D) env) R s:=by
 refine LH rfl I (λn s hI=>?_) n h;show Jk _ A ((Lv (.DictComp kx vx [⟨target,iter,ifs,0⟩] scope pos) 0 it (.ref D) env).onRaise (λx=>do LZ x env;KN x)) _ _ s;refine LU ?_;rw[compTurn_dict];refine Je (JL (Je (Jo (turn n s hI) (λr s₁ h₁=>?_) λ_ _ h'=>h')));cases r with
 | none=>exact Jh h₁
 | some v=>
  refine Je (Jo h₁ (λ_ s₁' h₁'=>?_) λ_ _ h'=>h');refine Je (Jo h₁' (λ_ s₂ h₂=>Je (Jo h₂ (λok s₃ h₃=>?_) λ_ _ h'=>h')) λ_ _ h'=>h');cases ok with
  | false=>exact Jh ⟨rfl,h₃⟩
  | true=>
   exact Je (Je (Jo h₃ (λkv s₄ h₄=>Je (JJ (Jo h₄ (λvv s₅ h₅=>Je (JL (JJ (Jo h₅ (λ_ s₆ h₆=>Jh ⟨rfl,h₆⟩) λ_ _ h'=>h')))) λ_ _ h'=>h'))) λ_ _ h'=>h'))
def vc(wi:TI)(fr:List (Option Nat))(g:TG)(tc:TT)(tk tv:TE):TE:=λZ H Q=>
 wi Z H λJ H1=>∃W:Nat->Nat->List (Key×V)->Hp->Prop,(∃m,W 0 m [] H1)/\∀i m acc H,W i m acc H->acc.length<sizeLine ∧
  ((J.stop i H/\∀d,H d=none->Q (.ref d) (upd H d (.dK acc))) ∨
  (J.go i H/\∃N:List (Key×V)->Hp->Prop,(∀acc' H',N acc' H'->∃m',m'<m/\W (i+1) m' acc' H') ∧
   ∀x H',J.yld i H x H'->g x (aL fr Z) H' λZ2 H2=>tc Z2 H2 λb H3=>if b=true then tk Z2 H3 λy H4=>∃q,y=kV q/\tv Z2 H4 λv H5=>N (fg acc q v) H5 else N acc H3))
section
variable {X:Cx}{kx vx tg iter:Expr}{ifs:List Expr}{scope:JW}{pos:Pos}{N':List Str}{fr:List (Option Nat)}{wi:TI}{g:TG}{tc:TT}{tk tv:TE}
theorem mj(hc:X.calm=true)(B:Blk X.env.scope scope X.N N' fr)
  (hg:∀b,PG (cxB X scope N' b) tg g) (hgk:b9 fr g) (ht:∀b,PTs (cxB X scope N' b) ifs tc) (hek:∀b,PE (cxB X scope N' b) kx tk) (hev:∀b,PE (cxB X scope N' b) vx tv)
  {pins:List (Addr×Obj)} {Z:St} {Q:VK} {itv:Jd} {s2:Jf} {E:Jd->Jf->Prop} {RR:Jd->Addr->LA->Jf->Prop}
  (h2:PIE X pins Z tg (λJ H1=>∃W:Nat->Nat->List (Key×V)->Hp->Prop,(∃m,W 0 m [] H1)/\∀i m acc H,W i m acc H->acc.length<sizeLine ∧
   ((J.stop i H/\∀d,H d=none->Q (.ref d) (upd H d (.dK acc))) ∨
   (J.go i H/\∃N:List (Key×V)->Hp->Prop,(∀acc' H',N acc' H'->∃m',m'<m/\W (i+1) m' acc' H') ∧
    ∀x H',J.yld i H x H'->g x (aL fr Z) H' λZ2 H2=>tc Z2 H2 λb H3=>if b=true then tk Z2 H3 λy H4=>∃q,y=kV q/\tv Z2 H4 λv H5=>N (fg acc q v) H5 else N acc H3))) itv s2)
  (hRR:∀(d C:Addr) (v:V) (H':Hp) (s':Jf) m',Inv X pins Z H' s'->v=.ref d->Q v H'->s'.heap.Ns C m'->dQ X pins H' C->C≠d->RR (.ref d) C (.ok .next) s') :
  Jk (Jj X.prog X.w) X.A newDict (λacc s₃=>Jk (Jj X.prog X.w) X.A (Ks scope X.env.globals (br X.env scope.names []) [] X.env.qual none .none (some X.env)) (λcenv s₄=>
   JN (Jj X.prog X.w) X.A (.compStart (.DictComp kx vx [⟨tg,iter,ifs,0⟩] scope pos) 0 itv acc {cenv with scope:=LG scope X.env}) (RR acc cenv.locals) s₄) E s₃) E s2:=by
 obtain⟨it,fp,tn,J,H2,rfl,I2,T,st2,f2,W,⟨m0,w0⟩,turn⟩:=h2;refine Js ?_;have hnew:(s2.heap.push {cls:=.type "dict",dict:=none,data:=.dict #[]}).DictOf (bA X.prog X.w) s2.heap.objs.size []:=M6 s2.heap;have hbig:(s2.heap.objs.size==Kw)=false:=beq_eq_false_iff_ne.mpr (JI (EW I2.big));generalize hd:s2.heap.objs.size=d at hnew hbig;have I3:Inv X pins Z H2 {s2 with heap:=s2.heap.push {cls:=.type "dict",dict:=none,data:=.dict #[]}}:=I2.kept (t':=s2.toks) λb o e=>Jg _ e;have fd:dQ X pins H2 d:=I2.fpOk (by rw[hd];exact Eo _) (I2.hok.fresh (by rw[hd];exact Eo _));have od:(s2.heap.push {cls:=.type "dict",dict:=none,data:=.dict #[]}).get? d=some {cls:=.type "dict",dict:=none,data:=.dict #[]}:=by rw[←hd];exact Jn _ rfl
 have st3:tn 0 (s2.heap.push {cls:=.type "dict",dict:=none,data:=.dict #[]}):=T.keep _ _ _ st2 λb _ o e=>Jg _ e;have ne_d:∀b∈fp,b≠d:=λb hb=>by
  obtain⟨o,e,_⟩:=T.obj _ _ st2 b hb;rw[←hd];exact EW (Jm e)
 have hd0:X.s₀.heap.objs.size<=d:=by rw[←hd];exact I2.sz
 generalize hs3:({s2 with heap:=s2.heap.push {cls:=.type "dict",dict:=none,data:=.dict #[]}}:Jf)=s3 at I3;have od3:s3.heap.get? d=some {cls:=.type "dict",dict:=none,data:=.dict #[]}:=by rw[←hs3];exact od
 have hnew3:s3.heap.DictOf (bA X.prog X.w) d []:=by rw[←hs3];exact hnew
 have st3':tn 0 s3.heap:=by rw[←hs3];exact st3
 have hex:∀b∈d::fp,dQ X pins H2 b/\∃o,s3.heap.get? b=some o:=λb hb=>by
  rcases ycM hb with e|hb;subst e;exact⟨fd,_,od3⟩
  ·obtain⟨o,e,_⟩:=T.obj _ _ st3' b hb;exact⟨f2 b hb,o,e⟩
 refine dP λh4 hns hk hcl=>?_;have J0:=I3.enter (ex:=d::fp) (xe:=λ_ _=>False) B hex hns hk hcl;generalize hCs:Jy (s3.heap.objs.size+1) scope.names (br X.env scope.names [])=cells at J0;have hCd:s3.heap.objs.size≠d:=λz=>by have:=Jm od3;rw[z]at this;exact Ff _ this
 let bk:Bk:=⟨cells,s3.heap.objs.size,s3,H2,d::fp,X.pn++pins⟩
 have J0':Inv (cxB X scope N' bk) [] (aL fr Z) H2 {s3 with heap:=h4}:=J0;show JN (Jj X.prog X.w) X.A (.compStart (.DictComp kx vx [⟨tg,iter,ifs,0⟩] scope pos) 0 (.ref it) (.ref d) (cxB X scope N' bk).env) (RR (.ref d) s3.heap.objs.size) {s3 with heap:=h4};have ne_pn:∀p∈X.pn++pins,p.1≠d/\∀b∈fp,p.1≠b:=λp hp=>⟨fd.2.2.2.2.2 p hp,λb hb=>(f2 b hb).2.2.2.2.2 p hp⟩;have fpk:∀{Hx:Hp} {o:Obj},(∀b∈fp,Hx b=none)->∀b∈fp,dQ (cxB X scope N' bk) [(d,o)] Hx b:=λ{Hx o} hn b hb=>by
  have hb':b∈d::fp:=ymC _ hb;refine⟨hn b hb,(J0'.ok.exf b hb').1,J0'.ok.exfs b hb',.inl hb',λx c e=>(J0'.ok.exf b hb').2 x c e,λp hp=>?_⟩;have hp':p∈(X.pn++pins)++[(d,o)]:=hp;rcases yaM hp' with z|z;exact(ne_pn p z).2 b hb
  ·have:p=(d,o):=by simpa using z
   rw[this];exact JI (ne_d b hb)
 have dat:∀{h:Heap} {vs:List (Key×Jd)},h.DictOf (bA X.prog X.w) d vs->∃o,h.get? d=some o/\∀v,o.data ≠ .cell v:=λx=>by
  obtain⟨o,es,ep,e1,e2,e3,_⟩:=x;exact⟨o,e1,λv z=>by rw[e3]at z;cases z⟩
 have loop:∀s4:Jf,Inv (cxB X scope N' bk) [] (aL fr Z) H2 s4->tn 0 s4.heap->s4.heap.DictOf (bA X.prog X.w) d [] →
   JN (Jj X.prog X.w) X.A (.compLoop (.DictComp kx vx [⟨tg,iter,ifs,0⟩] scope pos) 0 (.ref it) (.ref d) (cxB X scope N' bk).env) (RR (.ref d) s3.heap.objs.size) s4:=by
  intro s4 J4 st4 pl4;refine fN (λn s'=>∃i acc vs H' Z',Inv (cxB X scope N' bk) [] Z' H' s'/\Kp fr (aL fr Z) Z'/\tn i s'.heap/\(∀b∈fp,H' b=none)/\H' d=none/\s'.heap.DictOf (bA X.prog X.w) d vs/\KV acc vs/\W i n acc H') ?_ m0
   ⟨0,[],[],H2,aL fr Z,J4,Kp.refl _ _,st4,λb hb=>(f2 b hb).1,fd.1,pl4,.nil,w0⟩
  rintro n s5 ⟨i,acc,vs,H5,Z5,J5,kp5,st5,fr5,hd5,dd5,va5,w5⟩;obtain⟨hz,cs⟩:=turn i n acc H5 w5;obtain⟨ob,pl5,ncell⟩:=dat dd5;have J5p:Inv (cxB X scope N' bk) [(d,ob)] Z5 H5 s5:=J5.pins_of λp hp=>by
   have:p=(d,ob):=by simpa using hp
   subst this;exact⟨pl5,hd5,(J0'.ok.exf d ymS).1,J0'.ok.exfs d ymS,ncell⟩
  have same:∀{h:Heap},h.get? d=some ob->h.DictOf (bA X.prog X.w) d vs:=λe=>dd5.at λo eo=>by rw[pl5]at eo;cases eo;exact e
  rcases cs with⟨stop,q⟩|⟨go,N,hN,step⟩
  ·refine thn (T.done (cxB X scope N' bk) rfl rfl rfl hc i _ s5 Z5 H5 _ J5p (fpk fr5) st5 stop) λr s6 ⟨hr,J6⟩=>?_;subst hr;obtain⟨e6,n6,_⟩:=J6.pin (d,ob) (yaR _ (by simp));have I6:Inv X pins Z H5 s6:=I3.leave (λb hb=>(hex b hb).1) J6;have I6t:Inv X pins Z (upd H5 d (.dK acc)) s6:=I6.track ⟨hd5,fd.2⟩ (.inr hd0) hd0 ⟨by omega,hbig,vs,va5,same e6⟩;obtain⟨m6,hn6,_⟩:=J6.loc;refine hRR d s3.heap.objs.size (.ref d) _ s6 m6 I6t rfl (q d hd5) hn6 ?_ hCd;exact I3.fpOk (Eo _) (by rw[aN hCd];exact J6.free)
  ·refine thn (T.item (cxB X scope N' bk) rfl rfl rfl hc i _ s5 Z5 H5 _ J5p (fpk fr5) st5 go) λr s6 ⟨u,hr,h6⟩=>?_;subst hr;refine thn h6 λ_ s7 ⟨x,H7,J7,r7,y7,st7,fr7⟩=>?_;have J7w:Inv (cxB X scope N' bk) [(d,ob)] (aL fr Z) H7 s7:=J7.weak kp5.1.symm λk v e=>by
    cases q:fr[k]? with
    | none=>
     unfold aL at e;rw[Ep,q]at e;cases e
    | some o=>
     cases o with
     | none=>
      unfold aL at e;rw[Ep,q]at e;simp at e
     | some j=>rw[kp5.2 k j q];exact e
   have J7p:=J7w.pinned (fpk fr7) (T.obj _ _ st7);have never:∀{α:Type} {t:Sem α} {QQ : α->Jf->Prop} {EE:Jd->Jf->Prop} {ss:Jf},Jk (Jj X.prog X.w) X.A t QQ (λ_ _=>False) ss->Jk (Jj X.prog X.w) X.A t QQ EE ss:=λhh=>Jo hh (λ_ _ z=>z) λ_ _ z=>z.elim;have G:=hgk x (aL fr Z) H7 _ (λZ2 H2=>(tc Z2 H2 λb H3=>if b=true then tk Z2 H3 λy H4=>∃q,y=kV q/\tv Z2 H4 λv H5=>N (fg acc q v) H5 else N acc H3)/\Kp fr (aL fr Z) Z2) (λZ' H' a b=>⟨a,b⟩) (step x H7 y7);refine never (thn (hg bk _ s7 (aL fr Z) H7 x u _ J7p r7 G) λ_ s8 ⟨Z8,H8,J8,q8,kp8⟩=>?_);refine never (thn (ht bk _ s8 Z8 H8 _ J8 q8) λok s9 ⟨H9,J9,q9⟩=>?_);have keepT:∀{Zx:St} {Hx:Hp} {sx:Jf},Inv (cxB X scope N' bk) ([(d,ob)]++bp fp s7.heap) Zx Hx sx->(∀b∈fp,∀o,s7.heap.get? b=some o->sx.heap.get? b=some o)/\(∀b∈fp,Hx b=none)/\sx.heap.get? d=some ob/\Hx d=none:=λ{Zx Hx sx} Jx=>by
    refine⟨λb hb o e=>(Jx.pin (b,o) (yaR _ (yaR _ (bm hb e)))).1,λb hb=>?_,?_⟩
    ·obtain⟨o,e,_⟩:=T.obj _ _ st7 b hb;exact(Jx.pin (b,o) (yaR _ (yaR _ (bm hb e)))).2.1
    ·have:=Jx.pin (d,ob) (yaR _ (yaL _ (by simp)));exact⟨this.1,this.2.1⟩
   cases ok with
   | false=>
    rw[if_neg (by decide)]at q9⊢;obtain⟨m',hm,w9⟩:=hN _ _ q9;obtain⟨k1,k2,k3,k4⟩:=keepT J9;exact⟨m',hm,i+1,acc,vs,H9,Z8,J9.pins_of (λp hp=>by simp at hp),kp8,T.keep _ _ _ st7 k1,k2,k4,same k3,va5,w9⟩
   | true=>
    rw[if_pos rfl]at q9⊢;refine never (thn (hek bk _ s9 Z8 H9 _ J9 q9) λkv s10 ⟨y,H10,J10,r10,q,ey,q10⟩=>?_);subst ey;refine never (thn (hev bk _ s10 Z8 H10 _ J10 q10) λvv s11 ⟨v,H11,J11,r11,q11⟩=>?_);obtain⟨m',hm,w11⟩:=hN _ _ q11;obtain⟨k1,k2,k3,k4⟩:=keepT J11;have hlen:acc.length=vs.length:=Paired.length va5;have dd11:=same k3;refine wpAny_dictSet_pairs (knd:=bA X.prog X.w) (hsz:=by omega) (sw r10) dd11 λh12 dd12 sb12=>?_;have J11':Inv (cxB X scope N' bk) [] Z8 H11 s11:=J11.pins_of (λp hp=>by simp at hp);have J12:Inv (cxB X scope N' bk) [] Z8 H11 {s11 with heap:=h12,toks:=s11.toks+1}:=J11'.turned (it:=d) (t':=s11.toks+1) (λb o hb e=>(sb12.2 b hb).trans e) k4 (J0'.ok.exf d ymS).1 (.inl ymS) (λx c e=>(J0'.ok.exf d ymS).2 x c e) λp hp=>by
     have hp':p∈(X.pn++pins)++[]:=hp;rw[EB]at hp';exact(ne_pn p hp').1
    refine⟨m',hm,i+1,fg acc q v,fg vs q vv,H11,Z8,J12,kp8,T.keep _ _ _ st7 (λb hb o e=>(sb12.2 b (ne_d b hb)).trans (k1 b hb o e)),k2,k4,?_,KV.put r11 va5,w11⟩;rw[jj q vv (let ⟨_,_,_,_,_,_,_,_,hn⟩:=dd11;hn)]at dd12;exact dd12
 have st4:tn 0 h4:=T.keep _ _ _ st3' λb _ o e=>hk b o e;have pl4:h4.DictOf (bA X.prog X.w) d []:=hnew3.at λo e=>hk d o e;have L4:=loop {s3 with heap:=h4} J0' st4 pl4;exact codeAny_compStart_dict L4 (T.self X.A 0 _ _ _ st4 L4)
theorem tG(hc:X.calm=true)(B:Blk X.env.scope scope X.N N' fr)(hi:PI X tg iter wi)
  (hg:∀b,PG (cxB X scope N' b) tg g) (hgk:b9 fr g) (ht:∀b,PTs (cxB X scope N' b) ifs tc) (hek:∀b,PE (cxB X scope N' b) kx tk) (hev:∀b,PE (cxB X scope N' b) vx tv)
  (hs:∀x,Jt iter X.env x=pure x:=by intro _;rfl):PE X (.DictComp kx vx [⟨tg,iter,ifs,0⟩] scope pos) (vc wi fr g tc tk tv):=by
 intro pins s Z H Q I h;rw[arm_eval_DictComp];refine J1 (use:=none) rfl hs (cK (I.freeCells B)) B.kind B.locl (thn (hi pins s Z H _ I h) λv s1 h1=>thn h1 λitv s2 h2=>?_);refine mj (RR:=λacc C=>Nr (Jj X.prog X.w) X.A X.xe none (EP X pins Z Q) acc C) hc B hg hgk ht hek hev h2 ?_;intro d C v H' s' m' I' hv q hn fC hCd;refine⟨m',hn,λh'' sb=>?_⟩;obtain⟨c0,c1,c2,c3,c4,c5⟩:=fC;exact⟨v,H',I'.turned (it:=C) (t':=s'.toks) (λb o hb e=>(sb.2 b hb).trans e) c0 c1 c3 c4 c5,by rw[hv];rfl,q⟩
end
noncomputable def jV(r:R):Option Key:=match r.t with
 | .im i=>vY i
 | _=>none
noncomputable def zk(ks:List Key) (q:Key):Bool:=ks.any λk=>decide (k=q)
theorem hasK_iff{ks:List Key}{q:Key}:zk ks q=true↔q∈ks:=by
 unfold zk;rw[List.any_eq_true];exact⟨fun⟨k,h1,h2⟩=>of_decide_eq_true h2▸h1,λh=>⟨q,h,decide_eq_true rfl⟩⟩
noncomputable def bJ(fr:List (Option Nat)) (M:List Nat) (g:MG) (c:MT) (ek ev:ME):List R->Rho->List Key->List T->Option ((List Key×List T)×Rho)
 | [],O,ks,ts=>some ((ks,ts),O)
 | r::rs,O,ks,ts=>match g.run (ge (piF fr) r) (inR fr O)with
  | some O1=>(match c.run O1 with
   | some (true,O2)=>(match ek.run O2 with
    | some (rk,O3)=>(match jV rk with
     | some q=>(match ev.run O3 with
      | some (⟨.ow,t⟩,O4)=>if zk ks q=true then none else bJ fr M g c ek ev rs (bU fr M O4 O) (ks++[q]) (ts++[t])
      | _=>none)
     | none=>none)
    | none=>none)
   | some (false,O2)=>bJ fr M g c ek ev rs (bU fr M O2 O) ks ts
   | none=>none)
  | none=>none
noncomputable def km(ks:List Key) (ts:List T):T:=.dc (HM (λk t=>(bZ k,t)) ks ts)
@[irreducible] noncomputable def gZ(fr:List (Option Nat))(it:MI)(g:MG)(c:MT)(ek ev:ME):ME:=⟨λO=>match it.run O with
 | some ((srcs,items),O1)=>if(cA fr O1.length&&cB (g.mu++(c.mu++(ek.mu++ev.mu))) fr.length&&srcs.all (aE (muF fr (g.mu++(c.mu++(ek.mu++ev.mu)))))&&decide (items.length<sizeLine))=true then(match bJ fr (g.mu++(c.mu++(ek.mu++ev.mu))) g c ek ev items O1 [] []with
  | some ((ks,ts),O2)=>some (⟨.ow,km ks ts⟩,O2)
  | none=>none)else none
 | none=>none,it.mu++muF fr (g.mu++(c.mu++(ek.mu++ev.mu)))⟩
theorem iH{α:Type}{q:Key}{v : α}:∀{acc:List (Key × α)},q∉acc.map (·.1)->fg acc q v=acc++[(q,v)]
 | [],_=>rfl
 | p::r,h=>by
  rw[Ek,E8,not_or]at h;rw[fg,if_neg (λz=>h.1 z.symm),iH h.2];rfl
section
variable {Γ:Gm}{H H':Hp}{O:Rho}{Z:St}{E X:List En}{v x y:V}{t:T}{K:yF}{Q:VK}
theorem uY:∀{acc:List (Key×V)} {ts:List T} {F:List Addr},Rps K H ts (acc.map (·.2)) F->Rpk K H (HM (λk t=>(bZ k,t)) (acc.map (·.1)) ts) (acc.map λp=>(bZ p.1,p.2)) F
 | [],[],F,h=>by rw[Rps]at h;rw[FB,List.zipWith_nil_left,Rpk];exact⟨rfl,h.2⟩
 | p::acc,[],F,h=>by rw[Rps]at h;cases h.1
 | [],t::ts,F,h=>by rw[Rps]at h;obtain⟨_,_,_,_,e,_⟩:=h;cases e
 | p::acc,t::ts,F,h=>by
  rw[Rps]at h;obtain⟨x,r,F1,F2,e,h1,h2,rfl⟩:=h;rw[Ek,FG.injEq]at e;obtain⟨rfl,rfl⟩:=e;rw[Ek,Ha,Ek,Rpk];exact⟨p.2,_,F1,F2,rfl,h1,uY h2,rfl⟩
theorem Sim.mkD{acc:List (Key×V)}{ts:List T}{p:Addr}(S:Sim Γ H O Z (au (acc.map (·.2)) ts++E))(hl:acc.length=ts.length)(hp:H p=none):Sim Γ (upd H p (.dK acc)) O Z (⟨none,.ref p,⟨.ow,km (acc.map (·.1)) ts⟩⟩::E):=by
 obtain⟨F,h1,h2,h3,h4⟩:=S.use (by rw[Ej];exact hl);have sm:=IG.laid (o:=.dK acc) hp;have np:p∉F:=λz=>by obtain⟨o,e,_⟩:=h3 p z;rw[hp]at e;cases e
 refine h4 _ (.ref p) (km (acc.map (·.1)) ts) (p::F) (sm.offM _) (λa ha=>let ⟨o,e,_⟩:=h3 a ha;⟨o,sm a o e⟩) (EF.mpr ⟨np,h2⟩) (λa ha=>?_) ?_
 ·rcases ycM ha with rfl|ha;exact⟨.inr hp,_,aA,rfl⟩;exact⟨.inl ha,let ⟨o,e,m⟩:=h3 a ha;⟨o,sm a o e,m⟩⟩
 ·unfold km;rw[Rp];exact⟨p,_,F,rfl,⟨acc,aA,rfl⟩,uY (h1.same sm),rfl⟩
theorem nN{J:It}{fr:List (Option Nat)}{g:TG}{tc:TT}{tk tv:TE}{mg:MG}{c:MT}{ek ev:ME}{M:List Nat}{vs:List V}{srcs:List R}{items:List R}(hK : Γ.K=K)(wk:gP Γ J vs srcs items)(hgk:b9 fr g)(hg:gO K g mg)(hc:dR K tc c)(hek:aP K tk ek)(hev:aP K tv ev)(hM:M=mg.mu++(c.mu++(ek.mu++ev.mu)))
  (hmu:∀j∈M,j<fr.length) (ks:∀e∈ens vs srcs,aB (muF fr M) e=true) {E2:List En} (kE:ah (muF fr M) E2=E2) {ksF:List Key} {tsF:List T} {OF:Rho} (hz:items.length<sizeLine)
  (hf:cA fr O.length=true) (S:Sim Γ H O Z (ens vs srcs++E2)) (hr:bJ fr M mg c ek ev items O [] []=some ((ksF,tsF),OF))
  (q:∀(acc:List (Key×V)) H',acc.map (·.1)=ksF->acc.length=tsF.length->Sim Γ H' OF Z (ens vs srcs++(au (acc.map (·.2)) tsF++E2))->∀d,H' d=none->Q (.ref d) (upd H' d (.dK acc))) :
  ∃W:Nat->Nat->List (Key×V)->Hp->Prop,(∃m,W 0 m [] H)/\∀i m acc H,W i m acc H->acc.length<sizeLine ∧
   ((J.stop i H/\∀d,H d=none->Q (.ref d) (upd H d (.dK acc))) ∨
   (J.go i H/\∃N:List (Key×V)->Hp->Prop,(∀acc' H',N acc' H'->∃m',m'<m/\W (i+1) m' acc' H') ∧
    ∀x H',J.yld i H x H'->g x (aL fr Z) H' λZ2 H2=>tc Z2 H2 λb H3=>if b=true then tk Z2 H3 λy H4=>∃q,y=kV q/\tv Z2 H4 λv H5=>N (fg acc q v) H5 else N acc H3)):=by
 have kE2:∀acc ts,ah (muF fr M) (ens vs srcs++(au acc ts++E2))=ens vs srcs++(au acc ts++E2):=λacc ts=>by rw[ay,b7 ks,ay,cD,kE]
 refine⟨λi m acc H=>m=items.length-i/\i<=items.length/\acc.length<=i/\∃O1 ts,bJ fr M mg c ek ev (items.drop i) O1 (acc.map (·.1)) ts=some ((ksF,tsF),OF)/\acc.length=ts.length/\O1.length=O.length/\Sim Γ H O1 Z (ens vs srcs++(au (acc.map (·.2)) ts++E2)),⟨items.length,by simp,Fd _,Eo _,O,[],by simpa using hr,rfl,rfl,S⟩,?_⟩;rintro i m acc H1 ⟨rfl,hil,hal,O1,ts,h1,hl,hO,S1⟩;refine⟨by omega,?_⟩;obtain⟨w1,w2⟩:=wk H1 O1 Z _ S1;by_cases hlt:i<items.length
 ·have hx:items[i]?=some items[i]:=by simp[hlt]
  obtain⟨w3,w4⟩:=w2 i _ hx;rw[E9 hlt,bJ]at h1;refine .inr ⟨w3,λacc' H'=>acc'.length<=i+1/\∃O1 ts,bJ fr M mg c ek ev (items.drop (i+1)) O1 (acc'.map (·.1)) ts=some ((ksF,tsF),OF)/\acc'.length=ts.length/\O1.length=O.length/\Sim Γ H' O1 Z (ens vs srcs++(au (acc'.map (·.2)) ts++E2)),λacc' H' ⟨ha,O3,ts3,h3,hl3,hO3,S3⟩=>⟨items.length-(i+1),by omega,rfl,hlt,ha,O3,ts3,h3,hl3,hO3,S3⟩,λx H2 y=>?_⟩;have S2:=w4 x H2 y;have hf1:cA fr O1.length=true:=by rw[hO];exact hf
  have S3:=S2.inn hf1;rw[cF]at S3;split at h1
  ·rename_i O2 e2;refine hgk x (aL fr Z) H2 (λZ2 H3=>Kp fr (aL fr Z) Z2->_) _ (λZ2 H3 z kp=>z kp) ?_;refine hg Γ H2 (inR fr O1) (aL fr Z) _ _ x _ O2 hK e2 S3 λZ2 H3 S4 kp=>?_;split at h1
   ·rename_i O3 e3;refine hc Γ H3 O2 Z2 _ _ true O3 hK e3 S4 λH4 S5=>nS ?_;split at h1
    ·rename_i rk O4 e4;split at h1
     ·rename_i q0 e5;refine hek Γ H4 O3 Z2 _ _ _ O4 hK e4 S5 λy0 H5 S6=>?_;have ry:=S6.rd ymS;have ey:y0=kV q0:=by
       obtain⟨kk,tt⟩:=rk;unfold jV at e5;dsimp only at e5;split at e5
       ·rename_i ii;have ry':∃F,Rp Γ.K H5 (.im ii) y0 F:=ry;exact pi e5 (de ry')
       ·cases e5
      refine⟨q0,ey,?_⟩;split at h1
      ·rename_i t O5 e6;split at h1;cases h1
       ·rename_i hnew;refine hev Γ H5 O4 Z2 _ _ _ O5 hK e6 (S6.drop rfl) λw H6 S7=>?_;rw[ae,ae,ae]at S7;have hM':mg.mu++c.mu++ek.mu++ev.mu=M:=by rw[hM,Eu,Eu]
        rw[show mg.mu++(c.mu++(ek.mu++ev.mu))=M from hM.symm]at S7;have S8:Sim Γ H6 O5 Z2 (ah M (cE fr Z O1 (⟨none,w,⟨.ow,t⟩⟩::(ens vs srcs++(au (acc.map (·.2)) ts++E2))))):=by
         rw[cF,ar (show aB M (bn (piF fr) ⟨none,w,⟨.ow,t⟩⟩)=true from rfl)];exact S7
        have hl4 : O5.length=fr.length:=by rw[←S7.len,kp.1,bC]
        have S9:=S8.outt hf1 hmu hl4 kp S1.al S1.len (λe' he' j hj=>by
         rcases ycM he' with rfl|he';cases hj;exact S1.hi e' he' j hj)
        rw[ar (show aB (muF fr M) ⟨none,w,⟨.ow,t⟩⟩=true from rfl),kE2]at S9;rw[iH (λz=>hnew (hasK_iff.mpr z))];refine⟨by simp;omega,_,_,by rw[Es];exact h1,by simp[hl],by rw[f8,hO],?_⟩;rw[Es,show List.map (λx=>x.2) [(q0,w)]=[w]from rfl,jk (by rw[Ej];exact hl),Eu];refine S9.perm ?_;have pp:∀(A B C:List En) (x:En),(x::(A++(B++C))).Perm (A++(B++(x::C))):=λA B C x=>by
         rw[←Eu,←Eu];exact EN.symm
        exact pp _ _ _ _
      ·cases h1
     ·cases h1
    ·cases h1
   ·rename_i O3 e3;refine hc Γ H3 O2 Z2 _ _ false O3 hK e3 S4 λH4 S5=>nR ?_;have S6:=S5.weak (ek.mu++ev.mu);rw[ae,ae]at S6;rw[←hM]at S6;have hl4 : O3.length=fr.length:=by rw[←S6.len,kp.1,bC]
    have S8:=S6.outt hf1 hmu hl4 kp S1.al S1.len S1.hi;rw[kE2]at S8;exact⟨by omega,_,_,h1,hl,by rw[f8,hO],S8⟩
   ·cases h1
  ·cases h1
 ·have ei:i=items.length:=by omega
  subst ei;rw[F7,bJ]at h1;cases h1;exact .inl ⟨w1 _ (Eo _),q acc H1 rfl hl S1⟩
theorem qX{wi:TI}{fr:List (Option Nat)}{g:TG}{tc:TT}{tk tv:TE}{it:MI}{mg:MG}{c:MT}{ek ev:ME}(hi:jJ K wi it)(hgk:b9 fr g)(hg:gO K g mg)(hc:dR K tc c)(hek:aP K tk ek)(hev:aP K tv ev):aP K (vc wi fr g tc tk tv) (gZ fr it mg c ek ev):=by
 intro Γ H O Z E Q r O' hK hr S q;simp only[gZ]at hr q;split at hr
 ·rename_i srcs items O1 e1;split at hr
  ·rename_i hb;simp only[Ei,decide_eq_true_eq]at hb;obtain⟨⟨⟨b1,b2⟩,b3⟩,b5⟩:=hb;split at hr
   ·rename_i ksF ts O2 e2;cases hr;refine hi Γ H O Z E _ srcs items O1 hK e1 S λΓ hK2 bk J vs H1 hlv S1 wk=>?_;replace hK:=hK2.trans hK;replace q:=λv H' S=>q v H' (bk _ _ _ _ S);rw[←ae]at q;generalize ah it.mu E=E1 at q S1;have ks:∀e'∈ens vs srcs,aB (muF fr (mg.mu++(c.mu++(ek.mu++ev.mu)))) e'=true:=iq b3;have S2:=S1.weak (muF fr (mg.mu++(c.mu++(ek.mu++ev.mu))));rw[ay,b7 ks]at S2;have kE:=b8 (M:=muF fr (mg.mu++(c.mu++(ek.mu++ev.mu)))) (N:=muF fr (mg.mu++(c.mu++(ek.mu++ev.mu)))) (λj hj=>hj) E1;generalize ah (muF fr (mg.mu++(c.mu++(ek.mu++ev.mu)))) E1=E2 at q S2 kE;refine nN hK wk hgk hg hc hek hev rfl (iA b2) ks kE b5 b1 S2 e2 λacc H' hk hl S3 d hd=>?_;subst hk;exact q _ _ (S3.drops.mkD hl hd)
   ·cases hr
  ·cases hr
 ·cases hr
end
section
variable {ι : Type}{C:ι->Cx}{P:Jq}{W:JB}{K:yF}{mg:Str->Option Jd}{base:Heap}{k:Nat}{kx vx tg iter:Expr}{ifs:List Expr}{scope:JW}{pos:Pos}{it:MI}{g:MG}{mt:MT}{mk mv:ME}
theorem xb{N':List Str}{f:List (Option Nat)}(ck:CK C P W K mg base k)(hB:∀i,Blk (C i).env.scope scope (C i).N N' f)(hi:QI C K tg iter it)(hg:QG (gJ C scope N') K (some f) tg g)(ht:QTs (gJ C scope N') K ifs mt)(hek:QE (gJ C scope N') K kx mk)(hev:QE (gJ C scope N') K vx mv)(hs:∀i x,Jt iter (C i).env x=pure x:=by intro _ _;rfl) :
  QE C K (.DictComp kx vx [⟨tg,iter,ifs,0⟩] scope pos) (gZ f it g mt mk mv):=by
 obtain⟨wi,p0,r0⟩:=hi;obtain⟨gg,p1,r1,kk⟩:=hg;obtain⟨tt,p2,r2⟩:=ht;obtain⟨te,p3,r3⟩:=hek;obtain⟨te',p4,r4⟩:=hev;exact⟨_,λi=>tG (ck.calm i) (hB i) (p0 i) (λb=>p1 (i,b)) (kk f rfl) (λb=>p2 (i,b)) (λb=>p3 (i,b)) (λb=>p4 (i,b)) (hs i),qX r0 (kk f rfl) r1 r2 r3 r4⟩
end
section
variable {O:Rho}{it:MI}{g:MG}{ct:MT}{ek ev:ME}{QE':R->Rho->Prop}
theorem iR{fr:List (Option Nat)}{M:List Nat}{items:List R}{QC:List Key×List T->Rho->Prop}(Inv:Nat->List Key->List T->Rho->Prop)
  (hs:∀i r ks ts O,items[i]?=some r->Inv i ks ts O->WG g (ge (piF fr) r) (inR fr O) λO1=>WT ct O1 λbb O2=>(bb=true->WE ek O2 λrk O3=>∃q,jV rk=some q/\q∉ks/\WE ev O3 λr O4=>∃t,r=⟨.ow,t⟩/\Inv (i+1) (ks++[q]) (ts++[t]) (bU fr M O4 O))/\(bb=false->Inv (i+1) ks ts (bU fr M O2 O)))
  (he:∀ks ts O,Inv items.length ks ts O->QC (ks,ts) O):∀(l:List R) (i:Nat) (ks:List Key) (ts:List T) (O:Rho),items.drop i=l->i<=items.length->Inv i ks ts O->W2 (bJ fr M g ct ek ev l O ks ts) QC
 | [],i,ks,ts,O,hl,hi,hI=>by
  have:i=items.length:=by have:=congrArg FK hl;simp at this;omega
  subst this;exact⟨_,_,rfl,he ks ts O hI⟩
 | r::l,i,ks,ts,O,hl,hi,hI=>by
  have hr:items[i]?=some r:=by rw[←Gz,hl];rfl
  have hlt:=(Eg.mp hr).1;have hl':items.drop (i+1)=l:=by rw[←GI,hl];rfl
  obtain⟨O1,e1,bb,O2,e2,q1,q2⟩:=hs i r ks ts O hr hI;cases bb with
  | true=>
   obtain⟨rk,O3,e3,q0,ek0,hn,r',O4,e4,t,rfl,q⟩:=q1 rfl;simp only[bJ,e1,e2,e3,ek0,e4];rw[if_neg (λz=>hn (hasK_iff.mp z))];exact iR Inv hs he l (i+1) _ _ _ hl' hlt q
  | false=>
   simp only[bJ,e1,e2];exact iR Inv hs he l (i+1) _ _ _ hl' hlt (q2 rfl)
theorem xX{fr:List (Option Nat)} (h:WI it O λsrc items O1=>Gu (cA fr O1.length&&cB (g.mu++(ct.mu++(ek.mu++ev.mu))) fr.length&&src.all (aE (muF fr (g.mu++(ct.mu++(ek.mu++ev.mu)))))) (items.length<sizeLine/\∃Inv:Nat->List Key->List T->Rho->Prop,Inv 0 [] [] O1 ∧
  (∀i r ks ts O,items[i]?=some r->Inv i ks ts O->WG g (ge (piF fr) r) (inR fr O) λO1=>WT ct O1 λbb O2=>(bb=true->WE ek O2 λrk O3=>∃q,jV rk=some q/\q∉ks/\WE ev O3 λr O4=>∃t,r=⟨.ow,t⟩/\Inv (i+1) (ks++[q]) (ts++[t]) (bU fr (g.mu++(ct.mu++(ek.mu++ev.mu))) O4 O))/\(bb=false->Inv (i+1) ks ts (bU fr (g.mu++(ct.mu++(ek.mu++ev.mu))) O2 O))) ∧
  ∀ks ts O,Inv items.length ks ts O->QE' ⟨.ow,km ks ts⟩ O)):WE (gZ fr it g ct ek ev) O QE':=by
 obtain⟨src,items,O1,e1,al,hl,Inv,h0,hs,he⟩:=h;obtain⟨⟨ks,ts⟩,O2,e,q⟩:=iR (QC:=λp O=>QE' ⟨.ow,km p.1 p.2⟩ O) Inv hs he items 0 [] [] O1 rfl (Fd _) h0;refine⟨⟨.ow,km ks ts⟩,O2,?_,q⟩;simp only[gZ,e1];rw[if_pos (by rw[Ei];exact⟨al,decide_eq_true hl⟩)];simp only[e]
end
@[irreducible] noncomputable def sH:ME:=⟨λO=>some (⟨.ow,.dc []⟩,O),[]⟩
noncomputable def ixD(ra:R) (q:Key):Option R:=match ra.t with
 | .dc kvs=>(match bW kvs (bZ q)with
  | some s=>ixP ra.k (some (.ky (bZ q))) s
  | none=>none)
 | _=>none
@[irreducible] noncomputable def eQ(a b:ME):ME:=⟨λO=>match a.run O with
 | some (ra,O1)=>match b.run O1 with
  | some (rb,O2)=>if aE b.mu ra=true then(match jV rb with
   | some q=>(match ixD ra q with
    | some r=>some (r,O2)
    | none=>none)
   | none=>none)else none
  | none=>none
 | none=>none,a.mu++b.mu⟩
noncomputable def mn(s:T) (q:Key) (tv:T):Option T:=match s with
 | .dc kvs=>(match bW kvs (bZ q)with
  | some _=>none
  | none=>if kvs.length<sizeLine then some (.dc (kvs++[(bZ q,tv)]))else none)
 | _=>none
@[irreducible] noncomputable def i6(j:Nat)(o i:ME):MG:=⟨λr O=>match r with
 | ⟨.ow,tv⟩=>match o.run O with
  | some (⟨.vw (some j') (some p),s⟩,O1)=>match i.run O1 with
   | some (ri,O2)=>if(decide (j'=j) && !i.mu.contains j)=true then(match jV ri with
    | some q=>(match mn s q tv with
     | some s'=>(match O2[j]? with
      | some (some ⟨k,t⟩)=>if k.isOw=true then some ((ao [j] O2).set j (some ⟨k,t.put p s'⟩))else none
      | _=>none)
     | none=>none)
    | none=>none)else none
   | none=>none
  | _=>none
 | _=>none,(o.mu++i.mu)++[j]⟩
section
variable {Γ:Gm}{H H':Hp}{O:Rho}{Z:St}{E:List En}{v x y:V}{t:T}{K:yF}{Q:VK}
theorem pj{rk:R}{q:Key}{y:V}(e:jV rk=some q)(h:∃F,Rp K H rk.t y F):y=kV q:=by
 obtain⟨kk,tt⟩:=rk;unfold jV at e;dsimp only at e h;split at e;exact pi e (de h);cases e
theorem jY{q:Key}{w:V}:∀{zs:List (Key×V)},bW (zs.map λp=>(bZ p.1,p.2)) (bZ q)=some w->nz zs q=some w
 | [],e=>by cases e
 | z::zs,e=>by
  rw[Ek,bW]at e;split at e
  ·rename_i h;cases e;exact nB (sA h)
  ·rename_i h;rw[nA λz=>h (by rw[z])];exact jY e
theorem kQ{q:Key}{w:V}:∀{kvs:List (I×T)} {zs:List (Key×V)} {F:List Addr},Rpk K H kvs (zs.map λp=>(bZ p.1,p.2)) F->bW kvs (bZ q)=none->q∉zs.map (·.1)
 | [],zs,F,h,_=>by
  rw[Rpk]at h;have:zs=[]:=FP.mp h.1;subst this;simp
 | (k',d)::ds,zs,F,h,e=>by
  rw[Rpk]at h;obtain⟨x,r,F1,F2,h1,h2,h3,rfl⟩:=h;cases zs with
  | nil=>cases h1
  | cons z zs=>
   rw[Ek,FG.injEq,Prod.mk.injEq]at h1;obtain⟨⟨rfl,rfl⟩,rfl⟩:=h1;rw[bW]at e;split at e;cases e
   ·rename_i hk;rw[Ek,E8,not_or];exact⟨λz'=>hk (by rw[z']),kQ (w:=w) h3 e⟩
theorem Sim.ixD{k:Kd}{kvs:List (I×T)}{s:T}{q:Key}{r:R}(S:Sim Γ H O Z (⟨none,x,⟨k,.dc kvs⟩⟩::E))(hj:bW kvs (bZ q)=some s)(hr:L2.ixP k (some (.ky (bZ q))) s=some r) :
  ∃w,(∀Q:VK,Q w H->dgR x (kV q) H Q)/\Sim Γ H O Z (⟨none,w,r⟩::E):=by
 have gen:∀F,Rp Γ.K H (.dc kvs) x F->∃w A G B,(∀Q:VK,Q w H->dgR x (kV q) H Q)/\Rp Γ.K H s w G/\F=A++G++B:=λF rp=>by
  rw[Rp]at rp;obtain⟨a,ys,F',rfl,⟨zs,hz,rfl⟩,h3,rfl⟩:=rp;obtain⟨w,A,G,B,h4,h5,h6,_⟩:=h3.at hj;exact⟨w,a::A,G,B,λQ q'=>⟨a,w,rfl,⟨zs,q,.inl hz,rfl,(jY h4).symm⟩,q'⟩,h5,by rw[h6];simp⟩
 have hview:∀ro p,k=.vw ro p->∃w,(∀Q:VK,Q w H->dgR x (kV q) H Q)/\Sim Γ H O Z (⟨none,w,⟨.vw ro none,s⟩⟩::E):=λro p hk=>by
  obtain⟨w,h1,S2⟩:=S.part (e:=⟨none,x,⟨k,.dc kvs⟩⟩) ymS hk (P:=λw=>∀Q:VK,Q w H->dgR x (kV q) H Q) (s:=s) (λF rp=>by
   obtain⟨w,A,G,B,h1,h2,h3⟩:=gen F rp;exact⟨w,G,h1,h2,λa ha=>by rw[h3];exact yaL _ (yaR _ ha)⟩)
  exact⟨w,h1,S2.swap.drop rfl⟩
 have main:∀k',ixK k (some (.ky (bZ q)))=some k'->∃w,(∀Q:VK,Q w H->dgR x (kV q) H Q)/\Sim Γ H O Z (⟨none,w,⟨k',s⟩⟩::E):=λk' hk'=>by
  cases k with
  | ow=>
   cases hk';exact S.takeO gen
  | io m=>cases hk'
  | vw ro p=>
   cases ro with
   | none=>
    cases hk';exact hview none p rfl
   | some i=>
    cases p with
    | none=>cases hk';exact hview (some i) none rfl
    | some p=>
     cases hk';obtain⟨w,h1,S2⟩:=S.partP (e:=⟨none,x,⟨.vw (some i) (some p),.dc kvs⟩⟩) ymS rfl (a:=.ky (bZ q)) (s:=s) hj;refine⟨w,λQ q'=>?_,S2.swap.drop rfl⟩;obtain⟨a,ys,ex,⟨zs,hz,rfl⟩,g2⟩:=h1;exact⟨a,w,ex,⟨zs,q,.inl hz,rfl,(jY g2).symm⟩,q'⟩
 cases s with
 | im i=>
  cases hr;obtain⟨F,rp⟩:=S.rd ymS;obtain⟨w,A,G,B,h1,h2,_⟩:=gen F rp;exact⟨w,h1,(S.drop rfl).imm (aX h2).1⟩
 | _=>
  simp only[L2.ixP]at hr;split at hr;rename_i k' e;cases hr;exact main k' e;cases hr
theorem uI{ta tb:TE}{a b:ME}(ha:aP K ta a)(hb:aP K tb b):aP K (tOp dgR ta tb) (eQ a b):=by with_unfolding_all
 intro Γ H O Z E Q r O' hK hr S q;simp only[eQ]at hr;split at hr
 ·rename_i ra O1 e1;split at hr
  ·rename_i rb O2 e2;split at hr
   ·rename_i al;split at hr
    ·rename_i q0 e4;split at hr
     ·rename_i r0 e3;cases hr;refine ha Γ H O Z E _ ra O1 hK e1 S λx H1 S1=>?_;refine hb Γ H1 O1 Z _ _ rb _ hK e2 S1 λy H2 S2=>?_;rw[ar (bt al),ae]at S2;have ey:=pj e4 (S2.rd ymS);have S3:=S2.drop rfl;obtain⟨k0,t0⟩:=ra;unfold L2.ixD at e3;dsimp only at e3;split at e3
      ·split at e3
       ·rename_i kvs s e5;obtain⟨w,h1,S4⟩:=Sim.ixD S3 e5 e3;have ey':y=kV q0:=ey;subst ey';exact h1 Q (q w _ S4)
       ·cases e3
      ·cases e3
     ·cases hr
    ·cases hr
   ·cases hr
  ·cases hr
 ·cases hr
theorem xx:aP K vd sH:=by with_unfolding_all
 intro Γ H O Z E Q r O' hK hr S q;simp only[sH]at hr q;cases hr;refine λp hp=>q _ _ ?_;rw[bD];have:=Sim.mkD (acc:=[]) (ts:=[]) (p:=p) (E:=E) (by exact S) rfl hp;exact this
theorem pG{k:I}{tv:T}{v:V}{F2:List Addr}(hv:Rp K H tv v F2):∀{kvs:List (I×T)} {ys:List (I×V)} {F:List Addr},Rpk K H kvs ys F->Rpk K H (kvs++[(k,tv)]) (ys++[(k,v)]) (F++F2)
 | [],ys,F,h=>by
  rw[Rpk]at h;obtain⟨rfl,rfl⟩:=h;show Rpk K H [(k,tv)] [(k,v)] F2;rw[Rpk];exact⟨v,[],F2,[],rfl,hv,by rw[Rpk];exact⟨rfl,rfl⟩,by simp⟩
 | (k',d)::ds,ys,F,h=>by
  rw[Rpk]at h;obtain⟨x,r,F1,F3,rfl,h2,h3,rfl⟩:=h;rw[EC,EC,Rpk];exact⟨x,_,F1,F3++F2,rfl,h2,pG hv h3,by rw[Eu]⟩
theorem qY{to ti:TE}{o i:ME}{j:Nat}(ho:aP K to o)(hi:aP K ti i):gO K (zh to ti yG) (i6 j o i):=by with_unfolding_all
 intro Γ H O Z E Q v r O' hK hr S q;simp only[i6]at hr q;split at hr
 ·rename_i tv;split at hr
  ·rename_i j' p s O1 e1;split at hr
   ·rename_i ri O2 e2;split at hr
    ·rename_i hc;rw[Ei,decide_eq_true_eq,EM]at hc;obtain⟨rfl,hmv⟩:=hc;split at hr
     ·rename_i q0 e5;split at hr
      ·rename_i s' e3;split at hr
       ·rename_i k t e4;split at hr
        ·rename_i hw;cases hr;refine ho Γ H O Z _ _ _ _ hK e1 S λx H1 S1=>?_;refine hi Γ H1 O1 Z _ _ _ _ hK e2 S1 λy H2 S2=>?_;have k1:aB i.mu ⟨none,x,⟨.vw (some j') (some p),s⟩⟩=true:=by unfold aB;simp only[Kd.root];rw[hmv];rfl
         have k2:∀M:List Nat,aB M ⟨none,v,⟨.ow,tv⟩⟩=true:=λM=>rfl;rw[ar k1,ae,ar (k2 _)]at S2;have ey:y=kV q0:=pj e5 (S2.rd ymS);subst ey;have S3:=S2.drop rfl;obtain⟨G,F,h1,h2,h3,h4,h5⟩:=Sim.mut (vs:=[v]) (ts:=[tv]) (S3.perm (List.Perm.swap _ _ _)) rfl e4 hw;unfold mn at e3;split at e3
         ·rename_i kvs;split at e3;cases e3
          ·rename_i hnone;split at e3
           ·rename_i hz;cases e3;rw[Rp]at h1;obtain⟨a,ys,F',rfl,⟨zs,hzs,rfl⟩,g1,rfl⟩:=h1;obtain⟨z,ez,g3⟩:=nh h2;cases ez;have hnew:=kQ (w:=v) g1 hnone;have hlen:zs.length=kvs.length:=by
             have:∀{kvs:List (I×T)} {ys:List (I×V)} {F:List Addr},Rpk Γ.K H2 kvs ys F->ys.length=kvs.length:=by
              intro kvs
              induction kvs with
              | nil=>intro ys F h;rw[Rpk]at h;rw[h.1];rfl
              | cons p kvs ih=>intro ys F h;obtain⟨pk,pt⟩:=p;rw[Rpk]at h;obtain⟨x,r,F1,F2,rfl,_,h3,_⟩:=h;rw[Ey,Ey,ih h3]
             have:=this g1;rwa [Ej]at this
            refine⟨a,zs,q0,rfl,rfl,hzs,by rw[iH hnew,Et];show zs.length+1<=sizeLine;omega,q Z _ ?_⟩;rw[iH hnew];have ha:a∉F'++F:=by
             rw[EC]at h3;exact(EF.mp h3).1
            have hM:∀b∈[a],Mu H2 b:=λb hb=>by rw[ysM hb];exact⟨_,hzs,rfl⟩
            have off:Iy [a] H2 (upd H2 a (.dK (zs++[(q0,v)]))):=Iy.upd;have nin:∀b∈F'++F,b∉[a]:=λb hb z=>ha (ysM z▸hb);have:=h5 (upd H2 a (.dK (zs++[(q0,v)]))) (.dc (kvs++[(bZ q0,tv)])) (a::(F'++F)) (off.mono λb hb=>by rw[ysM hb];exact ymS) (λb hb=>by
              by_cases e:b=a;subst e;exact⟨_,aA⟩
              ·obtain⟨o,eo,_⟩:=h4 b (yaL _ hb);exact⟨o,by rw[aN e];exact eo⟩) (by rw[EC]at h3;exact h3) (λb hb=>by
              refine⟨.inl (by rw[EC];exact hb),?_⟩;by_cases e:b=a;subst e;exact⟨_,aA,rfl⟩
              ·obtain⟨o,eo,mo⟩:=h4 b (by rw[EC];exact hb);exact⟨o,by rw[aN e];exact eo,mo⟩) (by
              rw[Rp];refine⟨a,_,F'++F,rfl,⟨_,aA,rfl⟩,?_,rfl⟩;rw[Es];exact pG (Rp.off off hM (λb hb=>nin b (yaR _ hb)) g3) (Rpk.off off hM (λb hb=>nin b (yaL _ hb)) g1))
            rw[ae]at this;exact this
           ·cases e3
         ·cases e3
        ·cases hr
       ·cases hr
      ·cases hr
     ·cases hr
    ·cases hr
   ·cases hr
  ·cases hr
 ·cases hr
end
section
variable {ι : Type}{C:ι->Cx}{P:Jq}{W:JB}{K:yF}{mg:Str->Option Jd}{base:Heap}{k:Nat}{a b e o:Expr}{ma mb mo mi:ME}{pos:Pos}
theorem Ax(ck:CK C P W K mg base k)(ha:QE C K a ma)(hb:QE C K b mb)(hs:yQ b:=by intro _ _;rfl):QE C K (.Subscript a b pos) (eQ ma mb):=by
 obtain⟨ta,p,r⟩:=ha;obtain⟨tb,p',r'⟩:=hb;exact⟨_,λi=>wG (BN (ck.room i)) (p i) (p' i) hs,uI r r'⟩
theorem Cw:QE C K (.Dict [] [] pos) sH:=⟨_,λ_=>tH,xx⟩
theorem um(j:Nat)(ho:QE C K o mo)(hi:QE C K e mi)
  (ha:∀i v,Kh (.Subscript o e pos) (C i).env v=(do
   let ov ←JR [v] (eval o (C i).env)
   let iv ←JR [v,ov] (eval e (C i).env)
   Ki pos
   JR [v,ov,iv] (Lg ov iv v)
   M8 [v,ov,iv] []):=by intro _ _;rfl):QG C K none (.Subscript o e pos) (i6 j mo mi):=by
 obtain⟨to,p,r⟩:=ho;obtain⟨ti,p',r'⟩:=hi;exact⟨_,λi=>tL (p i) (p' i) u6 (ha i),qY r r',λf h=>by cases h⟩
end
open AutoSeq1 (wpAny_loadPart')
open MeetsSeq MeetsSeq2 MeetsSeq3 SeqRoads2
theorem ko(l:Addr)(items:Array Jd)(n:Nat)(x:Jd)(e:Jd->Bool)(j:Nat)(hj:j<items.size)(hit:e items[j]=true)(k:Nat)(hs1:items.size<=sizeLine) :
  ∀i:Nat,j-i=k->i<=j->(∀m (hm:m<items.size),i<=m->m<j->e items[m]=false)->NS (Jl.«list.remove.loop» ⟨[.ref l,x,rawInt i],[]⟩)
   (λA R s=>s.heap.get? l=some {cls:=.type "list",dict:=none,data:=.seq items n,slots:=#[]}/\(∀y,y∈items->Jz A.in1 s y x (e y))/\R (.ok (.ret .none)) {s with heap:=s.heap.update l (Kj λxs=>xs.eraseIdxIfInBounds j)}):=by
 induction k with
 | zero=>
  intro i hk hij hno prog w A R s h;obtain⟨hp,g,d,tk,os⟩:=s;obtain⟨hl,he,h⟩:=h;have hij':i=j:=by omega
  subst hij';wp_walk using KO hl
  have hi:items[((i:Nat):Int).toNat]?=some items[i]:=by simp[hj]
  rw[hi];refine Je (he _ (HN hj) prog w _ _ ?_);rw[hit];have hz':(items.eraseIdxIfInBounds i).size<=sizeLine+1:=ER (size_erased items _) (Nat.le_succ_of_le hs1);wp_walk using(LK hl rfl (hz:=hs1) (_hz':=hz')),KO hl
  simpa using h
 | succ k ih=>
  intro i hk hij hno prog w A R s h;obtain⟨hp,g,d,tk,os⟩:=s;obtain⟨hl,he,h⟩:=h;have hlt:i<items.size:=by omega
  wp_walk using KO hl
  have hi:items[((i:Nat):Int).toNat]?=some items[i]:=by simp[hlt]
  have hc:((i:Int)+1)=((i+1:Nat):Int):=by push_cast;rfl
  rw[hi];refine Je (he _ (HN hlt) prog w _ _ ?_);rw[hno i hlt (Eo _) (by omega)];wp_walk
  rw[hc];exact⟨Mi Ku _,KP MJ (by
   rw[Kk Ku _];exact ih (i+1) (by omega) (by omega) (λm hm h1 h2=>hno m hm (by omega) h2) prog w A R _ ⟨hl,he,h⟩)⟩
theorem kj(l:Addr)(items:Array Jd)(n:Nat)(x:Jd)(e:Jd->Bool)(j:Nat)(hj:j<items.size)
  (hit:e items[j]=true) (hno:∀m (hm:m<items.size),m<j->e items[m]=false) (hs1:items.size<=sizeLine) :
  NS (Jl.«list.remove» ⟨[.ref l,x],[]⟩)
   (λA R s=>s.heap.get? l=some {cls:=.type "list",dict:=none,data:=.seq items n,slots:=#[]}/\(∀y,y∈items->Jz A.in1 s y x (e y))/\R (.ok (.ret .none)) {s with heap:=s.heap.update l (Kj λxs=>xs.eraseIdxIfInBounds j)}):=by
 intro prog w A R s h;obtain⟨hp,g,d,tk,os⟩:=s;obtain⟨hl,he,h⟩:=h;wp_walk using KO hl
 exact⟨Mi Ku _,KP MJ (by
  rw[Kk Ku _];exact ko l items n x e j hj hit _ hs1 0 rfl (Fd _) (λm hm _ h2=>hno m hm h2) prog w A R _ ⟨hl,he,h⟩)⟩
section
variable {X:Cx}
def uz(K:yF):V->List V->Hp->VK->Prop:=λx vs H Q=>∃l xs y d ds k,x=.ref l/\vs=[y]/\H l=some (.lst xs)/\Rep K H d y/\IA K H ds xs/\aJ ds<=50/\ds[k]?=some d/\d∉ds.take k/\Q .non (upd H l (.lst (xs.eraseIdx k)))
theorem nP{pins:List (Addr×Obj)}{Z:St}{H:Hp}{s:Jf}(I:Inv X pins Z H s){d:D}:∀{ds:List D} {xs:List V} {us:List Jd} {k:Nat} {e:D} {u:Jd},IA X.K H ds xs->Vals xs us->ds[k]?=some e->us[k]?=some u->(isD X.K H d u=true↔d=e)
 | [],xs,us,k,e,u,h,r,he,hu=>by cases he
 | e0::ds,xs,us,k,e,u,h,r,he,hu=>by
  rw[IA]at h;obtain⟨x,q,rfl,h2,h3⟩:=h;cases r with
  | @cons _ u0 _ us0 r1 r2=>
   cases k with
   | zero=>
    cases he;cases hu;rw[lI];constructor
    ·rintro⟨v,rv,hv⟩;rw[rv.inj r1]at hv;exact Rep.inj I hv h2
    ·intro z;subst z;exact⟨x,r1,h2⟩
   | succ k=>exact nP I h3 r2 (by simpa using he) (by simpa using hu)
theorem wo(hu:X.A.units+64<JP):MtR X "list.remove" (uz X.K):=by
 intro pins s Z H x vs v us Q I rx rv h;obtain⟨l,xs,y,d,ds,k,rfl,rfl,hH,hd,hds,hdp,hk,hno,q⟩:=h;cases rx;obtain⟨u,rfl,ru⟩:=rv.one;obtain⟨z,its,n,r,hl,e⟩:=I.lstM hH;have hu':X.A.in1.units+aJ ds<JP:=by show X.A.units+1+aJ ds<JP;omega
 have ll:its.length=ds.length:=by rw[←r.length,hds.length]
 have hkl:k<ds.length:=(Eg.mp hk).1;refine JO F.slot_list_remove ⟨_,e,rfl⟩ F.entry_list_remove (F.args_list_remove_2 _ _)
  (kj l its.toArray n u (isD X.K H d) k (by rw[Eh];omega) ?_ ?_ (by rw[Eh];omega)) ⟨e,λy' hy=>eK I hd ru hu' (λ_ z=>z) hds r y' (by simpa using hy),?_⟩
 ·exact(nP I hds r hk (by simp)).mpr rfl
 ·intro m hm hmk;have hm':m<ds.length:=by rw[Eh]at hm;omega
  rw[←Gr];intro t;have:=(nP I hds r (k:=m) (e:=ds[m]) (by simp) (by simp)).mp t;refine hno ?_;rw[this];exact F8.mpr ⟨m,by omega,rfl⟩
 ·refine⟨.non,_,I.lset (its':=its.eraseIdx k) hH e ?_ (r.eraseIdx k) ?_,rfl,q⟩
  ·show its.toArray.eraseIdxIfInBounds k=(its.eraseIdx k).toArray;rw[FO]
  ·have:=iW xs k;omega
end
theorem gL{prog:Jq}{w:JB}{A:Jw}{E:Jd->Jf->Prop}{s:Jf}{Q:List Jd->Jf->Prop}{r:Addr}{a b c:Int}{t u v:Tok}{n:Nat}(hh:A.handled=none)(hr:Mx s.heap r a b c t u v)(hsmall:KT a b c=true)
  (hn:Ka a b c=n) (hlen:n<=2^24)
  (hQ:∀h' tk (acc:Array Jd),(∀b o,s.heap.get? b=some o->h'.get? b=some o)->Nb (λi v=>∃t,v=.int (a+i*c) t) acc n->Q acc.toList {s with heap:=h',toks:=tk}) :
  Jk (Jj prog w) A (collect (.ref r)) Q E s:=by
 have key:∀R:LA->Jf->Prop,(∀h' tk (acc':Array Jd) c',(∀b o,s.heap.get? b=some o->h'.get? b=some o)->h'.get? s.heap.objs.size=some {cls:=.type "list",dict:=none,data:=.seq acc' c',slots:=#[]}->Nb (λi v=>∃t,v=.int (a+i*c) t) acc' n->R (.ok (.ret (.ref s.heap.objs.size))) {s with heap:=h',toks:=tk}) →
   JN (Jj prog w) A (.builtin "proto.collect" ⟨[.ref r],[]⟩) R s:=λR hR=>by
  refine KP F.entry_proto_collect ?_;rw[Kk F.plain_proto_collect _];show Jk _ A.in1 (NM [] >>= λl=>again (.builtin "list.__iadd__" ⟨[l,.ref r],[]⟩)) _ _ s;refine Je (Js ?_);refine Jh ⟨Mi MK _,KP F.entry_list_iadd ?_⟩;rw[Kk MK _];have hS₁ : (s.heap.push {cls:=.type "list",data:=.seq ([]:List Jd).toArray}).get? s.heap.objs.size=some {cls:=.type "list",data:=.seq ([]:List Jd).toArray}:=Jn _ rfl;show Jk _ A.in1 (Nc (.ref s.heap.objs.size) (.ref r) (.ref s.heap.objs.size)) _ _ _;exact @wpAny_extend_range prog w A {s with heap:=s.heap.push {cls:=.type "list",data:=.seq ([]:List Jd).toArray}} R r a b c t u v n hh (Jg _ hr) hsmall hn hlen s.heap.objs.size (.ref s.heap.objs.size) 0 hS₁ λh' tk acc' c' hk hS' hacc=>hR h' tk acc' c' (λb o e=>hk b o (EW (Jm e)) (Jg _ e)) hS' hacc
 unfold collect;refine Je (wpAny_runValue (key _ λh' tk acc' c' hk hS' hacc=>?_));show Jk _ A (load s.heap.objs.size >>= _) _ _ _;refine Je (wpAny_load hS' ?_);exact Jh (hQ h' tk acc' hk hacc)
theorem fQ(r:Addr){a b c:Int}{t u v:Tok}{n:Nat}(hsmall:KT a b c=true)(hn:Ka a b c=n)(hlen:n<=2^24)(hsz:n<=sizeLine) :
  NS (Jl.«tuple.__new__» ⟨[.type "tuple",.ref r],[]⟩)
   (λA R s=>A.handled=none/\Mx s.heap r a b c t u v/\∀(h':Heap) (tk:Nat) (acc:Array Jd),(∀b o,s.heap.get? b=some o->h'.get? b=some o)->Nb (λi v=>∃t,v=.int (a+i*c) t) acc n →
    R (.ok (.ret (.ref h'.objs.size))) {s with heap:=h'.push {cls:=.type "tuple",data:=.seq acc},toks:=tk}):=
 .of_wp λprog w A R s h=>by
  obtain⟨hh,hr,h⟩:=h;have hsub:=sub_tuple_self;have hinit:=init_tuple_lookup;have hmh:=madeHere_tuple;have hT:s.TypeIs (.ref r) "range" :=⟨_,hr,rfl⟩;have hh1:A.in1.handled=none:=hh;wp_walk using KW hT,gL hh1 hr hsmall hn hlen
  intro h' tk acc hk hacc;show Jk _ _ (Jr acc.toList.toArray >>= λv=>ret v) _ _ _;unfold Jr;refine Je (Js ?_ (show acc.toList.toArray.size<=sizeLine by simp only[Gx];rw[hacc.1];exact hsz));refine Jh ⟨_,rfl,?_⟩;have e:acc.toList.toArray=acc:=by simp
  rw[e];exact h h' tk acc hk hacc
theorem iN{prog:Jq}{w:JB}{A:Jw}{E:Jd->Jf->Prop}{s:Jf}{Q:Jd->Jf->Prop}{r:Addr}{a b c:Int}{t u v:Tok}{n:Nat}(hh:A.handled=none)(hr:Mx s.heap r a b c t u v)(hsmall:KT a b c=true)
  (hn:Ka a b c=n) (hlen:n<=2^24) (hsz:n<=sizeLine)
  (h:∀(h':Heap) (tk:Nat) (acc:Array Jd),(∀b o,s.heap.get? b=some o->h'.get? b=some o)->Nb (λi v=>∃t,v=.int (a+i*c) t) acc n->Q (.ref h'.objs.size) {s with heap:=h'.push {cls:=.type "tuple",data:=.seq acc},toks:=tk}) :
  Jk (Jj prog w) A (call (.type "tuple") [.ref r]) Q E s:=
 callType_new F.called_tuple (by decide) (F.typeCall_tuple_1 _) (F.newCall_tuple_1 _) (λobj=>F.args_object_init_2 obj _) F.entry_tuple_new
  (fQ r hsmall hn hlen hsz) ⟨hh,hr,λh' tk acc hk hacc=>⟨⟨_,Jn _ rfl,rfl⟩,h h' tk acc hk hacc⟩⟩
noncomputable def kq(n:Nat):List V:=(EU n).map λi:Nat=>V.int (i:Int)
theorem ng{n:Nat}{acc:Array Jd}(h:Nb (λi v=>∃t,v=.int (0+i*1) t) acc n):Vals (kq n) acc.toList:=by
 have key:∀(us:List Jd) (k:Nat),(∀i v,us[i]?=some v->∃t,v=LW (((k+i:Nat):Int)) t)->Vals ((EU us.length).map λi:Nat=>V.int ((k+i:Nat):Int)) us:=by
  intro us
  induction us with
  | nil=>intro k _;exact .nil
  | cons u us ih=>
   intro k hk;rw[Ey,G6,Ek,FM];refine .cons ?_ ?_
   ·obtain⟨t,e⟩:=hk 0 u rfl;rw[e];exact⟨t,rfl⟩
   ·have:=ih (k+1) λi v e=>by
     obtain⟨t,e'⟩:=hk (i+1) v (by simpa using e);exact⟨t,by rw[e'];congr 1;omega⟩
    have e2:((λi:Nat=>V.int ((k+i:Nat):Int))∘Nat.succ)=λi:Nat=>V.int ((k+1+i:Nat):Int):=by funext i;show V.int _=V.int _;congr 2;omega
    rw[e2];exact this
 have:=key acc.toList 0 λi v e=>by
  obtain⟨t,e'⟩:=h.2 i v (by rw[←Gp];exact e);exact⟨t,by rw[e'];congr 1;simp⟩
 have hl:acc.toList.length=n:=by rw[Fv];exact h.1
 rw[hl]at this;have e:(λi:Nat=>V.int ((0+i:Nat):Int))=λi:Nat=>V.int (i:Int):=by funext i;rw[Fb]
 rw[e]at this;exact this
section
variable {X:Cx}
def uA:List V->Hp->VK->Prop:=λxs H Q=>∃n:Nat,xs=[.int (n:Int)]/\∀r,H r=none->Q (.ref r) (upd H r (.rng 0 n))
theorem md:ID X (.type "range") uA:=by
 intro pins s Z H xs us Q I rv h;obtain⟨n,rfl,q⟩:=h;obtain⟨u,rfl,ru⟩:=gp rv;obtain⟨t,rfl⟩:=ru;refine call_range_1 ?_;exact⟨.ref s.heap.objs.size,_,I.laid (t':=s.toks+1+1) (o:=.rng 0 n) (λb o q=>Jg _ q) (Eo _) (show Iz X.prog X.w _ _ _ (.rng 0 n)from⟨_,_,_,Jn _ rfl⟩),rfl,q _ (I.hok.fresh (Eo _))⟩
def uv:List V->Hp->VK->Prop:=λxs H Q=>∃(a:Addr) (n:Nat),xs=[.ref a]/\H a=some (.rng 0 n)/\n<=1000000/\∀l,H l=none->Q (.ref l) (upd H l (.lst (kq n)))
theorem pZ(hc:X.calm=true):ID X (.type "list") uv:=by
 intro pins s Z H xs us Q I rv h;obtain⟨a,n,rfl,ha,hn,q⟩:=h;obtain⟨u,rfl,ru⟩:=gp rv;cases ru;obtain⟨t,u,v,e⟩:=(show Iz X.prog X.w H s.heap a (.rng 0 n)from I.hok a _ ha);have hz:(1000000:Nat)<=sizeLine:=by rw[Ji];decide
 refine call_list_range (n:=n) (I.ok.hd hc) (show Mx s.heap a 0 n 1 t u v from e) (NB (by omega) (by omega) (by omega) (by omega)) (by rw[Me];split<;>omega) (by omega) λh' tk acc' c' hk hS ia=>?_;have hl:(kq n).length=n:=by simp[kq]
 exact⟨.ref s.heap.objs.size,_,I.laid (t':=tk) hk (Eo _) (show Iz X.prog X.w _ h' _ (.lst (kq n))from⟨by rw[hl];omega,acc'.toList,c',ng ia,by rw[Gx];exact hS⟩),rfl,q _ (I.hok.fresh (Eo _))⟩
def uB:List V->Hp->VK->Prop:=λxs H Q=>∃(a:Addr) (n:Nat),xs=[.ref a]/\H a=some (.rng 0 n)/\n<=1000000/\∀l,H l=none->Q (.ref l) (upd H l (.tup (kq n)))
theorem p9(hc:X.calm=true):ID X (.type "tuple") uB:=by
 intro pins s Z H xs us Q I rv h;obtain⟨a,n,rfl,ha,hn,q⟩:=h;obtain⟨u,rfl,ru⟩:=gp rv;cases ru;obtain⟨t,u,v,e⟩:=(show Iz X.prog X.w H s.heap a (.rng 0 n)from I.hok a _ ha);have hz:(1000000:Nat)<=sizeLine:=by rw[Ji];decide
 refine iN (n:=n) (I.ok.hd hc) (show Mx s.heap a 0 n 1 t u v from e) (NB (by omega) (by omega) (by omega) (by omega)) (by rw[Me];split<;>omega) (by omega) (by omega) λh' tk acc hk ia=>?_;have hl:(kq n).length=n:=by simp[kq]
 have I1:Inv X pins Z H {s with heap:=h',toks:=tk}:=I.kept (t':=tk) hk;exact⟨.ref h'.objs.size,_,I1.laid (t':=tk) (λb o q=>Jg _ q) (Eo _) (show Iz X.prog X.w _ _ _ (.tup (kq n))from⟨by rw[hl];omega,acc.toList,ng ia,by rw[Gx];exact IH.new _ _⟩),rfl,q _ (I1.hok.fresh (Eo _))⟩
end
noncomputable def Da(is:List I) (i:I):Option (T×I):=if i.dok=true/\I.doks is=true/\I.deps is<=50/\i∈is then some (.li (is.eraseIdx (is.findIdx λj=>decide (j=i))),.non)else none
noncomputable def C9(is:List I) (t:T):Option (T×I):=match t with
 | .im i=>Da is i
 | _=>none
@[irreducible] noncomputable def oB(s:T)(ts:List T):Option (T×I):=match s with
 | .li is=>l1 (C9 is) ts
 | _=>none
noncomputable def nc(n:Nat):List I:=(EU n).map λi:Nat=>I.int (i:Int)
@[irreducible] noncomputable def kS:List T->Option T:=l1 λt=>match isI t with
 | some n=>if 0<=n/\n<=1000000 then some (.li (nc n.toNat))else none
 | none=>none
@[irreducible] noncomputable def lf:List T->Option T:=l1 λt=>match isI t with
 | some n=>if 0<=n/\n<=1000000 then some (.im (.tup (nc n.toNat)))else none
 | none=>none
section
variable {K:yF}{H:Hp}
theorem ny{i:I}:∀{is:List I} {k:Nat},is[k]?=some i->(I.toDs is)[k]?=some i.toD
 | [],k,h=>by cases h
 | x::xs,0,h=>by cases h;rfl
 | x::xs,k+1,h=>by rw[I.toDs];simpa using ny (by simpa using h)
theorem le:∀(is:List I) (k:Nat),(I.toDs is).take k=I.toDs (is.take k)
 | [],k=>by rw[I.toDs,Hz,Hz,I.toDs]
 | x::xs,0=>by rw[GG,GG,I.toDs]
 | x::xs,k+1=>by rw[I.toDs,GB,GB,I.toDs,le xs k]
theorem kI:∀{is:List I} (k:Nat),I.doks is=true->I.doks (is.take k)=true
 | [],k,_=>by rw[Hz];rfl
 | x::xs,0,_=>rfl
 | x::xs,k+1,h=>by
  rw[I.doks,Ei]at h;rw[GB,I.doks,h.1,kI k h.2];rfl
theorem sh{is:List I}{i:I}(h:i∈is):is[is.findIdx λj=>decide (j=i)]?=some i/\i∉is.take (is.findIdx λj=>decide (j=i)):=by
 have hl:is.findIdx (λj=>decide (j=i))<is.length:=List.findIdx_lt_length_of_exists ⟨i,h,decide_eq_true rfl⟩;constructor
 ·have:=List.findIdx_getElem (w:=hl);rw[EQ hl];exact congrArg some (of_decide_eq_true this)
 ·intro hm;obtain⟨m,hm1,hm2⟩:=F8.mp hm;have hlt:m<is.findIdx (λj=>decide (j=i)):=by omega
  have:=List.not_of_lt_findIdx hlt;exact absurd (decide_eq_true hm2) (by simpa using this)
theorem ub:cJ K (uz K) oB:=by
 intro H w vs s ts s' i G F Q rw0 rs nd mu e q;unfold oB at e;split at e
 ·rename_i is;have e0:=cc e;clear e;obtain⟨t,rfl,e⟩:=e0;unfold C9 at e;split at e
  ·rename_i x;unfold Da at e;split at e
   ·rename_i hb;cases e;obtain⟨b1,b2,b3,b4⟩:=hb;obtain⟨a,xs,rfl,h1,h2,rfl⟩:=iF rw0 λa ha=>mu a (yaL _ ha);obtain⟨z,rfl,g⟩:=nh rs;obtain⟨g1,rfl⟩:=aX g;obtain⟨f1,f2⟩:=sh b4;refine⟨a,xs,z,x.toD,I.toDs is,is.findIdx λj=>decide (j=x),rfl,rfl,h1,ji b1 g1,ft b2 h2,by rw[eX];exact b3,ny f1,?_,fG h1 (h2.erase _) (by rw[RpI]) q⟩;rw[le,iE b1 (kI _ b2)];exact f2
   ·cases e
  ·cases e
 ·cases e
theorem Bo(H:Hp)(x:V)(tx:T)(ts:List T)(r:T×I)(h:Rpx K H tx x)(e:oB tx ts=some r):tyV K "list" x H:=by
 unfold oB at e;split at e;exact lg h;cases e
theorem uW{n:Nat}:Ir K H (nc n) (kq n):=by
 have key:∀l:List Nat,Ir K H (l.map λi:Nat=>I.int (i:Int)) (l.map λi:Nat=>V.int (i:Int)):=by
  intro l
  induction l with
  | nil=>rw[FB,FB,Ir]
  | cons a l ih=>rw[Ek,Ek,Ir];exact⟨_,_,rfl,by rw[RpI],ih⟩
 exact key _
theorem qM:fH K (λvs H Q=>uA vs H λx H2=>uv [x] H2 Q) kS:=by
 intro H vs ts t Q r e q;unfold kS at e;have e0:=cc e;clear e;obtain⟨x,rfl,e⟩:=e0;obtain⟨v,rfl,r1⟩:=kr r;split at e
 ·rename_i n hn;cases ca hn;split at e
  ·rename_i hb;cases e;have ev:=aK r1;subst ev;refine⟨n.toNat,by rw[Ht hb.1],λa ha=>⟨a,n.toNat,rfl,by rw[aA],by omega,λl hl=>q _ _ ?_⟩⟩;have hal:l≠a:=λz=>by subst z;rw[aA]at hl;cases hl
   have s1:=IG.laid (o:=.rng 0 n.toNat) ha;obtain⟨sm,F,h1,h2,h3⟩:=New.li (K:=K) hl (uW (n:=n.toNat));refine⟨λb o hb=>sm b o (s1 b o hb),F,h1,h2,λb hb=>⟨?_,(h3 b hb).2⟩⟩;have:=(h3 b hb).1;cases e:H b with
   | none=>rfl
   | some o=>rw[s1 b o e]at this;cases this
  ·cases e
 ·cases e
theorem qN:fH K (λvs H Q=>uA vs H λx H2=>uB [x] H2 Q) lf:=by
 intro H vs ts t Q r e q;unfold lf at e;have e0:=cc e;clear e;obtain⟨x,rfl,e⟩:=e0;obtain⟨v,rfl,r1⟩:=kr r;split at e
 ·rename_i n hn;cases ca hn;split at e
  ·rename_i hb;cases e;have ev:=aK r1;subst ev;refine⟨n.toNat,by rw[Ht hb.1],λa ha=>⟨a,n.toNat,rfl,by rw[aA],by omega,λl hl=>q _ _ ?_⟩⟩;have s1:=IG.laid (o:=.rng 0 n.toNat) ha;obtain⟨sm,F,h1,h2,h3⟩:=New.tup (K:=K) hl (uW (n:=n.toNat));refine⟨λb o hb=>sm b o (s1 b o hb),F,h1,h2,λb hb=>⟨?_,(h3 b hb).2⟩⟩;have:=(h3 b hb).1;cases e:H b with
   | none=>rfl
   | some o=>rw[s1 b o e]at this;cases this
  ·cases e
 ·cases e
end
section
variable {ι : Type}{C:ι->Cx}{P:Jq}{W:JB}{K:yF}{mg:Str->Option Jd}{base:Heap}{k:Nat}{a e o:Expr}{es:List Expr}{ms:MA}{pos:Pos}
theorem CL(l:Nat)(mv:List Nat){apos:Pos}{mo:ME}(ck:CK C P W K mg base k)(ho:QE C K o mo)(ha:QA C K (e::es) ms)(hlen:decide ((e::es).length<30)=true:=by rfl)
  (hbase:∀i,JU o "remove" (C i).env (eval o (C i).env)=eval o (C i).env:=by intro _;rfl) (hline:(apos.endLine==pos.line)=true:=by rfl):QE C K (.Call (.Attribute o "remove" apos) (e::es) [] pos) (bK l mv oB mo ms):=by
 obtain⟨to,q,r⟩:=ho;obtain⟨ta,q',n,r'⟩:=ha;exact⟨_,λi=>yX (r:=uz K) (ck.kk i) PySem.F.plainAttrs_list PySem.F.slot_list_remove PySem.F.type_list_remove (by have:=wo (X:=C i) ((ck.room i).units);rw[ck.kk i]at this;exact this) (q i) (q' i) n hlen (hbase i) hline,pC ub Bo r r'⟩
theorem Az{p p2 pos2:Pos}(ck:CK C P W K mg base k)(T:Bi mg)(ha:QA C K [a] ms)(hg:∀i,Gl (C i) "list" :=by intro _;rfl)(hg2:∀i,Gl (C i) "range" :=by intro _;rfl):QE C K (.Call (.Name "list" p) [.Call (.Name "range" p2) [a] [] pos2] [] pos) (mB kS ms):=by
 obtain⟨ta,q,n,r⟩:=ha;exact⟨_,λi=>dH (pZ (ck.calm i)) (hg i) (by rw[ck.mg i];exact T.b_list) G9 (eS (dH md (hg2 i) (by rw[ck.mg i];exact T.b_range) GY (q i) n (by decide) (by decide)) lP rfl) rfl (by decide) (by decide),(show aP K (tCB (λvs H Q=>uA vs H λx H2=>uv [x] H2 Q) ta) (mB kS ms)from mZ qM r)⟩
theorem AC{p p2 pos2:Pos}(ck:CK C P W K mg base k)(T:Bi mg)(ha:QA C K [a] ms)(hg:∀i,Gl (C i) "tuple" :=by intro _;rfl)(hg2:∀i,Gl (C i) "range" :=by intro _;rfl):QE C K (.Call (.Name "tuple" p) [.Call (.Name "range" p2) [a] [] pos2] [] pos) (mB lf ms):=by
 obtain⟨ta,q,n,r⟩:=ha;exact⟨_,λi=>dH (p9 (ck.calm i)) (hg i) (by rw[ck.mg i];exact T.b_tuple) Gh (eS (dH md (hg2 i) (by rw[ck.mg i];exact T.b_range) GY (q i) n (by decide) (by decide)) lP rfl) rfl (by decide) (by decide),(show aP K (tCB (λvs H Q=>uA vs H λx H2=>uB [x] H2 Q) ta) (mB lf ms)from mZ qN r)⟩
end
section
variable {Q:T->Prop}{QI1:T->I->Prop}{is:List I}{i:I}
theorem Ce(h:i.dok=true/\I.doks is=true/\I.deps is<=50/\i∈is)(q:QI1 (.li (is.eraseIdx (is.findIdx λj=>decide (j=i)))) .non):W2 (oB (.li is) [.im i]) QI1:=by with_unfolding_all exact⟨_,_,if_pos h,q⟩
theorem z6{n:Int}(h:0<=n/\n<=1000000)(q:Q (.li (nc n.toNat))):W1 (kS [.im (.int n)]) Q:=by with_unfolding_all exact⟨_,if_pos h,q⟩
theorem Ab{n:Int}(h:0<=n/\n<=1000000)(q:Q (.im (.tup (nc n.toNat)))):W1 (lf [.im (.int n)]) Q:=by with_unfolding_all exact⟨_,if_pos h,q⟩
end
end L2
namespace L2
open PySem
noncomputable section
noncomputable def cM:MS:=(ak (ax (mB fq (aa 0 mNil)) (ag 2))
  (bf (aT [none,none,some 2,none] (mIt (af 1)) (ag 3) mYes (aC [] (ac (mIx (mIx (af 2) (af 3)) (mC (.int 0))) (ac (mIx (mIx (af 2) (af 3)) (mC (.int 1))) mNil))))))
noncomputable def eB(ts:List T):Option T:=if ts.length=2 then cR cM 3 ts else none
noncomputable def bR:MS:=(ak (ax (aO [0] (aa 0 mNil)) (ag 2))
  (ak (ax (mC (.int 0)) (ag 3))
  (ak (cV (aI (mOp (fS λi j=>decide (i<j)) (af 3) (mB dh (aa 2 mNil))))
  (bE [4,5] (ak (bQ (mIt (af 1)) (cP (aS (ag 4) (aS (ag 5) mGNil)))
  (bE [4,5] (mIf (iZ (aI (mOp eqT (af 4) (mIx (af 2) (af 3)))) (aI (mOp jx (af 5) (af 2)))) (aZ (bK 2 [5] apT (af 2) (aa 5 mNil))) mNext)))
  (qw 3 (· + ·) (mC (.int 1))))))
  (bf (af 2)))))
noncomputable def cI(ts:List T):Option T:=if ts.length=2 then cR bR 6 ts else none
noncomputable def bY:MS:=(ak (ax (gZ [none,some 1,none,none,none,none] (mIt (af 0)) (ag 4) mYes (af 4) (mB cI (aa 4 (aa 1 mNil)))) (ag 2))
  (ak (ax (aO [] mNil) (ag 3))
  (ak (bQ (mIt (af 0)) (ag 4)
  (bE [4,5] (ak (ax (mB gK (ac (aT [none,none,some 2,none,some 4,none,none] (mIt (af 0)) (ag 6) (iZ (aI (mOp inT (af 6) (eQ (af 2) (af 4)))) (aI (mOp inT (af 4) (eQ (af 2) (af 6))))) (af 6)) mNil)) (ag 5))
  (mIf (aI (mOp jx (af 5) (af 3))) (aZ (bK 3 [5] apT (af 3) (aa 5 mNil))) mNext))))
  (bf (af 3)))))
noncomputable def cX(ts:List T):Option T:=if ts.length=2 then cR bY 6 ts else none
noncomputable def fc:MS:=(bf (mB lp (ac (aT [some 0,some 1,none,none,none] (mIt (af 2)) (cP (aS (ag 3) (aS (ag 4) mGNil))) (aI (mOp inT (af 3) (af 0))) (nY (mOp inT (af 4) (af 0)) (mOp inT (af 4) (af 1)))) mNil)))
noncomputable def hC(ts:List T):Option T:=if ts.length=3 then cR fc 3 ts else none
noncomputable def dr:MS:=(ak (ax (mB eB (aa 0 (aa 1 mNil))) (ag 2))
  (ak (ax (mB cX (ac (aT [none,none,none,none,none,none,none,none,none] (mIt (mIx (af 0) (mC (.int 2)))) (cP (aS (ag 7) (aS (ag 8) mGNil))) mYes (af 7)) (aa 2 mNil))) (ag 3))
  (ak (ax (aO [] mNil) (ag 4))
  (ak (ax (aO [] mNil) (ag 5))
  (ak (cV (n4 (af 3))
  (bE [6] (ak (ax (mIx (aT [none,none,some 2,none,none,some 5,none,none] (mIt (af 3)) (ag 7) (aI (mB hC (aa 7 (aa 5 (aa 2 mNil))))) (af 7)) (mC (.int 0))) (ag 6))
  (ak (aZ (bK 3 [6] oB (af 3) (aa 6 mNil)))
  (ak (aZ (bK 4 [6] apT (af 4) (aa 6 mNil)))
  (aZ (bK 5 [6] ki (af 5) (aa 6 mNil))))))))
  (bf (mB gK (aa 4 mNil))))))))
noncomputable def fk(ts:List T):Option T:=if ts.length=2 then cR dr 7 ts else none
noncomputable def dX:MS:=(ak (ax (am 0 0 aj (aa 0 (ac (mC (.int 4)) mNil))) (ag 2))
  (ak (ax (mB kS (aa 1 mNil)) (ag 3))
  (ak (ax (aO [] mNil) (ag 4))
  (ak (bQ (bd (aa 1 mNil)) (ag 5)
  (bE [5,6] (ak (ax (bK 3 [] ff (af 3) (ac (am 0 0 aj (aa 0 (ac (mB dh (aa 3 mNil)) mNil))) mNil)) (ag 6))
  (mIf (mOr (aI (mOp eqT (af 2) (mC (.int 0)))) (aI (mOp (fS λi j=>decide (j<i)) (am 0 0 aj (aa 0 (ac (mOp bg (mC (.int 1)) (af 2)) mNil))) (mC (.int 0))))) (aZ (bK 4 [6] apT (af 4) (aa 6 mNil))) mNext))))
  (bf (mB gK (aa 4 mNil)))))))
noncomputable def ed(ts:List T):Option (T×T):=if ts.length=2 then fu dX 0 7 ts else none
noncomputable def gA:MS:=(ak (ax sH (ag 2))
  (ak (bQ (mIt (af 0)) (ag 3)
  (bE [3] (ax (aO [3] (aa 3 mNil)) (i6 2 (af 2) (af 3)))))
  (ak (bQ (mIt (af 0)) (ag 4)
  (bE [3,4,5,6] (bQ (mIt (af 1)) (cP (aS (ag 5) (aS (ag 6) mGNil)))
  (bE [3,5,6] (bQ (mIt (af 0)) (ag 3)
  (bE [3] (mIf (iZ (aI (mOp inT (af 5) (eQ (af 2) (af 3)))) (aI (mOp jx (af 6) (eQ (af 2) (af 3))))) (aZ (bK 2 [6] apT (eQ (af 2) (af 3)) (aa 6 mNil))) mNext)))))))
  (bf (af 2)))))
noncomputable def jd(ts:List T):Option T:=if ts.length=2 then cR gA 7 ts else none
noncomputable def e7:MS:=(ak (ax (mB jd (aa 0 (aa 1 mNil))) (ag 2))
  (ak (ax (mB nW (aa 0 mNil)) (ag 3))
  (ak (ax (aO [] mNil) (ag 4))
  (ak (cV (aI (mOp neT (af 3) (aO [] mNil)))
  (bE [5,6] (bQ (mIt (mB nW (aa 3 mNil))) (ag 5)
  (bE [5,6] (ak (ax (aT [none,none,some 2,none,none,some 5,none,none] (mIt (af 0)) (ag 7) (iZ (aI (mOp inT (af 7) (eQ (af 2) (af 5)))) (aI (mOp inT (af 5) (eQ (af 2) (af 7))))) (af 7)) (ag 6))
  (mIf (aI (mOp eqT (aT [none,none,none,some 3,none,none,some 6,none] (mIt (eQ (af 2) (af 5))) (ag 7) (iZ (aI (mOp inT (af 7) (af 3))) (aI (mOp jx (af 7) (af 6)))) (af 7)) (aO [] mNil))) (ak (aZ (bK 4 [] apT (af 4) (ac (mB gK (aa 6 mNil)) mNil)))
  (ak (ax (aT [none,none,none,none,none,none,some 6,none] (mIt (af 3)) (ag 7) (aI (mOp jx (af 7) (af 6))) (af 7)) (ag 3))
  mBrk)) mNext))))))
  (bf (mB gK (aa 4 mNil)))))))
noncomputable def g9(ts:List T):Option T:=if ts.length=2 then cR e7 7 ts else none
noncomputable def dq:MS:=(ak (ax (aT [none,none,none,none,none,none,none] (mIt (mIx (af 0) (mC (.int 2)))) (cP (aS (ag 5) (aS (ag 6) mGNil))) mYes (af 5)) (ag 2))
  (ak (ax (mB gG (aa 0 mNil)) (ag 3))
  (ak (ax (mB fk (aa 0 (aa 1 mNil))) (ag 4))
  (ak (mIf (mOr (nX (aI (mUn (mF ["tuple"]) (af 4)))) (nX (aI (mB lp (ac (aT [none,none,none,none,none,none] (mIt (af 4)) (ag 5) mYes (mUn (mF ["tuple"]) (af 5))) mNil))))) (bf (mC (.bl false))) mNext)
  (bf (mOp eqT (af 4) (mB g9 (aa 2 (ac (aT [none,none,none,some 3,none,none] (mIt (af 1)) (ag 5) mYes (mSl (mIx (af 3) (af 5)) mNoPart (fK (mC (.int 2))))) mNil)))))))))
noncomputable def fj(ts:List T):Option T:=if ts.length=2 then cR dq 5 ts else none
noncomputable def e8:MS:=(ak (ax (mB gc (aa 0 (ac (mC (.int 0)) mNil))) (ag 1))
  (ak (ax (am 0 1 jc (aa 1 mNil)) (ag 2))
  (ak (ax (mB dh (ac (mB gG (aa 2 mNil)) mNil)) (ag 3))
  (ak (ax (gY 0 ed (ac (mB gc (aa 0 (ac (mC (.int 1)) mNil))) (aa 3 mNil))) (ag 4))
  (ak (ax (gY 0 ed (ac (mB gc (aa 0 (ac (mC (.int 2)) mNil))) (aa 3 mNil))) (ag 5))
  (bf (mB lp (ac (aT [none,none,some 2,none,none,none,none] (mIt (aC [4,5,4] (aa 4 (ac (mB lf (aa 3 mNil)) (aa 5 (ac (aC [] mNil) (aa 4 mNil))))))) (ag 6) mYes (mB fj (aa 2 (aa 6 mNil)))) mNil))))))))
noncomputable def r_l_law_v7(ts:List T):Option T:=if ts.length=1 then cR e8 6 ts else none
end
end L2
namespace K16
open PySem PySem.Spec PyProof.Rows L2
noncomputable def top(i:Nat):Stmt:=PySem.Challenge.pw_clockhouse_k16_knots_in_their_order.main.body.getD i (.Pass ⟨0,0,0,0⟩)
noncomputable abbrev eG:Stmt:=top 1
noncomputable abbrev ib:Stmt:=top 2
noncomputable abbrev l3:Stmt:=top 3
noncomputable abbrev fF:Stmt:=top 5
noncomputable abbrev ic:Stmt:=top 6
noncomputable abbrev gm:Stmt:=top 8
noncomputable abbrev dN:Stmt:=top 9
noncomputable abbrev eH:Stmt:=top 10
noncomputable abbrev j7:Stmt:=top 11
noncomputable abbrev hW:Stmt:=top 12
noncomputable abbrev gj:Stmt:=top 14
noncomputable abbrev gl:Stmt:=top 15
noncomputable abbrev fA:Stmt:=top 16
noncomputable abbrev hV:Stmt:=top 17
noncomputable abbrev cZ:Stmt:=top 18
noncomputable abbrev cw:Stmt:=top 19
noncomputable abbrev cx:Stmt:=top 20
noncomputable abbrev cz:Stmt:=top 21
noncomputable abbrev bL:Stmt:=top 22
noncomputable abbrev cy:Stmt:=top 23
noncomputable abbrev fB:Stmt:=top 24
noncomputable abbrev fv:Stmt:=top 25
noncomputable abbrev fw:Stmt:=top 26
noncomputable abbrev da:Stmt:=top 27
noncomputable abbrev fE:Stmt:=top 28
noncomputable abbrev gk:Stmt:=top 29
noncomputable abbrev fz:Stmt:=top 30
noncomputable abbrev hU:Stmt:=top 31
noncomputable abbrev fD:Stmt:=top 32
noncomputable abbrev s_law:Stmt:=top 33
structure GT(K:yF)(mg:Str->Option Jd):Prop where
 triv:True
end K16
namespace L2
open PySem PySem.Spec PyProof.Rows
inductive Rch(E:List (Str×Str)) (a:Str):Str->Prop
 | refl:Rch E a a
 | tail {b c:Str}:Rch E a b->(b,c)∈E->Rch E a c
theorem Rch.trans{E:List (Str×Str)}{a b c:Str}(h:Rch E a b)(g:Rch E b c):Rch E a c:=by
 induction g with
 | refl=>exact h
 | tail _ e ih=>exact ih.tail e
def Clo(E:List (Str×Str))(L:List Str):Prop:=∀e∈E,e.1∈L->e.2∈L
theorem Rch.clo{E:List (Str×Str)}{L:List Str}{a b:Str}(h:Rch E a b)(c:Clo E L)(ha:a∈L):b∈L:=by
 induction h with
 | refl=>exact ha
 | tail _ e ih=>exact c _ e ih
noncomputable def df(L:List Str) (e:Str×Str):List Str:=if e.1∈L/\e.2∉L then L++[e.2]else L
noncomputable def rlx(E:List (Str×Str)) (L:List Str):List Str:=E.foldl df L
noncomputable def gf(E:List (Str×Str)):Nat->List Str->List Str
 | 0,L=>L
 | n+1,L=>rlx E (gf E n L)
theorem rQ{L:List Str}{e:Str×Str}:∀x∈L,x∈df L e:=λx h=>by
 unfold df;split;exact yaL _ h;exact h
theorem rP{L:List Str}{e:Str×Str}:L.length<=(df L e).length:=by
 unfold df;split;simp;exact Eo _
theorem pF:∀{E:List (Str×Str)} {L:List Str},∀x∈L,x∈rlx E L
 | [],L,x,h=>h
 | e::E,L,x,h=>pF (E:=E) x (rQ x h)
theorem pE:∀{E:List (Str×Str)} {L:List Str},L.length<=(rlx E L).length
 | [],L=>Eo _
 | e::E,L=>ER rP (pE (E:=E))
theorem jE{Q:Str->Prop}:∀{E:List (Str×Str)} {L:List Str},(∀e∈E,Q e.1->Q e.2)->(∀x∈L,Q x)->∀x∈rlx E L,Q x
 | [],L,_,h=>h
 | e::E,L,hE,h=>by
  refine jE (E:=E) (λe' he'=>hE e' (ymC _ he')) λx hx=>?_;unfold df at hx;split at hx
  ·rename_i hc;rcases yaM hx with hx|hx;exact h x hx;rw[ysM hx];exact hE e ymS (h _ hc.1)
  ·exact h x hx
theorem oG:∀{E:List (Str×Str)} {L:List Str},L.Nodup->(rlx E L).Nodup
 | [],L,h=>h
 | e::E,L,h=>by
  refine oG (E:=E) ?_;unfold df;split
  ·rename_i hc;exact Em.mpr ⟨h,by simp,λa ha b hb e'=>hc.2 (by rw[ysM hb]at e';rw[←e'];exact ha)⟩
  ·exact h
theorem m9:∀{E:List (Str×Str)} {L:List Str},L.length<(rlx E L).length∨(rlx E L=L/\Clo E L)
 | [],L=>.inr ⟨rfl,λe he=>by cases he⟩
 | e::E,L=>by
  by_cases hc:e.1∈L/\e.2∉L
  ·left;have h1:(df L e).length=L.length+1:=by unfold df;rw[if_pos hc];simp
   have:=pE (E:=E) (L:=df L e);show L.length<(rlx E (df L e)).length;omega
  ·have h1:df L e=L:=by unfold df;rw[if_neg hc]
   show L.length<(rlx E (df L e)).length∨(rlx E (df L e)=L/\_);rw[h1];rcases m9 (E:=E) (L:=L)with h|⟨h,c⟩;exact .inl h
   ·refine .inr ⟨h,λe' he'=>?_⟩;rcases ycM he' with rfl|he'
    ·intro ha;by_cases hb:e'.2∈L;exact hb;exact absurd ⟨ha,hb⟩ hc
    ·exact c e' he'
theorem iI{E:List (Str×Str)}{z:Str}:∀n:Nat,(gf E n [z]).Nodup/\z∈gf E n [z]/\(∀x∈gf E n [z],Rch E z x)/\(n+1<=(gf E n [z]).length∨Clo E (gf E n [z]))
 | 0=>⟨by simp[gf],by simp[gf],λx hx=>by rw[ysM hx];exact .refl,.inl (by simp[gf])⟩
 | n+1=>by
  obtain⟨h1,h2,h3,h4⟩:=iI (E:=E) (z:=z) n;refine⟨oG h1,pF _ h2,jE (λe he hx=>hx.tail he) h3,?_⟩;show n+1+1<=(rlx E (gf E n [z])).length∨Clo E (rlx E (gf E n [z]));rcases m9 (E:=E) (L:=gf E n [z])with h|⟨h,c⟩
  ·rcases h4 with h4|h4;exact .inl (by omega)
   ·exfalso;have:rlx E (gf E n [z])=gf E n [z]:=by
     have:∀{E':List (Str×Str)} {L:List Str},(∀e∈E',e.1∈L->e.2∈L)->rlx E' L=L:=by
      intro E'
      induction E' with
      | nil=>intro L _;rfl
      | cons e E' ih=>
       intro L hc;have h1:df L e=L:=by unfold df;rw[if_neg (λz=>z.2 (hc e ymS z.1))]
       show rlx E' (df L e)=L;rw[h1];exact ih λe' he'=>hc e' (ymC _ he')
     exact this h4
    rw[this]at h;exact Ff _ h
  ·right;rw[h];exact c
theorem f7{l m:List Str}(h:l.Nodup)(hs:∀x∈l,x∈m):l.length<=m.length:=by
 induction l generalizing m with
 | nil=>exact Fd _
 | cons a l ih=>
  rw[EF]at h;have ha:=hs a ymS;have:=ih (m:=m.erase a) h.2 λx hx=>(List.mem_erase_of_ne (a:=x) (b:=a) (λe=>h.1 (by rw[←e];exact hx))).mpr (hs x (ymC _ hx));rw[List.length_erase_of_mem ha]at this;have hp:0<m.length:=Hb ha;rw[Ey];omega
def EIn(N:List Str)(E:List (Str×Str)):Prop:=∀e∈E,e.1∈N/\e.2∈N
theorem Rch.within{N:List Str}{E:List (Str×Str)}(h:EIn N E){a b:Str}(r:Rch E a b)(ha:a∈N):b∈N:=r.clo (λe he _=>(h e he).2) ha
noncomputable def rl(N:List Str) (E:List (Str×Str)) (z:Str):List Str:=gf E N.length [z]
theorem dE{N:List Str}{E:List (Str×Str)}(h:EIn N E){z x:Str}(hz:z∈N):x∈rl N E z↔Rch E z x:=by
 obtain⟨h1,h2,h3,h4⟩:=iI (E:=E) (z:=z) N.length;refine⟨h3 x,λr=>r.clo (h4.resolve_left λhl=>?_) h2⟩;have:=f7 h1 λy hy=>(h3 y hy).within h hz;omega
noncomputable def rb(N:List Str) (E:List (Str×Str)) (a b:Str):Bool:=decide (b∈rl N E a)
noncomputable def kn(N:List Str) (E:List (Str×Str)) (z:Str):List Str:=N.filter λo=>rb N E z o&&rb N E o z
section
variable {N:List Str}{E:List (Str×Str)}
theorem eC(h:EIn N E){a b:Str}(ha:a∈N):rb N E a b=true↔Rch E a b:=by unfold rb;rw[decide_eq_true_eq,dE h ha]
theorem el(h:EIn N E){z x:Str}(hz:z∈N):x∈kn N E z↔x∈N/\Rch E z x/\Rch E x z:=by
 unfold kn;rw[Er,Ei];constructor;rintro⟨h1,h2,h3⟩;exact⟨h1,(eC h hz).mp h2,(eC h h1).mp h3⟩;rintro⟨h1,h2,h3⟩;exact⟨h1,(eC h hz).mpr h2,(eC h h1).mpr h3⟩
theorem lL(h:EIn N E){z:Str}(hz:z∈N):z∈kn N E z:=(el h hz).mpr ⟨hz,.refl,.refl⟩
theorem BV(h:EIn N E){z y:Str}(hz:z∈N)(hy:y∈N):kn N E y=kn N E z↔y∈kn N E z:=by
 constructor;intro e;rw[←e];exact lL h hy
 ·intro hm;obtain⟨_,r1,r2⟩:=(el h hz).mp hm;unfold kn;refine Gj λo ho=>?_;rw[EY,Ei,Ei,eC h hy,eC h ho,eC h hz,eC h ho];exact⟨fun⟨a,b⟩=>⟨r1.trans a,b.trans r2⟩,fun⟨a,b⟩=>⟨r2.trans a,b.trans r1⟩⟩
noncomputable def ef(N:List Str) (E:List (Str×Str)) (left:List Str) (z:Str):Bool:=(rl N E z).all λo=>!(decide (o∈left))||decide (o∈kn N E z)
noncomputable def fe(N:List Str) (E:List (Str×Str)):Nat->List Str->List (List Str)
 | 0,_=>[]
 | n+1,left=>match left.find? (ef N E left)with
  | none=>[]
  | some z=>kn N E z::fe N E n (left.filter λo=>!decide (o∈kn N E z))
theorem iV(h:EIn N E){left:List Str}{z:Str}(hz:z∈left)(hN:z∈N):(left.filter λo=>!decide (o∈kn N E z)).length<left.length:=by
 refine F5.mpr ⟨z,hz,?_⟩;simp[lL h hN]
theorem i9(h:EIn N E):∀(n m:Nat) (left:List Str),(∀x∈left,x∈N)->left.length<=n->left.length<=m->fe N E n left=fe N E m left
 | 0,0,_,_,_,_=>rfl
 | 0,m+1,left,_,hn,_=>by
  have:left=[]:=Fo.mp (Iq.mp hn);subst this;rfl
 | n+1,0,left,_,_,hm=>by
  have:left=[]:=Fo.mp (Iq.mp hm);subst this;rfl
 | n+1,m+1,left,hs,hn,hm=>by
  rw[fe,fe];cases e:left.find? (ef N E left)with
  | none=>rfl
  | some z=>
   have hz:=F9 e;have hl:=iV h hz (hs z hz);show kn N E z::_=kn N E z::_;rw[i9 h n m _ (λx hx=>hs x (Er.mp hx).1) (by omega) (by omega)]
theorem mw(h:EIn N E){left:List Str}(hs:∀x∈left,x∈N)(hn:left≠[]):∃z∈left,ef N E left z=true:=by
 have key:∀(n:Nat) (z:Str),z∈left->(left.filter λo=>decide (o∈rl N E z)).length<=n->∃y∈left,ef N E left y=true:=by
  intro n
  induction n with
  | zero=>
   intro z hz hl;have:z∈left.filter λo=>decide (o∈rl N E z):=Er.mpr ⟨hz,decide_eq_true ((dE h (hs z hz)).mpr .refl)⟩;have:=Hb this;omega
  | succ n ih=>
   intro z hz hl;by_cases hd:ef N E left z=true;exact⟨z,hz,hd⟩
   ·have hzN:=hs z hz;unfold ef at hd;rw[E6]at hd;obtain⟨o,hd⟩:=Classical.not_forall.mp hd;obtain⟨ho,hc⟩:=Classical.not_imp.mp hd;rw[FD,EM,decide_eq_false_iff_not,decide_eq_true_eq,not_or]at hc;have hol:o∈left:=by simpa using hc.1
    have hoN:=hs o hol;have r1:=(dE h hzN).mp ho;refine ih o hol ?_;have hsub:(left.filter λx=>decide (x∈rl N E o)).length<(left.filter λx=>decide (x∈rl N E z)).length:=by
     have e1:(left.filter λx=>decide (x∈rl N E o))=(left.filter λx=>decide (x∈rl N E z)).filter λx=>decide (x∈rl N E o):=by
      rw[Gg];refine Gj λx hx=>?_;rw[EY,Ei,decide_eq_true_eq,decide_eq_true_eq];constructor
      ·intro hx';exact⟨hx',(dE h hzN).mpr (r1.trans ((dE h hoN).mp hx'))⟩
      ·exact λhx'=>hx'.1
     rw[e1];refine F5.mpr ⟨z,Er.mpr ⟨hz,decide_eq_true ((dE h hzN).mpr .refl)⟩,?_⟩;rw[decide_eq_true_eq];intro hzo;exact hc.2 ((el h hzN).mpr ⟨hoN,r1,(dE h hoN).mp hzo⟩)
    omega
 obtain⟨z,hz⟩:=List.exists_mem_of_ne_nil left hn;exact key _ z hz (Eo _)
end
noncomputable def fO(acc:List (List Str)) (k:List Str):List (List Str):=if k∈acc then acc else acc++[k]
section
variable {p:List Str->Bool}
theorem kG:∀{l acc:List (List Str)},(l.foldl fO acc).find? p=(acc++l).find? p
 | [],acc=>by rw[EB];rfl
 | k::l,acc=>by
  rw[Fj,kG (l:=l)];unfold fO;split
  ·rename_i hm;rw[HP,HP,Fk];cases e:p k with
   | false=>rfl
   | true=>
    have:(acc.find? p).isSome=true:=GL.mpr ⟨k,hm,e⟩;obtain⟨y,hy⟩:=Fz.mp this;rw[hy];rfl
  ·rw[Eu];rfl
theorem jn:∀{l acc:List (List Str)},(l.foldl fO acc).filter p=(l.filter p).foldl fO (acc.filter p)
 | [],acc=>rfl
 | k::l,acc=>by
  rw[Fj,jn (l:=l),EK];cases e:p k with
  | false=>
   congr 1;unfold fO;split;rfl;rw[Fa,EK,e];simp
  | true=>
   rw[if_pos rfl,Fj];congr 1;unfold fO;by_cases hm:k∈acc;rw[if_pos hm,if_pos (Er.mpr ⟨hm,e⟩)];rw[if_neg hm,if_neg (λz=>hm (Er.mp z).1),Fa,EK,e];rfl
end
theorem o8:∀{l acc:List (List Str)},acc.Nodup->(l.foldl fO acc).Nodup
 | [],acc,h=>h
 | k::l,acc,h=>by
  rw[Fj];refine o8 (l:=l) ?_;unfold fO;split;exact h
  ·rename_i hm;exact Em.mpr ⟨h,by simp,λa ha b hb e=>hm (by rw[ysM hb]at e;rw[←e];exact ha)⟩
theorem ded2_mem{x:List Str}:∀{l acc:List (List Str)},x∈l.foldl fO acc↔x∈acc∨x∈l
 | [],acc=>by simp
 | k::l,acc=>by
  rw[Fj,ded2_mem (l:=l),E8];unfold fO;split
  ·rename_i hm;constructor;exact λh=>h.imp id .inr
   ·rintro(h|h|h);exact .inl h;subst h;exact .inl hm;exact .inr h
  ·rw[Gb,HB,or_assoc]
noncomputable def dk(N:List Str) (E:List (Str×Str)) (l:List Str):List (List Str):=(l.map (kn N E)).foldl fO []
noncomputable def iS(E:List (Str×Str)) (k told:List Str):Bool:=(E.filter λe=>decide (e.1∈k)).all λe=>decide (e.2∈k)||decide (e.2∈told)
structure IR(N:List Str)(E:List (Str×Str))(left told:List Str):Prop where
 sub:∀x∈left,x∈N
 knc:∀z∈left,∀y∈kn N E z,y∈left
 tld:∀x∈N,x∈told↔x∉left
 tin:∀x∈told,x∈N
 clo:∀e∈E,e.1∉left->e.2∉left
section
variable {N:List Str}{E:List (Str×Str)}{left told:List Str}{z:Str}
theorem dueN_iff:ef N E left z=true ↔ ∀o∈rl N E z,o∈left->o∈kn N E z:=by
 unfold ef;rw[E6];refine forall_congr' λo=>imp_congr_right λ_=>?_;rw[FD,EM,decide_eq_false_iff_not,decide_eq_true_eq];constructor
 ·rintro(h|h) hl;exact absurd hl h;exact h
 ·intro h;by_cases hl:o∈left;exact .inr (h hl);exact .inl hl
theorem r6{k:List Str}:iS E k told=true ↔ ∀e∈E,e.1∈k->e.2∈k∨e.2∈told:=by
 unfold iS;rw[E6];constructor
 ·intro h e he hk;have:=h e (Er.mpr ⟨he,decide_eq_true hk⟩);rwa [FD,decide_eq_true_eq,decide_eq_true_eq]at this
 ·intro h e he;obtain⟨h1,h2⟩:=Er.mp he;rw[FD,decide_eq_true_eq,decide_eq_true_eq];exact h e h1 (of_decide_eq_true h2)
theorem IR.due(i:IR N E left told)(h:EIn N E)(hz:z∈left):iS E (kn N E z) told=ef N E left z:=by
 have hzN:=i.sub z hz;rw[EY,r6,dueN_iff];constructor
 ·intro hd o ho hl;have r:=(dE h hzN).mp ho;have key:∀{x:Str},Rch E z x->x∈kn N E z∨x∉left:=by
   intro x rx
   induction rx with
   | refl=>exact .inl (lL h hzN)
   | tail _ e ih=>
    rcases ih with ih|ih
    ·rcases hd _ e ih with h1|h1;exact .inl h1;exact .inr ((i.tld _ (h _ e).2).mp h1)
    ·exact .inr (i.clo _ e ih)
  exact(key r).resolve_right λn=>n hl
 ·intro hd e he hk;obtain⟨_,r1,_⟩:=(el h hzN).mp hk;have ho:=(dE h hzN).mpr (r1.tail he);by_cases hl:e.2∈left;exact .inl (hd _ ho hl);exact .inr ((i.tld _ (h e he).2).mpr hl)
theorem IR.step(i:IR N E left told)(h:EIn N E)(hz:z∈left)(hd:ef N E left z=true):IR N E (left.filter λo=>!decide (o∈kn N E z)) (told++kn N E z):=by
 have hzN:=i.sub z hz;have mem:∀x,x∈(left.filter λo=>!decide (o∈kn N E z))↔x∈left/\x∉kn N E z:=λx=>by rw[Er,EM,decide_eq_false_iff_not]
 refine⟨λx hx=>i.sub x ((mem x).mp hx).1,λy hy x hx=>?_,λx hx=>?_,λx hx=>?_,λe he hn=>?_⟩
 ·obtain⟨h1,h2⟩:=(mem y).mp hy;refine(mem x).mpr ⟨i.knc y h1 x hx,λhx'=>h2 ?_⟩;obtain⟨hxN,a1,a2⟩:=(el h (i.sub y h1)).mp hx;obtain⟨_,b1,b2⟩:=(el h hzN).mp hx';exact(el h hzN).mpr ⟨i.sub y h1,b1.trans a2,a1.trans b2⟩
 ·rw[Gb,i.tld x hx,mem x,Classical.not_and_iff_not_or_not,ML]
 ·rcases yaM hx with hx|hx;exact i.tin x hx;exact((el h hzN).mp hx).1
 ·rw[mem];rintro⟨h1,h2⟩;by_cases hl:e.1∈left
  ·have hk:e.1∈kn N E z:=Classical.byContradiction λhk=>hn ((mem _).mpr ⟨hl,hk⟩);obtain⟨_,r1,_⟩:=(el h hzN).mp hk;exact h2 (dueN_iff.mp hd _ ((dE h hzN).mpr (r1.tail he)) h1)
  ·exact i.clo e he hl h1
theorem IR.first(h:EIn N E):IR N E N []:=⟨λ_ h=>h,λz hz y hy=>((el h hz).mp hy).1,λx hx=>by simp[hx],by simp,λe he hn=>absurd (h e he).1 hn⟩
theorem IR.find(i:IR N E left told)(h:EIn N E):(dk N E left).find? (λk=>iS E k told)=(left.find? (ef N E left)).map (kn N E):=by
 unfold dk;rw[kG,Fx,List.find?_map];congr 1;have:∀l:List Str,(∀x∈l,x∈left)->l.find? ((λk=>iS E k told)∘kn N E)=l.find? (ef N E left):=by
  intro l
  induction l with
  | nil=>intro _;rfl
  | cons a l ih=>
   intro hs;rw[Fk,Fk,ih λx hx=>hs x (ymC _ hx)];show(match iS E (kn N E a) told with|true=>_|false=>_)=_;rw[i.due h (hs a ymS)];cases ef N E left a<;>rfl
 exact this left λx hx=>hx
theorem vH(h:EIn N E)(hs:∀x∈left,x∈N)(hz:z∈left):(dk N E left).filter (λk=>!decide (k=kn N E z))=dk N E (left.filter λo=>!decide (o∈kn N E z)):=by
 unfold dk;rw[jn,List.filter_nil,Gd];congr 2;refine Gj λy hy=>?_;show(!decide (kn N E y=kn N E z))=_;congr 1;rw[EY,decide_eq_true_eq,decide_eq_true_eq];exact BV h (hs z hz) (hs y hy)
end
noncomputable def tKn(k:List Str):I:=.tup (k.map .str)
theorem nu:∀{a b:List Str},a.map I.str=b.map I.str->a=b
 | [],[],_=>rfl
 | [],_::_,h=>by cases h
 | _::_,[],h=>by cases h
 | x::a,y::b,h=>by
  rw[Ek,Ek,FG.injEq]at h;rw[I.str.inj h.1,nu h.2]
theorem pN{a b:List Str}(h:tKn a=tKn b):a=b:=nu (I.tup.inj h)
theorem IW{k:List Str}{l:List (List Str)}:tKn k∈l.map tKn↔k∈l:=by
 rw[Ev];exact⟨fun⟨x,h1,h2⟩=>pN h2▸h1,λh=>⟨k,h,rfl⟩⟩
theorem Ix{x:Str}{l:List Str}:I.str x∈l.map I.str↔x∈l:=by
 rw[Ev];exact⟨fun⟨y,h1,h2⟩=>I.str.inj h2▸h1,λh=>⟨x,h,rfl⟩⟩
theorem mz{k:List Str}:∀{l:List (List Str)},l.Nodup->k∈l->(l.map tKn).eraseIdx ((l.map tKn).findIdx λj=>decide (j=tKn k))=(l.filter λx=>!decide (x=k)).map tKn
 | [],_,h=>by cases h
 | a::l,hn,hm=>by
  rw[EF]at hn;rw[Ek,List.findIdx_cons];by_cases e:a=k
  ·subst e;rw[decide_eq_true rfl];show l.map tKn=_;rw[EK,decide_eq_true rfl];show _=(l.filter _).map tKn;rw[Fw.mpr λx hx=>by
    rw[EM,decide_eq_false_iff_not];intro z;exact hn.1 (z▸hx)]
  ·have hm':k∈l:=(ycM hm).resolve_left λz=>e z.symm;rw[decide_eq_false (λz=>e (pN z))];show(tKn a::l.map tKn).eraseIdx ((l.map tKn).findIdx _+1)=_;rw[Fn,mz hn.2 hm',EK,decide_eq_false e];rfl
local macro_rules|`(tactic| ac_nf)=>`(tactic| try simp only[zq,BS,BR,vW,BU,List.set_cons_zero,HC,wZ,xr,A1,A3,A2,xt,sf,qg])
local macro_rules|`(tactic| infer_instance)=>`(tactic| first
 | refine pe ?_|refine vN ?_|(refine vL ?_;try ac_nf)|refine vK ?_|refine zd ?_|refine BK rfl ?_|refine BM ?_
 | refine yO ?_|refine Ds ?_|refine DB ?_|refine oV ?_|refine Bv ?_|refine Dw ?_|refine DA ?_
 | refine w_C ?_|refine nC rfl ?_|refine Ed ?_|refine Ef ?_|refine w_B ?_|refine w_M ?_|refine Bs ?_|refine Ee ?_|refine Bt ?_|refine Bw ?_|refine Dz ?_|refine xU ?_|refine xV ?_|refine vp ?_|refine Bu ?_
 | refine yf ?_|refine yg ?_
 | refine Bx ?_|refine x0 ?_|refine vq rfl ?_
 | refine yh ?_|refine BE ?_|refine BD ?_|refine BC ?_|refine DC ?_|refine jl ?_
 | (refine x9 (by with_unfolding_all rfl) ?_;try ac_nf)|refine BB rfl ?_|refine vz (by with_unfolding_all rfl) ?_|refine yb ?_|refine BA ?_|refine vy ?_
 | refine gu (by with_unfolding_all rfl) ?_
 | refine zR ?_|refine Ch ?_|refine B6 ?_|refine B7 ?_|refine B9 ?_|refine zZ ?_|refine zX ?_|refine wz ?_|refine Cc ?_|refine Cb ?_|refine zV ?_|refine Ad ?_|refine z7 ?_|refine Cf ?_|refine Cg ?_|refine z9 ?_|refine Aa rfl ?_
 | refine yt rfl ?_|refine yu rfl ?_|refine tw (n:=0) rfl (Hi rfl) ?_|refine tw (n:=1) rfl (Hi rfl) ?_
 | refine tp (D1 (by decide) (by decide)) ?_|refine tp (B1 (by decide) (by decide)) ?_|refine tm (by omega) ?_|refine zU (by omega) ?_
 | refine oW (by rfl) ?_|refine nM ?_|refine o4 ?_
 | refine sX (b:=true) rfl (by decide) ?_|refine sX (b:=false) rfl (by decide) ?_
 | refine DX ?_|refine DY ?_|refine DL rfl ?_|refine DH rfl (by with_unfolding_all rfl) rfl rfl ?_|refine DK rfl ?_|refine yU rfl rfl ?_|refine DJ ?_|refine Bj ?_|refine vT rfl ?_|refine vU rfl ?_)
local macro_rules|`(tactic| omega)=>`(tactic| decide)
local macro_rules|`(tactic| lia)=>`(tactic| repeat infer_instance)
local macro_rules|`(tactic| cbv)=>`(tactic| with_unfolding_all rfl)
local macro_rules|`(tactic| clear_value $h:ident)=>`(tactic| first|refine dsp (fun $h=>?_) (fun $h=>?_)|refine DV (fun $h=>?_) (fun $h=>?_)|refine bsp (fun $h=>?_) (fun $h=>?_))
theorem bj{ns:List Int}{kd:Kd}{a:Int}{QR:R->Prop}(h0:0<=a)(h1:a<ns.length)(q:∀y,y∈ns->ns[a.toNat]?=some y->QR ⟨.ow,.im (.int y)⟩):W1 (ixR ⟨kd,.li (ns.map .int)⟩ (.im (.int a))) QR:=by
 refine sZ h0 (by simpa using h1) λx hx=>?_;rw[Ep]at hx;cases e:ns[a.toNat]? with
 | none=>rw[e]at hx;cases hx
 | some y=>rw[e]at hx;cases hx;exact q y (ymG e) e
theorem qD{ns:List Int}{kd:Kd}{a:Int}{QR:R->Prop}(h0:0<=a)(h1:a<ns.length)(q:∀y,y∈ns->ns[a.toNat]?=some y->QR ⟨.ow,.im (.int y)⟩):W1 (ixR ⟨kd,.im (.tup (ns.map .int))⟩ (.im (.int a))) QR:=by
 refine tj h0 (by simpa using h1) λx hx=>?_;rw[Ep]at hx;cases e:ns[a.toNat]? with
 | none=>rw[e]at hx;cases hx
 | some y=>rw[e]at hx;cases hx;exact q y (ymG e) e
theorem aW{α:Type}{P : α->Prop}{l:List α}{y : α}(h:∀x∈l,P x)(hy:P y):∀x∈l++[y],P x:=λx hx=>(yaM hx).elim (h x) λz=>by rw[ysM z];exact hy
noncomputable def fT(f:Int×Int):T:=.li [.int f.1,.int f.2]
theorem aq{f:Int×Int}{n:Int}(h1:0<n)(h2:n<2^64){Q:T->T->Prop}(q:∀d f',0<=d->d<n->Q (.im (.int d)) (fT f')):W2 (aj [fT f,.im (.int n)]) Q:=by
 refine gI rfl rfl ?_;unfold iC
 lia
 (refine bI ?_;lia;clear_value h)
 ·lia
  exact q _ (f.1 / n,f.2) (FW _ (by omega)) (FJ _ h1)
 ·lia
  exact q _ (f.1,(f.2*48271 % 2147483647*40692+30103) % 2147483399+1) (FW _ (by omega)) (FJ _ h1)
noncomputable def oK(is:List Int):T:=.im (.tup (is.map .int))
theorem uX{f:Int×Int}{n:Int}(h1:1<=n)(h2:n<=3){Q:T->T->Prop}(q:∀is f',is.length=n.toNat->(∀x∈is,-2<=x/\x<=2)->Q (oK is) (fT f')):W2 (jD [fT f,.im (.int n)]) Q:=by
 refine gI rfl rfl ?_;unfold jA
 lia
 refine bI ?_
 lia
 refine aq (by omega) (by omega) λd f hd0 hd1=>?_;ac_nf
 lia
 clear_value h
 ·lia
  refine tu (is:=[.int 0]) ⟨by simp,by decide,by omega,by omega⟩ ?_
  lia
  have:(El n.toNat [I.int 0]).flatten=(El n.toNat (0:Int)).map .int:=by simp
  rw[this];exact q _ f (by simp) (by intro x hx;rw[(FU.mp hx).2];decide)
 ·lia
  refine eV (λf:Int×Int=>[some ⟨.io 0,fT f⟩,some ⟨.ow,.im (.int n)⟩]) I.int (λj _ is=>is.length=j/\∀x∈is,-2<=x/\x<=2) ?_
  lia
  refine⟨⟨by omega,by omega⟩,by cbv,f,by cbv,⟨rfl,by simp⟩,λj f is hj ⟨hl,hx⟩=>?_,λf is ⟨hl,hx⟩=>?_⟩
  ·lia
   refine aq (by omega) (by omega) λd f hd0 hd1=>?_;ac_nf
   lia
   refine bj (ns:=[0,1,0-1,2,0-2]) hd0 hd1 λy hy _=>⟨y,f,rfl,by cbv,by simp[hl],aW hx (by simp at hy;omega)⟩
  ·lia
   exact q is f hl hx
theorem vG{f:Int×Int}{n:Int}(h1:1<=n)(h2:n<=3){Q:T->T->Prop}(q:∀is f',is.length=n.toNat->(∀x∈is,-2<=x/\x<=2)->(∃(k:Nat) (y:Int) (m:List Int),is=El k 0++y::m/\y<0)->Q (oK is) (fT f')):W2 (dw [fT f,.im (.int n)]) Q:=by
 refine gI rfl rfl ?_;unfold dm
 lia
 refine aq (by omega) (by omega) λd f hd0 hd1=>?_;ac_nf
 lia
 refine rE (λf:Int×Int=>[some ⟨.io 0,fT f⟩,some ⟨.ow,.im (.int n)⟩,some ⟨.ow,.im (.int d)⟩,none]) I.int (λj _ is=>is.length=j/\∀x∈is,-2<=x/\x<=2) ?_
 lia
 refine⟨⟨by omega,by omega,by omega,by omega,by omega⟩,by cbv,f,by cbv,⟨rfl,by simp⟩,λj f is hj ⟨hl,hx⟩=>?_,λf is ⟨hl,hx⟩=>?_⟩
 ·lia
  refine aq (by omega) (by omega) λd f hd0 hd1=>?_;ac_nf
  lia
  refine bj (ns:=[0,1,0-1,2,0-2]) hd0 hd1 λy hy _=>⟨y,f,rfl,by cbv,by simp[hl],aW hx (by simp at hy;omega)⟩
 ·lia
  refine tq (is:=[.int 0]) ⟨by omega,by omega,by simp;rw[Ji];omega⟩ ?_
  lia
  refine aq (by omega) (by omega) λd2 f hd20 hd21=>?_;ac_nf
  lia
  refine oj (is:=(El d.toNat [I.int 0]).flatten) (js:=[.int (0-1-d2)]) (by simp;rw[Ji];omega) ?_
  lia
  refine oj (is:=(El d.toNat [I.int 0]).flatten++[.int (0-1-d2)]) (js:=is.map I.int) (by simp;rw[Ji];omega) ?_
  lia
  have:(El d.toNat [I.int 0]).flatten++[.int (0-1-d2)]++is.map I.int=(El d.toNat 0++(0-1-d2)::is).map I.int:=by simp
  rw[this];exact q _ f (by simp;omega) (λx hx'=>by
   rcases yaM hx' with hx'|hx';rw[(FU.mp hx').2];decide
   ·rcases ycM hx' with rfl|hx';omega;exact hx x hx') ⟨d.toNat,_,is,rfl,by omega⟩
theorem rA{row signs:List Int}{way:Int}(h1:1<=row.length)(h2:row.length<=1000)(hw:0<=way)(hs:signs.length=row.length)(hm:∀x∈row,-(2^64)<x/\x<2^64){Q:T->Prop}(q:∀is:List Int,is.length=row.length->(∀(k:Nat) x s,row[(k+way.toNat) % row.length]?=some x->signs[k]?=some s->is[k]?=some (x*s))->Q (oK is)):W1 (cu [oK row,.im (.int way),.li (signs.map .int)]) Q:=by
 refine pH rfl rfl ?_;unfold ci
 lia
 refine cN (λp:List Int=>[some ⟨.ow,oK row⟩,some ⟨.ow,.im (.int way)⟩,some ⟨.vw none none,.li (signs.map .int)⟩,some ⟨.ow,.li (p.map .int)⟩,none]) (λj p=>p.length=j/\∀(k:Nat),k<j->∀x s,row[(k+way.toNat) % row.length]?=some x->signs[k]?=some s->p[k]?=some (x*s)) ?_
 lia
 rw[Ej];refine⟨⟨by omega,by omega⟩,[],by cbv,⟨rfl,λk hk=>absurd hk (HZ _)⟩,λj is hj ⟨hl,hx⟩=>?_,λis ⟨hl,hx⟩=>?_⟩
 ·lia
  refine tm (by simp;omega) ?_
  lia
  rw[Ej];have e1:((j:Int)+way) % (row.length:Int)=(((j+way.toNat) % row.length:Nat):Int):=by
   rw[Int.natCast_emod,Int.natCast_add];congr 1;omega
  rw[e1];have hlt:(j+way.toNat) % row.length<row.length:=GJ _ (by omega);refine qD (ns:=row) (by omega) (by omega) λy hy ey=>?_
  lia
  refine bj (ns:=signs) (by omega) (by omega) λz hz ez=>?_
  lia
  refine tp (B1 (hm y hy).1 (hm y hy).2) ?_
  lia
  refine bc (by simp[hl];rw[Ji];omega) ?_
  lia
  refine⟨is++[y*z],?_,by simp[hl],λk hk x s h1 h2=>?_⟩
  ·show _=[_,_,_,_,_];rw[Es]
   cbv
  ·rcases Nat.lt_succ_iff_lt_or_eq.mp hk with hk|rfl;rw[E4 (by omega)];exact hx k hk x s h1 h2
   ·rw[ES]at ey ez;rw[ey]at h1;rw[ez]at h2;cases h1;cases h2;rw[Ft (by omega),hl];simp
 ·lia
  exact q is (by omega) λk x s h1 h2=>hx k (by have:=(Eg.mp h2).1;omega) x s h1 h2
inductive Ru where
 | num (n:Int)|rd (x:Str) (row:List Int)|op (s:Str) (a b:Ru)|cond (a b c:Ru)
noncomputable def tRu:Ru->I
 | .num n=>.tup [.str "num",.int n]
 | .rd x row=>.tup [.str "at",.str x,.tup (row.map .int)]
 | .op s a b=>.tup [.str "op",.str s,tRu a,tRu b]
 | .cond a b c=>.tup [.str "if",tRu a,tRu b,tRu c]
noncomputable def Ru.leaves:Ru->List Ru
 | .op _ a b=>a.leaves++b.leaves
 | .cond a b c=>a.leaves++(b.leaves++c.leaves)
 | r=>[r]
noncomputable def Ru.depth:Ru->Nat
 | .op _ a b=>max a.depth b.depth+1
 | .cond a b c=>max a.depth (max b.depth c.depth)+1
 | _=>0
noncomputable def oH:List Str:=["+","-","*","min","max","rest","less"]
def Ru.ok:Ru->Prop
 | .op s a b=>s∈oH/\a.ok/\b.ok
 | .cond a b c=>a.ok/\b.ok/\c.ok
 | _=>True
theorem Ru.depth_lt:∀r:Ru,r.depth<r.leaves.length
 | .num _=>Ia
 | .rd _ _=>Ia
 | .op _ a b=>by have:=a.depth_lt;have:=b.depth_lt;simp only[Ru.depth,Ru.leaves,Et];omega
 | .cond a b c=>by have:=a.depth_lt;have:=b.depth_lt;have:=c.depth_lt;simp only[Ru.depth,Ru.leaves,Et];omega
theorem ga{α:Type}{emb : α->I}{ns:List α}{kd:Kd}{a:Int}{QR:R->Prop}(h0:0<=a)(h1:a<ns.length)(q:∀y,ns[a.toNat]?=some y->QR ⟨.ow,.im (emb y)⟩):W1 (ixR ⟨kd,.li (ns.map emb)⟩ (.im (.int a))) QR:=by
 refine sZ h0 (by simpa using h1) λx hx=>?_;rw[Ep]at hx;cases e:ns[a.toNat]? with
 | none=>rw[e]at hx;cases hx
 | some y=>rw[e]at hx;cases hx;exact q y e
theorem sY{α:Type}{emb : α->I}{ns:List α}{kd:Kd}{a:Int}{QR:R->Prop}(h0:0<=a)(h1:a<ns.length)(q:∀y,ns[a.toNat]?=some y->QR ⟨.ow,.im (emb y)⟩):W1 (ixR ⟨kd,.im (.tup (ns.map emb))⟩ (.im (.int a))) QR:=by
 refine tj h0 (by simpa using h1) λx hx=>?_;rw[Ep]at hx;cases e:ns[a.toNat]? with
 | none=>rw[e]at hx;cases hx
 | some y=>rw[e]at hx;cases hx;exact q y e
theorem Dx{ct:MT}{s1 s2:MS}{O:Rho}{Q:Fl->Rho->Prop}(M:Bool->Rho->Prop)(h:WT ct O M)(h1:∀O,M true O->WS s1 O Q)(h2:∀O,M false O->WS s2 O Q):WS (mIf ct s1 s2) O Q:=bI (WT.mono h λb O m=>⟨λe=>h1 O (e▸m),λe=>h2 O (e▸m)⟩)
theorem DT{α:Type}{l:List α}{n:Nat}{a b : α}(ha:l[n]?=some a)(hb:l[n+1]?=some b):l=l.take n++a::b::l.drop (n+2):=by
 obtain⟨h1,e1⟩:=Eg.mp ha;obtain⟨h2,e2⟩:=Eg.mp hb;rw[←e1,←e2,FF,FF,Gq]
theorem DU{α:Type}{l:List α}{n:Nat}{a b c : α}(ha:l[n]?=some a)(hb:l[n+1]?=some b)(hc:l[n+2]?=some c):l=l.take n++a::b::c::l.drop (n+3):=by
 obtain⟨h1,e1⟩:=Eg.mp ha;obtain⟨h2,e2⟩:=Eg.mp hb;obtain⟨h3,e3⟩:=Eg.mp hc;rw[←e1,←e2,←e3,FF,FF,FF,Gq]
theorem sk{f:Int×Int}{rs:List Ru}(hne:rs≠[])(hl:rs.length<=1000)(hok:∀r∈rs,r.ok){Q:T->T->Prop}(q:∀r f',r.leaves=rs.flatMap Ru.leaves->r.ok->Q (.im (tRu r)) (fT f')):W2 (jb [fT f,.li (rs.map tRu)]) Q:=by
 refine II [some ⟨.io 0,fT f⟩,some ⟨.vw none none,.li (rs.map tRu)⟩,none,none,none] rfl rfl rfl ?_;unfold gx
 lia
 refine gr (λs:(Int×Int)×List Ru=>[some ⟨.io 0,fT s.1⟩,some ⟨.vw none none,.li (rs.map tRu)⟩,some ⟨.ow,.li (s.2.map tRu)⟩,none,none]) (λs=>s.2≠[]/\s.2.length<=1000/\(∀r∈s.2,r.ok)/\s.2.flatMap Ru.leaves=rs.flatMap Ru.leaves) (λs=>s.2.length) (f,rs) (by cbv) ⟨hne,hl,hok,rfl⟩ λs ⟨hne,hl,hok,hfl⟩=>?_;obtain⟨f,cs⟩:=s;dsimp only at hne hl hok hfl⊢
 lia
 rw[Ej];clear_value hlen
 ·lia
  rw[Ej];refine aq (by omega) (by omega) λat0 f ha0 ha1=>?_;ac_nf
  lia
  refine Dx (λb O=>∃f:Int×Int,O=[some ⟨.io 0,fT f⟩,some ⟨.vw none none,.li (rs.map tRu)⟩,some ⟨.ow,.li (cs.map tRu)⟩,some ⟨.ow,.im (.int at0)⟩,none]/\(b=true->2<cs.length)) ?_ ?_ ?_
  ·lia
   rw[Ej];clear_value h2
   ·lia
    refine aq (by omega) (by omega) λd f hd0 hd1=>?_;ac_nf
    lia
    exact⟨f,rfl,λ_=>by omega⟩
   ·exact⟨f,rfl,λz=>absurd z (by decide)⟩
  ·rintro O ⟨f,rfl,h2⟩;have h2:=h2 rfl
   lia
   rw[Ej];generalize hat:(if(cs.length:Int)-3<at0 then(cs.length:Int)-3 else at0)=at1;have ha:0<=at1/\at1+3<=cs.length:=by subst hat;split<;>omega
   refine ga (ns:=cs) ha.1 (by omega) λa ea=>?_
   lia
   refine ga (ns:=cs) (by omega) (by omega) λb eb=>?_
   lia
   refine ga (ns:=cs) (by omega) (by omega) λc ec=>?_
   lia
   rw[show(at1+1).toNat=at1.toNat+1 by omega]at eb;rw[show(at1+2).toNat=at1.toNat+2 by omega]at ec;have ecut:=DU ea eb ec;refine⟨[],cs.map tRu,_,_,at1,at1+3,rfl,rfl,rfl,by cbv,⟨ha.1,by omega,by simp;omega,by simp;rw[Ji];omega⟩,rfl,rfl,?_⟩;ac_nf
   lia
   refine⟨(f,cs.take at1.toNat++Ru.cond a b c::cs.drop (at1.toNat+3)),?_,?_,by simp,?_,?_,?_⟩
   ·rw[Es,Ek,GO,HA,show(at1+3).toNat=at1.toNat+3 by omega,Eu]
    cbv
   ·simp;omega
   ·simp;omega
   ·intro r hr;rcases yaM hr with hr|hr;exact hok r (Fe hr)
    ·rcases ycM hr with rfl|hr;exact⟨hok a (ymG ea),hok b (ymG eb),hok c (ymG ec)⟩;exact hok r (FN hr)
   ·rw[←hfl]
    conv=>rhs;rw[ecut]
    simp[Ru.leaves]
  ·rintro O ⟨f,rfl,_⟩
   lia
   refine aq (by omega) (by omega) λd f hd0 hd1=>?_;ac_nf
   lia
   refine ga (emb:=I.str) (ns:=oH) hd0 (by simpa[oH]using hd1) λsg esg=>?_
   lia
   refine ga (ns:=cs) ha0 (by omega) λa ea=>?_
   lia
   refine ga (ns:=cs) (by omega) (by omega) λb eb=>?_
   lia
   rw[show(at0+1).toNat=at0.toNat+1 by omega]at eb;have ecut:=DT ea eb;refine⟨[],cs.map tRu,_,_,at0,at0+2,rfl,rfl,rfl,by cbv,⟨ha0,by omega,by simp;omega,by simp;rw[Ji];omega⟩,rfl,rfl,?_⟩;ac_nf
   lia
   refine⟨(f,cs.take at0.toNat++Ru.op sg a b::cs.drop (at0.toNat+2)),?_,?_,by simp,?_,?_,?_⟩
   ·rw[Es,Ek,GO,HA,show(at0+2).toNat=at0.toNat+2 by omega,Eu]
    cbv
   ·simp;omega
   ·simp;omega
   ·intro r hr;rcases yaM hr with hr|hr;exact hok r (Fe hr)
    ·rcases ycM hr with rfl|hr;exact⟨ymG esg,hok a (ymG ea),hok b (ymG eb)⟩;exact hok r (FN hr)
   ·rw[←hfl]
    conv=>rhs;rw[ecut]
    simp[Ru.leaves]
 ·lia
  obtain⟨r,rfl⟩:∃r,cs=[r]:=by
   match cs,hne,hlen with
   | [r],_,_=>exact⟨r,rfl⟩
   | _::_::_,_,h=>simp at h;omega
  lia
  exact q r f (by simpa using hfl) (hok r (by simp))
noncomputable def Ru.kids:Ru->List Ru
 | .op _ a b=>[a,b]
 | .cond a b c=>[a,b,c]
 | _=>[]
noncomputable def Ru.pre:Ru->List Ru
 | .num n=>[.num n]
 | .rd x row=>[.rd x row]
 | .op s a b=>.op s a b::(a.pre++b.pre)
 | .cond a b c=>.cond a b c::(a.pre++(b.pre++c.pre))
theorem on(r:Ru):r.pre=r::r.kids.flatMap Ru.pre:=by cases r<;>simp[Ru.pre,Ru.kids]
theorem wO(r:Ru):1<=r.pre.length:=by rw[on];simp
theorem g8:∀r:Ru,r.pre.length<2*r.leaves.length
 | .num _=>by simp[Ru.pre,Ru.leaves]
 | .rd _ _=>by simp[Ru.pre,Ru.leaves]
 | .op _ a b=>by have:=g8 a;have:=g8 b;simp only[Ru.pre,Ru.leaves,Ey,Et];omega
 | .cond a b c=>by have:=g8 a;have:=g8 b;have:=g8 c;simp only[Ru.pre,Ru.leaves,Ey,Et];omega
theorem sB(r:Ru):r.kids.length<=3:=by cases r<;>simp[Ru.kids]
theorem sr{r:Ru}{Q:T->Prop}(q:Q (.im (.tup (r.kids.map tRu)))):W1 (cW [.im (tRu r)]) Q:=by
 refine Iw [some ⟨.ow,.im (tRu r)⟩] rfl rfl rfl ?_;unfold bX;cases r with
 | num k=>
  rw[tRu]
  lia
  (refine bI ?_;lia;clear_value h)
  ·exact absurd h (by decide +kernel)
  lia
  (refine bI ?_;lia;clear_value h')
  ·exact absurd h' (by decide +kernel)
  lia
  exact q
 | rd x row=>
  rw[tRu]
  lia
  (refine bI ?_;lia;clear_value h)
  ·exact absurd h (by decide +kernel)
  lia
  (refine bI ?_;lia;clear_value h')
  ·exact absurd h' (by decide +kernel)
  lia
  exact q
 | op s a b=>
  rw[tRu]
  lia
  (refine bI ?_;lia;clear_value h)
  ·lia
   refine mQ (is:=[.str "op",.str s,tRu a,tRu b]) (show ¬((2:Nat)=0/\4=4) by decide) ?_
   lia
   exact q
  ·exact absurd rfl h
 | cond a b c=>
  rw[tRu]
  lia
  (refine bI ?_;lia;clear_value h)
  ·exact absurd h (by decide +kernel)
  lia
  (refine bI ?_;lia;clear_value h')
  ·lia
   refine mQ (is:=[.str "if",tRu a,tRu b,tRu c]) (show ¬((1:Nat)=0/\4=4) by decide) ?_
   lia
   exact q
  ·exact absurd rfl h'
theorem tz{is:List I}{Q:Bool->Prop}(q:Q (!is.isEmpty)):W1 (tru (.li is)) Q:=w1 rfl q
theorem tD{r:Ru}(hl:r.leaves.length<=1000){Q:T->Prop}(q:Q (.li (r.pre.map tRu))):W1 (fo [.im (tRu r)]) Q:=by
 have hpre:=g8 r;refine Iw [some ⟨.ow,.im (tRu r)⟩,none,none,none] rfl rfl rfl ?_;unfold dt
 lia
 refine gr (λs:List Ru×List Ru=>[some ⟨.ow,.im (tRu r)⟩,some ⟨.ow,.li (s.1.map tRu)⟩,some ⟨.ow,.li (s.2.map tRu)⟩,none]) (λs=>s.1++s.2.reverse.flatMap Ru.pre=r.pre) (λs=>(s.2.flatMap Ru.pre).length) ([],[r]) (by cbv) (by simp) λs hs=>?_;obtain⟨ps,st⟩:=s;dsimp only at hs⊢
 lia
 refine tz ?_;refine bsp (λhne=>?_) (λhe=>?_)
 ·obtain⟨st',p,rfl⟩:∃st' p,st=st'++[p]:=by
   rcases List.eq_nil_or_concat st with z|⟨a,b,z⟩;rw[z]at hne;cases hne;exact⟨a,b,by simpa using z⟩
  rw[Es]at *
  lia
  refine Cd ?_;ac_nf
  lia
  have hlen:=congrArg FK hs;simp only[Hu,F4,List.reverse_nil,Fx,Ez,Ew,Gs,EB,Et,EC]at hlen hs;have hk:(st'.reverse.flatMap Ru.pre).length=(st'.flatMap Ru.pre).length:=by simp[Hv,GZ,HW]
  have hst:st'.length<=(st'.flatMap Ru.pre).length:=by
   clear hs hne hlen hk
   induction st' with
   | nil=>simp
   | cons a l ih=>rw[Ew,Ey,Et];have:=wO a;omega
  refine bc (is:=ps.map tRu) (by simp;rw[Ji];omega) ?_;ac_nf
  lia
  refine sr ?_
  lia
  have hkid:=sB p;refine sV (is:=st'.map tRu) (js:=(p.kids.map tRu).reverse) (by simp;rw[Ji];omega) ?_;ac_nf
  lia
  refine⟨(ps++[p],st'++p.kids.reverse),?_,?_,?_⟩
  ·rw[Es,Es,GZ]
   cbv
  ·rw[Ez,Ez,Et,Et,Ew,Gs,EB,on p,Ey];have:(p.kids.reverse.flatMap Ru.pre).length=(p.kids.flatMap Ru.pre).length:=by simp[Hv,GZ,HW]
   omega
  ·rw[←hs,Hu,List.reverse_reverse,Ez,on p];simp
 ·have:st=[]:=by cases st<;>first|rfl|cases he
  subst this
  lia
  simp at hs;subst hs;exact q
noncomputable def tRd(p:Int×List Int):I:=.tup [.int p.1,.tup (p.2.map .int)]
noncomputable def aF(l:List (Int×List Int)):T:=.li (l.map tRd)
theorem eU(l:List (Int×List Int))(i:I):aF l ≠ .im i:=by unfold aF;intro z;cases z
theorem uk{ls:List (List (Int×List Int))}{n:Nat}{l:List (Int×List Int)}{p:Int×List Int}(h:ls[n]?=some l):T.put (.lst (ls.map aF)) [.ix n] (.li (l.map tRd++[tRd p]))=.lst ((ls.set n (l++[p])).map aF):=by
 rw[uj (u:=aF l) (by rw[Ep,h];rfl),G8];simp[aF]
theorem vo{O:Rho}{Q:Fl->Rho->Prop}{L X:Nat}{args:MA}{ls:List (List (Int×List Int))}{i:Int}(n:Nat){l:List (Int×List Int)}(hL : O[L]?=some (some ⟨.ow,.lst (ls.map aF)⟩))(hX : O[X]?=some (some ⟨.ow,.im (.int i)⟩))(hi:i=(n:Int))(hl:ls[n]?=some l)(hz:l.length<1000)(hm:args.mu.contains L=false)
  (ha:WA args O λrs O1=>∃p,rs=[⟨.ow,.im (tRd p)⟩]/\O1[L]?=some (some ⟨.ow,.lst (ls.map aF)⟩)/\Q .nx ((ao [L] O1).set L (some ⟨.ow,.lst ((ls.set n (l++[p])).map aF)⟩))):WS (aZ (bK L [] apT (mIx (af L) (af X)) args)) O Q:=by
 subst hi;refine oV (vp (Bs (nC hL (nC hX (gu (by cbv) ?_)))));have hl':(ls.map aF)[(n:Int).toNat]?=some (aF l):=by rw[ES,Ep,hl];rfl
 refine ol (u:=aF l) (kd:=.vw (some L) (some [.ix (n:Int).toNat])) (by omega) hl' (eU l) rfl ?_;rw[ES];refine WA.mono ha λrs O1 ⟨p,e,hL',q⟩=>?_;subst e;refine gu ?_ (oW rfl (o4 (nM (yU hL' rfl ?_))))
 ·show db args.mu ⟨.vw (some L) (some [.ix n]),aF l⟩=true;unfold db;simp only[Kd.root];rw[hm];rfl
 ·refine bc (is:=l.map tRd) (by simp;rw[Ji];omega) ?_;rw[uk hl];exact q
def IE(P:Nat->Int×List Int->Prop)(c:Nat)(m:Nat)(ls:List (List (Int×List Int))):Prop:=ls.length=m/\∀x l,ls[x]?=some l->l.length<=c/\∀p∈l,P x p
theorem IE.get{P:Nat->Int×List Int->Prop}{c m:Nat}{ls:List (List (Int×List Int))}(h:IE P c m ls){n:Nat}(hn:n<m):∃l,ls[n]?=some l/\l.length<=c/\∀p∈l,P n p:=by
 have:n<ls.length:=by rw[h.1];exact hn
 exact⟨ls[n],EQ this,h.2 n _ (EQ this)⟩
theorem ee{α:Type}{l:List α}{n x:Nat}{a b : α}(h:(l.set n a)[x]?=some b):(n=x/\b=a)∨(n≠x/\l[x]?=some b):=by
 by_cases e:n=x
 ·subst e;have:=(Eg.mp h).1;rw[Fg (by simpa using this)]at h;cases h;exact .inl ⟨rfl,rfl⟩
 ·rw[ED e]at h;exact .inr ⟨e,h⟩
theorem IE.set{P:Nat->Int×List Int->Prop}{c m:Nat}{ls:List (List (Int×List Int))}{n:Nat}{l l':List (Int×List Int)}(h:IE P c m ls)(hl:ls[n]?=some l)(hn:l'.length<=c)(hp:∀p∈l',P n p):IE P c m (ls.set n l'):=by
 refine⟨by rw[Gc];exact h.1,λx l' hx=>?_⟩;rcases ee hx with⟨rfl,rfl⟩|⟨_,hx⟩;exact⟨hn,hp⟩;exact h.2 x l' hx
def ke(w m:Int)(p:Int×List Int):Prop:=0<=p.1/\p.1<m/\p.2.length=w.toNat/\∀x∈p.2,-2<=x/\x<=2
theorem vM{f:Int×Int}{w m:Int}(h1:1<=w)(h2:w<=3)(h3:1<=m)(h4:m<=6){Q:T->T->Prop}(q:∀ls f',IE (λ_ p=>ke w m p) 3 m.toNat ls->Q (.lst (ls.map aF)) (fT f')):W2 (dI [fT f,.im (.int w),.im (.int m)]) Q:=by
 refine gI rfl rfl ?_;unfold ce
 lia
 refine ka (λ_:Unit=>[some ⟨.io 0,fT f⟩,some ⟨.ow,.im (.int w)⟩,some ⟨.ow,.im (.int m)⟩,none,none,none]) aF eU (λ_ _ l=>∀x∈l,x=[]) ?_
 lia
 refine⟨⟨by omega,by omega⟩,by cbv,(),by cbv,by simp,λj _ l hj hl=>?_,λ_ l hl hn=>?_⟩
 ·lia
  exact⟨[],(),rfl,by cbv,aW hl rfl⟩
 lia
 refine cN (λs:(Int×Int)×List (List (Int×List Int))=>[some ⟨.io 0,fT s.1⟩,some ⟨.ow,.im (.int w)⟩,some ⟨.ow,.im (.int m)⟩,some ⟨.ow,.lst (s.2.map aF)⟩,none,none]) (λj s=>IE (λ_ p=>ke w m p) 3 m.toNat s.2/\∀y l,j<=y->s.2[y]?=some l->l=[]) ?_
 lia
 refine⟨⟨by omega,by omega⟩,(f,l),by cbv,⟨⟨hn,λx l' hx=>by rw[hl l' (ymG hx)];simp⟩,λy l' _ hx=>hl l' (ymG hx)⟩,λx s hx ⟨hL,hE⟩=>?_,λs ⟨hL,_⟩=>?_⟩
 ·lia
  refine cN (λt:(Int×Int)×List (List (Int×List Int))=>[some ⟨.io 0,fT t.1⟩,some ⟨.ow,.im (.int w)⟩,some ⟨.ow,.im (.int m)⟩,some ⟨.ow,.lst (t.2.map aF)⟩,some ⟨.ow,.im (.int x)⟩,none]) (λj t=>IE (λ_ p=>ke w m p) 3 m.toNat t.2/\(∀l,t.2[x]?=some l->l.length<=j)/\∀y l,x+1<=y->t.2[y]?=some l->l=[]) ?_
  lia
  refine aq (by omega) (by omega) λd f hd0 hd1=>?_;ac_nf
  lia
  refine⟨⟨by omega,by omega⟩,(f,s.2),by cbv,⟨hL,λl hl=>by rw[hE x l (Eo _) hl];simp,λy l hy hl=>hE y l (by omega) hl⟩,λj t hj ⟨hL,hc,hE⟩=>?_,λt ⟨hL,_,hE⟩=>by lia;exact⟨t,by cbv,hL,hE⟩⟩;obtain⟨l,hl,hl3,hlP⟩:=hL.get (n:=x) (by omega);iterate 2 infer_instance
  refine vo (ls:=t.2) x rfl rfl rfl hl (by omega) (by cbv) ?_
  lia
  refine aq (by omega) (by omega) λe f he0 he1=>?_;ac_nf
  lia
  refine uX h1 h2 λis f hil hib=>?_;ac_nf
  lia
  have:=hc l hl;refine⟨(e,is),rfl,rfl,?_⟩
  lia
  refine⟨(f,t.2.set x (l++[(e,is)])),by cbv,hL.set hl (by simp;omega) (aW hlP ⟨he0,he1,hil,hib⟩),λl' hl'=>?_,λy l' hy hl'=>?_⟩
  ·rcases ee hl' with⟨_,rfl⟩|⟨z,_⟩;simp;omega;exact absurd rfl z
  ·rcases ee hl' with⟨z,_⟩|⟨_,hl'⟩;omega;exact hE y l' hy hl'
 ·lia
  exact q s.2 s.1 hL
def nF(w m:Int)(x:Nat)(p:Int×List Int):Prop:=ke w m p/\((p.1<x/\∀e∈p.2,e=0) ∨ ∃(k:Nat) (y:Int) (r:List Int),p.2=El k 0++y::r/\y<0)
theorem pv{f:Int×Int}{w m:Int}(h1:1<=w)(h2:w<=3)(h3:1<=m)(h4:m<=6){Q:T->T->Prop}(q:∀ls f',IE (nF w m) 3 m.toNat ls->Q (.lst (ls.map aF)) (fT f')):W2 (cn [fT f,.im (.int w),.im (.int m)]) Q:=by
 refine gI rfl rfl ?_;unfold cf
 lia
 refine ka (λ_:Unit=>[some ⟨.io 0,fT f⟩,some ⟨.ow,.im (.int w)⟩,some ⟨.ow,.im (.int m)⟩,none,none,none]) aF eU (λ_ _ l=>∀x∈l,x=[]) ?_
 lia
 refine⟨⟨by omega,by omega⟩,by cbv,(),by cbv,by simp,λj _ l hj hl=>?_,λ_ l hl hn=>?_⟩
 ·lia
  exact⟨[],(),rfl,by cbv,aW hl rfl⟩
 lia
 refine cN (λs:(Int×Int)×List (List (Int×List Int))=>[some ⟨.io 0,fT s.1⟩,some ⟨.ow,.im (.int w)⟩,some ⟨.ow,.im (.int m)⟩,some ⟨.ow,.lst (s.2.map aF)⟩,none,none]) (λj s=>IE (nF w m) 3 m.toNat s.2/\∀y l,j<=y->s.2[y]?=some l->l=[]) ?_
 lia
 refine⟨⟨by omega,by omega⟩,(f,l),by cbv,⟨⟨hn,λx l' hx=>by rw[hl l' (ymG hx)];simp⟩,λy l' _ hx=>hl l' (ymG hx)⟩,λx s hx ⟨hL,hE⟩=>?_,λs ⟨hL,_⟩=>?_⟩
 ·lia
  refine cN (λt:(Int×Int)×List (List (Int×List Int))=>[some ⟨.io 0,fT t.1⟩,some ⟨.ow,.im (.int w)⟩,some ⟨.ow,.im (.int m)⟩,some ⟨.ow,.lst (t.2.map aF)⟩,some ⟨.ow,.im (.int x)⟩,none]) (λj t=>IE (nF w m) 3 m.toNat t.2/\(∀l,t.2[x]?=some l->l.length<=j)/\∀y l,x+1<=y->t.2[y]?=some l->l=[]) ?_
  lia
  refine aq (by omega) (by omega) λd f hd0 hd1=>?_;ac_nf
  lia
  refine⟨⟨by omega,by omega⟩,(f,s.2),by cbv,⟨hL,λl hl=>by rw[hE x l (Eo _) hl];simp,λy l hy hl=>hE y l (by omega) hl⟩,λj t hj ⟨hL,hc,hE⟩=>?_,λt ⟨hL,_,hE⟩=>by lia;exact⟨t,by cbv,hL,hE⟩⟩;obtain⟨l,hl,hl3,hlP⟩:=hL.get (n:=x) (by omega);have hcl:=hc l hl;have fin:∀(e:Int) (is:List Int) (f:Int×Int),nF w m x (e,is)->IE (nF w m) 3 m.toNat (t.2.set x (l++[(e,is)]))/\(∀l',(t.2.set x (l++[(e,is)]))[x]?=some l'->l'.length<=j+1)/\∀y l',x+1<=y->(t.2.set x (l++[(e,is)]))[y]?=some l'->l'=[]:=λe is f hP=>by
   refine⟨hL.set hl (by simp;omega) (aW hlP hP),λl' hl'=>?_,λy l' hy hl'=>?_⟩
   ·rcases ee hl' with⟨_,rfl⟩|⟨z,_⟩;simp;omega;exact absurd rfl z
   ·rcases ee hl' with⟨z,_⟩|⟨_,hl'⟩;omega;exact hE y l' hy hl'
  have hback:∀f,WS (aZ (bK 3 [] apT (mIx (af 3) (af 4)) (ac (aC [] (ac (am 0 0 aj (aa 0 (aa 2 mNil))) (ac (am 0 0 dw (aa 0 (aa 1 mNil))) mNil))) mNil))) [some ⟨.io 0,fT f⟩,some ⟨.ow,.im (.int w)⟩,some ⟨.ow,.im (.int m)⟩,some ⟨.ow,.lst (t.2.map aF)⟩,some ⟨.ow,.im (.int x)⟩,some ⟨.ow,.im (.int j)⟩] λfl O=>fl=.nx/\∃e is f,O=[some ⟨.io 0,fT f⟩,some ⟨.ow,.im (.int w)⟩,some ⟨.ow,.im (.int m)⟩,some ⟨.ow,.lst ((t.2.set x (l++[(e,is)])).map aF)⟩,some ⟨.ow,.im (.int x)⟩,some ⟨.ow,.im (.int j)⟩]/\nF w m x (e,is):=λf=>by
   refine vo (ls:=t.2) x rfl rfl rfl hl (by omega) (by cbv) ?_
   lia
   refine aq (by omega) (by omega) λe f he0 he1=>?_;ac_nf
   lia
   refine vG h1 h2 λis f hil hib hb=>?_;ac_nf
   lia
   exact⟨(e,is),rfl,rfl,by trivial,e,is,f,by cbv,⟨he0,he1,hil,hib⟩,.inr hb⟩
  have hzero:∀f,(0:Int)<x->WS (aZ (bK 3 [] apT (mIx (af 3) (af 4)) (ac (aC [] (ac (am 0 0 aj (aa 0 (aa 4 mNil))) (ac (mOp dU (aC [] (ac (mC (.int 0)) mNil)) (af 1)) mNil))) mNil))) [some ⟨.io 0,fT f⟩,some ⟨.ow,.im (.int w)⟩,some ⟨.ow,.im (.int m)⟩,some ⟨.ow,.lst (t.2.map aF)⟩,some ⟨.ow,.im (.int x)⟩,some ⟨.ow,.im (.int j)⟩] λfl O=>fl=.nx/\∃e is f,O=[some ⟨.io 0,fT f⟩,some ⟨.ow,.im (.int w)⟩,some ⟨.ow,.im (.int m)⟩,some ⟨.ow,.lst ((t.2.set x (l++[(e,is)])).map aF)⟩,some ⟨.ow,.im (.int x)⟩,some ⟨.ow,.im (.int j)⟩]/\nF w m x (e,is):=λf hx0=>by
   refine vo (ls:=t.2) x rfl rfl rfl hl (by omega) (by cbv) ?_
   lia
   refine aq (by omega) (by omega) λe f he0 he1=>?_;ac_nf
   lia
   refine tu (is:=[.int 0]) ⟨by simp,by decide,by omega,by omega⟩ ?_;have er:(El w.toNat [I.int 0]).flatten=(El w.toNat (0:Int)).map .int:=by simp
   rw[er]
   lia
   refine⟨(e,El w.toNat 0),rfl,rfl,by trivial,e,_,f,by cbv,⟨he0,by omega,by simp,λy hy=>?_⟩,.inl ⟨he1,λy hy=>(FU.mp hy).2⟩⟩;rw[(FU.mp hy).2];decide
  lia
  (refine bI ?_;lia;clear_value hx0)
  ·lia
   refine aq (by omega) (by omega) λz f hz0 hz1=>?_;ac_nf
   lia
   clear_value hz
   ·refine WS.mono (hzero f hx0) ?_;rintro fl O ⟨rfl,e,is,f,rfl,hP⟩
    lia
    exact⟨(f,_),by cbv,fin e is f hP⟩
   ·refine WS.mono (hback f) ?_;rintro fl O ⟨rfl,e,is,f,rfl,hP⟩
    lia
    exact⟨(f,_),by cbv,fin e is f hP⟩
  ·refine⟨λz=>absurd z (by decide),λ_=>?_⟩;refine WS.mono (hback _) ?_;rintro fl O ⟨rfl,e,is,f,rfl,hP⟩
   lia
   exact⟨(f,_),by cbv,fin e is f hP⟩
 ·lia
  exact q s.2 s.1 hL
theorem IE.mono{P:Nat->Int×List Int->Prop}{c c' m:Nat}{ls:List (List (Int×List Int))}(h:IE P c m ls)(hc:c<=c'):IE P c' m ls:=⟨h.1,λx l hx=>⟨ER (h.2 x l hx).1 hc,(h.2 x l hx).2⟩⟩
noncomputable def tTr(p:Int×Int×List Int):I:=.tup [.int p.1,.int p.2.1,.tup (p.2.2.map .int)]
def DE(w:Int)(p:Int×Int×List Int):Prop:=0<=p.1/\p.1<w/\0<=p.2.1/\p.2.1<w/\p.2.2.length=w.toNat/\∀x∈p.2.2,-2<=x/\x<=2
theorem oS{row signs:List Int}{way:Int}(h1:1<=row.length)(h2:row.length<=1000)(hw:0<=way)(hs:signs.length=row.length)(hr:∀x∈row,-2<=x/\x<=2)(hg:∀x∈signs,x=1∨x = -1){Q:T->Prop}(q:∀is:List Int,is.length=row.length->(∀x∈is,-2<=x/\x<=2)->(∀(k:Nat) x s,row[(k+way.toNat) % row.length]?=some x->signs[k]?=some s->is[k]?=some (x*s))->Q (oK is)):W1 (cu [oK row,.im (.int way),.li (signs.map .int)]) Q:=by
 refine rA h1 h2 hw hs (λx hx=>by have:=hr x hx;omega) λis hl hi=>q is hl (λy hy=>?_) hi;obtain⟨k,hk⟩:=FY.mp hy;have hkl:=(Eg.mp hk).1;have hm:(k+way.toNat) % row.length<row.length:=GJ _ (by omega);have e1:row[(k+way.toNat) % row.length]?=some row[(k+way.toNat) % row.length]:=EQ hm;have e2:signs[k]?=some signs[k]:=EQ (by omega);have e3:=hi k _ _ e1 e2;rw[hk]at e3;have b1:=hr _ (ymG e1);have b2:=hg _ (ymG e2);have:y=row[(k+way.toNat) % row.length]*signs[k]:=by simpa using e3
 rw[this];rcases b2 with z|z<;>rw[z]<;>omega
theorem zQ{f:Int×Int}{w m:Int}(h1:2<=w)(h2:w<=3)(h3:w<=m)(h4:m<=6){Q:T->T->Prop}(q:∀ls f',IE (λ_ p=>ke w m p) 7 m.toNat ls->Q (.lst (ls.map aF)) (fT f')):W2 (cq [fT f,.im (.int w),.im (.int m)]) Q:=by
 refine II [some ⟨.io 0,fT f⟩,some ⟨.ow,.im (.int w)⟩,some ⟨.ow,.im (.int m)⟩,none,none,none,none,none,none,none,none] rfl rfl rfl ?_;unfold bG
 lia
 refine aq (by omega) (by omega) λd1 f a1 b1=>?_;ac_nf
 lia
 refine aq (by omega) (by omega) λd2 f a2 b2=>?_;ac_nf
 lia
 refine aq (by omega) (by omega) λd3 f a3 b3=>?_;ac_nf
 lia
 refine aq (by omega) (by omega) λd4 f a4 b4=>?_;ac_nf
 lia
 refine bc (by simp;rw[Ji];omega) ?_;refine pe (yO ?_);refine WS.mono (Q:=λfl O=>fl=.nx/\∃(f:Int×Int) (es:List (Int×Int×List Int)),O=[some ⟨.io 0,fT f⟩,some ⟨.ow,.im (.int w)⟩,some ⟨.ow,.im (.int m)⟩,some ⟨.ow,.im (.int (1+d1))⟩,some ⟨.ow,.li (es.map tTr)⟩,none,none,none,none,none,none]/\(∀p∈es,DE w p)/\es.length<=7) ?_ ?_
 ·lia
  (refine bI ?_;lia;clear_value hw)
  ·subst hw
   lia
   refine aq (by omega) (by omega) λd5 f a5 b5=>?_;ac_nf
   lia
   refine aq (by omega) (by omega) λd6 f a6 b6=>?_;ac_nf
   lia
   refine oj (by simp;rw[Ji];omega) ?_
   lia
   refine⟨by trivial,f,[(0,0,[0,0,1+d1]),(1,1,[0,0,0-1]),(0,1,[0,0-1,0]),(1,0,[0,0,d5]),(2,2,[0,1+d6,0]),(0,2,[0-1,0,1]),(2,0,[0,0,0])],by cbv,?_,by simp⟩;simp only[E8,FR,or_false];rintro p (rfl|rfl|rfl|rfl|rfl|rfl|rfl)<;>(refine⟨by simp,by simp,by simp,by simp,rfl,?_⟩;simp only[E8,FR,or_false];omega)
  ·have hw2:w=2:=by omega
   subst hw2
   lia
   refine⟨by trivial,f,[(0,0,[0,1+d1]),(1,1,[0,0-1-d2]),(0,1,[0-1,d3-1]),(1,0,[0-d4,0])],by cbv,?_,by simp⟩;simp only[E8,FR,or_false];rintro p (rfl|rfl|rfl|rfl)<;>(refine⟨by simp,by simp,by simp,by simp,rfl,?_⟩;simp only[E8,FR,or_false];omega)
 rintro fl O ⟨rfl,f,es,rfl,hes,hel⟩
 lia
 refine aq (by omega) (by omega) λway f aw bw=>?_;ac_nf
 lia
 refine eV (λf:Int×Int=>[some ⟨.io 0,fT f⟩,some ⟨.ow,.im (.int w)⟩,some ⟨.ow,.im (.int m)⟩,some ⟨.ow,.im (.int (1+d1))⟩,some ⟨.ow,.li (es.map tTr)⟩,none,none,none,none,none,none]) I.int (λj _ l=>l.length=j/\∀x∈l,x=1∨x = -1) ?_
 lia
 refine⟨⟨by omega,by omega⟩,by cbv,f,by cbv,⟨rfl,by simp⟩,λj f l hj ⟨hl,hx⟩=>?_,λf signs ⟨hsl,hsx⟩=>?_⟩
 ·lia
  refine aq (by omega) (by omega) λd f hd0 hd1=>?_;ac_nf
  lia
  exact⟨1-2*d,f,rfl,by cbv,by simp[hl],aW hx (by omega)⟩
 lia
 refine ka (λ_:Unit=>[some ⟨.io 0,fT f⟩,some ⟨.ow,.im (.int w)⟩,some ⟨.ow,.im (.int m)⟩,some ⟨.ow,.im (.int (1+d1))⟩,some ⟨.ow,.li (es.map tTr)⟩,some ⟨.ow,.im (.int way)⟩,some ⟨.ow,.li (signs.map .int)⟩,none,none,none,none]) aF eU (λ_ _ l=>∀x∈l,x=[]) ?_
 lia
 refine⟨⟨by omega,by omega⟩,by cbv,(),by cbv,by simp,λj _ l hj hl=>?_,λ_ l hl hn=>?_⟩
 ·lia
  exact⟨[],(),rfl,by cbv,aW hl rfl⟩
 lia
 refine bT (λt:List (List (Int×List Int))=>[some ⟨.io 0,fT f⟩,some ⟨.ow,.im (.int w)⟩,some ⟨.ow,.im (.int m)⟩,some ⟨.ow,.im (.int (1+d1))⟩,some ⟨.ow,.li (es.map tTr)⟩,some ⟨.ow,.im (.int way)⟩,some ⟨.ow,.li (signs.map .int)⟩,some ⟨.ow,.lst (t.map aF)⟩,none,none,none]) (λj t=>IE (λ_ p=>ke w m p) j m.toNat t/\∀y l,3<=y->t[y]?=some l->l=[]) ?_
 lia
 refine⟨_,(show eg _=some ((es.map tTr).map _)from rfl),by cbv,l,by cbv,⟨⟨hn,λx l' hx=>by rw[hl l' (ymG hx)];simp⟩,λy l' _ hx=>hl l' (ymG hx)⟩,λj x t hx ⟨hL,hE⟩=>?_,λt ⟨hL,hE⟩=>?_⟩
 ·rw[Ep]at hx;cases e:es[j]? with
  | none=>rw[e]at hx;cases hx
  | some p=>
   rw[e]at hx;cases hx;obtain⟨x,o,row⟩:=p;have hp:=hes _ (ymG e);obtain⟨p1,p2,p3,p4,p5,p6⟩:=hp;simp only at p1 p2 p3 p4 p5 p6;have hj:=(Eg.mp e).1;obtain⟨l,hl,hl3,hlP⟩:=hL.get (n:=x.toNat) (by omega);iterate 9 infer_instance
   refine vo (ls:=t) x.toNat rfl rfl (by omega) hl (by omega) (by cbv) ?_
   lia
   refine oS (row:=row) (signs:=signs) (by omega) (by omega) aw (by omega) p6 hsx λis hil hib _=>?_
   lia
   refine⟨(o,is),rfl,rfl,?_⟩
   lia
   refine⟨t.set x.toNat (l++[(o,is)]),by cbv,(hL.mono (HX j)).set hl (by simp;omega) (aW hlP ⟨p3,(by omega:o<m),hil.trans p5,hib⟩),λy l' hy hl'=>?_⟩;rcases ee hl' with⟨z,_⟩|⟨_,hl'⟩;omega;exact hE y l' hy hl'
 ·lia
  refine vn (λs:(Int×Int)×List (List (Int×List Int))=>[some ⟨.io 0,fT s.1⟩,some ⟨.ow,.im (.int w)⟩,some ⟨.ow,.im (.int m)⟩,some ⟨.ow,.im (.int (1+d1))⟩,some ⟨.ow,.li (es.map tTr)⟩,some ⟨.ow,.im (.int way)⟩,some ⟨.ow,.li (signs.map .int)⟩,some ⟨.ow,.lst (s.2.map aF)⟩,none,none,none]) (λj s=>IE (λ_ p=>ke w m p) 7 m.toNat s.2/\∀y l,3+j<=y->s.2[y]?=some l->l=[]) ?_
  lia
  rw[Ej]at hL;refine⟨⟨by omega,by omega,by omega,by omega⟩,(f,t),by cbv,⟨hL.mono hel,λy l' hy hl'=>hE y l' (by omega) hl'⟩,λj s hj ⟨hL,hE⟩=>?_,λs ⟨hL,_⟩=>?_⟩
  ·obtain⟨l,hl,hl3,hlP⟩:=hL.get (n:=3+j) (by omega);have hl0:=hE _ l (Eo _) hl;iterate 2 infer_instance
   refine vo (ls:=s.2) (3+j) rfl rfl (by omega) hl (by omega) (by cbv) ?_
   lia
   refine aq (by omega) (by omega) λe f he0 he1=>?_;ac_nf
   lia
   refine uX (by omega) h2 λis f hil hib=>?_;ac_nf
   lia
   refine⟨(e,is),rfl,rfl,?_⟩
   lia
   refine⟨(f,s.2.set (3+j) (l++[(e,is)])),by cbv,hL.set hl (by simp[hl0]) (aW hlP ⟨he0,(by omega:e<m),hil,hib⟩),λy l' hy hl'=>?_⟩;rcases ee hl' with⟨z,_⟩|⟨_,hl'⟩;omega;exact hE y l' (by omega) hl'
  ·lia
   exact q s.2 s.1 hL
theorem qO{ls:List (List (Int×List Int))}{n:Nat}{l:List (Int×List Int)}{p:Int×List Int}(h:ls[n]?=some l):T.put (.lst (ls.map aF)) [.ix n] (.li (tRd p::l.map tRd))=.lst ((ls.set n (p::l)).map aF):=by
 rw[uj (u:=aF l) (by rw[Ep,h];rfl),G8];simp[aF]
theorem Dy{O:Rho}{Q:Fl->Rho->Prop}{L X:Nat}{args:MA}{ls:List (List (Int×List Int))}{i:Int}(n:Nat){l:List (Int×List Int)}(hL : O[L]?=some (some ⟨.ow,.lst (ls.map aF)⟩))(hX : O[X]?=some (some ⟨.ow,.im (.int i)⟩))(hi:i=(n:Int))(hl:ls[n]?=some l)(hz:l.length<1000)(hm:args.mu.contains L=false)
  (ha:WA args O λrs O1=>∃p,rs=[⟨.ow,.im (.int 0)⟩,⟨.ow,.im (tRd p)⟩]/\O1[L]?=some (some ⟨.ow,.lst (ls.map aF)⟩)/\Q .nx ((ao [L] O1).set L (some ⟨.ow,.lst ((ls.set n (p::l)).map aF)⟩))):WS (aZ (bK L [] lH (mIx (af L) (af X)) args)) O Q:=by
 subst hi;refine oV (vp (Bs (nC hL (nC hX (gu (by cbv) ?_)))));have hl':(ls.map aF)[(n:Int).toNat]?=some (aF l):=by rw[ES,Ep,hl];rfl
 refine ol (u:=aF l) (kd:=.vw (some L) (some [.ix (n:Int).toNat])) (by omega) hl' (eU l) rfl ?_;rw[ES];refine WA.mono ha λrs O1 ⟨p,e,hL',q⟩=>?_;subst e;refine gu ?_ (oW rfl (o4 (o4 (nM (yU hL' rfl ?_)))))
 ·show db args.mu ⟨.vw (some L) (some [.ix n]),aF l⟩=true;unfold db;simp only[Kd.root];rw[hm];rfl
 ·refine yr (is:=l.map tRd) ⟨by omega,by simp,by simp;rw[Ji];omega⟩ ?_;show Q _ (List.set _ _ (some ⟨_,T.put _ _ (.li (tRd p::l.map tRd))⟩));rw[qO hl];exact q
def RR(rest row:List Int):Prop:=row.length=rest.length/\∀(i:Nat) y r,row[i]?=some y->rest[i]?=some r->-2<=y/\y<=2/\-2<=r+y/\r+y<=2
theorem xN{f:Int×Int}{w m:Int}(h1:1<=w)(h2:w<=3)(h3:1<=m)(h4:m<=6){Q:T->T->Prop}(q:∀ls f',IE (λ_ p=>ke w m p) 4 m.toNat ls->Q (.lst (ls.map aF)) (fT f')):W2 (dJ [fT f,.im (.int w),.im (.int m)]) Q:=by
 refine II [some ⟨.io 0,fT f⟩,some ⟨.ow,.im (.int w)⟩,some ⟨.ow,.im (.int m)⟩,none,none,none,none,none] rfl rfl rfl ?_;unfold cg
 lia
 refine pv h1 h2 h3 h4 λls f hLs=>?_;ac_nf
 lia
 refine aq (by omega) (by omega) λd f hd0 hd1=>?_;ac_nf
 lia
 refine tq (is:=[.int 0]) ⟨by omega,by omega,by simp;rw[Ji];omega⟩ ?_;have er:(El w.toNat [I.int 0]).flatten=(El w.toNat (0:Int)).map .int:=by simp
 rw[er]
 lia
 refine cN (λs:(Int×Int)×List (List (Int×List Int))×List Int=>[some ⟨.io 0,fT s.1⟩,some ⟨.ow,.im (.int w)⟩,some ⟨.ow,.im (.int m)⟩,some ⟨.ow,.lst (s.2.1.map aF)⟩,some ⟨.ow,.im (.int (1+d))⟩,some ⟨.ow,.li (s.2.2.map .int)⟩,none,none]) (λj s=>IE (λ_ p=>ke w m p) 4 m.toNat s.2.1/\(∀y l,j<=y->s.2.1[y]?=some l->l.length<=3)/\s.2.2.length=w.toNat/\∀x∈s.2.2,-2<=x/\x<=2) ?_
 lia
 refine⟨⟨by omega,by omega⟩,(f,ls,El w.toNat 0),by cbv,⟨⟨hLs.1,λx l hx=>⟨by have:=(hLs.2 x l hx).1;omega,λp hp=>((hLs.2 x l hx).2 p hp).1⟩⟩,λy l _ hx=>(hLs.2 y l hx).1,by simp,λx hx=>by rw[(FU.mp hx).2];decide⟩,λk s hk ⟨hL,hE,hrl,hrb⟩=>?_,λs ⟨hL,_⟩=>?_⟩
 ·obtain⟨f,ls,rest⟩:=s;simp only at hL hE hrl hrb;obtain⟨l,hl,hl4,hlP⟩:=hL.get (n:=k) (by omega);have hl3:=hE k l (Eo _) hl
  lia
  refine eV (λf:Int×Int=>[some ⟨.io 0,fT f⟩,some ⟨.ow,.im (.int w)⟩,some ⟨.ow,.im (.int m)⟩,some ⟨.ow,.lst (ls.map aF)⟩,some ⟨.ow,.im (.int (1+d))⟩,some ⟨.ow,.li (rest.map .int)⟩,some ⟨.ow,.im (.int k)⟩,none]) I.int (λj _ l=>l.length=j/\∀x∈l,-1<=x/\x<=1) ?_
  lia
  refine⟨⟨by omega,by omega⟩,by cbv,f,by cbv,⟨rfl,by simp⟩,λj f l hj ⟨hl,hx⟩=>?_,λf r1 ⟨hl1,hx1⟩=>?_⟩
  ·lia
   refine aq (by omega) (by omega) λd f hd0 hd1=>?_;ac_nf
   lia
   exact⟨d-1,f,rfl,by cbv,by simp[hl],aW hx (by omega)⟩
  lia
  refine eV (λ_:Unit=>[some ⟨.io 0,fT f⟩,some ⟨.ow,.im (.int w)⟩,some ⟨.ow,.im (.int m)⟩,some ⟨.ow,.lst (ls.map aF)⟩,some ⟨.ow,.im (.int (1+d))⟩,some ⟨.ow,.li (rest.map .int)⟩,some ⟨.ow,.im (.int k)⟩,some ⟨.ow,.li (r1.map .int)⟩]) I.int (λj _ l=>l.length=j/\∀(i:Nat) y r,l[i]?=some y->rest[i]?=some r->-2<=y/\y<=2/\-2<=r+y/\r+y<=2) ?_
  lia
  refine⟨⟨by omega,by omega⟩,by cbv,(),by cbv,⟨rfl,by simp⟩,λj _ l hj ⟨hl,hx⟩=>?_,λ_ r2 ⟨hl2,hx2⟩=>?_⟩
  ·lia
   refine bj (ns:=rest) (by omega) (by omega) λr hr er=>?_
   lia
   refine bj (ns:=r1) (by omega) (by omega) λy hy ey=>?_
   lia
   refine bj (ns:=rest) (by omega) (by omega) λr' hr' er'=>?_;rw[er]at er';cases er'
   lia
   have b1:=hrb r hr;have b2:=hx1 y hy;refine⟨_,(),rfl,by cbv,by simp[hl],λi y' r' hy' hr'=>?_⟩;by_cases hij:i<l.length
   ·rw[E4 hij]at hy';exact hx i y' r' hy' hr'
   ·have:=(Eg.mp hy').1;simp at this;have hie:i=j:=by omega
    subst hie;rw[Ft (by omega)]at hy';simp[hl]at hy';rw[ES]at er;rw[er]at hr';cases hr';subst hy';split<;>split<;>omega
  lia
  refine WS.mono (Q:=λfl O=>fl=.nx/\∃r3:List Int,O=[some ⟨.io 0,fT f⟩,some ⟨.ow,.im (.int w)⟩,some ⟨.ow,.im (.int m)⟩,some ⟨.ow,.lst (ls.map aF)⟩,some ⟨.ow,.im (.int (1+d))⟩,some ⟨.ow,.li (rest.map .int)⟩,some ⟨.ow,.im (.int k)⟩,some ⟨.ow,.li (List.map .int r3)⟩]/\RR rest r3) ?_ ?_
  ·(refine bI ?_;lia;clear_value hlast)
   ·lia
    refine cT (λ_:Unit=>[some ⟨.io 0,fT f⟩,some ⟨.ow,.im (.int w)⟩,some ⟨.ow,.im (.int m)⟩,some ⟨.ow,.lst (ls.map aF)⟩,some ⟨.ow,.im (.int (1+d))⟩,some ⟨.ow,.li (rest.map .int)⟩,some ⟨.ow,.im (.int k)⟩,some ⟨.ow,.li (r2.map .int)⟩]) I.int (λj _ l=>l.length=j/\∀(i:Nat) y r,l[i]?=some y->rest[i]?=some r->y = -r) ?_
    lia
    refine⟨rest.map .int,rfl,by simp;rw[Ji];omega,by cbv,(),by cbv,⟨rfl,by simp⟩,λj x _ l hx ⟨hl,hq⟩=>?_,λ_ r3 ⟨hl3',hq3⟩=>?_⟩
    ·rw[Ep]at hx;cases e:rest[j]? with
     | none=>rw[e]at hx;cases hx
     | some r=>
      rw[e]at hx;cases hx
      lia
      refine⟨0-r,(),rfl,by cbv,by simp[hl],λi y' r' hy' hr'=>?_⟩;by_cases hij:i<l.length
      ·rw[E4 hij]at hy';exact hq i y' r' hy' hr'
      ·have:=(Eg.mp hy').1;simp at this;have hie:i=j:=by omega
       subst hie;rw[Ft (by omega)]at hy';simp[hl]at hy';rw[e]at hr';cases hr';omega
    ·lia
     refine⟨by trivial,r3,by cbv,by simpa using hl3',λi y r hy hr=>?_⟩;have:=hq3 i y r hy hr;have:=hrb r (ymG hr);omega
   ·lia
    exact⟨by trivial,r2,by cbv,by omega,hx2⟩
  ·rintro fl O ⟨rfl,r3,rfl,hr3l,hr3⟩
   lia
   refine eV (λ_:Unit=>[some ⟨.io 0,fT f⟩,some ⟨.ow,.im (.int w)⟩,some ⟨.ow,.im (.int m)⟩,some ⟨.ow,.lst (ls.map aF)⟩,some ⟨.ow,.im (.int (1+d))⟩,some ⟨.ow,.li (rest.map .int)⟩,some ⟨.ow,.im (.int k)⟩,some ⟨.ow,.li (r3.map .int)⟩]) I.int (λj _ l=>l.length=j/\∀x∈l,-2<=x/\x<=2) ?_
   lia
   refine⟨⟨by omega,by omega⟩,by cbv,(),by cbv,⟨rfl,by simp⟩,λj _ l hj ⟨hl,hx⟩=>?_,λ_ r4 ⟨hl4,hx4⟩=>?_⟩
   ·lia
    refine bj (ns:=rest) (by omega) (by omega) λr hr er=>?_
    lia
    refine bj (ns:=r3) (by omega) (by omega) λy hy ey=>?_
    lia
    have:=hr3 _ y r ey er;exact⟨r+y,(),rfl,by cbv,by simp[hl],aW hx (by omega)⟩
   iterate 2 infer_instance
   refine Dy (ls:=ls) k rfl rfl rfl hl (by omega) (by cbv) ?_
   lia
   have hkm:((k:Int)+1) % (1+d)<m:=by have:=FJ ((k:Int)+1) (show 0<1+d by omega);omega
   have hk0:0<=((k:Int)+1) % (1+d):=FW _ (by omega);refine⟨(((k:Int)+1) % (1+d),r3),rfl,rfl,?_⟩
   lia
   refine⟨(f,ls.set k ((((k:Int)+1) % (1+d),r3)::l),r4),by cbv,hL.set hl (by simp;omega) (λp hp=>?_),λy l' hy hl'=>?_,by omega,hx4⟩
   ·rcases ycM hp with rfl|hp
    ·refine⟨hk0,hkm,by simpa[hrl]using hr3l,λx hx=>?_⟩;obtain⟨i,hi⟩:=FY.mp hx;have hil:=(Eg.mp hi).1;have:i<rest.length:=by simp only at hil;omega
     have:=hr3 i x _ hi (EQ this);omega
    ·exact hlP p hp
   ·rcases ee hl' with⟨z,_⟩|⟨_,hl'⟩;omega;exact hE y l' (by omega) hl'
 ·lia
  exact q s.2.1 s.1 hL
theorem IE.imp{P P':Nat->Int×List Int->Prop}{c c' m:Nat}{ls:List (List (Int×List Int))}(h:IE P c m ls)(hc:c<=c')(hp:∀x p,P x p->P' x p):IE P' c' m ls:=⟨h.1,λx l hx=>⟨ER (h.2 x l hx).1 hc,λp hm=>hp x p ((h.2 x l hx).2 p hm)⟩⟩
theorem uF{f:Int×Int}{Q:T->T->Prop}(q:∀(w m:Int) ls f',1<=w->w<=3->1<=m->m<=6->IE (λ_ p=>ke w m p) 7 m.toNat ls->Q (.tup [.im (.int w),.lst (ls.map aF)]) (fT f')):W2 (jf [fT f]) Q:=by
 refine II [some ⟨.io 0,fT f⟩,none,none,none,none] rfl rfl rfl ?_;unfold gC
 lia
 refine aq (by omega) (by omega) λform f hf0 hf1=>?_;ac_nf
 lia
 refine aq (by omega) (by omega) λwide f hw0 hw1=>?_;ac_nf
 lia
 try ac_nf
 refine bj (ns:=[1,2,2,2,2,1,2,3]) (FW _ (by omega)) (by have:=FJ wide (show(0:Int)<8 by omega);simpa using this) λw hw _=>?_;have hw13:1<=w/\w<=3:=by simp at hw;omega
 lia
 refine bj (ns:=[3,6]) (by omega) (by simp;omega) λmm hmm _=>?_;have hmm':3<=mm/\mm<=6:=by simp at hmm;omega
 lia
 refine aq (by omega) (by omega) λd f hd0 hd1=>?_;ac_nf
 lia
 (refine bI ?_;lia;clear_value h1)
 ·lia
  refine vM hw13.1 hw13.2 (by omega) (by omega) λls f hL=>?_;ac_nf
  lia
  exact q w (1+d) ls f hw13.1 hw13.2 (by omega) (by omega) (hL.mono (by omega))
 lia
 (refine bI ?_;lia;clear_value h2)
 ·lia
  refine pv hw13.1 hw13.2 (by omega) (by omega) λls f hL=>?_;ac_nf
  lia
  exact q w (1+d) ls f hw13.1 hw13.2 (by omega) (by omega) (hL.imp (by omega) λx p hp=>hp.1)
 lia
 (refine bI ?_;lia;clear_value h3)
 ·lia
  refine xN hw13.1 hw13.2 (by omega) (by omega) λls f hL=>?_;ac_nf
  lia
  exact q w (1+d) ls f hw13.1 hw13.2 (by omega) (by omega) (hL.mono (by omega))
 lia
 try ac_nf
 refine zQ (by split<;>omega) (by split<;>omega) (by split<;>split<;>split<;>omega) (by split<;>split<;>split<;>omega) λls f hL=>?_;ac_nf
 lia
 exact q _ _ ls f (by split<;>omega) (by split<;>omega) (by split<;>split<;>split<;>omega) (by split<;>split<;>split<;>omega) hL
noncomputable def IQ:List Str:=["min","max","rest","less","if"]
noncomputable def nmB(S:List Nat) (a:Nat) (ch k:Nat):List Nat:=S.take a++ch::S.drop a++(if k % 2=1 then [113]else [])
noncomputable def nmS(S:List Nat) (a:Nat) (ch k:Nat):Str:=if oL (nmB S a ch k)∈IQ then oL (nmB S a ch k++[119])else oL (nmB S a ch k)
theorem D3:113∈sL LET:=by decide +kernel
theorem Ec:119∈sL LET:=by decide +kernel
theorem vB:∀i<26,∀j<26,(sL LET).getD i 0=(sL LET).getD j 0->i=j:=by decide +kernel
theorem ze:∀z∈IQ,oL (sL z++[119])∉IQ:=by decide +kernel
theorem dZ{S:List Nat}{a ch k:Nat}:(nmB S a ch k).length=S.length+1+k % 2:=by
 unfold nmB;have h:k % 2=0∨k % 2=1:=by omega
 rw[Et,Et,Ey,EZ,Fm];rcases h with h|h<;>simp[h]<;>omega
theorem zC{S:List Nat}{a ch k:Nat}(hS:∀c∈S,c∈sL LET)(hc:ch∈sL LET):∀c∈nmB S a ch k,c∈sL LET:=λc h=>by
 unfold nmB at h;rcases yaM h with h|h
 ·rcases yaM h with h|h;exact hS c (Fe h)
  ·rcases ycM h with rfl|h;exact hc;exact hS c (FN h)
 ·split at h;rw[ysM h];exact D3;cases h
theorem pz{S:List Nat}{a ch ch' k k':Nat}(h:nmB S a ch k=nmB S a ch' k'):ch=ch'/\k % 2=k' % 2:=by
 have hl:=congrArg FK h;rw[dZ,dZ]at hl;have hk:k % 2=k' % 2:=by omega
 refine⟨?_,hk⟩;unfold nmB at h;rw[hk]at h;have h2:=GP h;have h3:=List.append_cancel_left h2;exact(FG.inj h3).1
theorem mN{S:List Nat}{a ch k:Nat}(hk:k % 2=1):(nmB S a ch k).getLast?=some 113:=by
 unfold nmB;rw[if_pos hk,Gy];rfl
theorem lN{x y:List Nat}(h:oL x=oL y):x=y:=congrArg sL h
theorem wq{S:List Nat}{a ch ch' k k':Nat}(h:nmS S a ch k=nmS S a ch' k'):ch=ch'/\k % 2=k' % 2:=by
 unfold nmS at h;split at h<;>split at h;exact pz (GP (lN h))
 ·have h':=lN h;have hl:=congrArg FK h';rw[Et,dZ,dZ]at hl;have hk:k' % 2=1:=by simp at hl;omega
  have:=mN (S:=S) (a:=a) (ch:=ch') hk;rw[←h',Gy]at this;cases this
 ·have h':=lN h;have hl:=congrArg FK h';rw[Et,dZ,dZ]at hl;have hk:k % 2=1:=by simp at hl;omega
  have:=mN (S:=S) (a:=a) (ch:=ch) hk;rw[h',Gy]at this;cases this
 ·exact pz (lN h)
def jI(z:Str):Prop:=1<=z.length/\z.length<=8/\z∉IQ/\∀c∈sL z,c∈sL LET
theorem zD{S:List Nat}{a ch k:Nat}(hS:∀c∈S,c∈sL LET)(hc:ch∈sL LET)(hl:S.length<=5):jI (nmS S a ch k):=by
 have hb:=zC (a:=a) (k:=k) hS hc;have hlen:=dZ (S:=S) (a:=a) (ch:=ch) (k:=k);unfold jI nmS;split
 ·rename_i c;have h1:(oL (nmB S a ch k++[119])).length=S.length+1+k % 2+1:=by rw[eD,dM,Et,hlen];rfl
  refine⟨by omega,by omega,ze _ c,λx hx=>?_⟩;rw[dM]at hx;rcases yaM hx with h|h;exact hb x h;rw[ysM h];exact Ec
 ·rename_i c;have h1:(oL (nmB S a ch k)).length=S.length+1+k % 2:=by rw[eD,dM,hlen]
  exact⟨by omega,by omega,c,λx hx=>hb x (by rwa [dM]at hx)⟩
theorem rX{α:Type}{xs:List α}{n:Nat}(h:n<=xs.length):cU xs none (some (n:Int))=xs.take n:=by
 unfold cU;rw[HT.sIx_none,HT.sIx_nat,Hf h];simp
theorem rW{α:Type}{xs:List α}{n:Nat}(h:n<=xs.length):cU xs (some (n:Int)) none=xs.drop n:=by
 unfold cU;rw[HT.sIx_none,HT.sIx_nat,Hf h];exact EG (by rw[Fm];exact Eo _)
theorem lb:∀{zs:List Str},nv (zs.map I.str)=some zs
 | []=>rfl
 | z::zs=>by rw[Ek,nv,lb];rfl
theorem zW{z:Str}{zs:List Str}{QT1:T->Prop}(h:(zs.map (·.length)).sum+zs.length*z.length<=16777216)(q:QT1 (.im (.str (Kt z zs)))):W1 (jU (.im (.str z)) [.li (zs.map .str)]) QT1:=w1 (by simp only[jU,lb];rw[if_pos h]) q
theorem oi{β:Type}{g:Nat->β}{n:Nat}(hf:∀x<n,∀y<n,g x=g y->x=y):((EU n).map g).Nodup:=i7 List.nodup_range λx hx y hy e=>hf x (Fi.mp hx) y (Fi.mp hy) e
noncomputable def f6(S:List Nat) (a fn m:Nat):List Str:=(EU m).map λk=>nmS S a ((sL LET).getD ((fn+5*k) % 26) 0) k
theorem oX{i:Nat}(h:i<26):(sL LET)[i]?=some ((sL LET).getD i 0):=by
 rw[EL,EQ (by rw[lm];exact h)];rfl
theorem sQ{S:List Nat}{a fn m:Nat}(hS:∀c∈S,c∈sL LET)(hl:S.length<=5)(hm:m<=6):(f6 S a fn m).length=m/\(f6 S a fn m).Nodup/\∀z∈f6 S a fn m,jI z:=by
 refine⟨by simp[f6],oi λx hx y hy e=>?_,λz hz=>?_⟩
 ·have:=vB _ (GJ _ (by decide)) _ (GJ _ (by decide)) (wq e).1;omega
 ·obtain⟨k,hk,rfl⟩:=Ev.mp hz;exact zD hS (ymG (oX (GJ _ (by decide)))) hl
theorem sP{f:Int×Int}{m:Int}(h1:0<=m)(h2:m<=6){Q:T->T->Prop}(q:∀(zs:List Str) f',zs.length=m.toNat->zs.Nodup->(∀z∈zs,jI z)->Q (.li (zs.map .str)) (fT f')):W2 (je [fT f,.im (.int m)]) Q:=by
 refine II [some ⟨.io 0,fT f⟩,some ⟨.ow,.im (.int m)⟩,none,none,none,none,none,none,none] rfl rfl rfl ?_;unfold gB
 lia
 refine eV (λf:Int×Int=>[some ⟨.io 0,fT f⟩,some ⟨.ow,.im (.int m)⟩,some ⟨.ow,.im (.str LET)⟩,none,none,none,none,none,none]) I.str (λj _ l=>l.length=j/\∀z∈l,∃ch,ch∈sL LET/\z=⟨#[ch]⟩) ?_
 lia
 refine aq (by omega) (by omega) λd f hd0 hd1=>?_;ac_nf
 lia
 refine⟨⟨by omega,by omega⟩,by cbv,f,by cbv,⟨rfl,by simp⟩,λj f l hj ⟨hl,hx⟩=>?_,λf zs ⟨hl,hx⟩=>?_⟩
 ·lia
  refine aq (by omega) (by omega) λd f hd0 hd1=>?_;ac_nf
  lia
  refine tf (s:=LET) (by rw[LET_len',Ji];omega) hd0 (by rw[lm];exact hd1) λc hc=>?_;exact⟨⟨#[c]⟩,f,rfl,by cbv,by simp[hl],aW hx ⟨c,ymG hc,rfl⟩⟩
 lia
 have sum1:∀zs:List Str,(∀z∈zs,∃ch,ch∈sL LET/\z=⟨#[ch]⟩)->(zs.map (·.length)).sum=zs.length:=λzs h=>by
  induction zs with
  | nil=>rfl
  | cons z zs ih=>
   obtain⟨ch,_,e⟩:=h z ymS;rw[Ek,List.sum_cons,ih λy hy=>h y (ymC _ hy),Ey,e];show 1+zs.length=_;omega
 have e0:("" : Str)=oL []:=by decide +kernel
 have e1:(("" : Str)).length=0:=by decide +kernel
 refine zW (zs:=zs) (by rw[sum1 zs hx,e1];omega) ?_;have hst:sL (Kt "" zs)=(zs.map sL).flatten:=by rw[e0];exact qh zs
 have hSl:(sL (Kt "" zs)).length<=5:=by
  rw[hst,List.length_flatten,FM];have:(zs.map (FK∘sL)).sum=zs.length:=by rw[←sum1 zs hx];congr 1
  omega
 have hS:∀c∈sL (Kt "" zs),c∈sL LET:=λc hc=>by
  rw[hst]at hc;obtain⟨l,hl',hc⟩:=HU.mp hc;obtain⟨z,hz,rfl⟩:=Ev.mp hl';obtain⟨ch,hch,rfl⟩:=hx z hz;have:c=ch:=by simpa using hc
  rw[this];exact hch
 generalize Kt "" zs=stem at *;have hst5:stem.length<=5:=by rw[eD];exact hSl
 have hlc:∀l:List Nat,(oL l).length=l.length:=λl=>by rw[eD,dM]
 lia
 refine aq (by omega) (by omega) λfi f hf0 hf1=>?_;ac_nf
 lia
 refine zY (by rw[Ji];omega) ?_
 lia
 refine aq (by omega) (by omega) λat0 f ha0 ha1=>?_;ac_nf
 lia
 obtain⟨a,rfl⟩:∃a:Nat,at0=(a:Int):=⟨at0.toNat,by omega⟩;obtain⟨fn,rfl⟩:∃a:Nat,fi=(a:Int):=⟨fi.toNat,by omega⟩;have ha5:a<=(sL stem).length:=by rw[←eD];omega
 try ac_nf
 lia
 refine cN (λk:Nat=>[some ⟨.io 0,fT f⟩,some ⟨.ow,.im (.int m)⟩,some ⟨.ow,.im (.str LET)⟩,some ⟨.ow,.im (.str stem)⟩,some ⟨.ow,.im (.int fn)⟩,some ⟨.ow,.im (.int a)⟩,some ⟨.ow,.li ((f6 (sL stem) a fn k).map .str)⟩,none,none]) (λj k=>k=j) ?_
 lia
 refine⟨⟨by omega,by omega⟩,0,by cbv,rfl,λi k hi hk=>?_,λk hk=>?_⟩
 ·subst hk;have hidx:((fn:Int)+5*(k:Int)) % 26=(((fn+5*k) % 26:Nat):Int):=by omega
  have hilt:(fn+5*k) % 26<26:=GJ _ (by decide);have hche:=oX hilt;have hne:f6 (sL stem) a fn (k+1)=f6 (sL stem) a fn k++[nmS (sL stem) a ((sL LET).getD ((fn+5*k) % 26) 0) k]:=by simp[f6,List.range_succ]
  generalize (sL LET).getD ((fn+5*k) % 26) 0=ch at hche hne
  lia
  refine yw (by rw[Ji];omega) ?_;rw[rX ha5]
  lia
  rw[hidx];refine tf (s:=LET) (by rw[LET_len',Ji];omega) (by omega) (by rw[lm];omega) λc hc=>?_;rw[ES,hche]at hc;cases hc
  lia
  refine lO (by rw[hlc,EZ,Ji];show _+1<=_;omega) ?_
  lia
  refine yw (by rw[Ji];omega) ?_;rw[rW ha5]
  lia
  refine lO (by rw[eD,j6,dM,hlc,Ji,Et,EZ,Fm];show _+1+_<=_;omega) ?_;have en:(oL ((sL stem).take a)++(⟨#[ch]⟩:Str))++oL ((sL stem).drop a)=oL ((sL stem).take a++ch::(sL stem).drop a):=by
   apply l0;rw[j6,j6,dM,dM,dM];simp
  rw[en]
  lia
  refine WS.mono (Q:=λfl O=>fl=.nx/\O=[some ⟨.io 0,fT f⟩,some ⟨.ow,.im (.int m)⟩,some ⟨.ow,.im (.str LET)⟩,some ⟨.ow,.im (.str stem)⟩,some ⟨.ow,.im (.int fn)⟩,some ⟨.ow,.im (.int a)⟩,some ⟨.ow,.li ((f6 (sL stem) a fn k).map .str)⟩,some ⟨.ow,.im (.int k)⟩,some ⟨.ow,.im (.str (oL (nmB (sL stem) a ch k)))⟩]) ?_ ?_
  ·(refine bI ?_;lia;clear_value hk2)
   ·lia
    refine lO (by rw[hlc,Et,Ey,EZ,Fm,Ji];show _+1<=_;omega) ?_;have eq:oL ((sL stem).take a++ch::(sL stem).drop a)++("q" : Str)=oL (nmB (sL stem) a ch k):=by
     apply l0;rw[j6,dM,dM];unfold nmB;rw[if_pos (by omega)];rfl
    rw[eq]
    lia
    exact⟨by trivial,by first|trivial|cbv⟩
   ·lia
    have eq:(sL stem).take a++ch::(sL stem).drop a=nmB (sL stem) a ch k:=by
     unfold nmB;rw[if_neg (by omega)];simp
    rw[eq];exact⟨by trivial,by first|trivial|cbv⟩
  rintro fl O ⟨rfl,rfl⟩;have hnl:(oL (nmB (sL stem) a ch k)).length<=7:=by rw[hlc,dZ];omega
  lia
  refine WS.mono (Q:=λfl O=>fl=.nx/\O=[some ⟨.io 0,fT f⟩,some ⟨.ow,.im (.int m)⟩,some ⟨.ow,.im (.str LET)⟩,some ⟨.ow,.im (.str stem)⟩,some ⟨.ow,.im (.int fn)⟩,some ⟨.ow,.im (.int a)⟩,some ⟨.ow,.li ((f6 (sL stem) a fn k).map .str)⟩,some ⟨.ow,.im (.int k)⟩,some ⟨.ow,.im (.str (nmS (sL stem) a ch k))⟩]) ?_ ?_
  ·refine bI ?_
   lia
   refine sW (is:=IQ.map .str) ⟨rfl,by decide +kernel,by decide +kernel⟩ ?_
   lia
   clear_value hw
   ·have hw':oL (nmB (sL stem) a ch k)∈IQ:=by simpa using hw
    lia
    have hw1:(("w" : Str)).length=1:=by decide +kernel
    refine lO (by rw[Ji];omega) ?_;have eq:oL (nmB (sL stem) a ch k)++("w" : Str)=nmS (sL stem) a ch k:=by
     unfold nmS;rw[if_pos hw'];apply l0;rw[j6,dM,dM];rfl
    rw[eq]
    lia
    exact⟨by trivial,by first|trivial|cbv⟩
   ·have hw':oL (nmB (sL stem) a ch k)∉IQ:=by simpa using hw
    have eq:oL (nmB (sL stem) a ch k)=nmS (sL stem) a ch k:=by unfold nmS;rw[if_neg hw']
    rw[eq]
    lia
    exact⟨by trivial,by first|trivial|cbv⟩
  rintro fl O ⟨rfl,rfl⟩
  lia
  refine bc (by simp[f6];rw[Ji];omega) ?_;ac_nf
  lia
  refine⟨k+1,?_,rfl⟩;rw[hne,Es]
  cbv
 ·subst hk
  lia
  obtain⟨n1,n2,n3⟩:=sQ (S:=sL stem) (a:=a) (fn:=fn) (m:=m.toNat) hS hSl (by omega);exact q _ f n1 n2 n3
noncomputable def fM(p:Str×Ru):I:=.tup [.str p.1,tRu p.2]
noncomputable def aY(w wh:Int) (ds:List (Str×Ru)):I:=.tup [.int w,.int wh,.tup (ds.map fM)]
def lJ:Ru->Prop
 | .num _=>True
 | .rd _ _=>True
 | _=>False
theorem qv{r:Ru}(h:lJ r):r.leaves=[r]:=by cases r<;>first|rfl|cases h
theorem kP:∀{rs:List Ru},(∀r∈rs,lJ r)->rs.flatMap Ru.leaves=rs
 | [],_=>rfl
 | r::rs,h=>by rw[Ew,qv (h r ymS),kP λx hx=>h x (ymC _ hx)];rfl
def IX(ns:List Str)(w:Int):Ru->Prop
 | .num n=>0<=n/\n<=1000000000
 | .rd x row=>x∈ns/\row.length=w.toNat
 | _=>False
theorem IX.leaf{ns:List Str}{w:Int}{r:Ru}(h:IX ns w r):lJ r:=by cases r<;>first|trivial|cases h
theorem wc{r:Ru}(h:lJ r):r.ok:=by cases r<;>first|trivial|cases h
def Cov(n:Nat)(rs:List Ru):Prop:=∃L:List (Str×List Int),L.length<=n/\∀x row,Ru.rd x row∈rs->(x,row)∈L
def rK(c:Nat)(ns:List Str)(w:Int)(n:Nat)(r:Ru):Prop:=r.ok/\r.leaves.length<=c/\(∀l∈r.leaves,IX ns w l)/\Cov n r.leaves
def lj(c:Nat)(w wh:Int)(ds:List (Str×Ru)):Prop:=1<=w/\w<=3/\2<=wh/\wh<=1000000000/\1<=ds.length/\ds.length<=6/\(ds.map (·.1)).Nodup/\(∀z∈ds.map (·.1),jI z)/\∃n,n*ds.length<=16/\∀p∈ds,rK c (ds.map (·.1)) w n p.2
theorem lU:∀{l:List (Str×List Int)},I.doks (l.map λp=>tRu (.rd p.1 p.2))=true/\I.deps (l.map λp=>tRu (.rd p.1 p.2))<=50
 | []=>⟨rfl,by decide⟩
 | p::l=>by
  have ih:=lU (l:=l);have hi:∀row:List Int,I.doks (row.map I.int)=true/\I.deps (row.map I.int)=0:=λrow=>by
   induction row with
   | nil=>exact⟨rfl,rfl⟩
   | cons x row ih=>exact⟨by rw[Ek,I.doks,ih.1];rfl,by rw[Ek,I.deps,ih.2];rfl⟩
  refine⟨?_,?_⟩
  ·rw[Ek,I.doks,ih.1];simp only[tRu,I.dok,I.doks,(hi p.2).1];rfl
  ·rw[Ek,I.deps];have h1:I.dep (tRu (.rd p.1 p.2))<=50:=by simp only[tRu,I.dep,I.deps,(hi p.2).2];decide
   have:=ih.2;omega
theorem qb{α:Type}{xs:List α}{v:Int}(h:0<=v):cU xs none (some v)=xs.take v.toNat:=by
 obtain⟨n,rfl⟩:∃n:Nat,v=n:=⟨v.toNat,by omega⟩;unfold cU;rw[HT.sIx_none,HT.sIx_nat,ES,Ib,Nat.sub_zero];rcases Nat.le_total n xs.length with h|h;rw[Hf h];rw[Nat.min_eq_right h,EG h,EG (Eo _)]
theorem so{f:Int×Int}{Q:T->T->Prop}(q:∀w wh ds f',lj 10 w wh ds->Q (.im (aY w wh ds)) (fT f')):W2 (jc [fT f]) Q:=by
 refine II [some ⟨.io 0,fT f⟩,none,none,none,none,none,none,none,none,none] rfl rfl rfl ?_;unfold gy
 lia
 refine uF λw m ls f hw1 hw2 hm1 hm2 hL=>?_;ac_nf
 lia
 refine aq (by omega) (by omega) λd1 f a1 b1=>?_;ac_nf
 lia
 refine aq (by omega) (by omega) λd2 f a2 b2=>?_;ac_nf
 lia
 refine aq (by omega) (by omega) λd3 f a3 b3=>?_;ac_nf
 lia
 refine aq (by omega) (by omega) λd4 f a4 b4=>?_;ac_nf
 lia
 refine bj (ns:=[2+d1,2+d2,1000000000-d3]) a4 (by simpa using b4) λwh hwh _=>?_;have hwh':2<=wh/\wh<=1000000000:=by simp at hwh;omega
 lia
 have hlm:((ls.map aF).length:Int)=m:=by rw[Ej,hL.1];omega
 rw[hlm];refine sP (by omega) hm2 λzs f hzl hzn hzo=>?_;ac_nf
 lia
 refine cN (λs:(Int×Int)×List (Str×Ru)=>[some ⟨.io 0,fT s.1⟩,some ⟨.ow,.im (.int w)⟩,some ⟨.ow,.lst (ls.map aF)⟩,some ⟨.ow,.im (.int wh)⟩,some ⟨.ow,.li (zs.map .str)⟩,some ⟨.ow,.li (s.2.map fM)⟩,none,none,none,none]) (λj s=>s.2.map (·.1)=zs.take j/\∀p∈s.2,rK 10 zs w (16 / m.toNat) p.2) ?_
 lia
 rw[hlm];refine⟨⟨by omega,by omega⟩,(f,[]),by cbv,⟨rfl,by simp⟩,λx s hx ⟨hd1,hd2⟩=>?_,λs ⟨hd1,hd2⟩=>?_⟩
 ·obtain⟨f,ds⟩:=s;dsimp only at hd1 hd2⊢;obtain⟨l,hl,hl7,hlP⟩:=hL.get (n:=x) (by omega)
  lia
  refine cT (λ_:Unit=>[some ⟨.io 0,fT f⟩,some ⟨.ow,.im (.int w)⟩,some ⟨.ow,.lst (ls.map aF)⟩,some ⟨.ow,.im (.int wh)⟩,some ⟨.ow,.li (zs.map .str)⟩,some ⟨.ow,.li (ds.map fM)⟩,some ⟨.ow,.im (.int x)⟩,none,none,none]) (λp:Str×List Int=>tRu (.rd p.1 p.2)) (λj _ L=>L.length=j/\∀p∈L,p.1∈zs/\p.2.length=w.toNat) ?_
  lia
  refine ol (u:=aF l) (kd:=.vw (some 2) (some [.ix x])) (by omega) (by rw[ES,Ep,hl];rfl) (eU l) rfl ?_
  lia
  rw[hlm];rw[qb (Int.ediv_nonneg (by omega) (by omega)),←GO];refine⟨(l.take (16 / m).toNat).map tRd,rfl,by simp;rw[Ji];omega,by cbv,(),by cbv,⟨rfl,by simp⟩,λj x' _ L hx' ⟨hLl,hLx⟩=>?_,λ_ L ⟨hLl,hLx⟩=>?_⟩
  ·rw[Ep]at hx';cases e:(l.take (16 / m).toNat)[j]? with
   | none=>rw[e]at hx';cases hx'
   | some p=>
    rw[e]at hx';cases hx';have hp:=hlP p (Fe (ymG e));obtain⟨p0,p1,p2,p3⟩:=hp
    lia
    refine ga (emb:=I.str) (ns:=zs) p0 (by omega) λz hz=>?_
    lia
    exact⟨(z,p.2),(),rfl,by cbv,by simp[hLl],aW hLx ⟨ymG hz,p2⟩⟩
  rw[Ej]at hLl;have hLn:L.length<=16 / m.toNat:=by
   rw[hLl,EZ];have:(16 / m).toNat=16 / m.toNat:=by
    obtain⟨n,rfl⟩:∃n:Nat,m=n:=⟨m.toNat,by omega⟩;rw[ES];exact congrArg Int.toNat (Int.natCast_ediv 16 n).symm
   omega
  have hL7:L.length<=7:=by rw[hLl,EZ];omega
  lia
  refine cN (λs:(Int×Int)×List Ru=>[some ⟨.io 0,fT s.1⟩,some ⟨.ow,.im (.int w)⟩,some ⟨.ow,.lst (ls.map aF)⟩,some ⟨.ow,.im (.int wh)⟩,some ⟨.ow,.li (zs.map .str)⟩,some ⟨.ow,.li (ds.map fM)⟩,some ⟨.ow,.im (.int x)⟩,some ⟨.ow,.li (s.2.map tRu)⟩,none,none]) (λj s=>s.2.length=L.length+j/\(∀r∈s.2,IX zs w r)/\∀y row,Ru.rd y row∈s.2->(y,row)∈L) ?_
  lia
  refine aq (by omega) (by omega) λd f hd0 hd1'=>?_;ac_nf
  lia
  refine B8 (js:=[]) ⟨lU.1,rfl,lU.2⟩ ?_
  lia
  have hk:∀b:Bool,0<=(if b then 1 else 0:Int)/\(if b then 1 else 0:Int)<=1:=λb=>by cases b<;>decide
  have hk':=hk (decide (L.map (λp=>tRu (.rd p.1 p.2))=[]));have hk0:L=[]->(if(decide (L.map (λp=>tRu (.rd p.1 p.2))=[]))=true then 1 else 0:Int)=1:=λz=>by rw[z];rfl
  generalize (if(decide (L.map (λp=>tRu (.rd p.1 p.2))=[]))=true then 1 else 0:Int)=kk at *;refine⟨⟨by omega,by omega⟩,(f,L.map λp=>.rd p.1 p.2),by rw[FM];cbv,⟨by simp,λr hr=>?_,λy row hr=>?_⟩,λj s hj ⟨hs1,hs2,hs3⟩=>?_,λs ⟨hs1,hs2,hs3⟩=>?_⟩
  ·obtain⟨p,hp,rfl⟩:=Ev.mp hr;exact hLx p hp
  ·obtain⟨p,hp,e⟩:=Ev.mp hr;cases e;exact hp
  ·obtain⟨f,rs⟩:=s;dsimp only at hs1 hs2 hs3⊢
   lia
   refine aq (by omega) (by omega) λe1 f he0 he1=>?_;ac_nf
   lia
   refine bj (ns:=[9,1000000001]) he0 (by simpa using he1) λtop htop _=>?_;have htop':1<=top/\top<=1000000001:=by simp at htop;omega
   lia
   refine aq (by omega) (by omega) λnum f hn0 hn1=>?_;ac_nf
   lia
   rw[Ej];refine aq (by omega) (by omega) λat0 f ha0 ha1=>?_;ac_nf
   lia
   refine yr (is:=rs.map tRu) ⟨ha0,by simp;omega,by simp;rw[Ji];omega⟩ ?_;ac_nf
   lia
   refine⟨(f,rs.take at0.toNat++Ru.num num::rs.drop at0.toNat),?_,by simp;omega,λr hr=>?_,λy row hr=>?_⟩
   ·rw[Es,Ek,GO,HA]
    cbv
   ·rcases yaM hr with hr|hr;exact hs2 r (Fe hr)
    ·rcases ycM hr with rfl|hr;exact⟨hn0,by omega⟩;exact hs2 r (FN hr)
   ·rcases yaM hr with hr|hr;exact hs3 y row (Fe hr)
    ·rcases ycM hr with hr|hr;cases hr;exact hs3 y row (FN hr)
  ·obtain⟨f,rs⟩:=s;dsimp only at hs1 hs2 hs3⊢
   lia
   refine ga (emb:=I.str) (ns:=zs) (by omega) (by omega) λz hz=>?_
   lia
   refine sk (rs:=rs) (λh0=>?_) (by omega) (λr hr=>wc (hs2 r hr).leaf) λr f hrl hro=>?_
   ·rw[h0]at hs1;have hL0:L=[]:=FS (by simp at hs1;omega);have:=hk0 hL0;simp at hs1;omega
   rw[kP λr hr=>(hs2 r hr).leaf]at hrl;ac_nf
   lia
   refine bc (is:=ds.map fM) (by
    have:ds.length<=zs.length:=by rw[←Ej (f:=λp:Str×Ru=>p.1),hd1];simp;omega
    simp;rw[Ji];omega) ?_
   ac_nf
   lia
   refine⟨(f,ds++[(z,r)]),?_,?_,aW hd2 ⟨hro,by rw[hrl];omega,by rw[hrl];exact hs2,L,hLn,by rw[hrl];exact hs3⟩⟩
   ·rw[Es]
    cbv
   ·rw[Es,hd1,Hm];rw[ES]at hz;rw[hz];rfl
 ·obtain⟨f,ds⟩:=s;dsimp only at hd1 hd2⊢
  lia
  rw[EG (by omega)]at hd1;have hlen:ds.length=m.toNat:=by rw[←hzl,←hd1,Ej]
  refine q w wh ds f ⟨hw1,hw2,hwh'.1,hwh'.2,by omega,by omega,by rw[hd1];exact hzn,by rw[hd1];exact hzo,16 / m.toNat,?_,by rw[hd1];exact hd2⟩;rw[hlen];exact Nat.div_mul_le_self 16 m.toNat
noncomputable def tR2(p:Str×List Int):I:=.tup [.str p.1,.tup (p.2.map .int)]
theorem rR:∀{bs:List Bool},bls (bs.map I.bl)=some bs
 | []=>rfl
 | b::bs=>by rw[Ek,bls,rR];rfl
theorem yq{bs:List Bool}{Q:T->Prop}(q:Q (.im (.bl (bs.all id)))):W1 (lp [.li (bs.map I.bl)]) Q:=w1 (by simp only[lp,rR,FV]) q
noncomputable def aV(z:Str) (p:Str×List Int):I:=.tup [.str z,.str p.1,.tup (p.2.map .int)]
theorem dz{z:Str}:∀{L:List (Str×List Int)},I.doks (L.map (aV z))=true/\I.deps (L.map (aV z))<=50
 | []=>⟨rfl,Fd _⟩
 | p::l=>by
  have ih:=dz (z:=z) (L:=l);have hi:∀row:List Int,I.doks (row.map I.int)=true/\I.deps (row.map I.int)=0:=λrow=>by
   induction row with
   | nil=>exact⟨rfl,rfl⟩
   | cons x row ih=>exact⟨by rw[Ek,I.doks,ih.1];rfl,by rw[Ek,I.deps,ih.2];rfl⟩
  refine⟨?_,?_⟩
  ·rw[Ek,I.doks,ih.1];simp only[aV,I.dok,I.doks,(hi p.2).1];rfl
  ·rw[Ek,I.deps];have h1:I.dep (aV z p)<=50:=by simp only[aV,I.dep,I.deps,(hi p.2).2];decide
   have:=ih.2;omega
theorem nr{z:Str}{p:Str×List Int}:(aV z p).dok=true:=by
 have:=(dz (z:=z) (L:=[p])).1;rw[Ek,FB,I.doks,Ei]at this;exact this.1
noncomputable def uD:Ru->Option (Str×List Int)
 | .rd x row=>some (x,row)
 | _=>none
noncomputable def rds(r:Ru):List (Str×List Int):=r.leaves.filterMap uD
theorem gH:∀r:Ru,r.pre.filterMap uD=rds r
 | .num _=>rfl
 | .rd _ _=>rfl
 | .op s a b=>by
  have h1:=gH a;have h2:=gH b;unfold rds at h1 h2⊢;rw[Ru.pre,Ru.leaves,GQ rfl,EJ,EJ,h1,h2]
 | .cond a b c=>by
  have h1:=gH a;have h2:=gH b;have h3:=gH c;unfold rds at h1 h2 h3⊢;rw[Ru.pre,Ru.leaves,GQ rfl,EJ,EJ,EJ,EJ,h1,h2,h3]
theorem dy(r:Ru):(rds r).length<=r.leaves.length:=List.length_filterMap_le _ _
noncomputable def ip(acc:List (Str×List Int)) (p:Str×List Int):List (Str×List Int):=if p∈acc then acc else acc++[p]
noncomputable def ded(L:List (Str×List Int)):List (Str×List Int):=L.foldl ip []
theorem mq(L:List (Str×List Int))(p:Str×List Int):ded (L++[p])=ip (ded L) p:=by unfold ded;rw[Go];rfl
theorem o9:∀(L acc:List (Str×List Int)),(L.foldl ip acc).length<=acc.length+L.length
 | [],acc=>by simp
 | p::L,acc=>by
  have h:=o9 L (ip acc p);have h2:(ip acc p).length<=acc.length+1:=by unfold ip;split<;>simp
  simp only[Fj,Ey]at h⊢;omega
theorem lz(L:List (Str×List Int)):(ded L).length<=L.length:=by have:=o9 L [];unfold ded;simpa using this
theorem av{α:Type}{L:List α}{j:Nat}{x : α}(e:L[j]?=some x):L.take (j+1)=L.take j++[x]:=by rw[Hm,e];rfl
theorem qJ{r:Ru}(hl:r.leaves.length<=1000){Q:T->Prop}(q:Q (.im (.tup ((rds r).map tR2)))):W1 (jg [.im (tRu r)]) Q:=by
 have hpre:=g8 r;refine Iw [some ⟨.ow,.im (tRu r)⟩] rfl rfl rfl ?_;unfold gE
 lia
 refine dO (λ_:Unit=>[some ⟨.ow,.im (tRu r)⟩]) tR2 (λj _ L=>L=(r.pre.take j).filterMap uD) ?_
 lia
 refine tD hl ?_;refine⟨r.pre.map tRu,rfl,by simp;rw[Ji];omega,by cbv,(),by cbv,rfl,λj x' _ L hx' hL=>?_,λ_ L hL=>?_⟩
 ·rw[Ep]at hx';cases e:r.pre[j]? with
  | none=>rw[e]at hx';cases hx'
  | some y=>
   rw[e]at hx';cases hx';have ht:(r.pre.take (j+1)).filterMap uD=L++(uD y).toList:=by
    rw[av e,EJ,←hL];cases y<;>rfl
   cases y with
   | num k=>
    rw[tRu]
    lia
    clear_value h
    ·exact absurd h (by decide +kernel)
    ·exact⟨(),by cbv,by rw[ht];exact(EB _).symm⟩
   | rd x row=>
    rw[tRu]
    lia
    clear_value h
    ·lia
     exact⟨(x,row),(),rfl,by cbv,by rw[ht];rfl⟩
    ·exact absurd rfl h
   | op s a b=>
    rw[tRu]
    lia
    clear_value h
    ·exact absurd h (by decide +kernel)
    ·exact⟨(),by cbv,by rw[ht];exact(EB _).symm⟩
   | cond a b c=>
    rw[tRu]
    lia
    clear_value h
    ·exact absurd h (by decide +kernel)
    ·exact⟨(),by cbv,by rw[ht];exact(EB _).symm⟩
 ·rw[Ej,EG (Eo _),gH]at hL;subst hL
  lia
  exact q
theorem qd{z:Str}{r:Ru}(hl:r.leaves.length<=1000){Q:T->Prop}(q:Q (.li ((ded (rds r)).map (aV z)))):W1 (dL [.im (.str z),.im (tRu r)]) Q:=by
 have hrl:=dy r;refine Iw [some ⟨.ow,.im (.str z)⟩,some ⟨.ow,.im (tRu r)⟩,none,none,none,none] rfl rfl rfl ?_;unfold cj
 lia
 refine bT (λL:List (Str×List Int)=>[some ⟨.ow,.im (.str z)⟩,some ⟨.ow,.im (tRu r)⟩,some ⟨.ow,.li (L.map (aV z))⟩,none,none,none]) (λj L=>L=ded ((rds r).take j)) ?_
 lia
 refine qJ hl ?_;refine⟨(rds r).map tR2,rfl,by cbv,[],by cbv,rfl,λj x' L hx' hL=>?_,λL hL=>?_⟩
 ·rw[Ep]at hx';cases e:(rds r)[j]? with
  | none=>rw[e]at hx';cases hx'
  | some p=>
   rw[e]at hx';cases hx';have hj:=(Eg.mp e).1;have hLl:L.length<=1000:=by rw[hL];have:=lz ((rds r).take j);rw[EZ]at this;omega
   have hs:ded ((rds r).take (j+1))=ip L p:=by rw[av e,mq,hL]
   lia
   refine bI ?_
   lia
   refine g7 (i:=aV z p) (is:=L.map (aV z)) ⟨nr,dz.1,dz.2⟩ ?_
   lia
   clear_value h
   ·lia
    refine bc (is:=L.map (aV z)) (i:=aV z p) (by simp;rw[Ji];omega) ?_;ac_nf
    lia
    have hp:p∉L:=λm=>h (Ev.mpr ⟨_,m,rfl⟩);refine⟨L++[p],?_,?_⟩
    ·rw[Es]
     cbv
    ·rw[hs,ip,if_neg hp]
   ·lia
    have hp:p∈L:=by
     obtain⟨p',m,e'⟩:=Ev.mp h;have:p'=p:=by
      unfold aV at e';simp only[I.tup.injEq,FG.injEq,I.str.injEq,and_true,true_and]at e';obtain⟨e1,e2⟩:=e';exact Ip e1 (HD (λa b h=>by cases h;rfl) |>.mp e2)
     exact this▸m
    exact⟨L,by cbv,by rw[hs,ip,if_pos hp]⟩
 ·rw[Ej,EG (Eo _)]at hL;subst hL
  lia
  exact q
noncomputable def bz(ds:List (Str×Ru)):List I:=ds.flatMap λd=>(ded (rds d.2)).map (aV d.1)
theorem oI{w wh:Int}{ds:List (Str×Ru)}(hd:ds.length<=6)(h:∀p∈ds,p.2.leaves.length<=40){Q:T->Prop}(q:Q (.im (.tup (bz ds)))):W1 (fq [.im (aY w wh ds)]) Q:=by
 refine Iw [some ⟨.ow,.im (aY w wh ds)⟩] rfl rfl rfl ?_;unfold du
 lia
 refine xW (l6 ?_);rw[aY]
 lia
 refine w1 (x:=(ds.map fM).map λi=>⟨.ow,.im i⟩) rfl (gu (by cbv) ⟨λj acc O=>O=[some ⟨.ow,.im (aY w wh ds)⟩]/\acc=(bz (ds.take j)).map T.im/\(bz (ds.take j)).length<=40*j,⟨rfl,rfl,Fd _⟩,?_,?_⟩)
 ·rintro j r acc O hr ⟨rfl,rfl,hil⟩;obtain⟨x,hx,rfl⟩:=az hr;obtain⟨p,hp,rfl⟩:=az hx;have hj:=(Eg.mp hp).1;have hpl:=h p (ymG hp);have hL:(ded (rds p.2)).length<=40:=by have:=lz (rds p.2);have:=dy p.2;omega
  have ht:bz (ds.take (j+1))=bz (ds.take j)++(ded (rds p.2)).map (aV p.1):=by unfold bz;rw[av hp,Ez];simp
  lia
  refine l6 ?_
  lia
  refine qd (by omega) ?_;refine w1 (x:=((ded (rds p.2)).map (aV p.1)).map λi=>⟨.ow,.im i⟩) rfl (gu (by cbv) ⟨by simp;rw[Ji];omega,?_⟩);refine qa _ (λx=>?_) _ ⟨by cbv,by rw[ht,Es],by rw[ht];simp;omega⟩
  lia
  exact⟨rfl,by cbv⟩
 ·rintro acc O ⟨rfl,rfl,hil⟩;simp only[Ej,EO]at hil⊢;refine⟨by rw[Ji];omega,?_⟩;rw[mK]
  lia
  exact q
theorem A4{s:Str}{a b:Ru}:rds (.op s a b)=rds a++rds b:=by simp[rds,Ru.leaves,EJ]
theorem uE{a b c:Ru}:rds (.cond a b c)=rds a++(rds b++rds c):=by simp[rds,Ru.leaves,EJ]
theorem iY:∀(n:Nat) (r:Ru),r.depth<n->r.leaves.length<=1000->∀{Q:T->Prop},Q (.li ((rds r).map tR2))->W1 (cr n [.im (tRu r)]) Q
 | 0,r,hd,_,Q,q=>absurd hd (HZ _)
 | n+1,r,hd,hl,Q,q=>by
  refine Iw [some ⟨.ow,.im (tRu r)⟩,none,none] rfl rfl rfl ?_;unfold dn;cases r with
  | num k=>
   rw[tRu]
   lia
   (refine bI ?_;lia;clear_value h)
   ·lia
    exact q
   ·exact absurd rfl h
  | rd x row=>
   rw[tRu]
   lia
   (refine bI ?_;lia;clear_value h)
   ·exact absurd h (by decide +kernel)
   lia
   (refine bI ?_;lia;clear_value h')
   ·lia
    exact q
   ·exact absurd rfl h'
  | op s a b=>
   have ha:a.depth<n/\b.depth<n:=by simp only[Ru.depth]at hd;omega
   have hal:a.leaves.length+b.leaves.length<=1000:=by simpa[Ru.leaves]using hl
   have ra:=dy a;have rb:=dy b;rw[tRu]
   lia
   (refine bI ?_;lia;clear_value h)
   ·exact absurd h (by decide +kernel)
   lia
   (refine bI ?_;lia;clear_value h')
   ·exact absurd h' (by decide +kernel)
   lia
   refine bT (λL:List (Str×List Int)=>[some ⟨.ow,.im (.tup [.str "op",.str s,tRu a,tRu b])⟩,some ⟨.ow,.li (L.map tR2)⟩,none]) (λj L=>L=([a,b].take j).flatMap rds) ?_
   lia
   simp only[decide_true,if_true,Int.reduceAdd];refine mQ (is:=[.str "op",.str s,tRu a,tRu b]) (show ¬((2:Nat)=0/\4=4) by decide) ?_;refine⟨[a,b].map tRu,rfl,by cbv,[],by cbv,rfl,λj x' L hx' hL=>?_,λL hL=>?_⟩
   ·rw[Ep]at hx';cases e:([a,b]:List Ru)[j]? with
    | none=>rw[e]at hx';cases hx'
    | some y=>
     rw[e]at hx';cases hx';have hy:y=a∨y=b:=by have:=ymG e;simpa using this
     have hyl:(rds y).length<=1000:=by rcases hy with rfl|rfl<;>omega
     have hLl:L.length<=1000:=by
      rw[hL]
      match j with
      | 0=>simp
      | 1=>simp;omega
      | _+2=>simp;omega
     lia
     refine iY n y (by rcases hy with rfl|rfl<;>omega) (by rcases hy with rfl|rfl<;>omega) ?_
     lia
     refine sU (is:=L.map tR2) (js:=(rds y).map tR2) (by simp;rw[Ji];omega) ?_;ac_nf
     lia
     refine⟨L++rds y,?_,by rw[hL,av e,Ez];simp⟩;rw[Es];try cbv
   ·rw[Ej,EG (Eo _)]at hL;subst hL
    lia
    rw[A4]at q;simpa using q
  | cond a b c=>
   have ha:a.depth<n/\b.depth<n/\c.depth<n:=by simp only[Ru.depth]at hd;omega
   have hal:a.leaves.length+(b.leaves.length+c.leaves.length)<=1000:=by simpa[Ru.leaves]using hl
   have ra:=dy a;have rb:=dy b;have rc:=dy c;rw[tRu]
   lia
   (refine bI ?_;lia;clear_value h)
   ·exact absurd h (by decide +kernel)
   lia
   (refine bI ?_;lia;clear_value h')
   ·exact absurd h' (by decide +kernel)
   lia
   refine bT (λL:List (Str×List Int)=>[some ⟨.ow,.im (.tup [.str "if",tRu a,tRu b,tRu c])⟩,some ⟨.ow,.li (L.map tR2)⟩,none]) (λj L=>L=([a,b,c].take j).flatMap rds) ?_
   lia
   rw[show(1+if decide (("if" : Str) = "op")=true then 1 else 0:Int)=1 by decide +kernel];refine mQ (is:=[.str "if",tRu a,tRu b,tRu c]) (show ¬((1:Nat)=0/\4=4) by decide) ?_;refine⟨[a,b,c].map tRu,rfl,by cbv,[],by cbv,rfl,λj x' L hx' hL=>?_,λL hL=>?_⟩
   ·rw[Ep]at hx';cases e:([a,b,c]:List Ru)[j]? with
    | none=>rw[e]at hx';cases hx'
    | some y=>
     rw[e]at hx';cases hx';have hy:y=a∨y=b∨y=c:=by have:=ymG e;simpa using this
     have hyl:(rds y).length<=1000:=by rcases hy with rfl|rfl|rfl<;>omega
     have hLl:L.length<=1000:=by
      rw[hL]
      match j with
      | 0=>simp
      | 1=>simp;omega
      | 2=>simp;omega
      | _+3=>simp;omega
     lia
     refine iY n y (by rcases hy with rfl|rfl|rfl<;>omega) (by rcases hy with rfl|rfl|rfl<;>omega) ?_
     lia
     refine sU (is:=L.map tR2) (js:=(rds y).map tR2) (by simp;rw[Ji];omega) ?_;ac_nf
     lia
     refine⟨L++rds y,?_,by rw[hL,av e,Ez];simp⟩;rw[Es];try cbv
   ·rw[Ej,EG (Eo _)]at hL;subst hL
    lia
    rw[uE]at q;simpa using q
theorem rn{z:Str}{p p':Str×List Int}(e':aV z p'=aV z p):p'=p:=by
 unfold aV at e';simp only[I.tup.injEq,FG.injEq,I.str.injEq,and_true,true_and]at e';obtain⟨e1,e2⟩:=e';exact Ip e1 (HD (λa b h=>by cases h;rfl) |>.mp e2)
theorem oM{z z':Str}{p p':Str×List Int}(e:aV z p=aV z' p'):z=z':=by
 unfold aV at e;simp only[I.tup.injEq,FG.injEq,I.str.injEq]at e;exact e.1
theorem pb{a b:List I}(ha:I.doks a=true/\I.deps a<=50)(hb:I.doks b=true/\I.deps b<=50):I.doks (a++b)=true/\I.deps (a++b)<=50:=by
 induction a with
 | nil=>exact hb
 | cons x a ih=>
  rw[I.doks,Ei,I.deps]at ha;have:=ih ⟨ha.1.2,by omega⟩;rw[EC,I.doks,I.deps,ha.1.1,this.1];exact⟨rfl,by omega⟩
theorem jP:∀{ds:List (Str×Ru)},I.doks (bz ds)=true/\I.deps (bz ds)<=50
 | []=>⟨rfl,by decide⟩
 | d::ds=>by
  have ih:=jP (ds:=ds);unfold bz at ih⊢;rw[Ew];exact pb dz ih
theorem oa{ds:List (Str×Ru)}{i:I}(h:i∈bz ds):∃d∈ds,∃p∈ded (rds d.2),i=aV d.1 p:=by
 unfold bz at h;obtain⟨d,hd,h⟩:=Fc.mp h;obtain⟨p,hp,rfl⟩:=Ev.mp h;exact⟨d,hd,p,hp,rfl⟩
theorem sT{l:List Unit}{Q:T->Prop}(q:Q (.im (.bl true))):W1 (lp [.li (l.map λ_=>I.bl true)]) Q:=by
 have e:(l.map λ_=>I.bl true)=(l.map λ_=>true).map I.bl:=by rw[FM];rfl
 rw[e];refine yq ?_;have:(l.map λ_=>true).all id=true:=by simp
 rw[this];exact q
theorem gT:∀{ds:List (Str×Ru)},(∀p∈ds,p.2.leaves.length<=22)->(bz ds).length<=22*ds.length
 | [],_=>by simp[bz]
 | d::ds,h=>by
  have ih:=gT (ds:=ds) λp hp=>h p (ymC _ hp);have h1:=h d ymS;have h2:=lz (rds d.2);have h3:=dy d.2;unfold bz at ih⊢;rw[Ew,Et,Ej,Ey];omega
theorem kT{w wh:Int}{ds:List (Str×Ru)}(hd:ds.length<=6)(hn:(ds.map (·.1)).Nodup)(h:∀p∈ds,p.2.leaves.length<=22){Q:T->Prop}(q:Q (.li (bz ds))):W1 (gG [.im (aY w wh ds)]) Q:=by
 refine Iw [some ⟨.ow,.im (aY w wh ds)⟩,none,none,none,none,none] rfl rfl rfl ?_;unfold gD
 lia
 refine bT (λL:List I=>[some ⟨.ow,.im (aY w wh ds)⟩,some ⟨.ow,.li L⟩,none,none,none,none]) (λj L=>L=bz (ds.take j)) ?_;rw[aY]
 lia
 refine⟨ds.map fM,rfl,by cbv,[],by cbv,rfl,λj x' L hx' hL=>?_,λL hL=>?_⟩
 ·rw[Ep]at hx';cases e:ds[j]? with
  | none=>rw[e]at hx';cases hx'
  | some p=>
   rw[e]at hx';cases hx';have hp:=h p (ymG e);have hj:=(Eg.mp e).1;have hdp:=Ru.depth_lt p.2;have hrl:=dy p.2;have hLl:L.length<=22*6:=by
    rw[hL];have:=gT (ds:=ds.take j) λp hp=>h p (Fe hp);rw[EZ]at this;omega
   have hLd:I.doks L=true/\I.deps L<=50:=by rw[hL];exact jP
   have hLz:∀pr,aV p.1 pr∉L:=by
    intro pr hm;rw[hL]at hm;obtain⟨d,hdm,pr',_,e2⟩:=oa hm;obtain⟨k,hk⟩:=FY.mp hdm;have hkj:k<j:=by have:=(Eg.mp hk).1;simp at this;omega
    rw[GM hkj]at hk;have h2:(ds.map (·.1))[j]?=some p.1:=by rw[Ep,e];rfl
    have h1:(ds.map (·.1))[k]?=some d.1:=by rw[Ep,hk];rfl
    have h3:=Eg.mp h1;have h4:=Eg.mp h2;exact(List.pairwise_iff_getElem.mp hn k j h3.1 h4.1 hkj) (h3.2.trans ((oM e2).symm.trans h4.2.symm))
   rw[fM]
   lia
   refine bT (λL2:List (Str×List Int)=>[some ⟨.ow,.im (aY w wh ds)⟩,some ⟨.ow,.li (L++L2.map (aV p.1))⟩,some ⟨.ow,.im (.str p.1)⟩,some ⟨.ow,.im (tRu p.2)⟩,none,none]) (λi L2=>L2=ded ((rds p.2).take i)) ?_
   lia
   refine iY 24 p.2 (by omega) (by omega) ?_;refine⟨(rds p.2).map tR2,rfl,by cbv,[],by simp only[FB,EB];cbv,rfl,λi y' L2 hy' hL2=>?_,λL2 hL2=>?_⟩
   ·rw[Ep]at hy';cases e2:(rds p.2)[i]? with
    | none=>rw[e2]at hy';cases hy'
    | some pr=>
     rw[e2]at hy';cases hy';have hs:ded ((rds p.2).take (i+1))=ip L2 pr:=by rw[av e2,mq,hL2]
     have hL2l:L2.length<=1000:=by rw[hL2];have:=lz ((rds p.2).take i);rw[EZ]at this;omega
     have hdk:I.doks (L++L2.map (aV p.1))=true/\I.deps (L++L2.map (aV p.1))<=50:=pb hLd dz;rw[tR2]
     lia
     refine bI ?_
     lia
     refine g7 (i:=aV p.1 pr) (is:=L++L2.map (aV p.1)) ⟨nr,hdk.1,hdk.2⟩ ?_
     lia
     clear_value c
     ·lia
      refine bc (is:=L++L2.map (aV p.1)) (i:=aV p.1 pr) (by simp;rw[Ji];omega) ?_;ac_nf
      lia
      have hp':pr∉L2:=λm=>c (yaR _ (Ev.mpr ⟨_,m,rfl⟩));refine⟨L2++[pr],?_,by rw[hs,ip,if_neg hp']⟩;rw[Es,←Eu]
      cbv
     ·lia
      have hp':pr∈L2:=by
       rcases yaM c with m|m;exact absurd m (hLz pr)
       ·obtain⟨p',m,e'⟩:=Ev.mp m;exact rn e'▸m
      exact⟨L2,by cbv,by rw[hs,ip,if_pos hp']⟩
   ·rw[Ej,EG (Eo _)]at hL2;subst hL2
    lia
    refine⟨L++(ded (rds p.2)).map (aV p.1),by cbv,?_⟩;rw[hL,av e];unfold bz;rw[Ez];simp
 ·rw[Ej,EG (Eo _)]at hL;subst hL
  lia
  exact q
theorem wg{L:List (Str×List Int)}{p:Str×List Int}(h:p∈ded L):p∈L:=by
 have:∀(L acc:List (Str×List Int)),p∈L.foldl ip acc->p∈acc∨p∈L:=by
  intro L
  induction L with
  | nil=>intro acc h;exact .inl h
  | cons x L ih=>
   intro acc h;rcases ih _ h with h|h
   ·unfold ip at h;split at h;exact .inl h
    ·rcases yaM h with h|h;exact .inl h;exact .inr (ysM h▸ymS)
   ·exact .inr (ymC _ h)
 rcases this L [] h with h|h;cases h;exact h
theorem wj{r:Ru}{p:Str×List Int}(h:p∈rds r):Ru.rd p.1 p.2∈r.leaves:=by
 obtain⟨l,hl,e⟩:=EX.mp h;cases l with
 | rd x row=>cases e;exact hl
 | _=>cases e
def RuL(r:Ru):Prop:=r.leaves.length<=22/\∀x row,Ru.rd x row∈r.leaves->row.length<=1000
def H6(ds:List (Str×Ru)):Prop:=ds.length<=6/\(ds.map (·.1)).Nodup/\∀p∈ds,RuL p.2
noncomputable def SL(ds:List (Str×Ru)):List (Str×Str×List Int):=ds.flatMap λd=>(ded (rds d.2)).map λp=>(d.1,p)
theorem oZ(ds:List (Str×Ru)):bz ds=(SL ds).map λq=>aV q.1 q.2:=by
 unfold bz SL;rw[List.map_flatMap];congr 1;funext d;rw[FM];rfl
noncomputable def tEd(e:Str×Str):I:=.tup [.str e.1,.str e.2]
theorem be(l:List Str):I.doks (l.map I.str)=true/\I.deps (l.map I.str)<=50:=by
 induction l with
 | nil=>exact⟨rfl,by decide⟩
 | cons a l ih=>
  rw[Ek,I.doks,I.deps,ih.1];refine⟨rfl,?_⟩;show max 0 _<=50;have:=ih.2;omega
theorem oy{N:List Str}{E:List (Str×Str)}{z:Str}(h:EIn N E)(hz:z∈N)(hN:N.length<=1000){Q:T->Prop}(q:∀L:List Str,L.Nodup->(∀x,x∈L↔Rch E z x)->Q (.li (L.map .str))):W1 (cI [.im (.str z),.li (E.map tEd)]) Q:=by
 refine Iw [some ⟨.ow,.im (.str z)⟩,some ⟨.vw none none,.li (E.map tEd)⟩,none,none,none,none] rfl rfl rfl ?_;unfold bR
 lia
 refine gr (λs:List Str×Nat=>[some ⟨.ow,.im (.str z)⟩,some ⟨.vw none none,.li (E.map tEd)⟩,some ⟨.ow,.li (s.1.map .str)⟩,some ⟨.ow,.im (.int s.2)⟩,none,none]) (λs=>s.1.Nodup/\z∈s.1/\(∀x∈s.1,Rch E z x)/\s.2<=s.1.length/\∀e∈E,e.1∈s.1.take s.2->e.2∈s.1) (λs=>N.length-s.2) ([z],0) (by cbv) ⟨by simp,by simp,λx hx=>by rw[ysM hx];exact .refl,by simp,by simp⟩ λs hs=>?_;obtain⟨L,at0⟩:=s;obtain⟨h1,h2,h3,h4,h5⟩:=hs;dsimp only at h1 h2 h3 h4 h5⊢;have hle:L.length<=N.length:=f7 h1 λx hx=>(h3 x hx).within h hz
 lia
 clear_value hc
 ·have hc':at0<L.length:=by rw[Ej]at hc;omega
  have hla:L[at0]?=some L[at0]:=by simp[hc']
  lia
  refine bT (λM:List Str=>[some ⟨.ow,.im (.str z)⟩,some ⟨.vw none none,.li (E.map tEd)⟩,some ⟨.ow,.li ((L++M).map .str)⟩,some ⟨.ow,.im (.int at0)⟩,none,none]) (λj M=>(L++M).Nodup/\(∀x∈L++M,Rch E z x)/\∀e∈E.take j,e.1=L[at0]->e.2∈L++M) ?_
  lia
  refine⟨E.map tEd,rfl,by cbv,[],by rw[EB],⟨by simpa using h1,by simpa using h3,by simp⟩,λj x M hx hP=>?_,λM hP=>?_⟩
  ·obtain⟨e,he,rfl⟩:=az hx;have hem:=ymG he;obtain⟨p1,p2,p3⟩:=hP;have hl2:(L++M).length<=N.length:=f7 p1 λx hx=>(p2 x hx).within h hz;have hat:(L++M)[at0]?=some L[at0]:=by rw[E4 hc'];exact hla
   have sd:=be (L++M);rw[tEd]
   lia
   refine bI ?_
   lia
   refine ga (emb:=I.str) (ns:=L++M) (by omega) (by simp;omega) λy hy=>?_;have ey:y=L[at0]:=by
    have hy':(L++M)[at0]?=some y:=by simpa using hy
    rw[hat]at hy';cases hy';rfl
   subst ey
   lia
   have snoc:∀M',(∀x∈L++M,x∈L++M')->(e.1=L[at0]->e.2∈L++M')->∀e'∈E.take (j+1),e'.1=L[at0]->e'.2∈L++M':=λM' hs hh e' he'=>by
    rw[av he]at he';rcases yaM he' with he'|he';exact λz=>hs _ (p3 e' he' z);rw[ysM he'];exact hh
   clear_value c1
   ·lia
    refine g7 ⟨rfl,sd.1,sd.2⟩ ?_
    lia
    clear_value c2
    ·lia
     have c2':e.2∉L++M:=λz=>c2 (Ix.mpr z);refine bc (is:=(L++M).map .str) (i:=.str e.2) (by simp;rw[Ji];simp at hl2;omega) ?_;ac_nf
     lia
     refine⟨M++[e.2],?_,?_,?_,snoc _ (λx hx=>by rw[←Eu];exact yaL _ hx) λ_=>by simp⟩
     ·rw[show(L++(M++[e.2])).map I.str=(L++M).map I.str++[I.str e.2] by simp];try cbv
     ·rw[←Eu];exact Em.mpr ⟨p1,by simp,λa ha b hb e'=>c2' (by rw[ysM hb]at e';rw[←e'];exact ha)⟩
     ·rw[←Eu];refine aW p2 ?_;refine(h3 _ (G3 hc')).tail ?_;rw[←c1];exact hem
    ·lia
     have c2':e.2∈L++M:=Ix.mp c2;exact⟨M,by cbv,p1,p2,snoc M (λ_ hx=>hx) λ_=>c2'⟩
   ·lia
    refine spF ?_
    lia
    exact⟨M,by cbv,p1,p2,snoc M (λ_ hx=>hx) λz=>absurd z c1⟩
  ·obtain⟨p1,p2,p3⟩:=hP;rw[Ej,EO]at p3
   lia
   refine Dt rfl ?_
   lia
   refine⟨(L++M,at0+1),by cbv,by omega,p1,yaL _ h2,p2,by simp;omega,λe he hm=>?_⟩;rw[List.take_append_of_le_length (by omega),av hla]at hm;rcases yaM hm with hm|hm;exact yaL _ (h5 e he hm);exact p3 e he (ysM hm)
 ·have e:at0=L.length:=by rw[Ej]at hc;omega
  lia
  refine q L h1 λx=>⟨h3 x,λr=>r.clo (λe' he' hm=>h5 e' he' ?_) h2⟩;rw[e,EO];exact hm
section
variable {O:Rho}{S:Type}{fr:List (Option Nat)}{g:MG}{a b ek cbv:ME}{QE':R->Rho->Prop}
theorem rF(st:S->Rho)(P:Nat->S->List Key->List T->Prop){ma:ME} (h:WE ma O λr O1=>∃is:List I,eg r=some (is.map λi=>⟨.ow,.im i⟩)/\is.length<sizeLine/\(cA fr O1.length&&cB (g.mu++([]++(ek.mu++cbv.mu))) fr.length&&aE (muF fr (g.mu++([]++(ek.mu++cbv.mu)))) r)=true/\∃s0,O1=st s0/\P 0 s0 [] [] ∧
  (∀(j:Nat) x s ks ts,is[j]?=some x->P j s ks ts->WG g ⟨.ow,.im x⟩ (inR fr (st s)) λO1=>WE ek O1 λrk O3=>∃q,jV rk=some q/\q∉ks/\WE cbv O3 λr O4=>∃t s',r=⟨.ow,t⟩/\bU fr (g.mu++([]++(ek.mu++cbv.mu))) O4 (st s)=st s'/\P (j+1) s' (ks++[q]) (ts++[t])) ∧
  ∀s ks ts,P is.length s ks ts->QE' ⟨.ow,km ks ts⟩ (st s)):WE (gZ fr (mIt ma) g mYes ek cbv) O QE':=by with_unfolding_all
 obtain⟨r,O1,e1,is,e2,hl,al,s0,rfl,h0,hs,he⟩:=h;refine xX (l6 ⟨r,_,e1,_,e2,(by rw[Fs,Gk,Gv];exact al),by simpa using hl,λj ks ts O=>∃s,O=st s/\P j s ks ts,⟨s0,rfl,h0⟩,λj r ks ts O hr hI=>?_,λks ts O hI=>?_⟩)
 ·obtain⟨x,hx,rfl⟩:=az hr;obtain⟨s,rfl,hP⟩:=hI;refine(hs j x s ks ts hx hP).mono λO1 q=>jl ⟨λ_=>q.mono λrk O3 ⟨q0,h1,h2,q2⟩=>⟨q0,h1,h2,q2.mono λr O4 ⟨t,s',e,e',hP'⟩=>⟨t,e,s',e',hP'⟩⟩,λz=>by cases z⟩
 ·obtain⟨s,rfl,hP⟩:=hI;exact he s ks ts (by simpa using hP)
theorem gq(h:WE a O λra O1=>WE b O1 λrb O2=>Gu (aE b.mu ra) (∃q,jV rb=some q/\W1 (ixD ra q) λr=>QE' r O2)):WE (eQ a b) O QE':=by
 obtain⟨ra,O1,e1,rb,O2,e2,al,q,e3,r,e4,k⟩:=h;exact⟨r,O2,by simp only[eQ,e1,e2,al,if_true,e3,e4],k⟩
theorem ju{k k':Kd}{q:Key}{kvs:List (I×T)}{L:List I}{Q:R->Prop}(h:bW kvs (bZ q)=some (.li L))(hk:ixK k (some (.ky (bZ q)))=some k')(qq:Q ⟨k',.li L⟩):W1 (ixD ⟨k,.dc kvs⟩ q) Q:=by
 refine⟨⟨k',.li L⟩,?_,qq⟩;unfold ixD;dsimp only;rw[h];dsimp only;unfold ixP;dsimp only;rw[hk]
end
noncomputable def tDc(f:Str->List Str) (N:List Str):T:=.dc (N.map λz=>(.str z,.li ((f z).map .str)))
theorem cL{f:Str->List Str}{z:Str}:∀{N:List Str},z∈N->bW (N.map λz=>((.str z,.li ((f z).map .str)):I×T)) (bZ (.inr z))=some (.li ((f z).map .str))
 | a::N,h=>by
  rw[Ek,bW];by_cases e:a=z;subst e;exact if_pos rfl
  ·rw[if_neg (show ¬ I.str a=bZ (.inr z)from λz'=>e (I.str.inj z'))];exact cL ((ycM h).resolve_left λz'=>e z'.symm)
theorem wl{f:Str->List Str}:∀N:List Str,km (N.map .inr) (N.map λz=>.li ((f z).map .str))=tDc f N:=by
 have key:∀N:List Str,HM (λ(k:Key) (t:T)=>(bZ k,t)) (N.map .inr) (N.map λz=>T.li ((f z).map .str))=N.map λz=>((.str z,.li ((f z).map .str)):I×T):=by
  intro N
  induction N with
  | nil=>rfl
  | cons a N ih=>rw[Ek,Ek,Ha,ih];rfl
 intro N;unfold km tDc;rw[key]
theorem jB{N:List Str}(hn:N.Nodup){j:Nat}{z:Str}(hz:N[j]?=some z):z∉N.take j:=λhm=>by
 obtain⟨i,hi,e⟩:=F8.mp hm;have hj:=(Eg.mp hz).1;have:=(List.getElem?_inj (i:=i) (j:=j) (by omega) hn).mp (by rw[hz,EQ (by omega),e]);omega
theorem jO:∀{l acc:List (List Str)},(l.foldl fO acc).length<=acc.length+l.length
 | [],acc=>Eo _
 | k::l,acc=>by
  rw[Fj];refine ER (jO (l:=l)) ?_;unfold fO;split<;>simp<;>omega
theorem l5(k:List Str):(tKn k).dok=true:=(be k).1
theorem eT(l:List (List Str)):I.doks (l.map tKn)=true/\I.deps (l.map tKn)<=50:=by
 induction l with
 | nil=>exact⟨rfl,by decide⟩
 | cons a l ih=>
  have h0:I.deps (a.map I.str)=0:=by
   induction a with
   | nil=>rfl
   | cons b a iha=>rw[Ek,I.deps,iha];rfl
  rw[Ek,I.doks,I.deps,l5,ih.1];refine⟨rfl,?_⟩;have e1:(tKn a).dep=1:=by show I.deps (a.map I.str)+1=1;rw[h0]
  have:=ih.2;rw[e1];omega
theorem sG{N:List Str}{E:List (Str×Str)}(h:EIn N E)(hn:N.Nodup)(hN:N.length<=1000){Q:T->Prop}(q:Q (.li ((dk N E N).map tKn))):W1 (cX [.li (N.map .str),.li (E.map tEd)]) Q:=by
 refine Iw [some ⟨.vw none none,.li (N.map .str)⟩,some ⟨.vw none none,.li (E.map tEd)⟩,none,none,none,none] rfl rfl rfl ?_;unfold bY
 lia
 refine rF (λ_:Unit=>[some ⟨.vw none none,.li (N.map .str)⟩,some ⟨.vw none none,.li (E.map tEd)⟩,none,none,none,none]) (λj _ ks ts=>ks=(N.take j).map .inr/\∃f:Str->List Str,ts=(N.take j).map (λz=>.li ((f z).map .str))/\∀z∈N.take j,∀x,x∈f z↔Rch E z x) ?_
 lia
 refine⟨N.map .str,rfl,by simp;rw[Ji];omega,by cbv,(),by cbv,⟨rfl,λ_=>[],rfl,by simp⟩,λj x _ ks ts hx hP=>?_,λ_ ks ts hP=>?_⟩
 ·obtain⟨z,hz,rfl⟩:=az hx;have hzN:=ymG hz;obtain⟨rfl,f,rfl,hf⟩:=hP
  lia
  refine⟨.inr z,rfl,?_,?_⟩
  ·intro hm;obtain⟨y,hy,e⟩:=Ev.mp hm;exact jB hn hz (NO e▸hy)
  ·lia
   refine oy h hzN hN λL hL1 hL2=>?_;refine⟨.li (L.map .str),(),rfl,by cbv,by rw[av hz,Es];rfl,λy=>if y=z then L else f y,?_,λy hy=>?_⟩
   ·rw[av hz,Es];congr 1
    ·refine GA λy hy=>?_;show T.li _=T.li ((if y=z then L else f y).map .str);rw[if_neg (λ(e:y=z)=>jB hn hz (e▸hy))]
    ·show [T.li (L.map .str)]=[T.li ((if z=z then L else f z).map .str)];rw[if_pos rfl]
   ·rw[av hz]at hy;show∀x,x∈(if y=z then L else f y)↔_;by_cases e:y=z;subst e;intro x;rw[if_pos rfl];exact hL2 x
    ·rw[if_neg e];exact hf y ((yaM hy).resolve_right λz'=>e (ysM z'))
 obtain⟨rfl,f,rfl,hf⟩:=hP;rw[Ej,EO]at hf⊢;have fb:∀z∈N,∀x,decide (I.str x∈(f z).map I.str)=rb N E z x:=λz hz x=>by
  rw[EY,decide_eq_true_eq,Ix,hf z hz,eC h hz]
 rw[wl]
 lia
 refine bT (λL:List (List Str)=>[some ⟨.vw none none,.li (N.map .str)⟩,some ⟨.vw none none,.li (E.map tEd)⟩,some ⟨.ow,tDc f N⟩,some ⟨.ow,.li (L.map tKn)⟩,none,none]) (λj L=>L=((N.take j).map (kn N E)).foldl fO []) ?_
 lia
 refine⟨N.map .str,rfl,by cbv,[],by cbv,rfl,λj x L hx hP=>?_,λL hP=>?_⟩
 ·obtain⟨z,hz,rfl⟩:=az hx;have hzN:=ymG hz
  lia
  refine dO (λ_:Unit=>[some ⟨.vw none none,.li (N.map .str)⟩,some ⟨.vw none none,.li (E.map tEd)⟩,some ⟨.ow,tDc f N⟩,some ⟨.ow,.li (L.map tKn)⟩,some ⟨.ow,.im (.str z)⟩,none]) I.str (λk _ l=>l=(N.take k).filter λo=>rb N E z o&&rb N E o z) ?_
  lia
  refine⟨N.map .str,rfl,by simp;rw[Ji];omega,by cbv,(),by cbv,rfl,λk y _ l hy hl=>?_,λ_ l hl=>?_⟩
  ·obtain⟨o,ho,rfl⟩:=az hy;have hoN:=ymG ho
   lia
   have snoc:(N.take (k+1)).filter (λo=>rb N E z o&&rb N E o z)=(N.take k).filter (λo=>rb N E z o&&rb N E o z)++if(rb N E z o&&rb N E o z)=true then [o]else []:=by
    rw[av ho,Fa,EK];rfl
   refine gq ?_
   lia
   refine⟨.inr z,rfl,ju (cL hzN) rfl ?_⟩
   lia
   refine j2 ⟨rfl,(be _).1,(be _).2⟩ ?_;rw[fb z hzN o]
   lia
   clear_value c1
   ·lia
    refine gq ?_
    lia
    refine⟨.inr o,rfl,ju (cL hoN) rfl ?_⟩
    lia
    refine j2 ⟨rfl,(be _).1,(be _).2⟩ ?_;rw[fb o hoN z]
    lia
    clear_value c2
    ·lia
     exact⟨o,(),rfl,by cbv,by rw[hl,snoc,show rb N E z o=true from decide_eq_true c1,show rb N E o z=true from decide_eq_true c2];rfl⟩
    ·lia
     exact⟨(),by cbv,by rw[hl,snoc,show rb N E z o=true from decide_eq_true c1,show rb N E o z=false from decide_eq_false c2];simp⟩
   ·lia
    refine spF ?_
    lia
    exact⟨(),by cbv,by rw[hl,snoc,show rb N E z o=false from decide_eq_false c1];simp⟩
  rw[Ej,EO]at hl;have hl':l=kn N E z:=hl;subst hl'
  lia
  refine bI ?_
  lia
  have hLd:L.length<=j:=by rw[hP];exact ER jO (by simp;omega)
  refine g7 (i:=tKn (kn N E z)) (is:=L.map tKn) ⟨l5 _,eT _⟩ ?_
  lia
  clear_value c1
  ·lia
   refine bc (is:=L.map tKn) (i:=tKn (kn N E z)) (by simp;rw[Ji];have:=(Eg.mp hz).1;omega) ?_;ac_nf
   lia
   refine⟨L++[kn N E z],?_,?_⟩;rw[Es];try cbv
   ·rw[av hz,Es,Go,←hP];show _=fO L _;unfold fO;rw[if_neg (λz'=>c1 (IW.mpr z'))]
  ·lia
   refine⟨L,by cbv,?_⟩;rw[av hz,Es,Go,←hP];show _=fO L _;unfold fO;rw[if_pos (IW.mp c1)]
 ·rw[Ej,EO]at hP;subst hP
  lia
  exact q
theorem sv{E:List (Str×Str)}{k told:List Str}(hE:E.length<=1000){Q:T->Prop}(q:Q (.im (.bl (iS E k told)))):W1 (hC [.im (tKn k),.li (told.map .str),.li (E.map tEd)]) Q:=by
 refine Iw [some ⟨.ow,.im (tKn k)⟩,some ⟨.vw none none,.li (told.map .str)⟩,some ⟨.vw none none,.li (E.map tEd)⟩] rfl rfl rfl ?_;unfold fc
 lia
 refine dO (λ_:Unit=>[some ⟨.ow,.im (tKn k)⟩,some ⟨.vw none none,.li (told.map .str)⟩,some ⟨.vw none none,.li (E.map tEd)⟩]) I.bl (λj _ l=>l=((E.take j).filter λe=>decide (e.1∈k)).map λe=>decide (e.2∈k)||decide (e.2∈told)) ?_
 lia
 refine⟨E.map tEd,rfl,by simp;rw[Ji];omega,by cbv,(),by cbv,rfl,λj y _ l hy hl=>?_,λ_ l hl=>?_⟩
 ·obtain⟨e,he,rfl⟩:=az hy;rw[tEd]
  lia
  refine sW (i:=.str e.1) (is:=k.map .str) ⟨rfl,(be _).1,(be _).2⟩ ?_
  lia
  have snoc:((E.take (j+1)).filter λe=>decide (e.1∈k)).map (λe=>decide (e.2∈k)||decide (e.2∈told))=((E.take j).filter λe=>decide (e.1∈k)).map (λe=>decide (e.2∈k)||decide (e.2∈told))++if e.1∈k then [decide (e.2∈k)||decide (e.2∈told)]else []:=by
   rw[av he,Fa,Es,EK];congr 1;by_cases c:e.1∈k;rw[if_pos c,if_pos (decide_eq_true c)];rfl;rw[if_neg c,if_neg (by rw[decide_eq_false c];decide)];rfl
  clear_value c1
  ·have c1':=Ix.mp c1
   lia
   refine sW (i:=.str e.2) (is:=k.map .str) ⟨rfl,(be _).1,(be _).2⟩ ?_
   lia
   clear_value c2
   ·exact⟨true,(),rfl,by cbv,by rw[hl,snoc,if_pos c1',decide_eq_true (Ix.mp c2)];rfl⟩
   ·lia
    refine j2 (i:=.str e.2) (is:=told.map .str) ⟨rfl,(be _).1,(be _).2⟩ ?_
    lia
    refine⟨decide (e.2∈told),(),?_,by cbv,by rw[hl,snoc,if_pos c1',decide_eq_false (λz=>c2 (Ix.mpr z))];rfl⟩;congr 3;rw[EY,decide_eq_true_eq,decide_eq_true_eq,Ix]
  ·lia
   exact⟨(),by cbv,by rw[hl,snoc,if_neg (λz=>c1 (Ix.mpr z)),EB]⟩
 ·rw[Ej,EO]at hl;subst hl
  lia
  refine yq ?_
  lia
  have e:iS E k told=(((E.filter λe=>decide (e.1∈k)).map λe=>decide (e.2∈k)||decide (e.2∈told))).all id:=by
   unfold iS;rw[HJ];rfl
  rw[←e];exact q
noncomputable def eAt(ds:List (Str×Ru)) (j:Nat):Str×Str:=match (SL ds)[j]? with
 | some q=>(q.1,q.2.1)
 | none=>("","")
noncomputable def eds(ds:List (Str×Ru)) (js:List Nat):List (Str×Str):=js.map (eAt ds)
noncomputable def tNs(js:List Nat):I:=.tup (js.map λj:Nat=>I.int (j:Int))
theorem vI{w wh:Int}{ds:List (Str×Ru)}{js:List Nat}(hd:ds.length<=6)(hl:∀p∈ds,p.2.leaves.length<=40)(hj:∀j∈js,j<(SL ds).length)(hjs:js.length<=1000){Q:T->Prop}(q:Q (.li ((eds ds js).map tEd))):W1 (eB [.im (aY w wh ds),.im (tNs js)]) Q:=by
 refine Iw [some ⟨.ow,.im (aY w wh ds)⟩,some ⟨.ow,.im (tNs js)⟩,none] rfl rfl rfl ?_;unfold cM
 lia
 refine oI hd hl ?_;rw[oZ]
 lia
 refine cT (λ_:Unit=>[some ⟨.ow,.im (aY w wh ds)⟩,some ⟨.ow,.im (tNs js)⟩,some ⟨.ow,.im (.tup ((SL ds).map λq=>aV q.1 q.2))⟩]) tEd (λk _ l=>l=eds ds (js.take k)) ?_
 lia
 refine⟨js.map λj:Nat=>I.int (j:Int),rfl,by simp;rw[Ji];omega,by cbv,(),by cbv,rfl,λk x _ l hx hP=>?_,λ_ l hP=>?_⟩
 ·obtain⟨j,hj',rfl⟩:=az hx;have hlt:=hj j (ymG hj');have hg:(SL ds)[j]?=some (SL ds)[j]:=by simp[hlt]
  have he:eAt ds j=((SL ds)[j].1,(SL ds)[j].2.1):=by unfold eAt;rw[hg]
  lia
  refine sY (emb:=λq:Str×Str×List Int=>aV q.1 q.2) (ns:=SL ds) (by omega) (by omega) λy hy=>?_;have ey:y=(SL ds)[j]:=by
   have hy':(SL ds)[j]?=some y:=by simpa using hy
   rw[hg]at hy';cases hy';rfl
  subst ey
  lia
  refine sY (emb:=λq:Str×Str×List Int=>aV q.1 q.2) (ns:=SL ds) (by omega) (by omega) λy hy=>?_;have ey:y=(SL ds)[j]:=by
   have hy':(SL ds)[j]?=some y:=by simpa using hy
   rw[hg]at hy';cases hy';rfl
  subst ey
  lia
  refine⟨eAt ds j,(),?_,by cbv,by rw[hP,av hj'];unfold eds;rw[Es];rfl⟩;rw[he];rfl
 ·rw[Ej,EO]at hP;subst hP
  lia
  exact q
theorem jp{α:Type}{p : α->Bool}:∀{l:List α} {x : α},l.find? p=some x->∃r,l.filter p=x::r
 | [],_,h=>by cases h
 | a::l,x,h=>by
  rw[Fk]at h;rw[EK];cases e:p a with
  | true=>rw[e]at h;cases h;exact⟨l.filter p,rfl⟩
  | false=>rw[e]at h;exact jp h
theorem y3{N:List Str}{E:List (Str×Str)}{left:List Str}(h:dk N E left=[]):left=[]:=by
 cases left with
 | nil=>rfl
 | cons a l=>
  have:kn N E a∈dk N E (a::l):=ded2_mem.mpr (.inr (by rw[Ek];exact ymS));rw[h]at this;cases this
theorem sC{w wh:Int}{ds:List (Str×Ru)}{js:List Nat}(hd:ds.length<=6)(hn:(ds.map (·.1)).Nodup)(hl:∀p∈ds,p.2.leaves.length<=40)(hj:∀j∈js,j<(SL ds).length)(hjs:js.length<=1000)(h:EIn (ds.map (·.1)) (eds ds js)){Q:T->Prop}
  (q:Q (.im (.tup ((fe (ds.map (·.1)) (eds ds js) ds.length (ds.map (·.1))).map tKn)))):W1 (fk [.im (aY w wh ds),.im (tNs js)]) Q:=by
 have hE:(eds ds js).length<=1000:=by unfold eds;rw[Ej];exact hjs
 generalize hEe:eds ds js=E at h hE q;generalize hNe:ds.map (·.1)=N at h hn q;have hNl:N.length=ds.length:=by rw[←hNe,Ej]
 refine Iw [some ⟨.ow,.im (aY w wh ds)⟩,some ⟨.ow,.im (tNs js)⟩,none,none,none,none,none] rfl rfl rfl ?_;unfold dr
 lia
 refine vI hd hl hj hjs ?_;rw[hEe]
 lia
 refine cT (λ_:Unit=>[some ⟨.ow,.im (aY w wh ds)⟩,some ⟨.ow,.im (tNs js)⟩,some ⟨.ow,.li (E.map tEd)⟩,none,none,none,none]) I.str (λk _ l=>l=(ds.take k).map (·.1)) ?_;rw[aY]
 lia
 refine⟨ds.map fM,rfl,by simp;rw[Ji];omega,by cbv,(),by cbv,rfl,λk x _ l hx hP=>?_,λ_ l hP=>?_⟩
 ·obtain⟨d,hd',rfl⟩:=az hx;rw[fM]
  lia
  exact⟨d.1,(),rfl,by cbv,by rw[hP,av hd',Es];rfl⟩
 rw[Ej,EO,hNe]at hP;subst hP
 lia
 refine sG h hn (by omega) ?_
 lia
 refine gr (λs:List Str×List (List Str)×List Str=>[some ⟨.ow,.im (aY w wh ds)⟩,some ⟨.ow,.im (tNs js)⟩,some ⟨.ow,.li (E.map tEd)⟩,some ⟨.ow,.li ((dk l E s.1).map tKn)⟩,some ⟨.ow,.li (s.2.1.map tKn)⟩,some ⟨.ow,.li (s.2.2.map .str)⟩,none]) (λs=>IR l E s.1 s.2.2/\s.2.1++fe l E s.1.length s.1=fe l E ds.length l/\s.2.1.length+s.1.length<=l.length/\s.2.2.length<=s.2.1.length*l.length) (λs=>s.1.length) (l,[],[]) (by cbv) ⟨IR.first h,by rw[hNl];rfl,by simp,by simp⟩ λs hs=>?_;obtain⟨left,knots,told⟩:=s;obtain⟨i1,i2,i3,i4⟩:=hs;dsimp only at i1 i2 i3 i4⊢
 lia
 refine tz ?_
 lia
 clear_value hc
 ·have hne:left≠[]:=λz=>by subst z;simp[dk]at hc
  obtain⟨z0,hz0,hdz0⟩:=mw h i1.sub hne;obtain⟨z,hz⟩:∃z,left.find? (ef l E left)=some z:=by
   have:=GL.mpr ⟨z0,hz0,hdz0⟩;exact Fz.mp this
  have hzl:=F9 hz;have hzd:ef l E left z=true:=List.find?_some hz;have hf:=i1.find h;rw[hz]at hf;obtain⟨r,hr⟩:=jp hf;have hkm:kn l E z∈dk l E left:=F9 hf;have hknl:(kn l E z).length<=l.length:=by unfold kn;exact Hj _ _
  have hdkl:(dk l E left).length<=left.length:=by have:=jO (l:=left.map (kn l E)) (acc:=[]);simpa[dk]using this
  have hlt:=iV h hzl (i1.sub z hzl)
  lia
  refine dO (λ_:Unit=>[some ⟨.ow,.im (aY w wh ds)⟩,some ⟨.ow,.im (tNs js)⟩,some ⟨.ow,.li (E.map tEd)⟩,some ⟨.ow,.li ((dk l E left).map tKn)⟩,some ⟨.ow,.li (knots.map tKn)⟩,some ⟨.ow,.li (told.map .str)⟩,none]) tKn (λk _ L=>L=((dk l E left).take k).filter λk=>iS E k told) ?_
  lia
  refine⟨(dk l E left).map tKn,rfl,by simp;rw[Ji];omega,by cbv,(),by cbv,rfl,λk y _ L hy hL=>?_,λ_ L hL=>?_⟩
  ·obtain⟨x,hx,rfl⟩:=az hy
   lia
   refine sv hE ?_
   lia
   have snoc:((dk l E left).take (k+1)).filter (λk=>iS E k told)=((dk l E left).take k).filter (λk=>iS E k told)++if iS E x told=true then [x]else []:=by
    rw[av hx,Fa,EK];rfl
   clear_value c1
   ·lia
    exact⟨x,(),rfl,by cbv,by rw[hL,snoc,if_pos c1]⟩
   ·lia
    exact⟨(),by cbv,by rw[hL,snoc,if_neg (by rw[c1];decide),EB]⟩
  rw[Ej,EO,hr]at hL;subst hL
  lia
  refine ga (emb:=tKn) (ns:=kn l E z::r) (by omega) (by simp) λy hy=>?_;have ey:y=kn l E z:=by
   have hy':(kn l E z::r)[0]?=some y:=hy;cases hy';rfl
  subst ey
  lia
  refine Ce (i:=tKn (kn l E z)) (is:=(dk l E left).map tKn) ⟨l5 _,(eT _).1,(eT _).2,IW.mpr hkm⟩ ?_;have hnd:(dk l E left).Nodup:=o8 FI;rw[mz hnd hkm,vH h i1.sub hzl];ac_nf
  lia
  refine bc (is:=knots.map tKn) (i:=tKn (kn l E z)) (by simp;rw[Ji];omega) ?_;ac_nf
  lia
  have hb:told.length<=1000:=by
   have h1:knots.length<=6:=by omega
   have h2:knots.length*l.length<=6*6:=GF h1 (by omega);omega
  refine sV (is:=told.map .str) (js:=(kn l E z).map .str) (by simp;rw[Ji];omega) ?_;ac_nf
  lia
  refine⟨(left.filter λo=>!decide (o∈kn l E z),knots++[kn l E z],told++kn l E z),?_,hlt,i1.step h hzl hzd,?_,?_,?_⟩
  ·dsimp only;rw[Es,Es];try cbv
  ·dsimp only;rw[←i2,Eu];congr 1;obtain⟨n,hn'⟩:∃n,left.length=n+1:=⟨left.length-1,by omega⟩;rw[hn',fe,hz];show kn l E z::_=kn l E z::_;congr 1;exact i9 h _ _ _ (λx hx=>i1.sub x (Er.mp hx).1) (Eo _) (by omega)
  ·simp only[Et,FX];omega
  ·show(told++kn l E z).length<=(knots++[kn l E z]).length*l.length;rw[Et,Et,FX,Nat.add_mul,Nat.one_mul];omega
 ·have hem:left=[]:=y3 (N:=l) (E:=E) (by
   have:((dk l E left).map tKn).isEmpty=true:=by simpa using hc
   exact FP.mp (List.isEmpty_iff.mp this))
  subst hem
  lia
  have e:knots=fe l E ds.length l:=by rw[←i2];exact(EB _).symm
  rw[e];exact q
section
variable {O:Rho}{a b:ME}{QG':Rho->Prop}
theorem vt{j:Nat}{tv:T}(h:WE a O λra O1=>WE b O1 λrb O2=>AtS j ra λp s=>Gu (!b.mu.contains j) (∃q,jV rb=some q/\AtM j O2 λk t=>W1 (mn s q tv) λs'=>QG' ((ao [j] O2).set j (some ⟨k,t.put p s'⟩)))):WG (i6 j a b) ⟨.ow,tv⟩ O QG':=by
 obtain⟨ra,O1,e1,rb,O2,e2,p,s,rfl,hm,q,eq,k,t,e3,ow,s',e4,qq⟩:=h;refine⟨_,?_,qq⟩;simp only[i6,e1,e2,hm,decide_true,Ga,if_true,eq,e4,e3,ow]
theorem wy{kvs:List (I×T)}{q:Key}{tv:T}{Q:T->Prop}(h:bW kvs (bZ q)=none)(hl:kvs.length<sizeLine)(qq:Q (.dc (kvs++[(bZ q,tv)]))):W1 (mn (.dc kvs) q tv) Q:=by
 refine⟨_,?_,qq⟩;unfold mn;dsimp only;rw[h];dsimp only;rw[if_pos hl]
end
theorem Dv{O:Rho}{QF:R->Rho->Prop}(q:QF ⟨.ow,.dc []⟩ O):WE sH O QF:=by with_unfolding_all exact⟨_,_,rfl,q⟩
theorem mH{f:Str->List Str}{z:Str}:∀{N:List Str},z∉N->bW (N.map λz=>((.str z,.li ((f z).map .str)):I×T)) (bZ (.inr z))=none
 | [],_=>rfl
 | a::N,h=>by
  rw[E8,not_or]at h;rw[Ek,bW,if_neg (show ¬ I.str a=bZ (.inr z)from λz'=>h.1 (I.str.inj z').symm)];exact mH h.2
theorem pA{g:Str->List Str}{z:Str}{L:List Str}:∀{N:List Str},N.Nodup->z∈N->iG (N.map λz=>((.str z,.li ((g z).map .str)):I×T)) (.str z) (.li (L.map .str))=N.map λy=>((.str y,.li ((if y=z then L else g y).map .str)):I×T)
 | a::N,hn,hm=>by
  rw[EF]at hn;rw[Ek,Ek,iG];by_cases e:a=z
  ·subst e;rw[if_pos rfl,if_pos rfl];congr 1;refine GA λy hy=>?_;rw[if_neg (λ(z':y=a)=>hn.1 (z'▸hy))]
  ·rw[if_neg (λz'=>e (I.str.inj z')),if_neg e,pA hn.2 ((ycM hm).resolve_left λz'=>e z'.symm)]
theorem Au{g:Str->List Str}{z:Str}{L:List Str}{N:List Str}(hn:N.Nodup)(hm:z∈N):(tDc g N).put [.ky (.str z)] (.li (L.map .str))=tDc (λy=>if y=z then L else g y) N:=by
 unfold tDc;rw[T.put];have e:iK (.dc (N.map λz=>((.str z,.li ((g z).map .str)):I×T))) (.ky (.str z))=some (.li ((g z).map .str)):=cL (f:=g) hm;rw[e];show wY _ _ _=_;rw[T.put];show T.dc (iG _ _ _)=_;rw[pA hn hm]
theorem sF{N:List Str}{E:List (Str×Str)}(h:EIn N E)(hn:N.Nodup)(hN:N.length<=6)(hE:E.length<=1000){Q:T->Prop}(q:∀g:Str->List Str,(∀z∈N,g z=rl N E z)->Q (tDc g N)):W1 (jd [.li (N.map .str),.li (E.map tEd)]) Q:=by
 refine Iw [some ⟨.vw none none,.li (N.map .str)⟩,some ⟨.vw none none,.li (E.map tEd)⟩,none,none,none,none,none] rfl rfl rfl ?_;unfold gA
 lia
 refine Dv ?_
 lia
 refine bT (λj:Nat=>[some ⟨.vw none none,.li (N.map .str)⟩,some ⟨.vw none none,.li (E.map tEd)⟩,some ⟨.ow,tDc (λz=>[z]) (N.take j)⟩,none,none,none,none]) (λj s=>s=j) ?_
 lia
 refine⟨N.map .str,rfl,by cbv,0,by cbv,rfl,λj x s hx hP=>?_,λs hP=>?_⟩
 ·subst hP;obtain⟨z,hz,rfl⟩:=az hx
  lia
  refine vt ?_
  lia
  refine⟨.inr z,rfl,?_⟩
  lia
  refine wy (mH (jB hn hz)) (by simp;rw[Ji];omega) ?_
  lia
  refine⟨s+1,?_,rfl⟩;rw[av hz];unfold tDc;rw[Es];try cbv
 rw[Ej]at hP;subst hP;rw[EO]
 lia
 refine bT (λg:Str->List Str=>[some ⟨.vw none none,.li (N.map .str)⟩,some ⟨.vw none none,.li (E.map tEd)⟩,some ⟨.ow,tDc g N⟩,none,none,none,none]) (λj g=>∀z∈N,g z=gf E j [z]) ?_
 lia
 refine⟨N.map .str,rfl,by cbv,λz=>[z],by cbv,λz _=>rfl,λj x f hx hf=>?_,λg hg=>?_⟩
 ·obtain⟨u,hu,rfl⟩:=az hx
  lia
  refine bT (λg:Str->List Str=>[some ⟨.vw none none,.li (N.map .str)⟩,some ⟨.vw none none,.li (E.map tEd)⟩,some ⟨.ow,tDc g N⟩,none,some ⟨.ow,.im (.str u)⟩,none,none]) (λk g=>∀z∈N,g z=rlx (E.take k) (f z)) ?_
  lia
  refine⟨E.map tEd,rfl,by cbv,f,by cbv,λz _=>rfl,λk x f2 hx hf2=>?_,λg hg=>?_⟩
  ·obtain⟨e,he,rfl⟩:=az hx;rw[tEd]
   lia
   refine bT (λg:Str->List Str=>[some ⟨.vw none none,.li (N.map .str)⟩,some ⟨.vw none none,.li (E.map tEd)⟩,some ⟨.ow,tDc g N⟩,none,some ⟨.ow,.im (.str u)⟩,some ⟨.ow,.im (.str e.1)⟩,some ⟨.ow,.im (.str e.2)⟩]) (λi g=>∀z∈N,g z=if z∈N.take i then df (f2 z) e else f2 z) ?_
   lia
   refine⟨N.map .str,rfl,by cbv,f2,by cbv,λz _=>by rw[if_neg (by simp)],λi x g hx hg=>?_,λg hg=>?_⟩
   ·obtain⟨z,hz,rfl⟩:=az hx;have hzN:=ymG hz;have hgz:g z=f2 z:=by rw[hg z hzN,if_neg (jB hn hz)]
    have nx:∀g':Str->List Str,g' z=df (f2 z) e->(∀y,y≠z->g' y=g y)->∀y∈N,g' y=if y∈N.take (i+1)then df (f2 y) e else f2 y:=λg' h1 h2 y hy=>by
     rw[av hz];by_cases ey:y=z;subst ey;rw[h1,if_pos (by simp)]
     ·rw[h2 y ey,hg y hy];have:(y∈N.take i++[z])↔y∈N.take i:=by simp[ey]
      simp only[this]
    lia
    refine bI ?_
    lia
    refine gq ?_
    lia
    refine⟨.inr z,rfl,ju (cL hzN) rfl ?_⟩
    lia
    refine j2 ⟨rfl,(be _).1,(be _).2⟩ ?_
    lia
    clear_value c1
    ·lia
     refine gq ?_
     lia
     refine⟨.inr z,rfl,ju (cL hzN) rfl ?_⟩
     lia
     refine g7 ⟨rfl,(be _).1,(be _).2⟩ ?_
     lia
     clear_value c2
     ·have c1':e.1∈g z:=Ix.mp c1;have c2':e.2∉g z:=λz'=>c2 (Ix.mpr z');have hl6:(g z).length<=1000000:=by
       have h1:∀y∈g z,y∈z::E.map (·.2):=by
        rw[hgz,hf2 z hzN,hf z hzN];refine jE (λe he _=>ymC _ (Ev.mpr ⟨e,Fe he,rfl⟩)) ?_;have:∀n,∀y∈gf E n [z],y∈z::E.map (·.2):=by
         intro n
         induction n with
         | zero=>intro y hy;rw[ysM hy];exact ymS
         | succ n ih=>exact jE (λe he _=>ymC _ (Ev.mpr ⟨e,he,rfl⟩)) ih
        exact this j
       have h2:(g z).Nodup:=by
        rw[hgz,hf2 z hzN,hf z hzN];exact oG (iI j).1
       have:=f7 h2 h1;simp at this;omega
      lia
      refine gq ?_
      lia
      refine⟨.inr z,rfl,ju (cL hzN) rfl ?_⟩
      lia
      refine bc (is:=(g z).map .str) (i:=.str e.2) (by simp;rw[Ji];omega) ?_;ac_nf
      lia
      refine⟨λy=>if y=z then g z++[e.2]else g y,?_,nx _ ?_ λy hy=>if_neg hy⟩
      ·rw[show(g z).map I.str++[I.str e.2]=(g z++[e.2]).map .str by simp,←Au hn hzN];try cbv
      ·show(if z=z then _ else _)=_;rw[if_pos rfl,hgz];unfold df;rw[if_pos ⟨hgz▸c1',hgz▸c2'⟩]
     ·lia
      refine⟨g,by cbv,nx g ?_ λ_ _=>rfl⟩;rw[hgz];unfold df;rw[if_neg (λz'=>z'.2 (hgz▸Ix.mp c2))]
    ·lia
     refine spF ?_
     lia
     refine⟨g,by cbv,nx g ?_ λ_ _=>rfl⟩;rw[hgz];unfold df;rw[if_neg (λz'=>c1 (Ix.mpr (hgz.symm▸z'.1)))]
   ·lia
    refine⟨g,by cbv,λz hz=>?_⟩;rw[hg z hz,Ej,EO,if_pos hz,hf2 z hz,av he];unfold rlx;rw[Go];rfl
  ·lia
   refine⟨g,by cbv,λz hz=>?_⟩;rw[hg z hz,Ej,EO,hf z hz];rfl
 ·rw[Ej]at hg
  lia
  exact q g hg
theorem z8{is js:List I}{Q:T->Prop}(h:I.doks is=true/\I.doks js=true/\I.deps is<=50)(q:Q (.im (.bl (!decide (is=js))))):W1 (neT (.li is) (.li js)) Q:=⟨_,by simp only[neT,eqB];rw[if_pos h];rfl,q⟩
theorem zS{is js:List I}{Q:T->Prop}(h:I.doks is=true/\I.doks js=true/\I.deps is<=50)(q:Q (.im (.bl (decide (is=js))))):W1 (eqT (.li is) (.li js)) Q:=⟨_,by simp only[eqT,eqB];rw[if_pos h];rfl,q⟩
theorem Du{O:Rho}{Q:Fl->Rho->Prop}(q:Q .bk O):WS mBrk O Q:=⟨_,_,rfl,q⟩
theorem zc{S:Type}{st:S->Rho}{P:S->Prop}{Q:Fl->Rho->Prop}{O:Rho}(h:Q .nx O):fFs st P Q .bk O:=by with_unfolding_all exact h
theorem uV{N:List Str}{E:List (Str×Str)}(h:EIn N E){z:Str}(hz:z∈N):(rl N E z).length<=N.length:=by
 obtain⟨h1,_,h3,_⟩:=iI (E:=E) (z:=z) N.length;exact f7 h1 λx hx=>(h3 x hx).within h hz
theorem wb{N:List Str}{E:List (Str×Str)}(h:EIn N E)(hn:N.Nodup)(hN:N.length<=6)(hE:E.length<=1000){Q:T->Prop}(q:Q (.im (.tup ((fe N E N.length N).map tKn)))):W1 (g9 [.li (N.map .str),.li (E.map tEd)]) Q:=by
 refine Iw [some ⟨.vw none none,.li (N.map .str)⟩,some ⟨.vw none none,.li (E.map tEd)⟩,none,none,none,none,none] rfl rfl rfl ?_;unfold e7
 lia
 refine sF h hn hN hE λg hg=>?_;have fb:∀z∈N,∀x,decide (I.str x∈(g z).map I.str)=rb N E z x:=λz hz x=>by
  rw[EY,decide_eq_true_eq,Ix,hg z hz,eC h hz,dE h hz]
 lia
 refine gr (λs:List Str×List (List Str)=>[some ⟨.vw none none,.li (N.map .str)⟩,some ⟨.vw none none,.li (E.map tEd)⟩,some ⟨.ow,tDc g N⟩,some ⟨.ow,.li (s.1.map .str)⟩,some ⟨.ow,.li (s.2.map tKn)⟩,none,none]) (λs=>(∀x∈s.1,x∈N)/\s.2++fe N E s.1.length s.1=fe N E N.length N/\s.2.length+s.1.length<=N.length) (λs=>s.1.length) (N,[]) (by cbv) ⟨λ_ hx=>hx,rfl,by simp⟩ λs hs=>?_;obtain⟨left,found⟩:=s;obtain⟨i1,i2,i3⟩:=hs;dsimp only at i1 i2 i3⊢
 lia
 refine z8 ⟨(be _).1,rfl,(be _).2⟩ ?_
 lia
 clear_value hc
 ·have hne:left≠[]:=λz=>hc (by rw[z];rfl)
  lia
  refine bT (λ_:Unit=>[some ⟨.vw none none,.li (N.map .str)⟩,some ⟨.vw none none,.li (E.map tEd)⟩,some ⟨.ow,tDc g N⟩,some ⟨.ow,.li (left.map .str)⟩,some ⟨.ow,.li (found.map tKn)⟩,none,none]) (λj _=>left.find? (ef N E left)=(left.drop j).find? (ef N E left)) ?_
  lia
  refine⟨left.map .str,rfl,by cbv,(),by cbv,rfl,λj x _ hx hP=>?_,λ_ hP=>?_⟩
  ·obtain⟨z,hz,rfl⟩:=az hx;have hzl:=ymG hz;have hzN:=i1 z hzl
   lia
   refine dO (λ_:Unit=>[some ⟨.vw none none,.li (N.map .str)⟩,some ⟨.vw none none,.li (E.map tEd)⟩,some ⟨.ow,tDc g N⟩,some ⟨.ow,.li (left.map .str)⟩,some ⟨.ow,.li (found.map tKn)⟩,some ⟨.ow,.im (.str z)⟩,none]) I.str (λk _ l=>l=(N.take k).filter λo=>rb N E z o&&rb N E o z) ?_
   lia
   refine⟨N.map .str,rfl,by simp;rw[Ji];omega,by cbv,(),by cbv,rfl,λk y _ l hy hl=>?_,λ_ l hl=>?_⟩
   ·obtain⟨o,ho,rfl⟩:=az hy;have hoN:=ymG ho
    lia
    have snoc:(N.take (k+1)).filter (λo=>rb N E z o&&rb N E o z)=(N.take k).filter (λo=>rb N E z o&&rb N E o z)++if(rb N E z o&&rb N E o z)=true then [o]else []:=by
     rw[av ho,Fa,EK];rfl
    refine gq ?_
    lia
    refine⟨.inr z,rfl,ju (cL hzN) rfl ?_⟩
    lia
    refine j2 ⟨rfl,(be _).1,(be _).2⟩ ?_;rw[fb z hzN o]
    lia
    clear_value c1
    ·lia
     refine gq ?_
     lia
     refine⟨.inr o,rfl,ju (cL hoN) rfl ?_⟩
     lia
     refine j2 ⟨rfl,(be _).1,(be _).2⟩ ?_;rw[fb o hoN z]
     lia
     clear_value c2
     ·lia
      exact⟨o,(),rfl,by cbv,by rw[hl,snoc,show rb N E z o=true from decide_eq_true c1,show rb N E o z=true from decide_eq_true c2];rfl⟩
     ·lia
      exact⟨(),by cbv,by rw[hl,snoc,show rb N E z o=true from decide_eq_true c1,show rb N E o z=false from decide_eq_false c2];simp⟩
    ·lia
     refine spF ?_
     lia
     exact⟨(),by cbv,by rw[hl,snoc,show rb N E z o=false from decide_eq_false c1];simp⟩
   rw[Ej,EO]at hl;have hl':l=kn N E z:=hl;subst hl'
   lia
   refine bI ?_
   lia
   refine dO (λ_:Unit=>[some ⟨.vw none none,.li (N.map .str)⟩,some ⟨.vw none none,.li (E.map tEd)⟩,some ⟨.ow,tDc g N⟩,some ⟨.ow,.li (left.map .str)⟩,some ⟨.ow,.li (found.map tKn)⟩,some ⟨.ow,.im (.str z)⟩,some ⟨.ow,.li ((kn N E z).map .str)⟩]) I.str (λk _ l=>l=((g z).take k).filter λo=>decide (o∈left) && !decide (o∈kn N E z)) ?_
   lia
   refine gq ?_
   lia
   refine⟨.inr z,rfl,ju (cL hzN) rfl ?_⟩;have hgl:(g z).length<=N.length:=by rw[hg z hzN];exact uV h hzN
   refine⟨(g z).map .str,rfl,by simp;rw[Ji];omega,by cbv,(),by cbv,rfl,λk y _ l hy hl=>?_,λ_ l hl=>?_⟩
   ·obtain⟨o,ho,rfl⟩:=az hy;have snoc:((g z).take (k+1)).filter (λo=>decide (o∈left) && !decide (o∈kn N E z))=((g z).take k).filter (λo=>decide (o∈left) && !decide (o∈kn N E z))++if(decide (o∈left) && !decide (o∈kn N E z))=true then [o]else []:=by
     rw[av ho,Fa,EK];rfl
    lia
    refine j2 ⟨rfl,(be _).1,(be _).2⟩ ?_
    lia
    clear_value c1
    ·lia
     refine g7 ⟨rfl,(be _).1,(be _).2⟩ ?_
     lia
     clear_value c2
     ·lia
      exact⟨o,(),rfl,by cbv,by rw[hl,snoc,decide_eq_true (Ix.mp c1),decide_eq_false (λz'=>c2 (Ix.mpr z'))];rfl⟩
     ·lia
      exact⟨(),by cbv,by rw[hl,snoc,decide_eq_true (Ix.mp c2),Bool.not_true,GD];simp⟩
    ·lia
     refine spF ?_
     lia
     exact⟨(),by cbv,by rw[hl,snoc,decide_eq_false (λz'=>c1 (Ix.mpr z')),Hk];simp⟩
   rw[Ej,EO,hg z hzN]at hl;have hX:l=[]↔ef N E left z=true:=by
    rw[hl,List.filter_eq_nil_iff,dueN_iff];refine forall_congr' λo=>imp_congr_right λ_=>?_;rw[Ei,decide_eq_true_eq,EM,decide_eq_false_iff_not,not_and,ML]
   have hlen:l.length<=6:=by rw[hl];exact ER (Hj _ _) (ER (uV h hzN) hN)
   lia
   refine zS ⟨(be _).1,rfl,(be _).2⟩ ?_
   lia
   clear_value cd
   ·have hd:ef N E left z=true:=hX.mp (FP.mp cd);have hfd:left.find? (ef N E left)=some z:=by
     rw[hP,E9 (Eg.mp hz).1,Fk,(Eg.mp hz).2,hd]
    have hlt:=iV h hzl hzN
    lia
    refine bc (is:=found.map tKn) (i:=tKn (kn N E z)) (by simp;rw[Ji];omega) ?_;ac_nf
    lia
    refine dO (λ_:Unit=>[some ⟨.vw none none,.li (N.map .str)⟩,some ⟨.vw none none,.li (E.map tEd)⟩,some ⟨.ow,tDc g N⟩,some ⟨.ow,.li (left.map .str)⟩,some ⟨.ow,.li (found.map tKn++[tKn (kn N E z)])⟩,some ⟨.ow,.im (.str z)⟩,some ⟨.ow,.li ((kn N E z).map .str)⟩]) I.str (λk _ l=>l=(left.take k).filter λo=>!decide (o∈kn N E z)) ?_
    lia
    refine⟨left.map .str,rfl,by simp;rw[Ji];omega,by cbv,(),by cbv,rfl,λk y _ l hy hl=>?_,λ_ l hl=>?_⟩
    ·obtain⟨o,ho,rfl⟩:=az hy;have snoc:(left.take (k+1)).filter (λo=>!decide (o∈kn N E z))=(left.take k).filter (λo=>!decide (o∈kn N E z))++if(!decide (o∈kn N E z))=true then [o]else []:=by
      rw[av ho,Fa,EK];rfl
     lia
     refine g7 ⟨rfl,(be _).1,(be _).2⟩ ?_
     lia
     clear_value c1
     ·lia
      exact⟨o,(),rfl,by cbv,by rw[hl,snoc,decide_eq_false (λz'=>c1 (Ix.mpr z'))];rfl⟩
     ·lia
      exact⟨(),by cbv,by rw[hl,snoc,decide_eq_true (Ix.mp c1)];simp⟩
    rw[Ej,EO]at hl;subst hl
    lia
    refine Du ?_
    lia
    refine zc ?_
    lia
    refine⟨(left.filter λo=>!decide (o∈kn N E z),found++[kn N E z]),?_,hlt,λx hx=>i1 x (Er.mp hx).1,?_,?_⟩
    ·dsimp only;rw[Es];try cbv
    ·dsimp only;rw[←i2,Eu];congr 1;obtain⟨n,hn'⟩:∃n,left.length=n+1:=⟨left.length-1,by omega⟩;rw[hn',fe,hfd];show kn N E z::_=kn N E z::_;congr 1;exact i9 h _ _ _ (λx hx=>i1 x (Er.mp hx).1) (Eo _) (by omega)
    ·simp only[Et,FX];omega
   ·have hd:ef N E left z=false:=by
     rw[←Gr];exact λz'=>cd (by rw[hX.mpr z'];rfl)
    lia
    refine⟨(),by cbv,?_⟩;rw[hP,E9 (Eg.mp hz).1,Fk,(Eg.mp hz).2,hd]
  ·exfalso;rw[Ej,F7]at hP;obtain⟨z,hz,hd⟩:=mw h i1 hne;have:=GL.mpr ⟨z,hz,hd⟩;rw[hP]at this;cases this
 ·have hem:left=[]:=FP.mp hc;subst hem
  lia
  have e:found=fe N E N.length N:=by rw[←i2];exact(EB _).symm
  rw[e];exact q
theorem lD{ns:List Int}{k:Int}(hn:ns.length<=1000)(h1:0<=k)(h2:k<=1000000){Q:T->Prop}(q:∀f,Q (fT f)):W1 (gc [.li (ns.map .int),.im (.int k)]) Q:=by
 refine Iw [some ⟨.vw none none,.li (ns.map .int)⟩,some ⟨.ow,.im (.int k)⟩,none,none] rfl rfl rfl ?_;unfold iB
 lia
 refine WS.mono (Q:=λfl O=>fl=.nx/\∃cell:Int,O=[some ⟨.vw none none,.li (ns.map .int)⟩,some ⟨.ow,.im (.int k)⟩,some ⟨.ow,.im (.int cell)⟩,none]) ?_ ?_
 ·(refine bI ?_;lia;clear_value hk)
  ·rw[Ej]at hk
   lia
   refine bj (ns:=ns) h1 hk λy hy _=>?_
   lia
   exact⟨by trivial,y,by first|trivial|cbv⟩
  ·(refine bI ?_;lia;clear_value hl)
   ·rw[Ej]at hl
    lia
    rw[Ej];refine tm (by omega) ?_
    lia
    refine bj (ns:=ns) (FW _ (by omega)) (FJ _ (by omega)) λy hy _=>?_
    lia
    exact⟨by trivial,_,by first|trivial|cbv⟩
   ·lia
    exact⟨by trivial,_,by first|trivial|cbv⟩
 rintro fl O ⟨rfl,cell,rfl⟩
 lia
 refine WS.mono (Q:=λfl O=>fl=.nx/\∃own:Int,O=[some ⟨.vw none none,.li (ns.map .int)⟩,some ⟨.ow,.im (.int k)⟩,some ⟨.ow,.im (.int cell)⟩,some ⟨.ow,.im (.int own)⟩]) ?_ ?_
 ·refine bI ?_
  lia
  refine yv ⟨by omega,by omega,by decide⟩ ?_
  lia
  clear_value hc
  ·lia
   exact⟨by trivial,_,by first|trivial|cbv⟩
  ·lia
   exact⟨by trivial,_,by first|trivial|cbv⟩
 rintro fl O ⟨rfl,own,rfl⟩
 lia
 have m0:=FW cell (show(2147483629:Int)≠0 by omega);have m1:=FJ cell (show(0:Int)<2147483629 by omega);refine yv ⟨by omega,by omega,by omega⟩ ?_
 lia
 exact q (own,_)
theorem kK{α β:Type}{f : α->β}:∀{l:List α} {n:Nat},(l.map f).eraseIdx n=(l.eraseIdx n).map f
 | [],n=>by rw[FB,Gn,Gn,FB]
 | a::l,0=>rfl
 | a::l,n+1=>by rw[Ek,Fn,Fn,Ek,kK]
theorem pI{f:Int×Int}{m:Nat}(hm:m<=1000){Q:T->T->Prop}(q:∀(js:List Nat) f',(∀j∈js,j<m)->js.length<=m->Q (.im (tNs js)) (fT f')):W2 (ed [fT f,.im (.int m)]) Q:=by
 refine II [some ⟨.io 0,fT f⟩,some ⟨.ow,.im (.int m)⟩,none,none,none,none,none] rfl rfl rfl ?_;unfold dX
 lia
 refine aq (by omega) (by omega) λfm f fm0 fm1=>?_;ac_nf
 lia
 refine z6 (by omega) ?_;rw[ES]
 lia
 refine cN (λs:(Int×Int)×List Nat×List Nat=>[some ⟨.io 0,fT s.1⟩,some ⟨.ow,.im (.int m)⟩,some ⟨.ow,.im (.int fm)⟩,some ⟨.ow,.li (s.2.1.map λj:Nat=>I.int (j:Int))⟩,some ⟨.ow,.li (s.2.2.map λj:Nat=>I.int (j:Int))⟩,none,none]) (λj s=>s.2.1.length+j=m/\s.2.2.length<=j/\(∀x∈s.2.1,x<m)/\∀x∈s.2.2,x<m) ?_
 lia
 refine⟨⟨by omega,by omega⟩,(f,EU m,[]),by cbv,⟨by simp,by simp,λx hx=>Fi.mp hx,by simp⟩,λj s hj hP=>?_,λs hP=>?_⟩
 ·obtain⟨f,left,found⟩:=s;obtain⟨p1,p2,p3,p4⟩:=hP;dsimp only at p1 p2 p3 p4⊢
  lia
  rw[Ej];refine aq (by omega) (by omega) λi f i0 i1=>?_;ac_nf
  lia
  have hil:i.toNat<left.length:=by omega
  have hx:(left.map λj:Nat=>I.int (j:Int))[i.toNat]?=some (I.int (left[i.toNat]:Nat)):=by simp[hil]
  refine wA i0 (by omega) hx ?_;rw[kK];have hxm:left[i.toNat]<m:=p3 _ (G3 hil);have hl1:(left.eraseIdx i.toNat).length+(j+1)=m:=by rw[List.length_eraseIdx_of_lt hil];omega
  have hl3:∀x∈left.eraseIdx i.toNat,x<m:=λx hx=>p3 x (List.mem_of_mem_eraseIdx hx);ac_nf
  lia
  refine bI ?_
  lia
  clear_value c1
  ·lia
   refine spT ?_
   lia
   refine bc (is:=found.map λj:Nat=>I.int (j:Int)) (i:=.int (left[i.toNat]:Nat)) (by simp;rw[Ji];omega) ?_;ac_nf
   lia
   refine⟨(f,left.eraseIdx i.toNat,found++[left[i.toNat]]),?_,hl1,by simp;omega,hl3,aW p4 hxm⟩;dsimp only;rw[Es];try cbv
  ·lia
   refine aq (by omega) (by omega) λd f d0 d1=>?_;ac_nf
   lia
   clear_value c2
   ·lia
    refine bc (is:=found.map λj:Nat=>I.int (j:Int)) (i:=.int (left[i.toNat]:Nat)) (by simp;rw[Ji];omega) ?_;ac_nf
    lia
    refine⟨(f,left.eraseIdx i.toNat,found++[left[i.toNat]]),?_,hl1,by simp;omega,hl3,aW p4 hxm⟩;dsimp only;rw[Es];try cbv
   ·lia
    exact⟨(f,left.eraseIdx i.toNat,found),by cbv,hl1,by show found.length<=j+1;omega,hl3,p4⟩
 ·obtain⟨f,left,found⟩:=s;obtain⟨p1,p2,p3,p4⟩:=hP;dsimp only at p1 p2 p3 p4⊢
  lia
  exact q found f p4 (by simpa using p2)
theorem y4{w wh:Int}{ds:List (Str×Ru)}(h:lj 10 w wh ds){js:List Nat}(hj:∀j∈js,j<(SL ds).length):EIn (ds.map (·.1)) (eds ds js):=by
 obtain⟨a1,a2,a3,a4,a5,a6,a7,a8,n,a9,a10⟩:=h;intro e he;obtain⟨j,hjm,rfl⟩:=Ev.mp he;have hlt:=hj j hjm;have hg:(SL ds)[j]?=some (SL ds)[j]:=by simp[hlt]
 have hm:(SL ds)[j]∈SL ds:=G3 hlt;have he':eAt ds j=((SL ds)[j].1,(SL ds)[j].2.1):=by unfold eAt;rw[hg]
 rw[he'];generalize (SL ds)[j]=x at hm;unfold SL at hm;obtain⟨d,hd,hx⟩:=Fc.mp hm;obtain⟨p,hp,rfl⟩:=Ev.mp hx;exact⟨Ev.mpr ⟨d,hd,rfl⟩,((a10 d hd).2.2.1 _ (wj (wg hp))).1⟩
theorem rO{ds:List (Str×Ru)}(hd:ds.length<=6)(hl:∀p∈ds,p.2.leaves.length<=22):(SL ds).length<=132:=by
 have h1:=gT hl;rw[oZ,Ej]at h1;omega
theorem zT{is js:List I}{Q:T->Prop}(h:I.doks is=true/\I.doks js=true/\I.deps is<=50)(q:Q (.im (.bl (decide (is=js))))):W1 (eqT (.im (.tup is)) (.im (.tup js))) Q:=⟨_,by simp only[eqT,eqB,eqI];rw[if_pos h];rfl,q⟩
theorem mP{N:List Str}{E:List (Str×Str)}:∀{n:Nat} {left:List Str},(fe N E n left).length<=n
 | 0,_=>Eo _
 | n+1,left=>by
  rw[fe];split;exact Fd _;rw[Ey];exact HR mP
theorem oE{w wh:Int}{ds:List (Str×Ru)}{js:List Nat}(h:lj 10 w wh ds)(hj:∀j∈js,j<(SL ds).length)(hjs:js.length<=200){Q:T->Prop}(q:Q (.im (.bl true))):W1 (fj [.im (aY w wh ds),.im (tNs js)]) Q:=by
 have hin:=y4 h hj;obtain⟨a1,a2,a3,a4,a5,a6,a7,a8,n,a9,a10⟩:=id h;have hlv:∀p∈ds,p.2.leaves.length<=10:=λp hp=>(a10 p hp).2.1;have hNl:(ds.map (·.1)).length=ds.length:=Ej _;refine Iw [some ⟨.ow,.im (aY w wh ds)⟩,some ⟨.ow,.im (tNs js)⟩,none,none,none] rfl rfl rfl ?_;unfold dq
 lia
 refine cT (λ_:Unit=>[some ⟨.ow,.im (aY w wh ds)⟩,some ⟨.ow,.im (tNs js)⟩,none,none,none]) I.str (λk _ l=>l=(ds.take k).map (·.1)) ?_;rw[aY]
 lia
 refine⟨ds.map fM,rfl,by simp;rw[Ji];omega,by cbv,(),by cbv,rfl,λk x _ l hx hP=>?_,λ_ l hP=>?_⟩
 ·obtain⟨d,hd',rfl⟩:=az hx;rw[fM]
  lia
  exact⟨d.1,(),rfl,by cbv,by rw[hP,av hd',Es];rfl⟩
 rw[Ej,EO]at hP;subst hP
 lia
 refine kT (w:=w) (wh:=wh) a6 a7 (λp hp=>by have:=hlv p hp;omega) ?_;rw[oZ]
 lia
 refine sC (w:=w) (wh:=wh) a6 a7 (λp hp=>by have:=hlv p hp;omega) hj (by omega) hin ?_;have hkl:(fe (ds.map (·.1)) (eds ds js) ds.length (ds.map (·.1))).length<=6:=ER mP a6;have hSl:=rO a6 (λp hp=>by have:=hlv p hp;omega);generalize hKS:fe (ds.map (·.1)) (eds ds js) ds.length (ds.map (·.1))=KS at hkl
 lia
 refine bI ?_
 lia
 refine spF ?_
 lia
 refine cT (λ_:Unit=>[some ⟨.ow,.im (aY w wh ds)⟩,some ⟨.ow,.im (tNs js)⟩,some ⟨.ow,.li ((ds.map (·.1)).map .str)⟩,some ⟨.ow,.li ((SL ds).map λq=>aV q.1 q.2)⟩,some ⟨.ow,.im (.tup (KS.map tKn))⟩]) (λ_:Unit=>I.bl true) (λk _ l=>l.length=k) ?_
 lia
 refine⟨KS.map tKn,rfl,by simp;rw[Ji];omega,by cbv,(),by cbv,rfl,λk x _ l hx hP=>?_,λ_ l hP=>?_⟩
 ·obtain⟨y,hy,rfl⟩:=az hx
  lia
  exact⟨(),(),rfl,by cbv,by simp[hP]⟩
 lia
 refine sT ?_
 lia
 refine spF ?_
 lia
 refine cT (λ_:Unit=>[some ⟨.ow,.im (aY w wh ds)⟩,some ⟨.ow,.im (tNs js)⟩,some ⟨.ow,.li ((ds.map (·.1)).map .str)⟩,some ⟨.ow,.li ((SL ds).map λq=>aV q.1 q.2)⟩,some ⟨.ow,.im (.tup (KS.map tKn))⟩]) tEd (λk _ l=>l=eds ds (js.take k)) ?_
 lia
 refine⟨js.map λj:Nat=>I.int (j:Int),rfl,by simp;rw[Ji];omega,by cbv,(),by cbv,rfl,λk x _ l hx hP=>?_,λ_ l hP=>?_⟩
 ·obtain⟨j,hj',rfl⟩:=az hx;have hlt:=hj j (ymG hj');have hg:(SL ds)[j]?=some (SL ds)[j]:=by simp[hlt]
  have he:eAt ds j=((SL ds)[j].1,(SL ds)[j].2.1):=by unfold eAt;rw[hg]
  lia
  refine ga (emb:=λq:Str×Str×List Int=>aV q.1 q.2) (ns:=SL ds) (by omega) (by omega) λy hy=>?_;have ey:y=(SL ds)[j]:=by
   have hy':(SL ds)[j]?=some y:=by simpa using hy
   rw[hg]at hy';cases hy';rfl
  subst ey
  lia
  refine mQ (is:=[.str (SL ds)[j].1,.str (SL ds)[j].2.1,.tup ((SL ds)[j].2.2.map .int)]) (show ¬((0:Nat)=0/\2=3) by decide) ?_
  lia
  refine⟨eAt ds j,(),?_,by cbv,by rw[hP,av hj'];unfold eds;rw[Es];rfl⟩;rw[he];rfl
 rw[Ej,EO]at hP;subst hP
 lia
 have hE:(eds ds js).length<=1000:=by unfold eds;rw[Ej];omega
 refine wb hin a7 (by omega) hE ?_;rw[hNl,hKS]
 lia
 refine zT ⟨(eT _).1,(eT _).1,(eT _).2⟩ ?_;rw[decide_eq_true rfl]
 lia
 exact q
theorem k16_law{ns:List Int}(hn:ns.length<=63):W1 (r_l_law_v7 [.li (ns.map .int)]) λt=>t=.im (.bl true):=by
 refine Iw [some ⟨.vw none none,.li (ns.map .int)⟩,none,none,none,none,none] rfl rfl rfl ?_;unfold e8
 lia
 refine lD (ns:=ns) (by omega) (by omega) (by omega) λf=>?_
 lia
 refine so λw wh ds f hH=>?_;obtain⟨a1,a2,a3,a4,a5,a6,a7,a8,n,a9,a10⟩:=id hH;have hlv:∀p∈ds,p.2.leaves.length<=10:=λp hp=>(a10 p hp).2.1;have hSl:=rO a6 (λp hp=>by have:=hlv p hp;omega);ac_nf
 lia
 refine kT (w:=w) (wh:=wh) a6 a7 (λp hp=>by have:=hlv p hp;omega) ?_;rw[oZ]
 lia
 rw[Ej]
 lia
 refine lD (ns:=ns) (by omega) (by omega) (by omega) λf1=>?_
 lia
 refine pI (m:=(SL ds).length) (by omega) λjs1 f1 hj1 hl1=>?_
 lia
 refine lD (ns:=ns) (by omega) (by omega) (by omega) λf2=>?_
 lia
 refine pI (m:=(SL ds).length) (by omega) λjs2 f2 hj2 hl2=>?_
 lia
 refine cT (λ_:Unit=>[some ⟨.vw none none,.li (ns.map .int)⟩,some ⟨.ow,fT f⟩,some ⟨.ow,.im (aY w wh ds)⟩,some ⟨.ow,.im (.int (SL ds).length)⟩,some ⟨.ow,.im (tNs js1)⟩,some ⟨.ow,.im (tNs js2)⟩]) (λ_:Unit=>I.bl true) (λk _ l=>l.length=k) ?_
 lia
 refine Ab (by omega) ?_;rw[ES]
 lia
 refine⟨[js1,EU (SL ds).length,js2,[],js1].map tNs,rfl,by simp;rw[Ji];omega,by cbv,(),by cbv,rfl,λk x _ l hx hP=>?_,λ_ l hP=>?_⟩
 ·obtain⟨js,hy,rfl⟩:=az hx;have hjs:(∀j∈js,j<(SL ds).length)/\js.length<=200:=by
   have hm:=ymG hy;simp only[E8,FR,or_false]at hm;rcases hm with rfl|rfl|rfl|rfl|rfl;exact⟨hj1,by omega⟩;exact⟨λj hj=>Fi.mp hj,by rw[HK];omega⟩;exact⟨hj2,by omega⟩;exact⟨by simp,by simp⟩;exact⟨hj1,by omega⟩
  lia
  refine oE hH hjs.1 hjs.2 ?_
  lia
  exact⟨(),(),rfl,by cbv,by simp[hP]⟩
 ·lia
  refine sT ?_
  lia
  try rfl
end L2
namespace K16
open PySem PySem.Spec PyProof.Rows L2
local macro_rules|`(tactic| exfalso)=>`(tactic| exact⟨rfl,rfl,rfl,by decide +kernel,rfl,by decide +kernel,by decide +kernel⟩)
structure Adr(mg:Str->Option Jd)(K:yF):Prop where
 d0:Iu K mg "_law_feed" gj ["_law_script","_law_k"]
 d1:Iu K mg "_law_take" gl ["_law_feed_here","_law_many"]
 d2:Iu K mg "_law_turned_row" cz ["_law_row_here","_law_way","_law_signs"]
 d3:Iu K mg "_law_row" hV ["_law_feed_here","_law_ways"]
 d4:Iu K mg "_law_opposed_reads" bL ["_law_feed_here","_law_ways","_law_many"]
 d5:Iu K mg "_law_free_reads" cw ["_law_feed_here","_law_ways","_law_many"]
 d6:Iu K mg "_law_back_row" cZ ["_law_feed_here","_law_ways"]
 d7:Iu K mg "_law_late_reads" cx ["_law_feed_here","_law_ways","_law_many"]
 d8:Iu K mg "_law_ring_reads" cy ["_law_feed_here","_law_ways","_law_many"]
 d9:Iu K mg "_law_reads" fB ["_law_feed_here"]
 d10:Iu K mg "_law_names" fA ["_law_feed_here","_law_many"]
 d11:Iu K mg "_law_grown" fv ["_law_feed_here","_law_leaves"]
 d12:Iu K mg "_law_house" fw ["_law_feed_here"]
 d13:Iu K mg "_law_some" gk ["_law_feed_here","_law_many"]
 d14:Iu K mg "_law_reads_of" da ["_law_rule"]
 d15:Iu K mg "_law_steps" fE ["_law_house_here"]
 d16:Iu K mg "inner_parts" eG ["part"]
 d17:Iu K mg "parts_of" ib ["rule"]
 d18:Iu K mg "reads" l3 ["rule"]
 d19:Iu K mg "desk_steps" fF ["name","rule"]
 d20:Iu K mg "steps_of" ic ["house"]
 d21:Iu K mg "step_ends" gm ["house","some"]
 d22:Iu K mg "reached_from" dN ["name","ends"]
 d23:Iu K mg "loose_knots" eH ["names","ends"]
 d24:Iu K mg "is_due" j7 ["knot","told","ends"]
 d25:Iu K mg "knots_of" hW ["house","some"]
 d26:Iu K mg "_law_leads" fz ["_law_names_here","_law_steps_here"]
 d27:Iu K mg "_law_due" hU ["_law_names_here","_law_steps_here"]
 d28:Iu K mg "_law_right" fD ["_law_house_here","_law_some_here"]
 d29:Iu K mg "law" s_law ["_law_script"]
 T:Bi mg
 G:GT K mg
theorem adr_less(mg:Str->Option Jd)(K:yF)(a:Addr)(A:Adr mg K)(l:IZ K a):Adr mg (less K a):=
 ⟨A.d0.less l,A.d1.less l,A.d2.less l,A.d3.less l,A.d4.less l,A.d5.less l,A.d6.less l,A.d7.less l,A.d8.less l,A.d9.less l,A.d10.less l,A.d11.less l,A.d12.less l,A.d13.less l,A.d14.less l,A.d15.less l,A.d16.less l,A.d17.less l,A.d18.less l,A.d19.less l,A.d20.less l,A.d21.less l,A.d22.less l,A.d23.less l,A.d24.less l,A.d25.less l,A.d26.less l,A.d27.less l,A.d28.less l,A.d29.less l,A.T,⟨trivial⟩⟩
noncomputable abbrev pm0:Jd:=(vs "law_clockhouse_k16_knots_in_their_order" 270)
noncomputable abbrev pm1:Jd:=(vs "clockhouse.rules" 187)
noncomputable abbrev pm2:Jd:=(vs "clockhouse.houses" 212)
noncomputable abbrev pm3:Jd:=(vs "clockhouse.knots" 232)
noncomputable def KF(P:NJ):yF:=[(3,oD [(eO P "__name__" 165 (vs "law_clockhouse_k16_knots_in_their_order" 270)),(eO P "__doc__" 166 .none),(eO P "__package__" 167 .none),(eO P "__loader__" 168 (Nw "__main__.__loader__#opaque")),(eO P "__spec__" 169 .none),(eO P "__annotations__" 170 (vr 6)),(eO P "__builtins__" 171 (vr 4)),(eO P "__file__" 173 (vs "/claim/cut.py" 172)),(eO P "__cached__" 174 .none),(eO P "inner_parts" 195 (vr 21)),(eO P "parts_of" 205 (vr 28)),(eO P "reads" 211 (vr 33)),(eO P "desk_steps" 225 (vr 40)),(eO P "steps_of" 231 (vr 45)),(eO P "step_ends" 239 (vr 50)),(eO P "reached_from" 251 (vr 57)),(eO P "loose_knots" 257 (vr 62)),(eO P "is_due" 263 (vr 67)),(eO P "knots_of" 269 (vr 72)),(eO P "_law_feed" 281 (vr 79)),(eO P "_law_take" 291 (vr 86)),(eO P "_law_names" 297 (vr 91)),(eO P "_law_row" 303 (vr 96)),(eO P "_law_back_row" 309 (vr 101)),(eO P "_law_free_reads" 315 (vr 106)),(eO P "_law_late_reads" 321 (vr 111)),(eO P "_law_turned_row" 332 (vr 118)),(eO P "_law_opposed_reads" 338 (vr 123)),(eO P "_law_ring_reads" 344 (vr 128)),(eO P "_law_reads" 355 (vr 135)),(eO P "_law_grown" 366 (vr 142)),(eO P "_law_house" 372 (vr 147)),(eO P "_law_reads_of" 381 (vr 154)),(eO P "_law_steps" 393 (vr 161)),(eO P "_law_some" 406 (vr 168)),(eO P "_law_leads" 419 (vr 175)),(eO P "_law_due" 425 (vr 180)),(eO P "_law_right" 431 (vr 185)),(eO P "law" 437 (vr 190))] 39),
 (79,oF "_law_feed" gj pm0 78),
 (78,oc "_law_feed" 272 63 2 73 (some (75,76)) 77 279),
 (86,oF "_law_take" gl pm0 85),
 (85,oc "_law_take" 282 73 2 80 (some (82,83)) 84 289),
 (118,oF "_law_turned_row" cz pm0 117),
 (117,oc "_law_turned_row" 322 117 3 112 (some (114,115)) 116 330),
 (96,oF "_law_row" hV pm0 95),
 (95,oc "_law_row" 298 94 2 92 none 94 301),
 (123,oF "_law_opposed_reads" bL pm0 122),
 (122,oc "_law_opposed_reads" 333 122 3 119 none 121 336),
 (106,oF "_law_free_reads" cw pm0 105),
 (105,oc "_law_free_reads" 310 102 3 102 none 104 313),
 (101,oF "_law_back_row" cZ pm0 100),
 (100,oc "_law_back_row" 304 98 2 97 none 99 307),
 (111,oF "_law_late_reads" cx pm0 110),
 (110,oc "_law_late_reads" 316 108 3 107 none 109 319),
 (128,oF "_law_ring_reads" cy pm0 127),
 (127,oc "_law_ring_reads" 339 136 3 124 none 126 342),
 (135,oF "_law_reads" fB pm0 134),
 (134,oc "_law_reads" 345 148 1 129 (some (131,132)) 133 353),
 (91,oF "_law_names" fA pm0 90),
 (90,oc "_law_names" 292 81 2 87 none 89 295),
 (142,oF "_law_grown" fv pm0 141),
 (141,oc "_law_grown" 356 160 2 136 (some (138,139)) 140 364),
 (147,oF "_law_house" fw pm0 146),
 (146,oc "_law_house" 367 171 1 143 none 145 370),
 (168,oF "_law_some" gk pm0 167),
 (167,oc "_law_some" 394 199 2 162 (some (164,165)) 166 404),
 (154,oF "_law_reads_of" da pm0 153),
 (153,oc "_law_reads_of" 373 183 1 148 (some (150,151)) 152 379),
 (161,oF "_law_steps" fE pm0 160),
 (160,oc "_law_steps" 382 192 1 155 (some (157,158)) 159 391),
 (21,oF "inner_parts" eG pm1 20),
 (20,oc "inner_parts" 189 2 1 15 (some (17,18)) 19 193),
 (28,oF "parts_of" ib pm1 27),
 (27,oc "parts_of" 196 8 1 22 (some (24,25)) 26 203),
 (33,oF "reads" l3 pm1 32),
 (32,oc "reads" 206 16 1 29 none 31 209),
 (40,oF "desk_steps" fF pm2 39),
 (39,oc "desk_steps" 214 19 2 34 (some (36,37)) 38 223),
 (45,oF "steps_of" ic pm2 44),
 (44,oc "steps_of" 226 26 1 41 none 43 229),
 (50,oF "step_ends" gm pm3 49),
 (49,oc "step_ends" 234 29 2 46 none 48 237),
 (57,oF "reached_from" dN pm3 56),
 (56,oc "reached_from" 240 32 2 51 (some (53,54)) 55 249),
 (62,oF "loose_knots" eH pm3 61),
 (61,oc "loose_knots" 252 41 2 58 none 60 255),
 (67,oF "is_due" j7 pm3 66),
 (66,oc "is_due" 258 49 3 63 none 65 261),
 (72,oF "knots_of" hW pm3 71),
 (71,oc "knots_of" 264 51 2 68 none 70 267),
 (175,oF "_law_leads" fz pm0 174),
 (174,oc "_law_leads" 407 208 2 169 (some (171,172)) 173 417),
 (180,oF "_law_due" hU pm0 179),
 (179,oc "_law_due" 420 218 2 176 none 178 423),
 (185,oF "_law_right" fD pm0 184),
 (184,oc "_law_right" 426 230 2 181 none 183 429),
 (190,oF "law" s_law pm0 189),
 (189,oc "law" 432 237 1 186 none 188 435)]
noncomputable def KL:List Str:=["inner_parts","parts_of","reads","desk_steps","steps_of","step_ends","reached_from","loose_knots","is_due","knots_of","_law_feed","_law_take","_law_names","_law_row","_law_back_row","_law_free_reads","_law_late_reads","_law_turned_row","_law_opposed_reads","_law_ring_reads","_law_reads","_law_grown","_law_house","_law_reads_of","_law_steps","_law_some","_law_leads","_law_due","_law_right"].map JF
noncomputable def KH:PySem.W.Hook:=PySem.W.kHook KF [3,79,78,86,85,118,117,96,95,123,122,106,105,101,100,111,110,128,127,135,134,91,90,142,141,147,146,168,167,154,153,161,160,21,20,28,27,33,32,40,39,45,44,50,49,57,56,62,61,67,66,72,71,175,174,180,179,185,184,190,189] (λ_=>rfl)
noncomputable def KQ:Jq:=PySem.W.view PySem.Challenge.pw_clockhouse_k16_knots_in_their_order [33]
theorem left:PySem.W.LeftO PySem.Challenge.pw_clockhouse_k16_knots_in_their_order KQ KL (λs=>PySem.W.xlAt KQ [] s&&PySem.W.recOk [] s) KH.obs KH.val 4000:=λw=>by rfl'
theorem adr0(w:JB)(mg:Str->Option Jd)(h:Heap)(X:(KF w.params).In h)(G:h.Ns JH mg):Adr mg (KF w.params):=
 ⟨Iu.mkO X G 79 pm0 78 (by2 λ_ _ _ _ _ _ _ _=>rfl),
   Iu.mkO X G 86 pm0 85 (by2 λ_ _ _ _ _ _ _ _=>rfl),
   Iu.mkO X G 118 pm0 117 (by3 λ_ _ _ _ _ _ _ _ _=>rfl),
   Iu.mkO X G 96 pm0 95 (by2 λ_ _ _ _ _ _ _ _=>rfl),
   Iu.mkO X G 123 pm0 122 (by3 λ_ _ _ _ _ _ _ _ _=>rfl),
   Iu.mkO X G 106 pm0 105 (by3 λ_ _ _ _ _ _ _ _ _=>rfl),
   Iu.mkO X G 101 pm0 100 (by2 λ_ _ _ _ _ _ _ _=>rfl),
   Iu.mkO X G 111 pm0 110 (by3 λ_ _ _ _ _ _ _ _ _=>rfl),
   Iu.mkO X G 128 pm0 127 (by3 λ_ _ _ _ _ _ _ _ _=>rfl),
   Iu.mkO X G 135 pm0 134 (by1 λ_ _ _ _ _ _ _=>rfl),
   Iu.mkO X G 91 pm0 90 (by2 λ_ _ _ _ _ _ _ _=>rfl),
   Iu.mkO X G 142 pm0 141 (by2 λ_ _ _ _ _ _ _ _=>rfl),
   Iu.mkO X G 147 pm0 146 (by1 λ_ _ _ _ _ _ _=>rfl),
   Iu.mkO X G 168 pm0 167 (by2 λ_ _ _ _ _ _ _ _=>rfl),
   Iu.mkO X G 154 pm0 153 (by1 λ_ _ _ _ _ _ _=>rfl),
   Iu.mkO X G 161 pm0 160 (by1 λ_ _ _ _ _ _ _=>rfl),
   Iu.mkO X G 21 pm1 20 (by1 λ_ _ _ _ _ _ _=>rfl),
   Iu.mkO X G 28 pm1 27 (by1 λ_ _ _ _ _ _ _=>rfl),
   Iu.mkO X G 33 pm1 32 (by1 λ_ _ _ _ _ _ _=>rfl),
   Iu.mkO X G 40 pm2 39 (by2 λ_ _ _ _ _ _ _ _=>rfl),
   Iu.mkO X G 45 pm2 44 (by1 λ_ _ _ _ _ _ _=>rfl),
   Iu.mkO X G 50 pm3 49 (by2 λ_ _ _ _ _ _ _ _=>rfl),
   Iu.mkO X G 57 pm3 56 (by2 λ_ _ _ _ _ _ _ _=>rfl),
   Iu.mkO X G 62 pm3 61 (by2 λ_ _ _ _ _ _ _ _=>rfl),
   Iu.mkO X G 67 pm3 66 (by3 λ_ _ _ _ _ _ _ _ _=>rfl),
   Iu.mkO X G 72 pm3 71 (by2 λ_ _ _ _ _ _ _ _=>rfl),
   Iu.mkO X G 175 pm0 174 (by2 λ_ _ _ _ _ _ _ _=>rfl),
   Iu.mkO X G 180 pm0 179 (by2 λ_ _ _ _ _ _ _ _=>rfl),
   Iu.mkO X G 185 pm0 184 (by2 λ_ _ _ _ _ _ _ _=>rfl),
   Iu.mkO X G 190 pm0 189 (by1 λ_ _ _ _ _ _ _=>rfl),
   ⟨bN X G,bN X G,bN X G,bN X G,bN X G,bN X G,bN X G,bN X G,bN X G,bN X G,bN X G,bN X G,bN X G,bN X G,bN X G,bN X G,bN X G,bN X G,bN X G,bN X G,bN X G⟩,⟨trivial⟩⟩
theorem c0:Is ["_law_script","_law_k","_law_cell","_law_own"] ["_law_script","_law_k"] (ai gj):=by exfalso
theorem c1:Is ["_law_feed_here","_law_many","_law_digit","_law_one"] ["_law_feed_here","_law_many"] (ai gl):=by exfalso
theorem c2:Is ["_law_row_here","_law_way","_law_signs","_law_found","_law_k"] ["_law_row_here","_law_way","_law_signs"] (ai cz):=by exfalso
theorem c3:Is ["_law_feed_here","_law_ways"] ["_law_feed_here","_law_ways"] (ai hV):=by exfalso
theorem c4:Is ["_law_feed_here","_law_ways","_law_many","_law_far","_law_some_here","_law_way","_law_signs","_law_looks","_law_x","_law_other","_law_row_here"] ["_law_feed_here","_law_ways","_law_many"] (ai bL):=by exfalso
theorem c5:Is ["_law_feed_here","_law_ways","_law_many","_law_looks","_law_x","_law_k"] ["_law_feed_here","_law_ways","_law_many"] (ai cw):=by exfalso
theorem c6:Is ["_law_feed_here","_law_ways","_law_at","_law_more"] ["_law_feed_here","_law_ways"] (ai cZ):=by exfalso
theorem c7:Is ["_law_feed_here","_law_ways","_law_many","_law_looks","_law_x","_law_k"] ["_law_feed_here","_law_ways","_law_many"] (ai cx):=by exfalso
theorem c8:Is ["_law_feed_here","_law_ways","_law_many","_law_looks","_law_long","_law_rest","_law_k","_law_row_here"] ["_law_feed_here","_law_ways","_law_many"] (ai cy):=by exfalso
theorem c9:Is ["_law_feed_here","_law_form","_law_wide","_law_ways","_law_many"] ["_law_feed_here"] (ai fB):=by exfalso
theorem c10:Is ["_law_feed_here","_law_many","_law_letters","_law_stem","_law_first","_law_at","_law_found","_law_k","_law_name"] ["_law_feed_here","_law_many"] (ai fA):=by exfalso
theorem c11:Is ["_law_feed_here","_law_leaves","_law_found","_law_at","_law_sign"] ["_law_feed_here","_law_leaves"] (ai fv):=by exfalso
theorem c12:Is ["_law_feed_here","_law_ways","_law_looks","_law_wheel","_law_names_here","_law_desks","_law_x","_law_leaves","_law_k","_law_number"] ["_law_feed_here"] (ai fw):=by exfalso
theorem c13:Is ["_law_feed_here","_law_many","_law_form","_law_left","_law_found","_law_k","_law_one"] ["_law_feed_here","_law_many"] (ai gk):=by exfalso
theorem c14:Is ["_law_rule","_law_found","_law_part"] ["_law_rule"] (ai da):=by exfalso
theorem c15:Is ["_law_house_here","_law_found","_law_name","_law_rule","_law_other","_law_row_here"] ["_law_house_here"] (ai fE):=by exfalso
theorem c16:Is ["part"] ["part"] (ai eG):=by exfalso
theorem c17:Is ["rule","parts","due","part"] ["rule"] (ai ib):=by exfalso
theorem c18:Is ["rule"] ["rule"] (ai l3):=by exfalso
theorem c19:Is ["name","rule","steps","other","row","step"] ["name","rule"] (ai fF):=by exfalso
theorem c20:Is ["house"] ["house"] (ai ic):=by exfalso
theorem c21:Is ["house","some","steps"] ["house","some"] (ai gm):=by exfalso
theorem c22:Is ["name","ends","reached","at","own","other"] ["name","ends"] (ai dN):=by exfalso
theorem c23:Is ["names","ends","reached","knots","name","knot"] ["names","ends"] (ai eH):=by exfalso
theorem c24:Is ["knot","told","ends"] ["knot","told","ends"] (ai j7):=by exfalso
theorem c25:Is ["house","some","ends","left","knots","told","knot"] ["house","some"] (ai hW):=by exfalso
theorem c26:Is ["_law_names_here","_law_steps_here","_law_found","_law_name","_law_turn","_law_one","_law_other"] ["_law_names_here","_law_steps_here"] (ai fz):=by exfalso
theorem c27:Is ["_law_names_here","_law_steps_here","_law_leads_here","_law_left","_law_found","_law_name","_law_knot"] ["_law_names_here","_law_steps_here"] (ai hU):=by exfalso
theorem c28:Is ["_law_house_here","_law_some_here","_law_names_here","_law_steps_here","_law_found"] ["_law_house_here","_law_some_here"] (ai fD):=by exfalso
theorem c29:Is ["_law_script","_law_feed_here","_law_house_here","_law_many","_law_some_here","_law_other"] ["_law_script"] (ai s_law):=by exfalso
local macro_rules|`(tactic| ac_nf)=>`(tactic| first|exact rV|exact CK.blk rV)
local macro_rules|`(tactic| infer_instance)=>`(tactic| first
 | ((with_reducible show QE _ _ _ _);first|exact CB|exact CQ _|exact CN|exact D2|refine D4 (by ac_nf) ?_ ?_|refine CP _ ?_|refine CD _ ?_|refine Ct (by ac_nf) ?_ ?_|refine CO (by ac_nf) ?_ ?_|refine CG (by ac_nf) ?_ ?_|refine CF (by ac_nf) ?_ ?_|refine Ay (by ac_nf) ?_ ?_|refine CJ (by ac_nf) ?_ ?_|refine Cy _ (by ac_nf) (by with_reducible assumption) ?_|refine CA (by ac_nf) (by with_reducible assumption) ?_|refine Cu (by ac_nf) (by with_reducible first|exact b_len|exact b_max|exact b_min|exact b_all) ?_ ?_|refine D7 (by ac_nf) (by with_reducible first|exact b_tuple|exact b_int|exact b_list) ?_ ?_|refine Cz (by ac_nf) (by with_reducible assumption) ?_|refine D6 (by ac_nf) ?_ ?_ ?_|refine CM (by ac_nf) ?_|refine CH _ _ (by ac_nf) (by with_reducible first|exact sJ|exact sK|exact sM|exact wf) ?_ ?_|refine AB _ (by ac_nf) BY ?_|refine AA (by ac_nf) zz ?_ ?_|refine Cv (by ac_nf) ?_ ?_ ?_ (by with_unfolding_all rfl)|refine CC (by ac_nf) (Bi.b_isinstance (by assumption)) (by with_reducible first|exact Bi.b_tuple (by assumption)) (by with_reducible first|exact Gh) (by decide) ?_|exact Cw|refine Ax (by ac_nf) ?_ ?_|refine CL _ _ (by ac_nf) ?_ ?_|refine Az (by ac_nf) ?_ ?_|refine AC (by ac_nf) ?_ ?_|refine D5 ?_ ?_|refine CI ?_)
 | ((with_reducible show QA _ _ _ _);first|exact AD|refine ul _ ?_|refine xc ?_ ?_)
 | ((with_reducible show QSs _ _ _ _);first|exact AJ|exact k7|refine xl _ ?_|refine xj ?_ ?_|refine AK ?_)
 | ((with_reducible show QS _ _ _ _);first|refine AN _ ?_ ?_|refine xi _ ?_ ?_|exact AH|refine AM ?_|refine xk ?_|refine AG ?_ ?_|refine AL _ _ (by ac_nf) ?_ ?_|refine CS ?_ ?_ ?_|refine AI (by ac_nf) (λ_=>M7) ?_ ?_ ?_|refine uq (λ_=>M7) ?_ ?_|refine qs_fgt _ ?_)
 | ((with_reducible show QT _ _ _ _);first|refine AO (by ac_nf) ?_ ?_ ?_ (by with_unfolding_all rfl)|refine AQ ?_|refine AR (by ac_nf) ?_|refine AS ?_|refine QW.t ?_)
 | ((with_reducible show QW _ _ _ _);first|refine AT ?_ ?_|refine CT ?_ ?_|refine xo ?_|refine AU ?_)
 | ((with_reducible show QG _ _ _ _ _);first|refine xf _ ?_|refine up (by ac_nf) (gb ?_ (gb ?_ pB))|refine up (by ac_nf) (gb ?_ (gb ?_ (gb ?_ pB)))|refine AE _ ?_ ?_|refine um _ ?_ ?_|refine uo _ ?_ ?_ ?_)
 | ((with_reducible show QI _ _ _ _ _);first|refine qQ (by ac_nf) ?_ ?_|refine qR (by ac_nf) ?_ ?_|refine AF (by ac_nf) ?_)
 | ((with_reducible show QO _ _ _ _);first|exact xg|refine xh ?_)
 | ((with_reducible show QTs _ _ _ _);first|exact xm|refine xn ?_)
 | ((with_reducible show gM _ _);first|exact DN|exact DO|exact DP|exact DQ|exact DR|exact DS|exact BJ)
 | ((with_reducible show∀_,List.Nodup _);intro _;first|assumption|exact jZ (by rfl'))
 | with_reducible first|assumption|exact Bi.b_all (by assumption)|exact Bi.b_int (by assumption)|exact Bi.b_isinstance (by assumption)|exact Bi.b_len (by assumption)|exact Bi.b_list (by assumption)|exact Bi.b_max (by assumption)|exact Bi.b_min (by assumption)|exact Bi.b_tuple (by assumption))
local macro_rules|`(tactic| lia)=>`(tactic| repeat' (first|infer_instance|fail))
section
variable {P:Jq}{W:JB}{K:yF}{mg:Str->Option Jd}{base:Heap}(A:Adr mg K)
include A
theorem v0:Has P W K mg base 1 "_law_feed" ["_law_script","_law_k"] (spP K gc):=by
 have:=c0.nd;have:=A.T;refine Def.qp A.d0.to c0 (m:=iB) ?_ (λ_=>rfl);unfold iB
 lia
theorem v1:Has P W K mg base 1 "_law_take" ["_law_feed_here","_law_many"] (spI K 0 aj):=by
 have:=c1.nd;have:=A.T;refine Def.qi A.d1.to c1 (m:=iC) ?_ (λ_=>rfl);unfold iC
 lia
theorem v2:Has P W K mg base 1 "_law_turned_row" ["_law_row_here","_law_way","_law_signs"] (spP K cu):=by
 have:=c2.nd;have:=A.T;refine Def.qp A.d2.to c2 (m:=ci) ?_ (λ_=>rfl);unfold ci
 lia
theorem v3:Has P W K mg base 2 "_law_row" ["_law_feed_here","_law_ways"] (spI K 0 jD):=by
 have:=@v1 P W K mg base A;have:=c3.nd;have:=A.T;refine Def.qi A.d3.to c3 (m:=jA) ?_ (λ_=>rfl);unfold jA
 lia
 ·refine bB (N':=["_law_feed_here","_law_ways","_law_k"]) (by ac_nf) (λ_=>Blk.of (by rfl')) ?_ ?_ ?_ ?_<;>lia
theorem v4:Has P W K mg base 3 "_law_opposed_reads" ["_law_feed_here","_law_ways","_law_many"] (spI K 0 cq):=by
 have:=@v1 P W K mg base A;have:=@v2 P W K mg base A;have:=@v3 P W K mg base A;have:=c4.nd;have:=A.T;refine Def.qi A.d4.to c4 (m:=bG) ?_ (λ_=>rfl);unfold bG
 lia
 ·refine bB (N':=["_law_feed_here","_law_ways","_law_many","_law_far","_law_some_here","_law_way","_law_signs","_law_looks","_law_x","_law_other","_law_row_here","_law_k"]) (by ac_nf) (λ_=>Blk.of (by rfl')) ?_ ?_ ?_ ?_<;>lia
 ·refine cG _ (N':=["_law_feed_here","_law_ways","_law_many","_law_far","_law_some_here","_law_way","_law_signs","_law_looks","_law_x","_law_other","_law_row_here"]) (by ac_nf) (λ_=>(by first|assumption|exact jZ (by rfl'))) (λ_=>Blk.of (by rfl')) ?_ ?_ ?_ ?_<;>lia
theorem v5:Has P W K mg base 3 "_law_free_reads" ["_law_feed_here","_law_ways","_law_many"] (spI K 0 dI):=by
 have:=@v1 P W K mg base A;have:=@v3 P W K mg base A;have:=c5.nd;have:=A.T;refine Def.qi A.d5.to c5 (m:=ce) ?_ (λ_=>rfl);unfold ce
 lia
 ·refine cG _ (N':=["_law_feed_here","_law_ways","_law_many","_law_looks","_law_x","_law_k"]) (by ac_nf) (λ_=>(by first|assumption|exact jZ (by rfl'))) (λ_=>Blk.of (by rfl')) ?_ ?_ ?_ ?_<;>lia
theorem v6:Has P W K mg base 2 "_law_back_row" ["_law_feed_here","_law_ways"] (spI K 0 dw):=by
 have:=@v1 P W K mg base A;have:=c6.nd;have:=A.T;refine Def.qi A.d6.to c6 (m:=dm) ?_ (λ_=>rfl);unfold dm
 lia
 ·refine cG _ (N':=["_law_feed_here","_law_ways","_law_at","_law_more","_law_k"]) (by ac_nf) (λ_=>(by first|assumption|exact jZ (by rfl'))) (λ_=>Blk.of (by rfl')) ?_ ?_ ?_ ?_<;>lia
theorem v7:Has P W K mg base 3 "_law_late_reads" ["_law_feed_here","_law_ways","_law_many"] (spI K 0 cn):=by
 have:=@v1 P W K mg base A;have:=@v6 P W K mg base A;have:=c7.nd;have:=A.T;refine Def.qi A.d7.to c7 (m:=cf) ?_ (λ_=>rfl);unfold cf
 lia
 ·refine cG _ (N':=["_law_feed_here","_law_ways","_law_many","_law_looks","_law_x","_law_k"]) (by ac_nf) (λ_=>(by first|assumption|exact jZ (by rfl'))) (λ_=>Blk.of (by rfl')) ?_ ?_ ?_ ?_<;>lia
theorem v8:Has P W K mg base 4 "_law_ring_reads" ["_law_feed_here","_law_ways","_law_many"] (spI K 0 dJ):=by
 have:=@v7 P W K mg base A;have:=@v1 P W K mg base A;have:=c8.nd;have:=A.T;refine Def.qi A.d8.to c8 (m:=cg) ?_ (λ_=>rfl);unfold cg
 lia
 ·refine bB (N':=["_law_feed_here","_law_ways","_law_many","_law_looks","_law_long","_law_rest","_law_k","_law_row_here","_law_j"]) (by ac_nf) (λ_=>Blk.of (by rfl')) ?_ ?_ ?_ ?_<;>lia
 ·refine bB (N':=["_law_feed_here","_law_ways","_law_many","_law_looks","_law_long","_law_rest","_law_k","_law_row_here","_law_j"]) (by ac_nf) (λ_=>Blk.of (by rfl')) ?_ ?_ ?_ ?_<;>lia
 ·refine bB (N':=["_law_feed_here","_law_ways","_law_many","_law_looks","_law_long","_law_rest","_law_k","_law_row_here","_law_number"]) (by ac_nf) (λ_=>Blk.of (by rfl')) ?_ ?_ ?_ ?_<;>lia
 ·refine bB (N':=["_law_feed_here","_law_ways","_law_many","_law_looks","_law_long","_law_rest","_law_k","_law_row_here","_law_j"]) (by ac_nf) (λ_=>Blk.of (by rfl')) ?_ ?_ ?_ ?_<;>lia
theorem v9:Has P W K mg base 5 "_law_reads" ["_law_feed_here"] (spI K 0 jf):=by
 have:=@v1 P W K mg base A;have:=@v5 P W K mg base A;have:=@v7 P W K mg base A;have:=@v8 P W K mg base A;have:=@v4 P W K mg base A;have:=c9.nd;have:=A.T;refine Def.qi A.d9.to c9 (m:=gC) ?_ (λ_=>rfl);unfold gC
 lia
theorem v10:Has P W K mg base 2 "_law_names" ["_law_feed_here","_law_many"] (spI K 0 je):=by
 have:=@v1 P W K mg base A;have:=c10.nd;have:=A.T;refine Def.qi A.d10.to c10 (m:=gB) ?_ (λ_=>rfl);unfold gB
 lia
 ·refine bB (N':=["_law_feed_here","_law_many","_law_letters","_law_stem","_law_first","_law_at","_law_found","_law_k","_law_name"]) (by ac_nf) (λ_=>Blk.of (by rfl')) ?_ ?_ ?_ ?_<;>lia
theorem v11:Has P W K mg base 2 "_law_grown" ["_law_feed_here","_law_leaves"] (spI K 0 jb):=by
 have:=@v1 P W K mg base A;have:=c11.nd;have:=A.T;refine Def.qi A.d11.to c11 (m:=gx) ?_ (λ_=>rfl);unfold gx
 lia
theorem v12:Has P W K mg base 6 "_law_house" ["_law_feed_here"] (spI K 0 jc):=by
 have:=@v9 P W K mg base A;have:=@v1 P W K mg base A;have:=@v10 P W K mg base A;have:=@v11 P W K mg base A;have:=c12.nd;have:=A.T;refine Def.qi A.d12.to c12 (m:=gy) ?_ (λ_=>rfl);unfold gy
 lia
 ·refine cG _ (N':=["_law_feed_here","_law_ways","_law_looks","_law_wheel","_law_names_here","_law_desks","_law_x","_law_leaves","_law_k","_law_number","_law_other","_law_row_here"]) (by ac_nf) (λ_=>(by first|assumption|exact jZ (by rfl'))) (λ_=>Blk.of (by rfl')) ?_ ?_ ?_ ?_<;>lia
theorem v13:Has P W K mg base 2 "_law_some" ["_law_feed_here","_law_many"] (spI K 0 ed):=by
 have:=@v1 P W K mg base A;have:=c13.nd;have:=A.T;refine Def.qi A.d13.to c13 (m:=dX) ?_ (λ_=>rfl);unfold dX
 lia
theorem v14:∀n,Has P W K mg base (1+n) "_law_reads_of" ["_law_rule"] (spP K (cr n))
 | 0=>Def.qp A.d14.to c14 (m:=lM) k7 (λ_=>rfl)
 | n+1=>by
  have h_l_reads_of:=v14 n;have:=c14.nd;have:=A.T;refine Def.qp (k:=1+n) A.d14.to c14 (m:=dn (cr n)) ?_ (λ_=>rfl);unfold dn
  lia
theorem v15:Has P W K mg base 26 "_law_steps" ["_law_house_here"] (spP K gG):=by
 have:=@v14 P W K mg base A 24;have:=c15.nd;have:=A.T;refine Def.qp A.d15.to c15 (m:=gD) ?_ (λ_=>rfl);unfold gD
 lia
theorem v16:Has P W K mg base 1 "inner_parts" ["part"] (spP K cW):=by
 have:=c16.nd;have:=A.T;refine Def.qp A.d16.to c16 (m:=bX) ?_ (λ_=>rfl);unfold bX
 lia
theorem v17:Has P W K mg base 2 "parts_of" ["rule"] (spP K fo):=by
 have:=@v16 P W K mg base A;have:=c17.nd;have:=A.T;refine Def.qp A.d17.to c17 (m:=dt) ?_ (λ_=>rfl);unfold dt
 lia
theorem v18:Has P W K mg base 3 "reads" ["rule"] (spP K jg):=by
 have:=@v17 P W K mg base A;have:=c18.nd;have:=A.T;refine Def.qp A.d18.to c18 (m:=gE) ?_ (λ_=>rfl);unfold gE
 lia
 ·refine bB (N':=["rule","part"]) (by ac_nf) (λ_=>Blk.of (by rfl')) ?_ ?_ ?_ ?_<;>lia
theorem v19:Has P W K mg base 4 "desk_steps" ["name","rule"] (spP K dL):=by
 have:=@v18 P W K mg base A;have:=c19.nd;have:=A.T;refine Def.qp A.d19.to c19 (m:=cj) ?_ (λ_=>rfl);unfold cj
 lia
theorem v20:Has P W K mg base 5 "steps_of" ["house"] (spP K fq):=by
 have:=@v19 P W K mg base A;have:=c20.nd;have:=A.T;refine Def.qp A.d20.to c20 (m:=du) ?_ (λ_=>rfl);unfold du
 lia
 ·refine xa (N':=["house","name","rule","step"]) (by ac_nf) (λ_=>Blk.of (by rfl')) rfl ?_ ?_ ?_ ?_ ?_ ?_<;>lia
theorem v21:Has P W K mg base 6 "step_ends" ["house","some"] (spP K eB):=by
 have:=@v20 P W K mg base A;have:=c21.nd;have:=A.T;refine Def.qp A.d21.to c21 (m:=cM) ?_ (λ_=>rfl);unfold cM
 lia
 ·refine bB (N':=["house","some","steps","number"]) (by ac_nf) (λ_=>Blk.of (by rfl')) ?_ ?_ ?_ ?_<;>lia
theorem v22:Has P W K mg base 1 "reached_from" ["name","ends"] (spP K cI):=by
 have:=c22.nd;have:=A.T;refine Def.qp A.d22.to c22 (m:=bR) ?_ (λ_=>rfl);unfold bR
 lia
theorem v23:Has P W K mg base 2 "loose_knots" ["names","ends"] (spP K cX):=by
 have:=@v22 P W K mg base A;have:=c23.nd;have:=A.T;refine Def.qp A.d23.to c23 (m:=bY) ?_ (λ_=>rfl);unfold bY
 lia
 ·refine xb (N':=["names","ends","reached","knots","name","knot"]) (by ac_nf) (λ_=>Blk.of (by rfl')) ?_ ?_ ?_ ?_ ?_<;>lia
 ·refine bB (N':=["names","ends","reached","knots","name","knot","other"]) (by ac_nf) (λ_=>Blk.of (by rfl')) ?_ ?_ ?_ ?_<;>lia
theorem v24:Has P W K mg base 1 "is_due" ["knot","told","ends"] (spP K hC):=by
 have:=c24.nd;have:=A.T;refine Def.qp A.d24.to c24 (m:=fc) ?_ (λ_=>rfl);unfold fc
 lia
 ·refine bB (N':=["knot","told","ends","name","other"]) (by ac_nf) (λ_=>Blk.of (by rfl')) ?_ ?_ ?_ ?_<;>lia
theorem v25:Has P W K mg base 7 "knots_of" ["house","some"] (spP K fk):=by
 have:=@v21 P W K mg base A;have:=@v23 P W K mg base A;have:=@v24 P W K mg base A;have:=c25.nd;have:=A.T;refine Def.qp A.d25.to c25 (m:=dr) ?_ (λ_=>rfl);unfold dr
 lia
 ·refine bB (N':=["house","some","ends","left","knots","told","knot","name","rule"]) (by ac_nf) (λ_=>Blk.of (by rfl')) ?_ ?_ ?_ ?_<;>lia
 ·refine bB (N':=["house","some","ends","left","knots","told","knot","one"]) (by ac_nf) (λ_=>Blk.of (by rfl')) ?_ ?_ ?_ ?_<;>lia
theorem v26:Has P W K mg base 1 "_law_leads" ["_law_names_here","_law_steps_here"] (spP K jd):=by
 have:=c26.nd;have:=A.T;refine Def.qp A.d26.to c26 (m:=gA) ?_ (λ_=>rfl);unfold gA
 lia
theorem v27:Has P W K mg base 2 "_law_due" ["_law_names_here","_law_steps_here"] (spP K g9):=by
 have:=@v26 P W K mg base A;have:=c27.nd;have:=A.T;refine Def.qp A.d27.to c27 (m:=e7) ?_ (λ_=>rfl);unfold e7
 lia
 ·refine bB (N':=["_law_names_here","_law_steps_here","_law_leads_here","_law_left","_law_found","_law_name","_law_knot","_law_other"]) (by ac_nf) (λ_=>Blk.of (by rfl')) ?_ ?_ ?_ ?_<;>lia
 ·refine bB (N':=["_law_names_here","_law_steps_here","_law_leads_here","_law_left","_law_found","_law_name","_law_knot","_law_other"]) (by ac_nf) (λ_=>Blk.of (by rfl')) ?_ ?_ ?_ ?_<;>lia
 ·refine bB (N':=["_law_names_here","_law_steps_here","_law_leads_here","_law_left","_law_found","_law_name","_law_knot","_law_other"]) (by ac_nf) (λ_=>Blk.of (by rfl')) ?_ ?_ ?_ ?_<;>lia
theorem v28:Has P W K mg base 27 "_law_right" ["_law_house_here","_law_some_here"] (spP K fj):=by
 have:=@v15 P W K mg base A;have:=@v25 P W K mg base A;have:=@v27 P W K mg base A;have:=c28.nd;have:=A.T;refine Def.qp A.d28.to c28 (m:=dq) ?_ (λ_=>rfl);unfold dq
 lia
 ·refine cG _ (N':=["_law_house_here","_law_some_here","_law_names_here","_law_steps_here","_law_found","_law_name","_law_rule"]) (by ac_nf) (λ_=>(by first|assumption|exact jZ (by rfl'))) (λ_=>Blk.of (by rfl')) ?_ ?_ ?_ ?_<;>lia
 ·refine bB (N':=["_law_house_here","_law_some_here","_law_names_here","_law_steps_here","_law_found","_law_knot"]) (by ac_nf) (λ_=>Blk.of (by rfl')) ?_ ?_ ?_ ?_<;>lia
 ·refine bB (N':=["_law_house_here","_law_some_here","_law_names_here","_law_steps_here","_law_found","_law_number"]) (by ac_nf) (λ_=>Blk.of (by rfl')) ?_ ?_ ?_ ?_<;>lia
theorem v29:Has P W K mg base 28 "law" ["_law_script"] (spP K r_l_law_v7):=by
 have:=@v0 P W K mg base A;have:=@v12 P W K mg base A;have:=@v15 P W K mg base A;have:=@v13 P W K mg base A;have:=@v28 P W K mg base A;have:=c29.nd;have:=A.T;refine Def.qp A.d29.to c29 (m:=e8) ?_ (λ_=>rfl);unfold e8
 lia
 ·refine bB (N':=["_law_script","_law_feed_here","_law_house_here","_law_many","_law_some_here","_law_other","_law_one"]) (by ac_nf) (λ_=>Blk.of (by rfl')) ?_ ?_ ?_ ?_<;>lia
end
end K16
open PySem PySem.W PyProof.Rows
set_option maxRecDepth 100000 in
set_option maxHeartbeats 0 in
theorem PySem.Challenge.cw_clockhouse_k16_knots_in_their_order_holds : PySem.Challenge.rw_clockhouse_k16_knots_in_their_order.Holds := by
 refine holds_law K16.ws λsaid=>?_;refine holds_open (q:=K16.KQ) (loose:=K16.KL) (XP:=XL K16.KQ []) (YP:=K16.KH.says) K16.left K16.KH.of K16.KH.keeps (λs e=>xl_of s (Ho.mp e).1) XL.keeps (by rfl) (by rfl) (by rfl) (λs e=>recFacts_of (Ho.mp e).2) (by rfl) said (by rfl') ⟨rfl,rfl,rfl,rfl,rfl,by decide +kernel⟩ ?hw ?hc
 case hw=>w_witness2
 exact L2.walkP (l:=PySem.Challenge.rw_clockhouse_k16_knots_in_their_order) (k:=28) (x:="_law_script") (st:=K16.s_law) (run:=L2.r_l_law_v7) (A:=K16.Adr) (K:=K16.KF) rfl rfl ⟨rfl,rfl,by decide,by decide⟩ (λw h Y=>Y) K16.adr0 K16.adr_less (λmg K A=>A.d29.to) (λ_ _ _ _ _ _ s v=>.of_eq rfl) (λw mg K base A=>K16.v29 A) (λns hn=>by obtain⟨t,h1,h2⟩:=L2.k16_law (ns:=ns) hn;rw[h1,h2])
