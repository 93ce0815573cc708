import PyProof.Rows.All
import Wide.All
import OpenK.AllK
import Wide.FinOn
import Lean
import PyProof.EqAt
import PyProof.EqKinds
import PyProof.TupleCall
import PyProof.CompFree
import PyProof.ConsumeWalk
import PyProof.StrWalks
import PyProof.SliceStr2
import PyProof.Rows.StrJoin2
import PyProof.StrOps2
import PyProof.ListMulRoad
import PyProof.TupleOps
import PyProof.NeKinds
import KE.KRevIter
import PyProof.Rows.SortWalk
import PyProof.Draws
import PyProof.EnumMake
import PyProof.AutoListH
import PyProof.ZipIter
import KE.KDictOf
import PyProof.AttrMissHeap
import KE.KDictList
import PyProof.SumWalkG
import PyProof.ReprRoads
import KE.KEqDict
import PyProof.DictItems
import KE.KPairComp
import PyProof.DictCompW
import PyProof.ListRange
import PyProof.TupleOfSeq
import PyProof.ListNew
import PyProof.Rows.Tup
import KE.KSortTup
import PySem.Challenge.RW_clockhouse_k17_knots_with_a_step_fewer
set_option Elab.async false
set_option linter.all false
set_option maxRecDepth 100000
set_option maxHeartbeats 4000000
set_option genSizeOf false
set_option compiler.extract_closed false
set_option hygiene false
local macro_rules|`(abbrev $i:declId $s:optDeclSig $v:declVal)=>`(noncomputable def $i:declId $s:optDeclSig $v:declVal)
local macro_rules|`(private def $i:declId $s:optDeclSig $v:declVal)=>`(@[irreducible] noncomputable def $i:declId $s:optDeclSig $v:declVal)
local macro_rules|`(protected def $i:declId $s:optDeclSig $v:declVal)=>`(@[reducible] def $i:declId $s:optDeclSig $v:declVal)
local macro_rules|`(def $i:declId $b:bracketedBinder* : $t $v:declVal)=>`(theorem $i:declId $b:bracketedBinder* : $t $v:declVal)
local macro_rules|`(↥$x)=>`(some ⟨.ow,.im $x⟩)
local macro_rules|`(⇑$x)=>`(some ⟨.ow,$x⟩)
local macro_rules|`(⋯)=>`(by omega)
local macro_rules|`(∅)=>`(by simp)
local macro_rules|`(tactic| dsimp[$l,*]$[at $h]?)=>`(tactic| simp only[$l,*]$[at $h]?)
local macro_rules|`(tactic| exists $e)=>`(tactic| simpa using $e)
local macro_rules|`(tactic| delta $i*)=>`(tactic| rename_i $[$i:ident]*)
local macro_rules|`(tactic| apply $e)=>`(tactic| refine $e)
open PySem renaming wpAny_bind->LG,Value->LH,Shared->LI,wpAny_pure->LJ,sizeLine_eq->LL,Builtin->LM,wpAny->LN,model->LO,Program->LR,wpAny_mono->LS,wpAny_newObj_type->LU,NameKind->LV,Around->LX,foldedSetIterable->LY,starEach->Ma,World->Mb,cellsFrom->Mc,wpAny_holding->Mi,compareOp->Ml,wpAny_field->Mn,wpAny_call_entry->Mo,mainGlobals->Mq,binaryOp->Ms,wpAny_callSpecial?_slot->Mt,codeAny->Mv,wpAny_standAt->Mx,cLine->My,letOwnedTupleGo->Mz,builtinLookup_eq_fast->MB,call_meets->MC,attributeBase->MD,assignEach->MJ,Scope->ML,wpAny_passesOwn->MN,wpAny_specialOf->MP,bootBuiltins->MQ,wpAny_truthy_bool->MR,holding->MU,wpAny_of_eq->MV,wpAny_comprehension_free->MX,sliceBounds->M0,wpAny_Call_Name_kw->M3,wpAny_typeOf->M4,FuncData->M5,wpAny_updateSeq->M7,codeAny_builtin->M8,typeLookup_type->M9,wpAny_ite_split->Na,assign->Nb,standAt->Nd,notedBy->Nf,wpAny_binaryOp_repeat_ref->Ng,plainId_quiet->Ni,backTo->Nk,getItem->Nl,wpAny_sequenceKey->Nm,newFunctionEnv->Np,isSubtype_type->Nu,wpAny_rule->Nx,typeIs_int->Ny,PlainAttrs->Nz,behindInMarks->NC,wpAny_execs_nil->NF,IsPart->NH,theTreesLotGoes->NJ,wpAny_loadPart'->NK,codeAny_mono->NQ,sysModules->NU,pyNext->NX,rawInt->NY,ItemsOf->Od,swapsWithSole->Oe,swappedStores->Of,Result->Og,evalPart_none->Oj,wpAny_attempt->Om,swapsWith->On,PassesOwn->Oo,noFill_tuple_add->Op,compTurn->Ot,wpAny_list_append_plain->Ou,wpAny_isInstance->Ow,setItem->OA,relabel->OD,codeAny_loop->OE,codeAny_compStart_list->OG,pushCells_keeps->OJ,wpAny_isTrue_Compare1->OL,int___rmul___int_list->OM,isTrue->OP,wpAny_loadName_local->OQ,subscripted->OR,fitsIndex_both->OS,wpAny_listPart->OT,wpAny_seqItems->OU,wpAny_noted->OW,wpAny_setField->OZ,BindsTo->O7,callerA->O8,noteFrame->O9,valueAt->Pa,wpAny_loadName_cell->Pb,assignInOrder->Pf,rangeSize_one->Pg,seq_tuple_add->Ph,Comprehension->Pi,signature?_of->Pj,builtinsNs->Pn,pyIter->Po,typeLookup->Pq,typeOf->Pt,wpAny_assign_Name->Pv,wpAny_pyIter_list->Px,IsRange->Py,concat_meets->PB,slot_list_getitem->PD,slot_list_setitem->PH,wpAny_eqBool_str->PV,wpAny_execs_cons->PX,updateSeq->P0,entryFor_of_tree->P2,wpAny_Slice->P3,seqIndex_of->P4,noFill_list_mul->P8,post_val_or_str->Qa,Keyword->Qc,newList->Qe,wpAny_Name->Qf,truthy->Qg,Operator->Qh,bindName->Qi,wpAny_bindName->Qj,wpAny_load->Qk,recursionLimit->Ql,bindArgs->Qm,bindL->Qn,bindC->Qo,typeIs_str->Qp,sliceRange_one->Qq,compPost->Qr,wpAny_runValue->Qu,argsOk->Qw,firstArgMember->Qx,storeName->Qz,CmpOp->QB,small_one->QD,seqIndex?->QF,DictEntry->QJ,Meets->QL,release->QU,Params->QV,collect->QZ,Walks->Q4,pick_run->Q5,compEnvC->Q7,entryFor->Q8,Model->Rj
open PySem.Heap renaming get?_push_of_some->LK,lt_size->LP,get?_push_size->LQ,get?_update_other->Mh,get?_update_self->Mr,SameBut->Oz,size_push->OV,ExtBut->Q9
open PySem.Builtin.Tuple renaming tupleExact->LW,tupleItemsOf->Nc,tupleTooMany->N5,tupleIsExact->N7
open PySem.Builtin.List renaming listTooLong->LZ,listExtendWith->Mw,listSameRef->MW,listItems->No,listSubscript?->NR,listLengthHint->NS,listFitsIndex->N6,listAllItems->N9,listUpdate->QP
open PySem.NameKind renaming cell->L0,free->MK
open PySem.Obj renaming mapSeq->Md,mapFields->ND
open PySem.SeqAt renaming EqAt->Me,notIn_tupleAt->Pc,notIn_listAt->Ps,RcNeAt->PJ,in_tupleAt->PY,in_listAt->P7,RcAt->Qs
open PySem.Builtin.Slice renaming slicePlaces->Mf,sliceAdjust->Mp,sliceApplied->MM,sliceFields->N8,slicePartIndex->P6
open PySem.Str renaming ofString->Mg,length->Rf
open Ne renaming symm->Mj
open PySem.Builtin.Str renaming strSliceIndices->Mk,occurrences->MH,tooLong->Rc
open PySem.Value renaming none->Mm,ref->Nv,type->Nw,bool->NT,int->O6,str->PU,isStrOf->Qy,isInt->Q0
open PySem.Around renaming under_plainId->MF
open PySem.AutoSeq1 renaming wpAny_loadPart'->MY,list_extend_list_list_0->Nn,idx_int->Ov
open PySem.Builtin.Range renaming rangeSize->MZ,small->NP
open False renaming elim->M1
open PySem.F renaming slot_int_rmul->M6,plain_list_iadd->Nt,slot_tuple_mul->NA,args_list_extend_2->NE,entry_list_extend->NO,slot_list_extend->N4,args_int_rmul_2->Oc,slot_int_index->Oq,entry_int_rmul->Os,fills_int_mul->OI,entry_proto_collect->ON,plain_proto_collect->OO,args_object_init_2->OY,sub_reversed_self->Pd,plain_extend_loop->Pe,args_tuple_mul_2->Pu,args_list_mul_2->PF,slot_tuple_rmul->PL,entry_tuple_mul->PM,entry_list_iadd->PP,entry_list_mul->PZ,slot_list_mul->P9
open Classical renaming byContradiction->Nh,choose->NB
open PySem.AutoListH renaming list___mul___list_int_3->Nj
open PySem.Txt renaming join->Nq,slice->QK
open PySem.MeetsSeq renaming plain_remove_loop->Nr,entry_remove_loop->PN
open PyProof.Rows renaming envOfC->NG,IsTup->NM,entry_tuple_getitem->NN,assignInOrder_cons->NW,slicePart_none->NZ,args_tuple_getitem->N0,slot_tuple_getitem->N3,AllBare->Ob,tupleItemsOf_->Oh,subscriptTail->Ol,subscriptTail_builtinR->OB,seqObj->OH,listUpdate_at->Pk,Subscript_->Pr,assignInOrder_nil->Pw,StrsAre->PK,SortKind->PR,seqEpoch_at->P5,IntsAre->Qd,size_push'->Qv,len_tuple->QH,range_getD->QM,tail_any->Q6,keyKind'->Ra
open ForInStep renaming yield->NI
open PySem.Builtin.SmallTypes renaming newRecord->NL,stopIteration->PQ
open PySem.Calls renaming Name_function_global->NV,callWith_builtin->OC,spliced_cons->Pp,spliced_nil->Pz
open PySem.Heap.IsSliceOf renaming new->N1
open Sum renaming inr->Oa,inl->Oy
open PySem.W renaming kas_sort->Ox,OpenLaw->QX,WShape->QY,WData->Rk
open Or renaming inr->OX,inl->P1
open PySem.SeqAt.EqAt renaming int_str->Pl,str_int->Pm
open PySem.PassesOwn renaming never->Qb
open PySem.SeqAt.RcNeAt renaming lists_lengths->Qt,tuples->Rb,lists->Rh
open And renaming intro->QN
open Sum.inr renaming inj->Q3
open PySem.Heap.SameBut renaming update->Re
open PySem.W.WShape renaming has->Rg
open True renaming intro->Ri
open PySem.Flow renaming next->Rl
open PySem.W.WData renaming int->Rm
open PySem.Heap.DictOf renaming new->Rn
open List renaming getElem?_eq_some_iff->Gc,length_map->Ge,size_toArray->Gf,map_cons->Gg,replicate->Gh,nodup_append->Gi,mem_filter->Gk,mem_map->Gn,getElem?_map->Go,length_cons->Gp,map_append->Gq,length_append->Gr,flatMap_cons->Gs,flatMap_append->Gw,append_assoc->Gx,append_nil->Gy,range->Gz,nodup_cons->GA,getElem?_set_ne->GB,getD_eq_getElem?_getD->GC,getElem?_eq_getElem->GD,take_of_length_le->GE,filterMap_cons->GG,filterMap_append->GH,cons_append->GL,filter_cons->GM,take_length->GN,perm_middle->GQ,mem_map_of_mem->GS,mem_range->GU,mem_filterMap->GX,length_take->GZ,filter_append->G3,length_eq_zero_iff->G4,replicate_succ->G6,getElem?_append_left->G7,lookup_cons->G8,all_eq_true->G9,mem_flatMap->Ha,map_nil->He,map_map->Hf,getElem?_set_self->Hg,filter_sublist->Hh,nodup_nil->Hj,foldl_cons->Hk,length_drop->Hm,contains_eq_mem->Hn,getElem?_cons_succ->Ho,mem_of_mem_take->Hq,mem_cons->Hs,all_cons->Ht,getElem?_append_right->Hu,flatten_cons->Hv,filter_eq_self->Hw,nil_append->Hy,drop_eq_getElem_cons->Hz,cons->HD,getElem?_cons_zero->HE,find?_cons->HF,map_congr_left->HH,getElem_cons_drop->HI,mem_take_iff_getElem->HL,mem_of_find?_eq_some->HM,length->HN,ext_getElem?->HP,filter_congr->HQ,mem_of_mem_drop->HR,eraseIdx_cons_succ->HS,eq_nil_of_length_eq_zero->HV,length_eq_one_iff->HW,length_pos_of_mem->HX,mem_replicate->HY,mem_iff_getElem?->Ib,take_append_drop->Ic,reverse_cons->Ig,length_range->Ih,length_filter_lt_length_iff_exists->Ii,length_reverse->Il,map_eq_nil_iff->Im,map_take->Io,mem_append->Ip,length_set->Iq,filter_map->Ir,filterMap_map->Is,append_of_mem->Iu,filter_filter->Iv,all_nil->Ix,findIdx_lt_length_of_exists->Iy,eraseIdxIfInBounds_toArray->Iz,length_singleton->IA,length_filter_le->IC,eq_nil_iff_forall_not_mem->IE,drop_length->IF,flatMap_nil->IG,map_reverse->IH,not_mem_nil->II,lookup->IL,not_lt->IM,getLast?_append->IN,head?_drop->IP,take_succ_cons->IQ,mem_singleton->IS,take_zero->IV,perm_ext_iff_of_nodup->IW,drop_drop->IY,find?_isSome->Ja,foldl_append->Jb,getElem?_take_of_lt->Jc,any_cons->Jd,length_erase_of_mem->Je,map_drop->Jf,append_cancel_right->Jg,filterMap_cons_none->Jh,getElem?_replicate->Ji,flatMap_eq_nil_iff->Jn,ext_getElem->Jp,foldl->Jq,toArray->Jr,range_succ_eq_map->Js,sublist_cons_self->Jt,map_set->Ju,zipWith_cons_cons->Jv,of_mem_zip->Jy,getElem?_eq_none->JB,dropLast_eq_take->JC,perm_append_comm->JD,drop_zero->JF,set_append_left->JG,take_succ->JH,findIdx_getElem->JI,mem_erase_of_ne->JJ,reverse_append->JN,length_flatMap->JO,take_nil->JR,set_cons_succ->JS,pairwise_cons->JT,map_inj_right->JU,all_map->JZ,eraseIdx_nil->Ka,zipWith->Kb,find?_append->Ke,mem_flatten->Kh,any_eq_true->Kj,le_antisymm->Kk,sum_reverse->Kl,getElem_mem->Km,filter_nil->Kq,range_succ->Kt,map_id->KP,map->KR
open Bool renaming and_eq_true->Gd,false_ne_true->Gv,not_eq_true'->GJ,eq_iff_iff->GR,or_eq_true->Hl,false_eq_true->HA,not_eq_true->ID,and_true->IJ,and_self->IK,and_false->JE,and_eq_true_iff->JK,false_or->JP,true_and->JQ,false_and->Ku,not_false->Kv,or_false->Kw,true_or->KB
open Nat renaming le_refl->Gj,lt_of_lt_of_le->GF,ne_of_lt->GO,le_trans->GV,zero_le->GY,zero_add->Hb,lt_irrefl->Hc,lt_of_le_of_lt->HB,le_add_right->HU,le_of_ble_eq_true->Ie,ne_of_gt->IR,mul_le_mul->IU,mod_lt->IZ,le_succ->I8,lt_succ_of_lt->I9,succ_le_succ->Jk,le_max_right->Jm,lt_of_succ_lt_succ->Jw,le_max_left->Jz,min_eq_left->JA,add_le_add_left->JL,le_of_lt->JV,mul_comm->JX,lt_succ_self->Kg,le_zero->Kn,not_lt_zero->Kr,zero_lt_one->Ks,min_self->KC,sub_zero->KG
open PyProof.Rows renaming slot_tuple_getitem->GI,callWith_type1->Hr,boot_tuple->Jo,callWith_builtin1->Kf,boot_sorted->Kx,boot_range->Ky,boot_list->KD,boot_min->KI,boot_max->KJ,boot_all->KM,boot_int->KN
open Option renaming some->GK,isSome_iff_exists->Hi,map_some->HZ,getD_none->Jj
open Int renaming toNat_natCast->GP,emod_lt_of_pos->HK,emod_nonneg->Ia,eq_ofNat_of_zero_le->Jl,toNat_of_nonneg->JM,zero_add->J1,ediv_one->KA
open Array renaming length_toList->G5,toArray_toList->Ik,getElem?_toList->IB,getElem?_eq_some_iff->IX,size_append->JY,getElem_mem->Kc,toList->Kz
open PySem.W renaming fnOf->HC,keepIn->HJ,codeIn->Ij,cellsFrom_some->Iw,findIn->IT,methodObj->I0,specialIn->JW,nsIn->J3,instObj->Ko
open PySem renaming mem_of_lookup->HG,seqSlot_of->Ki
open Prod renaming ext->KO
local macro_rules|`(tactic| unhygienic $t)=>`(tactic| with_unfolding_all $t)
local macro_rules|`(tactic| rfl')=>`(tactic| kernel_rfl)
def K17.ws:PySem.Challenge.rw_clockhouse_k17_knots_with_a_step_fewer.wellSaid=true:=by rfl'
def yaR{α:Type}{b : α}(x:List α){y:List α}(h:b∈y):b∈x++y:=List.mem_append_right x h
def yaL{α:Type}{b : α}{x:List α}(y:List α)(h:b∈x):b∈x++y:=List.mem_append_left y h
def ymS{α:Type}{b : α}{x:List α}:b∈b::x:=List.mem_cons_self
def ymC{α:Type}{b : α}(y : α){x:List α}(h:b∈x):b∈y::x:=List.mem_cons_of_mem y h
def yaM{α:Type}{b : α}{x y:List α}(h:b∈x++y):b∈x\/b∈y:=Ip.mp h
def ycM{α:Type}{b a : α}{x:List α}(h:b∈a::x):b=a\/b∈x:=Hs.mp h
def ysM{α:Type}{b a : α}(h:b∈[a]):b=a:=IS.mp h
def ymG{α:Type}{x:List α}{i:Nat}{a : α}(h:x[i]?=some a):a∈x:=List.mem_of_getElem? h
protected def yF:=PySem.W.Frag
namespace L2
open PySem PySem.Spec PyProof.Rows
protected def Key:=Sum Int Str
abbrev ly:Key->LH->Bool
 | .inl k,v=>Q0 k v
 | .inr x,v=>Qy x v
abbrev FS(w:Mb):Key->Int
 | .inl k=>hashInt k
 | .inr x=>hashStr w x
def bm:∀{k:Key} {v:LH},ly k v=true->(∃i t,k=Oy i/\v=O6 i t)\/(∃x t,k=Oa x/\v=PU x t)
 | .inl i,v,h=>by
  obtain⟨t,e⟩:=LH.isInt_shape (k:=i) (v:=v) h;exact .inl ⟨i,t,rfl,e⟩
 | .inr x,v,h=>by
  obtain⟨t,e⟩:=LH.isStrOf_shape (x:=x) (v:=v) h;exact .inr ⟨x,t,rfl,e⟩
def sh(i:Int)(t:Tok):ly (.inl i) (.int i t)=true:=by simp[ly,Q0]
def si(x:Str)(t:Tok):ly (.inr x) (.str x t)=true:=by simp[ly,Qy]
def A5(a b:Int):decide ((Oy a:Key)=Oy b)=(a==b):=by
 by_cases e:a=b;subst e;simp
 ·have h:¬ (Oy a:Key)=Oy b:=λq=>e (Oy.inj q);rw[decide_eq_false h];exact(beq_eq_false_iff_ne.mpr e).symm
def A8(a b:Str):decide ((Oa a:Key)=Oa b)=decide (a=b):=by
 by_cases e:a=b;subst e;simp
 ·have h:¬ (Oa a:Key)=Oa b:=λq=>e (Q3 q);rw[decide_eq_false h,decide_eq_false e]
def A6(a:Int)(b:Str):decide ((Oy a:Key)=Oa b)=false:=decide_eq_false (λq=>nomatch q)
def A7(a:Str)(b:Int):decide ((Oa a:Key)=Oy b)=false:=decide_eq_false (λq=>nomatch q)
abbrev bC(prog:LR) (w:Mb):PySem.KeyKind prog w Key where
 is:=ly
 hash:=FS w
 inj:=λv a b ha hb=>by
  rcases bm ha with⟨i,t,rfl,rfl⟩|⟨x,t,rfl,rfl⟩
  ·rcases bm hb with⟨j,u,rfl,e⟩|⟨y,u,rfl,e⟩;injection e with e1 _;rw[e1];exact nomatch e
  ·rcases bm hb with⟨j,u,rfl,e⟩|⟨y,u,rfl,e⟩;exact nomatch e;injection e with e1 _;rw[e1]
 byValue:=λk v h=>by
  rcases bm h with⟨i,t,rfl,rfl⟩|⟨x,t,rfl,rfl⟩<;>rfl
 pyHash:=λhv h=>by
  rcases bm hv with⟨i,t,rfl,rfl⟩|⟨x,t,rfl,rfl⟩;exact wpAny_pyHash_int h;exact wpAny_pyHash_str h
 eqBool:=λhu hv h=>by
  rcases bm hu with⟨i,t,rfl,rfl⟩|⟨x,t,rfl,rfl⟩
  ·rcases bm hv with⟨j,u,rfl,rfl⟩|⟨y,u,rfl,rfl⟩;rw[A5]at h;exact wpAny_eqBool_int h;rw[A6]at h;exact Pl i t y u _ _ _ _ h
  ·rcases bm hv with⟨j,u,rfl,rfl⟩|⟨y,u,rfl,rfl⟩;rw[A7]at h;exact Pm x t j u _ _ _ _ h;rw[A8]at h;exact PV h
 «strs»:=λk x t v h=>by
  rcases bm h with⟨i,u,rfl,e⟩|⟨y,u,rfl,e⟩;exact nomatch e
  ·injection e with e1 _;subst e1;cases v<;>rfl
def nL(prog:LR)(w:Mb)(i:Int)(t:Tok):(bC prog w).is (.inl i) (.int i t)=true:=sh i t
def nM(prog:LR)(w:Mb)(x:Str)(t:Tok):(bC prog w).is (.inr x) (.str x t)=true:=si x t
inductive V where
 | non|bl (b:Bool)|int (i:Int)|str (x:Str)|byt (b:Array UInt8)|flt (b:UInt64)|ref (a:Addr)|ty (n:String)
 deriving DecidableEq
abbrev RelV:V->LH->Prop
 | .non,u=>u=Mm
 | .bl b,u=>u=NT b
 | .int i,u=>∃t,u=O6 i t
 | .str x,u=>∃t,u=PU x t
 | .byt b,u=>∃t,u=LH.bytes b t
 | .flt b,u=>∃t,u=LH.float b t
 | .ref a,u=>u=Nv a
 | .ty n,u=>u=Nw n
protected def Vals:List V->List LH->Prop:=Paired RelV
def Vals.length{xs:List V}{us:List LH}(r:Vals xs us):xs.length=us.length:=Paired.length r
def Vals.get:∀{xs:List V} {us:List LH} {i:Nat} {x:V},Vals xs us->xs[i]?=some x->∃u,us[i]?=some u/\RelV x u
 | _,_,_,_,.nil,e=>by simp at e
 | _,_,0,_,.cons r _,e=>by simp at e;subst e;exact⟨_,rfl,r⟩
 | _,_,i+1,x,.cons _ t,e=>by
  obtain⟨u,h1,h2⟩:=Vals.get (i:=i) (x:=x) t (by exists e);exact⟨u,by simpa using h1,h2⟩
def Vals.set{x:V}{u:LH}(r:RelV x u):∀{xs:List V} {us:List LH} (i:Nat),Vals xs us->Vals (xs.set i x) (us.set i u)
 | _,_,_,.nil=>.nil
 | _,_,0,.cons _ t=>.cons r t
 | _,_,i+1,.cons q t=>.cons q (Vals.set r i t)
def Vals.append:∀{xs ys:List V} {us ws:List LH},Vals xs us->Vals ys ws->Vals (xs++ys) (us++ws):=by
 intro xs ys us ws h k
 induction h with
 | nil=>exact k
 | cons r t ih=>exact .cons r ih
def Vals.take:∀{xs:List V} {us:List LH} (n:Nat),Vals xs us->Vals (xs.take n) (us.take n)
 | _,_,0,_=>.nil
 | _,_,_+1,.nil=>.nil
 | _,_,n+1,.cons r t=>.cons r (Vals.take n t)
def Vals.drop:∀{xs:List V} {us:List LH} (n:Nat),Vals xs us->Vals (xs.drop n) (us.drop n)
 | _,_,0,r=>r
 | _,_,_+1,.nil=>.nil
 | _,_,n+1,.cons _ t=>Vals.drop n t
abbrev RelO:Option V->Option LH->Prop
 | some v,some u=>RelV v u
 | none,none=>True
 | _,_=>False
abbrev KV{κ : Type}:List (κ×V)->List (κ×LH)->Prop:=Paired λ(p : κ×V) (q : κ×LH)=>p.1=q.1/\RelV p.2 q.2
abbrev kV:Key->V
 | .inl i=>.int i
 | .inr x=>.str x
inductive HO where
 | lst (xs:List V)
 | tup (xs:List V)
 | dK (kvs:List (Key×V))|dT (kvs:List (List Key×V))
 | set (S:Int->Bool) (n:Nat)
 | ins (C dx:Addr) (fs:List (Str×V))
 | own (x:Addr)
 | xd (fs:List (Str×V))
 | met (f x:Addr)
 | rng (lo hi:Int)
 | frz (o:Obj) (u:HO)
 | tbl (ps:Array LH)
 | ext (φ : Heap->Prop)
protected def Hp:=Addr->Option HO
abbrev upd(H:Hp) (a:Addr) (o:HO):Hp:=λb=>if b=a then some o else H b
def aI{H:Hp}{a:Addr}{o:HO}:upd H a o a=some o:=by unfold upd;rw[if_pos rfl]
def aT{H:Hp}{a b:Addr}{o:HO}(h:b≠a):upd H a o b=H b:=by unfold upd;rw[if_neg h]
def bf{H:Hp}{a b:Addr}{o:HO}(h:H a=some o)(h':H b=none):a≠b:=by
 intro e;subst e;rw[h]at h';cases h'
abbrev Ld(h:Heap)(a:Addr)(items:Array LH):Prop:=∃o,h.get? a=some o/\(o.cls=.type "tuple" /\ o.dict=none)/\∃n,o.data=.seq items n
def Ld.to{h:Heap}{a:Addr}{items:Array LH}(x:Ld h a items):NM h a items:=let ⟨o,e,c,d⟩:=x;⟨o,e,c.1,d⟩
def Ld.new(h:Heap)(items:Array LH):Ld (h.push {cls:=.type "tuple",data:=.seq items}) h.objs.size items:=⟨_,LQ _ rfl,⟨rfl,rfl⟩,_,rfl⟩
section
variable (P:LR)(w:Mb)
abbrev K6(H:Hp)(h:Heap)(a:Addr):HO->Prop
 | .lst xs=>xs.length<=sizeLine/\∃(its:List LH) (n:Nat),Vals xs its/\h.get? a=some {cls:=.type "list",data:=.seq its.toArray n}
 | .tup xs=>xs.length<=sizeLine/\∃its:List LH,Vals xs its/\Ld h a its.toArray
 | .dK kvs=>kvs.length<=sizeLine/\(a==NU)=false/\∃vs,KV kvs vs/\h.DictOf (bC P w) a vs
 | .dT kvs=>kvs.length<=sizeLine/\(a==NU)=false/\∃xs:List (List Key×Addr×LH),
   Paired (λ(p:List Key×V) (q:List Key×Addr×LH)=>p.1=q.1/\H q.2.1=some (.tup (p.1.map kV))/\RelV p.2 q.2.2) kvs xs /\
   ∃o es ep,h.get? a=some o/\o.ExactDict/\o.data=.dict es ep/\es.toList=xs.map (entryOfKey (tupleKind (bC P w)))/\(xs.map (·.1)).Nodup
 | .set S n=>h.SetOf (intKind P w) a S n
 | .ins C dx fs=>H dx=some (.own a)/\fs.length<=1000/\dx≠a/\h.get? a=some (Ko C dx) /\
   ∃mA,h.Ns1 dx mA/\(∀f,RelO (fs.lookup f) (mA f))/\PySem.Within mA (fs.map (·.1))
 | .own _=>∃o,h.get? a=some o
 | .xd fs=>∃mA,h.Ns1 a mA/\∀f,RelO (fs.lookup f) (mA f)
 | .rng lo hi=>∃t u v,h.get? a=some {cls:=.type "range",data:=.fields #[.int lo t,.int hi u,.int 1 v]}
 | .frz o u=>h.get? a=some o/\K6 H h a u
 | .tbl ps=>h.get? a=some {cls:=.none,data:=.fields ps}
 | .met f x=>h.get? a=some (I0 (.ref f) (.ref x))
 | .ext φ=>φ h/\(∃o,h.get? a=some o)/\∀h1 h2:Heap,φ h1->(∀o,h1.get? a=some o->h2.get? a=some o)->φ h2
abbrev HOk(H:Hp)(h:Heap):Prop:=∀a o,H a=some o->K6 P w H h a o
end
section
variable {P:LR}{w:Mb}{H H':Hp}{h h':Heap}{a:Addr}{o:HO}
def K6.lt(x:K6 P w H h a o):a<h.objs.size:=by
 cases o with
 | lst xs=>obtain⟨_,_,_,_,e⟩:=x;exact LP e
 | tup xs=>obtain⟨_,_,_,p⟩:=x;exact p.to.lt
 | dK kvs=>obtain⟨_,_,_,_,o,_,_,e,_⟩:=x;exact LP e
 | dT kvs=>obtain⟨_,_,_,_,o,_,_,e,_⟩:=x;exact LP e
 | set S n=>obtain⟨o,_,_,_,e,_⟩:=x;exact LP e
 | ins C dx fs=>obtain⟨_,_,_,e,_⟩:=x;exact LP e
 | own y=>obtain⟨_,e⟩:=x;exact LP e
 | xd fs=>obtain⟨_,⟨_,_,_,e,_⟩,_⟩:=x;exact LP e
 | rng lo hi=>obtain⟨_,_,_,e⟩:=x;exact LP e
 | frz ob u=>obtain⟨e,_⟩:=x;exact LP e
 | tbl ps=>exact LP (show h.get? a=some _ from x)
 | met f y=>exact LP (show h.get? a=some _ from x)
 | ext φ=>obtain⟨_,⟨_,e⟩,_⟩:=x;exact LP e
def Paired.mapP{α β:Type}{F G : α->β->Prop}:∀{l₁ : List α} {l₂ : List β},Paired F l₁ l₂->(∀a b,F a b->G a b)->Paired G l₁ l₂:=by
 intro l₁ l₂ h f
 induction h with
 | nil=>exact .nil
 | cons r t ih=>exact .cons (f _ _ r) ih
def K6.stay(x:K6 P w H h a o)(k:∀b u,(b=a\/H b=some (.own a))->h.get? b=some u->h'.get? b=some u)
  (ho:∀b,H b=some (.own a)->H' b=some (.own a)) (ht:∀b xs,H b=some (.tup xs)->H' b=some (.tup xs)):K6 P w H' h' a o:=by
 induction o with
 | lst xs=>obtain⟨z,its,n,r,e⟩:=x;exact⟨z,its,n,r,k _ _ (.inl rfl) e⟩
 | tup xs=>obtain⟨z,its,r,ob,e,c⟩:=x;exact⟨z,its,r,ob,k _ _ (.inl rfl) e,c⟩
 | dK kvs=>obtain⟨z,y,vs,r,ob,es,ep,e,c⟩:=x;exact⟨z,y,vs,r,ob,es,ep,k _ _ (.inl rfl) e,c⟩
 | dT kvs=>
  obtain⟨z,y,xs,r,ob,es,ep,e,c⟩:=x;exact⟨z,y,xs,Paired.mapP r λp q z=>⟨z.1,ht _ _ z.2.1,z.2.2⟩,ob,es,ep,k _ _ (.inl rfl) e,c⟩
 | set S n=>obtain⟨ob,es,ep,t,e,c⟩:=x;exact⟨ob,es,ep,t,k _ _ (.inl rfl) e,c⟩
 | ins C dx fs=>
  obtain⟨d,z,ne,e,mA,⟨od,es,ep,e2,c⟩,r⟩:=x;exact⟨ho _ d,z,ne,k _ _ (.inl rfl) e,mA,⟨od,es,ep,k _ _ (.inr d) e2,c⟩,r⟩
 | own y=>obtain⟨ob,e⟩:=x;exact⟨ob,k _ _ (.inl rfl) e⟩
 | xd fs=>obtain⟨mA,⟨od,es,ep,e,c⟩,r⟩:=x;exact⟨mA,⟨od,es,ep,k _ _ (.inl rfl) e,c⟩,r⟩
 | rng lo hi=>obtain⟨t,u,v,e⟩:=x;exact⟨t,u,v,k _ _ (.inl rfl) e⟩
 | frz ob u ih=>obtain⟨e,q⟩:=x;exact⟨k _ _ (.inl rfl) e,ih q⟩
 | tbl ps=>
  have e:h.get? a=some {cls:=.none,data:=.fields ps}:=x;show h'.get? a=some {cls:=.none,data:=.fields ps};exact k a _ (.inl rfl) e
 | met f y=>
  have e:h.get? a=some (I0 (.ref f) (.ref y)):=x;show h'.get? a=some (I0 (.ref f) (.ref y));exact k a _ (.inl rfl) e
 | ext φ=>obtain⟨p,⟨o,e⟩,st⟩:=x;exact⟨st _ _ p λo q=>k _ _ (.inl rfl) q,⟨o,k _ _ (.inl rfl) e⟩,st⟩
def HOk.lt(x:HOk P w H h)(e:H a=some o):a<h.objs.size:=(x a o e).lt
def HOk.fresh(x:HOk P w H h)(e:h.objs.size<=a):H a=none:=by
 cases q:H a with
 | none=>rfl
 | some u=>exact absurd (GF (x.lt q) e) (Hc _)
def HOk.kept(x:HOk P w H h)(k:∀b u,h.get? b=some u->h'.get? b=some u):HOk P w H h':=λa o e=>
 (x a o e).stay (λb u _ q=>k b u q) (λ_ q=>q) λ_ _ q=>q
def HOk.laid(x:HOk P w H h)(k:∀b u,h.get? b=some u->h'.get? b=some u)(hp:h.objs.size<=a)(new:K6 P w (upd H a o) h' a o):HOk P w (upd H a o) h':=λb u e=>by
 have hn:=x.fresh hp;by_cases hb:b=a;subst hb;rw[aI]at e;cases e;exact new
 ·rw[aT hb]at e;exact(x b u e).stay (λc v _ q=>k c v q) (λc q=>by rw[aT (bf q hn)];exact q) λc xs q=>by rw[aT (bf q hn)];exact q
end
abbrev Rd(H:Hp)(a:Addr)(u:HO):Prop:=H a=some u \/ ∃o,H a=some (.frz o u)
def Rd.ok{P:LR}{w:Mb}{H:Hp}{h:Heap}{a:Addr}{u:HO}(r:Rd H a u)(x:HOk P w H h):K6 P w H h a u:=by
 rcases r with r|⟨o,r⟩;exact x a u r
 ·obtain⟨_,q⟩:=x a _ r;exact q
abbrev Mut:Option HO->Prop
 | some (.lst _)=>True
 | some (.dK _)=>True
 | some (.dT _)=>True
 | some (.set _ _)=>True
 | some (.ins _ _ _)=>True
 | some (.ext _)=>True
 | _=>False
section
variable {P:LR}{w:Mb}{H:Hp}{h h':Heap}{x e:Addr}{o':HO}
def HOk.write(ok:HOk P w H h)(mu:Mut (H x))(he:e=x\/H e=some (.own x))(k:∀b u,b≠e->h.get? b=some u->h'.get? b=some u)(heo:∃u,h'.get? e=some u)
  (new:K6 P w (upd H x o') h' x o'):HOk P w (upd H x o') h':=λb u q=>by
 have nown:∀c y,H c=some (.own y)->c≠x:=λc y r z=>by subst z;rw[r]at mu;exact mu
 have ntup:∀c xs,H c=some (.tup xs)->c≠x:=λc xs r z=>by subst z;rw[r]at mu;exact mu
 by_cases hb:b=x;subst hb;rw[aI]at q;cases q;exact new
 ·rw[aT hb]at q;by_cases hbe:b=e
  ·have q':H b=some (.own x):=by
    rcases he with z|z;exact absurd (hbe.trans z) hb;rw[hbe];exact z
   rw[q]at q';cases q';obtain⟨v,hv⟩:=heo;exact⟨v,by rw[hbe];exact hv⟩
  ·apply(ok b u q).stay (λc v hc r=>k c v ?_ r) (λc r=>by rw[aT (nown c b r)];exact r) λc xs r=>by rw[aT (ntup c xs r)];exact r
   rcases hc with rfl|hc;exact hbe
   ·rintro rfl;rcases he with z|z;exact nown c b hc z;rw[hc]at z;cases z;exact hb rfl
end
structure Un(fs ex:List Addr)(H H':Hp)(h h':Heap):Prop where
 keep:∀b o,h.get? b=some o->H b=none->b∉fs->b∉ex->h'.get? b=some o
 slot:∀b o,h.get? b=some o->H b=none->b∈fs->b∉ex->∃sl,h'.get? b=some {o with slots:=sl}
 free:∀b o,h.get? b=some o->H b=none->b∉ex->H' b=none
 there:∀b o,h.get? b=some o->b∉ex->∃o',h'.get? b=some o'
 tups:∀b xs,H b=some (.tup xs)->H' b=some (.tup xs)
 frzs:∀b o u,H b=some (.frz o u)->H' b=some (.frz o u)
 tbls:∀b ps,H b=some (.tbl ps)->∃more,H' b=some (.tbl (ps++more))
section
variable {fs fs' ex ex':List Addr}{H H1 H2:Hp}{h h1 h2 h':Heap}{a x e:Addr}{o:HO}
def Un.any(u:Un fs ex H H1 h h1){b:Addr}{ob:Obj}(q:h.get? b=some ob)(n:H b=none)(hx:b∉ex):∃sl,h1.get? b=some {ob with slots:=sl}:=by
 by_cases hb:b∈fs;exact u.slot b ob q n hb hx;exact⟨ob.slots,u.keep b ob q n hb hx⟩
def Un.kept(k:∀b u,h.get? b=some u->h'.get? b=some u):Un fs ex H H h h':=
 ⟨λb ob q _ _ _=>k b ob q,λb ob q _ _ _=>⟨ob.slots,k b ob q⟩,λ_ _ _ n _=>n,λb ob q _=>⟨ob,k b ob q⟩,λ_ _ q=>q,λ_ _ _ q=>q,λ_ ps q=>⟨#[],by rw[q];simp⟩⟩
def Un.refl:Un fs ex H H h h:=Un.kept λ_ _ q=>q
def Un.laid(k:∀b u,h.get? b=some u->h'.get? b=some u)(hp:h.objs.size<=a)(hn:H a=none):Un fs ex H (upd H a o) h h' where
 keep:=λb u q _ _ _=>k b u q
 slot:=λb u q _ _ _=>⟨u.slots,k b u q⟩
 free:=λb u q n _=>by rw[aT (GO (GF (LP q) hp))];exact n
 there:=λb u q _=>⟨u,k b u q⟩
 tups:=λb xs q=>by rw[aT (bf q hn)];exact q
 frzs:=λb u xs q=>by rw[aT (bf q hn)];exact q
 tbls:=λb ps q=>⟨#[],by rw[aT (bf q hn),q];simp⟩
def Un.write(mu:Mut (H x))(he:e=x\/H e=some (.own x))(k:∀b u,b≠e->h.get? b=some u->h'.get? b=some u)(heo:∃u,h'.get? e=some u):Un fs ex H (upd H x o) h h':=by
 have hx:∀b,H b=none->b≠x:=λb n z=>by subst z;rw[n]at mu;exact mu
 have hb:∀b,H b=none->b≠e:=λb n z=>by
  subst z;rcases he with r|r;exact hx b n r;rw[n]at r;cases r
 have hm:∀b u,H b=some u->¬ Mut (some u)->b≠x:=λb u q nm z=>by subst z;rw[q]at mu;exact nm mu
 apply⟨λb u q n _ _=>k b u (hb b n) q,λb u q n _ _=>⟨u.slots,k b u (hb b n) q⟩,λb u q n _=>by rw[aT (hx b n)];exact n,λb u q _=>?_,
  λb xs q=>by rw[aT (hm b _ q λz=>z)];exact q,λb u xs q=>by rw[aT (hm b _ q λz=>z)];exact q,λb ps q=>⟨#[],by rw[aT (hm b _ q λz=>z),q];simp⟩⟩
 by_cases hbe:b=e;subst hbe;exact heo;exact⟨u,k b u hbe q⟩
end
abbrev trk(h:Heap) (H:Hp):List Addr:=(Gz h.objs.size).filter λa=>(H a).isSome
abbrev my(h:Heap) (H:Hp):Heap:=PySem.W.hideAll h (trk h H)
def r6(h:Heap)(H:Hp):(my h H).objs.size=h.objs.size:=PySem.W.hideAll_size _ _
def uu{h:Heap}{H:Hp}{b:Addr}{o:Obj}(e:h.get? b=some o)(n:H b=none):(my h H).get? b=some o:=
 PySem.W.hideAll_get _ e λhm=>by
  have q:(H b).isSome=true:=(Gk.mp hm).2;rw[n]at q;simp at q
def ye{h:Heap}{H:Hp}{b:Addr}{o:Obj}(e:(my h H).get? b=some o):h.get? b=some o/\H b=none:=by
 have e':h.get? b=some o:=PySem.W.of_hideAll (trk h H) e;apply⟨e',?_⟩;cases q:H b with
 | none=>rfl
 | some x=>
  have hm:b∈trk h H:=Gk.mpr ⟨GU.mpr (LP e'),by simp[q]⟩;have z:(my h H).get? b=none:=PySem.W.hideAll_none (trk h H) hm;rw[z]at e;cases e
abbrev xo(g h:Heap) (L:Addr):List (Addr×Obj):=(Gz h.objs.size).filterMap λa=>if a=L\/(g.get? a).isSome=true then none else(h.get? a).map λo=>(a,o)
abbrev rest(g h:Heap) (L d:Addr):List (Addr×Obj):=(xo g h L).filter λp=>decide (p.1≠d)
structure Mod(K:yF)(mg:Str->Option LH)(base:Heap):Prop where
 kin:K.In base
 glob:base.Ns Mq mg
 blt:∃mb,base.Ns Pn mb/\∀x:Str,x ≠ "__name__" -> mb x=MQ x
 nolimit:base.NoLimit
structure Cx where
 prog:LR
 w:Mb
 K:yF
 mg:Str->Option LH
 base:Heap
 A:LX
 N:List Str
 s₀ : LI
 H₀ : Hp
 env:Env
 outer:List Env
 stack:List Env
 ex:List Addr
 fn:Str->Bool
 calm:Bool
 pn:List (Addr×Obj)
 xe:LH->LI->Prop
abbrev frs(l:List Env):List Addr:=l.filterMap (·.frame)
noncomputable abbrev Cx.fs(X:Cx):List Addr:=frs X.outer
abbrev Vis(sc:ML)(x:Str):Prop:=sc.names.lookup x=some .local\/sc.names.lookup x=some .cell\/sc.names.lookup x=some .free
abbrev Loc(sc:ML)(x:Str):Prop:=sc.names.lookup x=some .local\/sc.names.lookup x=some .cell
abbrev Fy(env:Env)(h:Heap)(m:Str->Option LH)(x:Str)(u:LH):Prop:=
 (env.kindOf x=some .local/\m x=some u)\/((env.kindOf x=some .cell\/env.kindOf x=some .free)/\∃c,env.cells.lookup x=some c/\h.IsCell c (some u))
structure Cx.Ok(X:Cx):Prop where
 mod:Mod X.K X.mg X.base
 kind:X.env.scope.kind=.function
 glob:X.env.globals=Mq
 blt:X.env.builtins=Pn
 above:X.s₀.heap.objs.size<=X.env.locals
 inj:∀x y c,X.env.cells.lookup x=some c->X.env.cells.lookup y=some c->x=y
 has:∀x,(X.env.kindOf x=some .cell\/X.env.kindOf x=some .free)->∃c,X.env.cells.lookup x=some c
 cab:∀x c,X.fn x=true->X.env.cells.lookup x=some c->X.s₀.heap.objs.size<=c
 hd:X.calm=true->X.A.handled=none
 gd:X.calm=true->X.A.guards=some []
 frames:X.A.frames=some X.stack
 stk:X.stack=X.outer\/(X.stack=X.env::X.outer/\X.env.frame=some X.env.locals)
 exf:∀b∈X.ex,b≠X.env.locals/\∀x c,X.env.cells.lookup x=some c->c≠b
 bs:∀b o,X.base.get? b=some o->X.s₀.heap.get? b=some o/\X.H₀ b=none
 bsz:X.base.objs.size<=X.s₀.heap.objs.size
 noex:∀b o,X.base.get? b=some o->b∉X.ex
 exfs:∀b∈X.ex,b∉X.fs
 funs:X.s₀.heap.FunFrames X.base X.outer
 frf:∀b∈X.fs,X.H₀ b=none
structure Inv(X:Cx)(Uq:List (Addr×Obj))(Z:List (Option V))(H:Hp)(s:LI):Prop where
 ok:X.Ok
 os:s.os=X.s₀.os
 bare:Ob s.gens
 base:Un X.fs X.ex X.H₀ H X.s₀.heap s.heap
 loc:∃m,s.heap.Ns X.env.locals m/\∀(i:Nat) (x:Str) (v:V),X.N[i]?=some x->Z[i]?=some (some v)->Vis X.env.scope x->∃u,RelV v u/\Fy X.env s.heap m x u
 cell:∀x c,X.env.cells.lookup x=some c->∃v,s.heap.IsCell c v
 free:H X.env.locals=none
 freeC:∀x c,X.env.cells.lookup x=some c->H c=none
 pin:∀p∈X.pn++Uq,s.heap.get? p.1=some p.2/\H p.1=none/\p.1≠X.env.locals/\p.1∉X.fs/\∀v,p.2.data ≠ .cell v
 hok:HOk X.prog X.w H s.heap
 len:Z.length=X.N.length
section
variable {X:Cx}{Uq:List (Addr×Obj)}{Z:List (Option V)}{H H':Hp}{s:LI}{h':Heap}
def Cx.Ok.nofr(ok:X.Ok){b:Addr}{o:Obj}(e:X.base.get? b=some o):b∉X.fs:=λhb=>by
 have:=(ok.funs.mem hb).1;rw[e]at this;cases this
def Inv.bs(I:Inv X Uq Z H s):∀b o,X.base.get? b=some o->s.heap.get? b=some o/\H b=none:=λb o e=>
 ⟨I.base.keep b o (I.ok.bs b o e).1 (I.ok.bs b o e).2 (I.ok.nofr e) (I.ok.noex b o e),I.base.free b o (I.ok.bs b o e).1 (I.ok.bs b o e).2 (I.ok.noex b o e)⟩
def Inv.bk(I:Inv X Uq Z H s):∀b o,X.base.get? b=some o->s.heap.get? b=some o:=λb o e=>(I.bs b o e).1
def Inv.mod(I:Inv X Uq Z H s):Mod X.K X.mg X.base:=I.ok.mod
def Inv.kIn(I:Inv X Uq Z H s):X.K.In s.heap:=I.ok.mod.kin.keeps I.bk
def Inv.fr(I:Inv X Uq Z H s):∃m,Fr X.base X.env.locals s.heap m:=
 let ⟨m,hn,_⟩:=I.loc
 ⟨m,hn,I.bk,GV I.ok.bsz I.ok.above⟩
def Inv.lt(I:Inv X Uq Z H s):X.env.locals<s.heap.objs.size:=let ⟨_,hn,_⟩:=I.loc;hn.lt
def Inv.sz(I:Inv X Uq Z H s):X.s₀.heap.objs.size<=s.heap.objs.size:=GV I.ok.above (JV I.lt)
def Inv.nofs(I:Inv X Uq Z H s){a:Addr}(h:s.heap.objs.size<=a):a∉X.fs:=λhb=>by
 obtain⟨_,o,ho,_⟩:=I.ok.funs.mem hb;exact absurd (GF (LP ho) (GV I.sz h)) (Hc _)
def Inv.cne(I:Inv X Uq Z H s):∀x c,X.env.cells.lookup x=some c->c≠X.env.locals:=λx c e z=>by
 obtain⟨v,o,ho,hd⟩:=I.cell x c e;obtain⟨m,⟨o',es,ep,ho',hd',_⟩,_⟩:=I.loc;rw[z,ho']at ho;cases ho;rw[hd']at hd;cases hd
def Inv.funs(I:Inv X Uq Z H s):s.heap.FunFrames X.base X.outer:=by
 have all:∀(l:List Env),(∀b∈frs l,b∈X.fs)->X.s₀.heap.FunFrames X.base l->s.heap.FunFrames X.base l:=by
  intro l
  induction l with
  | nil=>intro _ _;trivial
  | cons env r ih=>
   intro hs hl;obtain⟨hk,⟨L,o,hf,hn,ho,hd⟩,hr⟩:=hl;have hL:L∈X.fs:=hs L (by unfold frs;rw[GG,hf];exact ymS);obtain⟨sl,e⟩:=I.base.slot L o ho (I.ok.frf L hL) hL λz=>I.ok.exfs L z hL;exact⟨hk,⟨L,_,hf,hn,e,hd⟩,ih (λb hb=>hs b (by unfold frs;rw[GG,hf];exact ymC _ hb)) hr⟩
 exact all X.outer (λ_ hb=>hb) I.ok.funs
def Inv.stack(I:Inv X Uq Z H s):s.heap.FunFrames X.base X.stack:=by
 rcases I.ok.stk with e|⟨e,hf⟩;rw[e];exact I.funs
 ·rw[e];obtain⟨m,hn,_⟩:=I.loc;apply .cons (by rw[I.ok.kind];decide) hf hn ?_ I.funs;exact Heap.get?_none_of_le (GV I.ok.bsz I.ok.above)
def Inv.stkSub(I:Inv X Uq Z H s):∀b∈frs X.stack,b∈X.env.locals::X.fs:=λb hb=>by
 rcases I.ok.stk with e|⟨e,hf⟩;rw[e]at hb;exact ymC _ hb
 ·rw[e]at hb;unfold frs at hb;rw[GG,hf]at hb;exact hb
def Inv.stkFree(I:Inv X Uq Z H s):∀b∈frs X.stack,H b=none:=λb hb=>by
 rcases ycM (I.stkSub b hb)with e|hb;rw[e];exact I.free
 ·obtain⟨_,o,ho,_⟩:=I.ok.funs.mem hb;exact I.base.free b o ho (I.ok.frf b hb) λz=>I.ok.exfs b z hb
def Inv.step{g':Array GenState}{t':Nat}{d':Drawn}{ch:List Addr}(I:Inv X Uq Z H s)
  (hch:∀b∈ch,(b∈X.ex\/X.s₀.heap.objs.size<=b)/\b≠X.env.locals/\(∀x c,X.env.cells.lookup x=some c->c≠b)/\∀p∈X.pn++Uq,p.1≠b)
  (keep:∀b o,b≠X.env.locals->b∉X.fs->b∉ch->s.heap.get? b=some o->H b=none->h'.get? b=some o)
  (slot:∀b o,b≠X.env.locals->b∈X.fs->b∉ch->s.heap.get? b=some o->H b=none->∃sl,h'.get? b=some {o with slots:=sl}) (free:∀b o,b∉ch->s.heap.get? b=some o->H b=none->H' b=none)
  (there:∀b o,b∉ch->s.heap.get? b=some o->∃o',h'.get? b=some o')
  (tups:∀b xs,H b=some (.tup xs)->H' b=some (.tup xs)) (frzs:∀b o u,H b=some (.frz o u)->H' b=some (.frz o u)) (tbls:∀b ps,H b=some (.tbl ps)->∃more,H' b=some (.tbl (ps++more)))
  (ns:∀m,s.heap.Ns X.env.locals m->h'.Ns X.env.locals m) (hok:HOk X.prog X.w H' h') (hg:Ob g') :
  Inv X Uq Z H' {s with heap:=h',gens:=g',drawn:=d',toks:=t'}:=by
 have neL:∀b o,X.s₀.heap.get? b=some o->b≠X.env.locals:=λb o e=>GO (GF (LP e) I.ok.above);have neC:∀b o,X.s₀.heap.get? b=some o->b∉X.ex->b∉ch:=λb o e hx hb=>by
  rcases(hch b hb).1 with z|z;exact hx z;exact absurd (GF (LP e) z) (Hc _)
 have cellK:∀x c,X.env.cells.lookup x=some c->∀v,s.heap.IsCell c v->h'.IsCell c v:=λx c e v ⟨o,ho,hd⟩=>by
  have nch:c∉ch:=λz=>(hch c z).2.2.1 x c e rfl;by_cases hc:c∈X.fs
  ·obtain⟨sl,q⟩:=slot c o (I.cne x c e) hc nch ho (I.freeC x c e);exact⟨_,q,hd⟩
  ·exact⟨o,keep c o (I.cne x c e) hc nch ho (I.freeC x c e),hd⟩
 apply⟨I.ok,I.os,hg,⟨λb o e n hb hx=>?_,λb o e n hb hx=>?_,λb o e n hx=>?_,λb o e hx=>?_,λb xs e=>tups b xs (I.base.tups b xs e),λb o xs e=>frzs b o xs (I.base.frzs b o xs e),λb ps e=>?_⟩,?_,λx c e=>?_,?_,λx c e=>?_,λp hp=>?_,hok,I.len⟩;exact keep b o (neL b o e) hb (neC b o e hx) (I.base.keep b o e n hb hx) (I.base.free b o e n hx)
 ·obtain⟨sl,e1⟩:=I.base.slot b o e n hb hx;obtain⟨sl',e2⟩:=slot b _ (neL b o e) hb (neC b o e hx) e1 (I.base.free b o e n hx);exact⟨sl',e2⟩
 ·obtain⟨o',e1⟩:=I.base.there b o e hx;exact free b o' (neC b o e hx) e1 (I.base.free b o e n hx)
 ·obtain⟨o',e1⟩:=I.base.there b o e hx;exact there b o' (neC b o e hx) e1
 ·obtain⟨m1,e1⟩:=I.base.tbls b ps e;obtain⟨m2,e2⟩:=tbls b _ e1;exact⟨m1++m2,by rw[e2,Array.append_assoc]⟩
 ·obtain⟨m,hn,hl⟩:=I.loc;apply⟨m,ns m hn,λi x v e1 e2 e3=>?_⟩;obtain⟨u,r,l⟩:=hl i x v e1 e2 e3;apply⟨u,r,?_⟩;rcases l with l|⟨k,c,e,z⟩;exact .inl l;exact .inr ⟨k,c,e,cellK x c e _ z⟩
 ·obtain⟨v,z⟩:=I.cell x c e;exact⟨v,cellK x c e v z⟩
 ·obtain⟨m,⟨o,_,_,ho,_⟩,_⟩:=I.loc;exact free _ o (λz=>(hch _ z).2.1 rfl) ho I.free
 ·obtain⟨v,o,ho,hd⟩:=I.cell x c e;exact free c o (λz=>(hch c z).2.2.1 x c e rfl) ho (I.freeC x c e)
 ·obtain⟨e,n,ne,nf,d⟩:=I.pin p hp;have nch:p.1∉ch:=λz=>(hch p.1 z).2.2.2 p hp rfl;exact⟨keep p.1 p.2 ne nf nch e n,free p.1 p.2 nch e n,ne,nf,d⟩
def Inv.un{t':Nat}(I:Inv X Uq Z H s)(u:Un X.fs [] H H' s.heap h')(hok:HOk X.prog X.w H' h'):Inv X Uq Z H' {s with heap:=h',toks:=t'}:=by
 obtain⟨m,⟨o,es,ep,ho,r⟩,_⟩:=id I.loc;obtain⟨sl,hL⟩:=u.any ho I.free ∅;exact I.step (g':=s.gens) (d':=s.drawn) (ch:=[]) (λ_ z=>nomatch z) (λb o _ hb _ e n=>u.keep b o e n hb ∅) (λb o _ hb _ e n=>u.slot b o e n hb ∅) (λb o _ e n=>u.free b o e n ∅) (λb o _ e=>u.there b o e ∅) u.tups u.frzs u.tbls (λm' hm=>by
  obtain⟨o',es',ep',ho',r'⟩:=hm;rw[ho]at ho';cases ho';exact⟨_,es',ep',hL,r'⟩) hok I.bare
def Inv.call{g':Array GenState}{t':Nat}{d':Drawn}{ch:List Addr}(I:Inv X Uq Z H s)(u:Un (frs X.stack) ch H H' s.heap h')(hok:HOk X.prog X.w H' h')(hg:Ob g')
  (hch:∀b∈ch,(b∈X.ex\/X.s₀.heap.objs.size<=b)/\b≠X.env.locals/\(∀x c,X.env.cells.lookup x=some c->c≠b)/\∀p∈X.pn++Uq,p.1≠b) :
  Inv X Uq Z H' {s with heap:=h',gens:=g',drawn:=d',toks:=t'}:=by
 obtain⟨m,⟨o,es,ep,ho,r⟩,_⟩:=id I.loc;obtain⟨sl,hL⟩:=u.any ho I.free λz=>(hch _ z).2.1 rfl;exact I.step (ch:=ch) hch (λb o hL hb hc e n=>u.keep b o e n (λz=>(ycM (I.stkSub b z)).elim hL hb) hc) (λb o _ _ hc e n=>u.any e n hc) (λb o hc e n=>u.free b o e n hc) (λb o hc e=>u.there b o e hc) u.tups u.frzs u.tbls (λm' hm=>by
  obtain⟨o',es',ep',ho',r'⟩:=hm;rw[ho]at ho';cases ho';exact⟨_,es',ep',hL,r'⟩) hok hg
def Inv.turned{t':Nat}{it:Addr}(I:Inv X Uq Z H s)(k:∀b o,b≠it->s.heap.get? b=some o->h'.get? b=some o)(hn:H it=none)(hL:it≠X.env.locals)
  (h1:it∈X.ex\/X.s₀.heap.objs.size<=it) (h2:∀x c,X.env.cells.lookup x=some c->c≠it) (h3:∀p∈X.pn++Uq,p.1≠it):Inv X Uq Z H {s with heap:=h',toks:=t'}:=by
 have nit:∀b u,H b=some u->b≠it:=λb u e z=>by rw[z,hn]at e;cases e
 apply I.step (g':=s.gens) (d':=s.drawn) (ch:=[it]) (λb hb=>?_) (λb o _ _ hc e _=>k b o (λz=>hc (by simp[z])) e) (λb o _ _ hc e _=>⟨o.slots,k b o (λz=>hc (by simp[z])) e⟩) (λ_ _ _ _ n=>n)
  (λb o hc e=>⟨o,k b o (λz=>hc (by simp[z])) e⟩) (λ_ _ e=>e) (λ_ _ _ e=>e) (λb ps e=>⟨#[],by rw[e];simp⟩) (λm hm=>?_) (λb u e=>?_) I.bare
 ·have e:b=it:=by exists hb
  subst e;exact⟨h1,hL,h2,h3⟩
 ·obtain⟨o,es,ep,ho,r⟩:=hm;exact⟨o,es,ep,k _ o (Mj hL) ho,r⟩
 ·apply(I.hok b u e).stay (λc v hc q=>k c v ?_ q) (λ_ q=>q) λ_ _ q=>q;rcases hc with z|z;rw[z];exact nit b u e;exact nit c _ z
def Inv.tok(I:Inv X Uq Z H s)(t:Nat):Inv X Uq Z H {s with toks:=t}:=I.un (h':=s.heap) (t':=t) Un.refl I.hok
def Inv.kept{t':Nat}(I:Inv X Uq Z H s)(k:∀b u,s.heap.get? b=some u->h'.get? b=some u):Inv X Uq Z H {s with heap:=h',toks:=t'}:=I.un (Un.kept k) (I.hok.kept k)
def Inv.laid{a:Addr}{o:HO}{t':Nat}(I:Inv X Uq Z H s)(k:∀b u,s.heap.get? b=some u->h'.get? b=some u)(hp:s.heap.objs.size<=a)(new:K6 X.prog X.w (upd H a o) h' a o) :
  Inv X Uq Z (upd H a o) {s with heap:=h',toks:=t'}:=I.un (Un.laid k hp (I.hok.fresh hp)) (I.hok.laid k hp new)
def Inv.write{x e:Addr}{o:HO}{t':Nat}(I:Inv X Uq Z H s)(mu:Mut (H x))(he:e=x\/H e=some (.own x))(k:∀b u,b≠e->s.heap.get? b=some u->h'.get? b=some u)(heo:∃u,h'.get? e=some u)
  (new:K6 X.prog X.w (upd H x o) h' x o):Inv X Uq Z (upd H x o) {s with heap:=h',toks:=t'}:=I.un (Un.write mu he k heo) (I.hok.write mu he k heo new)
def Inv.weak{Z':List (Option V)}(I:Inv X Uq Z H s)(hl:Z'.length=Z.length)(w:∀(i:Nat) v,Z'[i]?=some (some v)->Z[i]?=some (some v)):Inv X Uq Z' H s:=
 ⟨I.ok,I.os,I.bare,I.base,let ⟨m,hn,hl'⟩:=I.loc;⟨m,hn,λi x v e1 e2 e3=>hl' i x v e1 (w i v e2) e3⟩,I.cell,I.free,I.freeC,I.pin,I.hok,hl.trans I.len⟩
def Inv.pins_of{pins':List (Addr×Obj)}(I:Inv X Uq Z H s)(h:∀p∈pins',s.heap.get? p.1=some p.2/\H p.1=none/\p.1≠X.env.locals/\p.1∉X.fs/\∀v,p.2.data ≠ .cell v):Inv X pins' Z H s:=
 ⟨I.ok,I.os,I.bare,I.base,I.loc,I.cell,I.free,I.freeC,λp hp=>(yaM hp).elim (λz=>I.pin p (yaL _ z)) (h p),I.hok,I.len⟩
def nP{N:List Str}(hN:N.Nodup){i j:Nat}{x:Str}(a:N[i]?=some x)(b:N[j]?=some x):i=j:=by
 obtain⟨h1,e1⟩:=Gc.mp a;obtain⟨h2,e2⟩:=Gc.mp b;exact(List.getElem_inj hN).mp (e1.trans e2.symm)
def lO{M:Rj}{A:LX}{E:LH->LI->Prop}{i:Nat}{x:Str}{v:V}{u:LH}{Q:Unit->LI->Prop}(I:Inv X Uq Z H s)(hN:X.N.Nodup)(hi:X.N[i]?=some x)(hx:Loc X.env.scope x)(r:RelV v u)
  (h:∀s',Inv X Uq (Z.set i (some v)) H s'->(∃a,Oz a s.heap s'.heap/\(a=X.env.locals\/X.env.cells.lookup x=some a))->Q () s') (hf:X.fn x=true\/X.env.scope.names.lookup x=some .local:=by first|exact .inl rfl|exact .inr rfl|assumption):LN M A (Qz X.env x u) Q E s:=by
 obtain⟨m,hn,hl⟩:=id I.loc;have hcls:(X.env.scope.kind == .class||(X.env.scope.kind == .module&&X.env.locals != X.env.globals))=false:=by rw[I.ok.kind];rfl
 have hiZ:i<Z.length:=by rw[I.len];exact(Gc.mp hi).1
 have cne:=I.cne;have tracked:∀{a:Addr} {h':Heap},(∃o,s.heap.get? a=some o/\H a=none)->Oz a s.heap h'->HOk X.prog X.w H h':=λ{a h'} ha hs b ob e=>by
  obtain⟨_,_,hfree⟩:=ha;apply(I.hok b ob e).stay (λc w' hc q=>(hs.2 c ?_).trans q) (λ_ q=>q) λ_ _ q=>q;rintro rfl;rcases hc with rfl|hc;rw[hfree]at e;cases e;rw[hfree]at hc;cases hc
 rcases hx with hk|hk
 ·apply wpAny_storeName_local hk hn (λh' hn' hs=>?_) hcls;obtain⟨oL,_,_,hoL,_⟩:=id hn;apply h _ ⟨I.ok,I.os,I.bare,⟨λb o e n hb hx=>?_,λb o e n hb hx=>?_,I.base.free,λb o e hx=>?_,I.base.tups,I.base.frzs,I.base.tbls⟩,⟨_,hn',λj y v' e1 e2 e3=>?_⟩,λy c e=>?_,I.free,I.freeC,λp hp=>?_,tracked ⟨oL,hoL,I.free⟩ hs,by simpa using I.len⟩ ⟨_,hs,.inl rfl⟩;exact(hs.2 b (GO (GF (LP e) I.ok.above))).trans (I.base.keep b o e n hb hx)
  ·obtain⟨sl,e1⟩:=I.base.slot b o e n hb hx;exact⟨sl,(hs.2 b (GO (GF (LP e) I.ok.above))).trans e1⟩
  ·obtain⟨o',e1⟩:=I.base.there b o e hx;exact⟨o',(hs.2 b (GO (GF (LP e) I.ok.above))).trans e1⟩
  ·by_cases hj:j=i
   ·subst hj;rw[hi]at e1;cases e1;rw[Hg hiZ]at e2;cases e2;exact⟨u,r,.inl ⟨hk,by simp⟩⟩
   ·rw[GB (Mj hj)]at e2;obtain⟨u',r',q⟩:=hl j y v' e1 e2 e3;apply⟨u',r',?_⟩;rcases q with⟨k,e⟩|⟨k,c,e,z⟩
    ·apply .inl ⟨k,?_⟩;have:y≠x:=λe=>hj (nP hN e1 (e▸hi));simp[this,e]
    ·exact .inr ⟨k,c,e,z.sameBut hs (cne y c e)⟩
  ·obtain⟨w',z⟩:=I.cell y c e;exact⟨w',z.sameBut hs (cne y c e)⟩
  ·obtain⟨e,n,ne,nf,d⟩:=I.pin p hp;exact⟨(hs.2 p.1 ne).trans e,n,ne,nf,d⟩
 ·have hfn:X.fn x=true:=by
   rcases hf with z|z;exact z;rw[z]at hk;cases hk
  obtain⟨c,hc⟩:=I.ok.has x (.inl hk);obtain⟨w',z⟩:=I.cell x c hc;apply wpAny_storeName_cell I.ok.kind hk hc z (λh' hc' hs=>?_);obtain⟨oc,hoc,hocd⟩:=id z;apply h {s with heap:=h'} ⟨I.ok,I.os,I.bare,⟨λb o e n hb hx=>?_,λb o e n hb hx=>?_,I.base.free,λb o e hx=>?_,I.base.tups,I.base.frzs,I.base.tbls⟩,⟨m,hn.sameBut hs (Mj (cne x c hc)),λj y v' e1 e2 e3=>?_⟩,λy c' e=>?_,I.free,I.freeC,λp hp=>?_,tracked ⟨oc,hoc,I.freeC x c hc⟩ hs,by simpa using I.len⟩ ⟨c,hs,.inr hc⟩;exact(hs.2 b (GO (GF (LP e) (I.ok.cab x c hfn hc)))).trans (I.base.keep b o e n hb hx)
  ·obtain⟨sl,e1⟩:=I.base.slot b o e n hb hx;exact⟨sl,(hs.2 b (GO (GF (LP e) (I.ok.cab x c hfn hc)))).trans e1⟩
  ·obtain⟨o',e1⟩:=I.base.there b o e hx;exact⟨o',(hs.2 b (GO (GF (LP e) (I.ok.cab x c hfn hc)))).trans e1⟩
  ·by_cases hj:j=i
   ·subst hj;rw[hi]at e1;cases e1;rw[Hg hiZ]at e2;cases e2;exact⟨u,r,.inr ⟨.inl hk,c,hc,hc'⟩⟩
   ·rw[GB (Mj hj)]at e2;obtain⟨u',r',q⟩:=hl j y v' e1 e2 e3;apply⟨u',r',?_⟩;rcases q with q|⟨k,c',e,z'⟩;exact .inl q
    ·apply .inr ⟨k,c',e,z'.sameBut hs ?_⟩;rintro rfl;exact hj (nP hN e1 (I.ok.inj _ _ _ e hc▸hi))
  ·by_cases hcc:c'=c;subst hcc;exact⟨_,hc'⟩
   ·obtain⟨w2,z2⟩:=I.cell y c' e;exact⟨w2,z2.sameBut hs hcc⟩
  ·obtain⟨e,n,ne,nf,d⟩:=I.pin p hp;apply⟨(hs.2 p.1 ?_).trans e,n,ne,nf,d⟩;intro q;rw[q,hoc]at e;have q':oc=p.2:=GK.inj e;exact d w' (by rw[<-q'];exact hocd)
def gn{M:Rj}{A:LX}{E:LH->LI->Prop}{i:Nat}{x:Str}{v:V}{u:LH}{Q:Unit->LI->Prop}(I:Inv X Uq Z H s)(hN:X.N.Nodup)(hi:X.N[i]?=some x)(hx:Loc X.env.scope x)(r:RelV v u)
  (h:∀s',Inv X Uq (Z.set i (some v)) H s'->Q () s') (hf:X.fn x=true\/X.env.scope.names.lookup x=some .local:=by first|exact .inl rfl|exact .inr rfl|assumption):LN M A (Qz X.env x u) Q E s:=
 lO I hN hi hx r (λs' I' _=>h s' I') hf
def Inv.call'{s':LI}{ch:List Addr}(I:Inv X Uq Z H s)(ho:s'.os=s.os)(u:Un (frs X.stack) ch H H' s.heap s'.heap)(hok:HOk X.prog X.w H' s'.heap)(hg:Ob s'.gens)
  (hch:∀b∈ch,(b∈X.ex\/X.s₀.heap.objs.size<=b)/\b≠X.env.locals/\(∀x c,X.env.cells.lookup x=some c->c≠b)/\∀p∈X.pn++Uq,p.1≠b):Inv X Uq Z H' s':=by
 obtain⟨h',g',d',t',o'⟩:=s';have e:o'=s.os:=ho;subst e;exact I.call (g':=g') (t':=t') (d':=d') u hok hg hch
end
protected def XK:=LH->Option Addr->Hp->Prop
protected def St:=List (Option V)
protected def VK:=V->Hp->Prop
protected def TE:=St->Hp->VK->Prop
protected def TT:=St->Hp->(Bool->Hp->Prop)->Prop
protected def TA:=St->Hp->(List V->Hp->Prop)->Prop
structure Ls where
 nx:St->Hp->Prop
 rt:VK
 bk:St->Hp->Prop:=λ_ _=>False
 ct:St->Hp->Prop:=λ_ _=>False
protected def TS:=Ls->St->Hp->Prop
abbrev EP(X:Cx)(Uq:List (Addr×Obj))(Z:St)(Q:VK)(u:LH)(s':LI):Prop:=∃v H',Inv X Uq Z H' s'/\RelV v u/\Q v H'
abbrev TP(X:Cx)(Uq:List (Addr×Obj))(Z:St)(Q:Bool->Hp->Prop)(b:Bool)(s':LI):Prop:=∃H',Inv X Uq Z H' s'/\Q b H'
abbrev AP(X:Cx)(Uq:List (Addr×Obj))(Z:St)(Q:List V->Hp->Prop)(us:List LH)(s':LI):Prop:=∃vs H',Inv X Uq Z H' s'/\Vals vs us/\Q vs H'
abbrev SP(X:Cx)(Uq:List (Addr×Obj))(D:Ls)(f:Flow)(s':LI):Prop:=
 match f with
 | .next=>∃Z' H',Inv X Uq Z' H' s'/\D.nx Z' H'
 | .brk=>∃Z' H',Inv X Uq Z' H' s'/\D.bk Z' H'
 | .cont=>∃Z' H',Inv X Uq Z' H' s'/\D.ct Z' H'
 | .ret u=>∃v Z' H',Inv X Uq Z' H' s'/\RelV v u/\D.rt v H'
abbrev PE(X:Cx)(e:Expr)(t:TE):Prop:=
 ∀(Uq:List (Addr×Obj)) (s:LI) (Z:St) (H:Hp) (Q:VK),Inv X Uq Z H s->t Z H Q->LN (LO X.prog X.w) X.A (eval e X.env) (EP X Uq Z Q) X.xe s
abbrev PT(X:Cx)(e:Expr)(t:TT):Prop:=
 ∀(Uq:List (Addr×Obj)) (s:LI) (Z:St) (H:Hp) (Q:Bool->Hp->Prop),Inv X Uq Z H s->t Z H Q->LN (LO X.prog X.w) X.A (OP e X.env (eval e X.env)) (TP X Uq Z Q) X.xe s
abbrev PW(X:Cx)(e:Expr)(t:TT):Prop:=
 ∀(whole:Sem LH) (Uq:List (Addr×Obj)) (s:LI) (Z:St) (H:Hp) (Q:Bool->Hp->Prop),Inv X Uq Z H s->t Z H Q->LN (LO X.prog X.w) X.A (OP e X.env whole) (TP X Uq Z Q) X.xe s
def PW.pt{X:Cx}{e:Expr}{t:TT}(h:PW X e t):PT X e t:=h _
abbrev PA(X:Cx)(es:List Expr)(t:TA):Prop:=
 ∀(pos:Pos) (Uq:List (Addr×Obj)) (s:LI) (Z:St) (H:Hp) (Q:List V->Hp->Prop),Inv X Uq Z H s->t Z H Q->LN (LO X.prog X.w) X.A (spliced (Nk pos (Ma es X.env))) (AP X Uq Z Q) X.xe s
abbrev PS(X:Cx)(st:Stmt)(t:TS):Prop:=
 ∀(Uq:List (Addr×Obj)) (s:LI) (Z:St) (H:Hp) (D:Ls),Inv X Uq Z H s->t D Z H->LN (LO X.prog X.w) X.A (exec st X.env) (SP X Uq D) X.xe s
abbrev PSs(X:Cx)(st:List Stmt)(t:TS):Prop:=
 ∀(Uq:List (Addr×Obj)) (s:LI) (Z:St) (H:Hp) (D:Ls),Inv X Uq Z H s->t D Z H->LN (LO X.prog X.w) X.A (execs st X.env) (SP X Uq D) X.xe s
def thn{α:Type}{t:Sem α}{Q Q' : α->LI->Prop}{M:Rj}{A:LX}{E:LH->LI->Prop}{s:LI}(h:LN M A t Q E s)(hQ:∀a s,Q a s->Q' a s):LN M A t Q' E s:=LS h hQ λ_ _ x=>x
section
variable {X:Cx}
def bin{a b:Expr}{ta tb:TE}(ha:PE X a ta)(hb:PE X b tb){Uq:List (Addr×Obj)}{s:LI}{Z:St}{H:Hp}{R:V->V->Hp->Prop}(I:Inv X Uq Z H s)(h:ta Z H λx H1=>tb Z H1 λy H2=>R x y H2)
  {α:Type} {Q : α->LI->Prop} {f:LH->LH->Sem α}
  (hf:∀v u s2 x y H2,Inv X Uq Z H2 s2->RelV x v->RelV y u->R x y H2->LN (LO X.prog X.w) X.A (f v u) Q X.xe s2) :
  LN (LO X.prog X.w) X.A (eval a X.env) (λv s₁=>LN (LO X.prog X.w) X.A (eval b X.env) (λu s₂=>LN (LO X.prog X.w) X.A (f v u) Q X.xe s₂) X.xe s₁) X.xe s:=by
 apply thn (ha Uq s Z H _ I h) λv s1 ⟨x,H1,I1,r1,q1⟩=>?_;apply thn (hb Uq s1 Z H1 _ I1 q1) λu s2 ⟨y,H2,I2,r2,q2⟩=>?_;exact hf v u s2 x y H2 I2 r1 r2 q2
abbrev CV(i:Nat):TE:=λZ H Q=>∃v,Z[i]?=some (some v)/\Q v H
abbrev tC(v:V):TE:=λ_ H Q=>Q v H
def vk{i:Nat}{x:Str}{pos:Pos}(hN:X.N[i]?=some x)(hv:Vis X.env.scope x)(hd:(x==("__debug__" : Str))=false:=by decide)(hcd:(x==("__classdict__" : Str))=false:=by decide):PE X (.Name x pos) (CV i):=by
 intro Uq s Z H Q I h;obtain⟨v,e,h⟩:=h;obtain⟨m,hn,hl⟩:=I.loc;obtain⟨u,r,l⟩:=hl i x v hN e hv;have fin:EP X Uq Z Q u s:=⟨v,H,I,r,h⟩;rcases l with⟨hk,hm⟩|⟨hk,c,hc,hcell⟩;exact Qf (OQ I.ok.kind hk hn hm fin) hd
 ·rcases hk with hk|hk;exact Qf (Pb I.ok.kind hk hc hcell fin) hd;exact Qf (wpAny_loadName_free I.ok.kind hk hc hcell fin hcd) hd
def vj{i j pos}:PE X (.Constant (.int i) j pos) (tC (.int i)):=λ_ _ _ H _ I h=>wpAny_Constant_int ⟨.int i,H,I.tok _,⟨_,rfl⟩,h⟩
def D9{b j pos}:PE X (.Constant (.bool b) j pos) (tC (.bl b)):=λ_ _ _ H _ I h=>Constant_bool ⟨.bl b,H,I,rfl,h⟩
def BO{x j pos}:PE X (.Constant (.str x) j pos) (tC (.str x)):=λ_ _ _ H _ I h=>Calls.Constant_str ⟨.str x,H,I.tok _,⟨_,rfl⟩,h⟩
abbrev Gl(X:Cx)(x:Str):Prop:=X.env.kindOf x=some .globalImplicit
def xP{E:LH->LI->Prop}{Uq:List (Addr×Obj)}{s:LI}{Z:St}{H:Hp}{x:Str}{u:LH}{pos:Pos}{Q:LH->LI->Prop}(I:Inv X Uq Z H s)(hg:Gl X x)(hm:X.mg x=some u)(h:Q u s)
  (hd:(x==("__debug__" : Str))=false:=by decide):LN (LO X.prog X.w) X.A (eval (.Name x pos) X.env) Q E s:=
 NV I.ok.kind hg (Calls.loadGlobal_global (by rw[I.ok.glob];exact I.mod.glob.keeps I.bk) hm h) hd
def jd{E:LH->LI->Prop}{Uq:List (Addr×Obj)}{s:LI}{Z:St}{H:Hp}{x:Str}{u:LH}{pos:Pos}{Q:LH->LI->Prop}(I:Inv X Uq Z H s)(hg:Gl X x)(hm:X.mg x=none)(hv:MQ x=some u)(h:Q u s)
  (hn:x ≠ "__name__" :=by decide) (hd:(x==("__debug__" : Str))=false:=by decide):LN (LO X.prog X.w) X.A (eval (.Name x pos) X.env) Q E s:=by
 obtain⟨mb,h1,h2⟩:=I.mod.blt;exact NV I.ok.kind hg (Calls.loadGlobal_builtin (by rw[I.ok.glob];exact I.mod.glob.keeps I.bk) hm (by rw[I.ok.blt];exact h1.keeps I.bk) ((h2 x hn).trans hv) h) hd
variable {a b:Expr}{ta tb:TE}{pos:Pos}
abbrev PC(X:Cx)(op:QB)(a b:Expr)(t:TE):Prop:=
 ∀(Uq:List (Addr×Obj)) (s:LI) (Z:St) (H:Hp) (Q:VK),Inv X Uq Z H s->t Z H Q ->
  LN (LO X.prog X.w) X.A (eval a X.env) (λv s₁=>LN (LO X.prog X.w) X.A (eval b X.env) (λu s₂=>LN (LO X.prog X.w) X.A (Ml op v u) (EP X Uq Z Q) X.xe s₂) X.xe s₁) X.xe s
abbrev tB(t:TE):TT:=λZ H Q=>t Z H λx H1=>∃c,x=.bl c/\Q c H1
def pt_cmp{op:QB}{t:TE}(h:PC X op a b t)(h1:NC op b=false:=by first|exact nobehind _ (by decide) (by decide)|rfl):PT X (.Compare a [op] [b] pos) (tB t):=by
 intro Uq s Z H Q I hw;apply OL (thn (h Uq s Z H _ I hw) λv s1 h1=>thn h1 λu s2 h2=>thn h2 λc s3 ⟨x,H1,I1,r1,q1⟩=>?_) h1;obtain⟨d,rfl,q⟩:=q1;cases r1;exact MR ⟨H1,I1,q⟩
def B3{e:Expr}{t:TE}(h:PE X e t)(he:∀whole,OP e X.env whole=(do let v <-whole;Nd e.pos;MU [v] (Qg v)):=by intro _;rfl):PT X e (tB t):=by
 intro Uq s Z H Q I hw;apply isTrue_plain (thn (h Uq s Z H _ I hw) λv s1 ⟨x,H1,I1,r1,q1⟩=>?_) (he _);obtain⟨d,rfl,q⟩:=q1;cases r1;exact MR ⟨H1,I1,q⟩
variable {tA tB':TT}{rest:List Expr}
abbrev EY(t u:TT):TT:=λZ H Q=>t Z H λc H1=>if c=true then u Z H1 Q else Q false H1
abbrev tOr(t u:TT):TT:=λZ H Q=>t Z H λc H1=>if c=true then Q true H1 else u Z H1 Q
abbrev E8(t:TT):TT:=λZ H Q=>t Z H λc H1=>Q (!c) H1
def yL(ha:PT X a tA):PW X (.BoolOp .And [a] pos) tA:=by
 intro wh Uq s Z H Q I h;apply isTrue_and (thn (ha Uq s Z H Q I h) λc s1 e=>?_);cases c with
 | true=>exact isTrue_and_nil e
 | false=>exact e
def B6(ha:PT X a tA):PW X (.BoolOp .Or [a] pos) tA:=by
 intro wh Uq s Z H Q I h;apply isTrue_or (thn (ha Uq s Z H Q I h) λc s1 e=>?_);cases c with
 | false=>exact isTrue_or_nil e
 | true=>exact e
def B5(ha:PT X a tA)(hb:PW X (.BoolOp .And (b::rest) pos) tB'):PW X (.BoolOp .And (a::b::rest) pos) (EY tA tB'):=by
 intro wh Uq s Z H Q I h;apply isTrue_and (thn (ha Uq s Z H _ I h) λc s1 ⟨H1,I1,q1⟩=>?_);cases c with
 | true=>exact hb wh Uq s1 Z H1 Q I1 q1
 | false=>exact⟨H1,I1,q1⟩
def Eh(ha:PT X a tA)(hb:PW X (.BoolOp .Or (b::rest) pos) tB'):PW X (.BoolOp .Or (a::b::rest) pos) (tOr tA tB'):=by
 intro wh Uq s Z H Q I h;apply isTrue_or (thn (ha Uq s Z H _ I h) λc s1 ⟨H1,I1,q1⟩=>?_);cases c with
 | true=>exact⟨H1,I1,q1⟩
 | false=>exact hb wh Uq s1 Z H1 Q I1 q1
def B2(ha:PT X a tA):PT X (.UnaryOp .Not a pos) (E8 tA):=by
 intro Uq s Z H Q I h;exact isTrue_not (ha Uq s Z H (λc H1=>Q (!c) H1) I h)
abbrev E9(ta tb:TE):TE:=λZ H Q=>ta Z H λx H1=>∃c,x=.bl c/\if c=true then Q (.bl true) H1 else tb Z H1 Q
def BN{op}{t:TE}(h:PE X a t):PE X (.BoolOp op [a] pos) t:=λUq s Z H Q I hw=>BoolOp_one (h Uq s Z H Q I hw)
def Ee(ha:PE X a ta)(hb:PE X (.BoolOp .Or (b::rest) pos) tb):PE X (.BoolOp .Or (a::b::rest) pos) (E9 ta tb):=by
 intro Uq s Z H Q I h;apply BoolOp_or (thn (ha Uq s Z H _ I h) λv s1 ⟨x,H1,I1,r1,q1⟩=>?_);obtain⟨c,rfl,q1⟩:=q1;cases r1;apply MR ?_;cases c with
 | false=>exact hb Uq s1 Z H1 Q I1 q1
 | true=>exact⟨.bl true,H1,I1,rfl,q1⟩
end
abbrev SqL(K:yF)(H:Hp)(a:Addr)(xs:List V):Prop:=
 Rd H a (.lst xs) \/
  ∃(o:Obj) (its:Array LH) (n:Nat),K.lookup a=some o/\o.cls=.type "list" /\ o.dict=none/\o.data=.seq its n/\its.size<=sizeLine/\Vals xs its.toList
abbrev SqT(K:yF)(H:Hp)(a:Addr)(xs:List V):Prop:=
 Rd H a (.tup xs) \/
  ∃(o:Obj) (its:Array LH) (n:Nat),K.lookup a=some o/\(o.cls=.type "tuple" /\ o.dict=none)/\o.data=.seq its n/\its.size<=sizeLine/\Vals xs its.toList
abbrev FB:LH->Option V
 | .none=>some .non
 | .bool b=>some (.bl b)
 | .int i _=>some (.int i)
 | .str x _=>some (.str x)
 | .bytes b _=>some (.byt b)
 | .float b _=>some (.flt b)
 | .ref a=>some (.ref a)
 | .type n=>some (.ty n)
 | _=>none
def RelV.abs{x:V}{u:LH}(r:RelV x u):FB u=some x:=by
 cases x with
 | non=>cases r;rfl
 | bl _=>cases r;rfl
 | int _=>obtain⟨t,rfl⟩:=r;rfl
 | str _=>obtain⟨t,rfl⟩:=r;rfl
 | byt _=>obtain⟨t,rfl⟩:=r;rfl
 | flt _=>obtain⟨t,rfl⟩:=r;rfl
 | ref _=>cases r;rfl
 | ty _=>cases r;rfl
def RelV.inj{x y:V}{u:LH}(r:RelV x u)(q:RelV y u):x=y:=GK.inj (r.abs.symm.trans q.abs)
def Vals.inj:∀{xs ys:List V} {us:List LH},Vals xs us->Vals ys us->xs=ys:=by
 intro xs ys us h k
 induction h generalizing ys with
 | nil=>cases k;rfl
 | cons r t ih=>
  cases k with
  | cons r' t'=>rw[r.inj r',ih t']
section
variable {X:Cx}{Uq:List (Addr×Obj)}{Z:St}{H:Hp}{s:LI}{a:Addr}{xs ys:List V}
def SqL.of{K:yF}(h:H a=some (.lst xs)):SqL K H a xs:=.inl (.inl h)
def SqT.of{K:yF}(h:H a=some (.tup xs)):SqT K H a xs:=.inl (.inl h)
def Inv.list(I:Inv X Uq Z H s)(h:SqL X.K H a xs):∃its:List LH,Vals xs its/\PlainL s.heap a its.toArray/\xs.length<=sizeLine:=by
 rcases h with h|⟨o,its,n,hk,hc,hd,hs,hz,r⟩
 ·obtain⟨z,its,n,r,e⟩:=h.ok I.hok;exact⟨its,r,⟨_,n,e,rfl,rfl,rfl⟩,z⟩
 ·apply⟨its.toList,r,⟨o,n,I.kIn a o hk,hc,hd,by simpa using hs⟩,?_⟩;have e:=r.length;dsimp[G5]at e;omega
def Inv.tuple(I:Inv X Uq Z H s)(h:SqT X.K H a xs):∃its:List LH,Vals xs its/\NM s.heap a its.toArray/\xs.length<=sizeLine:=by
 rcases h with h|⟨o,its,n,hk,hc,hs,hz,r⟩
 ·obtain⟨z,its,r,p⟩:=h.ok I.hok;exact⟨its,r,p.to,z⟩
 ·apply⟨its.toList,r,⟨o,I.kIn a o hk,hc.1,n,by simpa using hs⟩,?_⟩;have e:=r.length;dsimp[G5]at e;omega
def Inv.list_inj(I:Inv X Uq Z H s)(h:SqL X.K H a xs)(h':SqL X.K H a ys):xs=ys:=by
 obtain⟨its,r,⟨o,n,e,_,_,d⟩,_⟩:=I.list h;obtain⟨its',r',⟨o',n',e',_,_,d'⟩,_⟩:=I.list h';rw[e]at e';cases e';rw[d]at d';injection d' with d1 _;have:its=its':=by simpa using congrArg Kz d1
 subst this;exact r.inj r'
def Inv.tuple_inj(I:Inv X Uq Z H s)(h:SqT X.K H a xs)(h':SqT X.K H a ys):xs=ys:=by
 obtain⟨its,r,⟨o,e,_,n,d⟩,_⟩:=I.tuple h;obtain⟨its',r',⟨o',e',_,n',d'⟩,_⟩:=I.tuple h';rw[e]at e';cases e';rw[d]at d';injection d' with d1 _;have:its=its':=by simpa using congrArg Kz d1
 subst this;exact r.inj r'
end
noncomputable abbrev Cx.wish(X:Cx) (E:LH->LI->Prop):Cx:={X with xe:=E}
noncomputable abbrev Cx.nox(X:Cx):Cx:=X.wish λ_ _=>False
def Cx.Ok.wish{X:Cx}(ok:X.Ok)(E:LH->LI->Prop):(X.wish E).Ok:=
 ⟨ok.mod,ok.kind,ok.glob,ok.blt,ok.above,ok.inj,ok.has,ok.cab,ok.hd,ok.gd,ok.frames,ok.stk,ok.exf,ok.bs,ok.bsz,ok.noex,ok.exfs,ok.funs,ok.frf⟩
def Cx.Ok.unwish{X:Cx}{E:LH->LI->Prop}(ok:(X.wish E).Ok):X.Ok:=
 ⟨ok.mod,ok.kind,ok.glob,ok.blt,ok.above,ok.inj,ok.has,ok.cab,ok.hd,ok.gd,ok.frames,ok.stk,ok.exf,ok.bs,ok.bsz,ok.noex,ok.exfs,ok.funs,ok.frf⟩
section
variable {X:Cx}{Uq:List (Addr×Obj)}{Z:St}{H:Hp}{s:LI}{E:LH->LI->Prop}
def Inv.wish(I:Inv X Uq Z H s)(E:LH->LI->Prop):Inv (X.wish E) Uq Z H s:=⟨I.ok.wish E,I.os,I.bare,I.base,I.loc,I.cell,I.free,I.freeC,I.pin,I.hok,I.len⟩
def Inv.unwish(I:Inv (X.wish E) Uq Z H s):Inv X Uq Z H s:=⟨I.ok.unwish,I.os,I.bare,I.base,I.loc,I.cell,I.free,I.freeC,I.pin,I.hok,I.len⟩
def SP.unwish{D:Ls}{f:Flow}{s':LI}(h:SP (X.wish E) Uq D f s'):SP X Uq D f s':=by
 cases f with
 | next=>obtain⟨Z',H',I,q⟩:=h;exact⟨Z',H',I.unwish,q⟩
 | brk=>obtain⟨Z',H',I,q⟩:=h;exact⟨Z',H',I.unwish,q⟩
 | cont=>obtain⟨Z',H',I,q⟩:=h;exact⟨Z',H',I.unwish,q⟩
 | ret u=>obtain⟨v,Z',H',I,r,q⟩:=h;exact⟨v,Z',H',I.unwish,r,q⟩
def PSs.nox{st:List Stmt}{t:TS}(h:PSs X.nox st t):PSs X st t:=λUq s Z H D I hw=>
 LS (h Uq s Z H D (I.wish _) hw) (λ_ _ q=>q.unwish) λ_ _ z=>M1 z
end
section
variable {X:Cx}{st:Stmt}{rest:List Stmt}{t u:TS}{e:Expr}{te:TE}{pos:Pos}
abbrev Aq:TS:=λD Z H=>D.nx Z H
abbrev Fc(t u:TS):TS:=λD Z H=>t {D with nx:=u D} Z H
def yG:PSs X [] Aq:=λ_ _ Z H _ I h=>NF ⟨Z,H,I,h⟩
def vN(h1:PS X st t)(h2:PSs X rest u):PSs X (st::rest) (Fc t u):=by
 intro Uq s Z H D I h;apply PX (thn (h1 Uq s Z H {D with nx:=u D} I h) λf s1 q=>?_);cases f with
 | next=>
  obtain⟨Z',H',I',q⟩:=q;exact h2 Uq s1 Z' H' D I' q
 | ret v=>exact q
 | brk=>exact q
 | cont=>exact q
def yH(h1:PS X st t):PSs X [st] t:=by
 intro Uq s Z H D I h;apply PX (thn (h1 Uq s Z H D I h) λf s1 q=>?_);cases f with
 | next=>exact NF q
 | ret v=>exact q
 | brk=>exact q
 | cont=>exact q
def Inv.quiet{Uq:List (Addr×Obj)}{Z:St}{H:Hp}{s:LI}(I:Inv X Uq Z H s):interactive X.env=false:=by simp[interactive,I.ok.kind]
abbrev Ap(te:TE):TS:=λD Z H=>te Z H λ_ H1=>D.nx Z H1
def yE(he:PE X e te)(hs:On e none pos.line X.env=pure false:=by rfl):PS X (.Expr e pos) (Ap te):=by
 intro Uq s Z H D I h;exact wpAny_Expr_any (thn (he Uq s Z H _ I h) λv s1 ⟨x,H1,I1,r1,q1⟩=>⟨Z,H1,I1,q1⟩) I.quiet hs
abbrev Fb(te:TE):TS:=λD Z H=>te Z H D.rt
def BZ(he:PE X e te):PS X (.Return (some e) pos) (Fb te):=by
 intro Uq s Z H D I h;exact wpAny_Return_some (thn (he Uq s Z H _ I h) λv s1 ⟨x,H1,I1,r1,q1⟩=>⟨x,Z,H1,I1,r1,q1⟩)
abbrev E5(c:TT)(t u:TS):TS:=λD Z H=>c Z H λb H1=>if b=true then t D Z H1 else u D Z H1
def Eg{c:Expr}{a b:List Stmt}{tc:TT}(hc:PT X c tc)(ha:PSs X a t)(hb:PSs X b u):PS X (.If c a b pos) (E5 tc t u):=by
 intro Uq s Z H D I h;apply wpAny_If (thn (hc Uq s Z H _ I h) λd s1 ⟨H1,I1,q1⟩=>?_);cases d with
 | true=>exact ha Uq s1 Z H1 D I1 q1
 | false=>exact hb Uq s1 Z H1 D I1 q1
end
protected def TG:=V->St->Hp->(St->Hp->Prop)->Prop
protected def TGs:=List V->St->Hp->(St->Hp->Prop)->Prop
abbrev PG(X:Cx)(target:Expr)(t:TG):Prop:=
 ∀(Uq:List (Addr×Obj)) (s:LI) (Z:St) (H:Hp) (v:V) (u:LH) (Q:St->Hp->Prop),Inv X Uq Z H s->RelV v u->t v Z H Q ->
  LN (LO X.prog X.w) X.A (Nb target X.env u) (λ_ s'=>∃Z' H',Inv X Uq Z' H' s'/\Q Z' H') X.xe s
abbrev PGs(X:Cx)(ts:List Expr)(t:TGs):Prop:=
 ∀(Uq:List (Addr×Obj)) (s:LI) (Z:St) (H:Hp) (vs:List V) (us:List LH) (Q:St->Hp->Prop),Inv X Uq Z H s->Vals vs us->t vs Z H Q ->
  LN (LO X.prog X.w) X.A (Pf ((MJ ts X.env).map (·.2)) us) (λ_ s'=>∃Z' H',Inv X Uq Z' H' s'/\Q Z' H') X.xe s
protected def Az:=V->V->V->Hp->(Hp->Prop)->Prop
abbrev Dq(X:Cx)(t:Az):Prop:=
 ∀(Uq:List (Addr×Obj)) (s:LI) (Z:St) (H:Hp) (o i v:V) (ov iv u:LH) (Q:Hp->Prop),Inv X Uq Z H s->RelV o ov->RelV i iv->RelV v u->t o i v H Q ->
  LN (LO X.prog X.w) X.A (OA ov iv u) (λ_ s'=>∃H',Inv X Uq Z H' s'/\Q H') X.xe s
protected def TIp:=V->V->Hp->VK->Prop
abbrev PIp(X:Cx)(op:Qh)(t:TIp):Prop:=
 ∀(Uq:List (Addr×Obj)) (s:LI) (Z:St) (H:Hp) (x y:V) (v u:LH) (Q:VK),Inv X Uq Z H s->RelV x v->RelV y u->t x y H Q ->
  LN (LO X.prog X.w) X.A (inplaceOp op v u) (EP X Uq Z Q) X.xe s
section
variable {X:Cx}{pos:Pos}
abbrev lw(i:Nat):TG:=λv Z H Q=>Q (Z.set i (some v)) H
def yu{i:Nat}{x:Str}(hN:X.N.Nodup)(hi:X.N[i]?=some x)(hx:Loc X.env.scope x)(hf:X.fn x=true\/X.env.scope.names.lookup x=some .local:=by first|exact .inl rfl|exact .inr rfl|assumption):PG X (.Name x pos) (lw i):=by
 intro Uq s Z H v u Q I r h;exact Pv (gn I hN hi hx r (λs' I'=>⟨_,H,I',h⟩) hf)
abbrev AT:TGs:=λvs Z H Q=>vs=[]/\Q Z H
abbrev up(t:TG)(u:TGs):TGs:=λvs Z H Q=>∃v r,vs=v::r/\t v Z H λZ' H'=>u r Z' H' Q
def yv:PGs X [] AT:=by
 intro Uq s Z H vs us Q I r h;obtain⟨e,h⟩:=h;subst e;cases r;exact Pw ⟨Z,H,I,h⟩
def vn{e:Expr}{es:List Expr}{t:TG}{u:TGs}(h1:PG X e t)(h2:PGs X es u)
  (hs:(MJ (e::es) X.env).map (·.2)=Nb e X.env::(MJ es X.env).map (·.2):=by rfl):PGs X (e::es) (up t u):=by
 intro Uq s Z H vs us Q I r h;obtain⟨v,vr,e1,h⟩:=h;subst e1;cases r with
 | cons r rr=>
  rw[hs];apply NW (thn (h1 Uq s Z H _ _ _ I r h) λ_ s1 ⟨Z1,H1,I1,q1⟩=>?_);exact h2 Uq s1 Z1 H1 _ _ Q I1 rr q1
abbrev xC(K:yF)(n:Nat)(t:TGs):TG:=λv Z H Q=>∃a xs,v=.ref a/\SqT K H a xs/\xs.length=n/\t xs Z H Q
def BR{es:List Expr}{k:Nat}{t:TGs}{n:Nat}(hc:X.calm=true)(h:PGs X es t)
  (hn:(MJ es X.env).length=n:=by rfl) (hst:(MJ es X.env).findIdx? (·.1)=none:=by rfl):PG X (.Tuple es k pos) (xC X.K n t):=by
 intro Uq s Z H v u Q I r hw;obtain⟨a,xs,e1,hq,hl,hw⟩:=hw;subst e1;cases r;obtain⟨its,rv,ht,hz⟩:=I.tuple hq;apply assign_Tuple_tuple (I.ok.hd hc) ht (by simp[hn,<-hl,rv.length]) hst λh' hx=>?_;have I1:Inv X Uq Z H {s with heap:=h'}:=I.kept (t':=s.toks) λb o e=>hx b o (GO (LP e)) e;exact h Uq _ Z H xs _ Q I1 (by exists rv) hw
abbrev Dy(to ti:TE)(t:Az):TG:=λv Z H Q=>to Z H λo H1=>ti Z H1 λi H2=>t o i v H2 λH3=>Q Z H3
def BQ{o i:Expr}{to ti:TE}{t:Az}(ho:PE X o to)(hi:PE X i ti)(hs:Dq X t)
  (ha:∀v,Nb (.Subscript o i pos) X.env v=(do
   let ov <-MU [v] (eval o X.env)
   let iv <-MU [v,ov] (eval i X.env)
   Nd pos
   MU [v,ov,iv] (OA ov iv v)
   QU [v,ov,iv] []):=by intro _;rfl):PG X (.Subscript o i pos) (Dy to ti t):=by
 intro Uq s Z H v u Q I r h;rw[ha];apply LG (Mi (thn (ho Uq s Z H _ I h) λov s1 ⟨x,H1,I1,r1,q1⟩=>?_));apply LG (Mi (thn (hi Uq s1 Z H1 _ I1 q1) λiv s2 ⟨y,H2,I2,r2,q2⟩=>?_));apply LG (Mx (LG (Mi (thn (hs Uq s2 Z H2 x y v ov iv u _ I2 r1 r2 r q2) λ_ s3 ⟨H3,I3,q3⟩=>?_))));exact wpAny_release ⟨Z,H3,I3,q3⟩
abbrev zD(te:TE)(g:TG):TS:=λD Z H=>te Z H λx H1=>g x Z H1 D.nx
def BV{tg e:Expr}{te:TE}{g:TG}(he:PE X e te)(hg:PG X tg g)(hs:Oe [tg] e pos.line X.env=pure false:=by rfl)(hw:Of [tg] e X.env=pure none:=by rfl)
  (h1:(MJ [tg] X.env).map (·.2)=[Nb tg X.env]:=by rfl):PS X (.Assign [tg] e pos) (zD te g):=by
 intro Uq s Z H D I h;apply wpAny_Assign_stores (thn (he Uq s Z H _ I h) λv s1 ⟨x,H1,I1,r1,q1⟩=>?_) hs hw;rw[h1];exact thn (hg Uq s1 Z H1 x v _ I1 r1 q1) λ_ s2 q=>q
def B1{i:Nat}{x:Str}{e:Expr}{te:TE}{pos':Pos}(hN:X.N.Nodup)(hi:X.N[i]?=some x)(hx:Loc X.env.scope x)(he:PE X e te)(hs:On e (some (.Name x pos')) pos.line X.env=pure false:=by rfl)(hf:X.fn x=true\/X.env.scope.names.lookup x=some .local:=by first|exact .inl rfl|exact .inr rfl|assumption) :
  PS X (.Assign [.Name x pos'] e pos) (zD te (lw i)):=by
 intro Uq s Z H D I h;apply wpAny_Assign_Name (thn (he Uq s Z H _ I h) λv s1 ⟨y,H1,I1,r1,q1⟩=>?_) hs;exact gn I1 hN hi hx r1 (λs2 I2=>⟨_,H1,I2,q1⟩) hf
abbrev Fa(i j:Nat)(ta:TA):TS:=λD Z H=>ta Z H λvs H1=>∃v w,vs=[v,w]/\D.nx ((Z.set i (some v)).set j (some w)) H1
def BY{i j:Nat}{x y:Str}{a b:Expr}{ta:TA}{px py pt:Pos}{kt k2 pt2}(hc:X.calm=true)(hN:X.N.Nodup)(hi:X.N[i]?=some x)(hj:X.N[j]?=some y)(hij:i≠j)
  (hx:X.env.scope.names.lookup x=some .local) (hy:X.env.scope.names.lookup y=some .local) (ha:PA X [a,b] ta)
  (hw:Of [.Tuple [.Name x px,.Name y py] kt pt] (.Tuple [a,b] k2 pt2) X.env=pure (some [x,y]))
  (hs:Oe [.Tuple [.Name x px,.Name y py] kt pt] (.Tuple [a,b] k2 pt2) pos.line X.env=pure false:=by rfl) :
  PS X (.Assign [.Tuple [.Name x px,.Name y py] kt pt] (.Tuple [a,b] k2 pt2) pos) (Fa i j ta):=by
 intro Uq s Z H D I h;rw[exec_Assign_arm];apply LG (Mx ?_);rw[hs];apply LG (LJ ?_);rw[if_neg (by decide)];apply LG (Tuple_ (thn (ha _ Uq s Z H _ I h) λus s1 ⟨vs,H1,I1,r1,q1⟩=>?_));obtain⟨v,w,e1,q1⟩:=q1;subst e1;obtain⟨u1,u2,rfl,rv,rw'⟩:∃u1 u2,us=[u1,u2]/\RelV v u1/\RelV w u2:=by
  cases r1 with
  | cons p q=>
   cases q with
   | cons p' q'=>
    cases q';exact⟨_,_,rfl,p,p'⟩
 apply LU ?_ (by show 2<=sizeLine;decide);have I2:Inv X Uq Z H1 {s1 with heap:=s1.heap.push {cls:=.type "tuple",data:=.seq [u1,u2].toArray}}:=I1.kept (t':=s1.toks) λb o e=>LK _ e;rw[hw];apply LG (LJ ?_);show LN (LO X.prog X.w) X.A (do rule "assign.swapped-stores";let items <-unpackItems (.ref s1.heap.objs.size) 2 none;Pf [λv=>Qi X.env y v,λv=>Qi X.env x v] items.reverse;pure Rl) _ _ _;apply LG (Nx (LG (unpackItems_tuple (items:=#[u1,u2]) (I.ok.hd hc) (NM.new s1.heap _) λh' hx'=>?_)));have I3:=I2.kept (h':=h') (t':=s1.toks) λb o e=>hx' b o (GO (LP e)) e;show LN _ _ (Pf [λv=>Qi X.env y v,λv=>Qi X.env x v] [u2,u1] >>= λ_=>pure Rl) _ _ _;apply LG (NW (Qj (gn I3 hN hj (.inl hy) rw' (λs2 I4=>?_) (.inr hy))));apply NW (Qj (gn I4 hN hi (.inl hx) rv (λs3 I5=>Pw (LJ ?_)) (.inr hx)));rw[List.set_comm _ _ (Mj hij)]at I5;exact⟨_,H1,I5,q1⟩
abbrev EZ(i:Nat)(te:TE)(ti:TIp):TS:=λD Z H=>∃x,Z[i]?=some (some x)/\te Z H λy H1=>ti x y H1 λz H2=>D.nx (Z.set i (some z)) H2
def BW{i:Nat}{x:Str}{e:Expr}{te:TE}{op:Qh}{ti:TIp}{pos':Pos}(hN:X.N.Nodup)(hi:X.N[i]?=some x)(hx:Loc X.env.scope x)(he:PE X e te)(ho:PIp X op ti)(hf:X.fn x=true\/X.env.scope.names.lookup x=some .local:=by first|exact .inl rfl|exact .inr rfl|assumption) :
  PS X (.AugAssign (.Name x pos') op e pos) (EZ i te ti):=by
 intro Uq s Z H D I h;obtain⟨v,e1,h⟩:=h;obtain⟨m,hn,hl⟩:=I.loc;have vis:Vis X.env.scope x:=by rcases hx with k|k;exact .inl k;exact .inr (.inl k)
 obtain⟨u,r,l⟩:=hl i x v hi e1 vis;apply wpAny_AugAssign_Name ?_;have go:LN (LO X.prog X.w) X.A (eval e X.env) (λw s₂=>LN (LO X.prog X.w) X.A (inplaceOp op u w) (λr s₃=>LN (LO X.prog X.w) X.A (Qz X.env x r) (λ_=>SP X Uq D .next) X.xe s₃) X.xe s₂) X.xe s:=by
  apply thn (he Uq s Z H _ I h) λw s1 ⟨y,H1,I1,r1,q1⟩=>?_;apply thn (ho Uq s1 Z H1 v y u w _ I1 r r1 q1) λz s2 ⟨zv,H2,I2,r2,q2⟩=>?_;exact gn I2 hN hi hx r2 (λs3 I3=>⟨_,H2,I3,q2⟩) hf
 rcases l with⟨hk,hm⟩|⟨hk,c,hc,hcell⟩;exact OQ I.ok.kind hk hn hm go
 ·rcases hk with hk|hk;exact Pb I.ok.kind hk hc hcell go
  ·rcases hx with k|k
   ·have:X.env.scope.names.lookup x=some .free:=hk;rw[k]at this;cases this
   ·have:X.env.scope.names.lookup x=some .free:=hk;rw[k]at this;cases this
abbrev ipI(f:Int->Int->Int):TIp:=λx y H Q=>∃i j,x=.int i/\y=.int j/\Q (.int (f i j)) H
def AY:PIp X .Add (ipI λi j=>i+j):=by
 intro Uq s Z H x y v u Q I r1 r2 h;obtain⟨i,j,e1,e2,q⟩:=h;subst e1;subst e2;obtain⟨t,rfl⟩:=r1;obtain⟨t',rfl⟩:=r2;exact iadd_int ⟨.int _,H,I.tok _,⟨_,rfl⟩,q⟩
end
section
variable {X:Cx}{pos:Pos}
abbrev wS(c:TT)(tb:TS):TS:=λD Z H=>∃W:Nat->St->Hp->Prop,(∃m,W m Z H)/\∀m Z H,W m Z H ->
 c Z H λb H1=>if b=true then∃N:St->Hp->Prop,(∀Z' H',N Z' H'->∃m',m'<m/\W m' Z' H')/\tb {D with nx:=N,ct:=N,bk:=D.nx} Z H1 else D.nx Z H1
def vM{c:Expr}{body:List Stmt}{tc:TT}{tb:TS}(hp:Oo (LO X.prog X.w) X.A X.env X.xe)(hc:PT X c tc)(hb:PSs X body tb):PS X (.While c body [] pos) (wS tc tb):=by
 intro Uq s Z H D I h;obtain⟨W,⟨m0,w0⟩,turn⟩:=h;apply wpAny_While (codeAny_whileLoop (λn s'=>∃Z' H',Inv X Uq Z' H' s'/\W n Z' H') ?_ m0 ⟨Z,H,I,w0⟩);rintro n s1 ⟨Z1,H1,I1,w1⟩;apply MN hp (thn (hc Uq s1 Z1 H1 _ I1 (turn n Z1 H1 w1)) λb s2 ⟨H2,I2,q2⟩=>?_);cases b with
 | true=>
  obtain⟨N,hN,q2⟩:=q2;rw[if_pos rfl];apply MN hp (thn (hb Uq s2 Z1 H2 _ I2 q2) λf s3 q3=>?_);cases f with
  | next=>
   obtain⟨Z3,H3,I3,n3⟩:=q3;obtain⟨m',hm,w3⟩:=hN Z3 H3 n3;exact⟨m',hm,Z3,H3,I3,w3⟩
  | cont=>
   obtain⟨Z3,H3,I3,n3⟩:=q3;obtain⟨m',hm,w3⟩:=hN Z3 H3 n3;exact⟨m',hm,Z3,H3,I3,w3⟩
  | brk=>exact q3
  | ret v=>exact q3
 | false=>
  rw[if_neg Gv];exact NF ⟨Z1,H2,I2,q2⟩
end
structure It where
 go:Nat->Hp->Prop
 yld:Nat->Hp->V->Hp->Prop
 stop:Nat->Hp->Prop
abbrev ed(X:Cx)(Uq:List (Addr×Obj))(H:Hp)(b:Addr):Prop:=
 H b=none/\b≠X.env.locals/\b∉X.fs/\(b∈X.ex\/X.s₀.heap.objs.size<=b)/\(∀x c,X.env.cells.lookup x=some c->c≠b)/\∀p∈X.pn++Uq,p.1≠b
def Inv.fpOk{X:Cx}{Uq:List (Addr×Obj)}{Z:St}{H H':Hp}{s:LI}{b:Addr}(I:Inv X Uq Z H s)(hb:s.heap.objs.size<=b)(hn:H' b=none):ed X Uq H' b:=by
 apply⟨hn,IR (GF I.lt hb),I.nofs hb,.inr (GV I.sz hb),λx c e z=>?_,λp hp z=>?_⟩
 ·obtain⟨v,q⟩:=I.cell x c e;exact absurd (GF q.lt (by rw[z];exact hb)) (Hc _)
 ·exact absurd (GF (LP (I.pin p hp).1) (by rw[z];exact hb)) (Hc _)
structure LB(P:LR)(w:Mb)(K:yF)(tg:Expr)(J:It)(fp:List Addr)(it:Addr)(tn:Nat->Heap->Prop):Prop where
 mem:it∈fp
 obj:∀i h,tn i h->∀b∈fp,∃o,h.get? b=some o/\∀v,o.data ≠ .cell v
 keep:∀i h h',tn i h->(∀b∈fp,∀o,h.get? b=some o->h'.get? b=some o)->tn i h'
 item:∀(X:Cx),X.prog=P->X.w=w->X.K=K->X.calm=true->∀(i:Nat) (Uq:List (Addr×Obj)) (s:LI) (Z:St) (H:Hp) (E:LH->LI->Prop),Inv X Uq Z H s->(∀b∈fp,ed X Uq H b)->tn i s.heap->J.go i H ->
  LN (LO P w) X.A (NX (.ref it)) (λr s1=>∃u,r=some u /\
   LN (LO P w) X.A (Mz tg (.ref it) u) (λ_ s2=>∃x H',Inv X Uq Z H' s2/\RelV x u/\J.yld i H x H'/\tn (i+1) s2.heap/\∀b∈fp,H' b=none) E s1) E s
 done:∀(X:Cx),X.prog=P->X.w=w->X.K=K->X.calm=true->∀(i:Nat) (Uq:List (Addr×Obj)) (s:LI) (Z:St) (H:Hp) (E:LH->LI->Prop),Inv X Uq Z H s->(∀b∈fp,ed X Uq H b)->tn i s.heap->J.stop i H ->
  LN (LO P w) X.A (NX (.ref it)) (λr s1=>r=none/\Inv X Uq Z H s1) E s
 self:∀(A:LX) (i:Nat) (s:LI) (Q:LH->LI->Prop) (E:LH->LI->Prop),tn i s.heap->Q (.ref it) s->LN (LO P w) A (Po (.ref it)) Q E s
protected def TI:=St->Hp->(It->Hp->Prop)->Prop
abbrev PIE(X:Cx)(Uq:List (Addr×Obj))(Z:St)(tg:Expr)(R:It->Hp->Prop)(itv:LH)(s2:LI):Prop:=
 ∃(it:Addr) (fp:List Addr) (tn:Nat->Heap->Prop) (J:It) (H':Hp),itv=.ref it/\Inv X Uq Z H' s2/\LB X.prog X.w X.K tg J fp it tn/\tn 0 s2.heap/\(∀b∈fp,ed X Uq H' b)/\R J H'
abbrev PI(X:Cx)(tg iter:Expr)(wi:TI):Prop:=
 ∀(Uq:List (Addr×Obj)) (s:LI) (Z:St) (H:Hp) (R:It->Hp->Prop),Inv X Uq Z H s->wi Z H R ->
  LN (LO X.prog X.w) X.A (eval iter X.env) (λv s1=>LN (LO X.prog X.w) X.A (Po v) (PIE X Uq Z tg R) X.xe s1) X.xe s
def qE{M:Rj}{A:LX}{E:LH->LI->Prop}{s:LI}{tg:Expr}{it:Addr}{u:LH}{o:Obj}{n:String}{vs:Array LH}{Q:Unit->LI->Prop}(ho:s.heap.get? it=some o)(hc:o.cls=.type n)(hd:o.data=.fields vs)
  (hn:["enumerate","zip","dict_itemiterator","dict_reverseitemiterator","odict_iterator","itertools.zip_longest","itertools.pairwise"].contains n=false) (hQ:Q () s):LN M A (Mz tg (.ref it) u) Q E s:=by
 unfold Mz;cases tg<;>first
  | exact LJ hQ
  | (cases u<;>first
    | exact LJ hQ
    | (refine LG (Qk ho ?_)
       rw[hc,hd];show LN M A (if(["enumerate","zip","dict_itemiterator","dict_reverseitemiterator","odict_iterator","itertools.zip_longest","itertools.pairwise"].contains n&&vs[0]? == some (NY _))=true then _ else _) Q E s;rw[if_neg (by intro h;rw[hn,Ku]at h;cases h)];exact LJ hQ))
abbrev Itl(K:yF) (a:Addr):It:=
 ⟨λi H=>∃xs x,SqL K H a xs/\xs[i]?=some x,λi H x H'=>H'=H/\∀xs,SqL K H a xs->xs[i]?=some x,λi H=>∃xs,SqL K H a xs/\xs.length<=i⟩
abbrev Itt(K:yF) (a:Addr):It:=
 ⟨λi H=>∃xs x,SqT K H a xs/\xs[i]?=some x,λi H x H'=>H'=H/\∀xs,SqT K H a xs->xs[i]?=some x,λi H=>∃xs,SqT K H a xs/\xs.length<=i⟩
abbrev Itr(lo:Int) (n:Nat):It:=⟨λi _=>i<n,λi H x H'=>H'=H/\x=.int (lo+i),λi _=>n<=i⟩
def tM{P:LR}{w:Mb}{K:yF}{tg:Expr}(a it:Addr):LB P w K tg (Itl K a) [it] it (λi h=>h.IsListIter it a i) where
 mem:=by simp
 obj:=λi h st b hb=>by
  have e:b=it:=by exists hb
  subst e;obtain⟨o,e,c,d⟩:=st;exact⟨o,e,λv z=>by rw[d]at z;cases z⟩
 keep:=λi h h' st k=>st.at λo e=>k it ∅ o e
 item:=by
  intro X hP hw hK hc i Uq s Z H E I hf st hg;subst hP hw hK;obtain⟨xs,x,hq,hx⟩:=hg;obtain⟨its,rv,p,hz⟩:=I.list hq;obtain⟨u,hu,ru⟩:=rv.get hx;obtain⟨f0,f1,f2,f3,f4,f5⟩:=hf it ∅;apply wpAny_pyNext_list_item st p.isList (x:=u) (by exists hu) λh' st' sb=>?_;have I1:Inv X Uq Z H {s with heap:=h'}:=I.turned (t':=s.toks) (λb o hb e=>(sb.2 b hb).trans e) f0 f1 f3 f4 f5;obtain⟨o,e,c,d⟩:=id st';exact⟨u,rfl,qE (s:={s with heap:=h'}) e c d (by decide) ⟨x,H,I1,ru,⟨rfl,λys hy=>by rw[I.list_inj hy hq];exact hx⟩,st',λb hb=>(hf b hb).1⟩⟩
 done:=by
  intro X hP hw hK hc i Uq s Z H E I hf st hg;subst hP hw hK;obtain⟨xs,hq,hx⟩:=hg;obtain⟨its,rv,p,hz⟩:=I.list hq;obtain⟨f0,f1,f2,f3,f4,f5⟩:=hf it ∅;have hl:=rv.length;exact wpAny_pyNext_list_end (I.ok.hd hc) st p.isList (by simp;omega) λh' eb=>⟨rfl,I.turned (t':=s.toks) (λb o hb e=>eb b o hb e) f0 f1 f3 f4 f5⟩
 self:=λ_ _ _ _ _ st h=>wpAny_pyIter_listiter st h
def qb{P:LR}{w:Mb}{K:yF}{tg:Expr}(a it:Addr):LB P w K tg (Itt K a) [it] it (λi h=>h.IsTupleIter it a i) where
 mem:=by simp
 obj:=λi h st b hb=>by
  have e:b=it:=by exists hb
  subst e;obtain⟨o,e,c,d⟩:=st;exact⟨o,e,λv z=>by rw[d]at z;cases z⟩
 keep:=λi h h' st k=>st.at λo e=>k it ∅ o e
 item:=by
  intro X hP hw hK hc i Uq s Z H E I hf st hg;subst hP hw hK;obtain⟨xs,x,hq,hx⟩:=hg;obtain⟨its,rv,p,hz⟩:=I.tuple hq;obtain⟨u,hu,ru⟩:=rv.get hx;obtain⟨f0,f1,f2,f3,f4,f5⟩:=hf it ∅;apply wpAny_pyNext_tuple_item st (show s.heap.IsTuple a its.toArray from p) (x:=u) (by exists hu) λh' st' sb=>?_;have I1:Inv X Uq Z H {s with heap:=h'}:=I.turned (t':=s.toks) (λb o hb e=>(sb.2 b hb).trans e) f0 f1 f3 f4 f5;obtain⟨o,e,c,d⟩:=id st';exact⟨u,rfl,qE (s:={s with heap:=h'}) e c d (by decide) ⟨x,H,I1,ru,⟨rfl,λys hy=>by rw[I.tuple_inj hy hq];exact hx⟩,st',λb hb=>(hf b hb).1⟩⟩
 done:=by
  intro X hP hw hK hc i Uq s Z H E I hf st hg;subst hP hw hK;obtain⟨xs,hq,hx⟩:=hg;obtain⟨its,rv,p,hz⟩:=I.tuple hq;obtain⟨f0,f1,f2,f3,f4,f5⟩:=hf it ∅;have hl:=rv.length;exact wpAny_pyNext_tuple_end (I.ok.hd hc) st (show s.heap.IsTuple a its.toArray from p) (by simp;omega) λh' eb=>⟨rfl,I.turned (t':=s.toks) (λb o hb e=>eb b o hb e) f0 f1 f3 f4 f5⟩
 self:=λ_ _ _ _ _ st h=>wpAny_pyIter_tupleiter st h
def qa{P:LR}{w:Mb}{K:yF}{tg:Expr}(it:Addr)(lo:Int)(n:Nat):LB P w K tg (Itr lo n) [it] it (λi h=>IsRangeIter h it (lo+(i:Nat)*1) ((n:Int)-(i:Nat)) 1) where
 mem:=by simp
 obj:=λi h st b hb=>by
  have e:b=it:=by exists hb
  subst e;exact⟨_,st,λv z=>by
   have z':Data.fields _=Data.cell v:=z;cases z'⟩
 keep:=λi h h' st k=>k it ∅ _ st
 item:=by
  intro X hP hw hK hc i Uq s Z H E I hf st hg;subst hP hw hK;obtain⟨f0,f1,f2,f3,f4,f5⟩:=hf it ∅;have W:=Q4.range (prog:=X.prog) (w:=X.w) (I.ok.hd hc) it lo 1 n;apply W.item i s _ _ hg st λv h' tk hv st' kk=>?_;obtain⟨t,rfl⟩:=hv;have I1:Inv X Uq Z H {s with heap:=h',toks:=tk}:=I.turned (λb o hb e=>kk b o (by exists hb) e) f0 f1 f3 f4 f5;apply⟨_,rfl,qE (s:={s with heap:=h',toks:=tk}) (n:="range_iterator") st' rfl rfl (by decide) ⟨.int (lo+i),H,I1,⟨t,?_⟩,⟨rfl,rfl⟩,st',λb hb=>(hf b hb).1⟩⟩;rw[Int.mul_one]
 done:=by
  intro X hP hw hK hc i Uq s Z H E I hf st hg;subst hP hw hK;obtain⟨f0,f1,f2,f3,f4,f5⟩:=hf it ∅;exact wpAny_pyNext_range_end (I.ok.hd hc) st (by have:n<=i:=hg;omega) λh' eb=>⟨rfl,I.turned (t':=s.toks) (λb o hb e=>eb b o hb e) f0 f1 f3 f4 f5⟩
 self:=λ_ _ _ _ _ st h=>wpAny_pyIter_rangeiter st h
section
variable {X:Cx}{tg:Expr}
abbrev qF(K:yF)(tl:TE):TI:=λZ H R=>tl Z H λx H1=>∃a,x=.ref a/\(∃xs,SqL K H1 a xs)/\R (Itl K a) H1
abbrev xF(K:yF)(tl:TE):TI:=λZ H R=>tl Z H λx H1=>∃a,x=.ref a/\(∃xs,SqT K H1 a xs)/\R (Itt K a) H1
def yx{l:Expr}{tl:TE}(hl:PE X l tl):PI X tg l (qF X.K tl):=by
 intro Uq s Z H R I h;apply thn (hl Uq s Z H _ I h) λv s1 ⟨x,H1,I1,r1,q1⟩=>?_;obtain⟨a,e,⟨xs,hq⟩,q⟩:=q1;subst e;cases r1;obtain⟨its,rv,p,hz⟩:=I1.list hq;apply Px p.isList ?_;apply⟨s1.heap.objs.size,[s1.heap.objs.size],_,_,H1,rfl,I1.kept (t':=s1.toks) λb o e=>LK _ e,tM a _,⟨_,LQ _ rfl,rfl,rfl⟩,λb hb=>?_,q⟩;have e:b=s1.heap.objs.size:=by exists hb
 subst e;exact I1.fpOk (Gj _) (I1.hok.fresh (Gj _))
def BU{l:Expr}{tl:TE}(hl:PE X l tl):PI X tg l (xF X.K tl):=by
 intro Uq s Z H R I h;apply thn (hl Uq s Z H _ I h) λv s1 ⟨x,H1,I1,r1,q1⟩=>?_;obtain⟨a,e,⟨xs,hq⟩,q⟩:=q1;subst e;cases r1;obtain⟨its,rv,p,hz⟩:=I1.tuple hq;apply wpAny_pyIter_tuple (show s1.heap.IsTuple a its.toArray from p) ?_;apply⟨s1.heap.objs.size,[s1.heap.objs.size],_,_,H1,rfl,I1.kept (t':=s1.toks) λb o e=>LK _ e,qb a _,⟨_,LQ _ rfl,rfl,rfl⟩,λb hb=>?_,q⟩;have e:b=s1.heap.objs.size:=by exists hb
 subst e;exact I1.fpOk (Gj _) (I1.hok.fresh (Gj _))
def n4{Uq:List (Addr×Obj)}{Z:St}{H:Hp}{s:LI}{R:It->Hp->Prop}{E:LH->LI->Prop}{lo hi:Int}{t u v:Tok}{tk:Nat}(I:Inv X Uq Z H s)(h1 : -(2^62)<=lo)(h2:lo<2^62)(h3 : -(2^62)<=hi)(h4:hi<2^62)
  (q:R (Itr lo (hi-lo).toNat) H):LN (LO X.prog X.w) X.A (Po (.ref s.heap.objs.size)) (PIE X Uq Z tg R) E {s with heap:=s.heap.push {cls:=.type "range",data:=.fields #[.int lo t,.int hi u,.int 1 v]},toks:=tk}:=by
 apply wpAny_pyIter_range (Py.new ..) (QD h1 h2 h3 h4) ?_;have I1:Inv X Uq Z H {s with heap:=s.heap.push {cls:=.type "range",data:=.fields #[.int lo t,.int hi u,.int 1 v]},toks:=tk}:=I.kept λb o e=>LK _ e;apply⟨(s.heap.push {cls:=.type "range",data:=.fields #[.int lo t,.int hi u,.int 1 v]}).objs.size,[(s.heap.push {cls:=.type "range",data:=.fields #[.int lo t,.int hi u,.int 1 v]}).objs.size],_,_,H,rfl,
  I1.kept (t':=tk) λb o e=>LK _ e,qa _ lo (hi-lo).toNat,?_,λb hb=>?_,q⟩
 ·have e1:lo+((0:Nat):Int)*1=lo:=by simp
  have e2:(((hi-lo).toNat:Nat):Int)-((0:Nat):Int)=MZ lo hi 1:=by rw[Pg];split<;>omega
  show IsRangeIter _ _ (lo+((0:Nat):Int)*1) ((((hi-lo).toNat:Nat):Int)-((0:Nat):Int)) 1;rw[e1,e2];exact LQ _ rfl
 ·have e:b=(s.heap.push {cls:=.type "range",data:=.fields #[.int lo t,.int hi u,.int 1 v]}).objs.size:=by exists hb
  subst e;exact I1.fpOk (Gj _) (I1.hok.fresh (Gj _))
abbrev zS(ta:TA):TI:=λZ H R=>ta Z H λvs H1=>∃j:Int,vs=[.int j]/\-(2^62)<=j/\j<2^62/\R (Itr 0 j.toNat) H1
abbrev zT(ta:TA):TI:=λZ H R=>ta Z H λvs H1=>∃i j:Int,vs=[.int i,.int j]/\(-(2^62)<=i/\i<2^62/\-(2^62)<=j/\j<2^62)/\R (Itr i (j-i).toNat) H1
def sI{a:Expr}{ta:TA}{p pos:Pos}(hg:Gl X "range")(hm:X.mg "range" = none)(ha:PA X [a] ta)(hs:Ma [a] X.env=[(false,eval a X.env)]:=by rfl):PI X tg (.Call (.Name "range" p) [a] [] pos) (zS ta):=by
 intro Uq s Z H R I h;apply Call_ (jd I hg hm boot_range (Hr (thn (ha pos Uq s Z H _ I h) λus s1 ⟨vs,H1,I1,r1,q1⟩=>?_) hs rfl));obtain⟨j,e,q1,q2,q⟩:=q1;subst e;cases r1 with
 | cons r rr=>
  cases rr;obtain⟨t,rfl⟩:=r;exact call_range_1 (n4 I1 ⋯ ⋯ q1 q2 (by exists q))
def sJ{a b:Expr}{ta:TA}{p pos:Pos}(hg:Gl X "range")(hm:X.mg "range" = none)(ha:PA X [a,b] ta)(hs:Ma [a,b] X.env=[(false,eval a X.env),(false,eval b X.env)]:=by rfl)(hs2:Ma [b] X.env=[(false,eval b X.env)]:=by rfl) :
  PI X tg (.Call (.Name "range" p) [a,b] [] pos) (zT ta):=by
 intro Uq s Z H R I h;apply Call_ (jd I hg hm boot_range (Hr (thn (ha pos Uq s Z H _ I h) λus s1 ⟨vs,H1,I1,r1,q1⟩=>?_) (by rw[hs,hs2]) (by rw[hs2];rfl)));obtain⟨i,j,e,⟨q1,q2,q3,q4⟩,q⟩:=q1;subst e;cases r1 with
 | cons r rr=>
  cases rr with
  | cons r' rr=>
   cases rr;obtain⟨t,rfl⟩:=r;obtain⟨t',rfl⟩:=r';exact call_range_2 (n4 I1 q1 q2 q3 q4 q)
abbrev E4(wi:TI)(g:TG)(tb:TS):TS:=λD Z H=>wi Z H λJ H1=>∃W:Nat->Nat->St->Hp->Prop,(∃m,W 0 m Z H1)/\∀i m Z H,W i m Z H ->
 (J.stop i H/\D.nx Z H)\/(J.go i H/\∃N:St->Hp->Prop,(∀Z' H',N Z' H'->∃m',m'<m/\W (i+1) m' Z' H')/\∀x H',J.yld i H x H'->g x Z H' λZ2 H2=>tb {D with nx:=N,ct:=N,bk:=D.nx} Z2 H2)
abbrev bu(fp:List Addr) (h:Heap):List (Addr×Obj):=fp.filterMap λb=>(h.get? b).map λo=>(b,o)
def bq{fp:List Addr}{h:Heap}{b:Addr}{o:Obj}(hb:b∈fp)(e:h.get? b=some o):(b,o)∈bu fp h:=GX.mpr ⟨b,hb,by rw[e];rfl⟩
def lH{fp:List Addr}{h:Heap}{p:Addr×Obj}(hp:p∈bu fp h):p.1∈fp/\h.get? p.1=some p.2:=by
 obtain⟨b,hb,e⟩:=GX.mp hp;cases q:h.get? b with
 | none=>rw[q]at e;cases e
 | some o=>
  rw[q]at e;have e':(b,o)=p:=GK.inj e;subst e';exact⟨hb,q⟩
def Inv.pinned{Uq:List (Addr×Obj)}{Z:St}{H:Hp}{s:LI}{fp:List Addr}(I:Inv X Uq Z H s)(hf:∀b∈fp,ed X Uq H b)(ho:∀b∈fp,∃o,s.heap.get? b=some o/\∀v,o.data ≠ .cell v):Inv X (Uq++bu fp s.heap) Z H s:=
 I.pins_of λp hp=>(yaM hp).elim (λz=>I.pin p (yaR _ z)) λz=>by
  obtain⟨hb,e⟩:=lH z;obtain⟨f0,f1,f2,_⟩:=hf p.1 hb;obtain⟨o,e',d⟩:=ho p.1 hb;rw[e]at e';cases e';exact⟨e,f0,f1,f2,d⟩
def Inv.unpinned{Uq pl:List (Addr×Obj)}{Z:St}{H:Hp}{s:LI}(I:Inv X (Uq++pl) Z H s):Inv X Uq Z H s:=I.pins_of λp hp=>I.pin p (yaR _ (yaL _ hp))
def BX{iter:Expr}{body:List Stmt}{wi:TI}{g:TG}{tb:TS}{pos:Pos}(hp:Oo (LO X.prog X.w) X.A X.env X.xe)(hc:X.calm=true)(hi:PI X tg iter wi)(hg:PG X tg g)(hb:PSs X body tb)
  (hs:∀x,LY iter X.env x=pure x:=by intro _;rfl):PS X (.For tg iter body [] pos) (E4 wi g tb):=by
 intro Uq s Z H D I h;apply wpAny_For (thn (hi Uq s Z H _ I h) λv s1 h1=>thn h1 λitv s2 h2=>?_) hs;obtain⟨it,fp,tn,J,H2,e,I2,T,st2,f2,W,⟨m0,w0⟩,turn⟩:=h2;subst e;have stat:∀{H':Hp},(∀b∈fp,H' b=none)->∀b∈fp,ed X Uq H' b:=λhn b hb=>⟨hn b hb,(f2 b hb).2⟩;apply codeAny_forLoop_any (λn s'=>∃i Z' H',Inv X Uq Z' H' s'/\tn i s'.heap/\(∀b∈fp,H' b=none)/\W i n Z' H') ?_ m0 ⟨0,Z,H2,I2,st2,λb hb=>(f2 b hb).1,w0⟩;rintro n s3 ⟨i,Z3,H3,I3,st3,fr3,w3⟩;rcases turn i n Z3 H3 w3 with⟨stop,qn⟩|⟨go,N,hN,step⟩
 ·apply MN hp (thn (T.done X rfl rfl rfl hc i Uq s3 Z3 H3 X.xe I3 (stat fr3) st3 stop) λr s4 ⟨hr,I4⟩=>?_);subst hr;exact NF ⟨Z3,H3,I4,qn⟩
 ·apply MN hp (thn (T.item X rfl rfl rfl hc i Uq s3 Z3 H3 X.xe I3 (stat fr3) st3 go) λr s4 ⟨u,hr,h4⟩=>?_);subst hr;apply MN hp (thn h4 λ_ s5 ⟨x,H5,I5,r5,y5,st5,fr5⟩=>?_);have I5':=I5.pinned (stat fr5) (T.obj _ _ st5);apply MN hp (thn (hg _ s5 Z3 H5 x u _ I5' r5 (step x H5 y5)) λ_ s6 ⟨Z6,H6,I6,q6⟩=>?_);apply MN hp (thn (hb _ s6 Z6 H6 _ I6 q6) λf s7 q7=>?_);have again:∀{Z7:St} {H7:Hp},Inv X (Uq++bu fp s5.heap) Z7 H7 s7->N Z7 H7->∃m,m<n/\∃i Z' H',Inv X Uq Z' H' s7/\tn i s7.heap/\(∀b∈fp,H' b=none)/\W i m Z' H':=λ{Z7 H7} I7 n7=>by
   obtain⟨m',hm,w7⟩:=hN Z7 H7 n7;apply⟨m',hm,i+1,Z7,H7,I7.unpinned,T.keep _ _ _ st5 λb hb o e=>(I7.pin (b,o) (yaR _ (yaR _ (bq hb e)))).1,λb hb=>?_,w7⟩;obtain⟨o,e,d⟩:=T.obj _ _ st5 b hb;exact(I7.pin (b,o) (yaR _ (yaR _ (bq hb e)))).2.1
  cases f with
  | next=>obtain⟨Z7,H7,I7,n7⟩:=q7;exact again I7 n7
  | cont=>obtain⟨Z7,H7,I7,n7⟩:=q7;exact again I7 n7
  | brk=>obtain⟨Z7,H7,I7,q7⟩:=q7;exact⟨Z7,H7,I7.unpinned,q7⟩
  | ret v=>obtain⟨x7,Z7,H7,I7,r7,q7⟩:=q7;exact⟨x7,Z7,H7,I7.unpinned,r7,q7⟩
end
protected def R2:=V->V->Hp->VK->Prop
abbrev OpR(X:Cx)(f:LH->LH->Sem LH)(r:R2):Prop:=
 ∀(Uq:List (Addr×Obj)) (s:LI) (Z:St) (H:Hp) (x y:V) (v u:LH) (Q:VK),Inv X Uq Z H s->RelV x v->RelV y u->r x y H Q ->
  LN (LO X.prog X.w) X.A (f v u) (EP X Uq Z Q) X.xe s
abbrev UnR(X:Cx)(f:LH->Sem LH)(r:V->Hp->VK->Prop):Prop:=
 ∀(Uq:List (Addr×Obj)) (s:LI) (Z:St) (H:Hp) (x:V) (v:LH) (Q:VK),Inv X Uq Z H s->RelV x v->r x H Q ->
  LN (LO X.prog X.w) X.A (f v) (EP X Uq Z Q) X.xe s
abbrev La(X:Cx)(f:LH)(r:List V->Hp->VK->Prop):Prop:=
 ∀(Uq:List (Addr×Obj)) (s:LI) (Z:St) (H:Hp) (xs:List V) (us:List LH) (Q:VK),Inv X Uq Z H s->Vals xs us->r xs H Q ->
  LN (LO X.prog X.w) X.A (call f us) (EP X Uq Z Q) X.xe s
abbrev FA(X:Cx)(r:V->Hp->(Bool->Hp->Prop)->Prop):Prop:=
 ∀(Uq:List (Addr×Obj)) (s:LI) (Z:St) (H:Hp) (x:V) (v:LH) (Q:Bool->Hp->Prop),Inv X Uq Z H s->RelV x v->r x H Q ->
  LN (LO X.prog X.w) X.A (Qg v) (TP X Uq Z Q) X.xe s
abbrev tOp(r:R2)(ta tb:TE):TE:=λZ H Q=>ta Z H λx H1=>tb Z H1 λy H2=>r x y H2 Q
abbrev tUn(r:V->Hp->VK->Prop)(ta:TE):TE:=λZ H Q=>ta Z H λx H1=>r x H1 Q
abbrev rI(C:Int->Int->Prop)(g:Int->Int->V):R2:=λx y H Q=>∃i j,x=.int i/\y=.int j/\C i j/\Q (g i j) H
abbrev rI0(g:Int->Int->V):R2:=λx y H Q=>∃i j,x=.int i/\y=.int j/\Q (g i j) H
abbrev rU(g:Int->V):V->Hp->VK->Prop:=λx H Q=>∃i,x=.int i/\Q (g i) H
section
variable {X:Cx}{a b c:Expr}{ta tb tc:TE}{pos:Pos}
def AF(ha:PE X a ta)(hb:PE X b tb){Uq:List (Addr×Obj)}{s:LI}{Z:St}{H:Hp}{R:V->V->Hp->Prop}(I:Inv X Uq Z H s)
  (h:ta Z H λx H1=>tb Z H1 λy H2=>R x y H2) {Q:LH->LI->Prop} {f:LH->LH->Sem LH}
  (hf:∀v u s2 x y H2,Inv X Uq Z H2 s2->RelV x v->RelV y u->R x y H2->LN (LO X.prog X.w) X.A (f v u) Q X.xe s2) :
  LN (LO X.prog X.w) X.A (eval a X.env) (λv s₁=>LN (LO X.prog X.w) X.A (eval b X.env) (λu s₂=>LN (LO X.prog X.w) X.A (f v u) Q X.xe s₂) X.xe s₁) X.xe s:=by
 apply thn (ha Uq s Z H _ I h) λv s1 ⟨x,H1,I1,r1,q1⟩=>?_;apply thn (hb Uq s1 Z H1 _ I1 q1) λu s2 ⟨y,H2,I2,r2,q2⟩=>?_;exact hf v u s2 x y H2 I2 r1 r2 q2
def Ed{op:Qh}{r:R2}(ho:OpR X (Ms op) r)(ha:PE X a ta)(hb:PE X b tb):PE X (.BinOp a op b pos) (tOp r ta tb):=by
 intro Uq s Z H Q I h;exact wpAny_BinOp (AF ha hb I h λv u s2 x y H2 I2 rx ry q=>ho Uq s2 Z H2 x y v u Q I2 rx ry q)
def Ef{op:UnaryOp}{r:V->Hp->VK->Prop}(ho:UnR X (unaryOp op) r)(ha:PE X a ta):PE X (.UnaryOp op a pos) (tUn r ta):=by
 intro Uq s Z H Q I h;exact UnaryOp_ (thn (ha Uq s Z H _ I h) λv s1 ⟨x,H1,I1,r1,q1⟩=>ho Uq s1 Z H1 x v Q I1 r1 q1)
def opI{f:LH->LH->Sem LH}{C:Int->Int->Prop}{g:Int->Int->Int}
  (rule:∀(i j:Int) (t u:Tok) (s:LI) (Q:LH->LI->Prop) (E:LH->LI->Prop),C i j->Q (.int (g i j) s.toks) {s with toks:=s.toks+1}->LN (LO X.prog X.w) X.A (f (.int i t) (.int j u)) Q E s) :
  OpR X f (rI C λi j=>.int (g i j)):=by
 intro Uq s Z H x y v u Q I rx ry h;obtain⟨i,j,rfl,rfl,hc,q⟩:=h;obtain⟨t,rfl⟩:=rx;obtain⟨t',rfl⟩:=ry;exact rule i j t t' s _ _ hc ⟨.int (g i j),H,I.tok _,⟨_,rfl⟩,q⟩
def DN{f:LH->LH->Sem LH}{g:Int->Int->Int}
  (rule:∀(i j:Int) (t u:Tok) (s:LI) (Q:LH->LI->Prop) (E:LH->LI->Prop),Q (.int (g i j) s.toks) {s with toks:=s.toks+1}->LN (LO X.prog X.w) X.A (f (.int i t) (.int j u)) Q E s) :
  OpR X f (rI0 λi j=>.int (g i j)):=by
 intro Uq s Z H x y v u Q I rx ry h;obtain⟨i,j,rfl,rfl,q⟩:=h;obtain⟨t,rfl⟩:=rx;obtain⟨t',rfl⟩:=ry;exact rule i j t t' s _ _ ⟨.int (g i j),H,I.tok _,⟨_,rfl⟩,q⟩
def Bg{f:LH->LH->Sem LH}{g:Int->Int->Bool}
  (rule:∀(i j:Int) (t u:Tok) (s:LI) (Q:LH->LI->Prop) (E:LH->LI->Prop),Q (.bool (g i j)) s->LN (LO X.prog X.w) X.A (f (.int i t) (.int j u)) Q E s) :
  OpR X f (rI0 λi j=>.bl (g i j)):=by
 intro Uq s Z H x y v u Q I rx ry h;obtain⟨i,j,rfl,rfl,q⟩:=h;obtain⟨t,rfl⟩:=rx;obtain⟨t',rfl⟩:=ry;exact rule i j t t' s _ _ ⟨.bl (g i j),H,I,rfl,q⟩
abbrev Av(i j:Int):Prop:=0<=j/\j<=1000000/\i.natAbs<2^64
abbrev LA(i j:Int):Prop:=(-(2^64)<i/\i<2^64)\/(-(2^64)<j/\j<2^64)
def LA.ok{i j:Int}(h:LA i j):IntMulOk i j:=by
 rcases h with⟨h1,h2⟩|⟨h1,h2⟩;exact .of_left (intBits_le_64 h1 h2);exact .of_right (intBits_le_64 h1 h2)
def op_add:OpR X (Ms .Add) (rI0 λi j=>.int (i+j)):=DN λ_ _ _ _ _ _ _ q=>add_int q
def Bt:OpR X (Ms .Sub) (rI0 λi j=>.int (i-j)):=DN λ_ _ _ _ _ _ _ q=>sub_int q
def op_mul:OpR X (Ms .Mult) (rI LA λi j=>.int (i*j)):=opI λ_ _ _ _ _ _ _ hc q=>mul_int q hc.ok
def Bo:OpR X (Ms .Mod) (rI (λ_ j=>0<j) λi j=>.int (i % j)):=opI λi j _ _ _ _ _ hc q=>by
 have h1:(0:Int)<j:=hc;exact mod_int' ⋯ (by rw[Int.fmod_eq_emod_of_nonneg i ⋯];exact q)
def Bs:OpR X (Ms .Pow) (rI Av λi j=>.int (i^j.toNat)):=opI λ_ _ _ _ _ _ _ hc q=>pow_int_small hc.1 hc.2.1 hc.2.2 q
def unI{f:LH->Sem LH}{g:Int->Int}
  (rule:∀(i:Int) (t:Tok) (s:LI) (Q:LH->LI->Prop) (E:LH->LI->Prop),Q (.int (g i) s.toks) {s with toks:=s.toks+1}->LN (LO X.prog X.w) X.A (f (.int i t)) Q E s) :
  UnR X f (rU λi=>.int (g i)):=by
 intro Uq s Z H x v Q I rx h;obtain⟨i,rfl,q⟩:=h;obtain⟨t,rfl⟩:=rx;exact rule i t s _ _ ⟨.int (g i),H,I.tok _,⟨_,rfl⟩,q⟩
def C4:UnR X (unaryOp .USub) (rU λi=>.int (-i)):=unI λ_ _ _ _ _ q=>neg_int q
end
abbrev wI:V->V->Bool
 | .non,.non=>true|.non,.int _=>true|.int _,.non=>true|.non,.bl _=>true|.bl _,.non=>true|.non,.str _=>true|.str _,.non=>true
 | .int _,.int _=>true|.bl _,.bl _=>true|.str _,.str _=>true|.byt _,.byt _=>true
 | .int _,.str _=>true|.str _,.int _=>true|.bl _,.str _=>true|.str _,.bl _=>true
 | _,_=>false
abbrev rEq:R2:=λx y H Q=>wI x y=true/\Q (.bl (decide (x=y))) H
abbrev rNe:R2:=λx y H Q=>wI x y=true/\Q (.bl (!decide (x=y))) H
def qv{i j:Int}:decide (V.int i=V.int j)=(i==j):=by
 rw[GR];simp
def uh{i j:Bool}:decide (V.bl i=V.bl j)=(i==j):=by
 rw[GR];simp
def qw{i j:Str}:decide (V.str i=V.str j)=(i==j):=by
 rw[GR];simp
def qu{i j:Array UInt8}:decide (V.byt i=V.byt j)=(i.toList==j.toList):=by
 rw[GR];cases i;cases j;simp
section
variable {X:Cx}{a b c:Expr}{ta tb tc:TE}{pos:Pos}
def aS{Uq:List (Addr×Obj)}{Z:St}{H:Hp}{s:LI}{Q:VK}{k k':Bool}(I:Inv X Uq Z H s)(q:Q (.bl k) H)(e:k=k'):EP X Uq Z Q (.bool k') s:=by
 subst e;exact⟨.bl k,H,I,rfl,q⟩
def op_eq:OpR X (Ml .Eq) rEq:=by
 intro Uq s Z H x y v u Q I rx ry h;obtain⟨hs,q⟩:=h;cases x with
 | non=>
  cases rx;cases y with
  | non=>cases ry;exact PySem.EqNone.eq_none_none (aS I q ∅)
  | bl j=>cases ry;exact PySem.EqNone.eq_none_bool (aS I q ∅)
  | int j=>obtain⟨t',rfl⟩:=ry;exact PySem.EqNone.eq_none_int (aS I q ∅)
  | str j=>obtain⟨t',rfl⟩:=ry;exact PySem.EqNone.eq_none_str (aS I q ∅)
  | _=>exact absurd (show false=true from hs) Gv
 | bl i=>
  cases rx;cases y with
  | non=>cases ry;exact PySem.EqNone.eq_bool_none (aS I q ∅)
  | bl j=>cases ry;exact eq_bool (aS I q uh)
  | str j=>obtain⟨t',rfl⟩:=ry;exact PySem.EqMixed.eq_bool_str (aS I q ∅)
  | _=>exact absurd (show false=true from hs) Gv
 | int i=>
  obtain⟨t,rfl⟩:=rx;cases y with
  | non=>cases ry;exact PySem.EqNone.eq_int_none (aS I q ∅)
  | int j=>obtain⟨t',rfl⟩:=ry;exact eq_int (aS I q qv)
  | str j=>obtain⟨t',rfl⟩:=ry;exact PySem.EqMixed.eq_int_str (aS I q ∅)
  | _=>exact absurd (show false=true from hs) Gv
 | str i=>
  obtain⟨t,rfl⟩:=rx;cases y with
  | non=>cases ry;exact PySem.EqNone.eq_str_none (aS I q ∅)
  | bl j=>cases ry;exact PySem.EqMixed.eq_str_bool (aS I q ∅)
  | int j=>obtain⟨t',rfl⟩:=ry;exact PySem.EqMixed.eq_str_int (aS I q ∅)
  | str j=>obtain⟨t',rfl⟩:=ry;exact eq_str (aS I q qw)
  | _=>exact absurd (show false=true from hs) Gv
 | byt i=>
  obtain⟨t,rfl⟩:=rx;cases y with
  | byt j=>obtain⟨t',rfl⟩:=ry;exact PySem.W.eq_bytes (aS I q qu)
  | _=>exact absurd (show false=true from hs) Gv
 | _=>cases y<;>exact absurd (show false=true from hs) Gv
def op_ne:OpR X (Ml .NotEq) rNe:=by
 intro Uq s Z H x y v u Q I rx ry h;obtain⟨hs,q⟩:=h;cases x with
 | non=>
  cases rx;cases y with
  | non=>cases ry;exact PySem.EqNone.ne_none_none (aS I q ∅)
  | bl j=>cases ry;exact PySem.EqNone.ne_none_bool (aS I q ∅)
  | int j=>obtain⟨t',rfl⟩:=ry;exact PySem.EqNone.ne_none_int (aS I q ∅)
  | str j=>obtain⟨t',rfl⟩:=ry;exact PySem.EqNone.ne_none_str (aS I q ∅)
  | _=>exact absurd (show false=true from hs) Gv
 | bl i=>
  cases rx;cases y with
  | non=>cases ry;exact PySem.EqNone.ne_bool_none (aS I q ∅)
  | bl j=>cases ry;exact ne_bool (aS I q (congrArg not uh))
  | str j=>obtain⟨t',rfl⟩:=ry;exact PySem.EqMixed.ne_bool_str (aS I q ∅)
  | _=>exact absurd (show false=true from hs) Gv
 | int i=>
  obtain⟨t,rfl⟩:=rx;cases y with
  | non=>cases ry;exact PySem.EqNone.ne_int_none (aS I q ∅)
  | int j=>obtain⟨t',rfl⟩:=ry;exact ne_int (aS I q (congrArg not qv))
  | str j=>obtain⟨t',rfl⟩:=ry;exact PySem.EqMixed.ne_int_str (aS I q ∅)
  | _=>exact absurd (show false=true from hs) Gv
 | str i=>
  obtain⟨t,rfl⟩:=rx;cases y with
  | non=>cases ry;exact PySem.EqNone.ne_str_none (aS I q ∅)
  | bl j=>cases ry;exact PySem.EqMixed.ne_str_bool (aS I q ∅)
  | int j=>obtain⟨t',rfl⟩:=ry;exact PySem.EqMixed.ne_str_int (aS I q ∅)
  | str j=>obtain⟨t',rfl⟩:=ry;exact ne_str (aS I q (congrArg not qw))
  | _=>exact absurd (show false=true from hs) Gv
 | byt i=>
  obtain⟨t,rfl⟩:=rx;cases y with
  | byt j=>obtain⟨t',rfl⟩:=ry;exact PySem.W.ne_bytes (aS I q (congrArg not qu))
  | _=>exact absurd (show false=true from hs) Gv
 | _=>cases y<;>exact absurd (show false=true from hs) Gv
def DQ:OpR X (Ml .Lt) (rI0 λi j=>.bl (decide (i<j))):=Bg λ_ _ _ _ _ _ _ q=>lt_int q
def DP:OpR X (Ml .Gt) (rI0 λi j=>.bl (decide (j<i))):=Bg λ_ _ _ _ _ _ _ q=>gt_int q
def DO:OpR X (Ml .GtE) (rI0 λi j=>.bl (decide (j<=i))):=Bg λ_ _ _ _ _ _ _ q=>ge_int q
def op_in_str:OpR X (Ml .In) (λx y H Q=>∃i j,x=.str i/\y=.str j/\Q (.bl (!(MH j i 0 j.length 1).isEmpty)) H):=by
 intro Uq s Z H x y v u Q I rx ry h;obtain⟨i,j,rfl,rfl,q⟩:=h;obtain⟨t,rfl⟩:=rx;obtain⟨t',rfl⟩:=ry;exact in_str (aS I q rfl)
def OpR.or{f:LH->LH->Sem LH}{r r':R2}(h:OpR X f r)(h':OpR X f r'):OpR X f (λx y H Q=>r x y H Q\/r' x y H Q):=by
 intro Uq s Z H x y v u Q I rx ry q;rcases q with q|q;exact h Uq s Z H x y v u Q I rx ry q;exact h' Uq s Z H x y v u Q I rx ry q
def yo{op:QB}{r:R2}(ho:OpR X (Ml op) r)(ha:PE X a ta)(hb:PE X b tb)(hm:NC op b=false):PE X (.Compare a [op] [b] pos) (tOp r ta tb):=by
 intro Uq s Z H Q I h;exact wpAny_Compare1 (AF ha hb I h λv u s2 x y H2 I2 rx ry q=>ho Uq s2 Z H2 x y v u Q I2 rx ry q) hm
abbrev Ar(t:TE):TT:=λZ H Q=>t Z H λx H'=>∃k,x=.bl k/\Q k H'
def yI{op:QB}{r:R2}(ho:OpR X (Ml op) r)(ha:PE X a ta)(hb:PE X b tb)(hm:NC op b=false):PT X (.Compare a [op] [b] pos) (Ar (tOp r ta tb)):=by
 intro Uq s Z H Q I h;apply OL (thn (ha Uq s Z H _ I h) λv s1 ⟨x,H1,I1,r1,q1⟩=>thn (hb Uq s1 Z H1 _ I1 q1) λu s2 ⟨y,H2,I2,r2,q2⟩=>
  thn (ho Uq s2 Z H2 x y v u _ I2 r1 r2 q2) λc s3 ⟨z,H3,I3,r3,k,e,q3⟩=>?_) hm
 subst e;cases r3;exact MR ⟨H3,I3,q3⟩
abbrev xm(K:yF)(x:V)(H:Hp)(k:Bool):Prop:=
 match x with
 | .non=>k=false
 | .bl b=>k=b
 | .int i=>k=(i != 0)
 | .str y=>y.length<=sizeLine/\k=((y.length:Int) != 0)
 | .byt y=>y.size<=sizeLine/\k=((y.size:Int) != 0)
 | .ref p=>(∃xs,SqL K H p xs/\k = !xs.isEmpty)\/(∃xs,SqT K H p xs/\k = !xs.isEmpty) \/ ∃kvs,H p=some (.dK kvs)/\k = !kvs.isEmpty
 | _=>False
def o9{κ : Type}{kvs:List (κ×V)}{vs:List (κ×LH)}(r:KV kvs vs):(!vs.isEmpty) = !kvs.isEmpty:=by
 cases r<;>rfl
def ke{xs:List V}{its:List LH}(r:Vals xs its):(!its.toArray.isEmpty) = !xs.isEmpty:=by
 cases r<;>simp
def g7:(sizeLine:Nat)<2^63:=by rw[LL];decide
def CW:FA X (λx H Q=>∃k,xm X.K x H k/\Q k H):=by
 intro Uq s Z H x v Q I rx h;obtain⟨k,e,q⟩:=h;have hl:=g7;have hs:sizeLine=16777216:=LL;cases x with
 | non=>
  cases rx;have e':k=false:=e;subst e';exact truthy_none ⟨H,I,q⟩
 | bl b=>
  cases rx;have e':k=b:=e;subst e';exact MR ⟨H,I,q⟩
 | int i=>
  obtain⟨t,rfl⟩:=rx;have e':k=(i != 0):=e;subst e';exact PySem.P.truthy_int ⟨H,I,q⟩
 | str y=>
  obtain⟨t,rfl⟩:=rx;obtain⟨hy,e'⟩:y.length<=sizeLine/\k=((y.length:Int) != 0):=e;subst e';exact PySem.P.truthy_str ⋯ ⟨H,I.tok _,q⟩
 | byt y=>
  obtain⟨t,rfl⟩:=rx;obtain⟨hy,e'⟩:y.size<=sizeLine/\k=((y.size:Int) != 0):=e;subst e';exact PySem.W.truthy_bytes ⋯ ⟨H,I.tok _,q⟩
 | ref p=>
  cases rx;have e':(∃xs,SqL X.K H p xs/\k = !xs.isEmpty)\/(∃xs,SqT X.K H p xs/\k = !xs.isEmpty) \/ ∃kvs,H p=some (.dK kvs)/\k = !kvs.isEmpty:=e;rcases e' with⟨xs,hx,e'⟩|⟨xs,hx,e'⟩|⟨kvs,hx,e'⟩
  ·subst e';obtain⟨its,r,pl,hz⟩:=I.list hx;have hlen:=r.length;exact wpAny_truthy_list pl.isList (by dsimp[Gf];omega) ⟨H,I.tok _,by rw[ke r];exact q⟩
  ·subst e';obtain⟨its,r,pl,hz⟩:=I.tuple hx;have hlen:=r.length;exact truthy_tuple pl (by dsimp[Gf];omega) ⟨H,I.tok _,by rw[ke r];exact q⟩
  ·subst e';obtain⟨hz,hS,vs,r,m⟩:kvs.length<=sizeLine/\(p==NU)=false/\∃vs,KV kvs vs/\s.heap.DictOf (bC X.prog X.w) p vs:=I.hok p _ hx;have hlen:kvs.length=vs.length:=Paired.length r;exact wpAny_truthy_dict hS m ⋯ ⟨H,I.tok _,by rw[o9 r];exact q⟩
 | _=>exact(show False from e).elim
def vO(ha:PE X a ta)(he:∀whole,OP a X.env whole=(do let v <-whole;Nd a.pos;MU [v] (Qg v))) :
  PT X a (λZ H Q=>ta Z H λx H'=>∃k,xm X.K x H' k/\Q k H'):=by
 intro Uq s Z H Q I h;exact isTrue_plain (thn (ha Uq s Z H _ I h) λv s1 ⟨x,H1,I1,r1,q1⟩=>CW Uq s1 Z H1 x v Q I1 r1 q1) (he _)
def op_add_str:OpR X (Ms .Add) (λx y H Q=>∃i j,x=.str i/\y=.str j/\i.length+j.length<=sizeLine/\Q (.str (i++j)) H):=by
 intro Uq s Z H x y v u Q I rx ry h;obtain⟨i,j,rfl,rfl,hz,q⟩:=h;obtain⟨t,rfl⟩:=rx;obtain⟨t',rfl⟩:=ry;exact add_str (λt' tk=>⟨.str (i++j),H,I.tok _,⟨_,rfl⟩,q⟩) hz
def fh{x:V}{us:List LH}(r:Vals [x] us):∃u,us=[u]/\RelV x u:=by
 cases r with
 | cons r1 r2=>cases r2;exact⟨_,rfl,r1⟩
def wU{x y:V}{us:List LH}(r:Vals [x,y] us):∃u w',us=[u,w']/\RelV x u/\RelV y w':=by
 cases r with
 | cons r1 r2=>
  cases r2 with
  | cons r3 r4=>cases r4;exact⟨_,_,rfl,r1,r3⟩
def rP(hc:X.calm=true):La X (.builtin "max") (λxs H Q=>∃i j,xs=[.int i,.int j]/\Q (.int (if j>i then j else i)) H):=by
 intro Uq s Z H xs us Q I r h;obtain⟨i,j,rfl,q⟩:=h;obtain⟨u,w',rfl,⟨t,rfl⟩,⟨t',rfl⟩⟩:=wU r;apply max_two_ints (I.ok.hd hc) λh' tk k=>⟨_,H,I.kept k,?_,q⟩;by_cases hj:j>i;rw[if_pos hj,if_pos hj];exact⟨_,rfl⟩;rw[if_neg hj,if_neg hj];exact⟨_,rfl⟩
def rQ(hc:X.calm=true):La X (.builtin "min") (λxs H Q=>∃i j,xs=[.int i,.int j]/\Q (.int (if j<i then j else i)) H):=by
 intro Uq s Z H xs us Q I r h;obtain⟨i,j,rfl,q⟩:=h;obtain⟨u,w',rfl,⟨t,rfl⟩,⟨t',rfl⟩⟩:=wU r;apply min_two_ints (I.ok.hd hc) λh' tk k=>⟨_,H,I.kept k,?_,q⟩;by_cases hj:j<i;rw[if_pos hj,if_pos hj];exact⟨_,rfl⟩;rw[if_neg hj,if_neg hj];exact⟨_,rfl⟩
def rN:La X (.type "int") (λxs H Q=>(∃i,xs=[.int i]/\Q (.int i) H) \/ ∃k,xs=[.bl k]/\Q (.int (if k then 1 else 0)) H):=by
 intro Uq s Z H xs us Q I r h;rcases h with⟨i,rfl,q⟩|⟨k,rfl,q⟩
 ·obtain⟨u,rfl,t,rfl⟩:=fh r;exact call_int_int ⟨.int i,H,I,⟨_,rfl⟩,q⟩
 ·obtain⟨u,rfl,r1⟩:=fh r;cases r1;exact call_int_bool ⟨.int (if k then 1 else 0),H,I.tok _,⟨_,rfl⟩,q⟩
end
structure ObjM(h:Heap)(x dx C:Addr)(mA:Str->Option LH):Prop where
 obj:h.get? x=some (Ko C dx)
 ns:h.Ns1 dx mA
 ne:dx≠x
def RelO.some_of{v:V}{o:Option LH}(r:RelO (some v) o):∃u,o=some u/\RelV v u:=by
 cases o with
 | none=>exact(show False from r).elim
 | some u=>exact⟨u,rfl,r⟩
structure Cls(K:yF)(C:Addr):Prop where
 pg:PySem.W.plainGet K C Str.empty=true
 hd:PySem.W.hasDictIn K C=true
 po:PySem.W.plainOver K C=true
 sa:IT K (.ref C) "__setattr__" = some (some (.builtin "object.__setattr__"))
structure Con(K:yF)(C:Addr)(f:Str)(v:V)(u:LH):Prop where
 at_:IT K (.ref C) f=some (some u)
 rel:RelV v u
 get:JW K u "__get__" = some none
 cp:PySem.W.copiedNames.contains f=false
structure Meth(K:yF)(C:Addr)(m:Str)(f:Addr):Prop where
 at_:IT K (.ref C) m=some (some (.ref f))
 fn:PySem.W.isFn K (.ref f)=true
 kp:HJ K (.ref f)=true
section
variable {X:Cx}{Uq:List (Addr×Obj)}{Z:St}{H:Hp}{s:LI}{A:LX}{E:LH->LI->Prop}{Q:LH->LI->Prop}{c:LH}{b:Bool}
inductive Lp(K:yF) (H:Hp):V->LH->Prop where
 | non:Lp K H .non (.type "NoneType")
 | bl (x:Bool):Lp K H (.bl x) (.type "bool")
 | int (i:Int):Lp K H (.int i) (.type "int")
 | str (x:Str):Lp K H (.str x) (.type "str")
 | flt (x:UInt64):Lp K H (.flt x) (.type "float")
 | lst {a:Addr} {xs:List V} (e:H a=some (.lst xs)):Lp K H (.ref a) (.type "list")
 | frz {a:Addr} {o:Obj} {xs:List V} (e:H a=some (.frz o (.lst xs))):Lp K H (.ref a) (.type "list")
 | tup {a:Addr} {xs:List V} (e:H a=some (.tup xs)):Lp K H (.ref a) (.type "tuple")
 | dK {a:Addr} {kvs:List (Key×V)} (e:H a=some (.dK kvs)):Lp K H (.ref a) (.type "dict")
 | dT {a:Addr} {kvs:List (List Key×V)} (e:H a=some (.dT kvs)):Lp K H (.ref a) (.type "dict")
 | ins {a C dx:Addr} {fs:List (Str×V)} (e:H a=some (.ins C dx fs)) (cl:Cls K C) (ha:IT K (.ref C) "__class__" = some (some (.builtin "object.__class__")))
   (hn:JW K (.builtin "object.__class__") "__get__" = some (some (.builtin "getset_descriptor.__get__"))) (htk:PySem.W.takesIn K (.builtin "object.__class__")=some true)
   (hm:PySem.W.mroIn K C (.type "object")=some true):Lp K H (.ref a) (.ref C)
end
structure Lb(k:Nat)(A:LX):Prop where
 hd:A.handled=none
 gd:A.guards=some []
 dp:A.depth+3*k+5<Ql
 un:A.units+16*k+200<My
def Lb.mono{j k:Nat}{A:LX}(r:Lb k A)(h:j<=k):Lb j A:=⟨r.hd,r.gd,by have:=r.dp;omega,by have:=r.un;omega⟩
def Lb.deeper{k:Nat}{A:LX}(r:Lb (k+1) A)(env:Env):Lb k (A.deeper env):=
 ⟨r.hd,r.gd,by have:=r.dp;show A.depth+1+3*k+5<_;omega,by have:=r.un;show A.units+3+16*k+200<_;omega⟩
def Lb.depth{k:Nat}{A:LX}(r:Lb k A):A.depth<Ql:=by have:=r.dp;omega
def Lb.units{k:Nat}{A:LX}(r:Lb k A):A.units+64<My:=by have:=r.un;omega
abbrev E7:TA:=λ_ H Q=>Q [] H
abbrev rB(ta:TE)(tr:TA):TA:=λZ H Q=>ta Z H λx H1=>tr Z H1 λxs H2=>Q (x::xs) H2
section
variable {X:Cx}{e:Expr}{es:List Expr}{te:TE}{t:TA}{pos:Pos}
def vc:PA X [] E7:=λ_ _ _ _ H Q I h=>Pz ⟨[],H,I,.nil,h⟩
def ym(ha:PE X e te)(hr:PA X es t)(hs:Ma (e::es) X.env=(false,eval e X.env)::Ma es X.env:=by rfl):PA X (e::es) (rB te t):=by
 intro pos Uq s Z H Q I h;rw[hs];show LN _ _ (spliced ((false,eval e X.env)::Nk pos (Ma es X.env))) _ _ s;apply Pp (thn (ha Uq s Z H _ I h) λu s1 ⟨x,H1,I1,r1,q1⟩=>?_);exact thn (hr pos Uq s1 Z H1 _ I1 q1) λus s2 ⟨xs,H2,I2,r2,q2⟩=>⟨x::xs,H2,I2,.cons r1 r2,q2⟩
abbrev Fe(t:TA):TE:=λZ H Q=>t Z H λxs H1=>xs.length<=sizeLine/\∀p,H1 p=none->Q (.ref p) (upd H1 p (.tup xs))
abbrev E6(t:TA):TE:=λZ H Q=>t Z H λxs H1=>xs.length<=sizeLine/\∀p,H1 p=none->Q (.ref p) (upd H1 p (.lst xs))
def BP{x1}(h:PA X es t):PE X (.Tuple es x1 pos) (Fe t):=by
 intro Uq s Z H Q I hq;apply wpAny_Tuple_spliced (thn (h pos Uq s Z H _ I hq) λus s1 ⟨xs,H1,I1,r,z,q⟩=>⟨by rw[<-r.length];exact z,?_⟩);have hf:H1 s1.heap.objs.size=none:=I1.hok.fresh (Gj _);apply⟨.ref s1.heap.objs.size,upd H1 s1.heap.objs.size (.tup xs),I1.laid (t':=s1.toks) (λb u e=>LK _ e) (Gj _) ?_,rfl,q _ hf⟩;exact⟨z,us,r,⟨_,LQ _ rfl,⟨rfl,rfl⟩,_,rfl⟩⟩
def BM(h:PA X es t):PE X (.List es pos) (E6 t):=by
 intro Uq s Z H Q I hq;apply wpAny_List_spliced (thn (h pos Uq s Z H _ I hq) λus s1 ⟨xs,H1,I1,r,z,q⟩=>⟨by rw[<-r.length];exact z,?_⟩);have hf:H1 s1.heap.objs.size=none:=I1.hok.fresh (Gj _);apply⟨.ref s1.heap.objs.size,upd H1 s1.heap.objs.size (.lst xs),I1.laid (t':=s1.toks) (λb u e=>LK _ e) (Gj _) ?_,rfl,q _ hf⟩;exact⟨z,us,0,r,LQ _ rfl⟩
end
protected def Sp:=List V->Hp->VK->XK->Prop
protected def CXT:=List Env->Hp->LI->XK->LH->LI->Prop
structure LC(P:LR)(w:Mb)(K:yF)(mg:Str->Option LH)(base:Heap)(A:LX)(outer:List Env)(s:LI)(H:Hp):Prop where
 frames:A.frames=some outer
 mod:Mod K mg base
 bs:∀b o,base.get? b=some o->s.heap.get? b=some o/\H b=none
 bsz:base.objs.size<=s.heap.objs.size
 funs:s.heap.FunFrames base outer
 frf:∀b∈frs outer,H b=none
 hok:HOk P w H s.heap
 bare:Ob s.gens
abbrev CE(outer:List Env)(P:LR)(w:Mb)(H:Hp)(s:LI)(Q:VK)(u:LH)(s':LI):Prop:=
 ∃v H',s'.os=s.os/\Ob s'.gens/\Un (frs outer) [] H H' s.heap s'.heap/\HOk P w H' s'.heap/\RelV v u/\Q v H'
abbrev CR(CX:CXT)(outer:List Env)(P:LR)(w:Mb)(H:Hp)(s:LI)(Q:VK)(E:XK)(r:Og)(s':LI):Prop:=
 match r with
 | .ok (.ret u)=>CE outer P w H s Q u s'
 | .ok _=>False
 | .error e=>CX outer H s E e s'
structure Lx(P:LR)(w:Mb)(K:yF)(mg:Str->Option LH)(base:Heap)(CX:CXT)(k:Nat)(f:Addr)(fd:M5)(ps:List Str)(sp:Sp):Prop where
 len:∀vs H Q E,sp vs H Q E->vs.length=ps.length
 run:∀(A:LX) (outer:List Env) (s:LI) (H:Hp) (args:Args) (us:List LH) (vs:List V) (Q:VK) (E:XK),Lb k A->LC P w K mg base A outer s H->O7 s fd args (ps.zip us)->Vals vs us->sp vs H Q E ->
  Mv (LO P w) A (.call (.ref f) args) (CR CX outer P w H s Q E) s
section
variable {X:Cx}{Uq:List (Addr×Obj)}{Z:St}{H:Hp}{s s':LI}
def Inv.env0(I:Inv X Uq Z H s):LC X.prog X.w X.K X.mg X.base X.A X.stack s H:=
 ⟨I.ok.frames,I.ok.mod,I.bs,GV I.ok.bsz I.sz,I.stack,I.stkFree,I.hok,I.bare⟩
def Inv.after{Q:VK}{u:LH}(I:Inv X Uq Z H s)(h:CE X.stack X.prog X.w H s Q u s'):EP X Uq Z Q u s':=by
 obtain⟨v,H',os,bare,un,hok,r,q⟩:=h;obtain⟨hh,g,d,t,os'⟩:=s';obtain rfl:os'=s.os:=os;exact⟨v,H',I.call (h':=hh) (g':=g) (d':=d) (t':=t) (ch:=[]) un hok bare (λb z=>absurd z ∅),r,q⟩
end
abbrev lR(sp:Sp)(dvs:List V)(E:XK)(t:TA):TE:=λZ H Q=>t Z H λvs H1=>sp (vs++dvs) H1 Q E
abbrev Lu(K:yF)(fd:M5)(ps:List Str)(ds:List LH):Prop:=
 ∀(s:LI) (us:List LH),K.In s.heap->(us++ds).length=ps.length->O7 s fd ⟨us,[]⟩ (ps.zip (us++ds))
def Lu.all{K:yF}{fd:M5}{ps:List Str}(h:∀us:List LH,us.length=ps.length->Qm fd ⟨us,[]⟩=pure (ps.zip us)):Lu K fd ps []:=λs us _ hl=>by
 rw[Gy]at hl|-;exact .of_eq (h us hl)
abbrev oT(CX:CXT)(X:Cx)(E:XK):Prop:=∀(Uq:List (Addr×Obj)) (Z:St) (H:Hp) (s:LI) (e:LH) (s':LI),Inv X Uq Z H s->CX X.stack H s E e s'->X.xe e s'
section
variable {X:Cx}{CX:CXT}{k:Nat}{f C:Addr}{fd:M5}{ps:List Str}{sp:Sp}{dvs:List V}{ds:List LH}{E:XK}{x m:Str}{p pos apos:Pos}{e o:Expr}{es:List Expr}{ta:TE}{t:TA}
def CM{Uq:List (Addr×Obj)}{Z:St}{H:Hp}{s:LI}{Q:VK}{us:List LH}{vs:List V}(F:Lx X.prog X.w X.K X.mg X.base CX k f fd ps sp)(hr:Lb k X.A)(hb:Lu X.K fd ps ds)(hd:Vals dvs ds)(hx:oT CX X E)
  (I:Inv X Uq Z H s) (r:Vals vs us) (h:sp (vs++dvs) H Q E):LN (LO X.prog X.w) X.A (call (.ref f) us) (EP X Uq Z Q) X.xe s:=by
 have r2:Vals (vs++dvs) (us++ds):=r.append hd;have hl:(us++ds).length=ps.length:=by rw[<-r2.length];exact F.len _ _ _ _ h
 apply wpAny_call (NQ (F.run X.A X.stack s H ⟨us,[]⟩ (us++ds) (vs++dvs) Q E hr I.env0 (hb s us I.kIn hl) r2 h) λr s' hq=>?_);cases r with
 | error e=>exact hx Uq Z H s e s' I hq
 | ok fl=>
  cases fl with
  | ret u=>exact I.after hq
  | next=>exact M1 hq
  | brk=>exact M1 hq
  | cont=>exact M1 hq
def yn(F:Lx X.prog X.w X.K X.mg X.base CX k f fd ps sp)(hr:Lb k X.A)(hg:Gl X x)(hm:X.mg x=some (.ref f))(hk:HJ X.K (.ref f)=true)(hb:Lu X.K fd ps ds)(hd:Vals dvs ds)(hx:oT CX X E)
  (ha:PA X (e::es) t) (hdb:(x==("__debug__" : Str))=false:=by decide) (he:Ma (e::es) X.env=(false,eval e X.env)::Ma es X.env:=by rfl) (hpl:(Nk pos (Ma es X.env)).any (·.1)=false:=by rfl) :
  PE X (.Call (.Name x p) (e::es) [] pos) (lR sp dvs E t):=by
 intro Uq s Z H Q I h;apply M3 (xP I hg hm ?_ hdb);apply PySem.W.callWith_K (h₀:=X.base) I.ok.mod.kin hk (thn (ha pos Uq s Z H _ I h) λus s1 ⟨vs,H1,I1,r,q⟩=>⟨I1.kIn,?_⟩) he hpl;exact CM F hr hb hd hx I1 r q
end
section
variable {X:Cx}{CX:CXT}{k:Nat}{f C:Addr}{fd:M5}{ps ks:List Str}{sp:Sp}{E:XK}{x m:Str}{p pos apos kpos:Pos}{e o:Expr}{es:List Expr}{kws:List Qc}{te ta:TE}{t tk:TA}{nm:Option Str}
structure KBinds(K:yF)(fd:M5)(ps ks:List Str)(g:List LH->List LH->List LH)(gV:List V->List V->List V):Prop where
 to:∀(s:LI) (us ws:List LH),K.In s.heap->(g us ws).length=ps.length->O7 s fd ⟨us,ks.zip ws⟩ (ps.zip (g us ws))
 rel:∀{vs:List V} {us:List LH} {zs:List V} {ws:List LH},Vals vs us->Vals zs ws->Vals (gV vs zs) (g us ws)
variable {g:List LH->List LH->List LH}{gV:List V->List V->List V}
end
structure KU(N P:List Str)(sc:ML):Prop where
 kind:sc.kind=.function
 co:sc.isCoroutine=false
 gen:sc.isGenerator=false
 nd:N.Nodup
 pre:N.take P.length=P
 par:∀x∈P,sc.names.lookup x=some .local\/sc.names.lookup x=some .cell
 nofree:∀y∈sc.names,y.2 ≠ .free
def ln{kindOf:Str->Option LV}{x:Str}:∀{binds:List (Str×LH)} {m:Str->Option LH},(∀v,(x,v)∉binds)->Qn kindOf binds m x=m x
 | [],_,_=>rfl
 | (n,v)::r,m,h=>by
  unfold Qn;rw[ln λw hw=>h w (ymC _ hw)];split
  ·have:x≠n:=by rintro rfl;exact h v ymS
   simp[this]
  ·rfl
def lj{kindOf:Str->Option LV}{x:Str}:∀{binds:List (Str×LH)} {m:Str->Option LH},(∀v,(x,v)∉binds)->Qo kindOf binds m x=m x
 | [],_,_=>rfl
 | (n,v)::r,m,h=>by
  unfold Qo;rw[lj λw hw=>h w (ymC _ hw)];split;rfl
  ·have:x≠n:=by rintro rfl;exact h v ymS
   simp[this]
def lm{kindOf:Str->Option LV}{x:Str}{v:LH}:∀{P:List Str} {vs:List LH} {i:Nat} {m:Str->Option LH},P.Nodup->P[i]?=some x->vs[i]?=some v->kindOf x=some .local ->
  Qn kindOf (P.zip vs) m x=some v
 | [],_,_,_,_,h,_,_=>by simp at h
 | _::_,[],_,_,_,_,h,_=>by simp at h
 | p::P,w::vs,0,m,nd,h1,h2,hk=>by
  simp at h1 h2;subst h1;subst h2;show Qn kindOf ((p,w)::P.zip vs) m p=_;unfold Qn;rw[ln λv hv=>(GA.mp nd).1 (Jy hv).1,if_pos hk];simp
 | p::P,w::vs,i+1,m,nd,h1,h2,hk=>by
  show Qn kindOf ((p,w)::P.zip vs) m x=_;unfold Qn;exact lm (i:=i) (GA.mp nd).2 (by exists h1) (by exists h2) hk
def lh{kindOf:Str->Option LV}{x:Str}{v:LH}:∀{P:List Str} {vs:List LH} {i:Nat} {m:Str->Option LH},P.Nodup->P[i]?=some x->vs[i]?=some v->kindOf x≠some .local ->
  Qo kindOf (P.zip vs) m x=some v
 | [],_,_,_,_,h,_,_=>by simp at h
 | _::_,[],_,_,_,_,h,_=>by simp at h
 | p::P,w::vs,0,m,nd,h1,h2,hk=>by
  simp at h1 h2;subst h1;subst h2;show Qo kindOf ((p,w)::P.zip vs) m p=_;unfold Qo;rw[lj λv hv=>(GA.mp nd).1 (Jy hv).1,if_neg hk];simp
 | p::P,w::vs,i+1,m,nd,h1,h2,hk=>by
  show Qo kindOf ((p,w)::P.zip vs) m x=_;unfold Qo;exact lh (i:=i) (GA.mp nd).2 (by exists h1) (by exists h2) hk
abbrev bQ(N:List Str) (vs:List V):St:=vs.map some++Gh (N.length-vs.length) none
abbrev kX(CX:CXT) (P:LR) (w:Mb) (K:yF) (mg:Str->Option LH) (base:Heap) (N:List Str) (qual:Str) (scope:ML) (f:Addr) (cd:LH) (A:LX) (outer:List Env) (s:LI) (H:Hp) (E:XK):Cx where
 prog:=P
 w:=w
 K:=K
 mg:=mg
 base:=base
 A:=A.deeper (NG qual scope s.heap.objs.size f cd)
 N:=N
 s₀:=s
 H₀:=H
 env:=NG qual scope s.heap.objs.size f cd
 outer:=outer
 stack:=NG qual scope s.heap.objs.size f cd::outer
 ex:=[]
 calm:=true
 fn:=λ_=>true
 pn:=[]
 xe:=λe s'=>LN (LO P w) (A.deeper (NG qual scope s.heap.objs.size f cd)) (leaving (NG qual scope s.heap.objs.size f cd) e) (λ_ s''=>CX outer H s E e s'') (λe' s''=>CX outer H s E e' s'') s'
def nv{sc:ML}{n:Nat}{x:Str}(h:sc.names.lookup x=some .cell):∃c,(Mc n sc.names []).lookup x=some c:=by
 have q:=Iw sc.names n [] (.inl h);exact Hi.mp q
def r9{CX:CXT}{P:LR}{w:Mb}{K:yF}{mg:Str->Option LH}{base:Heap}{N ps:List Str}{qual:Str}{scope:ML}{f:Addr}{cd:LH}{A:LX}{outer:List Env}{s s1:LI}{H:Hp}{E:XK}{us:List LH}{vs:List V}
  (S:KU N ps scope) (hd:A.handled=none) (gd:A.guards=some []) (e0:LC P w K mg base A outer s H) (hl:vs.length=ps.length) (r:Vals vs us)
  (x:InCallC s s.heap.objs.size (Qn (NG qual scope s.heap.objs.size f cd).kindOf (ps.zip us) λ_=>none) (Mc (s.heap.objs.size+1) scope.names []) (Qo (NG qual scope s.heap.objs.size f cd).kindOf (ps.zip us) λ_=>none) s1) :
  Inv (kX CX P w K mg base N qual scope f cd A outer s H E) [] (bQ N vs) H s1:=by
 have hpl:ps.length<=N.length:=by have:=congrArg HN S.pre;rw[GZ]at this;omega
 obtain⟨h1,tk,rfl,hk⟩:=x.done;have noA:∀b:Addr,b∉(kX CX P w K mg base N qual scope f cd A outer s H E).ex:=λb z=>absurd (show b∈([]:List Addr)from z) ∅;apply⟨⟨e0.mod,S.kind,rfl,rfl,Gj _,λy z c h1 h2=>?_,λy hy=>?_,λy c _ h=>?_,λ_=>hd,λ_=>gd,LX.frames_deeper e0.frames,.inr ⟨rfl,rfl⟩,λb z=>absurd z (noA b),e0.bs,e0.bsz,λb _ _=>noA b,λb z=>absurd z (noA b),e0.funs,e0.frf⟩,
  rfl,e0.bare,Un.kept hk,⟨_,x.toInCall.ns,λi y v h1 h2 h3=>?_⟩,λy c h=>⟨_,x.cell y c h⟩,e0.hok.fresh (Gj _),λy c h=>?_,λp hp=>absurd (show p∈([]:List (Addr×Obj))from hp) ∅,e0.hok.kept hk,?_⟩
 ·exact name_of_addr x.apart (HG h1) (HG h2)
 ·have hy:scope.names.lookup y=some .cell\/scope.names.lookup y=some .free:=hy;rcases hy with hy|hy;exact nv hy;exact absurd rfl (S.nofree _ (HG hy))
 ·exact JV (x.above y c (HG h))
 ·have hi:i<vs.length:=by
   unfold bQ at h2;by_cases hi:i<vs.length;exact hi
   ·rw[Hu (by exists hi)]at h2;rw[Ji]at h2;split at h2<;>cases h2
  have ha:vs[i]?=some v:=by
   unfold bQ at h2;rw[G7 (by exists hi),Go]at h2;cases e:vs[i]? with
   | none=>rw[e]at h2;cases h2
   | some a=>rw[e]at h2;cases h2;rfl
  obtain⟨u,hu,rv⟩:=r.get ha;have hp:ps[i]?=some y:=by
   rw[<-S.pre,Jc ⋯];exact h1
  have ndP:ps.Nodup:=by rw[<-S.pre];exact S.nd.sublist (List.take_sublist _ _)
  apply⟨u,rv,?_⟩;rcases S.par y (ymG hp)with k|k;exact .inl ⟨k,lm ndP hp hu k⟩
  ·obtain⟨c,e⟩:=nv (n:=s.heap.objs.size+1) k;apply .inr ⟨.inl k,c,e,?_⟩;have q:=x.cell y c e;rw[lh ndP hp hu (by show scope.names.lookup y≠_;rw[k];decide)]at q;exact q
 ·exact e0.hok.fresh (JV (x.above y c (HG h)))
 ·unfold bQ;show _=N.length;rw[Gr,Ge,List.length_replicate];omega
def Dw{CX:CXT}{P:LR}{w:Mb}{K:yF}{mg:Str->Option LH}{base:Heap}{k:Nat}{f:Addr}{name qual:Str}{params:Arguments}{body:List Stmt}{scope:ML}{dV kV doc pm cdv ct oc:LH}{an od:Option Addr}
  {osl:Array (Option LH)} {N ps:List Str} {sp:Sp} (lk:K.lookup f=some ⟨oc,od,.func (HC name qual params body scope dV kV doc pm an cdv ct),osl⟩) (hcd:Ij K cdv qual=true) (S:KU N ps scope)
  (len:∀vs H Q E,sp vs H Q E->vs.length=ps.length)
  (hbody:∀(A:LX) (outer:List Env) (s:LI) (H:Hp) (vs:List V) (Q:VK) (E:XK),Lb k (A.deeper (NG qual scope s.heap.objs.size f cdv))->sp vs H Q E ->
   ∃t,PSs (kX CX P w K mg base N qual scope f cdv A outer s H E) body t/\t {nx:=λ_ H'=>Q .non H',rt:=Q} (bQ N vs) H) :
  Lx P w K mg base CX (k+1) f (HC name qual params body scope dV kV doc pm an cdv ct) ps sp:=by
 apply⟨len,λA outer s H args us vs Q E hr e0 hb r hsp=>?_⟩;have hl:=len _ _ _ _ hsp;have KX:K.In s.heap:=e0.mod.kin.keeps λb o e=>(e0.bs b o e).1;have lim:s.heap.NoLimit:=e0.mod.nolimit.keeps λb o e=>(e0.bs b o e).1;have hkind:∀y∈ps.zip us,scope.names.lookup y.1=some .local\/(scope.names.lookup y.1=some .cell/\((Mc (s.heap.objs.size+1) scope.names []).lookup y.1).isSome=true):=fun⟨n,v⟩ hy=>by
  rcases S.par n (Jy hy).1 with q|q;exact .inl q;exact .inr ⟨q,Iw _ _ _ (.inl q)⟩
 apply codeAny_call_function hr.depth (KX _ _ lk) rfl S.co S.gen rfl (PySem.W.codeRec_of KX hcd) (hb _ _ _ _ ?_);apply wpAny_newFunctionEnv_cells S.kind hkind λenv he s1 x=>?_;subst he;apply⟨lim.keeps x.toInCall.keep,codeAny_func ?_⟩;obtain⟨t,ht,hq⟩:=hbody A outer s H vs Q E (hr.deeper _) hsp;have I:Inv (kX CX P w K mg base N qual scope f cdv A outer s H E) [] (bQ N vs) H s1:=r9 S hr.hd hr.gd e0 hl r x;apply LS (ht [] s1 (bQ N vs) H _ I hq) (λfl s' hs=>?_) λe s' hs=>hs;have fin:∀{Z':St} {H':Hp} {v:V} {u:LH},Inv (kX CX P w K mg base N qual scope f cdv A outer s H E) [] Z' H' s'->RelV v u->Q v H'->CE outer P w H s Q u s':=
  λ{Z' H' v u} J rv q=>⟨v,H',J.os,J.bare,J.base,J.hok,rv,q⟩
 cases fl with
 | ret u=>
  obtain⟨v,Z',H',J,rv,q⟩:=hs;exact fin J rv q
 | next=>
  obtain⟨Z',H',J,q⟩:=hs;exact fin (v:=V.non) (u:=Mm) J rfl q
 | brk=>
  obtain⟨_,_,_,q⟩:=hs;exact M1 q
 | cont=>
  obtain⟨_,_,_,q⟩:=hs;exact M1 q
section
variable {X:Cx}{x:Str}{p pos:Pos}{e:Expr}{es:List Expr}{t:TA}{id T:String}{r:List V->Hp->VK->Prop}
abbrev tCB(r:List V->Hp->VK->Prop)(t:TA):TE:=λZ H Q=>t Z H λvs H1=>r vs H1 Q
def ve(hc:La X (.builtin id) r)(hg:Gl X x)(hm:X.mg x=none)(hv:MQ x=some (.builtin id))(ha:PA X (e::es) t)(hn:x ≠ "__name__" :=by decide)(hdb:(x==("__debug__" : Str))=false:=by decide)
  (he:Ma (e::es) X.env=(false,eval e X.env)::Ma es X.env:=by rfl) (hpl:(Nk pos (Ma es X.env)).any (·.1)=false:=by rfl):PE X (.Call (.Name x p) (e::es) [] pos) (tCB r t):=by
 intro Uq s Z H Q I h;apply M3 (jd I hg hm hv ?_ hn hdb);exact Kf (thn (ha pos Uq s Z H _ I h) λus s1 ⟨vs,H1,I1,r1,q1⟩=>hc Uq s1 Z H1 vs us Q I1 r1 q1) he hpl
def sH(hc:La X (.type T) r)(hg:Gl X x)(hm:X.mg x=none)(hv:MQ x=some (.type T))(ha:PA X (e::es) t)(hn:x ≠ "__name__" :=by decide)(hdb:(x==("__debug__" : Str))=false:=by decide)
  (he:Ma (e::es) X.env=(false,eval e X.env)::Ma es X.env:=by rfl) (hpl:(Nk pos (Ma es X.env)).any (·.1)=false:=by rfl):PE X (.Call (.Name x p) (e::es) [] pos) (tCB r t):=by
 intro Uq s Z H Q I h;apply M3 (jd I hg hm hv ?_ hn hdb);exact Hr (thn (ha pos Uq s Z H _ I h) λus s1 ⟨vs,H1,I1,r1,q1⟩=>hc Uq s1 Z H1 vs us Q I1 r1 q1) he hpl
end
end L2
namespace HT
open PySem PyProof.Rows
section
variable {prog:LR}{w:Mb}{A:LX}{E:LH->LI->Prop}{s:LI}
def cat_tup{t b:Addr}{vs ws:List LH}{Q:LH->LI->Prop}(ht:NM s.heap t vs.toArray)(hb:NM s.heap b ws.toArray)(hv:vs≠[])
  (h1:ws=[]->Q (.ref t) s) (h2:ws≠[]->Q (.ref s.heap.objs.size) {s with heap:=s.heap.push {cls:=.type "tuple",data:=.seq (vs++ws).toArray}})
  (hsz:vs.length+ws.length<=sizeLine):LN (LO prog w) A (Ms .Add (.ref t) (.ref b)) Q E s:=by
 obtain⟨⟨cls,dd,data,sl⟩,ho,hc,n,hd⟩:=id ht;obtain⟨⟨cls2,dd2,data2,sl2⟩,ho2,hc2,n2,hd2⟩:=id hb;simp only at hc hd hc2 hd2;subst hc hd hc2 hd2;have e:vs.toArray++ws.toArray=(vs++ws).toArray:=by simp
 by_cases hw:ws=[]
 ·exact PB ⟨_,ho,rfl⟩ ⟨_,ho2,rfl⟩ Op Ph PySem.F.slot_tuple_add PySem.F.entry_tuple_add (PySem.F.args_tuple_add_2 _ _)
   (tuple_addW1 t b vs.toArray ws.toArray n n2 dd dd2 sl sl2 (by exists hv) (by simp[hw])) ⟨ho,ho2,h1 hw⟩
 ·apply PB ⟨_,ho,rfl⟩ ⟨_,ho2,rfl⟩ Op Ph PySem.F.slot_tuple_add PySem.F.entry_tuple_add (PySem.F.args_tuple_add_2 _ _)
   (tuple_addW2 t b vs.toArray ws.toArray n n2 dd dd2 sl sl2 (by exists hv) (by exists hw) (by rw[Gf,Gf];exact hsz)) ⟨ho,ho2,?_⟩
  rw[e];exact h2 hw
abbrev sIx(n d:Nat):Option Int->Nat
 | none=>d
 | some v=>if v<0 then(v+(n:Int)).toNat else min v.toNat n
def sIx_none(n d:Nat):sIx n d none=d:=rfl
def sIx_nat(n d k:Nat):sIx n d (some (k:Int))=min k n:=by
 show(if(k:Int)<0 then((k:Int)+(n:Int)).toNat else min (k:Int).toNat n)=min k n;rw[if_neg ⋯,GP]
def sIx_le(n d:Nat)(hd:d<=n)(o:Option Int):sIx n d o<=n:=by
 cases o with
 | none=>exact hd
 | some v=>
  show(if v<0 then(v+(n:Int)).toNat else min v.toNat n)<=n;by_cases hv:v<0;rw[if_pos hv];omega;rw[if_neg hv];exact Nat.min_le_right _ _
def clip_eq(v:Int)(n d:Nat):(if v<0 then max (v+(n:Int)) 0 else min v (n:Int))=((sIx n d (some v):Nat):Int):=by
 show(if v<0 then max (v+(n:Int)) 0 else min v (n:Int))=(((if v<0 then(v+(n:Int)).toNat else min v.toNat n):Nat):Int);by_cases hv:v<0;dsimp[if_pos hv];omega;dsimp[if_neg hv];omega
def adjust_gen(lo hi:Option Int)(n:Nat):Mp lo hi 1 (n:Int)=(((sIx n 0 lo:Nat):Int),((sIx n n hi:Nat):Int)):=by
 have h1:¬ ((1:Int)<0):=by omega
 unfold Mp;dsimp[h1,if_false];apply KO ?_ ?_
 ·cases lo with
  | none=>rfl
  | some v=>exact clip_eq v n 0
 ·cases hi with
  | none=>rfl
  | some v=>exact clip_eq v n n
def places_gen(i j:Nat):Mf (i:Int) (j:Int) 1=j-i:=by
 unfold Mf;have h1:(1:Int)>0:=by omega
 dsimp[h1,if_true,KA];split<;>omega
def slicePart_{v:LH}{o:Option Int}{Q:Option Int->LI->Prop}(p:NH v o)(h:Q o s):LN (LO prog w) A (P6 v) Q E s:=by
 cases p with
 | none=>exact NZ h
 | int i t=>exact slicePart_int h
def sliceApplied_gen{sl:Addr}{vl vu:LH}{lo hi:Option Int}{n:Nat}{Q:Int×Int×Nat->LI->Prop}(hs:s.heap.IsSliceOf sl vl vu .none)(pl:NH vl lo)(pu:NH vu hi)
  (h:Q (((sIx n 0 lo:Nat):Int),1,sIx n n hi-sIx n 0 lo) s):LN (LO prog w) A (MM (.ref sl) (pure (n:Int))) Q E s:=by
 obtain⟨os,hos,hcs,hds⟩:=id hs;unfold MM N8;apply LG (LG (Mn hos hds (x:=vl) rfl (LG (Mn hos hds (x:=vu) rfl (LG (Mn hos hds (x:=.none) rfl (LJ ?_)))))));apply LG (NZ ?_);show LN _ _ (if((1:Int)==0)=true then _ else _) _ _ s;rw[if_neg (by decide)];apply LG (slicePart_ pl (LG (slicePart_ pu (LG (LJ ?_)))));show LN _ _ (match Mp lo hi 1 (n:Int)with|(lo,hi)=>pure (lo,(1:Int),Mf lo hi 1)) _ _ s;rw[adjust_gen lo hi n];show LN _ _ (pure (((sIx n 0 lo:Nat):Int),(1:Int),Mf ((sIx n 0 lo:Nat):Int) ((sIx n n hi:Nat):Int) 1)) _ _ s;rw[places_gen];exact LJ h
def pick_gen(xs:Array LH)(i k:Nat):((Gz k).filterMap λ(m:Nat)=>xs[((i:Int)+(m:Int)*1).toNat]?).toArray=((xs.toList.drop i).take k).toArray:=by
 have e:(λ(m:Nat)=>xs[((i:Int)+(m:Int)*1).toNat]?)=λm=>xs[i+m]?:=by
  funext m;have:((i:Int)+(m:Int)*1).toNat=i+m:=by omega
  rw[this]
 rw[e];have:=Q5 xs i k;rw[Is]at this;have e2:((λx=>xs[x]?)∘λx=>i+x)=λm=>xs[i+m]?:=rfl;rw[e2]at this;rw[this]
def getItem_tuple_cut{t sl:Addr}{items:Array LH}{vl vu:LH}{lo hi:Option Int}{Q:LH->LI->Prop}(ht:NM s.heap t items)(hs:s.heap.IsSliceOf sl vl vu .none)(pl:NH vl lo)(pu:NH vu hi)
  (hw:¬ (sIx items.size 0 lo=0/\sIx items.size items.size hi=items.size))
  (h:Q (.ref s.heap.objs.size) {s with heap:=s.heap.push {cls:=.type "tuple",data:=.seq ((items.toList.drop (sIx items.size 0 lo)).take (sIx items.size items.size hi-sIx items.size 0 lo)).toArray}})
  (hsz:items.size<=sizeLine):LN (LO prog w) A (Nl (.ref t) (.ref sl)) Q E s:=by
 have htake:sizeOk (.seq ((items.toList.drop (sIx items.size 0 lo)).take (sIx items.size items.size hi-sIx items.size 0 lo)).toArray):=by
  show((items.toList.drop (sIx items.size 0 lo)).take (sIx items.size items.size hi-sIx items.size 0 lo)).toArray.size<=sizeLine;rw[Gf,GZ,Hm,G5];omega
 have hj:sIx items.size items.size hi<=items.size:=sIx_le _ _ (Gj _) hi;obtain⟨os,hos,hcs,hds⟩:=id hs;have hTs:s.TypeIs (.ref sl) "slice" :=⟨os,hos,hcs⟩;unfold Nl;try with_reducible refine Mi ?_
 first|refine LG (LJ ?_)|skip
 apply LG (Nm ht.typeIs (by decide) ?_);apply LG (Mt (name:=Mg "__getitem__") ht.typeIs GI
  (Mo GI ht.typeIs NN ?_ (N0 _ _)))
 show LN _ _ (Nc (.ref t) >>= _) _ _ s;apply LG (Oh ht ?_);apply LG (M4 hTs ?_);rw[if_pos (by decide)];apply LG (sliceApplied_gen hs pl pu ?_);have hno:¬ ((((sIx items.size 0 lo:Nat):Int)==0&&(1:Int)==1&&(sIx items.size items.size hi-sIx items.size 0 lo)==items.size)=true):=by
  intro q;rw[Gd,Gd]at q;have q1:((sIx items.size 0 lo:Nat):Int)=0:=eq_of_beq q.1.1;have q2:sIx items.size items.size hi-sIx items.size 0 lo=items.size:=eq_of_beq q.2;exact hw ⟨by omega,by omega⟩
 show LN _ _ (if(((sIx items.size 0 lo:Nat):Int)==0&&(1:Int)==1&&(sIx items.size items.size hi-sIx items.size 0 lo)==items.size)=true then _ else _) _ _ s;rw[if_neg hno,pick_gen];first
  | exact LG (m:=LW _) (LU (LJ ⟨_,rfl,LJ h⟩) htake)
  | exact LG (m:=LW _) (LU (LG (LJ (LJ ⟨_,rfl,LJ h⟩))) htake)
  | exact LG (LG (m:=LW _) (LU (LJ (LJ ⟨_,rfl,LJ h⟩)) htake))
  | exact LG (LG (m:=LW _) (LU (LJ ⟨_,rfl,LJ h⟩) htake))
end
end HT
namespace L2
open PySem PySem.Spec PyProof.Rows
protected def TO:=St->Hp->(Option Int->Hp->Prop)->Prop
abbrev PO(X:Cx)(e:Option Expr)(t:TO):Prop:=
 ∀(Uq:List (Addr×Obj)) (s:LI) (Z:St) (H:Hp) (Q:Option Int->Hp->Prop),Inv X Uq Z H s->t Z H Q ->
  LN (LO X.prog X.w) X.A (evalPart e X.env) (λu s'=>∃o H',Inv X Uq Z H' s'/\NH u o/\Q o H') X.xe s
abbrev rD:TO:=λ_ H Q=>Q none H
abbrev rE(t:TE):TO:=λZ H Q=>t Z H λx H1=>∃i,x=.int i/\Q (some i) H1
section
variable {X:Cx}{e:Expr}{te:TE}{lo hi:Option Expr}{tl th:TO}{pos p2:Pos}
def yz:PO X none rD:=by
 intro Uq s Z H Q I h;rw[Oj];exact LJ ⟨none,H,I,.none,h⟩
def mQ(h:PE X e te):PO X (some e) (rE te):=by
 intro Uq s Z H Q I hw;rw[evalPart_some];apply thn (h Uq s Z H _ I hw) λu s1 ⟨x,H1,I1,r1,q1⟩=>?_;obtain⟨i,rfl,q⟩:=q1;obtain⟨t,rfl⟩:=r1;exact⟨some i,H1,I1,.int i t,q⟩
abbrev SlR(X:Cx)(r:V->Option Int->Option Int->Hp->VK->Prop):Prop:=
 ∀(Uq:List (Addr×Obj)) (s:LI) (Z:St) (H:Hp) (x:V) (v vl vu:LH) (lo hi:Option Int) (sl:Addr) (Q:VK),Inv X Uq Z H s->RelV x v->s.heap.IsSliceOf sl vl vu .none->NH vl lo->NH vu hi->r x lo hi H Q ->
  ∃T id,Pq (.type T) "__getitem__" = pure (some (.builtin id))/\s.TypeIs v T/\LN (LO X.prog X.w) X.A (Nl v (.ref sl)) (EP X Uq Z Q) X.xe s
def SlR.or{r r':V->Option Int->Option Int->Hp->VK->Prop}(h:SlR X r)(h':SlR X r'):SlR X (λx lo hi H Q=>r x lo hi H Q\/r' x lo hi H Q):=by
 intro Uq s Z H x v vl vu lo hi sl Q I rx hs pl pu q;rcases q with q|q;exact h Uq s Z H x v vl vu lo hi sl Q I rx hs pl pu q;exact h' Uq s Z H x v vl vu lo hi sl Q I rx hs pl pu q
abbrev tSl(r:V->Option Int->Option Int->Hp->VK->Prop)(te:TE)(tl th:TO):TE:=λZ H Q=>te Z H λx H1=>tl Z H1 λl H2=>th Z H2 λu H3=>r x l u H3 Q
def nS{r:V->Option Int->Option Int->Hp->VK->Prop}(hr:SlR X r)(he:PE X e te)(hl:PO X lo tl)(hu:PO X hi th):PE X (.Subscript e (.Slice lo hi none p2) pos) (tSl r te tl th):=by
 intro Uq s Z H Q I h;apply Pr (thn (he Uq s Z H _ I h) λv s1 ⟨x,H1,I1,r1,q1⟩=>?_);apply P3 (thn (hl Uq s1 Z H1 _ I1 q1) λvl s2 ⟨l,H2,I2,pl,q2⟩=>thn (hu Uq s2 Z H2 _ I2 q2) λvu s3 ⟨u,H3,I3,pu,q3⟩=>?_);rw[Oj];apply LJ ?_;have I4:Inv X Uq Z H3 {s3 with heap:=s3.heap.push {cls:=.type "slice",data:=.fields #[vl,vu,.none]}}:=I3.kept (t':=s3.toks) λb ob q=>LK _ q;obtain⟨T,id,hT,ht,hg⟩:=hr Uq {s3 with heap:=s3.heap.push {cls:=.type "slice",data:=.fields #[vl,vu,.none]}} Z H3 x v vl vu l u s3.heap.objs.size Q I4 r1 (N1 ..) pl pu q3;show LN (LO X.prog X.w) X.A (Ol e (.Slice lo hi none p2) v (.ref s3.heap.objs.size)) (EP X Uq Z Q) X.xe {s3 with heap:=s3.heap.push {cls:=.type "slice",data:=.fields #[vl,vu,.none]}};exact Q6 (ops:=[.ref s3.heap.objs.size,v]) ht hT hg (by unhygienic rfl)
abbrev j5(xs:List V) (lo hi:Option Int):List V:=(xs.drop (HT.sIx xs.length 0 lo)).take (HT.sIx xs.length xs.length hi-HT.sIx xs.length 0 lo)
def jA(xs:List V)(lo hi:Option Int):(j5 xs lo hi).length<=xs.length:=by
 unfold j5;rw[GZ,Hm];omega
abbrev Cz(K:yF):V->Option Int->Option Int->Hp->VK->Prop:=λx lo hi H Q=>∃a xs,x=.ref a/\SqT K H a xs /\
 ¬ (HT.sIx xs.length 0 lo=0/\HT.sIx xs.length xs.length hi=xs.length)/\∀p,H p=none->Q (.ref p) (upd H p (.tup (j5 xs lo hi)))
def sl_tup:SlR X (Cz X.K):=by
 intro Uq s Z H x v vl vu lo hi sl Q I rx hs pl pu h;obtain⟨a,xs,rfl,hx,hw,q⟩:=h;cases rx;obtain⟨its,r,ht,hz⟩:=I.tuple hx;have hlen:its.toArray.size=xs.length:=by rw[Gf];exact r.length.symm
 apply⟨"tuple",_,GI.lookup,ht.typeIs,?_⟩;apply HT.getItem_tuple_cut ht hs pl pu (by rw[hlen];exact hw) ?_ (by rw[hlen];exact hz);rw[hlen];apply⟨.ref s.heap.objs.size,_,I.laid (t':=s.toks) (o:=.tup (j5 xs lo hi)) (λb ob q=>LK _ q) (Gj _) ?_,rfl,q _ (I.hok.fresh (Gj _))⟩;exact⟨GV (jA xs lo hi) hz,_,(r.drop (HT.sIx xs.length 0 lo)).take (HT.sIx xs.length xs.length hi-HT.sIx xs.length 0 lo),Ld.new _ _⟩
abbrev Ae(K:yF):R2:=λx y H Q=>∃a b xs ys,x=.ref a/\y=.ref b/\SqT K H a xs/\SqT K H b ys/\xs≠[]/\xs.length+ys.length<=sizeLine /\
 (ys=[]->Q (.ref a) H)/\(ys≠[]->∀p,H p=none->Q (.ref p) (upd H p (.tup (xs++ys))))
def Vals.nil_iff{xs:List V}{us:List LH}(r:Vals xs us):us=[]↔xs=[]:=by
 cases r with
 | nil=>simp
 | cons _ _=>simp
def yh:OpR X (Ms .Add) (Ae X.K):=by
 intro Uq s Z H x y v u Q I rx ry h;obtain⟨a,b,xs,ys,rfl,rfl,ha,hb,hx,hz,q1,q2⟩:=h;cases rx;cases ry;obtain⟨its,r1,p1,_⟩:=I.tuple ha;obtain⟨its2,r2,p2,_⟩:=I.tuple hb;apply HT.cat_tup p1 p2 (λz=>hx (r1.nil_iff.mp z)) (λz=>⟨.ref a,H,I,rfl,q1 (r2.nil_iff.mp z)⟩) (λz=>?_) (by rw[<-r1.length,<-r2.length];exact hz);apply⟨.ref s.heap.objs.size,_,I.laid (t':=s.toks) (o:=.tup (xs++ys)) (λb ob q=>LK _ q) (Gj _) ?_,rfl,q2 (λw=>z (r2.nil_iff.mpr w)) _ (I.hok.fresh (Gj _))⟩;exact⟨by rw[Gr];exact hz,_,r1.append r2,Ld.new _ _⟩
end
abbrev ixN(n:Nat) (i:Int):Option Nat:=if 0<=i then(if i<n then some i.toNat else none)else if -(n:Int)<=i then some (i+n).toNat else none
abbrev atI{α:Type} (xs:List α) (i:Int):Option α:=(ixN xs.length i).bind λj=>xs[j]?
def qH{n:Nat}{i:Int}{j:Nat}(h:ixN n i=some j):QF i n=some j/\j<n/\-(n:Int)<=i/\i<n:=by
 unfold ixN at h;by_cases h0:0<=i
 ·rw[if_pos h0]at h;by_cases h1:i<n
  ·rw[if_pos h1]at h;have e:i.toNat=j:=GK.inj h;exact⟨by rw[P4 h0 h1,e],by omega,by omega,h1⟩
  ·rw[if_neg h1]at h;cases h
 ·rw[if_neg h0]at h;by_cases h1 : -(n:Int)<=i
  ·rw[if_pos h1]at h;have e:(i+n).toNat=j:=GK.inj h;exact⟨by rw[seqIndex_neg ⋯ h1,e],by omega,h1,by omega⟩
  ·rw[if_neg h1]at h;cases h
def l6{α:Type}{xs:List α}{i:Int}{v : α}(h:atI xs i=some v):∃j,QF i xs.length=some j/\xs[j]?=some v/\j<xs.length/\-(xs.length:Int)<=i/\i<xs.length:=by
 unfold atI at h;cases e:ixN xs.length i with
 | none=>rw[e]at h;cases h
 | some j=>
  rw[e]at h;obtain⟨h1,h2,h3,h4⟩:=qH e;exact⟨j,h1,h,h2,h3,h4⟩
abbrev qj(b:Expr):Prop:=∀o i,OR b false o i=operate [o,i] (Nl o i)
abbrev IxR(X:Cx)(r:R2):Prop:=
 ∀(value slice:Expr) (Uq:List (Addr×Obj)) (s:LI) (Z:St) (H:Hp) (x y:V) (v u:LH) (Q:VK),Inv X Uq Z H s->RelV x v->RelV y u->r x y H Q ->
  OR slice false v u=operate [v,u] (Nl v u)->LN (LO X.prog X.w) X.A (Ol value slice v u) (EP X Uq Z Q) X.xe s
abbrev MtR(X:Cx)(id:String)(r:V->List V->Hp->VK->Prop):Prop:=
 ∀(Uq:List (Addr×Obj)) (s:LI) (Z:St) (H:Hp) (x:V) (xs:List V) (v:LH) (us:List LH) (Q:VK),Inv X Uq Z H s->RelV x v->Vals xs us->r x xs H Q ->
  LN (LO X.prog X.w) X.A (call (.builtin id) (v::us)) (EP X Uq Z Q) X.xe s
section
variable {X:Cx}{a b:Expr}{ta tb:TE}{pos:Pos}
def IxR.or{r r':R2}(h:IxR X r)(h':IxR X r'):IxR X (λx y H Q=>r x y H Q\/r' x y H Q):=by
 intro value slice Uq s Z H x y v u Q I rx ry q hs;rcases q with q|q;exact h value slice Uq s Z H x y v u Q I rx ry q hs;exact h' value slice Uq s Z H x y v u Q I rx ry q hs
def MtR.or{id:String}{r r':V->List V->Hp->VK->Prop}(h:MtR X id r)(h':MtR X id r'):MtR X id (λx xs H Q=>r x xs H Q\/r' x xs H Q):=by
 intro Uq s Z H x xs v us Q I rx rs q;rcases q with q|q;exact h Uq s Z H x xs v us Q I rx rs q;exact h' Uq s Z H x xs v us Q I rx rs q
def Ec{r:R2}(hr:IxR X r)(ha:PE X a ta)(hb:PE X b tb)(hs:qj b):PE X (.Subscript a b pos) (tOp r ta tb):=by
 intro Uq s Z H Q I h;exact Pr (AF ha hb I h λv u s2 x y H2 I2 rx ry q=>hr a b Uq s2 Z H2 x y v u Q I2 rx ry q (hs _ _))
abbrev EL(K:yF):R2:=λx y H Q=>∃p xs i v,x=.ref p/\y=.int i/\SqL K H p xs/\atI xs i=some v/\Q v H
abbrev EN(K:yF):R2:=λx y H Q=>∃p xs i v,x=.ref p/\y=.int i/\SqT K H p xs/\atI xs i=some v/\Q v H
abbrev EM:R2:=λx y H Q=>∃z i c,x=.str z/\y=.int i/\z.length<=sizeLine/\atI z.cps.toList i=some c/\Q (.str ⟨#[c]⟩) H
def ix_list:IxR X (EL X.K):=by
 intro value slice Uq s Z H x y v u Q I rx ry h hs;obtain⟨p,xs,i,z,rfl,rfl,hq,he,q⟩:=h;cases rx;obtain⟨t,rfl⟩:=ry;obtain⟨its,r,pl,hz⟩:=I.list hq;obtain⟨j,h1,h2,h3,h4,h5⟩:=l6 he;obtain⟨w,ew,rw'⟩:=r.get h2;have hl:=r.length;have hn:=g7;have fin:EP X Uq Z Q w s:=⟨z,H,I,rw',q⟩;by_cases h0:0<=i
 ·have hj:i.toNat=j:=by
   rw[P4 h0 h5]at h1;exact GK.inj h1
  exact item_listR pl.isList h0 ⋯ (by rw[hj];exists ew) fin hs
 ·have hj:(i+(its.toArray.size:Int)).toNat=j:=by
   rw[seqIndex_neg ⋯ h4]at h1;rw[Gf,<-hl];exact GK.inj h1
  exact OB (x:=w) pl.isList.typeIs PD.lookup
   (wpAny_getItem_list_neg (Q:=λr s'=>r=w/\EP X Uq Z Q r s') pl.isList ⋯ (by rw[Gf]<;>omega) ⋯ (by rw[hj];exists ew) ⟨rfl,fin⟩) hs
def ix_tup:IxR X (EN X.K):=by
 intro value slice Uq s Z H x y v u Q I rx ry h hs;obtain⟨p,xs,i,z,rfl,rfl,hq,he,q⟩:=h;cases rx;obtain⟨t,rfl⟩:=ry;obtain⟨its,r,pl,hz⟩:=I.tuple hq;obtain⟨j,h1,h2,h3,h4,h5⟩:=l6 he;obtain⟨w,ew,rw'⟩:=r.get h2;have hl:=r.length;have hn:=g7;have fin:EP X Uq Z Q w s:=⟨z,H,I,rw',q⟩;exact OB (x:=w) pl.typeIs N3.lookup
  (getItem_tuple (j:=j) (Q:=λr s'=>r=w/\EP X Uq Z Q r s') pl ⋯ ⋯ (by rw[Gf,<-hl];exact h1) (by exists ew) ⟨rfl,fin⟩) hs
def A2:IxR X EM:=by
 intro value slice Uq s Z H x y v u Q I rx ry h hs;obtain⟨z,i,c,rfl,rfl,hz,he,q⟩:=h;obtain⟨t,rfl⟩:=rx;obtain⟨t',rfl⟩:=ry;obtain⟨j,h1,h2,h3,h4,h5⟩:=l6 he;have hl:z.cps.toList.length=z.length:=by simp[Rf]
 rw[hl]at h1 h4 h5;have hn:=g7;exact Q6 (Qp s z t) slot_str_getitem.lookup (getItem_str (c:=c) (by
  have e1:decide (i < -(2^63:Int))=false:=decide_eq_false ⋯;have e2:decide (i≥2^63)=false:=decide_eq_false ⋯;rw[e1,e2,Kw]) (by rw[h1];exists h2) ⟨.str ⟨#[c]⟩,H,I.tok _,⟨_,rfl⟩,q⟩) hs
abbrev rIx(K:yF):R2:=λx y H Q=>EL K x y H Q\/EN K x y H Q\/EM x y H Q
def A1:IxR X (rIx X.K):=ix_list.or (ix_tup.or A2)
def pz(its:List LH)(n j:Nat)(u:LH):Md (·.setIfInBounds j u) {cls:=.type "list",data:=.seq its.toArray n}={cls:=.type "list",data:=.seq (its.set j u).toArray n}:=by
 simp[Md]
def Inv.lst{Uq:List (Addr×Obj)}{Z:St}{H:Hp}{s:LI}{p:Addr}{xs:List V}(I:Inv X Uq Z H s)(h:H p=some (.lst xs)) :
  ∃(its:List LH) (n:Nat),Vals xs its/\s.heap.get? p=some {cls:=.type "list",data:=.seq its.toArray n}/\xs.length<=sizeLine:=by
 obtain⟨z,its,n,r,e⟩:=I.hok p _ h;exact⟨its,n,r,e,z⟩
def Inv.lstUpd{Uq:List (Addr×Obj)}{Z:St}{H:Hp}{s:LI}{p:Addr}{xs ys:List V}{its its':List LH}{n n':Nat}{f:Obj->Obj}(I:Inv X Uq Z H s)(h:H p=some (.lst xs))
  (ho:s.heap.get? p=some {cls:=.type "list",data:=.seq its.toArray n}) (hf:f {cls:=.type "list",data:=.seq its.toArray n}={cls:=.type "list",data:=.seq its'.toArray n'}) (r:Vals ys its') (hz:ys.length<=sizeLine) (t:Nat) :
  Inv X Uq Z (upd H p (.lst ys)) {s with heap:=s.heap.update p f,toks:=t}:=by
 have e:(s.heap.update p f).get? p=some {cls:=.type "list",data:=.seq its'.toArray n'}:=by
  rw[Mr f ho (by rw[hf]<;>rfl),hf]
 apply I.write (x:=p) (e:=p) (by rw[h];trivial) (.inl rfl) (λb u hb q=>(Mh _ _ (Mj hb)).trans q) ⟨_,e⟩ ?_;exact⟨hz,its',n',r,e⟩
abbrev Ak:V->V->V->Hp->(Hp->Prop)->Prop:=λo i v H Q=>∃p xs k j,o=.ref p/\i=.int k/\H p=some (.lst xs)/\ixN xs.length k=some j/\Q (upd H p (.lst (xs.set j v)))
def wK:Dq X Ak:=by
 intro Uq s Z H o i v ov iv u Q I ro ri rv h;obtain⟨p,xs,k,j,rfl,rfl,hp,hj,q⟩:=h;cases ro;obtain⟨t,rfl⟩:=ri;obtain⟨its,n,r,ho,hz⟩:=I.lst hp;obtain⟨h1,h2,h3,h4⟩:=qH hj;have hl:=r.length;have hn:=g7;have I':Inv X Uq Z (upd H p (.lst (xs.set j v))) {s with heap:=s.heap.update p (Md (·.setIfInBounds j u))}:=
  I.lstUpd hp ho (pz its n j u) (r.set rv j) (by rw[Iq];exact hz) s.toks
 by_cases h0:0<=k
 ·have hk:k.toNat=j:=by
   rw[P4 h0 h4]at h1;exact GK.inj h1
  exact PySem.W.ki_setAt ho h0 ⋯ (by rw[Gf,<-hl];exact h4) (by rw[hk];exact⟨_,I',q⟩)
 ·have hk:(k+(its.toArray.size:Int)).toNat=j:=by
   rw[seqIndex_neg ⋯ h3]at h1;rw[Gf,<-hl];exact GK.inj h1
  exact PySem.W.ki_setBack ho ⋯ (by rw[Gf,<-hl];exact h3) ⋯ (by rw[hk];exact⟨_,I',q⟩)
def ng(lo hi:Option Int)(n:Nat):(M0 lo hi none n).1=((HT.sIx n 0 lo:Nat):Int)/\(M0 lo hi none n).2.1=((HT.sIx n n hi:Nat):Int)/\(M0 lo hi none n).2.2=1:=by
 apply⟨?_,?_,rfl⟩
 ·cases lo with
  | none=>simp[M0,HT.sIx]
  | some i=>
   dsimp[M0,HT.sIx,Jj,show(1:Int)>0 by decide,if_true];by_cases h:i<0;dsimp[h,if_true]<;>omega;dsimp[h,if_false]<;>omega
 ·cases hi with
  | none=>simp[M0,HT.sIx]
  | some i=>
   dsimp[M0,HT.sIx,Jj,show(1:Int)>0 by decide,if_true];by_cases h:i<0;dsimp[h,if_true]<;>omega;dsimp[h,if_false]<;>omega
def le(its:List LH)(lo hi:Option Int):slicePick its.toArray lo hi none=((its.drop (HT.sIx its.length 0 lo)).take (HT.sIx its.length its.length hi-HT.sIx its.length 0 lo)).toArray:=by
 obtain⟨h1,h2,h3⟩:=ng lo hi its.toArray.size;unfold slicePick;rw[h1,h2,h3];dsimp[Qq,Q5,Gf]<;>rfl
abbrev ET(K:yF):V->Option Int->Option Int->Hp->VK->Prop:=λx lo hi H Q=>∃a xs,x=.ref a/\SqL K H a xs/\∀p,H p=none->Q (.ref p) (upd H p (.lst (j5 xs lo hi)))
def sl_list:SlR X (ET X.K):=by
 intro Uq s Z H x v vl vu lo hi sl Q I rx hs pl pu h;obtain⟨a,xs,rfl,hx,q⟩:=h;cases rx;obtain⟨its,r,ht,hz⟩:=I.list hx;have hlen:=r.length;apply⟨"list",_,PD.lookup,ht.isList.typeIs,?_⟩;apply wpAny_getItem_list_slice ht.isList hs pl pu .none ∅ ?_ (by rw[Gf]<;>omega);rw[le,<-hlen];apply⟨.ref s.heap.objs.size,_,I.laid (t':=s.toks) (o:=.lst (j5 xs lo hi)) (λb ob q=>LK _ q) (Gj _) ?_,rfl,q _ (I.hok.fresh (Gj _))⟩;exact⟨GV (jA xs lo hi) hz,_,0,(r.drop (HT.sIx xs.length 0 lo)).take (HT.sIx xs.length xs.length hi-HT.sIx xs.length 0 lo),LQ _ rfl⟩
abbrev jE:V->Bool
 | .non=>true
 | .bl _=>true
 | .int _=>true
 | .str _=>true
 | _=>false
abbrev eqV:V->V->Bool
 | .non,.non=>true
 | .bl a,.bl b=>a==b
 | .bl a,.int b=>(if a then 1 else 0)==b
 | .int a,.bl b=>a==(if b then 1 else 0)
 | .int a,.int b=>a==b
 | .str a,.str b=>a==b
 | _,_=>false
def AK{A:LX}{s:LI}{y x:V}{u v:LH}(ry:RelV y u)(rx:RelV x v)(fy:jE y=true)(fx:jE x=true):Me A s u v (eqV y x):=by
 cases y with
 | non=>
  cases ry;cases x with
  | non=>cases rx;exact Me.same _
  | bl b=>cases rx;exact Me.none_bool b
  | int b=>obtain⟨t,rfl⟩:=rx;exact Me.none_int b t
  | str b=>obtain⟨t,rfl⟩:=rx;exact Me.none_str b t
  | _=>exact absurd (show false=true from fx) Gv
 | bl a=>
  cases ry;cases x with
  | non=>cases rx;exact Me.bool_none a
  | bl b=>cases rx;exact Me.bool_bool a b
  | int b=>obtain⟨t,rfl⟩:=rx;exact Me.bool_int a b t
  | str b=>obtain⟨t,rfl⟩:=rx;exact Me.bool_str a b t
  | _=>exact absurd (show false=true from fx) Gv
 | int a=>
  obtain⟨t',rfl⟩:=ry;cases x with
  | non=>cases rx;exact Me.int_none a t'
  | bl b=>cases rx;exact Me.int_bool a t' b
  | int b=>obtain⟨t,rfl⟩:=rx;exact Me.int_int a t' b t
  | str b=>obtain⟨t,rfl⟩:=rx;exact Pl a t' b t
  | _=>exact absurd (show false=true from fx) Gv
 | str a=>
  obtain⟨t',rfl⟩:=ry;cases x with
  | non=>cases rx;exact Me.str_none a t'
  | bl b=>cases rx;exact Me.str_bool a t' b
  | int b=>obtain⟨t,rfl⟩:=rx;exact Pm a t' b t
  | str b=>obtain⟨t,rfl⟩:=rx;exact Me.str_str a t' b t
  | _=>exact absurd (show false=true from fx) Gv
 | _=>exact absurd (show false=true from fy) Gv
abbrev eqU(x:V) (u:LH):Bool:=match u with
 | .none=>eqV .non x
 | .bool b=>eqV (.bl b) x
 | .int i _=>eqV (.int i) x
 | .str z _=>eqV (.str z) x
 | _=>false
def ul{x y:V}{u:LH}(r:RelV y u)(f:jE y=true):eqU x u=eqV y x:=by
 cases y with
 | non=>cases r;rfl
 | bl b=>cases r;rfl
 | int i=>obtain⟨t,rfl⟩:=r;rfl
 | str z=>obtain⟨t,rfl⟩:=r;rfl
 | _=>exact absurd (show false=true from f) Gv
def iu{x:V}:∀{xs:List V} {us:List LH},Vals xs us->xs.all jE=true->us.any (eqU x)=xs.any λy=>eqV y x
 | _,_,.nil,_=>rfl
 | y::xs,u::us,.cons r t,f=>by
  rw[Ht,Gd]at f;rw[Jd,Jd,ul r f.1,iu t f.2]
def f7{A:LX}{s:LI}{x:V}{v:LH}(rx:RelV x v)(fx:jE x=true):∀{xs:List V} {us:List LH},Vals xs us->xs.all jE=true->∀u∈us,Me A s u v (eqU x u)
 | _,_,.nil,_=>λu hu=>by cases hu
 | y::xs,u::us,.cons r t,f=>λu' hu=>by
  rw[Ht,Gd]at f;rcases ycM hu with rfl|hu;rw[ul r f.1];exact AK r rx f.1 fx;exact f7 rx fx t f.2 u' hu
abbrev inV(x:V) (xs:List V):Bool:=xs.any λy=>eqV y x
abbrev rIn(K:yF)(neg:Bool):R2:=λx y H Q=>∃p xs,y=.ref p/\(SqL K H p xs\/SqT K H p xs)/\jE x=true/\xs.all jE=true/\Q (.bl (if neg then !inV x xs else inV x xs)) H
def op_in_seq:OpR X (Ml .In) (rIn X.K false):=by
 intro Uq s Z H x y v u Q I rx ry h;obtain⟨p,xs,rfl,hq,fx,fs,q⟩:=h;cases ry;rcases hq with hq|hq
 ·obtain⟨its,r,pl,hz⟩:=I.list hq;apply P7 (eqU x) pl.isList (λw hw=>f7 rx fx r fs w (by exists hw)) ⟨.bl _,H,I,rfl,?_⟩;rw[show its.toArray.any (eqU x)=its.any (eqU x) by simp,iu r fs];exact q
 ·obtain⟨its,r,pl,hz⟩:=I.tuple hq;apply PY (eqU x) pl (λw hw=>f7 rx fx r fs w (by exists hw)) ⟨.bl _,H,I,rfl,?_⟩;rw[show its.toArray.any (eqU x)=its.any (eqU x) by simp,iu r fs];exact q
def op_notIn_seq:OpR X (Ml .NotIn) (rIn X.K true):=by
 intro Uq s Z H x y v u Q I rx ry h;obtain⟨p,xs,rfl,hq,fx,fs,q⟩:=h;cases ry;rcases hq with hq|hq
 ·obtain⟨its,r,pl,hz⟩:=I.list hq;apply Ps (eqU x) pl.isList (λw hw=>f7 rx fx r fs w (by exists hw)) ⟨.bl _,H,I,rfl,?_⟩;rw[show its.toArray.any (eqU x)=its.any (eqU x) by simp,iu r fs];exact q
 ·obtain⟨its,r,pl,hz⟩:=I.tuple hq;apply Pc (eqU x) pl (λw hw=>f7 rx fx r fs w (by exists hw)) ⟨.bl _,H,I,rfl,?_⟩;rw[show its.toArray.any (eqU x)=its.any (eqU x) by simp,iu r fs];exact q
def op_notIn_str:OpR X (Ml .NotIn) (λx y H Q=>∃i j,x=.str i/\y=.str j/\Q (.bl (!(!(MH j i 0 j.length 1).isEmpty))) H):=by
 intro Uq s Z H x y v u Q I rx ry h;obtain⟨i,j,rfl,rfl,q⟩:=h;obtain⟨t,rfl⟩:=rx;obtain⟨t',rfl⟩:=ry;exact notIn_str ⟨.bl _,H,I,rfl,q⟩
def l8:La X (.builtin "len") (λxs H Q=>∃p ys,xs=[.ref p]/\(SqL X.K H p ys\/SqT X.K H p ys)/\Q (.int ys.length) H):=by
 intro Uq s Z H xs us Q I r h;obtain⟨p,ys,rfl,hq,q⟩:=h;obtain⟨u,rfl,rx⟩:=fh r;cases rx;have hn:=g7;rcases hq with hq|hq
 ·obtain⟨its,r',pl,hz⟩:=I.list hq;have hlen:=r'.length;exact Calls.call_len_list pl.isList (by dsimp[Gf]<;>omega) ⟨.int ys.length,H,I.tok _,⟨s.toks+1,by rw[Gf,hlen]⟩,q⟩
 ·obtain⟨its,r',pl,hz⟩:=I.tuple hq;have hlen:=r'.length;exact QH pl (by dsimp[Gf]<;>omega) ⟨.int ys.length,H,I.tok _,⟨s.toks+1,by rw[Gf,hlen]⟩,q⟩
def l9:La X (.builtin "len") (λxs H Q=>∃z,xs=[.str z]/\z.length<=sizeLine/\Q (.int z.length) H):=by
 intro Uq s Z H xs us Q I r h;obtain⟨z,rfl,hz,q⟩:=h;obtain⟨u,rfl,t,rfl⟩:=fh r;have hn:=g7;exact len_str ⋯ ⟨.int z.length,H,I.tok _,⟨_,rfl⟩,q⟩
def La.or{f:LH}{r r':List V->Hp->VK->Prop}(h:La X f r)(h':La X f r'):La X f (λxs H Q=>r xs H Q\/r' xs H Q):=by
 intro Uq s Z H xs us Q I rs q;rcases q with q|q;exact h Uq s Z H xs us Q I rs q;exact h' Uq s Z H xs us Q I rs q
def md:La X (.type "list") (λxs H Q=>∃p ys,xs=[.ref p]/\(SqL X.K H p ys\/SqT X.K H p ys)/\∀l,H l=none->Q (.ref l) (upd H l (.lst ys))):=by
 intro Uq s Z H xs us Q I r h;obtain⟨p,ys,rfl,hq,q⟩:=h;obtain⟨u,rfl,rx⟩:=fh r;cases rx;have fin:∀(its:List LH),Vals ys its->ys.length<=sizeLine->∀(h':Heap) (c':Nat),(∀b o',s.heap.get? b=some o'->h'.get? b=some o') ->
   h'.get? s.heap.objs.size=some {cls:=.type "list",dict:=none,data:=.seq its.toArray c',slots:=#[]}->EP X Uq Z Q (.ref s.heap.objs.size) {s with heap:=h'}:=λits r' hz h' c' kp e=>
  ⟨.ref s.heap.objs.size,_,I.laid (t':=s.toks) kp (Gj _) (show K6 X.prog X.w _ h' _ (.lst ys)from⟨hz,its,c',r',e⟩),rfl,q _ (I.hok.fresh (Gj _))⟩
 rcases hq with hq|hq
 ·obtain⟨its,r',pl,hz⟩:=I.list hq;have hlen:=r'.length;obtain⟨o,ho,hc,n,hd⟩:=pl.isList;exact call_list_seq p (.inl rfl) ho hc hd (λh' c' kp e=>fin its r' hz h' c' kp e) (by dsimp[Gf]<;>omega)
 ·obtain⟨its,r',pl,hz⟩:=I.tuple hq;have hlen:=r'.length;obtain⟨o,ho,hc,n,hd⟩:=pl;exact call_list_seq p (.inr rfl) ho hc hd (λh' c' kp e=>fin its r' hz h' c' kp e) (by dsimp[Gf]<;>omega)
def kU:La X (.type "tuple") (λxs H Q=>∃p ys,xs=[.ref p]/\((SqL X.K H p ys/\∀l,H l=none->Q (.ref l) (upd H l (.tup ys)))\/(SqT X.K H p ys/\Q (.ref p) H))):=by
 intro Uq s Z H xs us Q I r h;obtain⟨p,ys,rfl,h⟩:=h;obtain⟨u,rfl,rx⟩:=fh r;cases rx;rcases h with⟨hq,q⟩|⟨hq,q⟩
 ·obtain⟨its,r',pl,hz⟩:=I.list hq;have hlen:=r'.length;apply call_tuple_list pl.isList (λh' kp=>?_) (by dsimp[Gf]<;>omega);have I1:Inv X Uq Z H {s with heap:=h'}:=I.kept (t':=s.toks) kp;have I2:Inv X Uq Z (upd H h'.objs.size (.tup ys)) {s with heap:=h'.push {cls:=.type "tuple",data:=.seq its.toArray}}:=
   I1.laid (t':=s.toks) (λb o e=>LK _ e) (Gj _) (show K6 X.prog X.w _ _ _ (.tup ys)from⟨hz,its,r',Ld.new _ _⟩)
  exact⟨.ref h'.objs.size,_,I2,rfl,q _ (I1.hok.fresh (Gj _))⟩
 ·obtain⟨its,r',pl,hz⟩:=I.tuple hq;exact call_tuple_same pl ⟨.ref p,H,I,rfl,q⟩
abbrev tyV(K:yF)(T:String)(x:V)(H:Hp):Prop:=match x with
 | .str _=>T = "str"
 | .int _=>T = "int"
 | .ref p=>(T = "list" /\ ∃xs,SqL K H p xs)\/(T = "tuple" /\ ∃o,K.lookup p=some o/\o.cls=.type "tuple" /\ o.dict=none) \/
   (T = "dict" /\ ((∃kvs,H p=some (.dK kvs)) \/ ∃kvs,H p=some (.dT kvs)))\/(T = "set" /\ ∃S n,H p=some (.set S n))
 | _=>False
def wT{Uq:List (Addr×Obj)}{Z:St}{H:Hp}{s:LI}{T:String}{x:V}{v:LH}(I:Inv X Uq Z H s)(r:RelV x v)(ty:tyV X.K T x H) :
  s.TypeIs v T/\∀a,v=.ref a->∃ob,s.heap.get? a=some ob/\ob.dict=none:=by
 cases x with
 | str z=>
  obtain⟨t,rfl⟩:=r;cases (show T = "str" from ty);exact⟨Qp s z t,λ_ e=>nomatch e⟩
 | int i=>
  obtain⟨t,rfl⟩:=r;cases (show T = "int" from ty);exact⟨Ny s i t,λ_ e=>nomatch e⟩
 | ref p=>
  cases r;rcases ty with⟨rfl,xs,hq⟩|⟨rfl,o,hk,hc,hd⟩|⟨rfl,hk⟩|⟨rfl,S,n,hk⟩
  ·obtain⟨its,_,pl,_⟩:=I.list hq;apply⟨pl.isList.typeIs,λa e=>?_⟩;cases e;obtain⟨o,n,e,c,hd,_⟩:=pl;exact⟨o,e,hd⟩
  ·apply⟨⟨o,I.kIn p o hk,hc⟩,λa e=>?_⟩;cases e;exact⟨o,I.kIn _ o hk,hd⟩
  ·have z:∃o,s.heap.get? p=some o/\o.ExactDict:=by
    rcases hk with⟨kvs,hk⟩|⟨kvs,hk⟩
    ·obtain⟨_,_,_,_,o,_,_,e,ex,_⟩:=I.hok p _ hk;exact⟨o,e,ex⟩
    ·obtain⟨_,_,_,_,o,_,_,e,ex,_⟩:=I.hok p _ hk;exact⟨o,e,ex⟩
   obtain⟨o,e,ex⟩:=z;apply⟨⟨o,e,ex.1⟩,λa e2=>?_⟩;cases e2;exact⟨o,e,ex.2.1⟩
  ·obtain⟨o,_,_,_,e,ex,_⟩:=I.hok p _ hk;apply⟨⟨o,e,ex.1⟩,λa e2=>?_⟩;cases e2;exact⟨o,e,ex.2.1⟩
 | _=>exact M1 ty
abbrev CU(K:yF)(T:String)(r:V->List V->Hp->VK->Prop)(to:TE):TE:=λZ H Q=>to Z H λx H1=>tyV K T x H1/\r x [] H1 Q
abbrev tBM(K:yF)(T:String)(r:V->List V->Hp->VK->Prop)(to:TE)(t:TA):TE:=λZ H Q=>to Z H λx H1=>tyV K T x H1/\t Z H1 λxs H2=>r x xs H2 Q
variable {o e:Expr}{es:List Expr}{to:TE}{t:TA}{name:Str}{apos cpos:Pos}{T id:String}{r:V->List V->Hp->VK->Prop}
def BL(pa:Nz T)(slot:Slot T name id)(hty:Pt (.builtin id)=pure (.type "method_descriptor"))(hm:MtR X id r)(ho:PE X o to)
  (hbase:MD o name X.env (eval o X.env)=eval o X.env:=by rfl) (hline:(apos.endLine==cpos.line)=true:=by rfl):PE X (.Call (.Attribute o name apos) [] [] cpos) (CU X.K T r to):=by
 intro Uq s Z H Q I h;apply wpAny_Call_method0_late hbase hline (thn (ho Uq s Z H _ I h) λv s1 ⟨x,H1,I1,r1,ty,q1⟩=>?_);obtain⟨h1,h2⟩:=wT I1 r1 ty;exact⟨T,id,pa,slot,hty,h1,h2,OC rfl (PySem.evalArgs_none (hm Uq s1 Z H1 x [] v [] Q I1 r1 .nil q1))⟩
def Ea(pa:Nz T)(slot:Slot T name id)(hty:Pt (.builtin id)=pure (.type "method_descriptor"))(hm:MtR X id r)(ho:PE X o to)(ha:PA X (e::es) t)
  (hbase:MD o name X.env (eval o X.env)=eval o X.env:=by rfl)
  (hfew:((Nk cpos (Ma (e::es) X.env)).all (λx=>!x.1)&&(backToKw cpos (keywordEach [] X.env)).all (λx=>x.1.isSome)
   && decide ((e::es).length+([]:List Qc).length+(if([]:List Qc).isEmpty then 0 else 1)<30))=true:=by rfl)
  (hline:(apos.endLine==cpos.line)=true:=by rfl) (hs:Ma (e::es) X.env=(false,eval e X.env)::Ma es X.env:=by rfl) (hplain:(Nk cpos (Ma es X.env)).any (·.1)=false:=by rfl) :
  PE X (.Call (.Attribute o name apos) (e::es) [] cpos) (tBM X.K T r to t):=by
 intro Uq s Z H Q I h;apply wpAny_Call_method_late hbase hfew hline rfl (thn (ho Uq s Z H _ I h) λv s1 ⟨x,H1,I1,r1,ty,q1⟩=>?_);obtain⟨h1,h2⟩:=wT I1 r1 ty;apply⟨T,id,pa,slot,hty,h1,h2,?_⟩;have hA:=ha cpos Uq s1 Z H1 _ I1 q1;rw[hs]at hA|-;apply OC (by show(false||(Nk cpos (Ma es X.env)).any (·.1))=false;rw[hplain]<;>rfl) (Calls.evalArgs_plain ?_);exact thn hA λus s2 ⟨vs,H2,I2,r2,q2⟩=>hm Uq s2 Z H2 x vs v us Q I2 r1 r2 q2
end
abbrev MtM(X:Cx)(id:String)(r:V->List V->Hp->VK->Prop):Prop:=
 ∀(Uq:List (Addr×Obj)) (s:LI) (Z:St) (H:Hp) (x:V) (xs:List V) (v:LH) (us:List LH) (Q:VK),Inv X Uq Z H s->RelV x v->Vals xs us->r x xs H Q ->
  LN (LO X.prog X.w) X.A (call (.builtin id) (v::us)) (EP X Uq Z Q) X.xe s
def Vals.one:∀{x:V} {us:List LH},Vals [x] us->∃u,us=[u]/\RelV x u:=by
 intro x us h;cases h with
 | cons r t=>cases t;exact⟨_,rfl,r⟩
def Vals.zero:∀{us:List LH},Vals [] us->us=[]
 | _,.nil=>rfl
def Vals.dropLast{xs:List V}{us:List LH}(h:Vals xs us):Vals xs.dropLast us.dropLast:=by
 induction h with
 | nil=>exact .nil
 | cons r t ih=>
  cases t with
  | nil=>exact .nil
  | cons q t'=>exact .cons r ih
def Vals.eraseIdx:∀{xs:List V} {us:List LH} (i:Nat),Vals xs us->Vals (xs.eraseIdx i) (us.eraseIdx i)
 | _,_,_,.nil=>.nil
 | _,_,0,.cons _ t=>t
 | _,_,i+1,.cons r t=>.cons r (Vals.eraseIdx i t)
def Vals.reverse{xs:List V}{us:List LH}(h:Vals xs us):Vals xs.reverse us.reverse:=by
 induction h with
 | nil=>exact .nil
 | cons r t ih=>rw[Ig,Ig];exact Vals.append ih (.cons r .nil)
def Vals.rep{xs:List V}{us:List LH}(h:Vals xs us):∀k:Nat,Vals (Gh k xs).flatten (Gh k us).flatten
 | 0=>.nil
 | k+1=>by
  rw[G6,G6,Hv,Hv];exact Vals.append h (Vals.rep h k)
def o7{α:Type}(l:List α):l.eraseIdx (l.length-1)=l.dropLast:=by
 induction l with
 | nil=>rfl
 | cons a r ih=>
  cases r with
  | nil=>rfl
  | cons b r=>
   have e:(a::b::r).length-1=((b::r).length-1)+1:=by
    have h1:(a::b::r).length=r.length+2:=rfl;have h2:(b::r).length=r.length+1:=rfl;omega
   rw[e,HS,ih];all_goals rfl
def lB{α:Type}:∀(l:List α) (i:Nat),(l.eraseIdx i).length<=l.length
 | [],_=>Gj _
 | _::_,0=>I8 _
 | _::r,i+1=>Jk (lB r i)
def eW(its:List LH):∀(k:Nat) (acc:List LH),
  Jq (λx1 x2=>x1++x2) acc.toArray (Gh k its.toArray)=(acc++(Gh k its).flatten).toArray
 | 0,acc=>by simp
 | k+1,acc=>by
  have e:acc.toArray++its.toArray=(acc++its).toArray:=by simp
  have e2:(acc++its)++(Gh k its).flatten=acc++(Gh (k+1) its).flatten:=by
   rw[G6,Hv,Gx]
  rw[<-e2,<-eW its k (acc++its),<-e,G6,Hk]
section
variable {X:Cx}{Uq:List (Addr×Obj)}{Z:St}{H:Hp}{s:LI}{l b:Addr}{xs ys zs:List V}
def Inv.lset{its its':List LH}{n:Nat}{f:Array LH->Array LH}{t':Nat}(I:Inv X Uq Z H s)(hH:H l=some (.lst xs))
  (e:s.heap.get? l=some {cls:=.type "list",data:=.seq its.toArray n}) (hf:f its.toArray=its'.toArray) (hv:Vals ys its') (hz:ys.length<=sizeLine) :
  Inv X Uq Z (upd H l (.lst ys)) {s with heap:=s.heap.update l (Md f),toks:=t'}:=by
 have q:=PySem.IsL.update e f;rw[hf]at q;apply I.write (x:=l) (e:=l) (by rw[hH];exact trivial) (.inl rfl) (λb' u hb hu=>(Mh s.heap (Md f) (Mj hb)).trans hu) ⟨_,q⟩ ?_;exact⟨hz,its',_,hv,q⟩
def Inv.lnew{its:List LH}{t':Nat}(I:Inv X Uq Z H s)(hv:Vals ys its)(hz:ys.length<=sizeLine) :
  Inv X Uq Z (upd H s.heap.objs.size (.lst ys)) {s with heap:=s.heap.push {cls:=.type "list",data:=.seq its.toArray},toks:=t'}:=
 I.laid (λ_ _ q=>LK _ q) (Gj _) ⟨hz,its,0,hv,LQ _ rfl⟩
def Inv.fresh(I:Inv X Uq Z H s):H s.heap.objs.size=none:=I.hok.fresh (Gj _)
def Inv.lstM(I:Inv X Uq Z H s)(hH:H l=some (.lst xs)):xs.length<=sizeLine/\∃(its:List LH) (n:Nat),Vals xs its/\xs.length=its.length/\s.heap.get? l=some {cls:=.type "list",data:=.seq its.toArray n}:=by
 obtain⟨z,its,n,r,e⟩:=I.hok l _ hH;exact⟨z,its,n,r,r.length,e⟩
def dN{n:Nat}(h:n<=sizeLine):LZ n=false:=by
 unfold LZ;exact decide_eq_false ⋯
end
section
variable {X:Cx}
abbrev mS:V->List V->Hp->VK->Prop:=λx vs H Q=>∃l xs y,x=.ref l/\vs=[y]/\H l=some (.lst xs)/\xs.length<sizeLine/\Q .non (upd H l (.lst (xs++[y])))
def sv:MtM X "list.append" mS:=by
 intro Uq s Z H x vs v us Q I rx rv h;obtain⟨l,xs,y,rfl,rfl,hH,hz,q⟩:=h;cases rx;obtain⟨u,rfl,ru⟩:=rv.one;obtain⟨z,its,n,r,hl,e⟩:=I.lstM hH;apply MC F.slot_list_append ⟨_,e,rfl⟩ F.entry_list_append (F.args_list_append_2 _ _) (PySem.list_append l its.toArray n u (by rw[Gf];omega)) ⟨e,?_⟩;apply⟨.non,_,I.lset (its':=its++[u]) hH e ∅ (r.append (.cons ru .nil)) ?_,rfl,q⟩;rw[Gr,IA];omega
abbrev yZ:V->List V->Hp->VK->Prop:=λx vs H Q=>∃l b xs zs,x=.ref l/\vs=[.ref b]/\H l=some (.lst xs)/\H b=some (.lst zs)/\xs.length+zs.length<=sizeLine/\Q .non (upd H l (.lst (xs++zs)))
def mt_extend:MtM X "list.extend" yZ:=by
 intro Uq s Z H x vs v us Q I rx rv h;obtain⟨l,b,xs,zs,rfl,rfl,hH,hB,hz,q⟩:=h;cases rx;obtain⟨u,rfl,ru⟩:=rv.one;cases ru;obtain⟨z,its,n,r,hl,e⟩:=I.lstM hH;obtain⟨z2,its2,n2,r2,hl2,e2⟩:=I.lstM hB;have hsz:its.toArray.size+its2.toArray.size<=sizeLine:=by rw[Gf,Gf];omega
 have hlong:¬ (!its.toArray.isEmpty&&LZ (its.toArray.size+its2.toArray.size))=true:=by
  rw[dN hsz,JE];exact Gv
 apply MC N4 ⟨_,e,rfl⟩ NO (NE _ _)
  (Nn l its.toArray n b its2.toArray n2 hlong (by rw[Gf];omega) ⋯) ⟨e,e2,?_⟩
 apply⟨.non,_,I.lset (its':=its++its2) hH e ∅ (r.append r2) ?_,rfl,q⟩;rw[Gr];omega
abbrev Cy:V->List V->Hp->VK->Prop:=λx vs H Q=>∃l xs y,x=.ref l/\vs=[]/\H l=some (.lst xs)/\xs[xs.length-1]?=some y/\Q y (upd H l (.lst xs.dropLast))
def Bc:MtM X "list.pop" Cy:=by
 intro Uq s Z H x vs v us Q I rx rv h;obtain⟨l,xs,y,rfl,rfl,hH,hy,q⟩:=h;cases rx;have hus:=rv.zero;subst hus;obtain⟨z,its,n,r,hl,e⟩:=I.lstM hH;obtain⟨u,hu,ru⟩:=r.get hy;have hy':its.toArray[its.toArray.size-1]?=some u:=by
  show its.toArray[its.length-1]?=some u;rw[<-IB,<-hl];exact hu
 apply MC F.slot_list_pop ⟨_,e,rfl⟩ F.entry_list_pop (F.args_list_pop_1 _) (MeetsSeq.list_pop_last l its.toArray n u hy' (by rw[Gf];omega)) ⟨e,?_⟩;apply⟨y,_,I.lset (its':=its.dropLast) hH e ?_ r.dropLast ?_,ru,q⟩
 ·show its.toArray.eraseIdxIfInBounds (its.toArray.size-1)=its.dropLast.toArray;rw[Gf,Iz,o7]
 ·rw[List.length_dropLast];omega
abbrev EI:R2:=λx y H Q=>∃l b xs zs,x=.ref l/\y=.ref b/\H l=some (.lst xs)/\H b=some (.lst zs)/\xs.length+zs.length<=sizeLine/\∀p,H p=none->Q (.ref p) (upd H p (.lst (xs++zs)))
def op_cat:OpR X (Ms .Add) EI:=by
 intro Uq s Z H x y v u Q I rx ry h;obtain⟨l,b,xs,zs,rfl,rfl,hH,hB,hz,q⟩:=h;cases rx;cases ry;obtain⟨z,its,n,r,hl,e⟩:=I.lstM hH;obtain⟨z2,its2,n2,r2,hl2,e2⟩:=I.lstM hB;apply PySem.P.add_list e e2 ?_ (by rw[Gf,Gf];omega);have ea:its.toArray++its2.toArray=(its++its2).toArray:=by simp
 rw[ea];exact⟨.ref _,_,I.lnew (t':=s.toks) (r.append r2) (by rw[Gr];omega),rfl,q _ I.fresh⟩
abbrev ER:R2:=λx y H Q=>∃l k xs,x=.ref l/\y=.int k/\H l=some (.lst xs)/\-(2^63)<=k/\k<2^63/\xs.length*k.toNat<=sizeLine /\
 ∀p,H p=none->Q (.ref p) (upd H p (.lst (Gh k.toNat xs).flatten))
def iH{α:Type}(xs:List α)(k:Nat):(Gh k xs).flatten.length=k*xs.length:=by
 induction k with
 | zero=>simp
 | succ k ih=>rw[G6,Hv,Gr,ih,Nat.succ_mul,Nat.add_comm]
def op_rep:OpR X (Ms .Mult) ER:=by
 intro Uq s Z H x y v u Q I rx ry h;obtain⟨l,k,xs,rfl,rfl,hH,h1,h2,hz,q⟩:=h;cases rx;obtain⟨t,rfl⟩:=ry;obtain⟨z,its,n,r,hl,e⟩:=I.lstM hH;have hlen:its.toArray.size*k.toNat<=sizeLine:=by rw[Gf,<-hl];exact hz
 have hcap:¬ its.toArray.size*k.toNat>(2^63-1) / 8:=by
  have:(sizeLine:Nat)<=(2^63-1) / 8:=by decide
  omega
 have hfit:¬ (!Builtin.List.listFitsIndex k)=true:=by
  rw[OS h1 h2];exact Gv
 have hlong:¬ LZ (its.toArray.size*k.toNat)=true:=by
  rw[dN hlen];exact Gv
 have hnew:Jq (λx1 x2=>x1++x2) #[] (Gh (if its.toArray.isEmpty=true then 0 else k.toNat) its.toArray)=(Gh k.toNat its).flatten.toArray:=by
  have f0:∀m:Nat,Jq (λx1 x2=>x1++x2) #[] (Gh m its.toArray)=(Gh m its).flatten.toArray:=λm=>by
   have:=eW its m [];rw[Hy]at this;exact this
  rw[f0];cases its with
  | nil=>simp
  | cons a r'=>rw[if_neg ∅]
 apply Ng (T:="list") (U:="int") (by decide) ⟨_,e,rfl⟩ (λs'=>Ny s' k t) P8 OI M6 repeat_list Oq.lookup
  (MC M6 (Ny s k t) Os (Oc _ _) (OM k t l its.toArray n)
   ⟨e,rfl,⟨_,e,rfl⟩,MC P9 ⟨_,e,rfl⟩ PZ (PF _ _) (Nj l its.toArray n k t hfit hcap hlong) ⟨e,?_⟩⟩)
 rw[hnew];exact⟨.ref _,_,I.lnew (t':=s.toks) (r.rep k.toNat) (by rw[iH,JX];exact hz),rfl,q _ I.fresh⟩
end
section
variable {prog:LR}{w:Mb}{A:LX}{E:LH->LI->Prop}{s:LI}
def tJ(its its2:List LH)(a c:Nat):its.toArray.extract 0 a++its2.toArray++its.toArray.extract c its.toArray.size=(its.take a++its2++its.drop c).toArray:=by
 apply Array.toList_inj.mp;first
  | (simp
     exact GE ∅)
  | simp[GE]
  | simp
def oY{a c n:Nat}(hac:a<=c)(hc:c<=n):M0 (some (a:Int)) (some (c:Int)) none n=((a:Int),(c:Int),1):=by
 dsimp[M0,Jj];have h1:¬ ((a:Int)<0):=by omega
 have h2:¬ ((c:Int)<0):=by omega
 dsimp[h1,h2,if_false,show(1:Int)>0 by decide,if_true];congr 1;omega;congr 1;omega
set_option maxRecDepth 100000 in
def lc{l b sl:Addr}{items new:Array LH}{n n2:Nat}{vl vu:LH}{a c:Nat}{Q:Unit->LI->Prop}
  (e:s.heap.get? l=some {cls:=.type "list",data:=.seq items n}) (e2:s.heap.get? b=some {cls:=.type "list",data:=.seq new n2}) (hne:l≠b)
  (hs:s.heap.IsSliceOf sl vl vu .none) (pl:NH vl (some (a:Int))) (pu:NH vu (some (c:Int))) (hac:a<=c) (hc:c<=items.size)
  (hsz:items.size+new.size<=sizeLine) (h:Q () {s with heap:=s.heap.update l (Md λxs=>xs.extract 0 a++new++xs.extract c xs.size)}) :
  LN (LO prog w) A (OA (.ref l) (.ref sl) (.ref b)) Q E s:=by
 have hl:s.heap.IsList l items:=PySem.IsL.isList e;have hb:s.heap.IsList b new:=PySem.IsL.isList e2;obtain⟨os,hos,hcs,hds⟩:=id hs;have hTs:s.TypeIs (.ref sl) "slice" :=⟨os,hos,hcs⟩;have hstep:¬ ((rawPart none==NY 0)=true):=Gv;have hsame:MW (.ref l) (.ref b)=false:=by
  unfold MW;exact beq_eq_false_iff_ne.mpr hne
 have hmax:(max (a:Int) (c:Int)).toNat=c:=by omega
 have hz':((λxs:Array LH=>xs.extract 0 a++new++xs.extract c xs.size) items).size<=sizeLine+1:=by
  dsimp[JY,Array.size_extract];omega
 unfold OA;try with_reducible refine Mi ?_
 first|refine LG (LJ ?_)|skip
 apply LG (Nm hl.typeIs (by decide) ?_);apply LG (Mt (name:=Mg "__setitem__") hl.typeIs PH
  (Mo PH hl.typeIs entry_list_setitem ?_ (args_list_setitem _ _ _)))
 show LN _ _ (NR (.ref sl) >>= _) _ _ s;apply LG ?_;unfold NR;apply LG (MP hTs slice_no_index ?_);dsimp[Option.isNone_none,if_true];apply LJ ?_;show LN _ _ (Pt (.ref sl) >>= _) _ _ s;apply LG (M4 hTs ?_);first
  | rw[if_neg (by decide)]
  | refine PySem.W.KFB.if_not (by decide) ?_
 rw[listSliceParts_eq];apply LG (LG (Mn hos hds (x:=.none) rfl (LG (OT .none ?_))));rw[if_neg hstep];apply LG (Mn hos hds (x:=vl) rfl (LG (OT pl ?_)));apply LG (Mn hos hds (x:=vu) rfl (LG (OT pu (LJ ?_))));first
  | dsimp[hsame,HA,if_false]
  | refine PySem.W.KFB.if_not hsame ?_
  | (dsimp only
     rw[if_neg (by rw[hsame];exact Gv)])
 apply LG (m:=N9 (.ref b) "must assign iterable to extended slice") ?_;unfold N9;apply LG (M4 hb.typeIs ?_);first
  | refine PySem.W.KFB.if_so (by decide) ?_
  | rw[if_pos (by decide)]
  | dsimp[beq_self_eq_true,KB,if_true]
 unfold No;apply LG (OU e2 rfl (LJ ?_));apply LG (LG (OU e rfl (LJ ?_)));apply LG (MV ((sliceIndices_raw (some (a:Int)) (some (c:Int)) none items.size ∅).trans (congrArg (pure:Int×Int×Int->Sem (Int×Int×Int)) (oY hac hc))) ?_);show LN _ _ (if((1:Int)==1)=true then _ else _) _ _ s;rw[if_pos (by decide)];apply LG (Nx ?_);first
  | dsimp[dN hsz,HA,if_false]
  | refine PySem.W.KFB.if_not (dN hsz) ?_
 first|refine LG (LJ ?_)|skip
 show LN _ _ (P0 l (λxs=>xs.extract 0 ((a:Int)).toNat++new++xs.extract (max (a:Int) (c:Int)).toNat xs.size) >>= _) _ _ s;rw[hmax,GP];apply LG (M7 (hz:=GV (HU _ _) hsz) (_hz':=hz') e rfl ?_);apply LG (wpAny_letGo ?_);first
  | exact LG (LJ (LJ ⟨.none,rfl,LJ h⟩))
  | exact LJ ⟨.none,rfl,LJ h⟩
end
section
variable {X:Cx}
def tG{Uq:List (Addr×Obj)}{s:LI}{Z:St}{H:Hp}{l b sl:Addr}{xs ys:List V}{a c:Int}{vl vu:LH}{Q:Unit->LI->Prop}(I:Inv X Uq Z H s)
  (hH:H l=some (.lst xs)) (hB:H b=some (.lst ys)) (hne:l≠b) (hs:s.heap.IsSliceOf sl vl vu .none) (ra:RelV (.int a) vl) (rc:RelV (.int c) vu) (h0:0<=a) (hac:a<=c) (hc:c<=xs.length)
  (hz:xs.length+ys.length<=sizeLine) (h:∀s',Inv X Uq Z (upd H l (.lst (xs.take a.toNat++ys++xs.drop c.toNat))) s'->Q () s') :
  LN (LO X.prog X.w) X.A (OA (.ref l) (.ref sl) (.ref b)) Q X.xe s:=by
 obtain⟨ta,rfl⟩:=ra;obtain⟨tc,rfl⟩:=rc;obtain⟨z,its,n,r,hl,e⟩:=I.lstM hH;obtain⟨z2,its2,n2,r2,hl2,e2⟩:=I.lstM hB;obtain⟨a',rfl⟩:=Jl h0;obtain⟨c',rfl⟩:=Jl (Int.le_trans h0 hac);dsimp[GP]at h;apply lc (a:=a') (c:=c') e e2 hne hs (.int _ _) (.int _ _) ⋯ (by rw[Gf];omega) (by rw[Gf,Gf];omega) (h _ ?_);apply I.lset (its':=its.take a'++its2++its.drop c') (t':=s.toks) hH e ?_ (Vals.append (Vals.append (r.take _) r2) (r.drop _)) ?_;exact tJ its its2 a' c'
 ·rw[Gr,Gr,GZ,Hm];omega
end
end L2
namespace Att
open PySem PySem.W PySem.Calls PyProof.Rows
def ints_of_wellAll{P:QV}{h:Heap}:∀(ns:List Int) (vs:List LH),WellAll P h vs (ns.map Rm)->Qd vs ns:=by
 intro ns
 induction ns with
 | nil=>
  intro vs w;rw[He]at w;cases w;exact .nil
 | cons n ns ih=>
  intro vs w;rw[Gg]at w;cases w with
  | cons a b=>
   cases a;exact .cons _ _ (ih _ b)
def script_of{l:QX}{n:Nat}(hn:l.most=some n){P:QV}{h:Heap}{args:List Rk}{vals:List LH}
  (hpre:l.row.toRowW.claim.pre args=true) (hwl:WellAll P h vals args) :
  ∃a vs ns,vals=[Nv a]/\args=[Rk.list (ns.map Rm)]/\h.get? a=some {cls:=.type "list",data:=.seq vs.toArray}/\Qd vs ns/\ns.length<=n:=by
 have hsh:QY.hasAll [] args [.list .int]=true:=(pre_splitW hpre).1;have hc:l.pre.holds [] {args:=args}=true:=(pre_splitW hpre).2;obtain⟨d,r,rfl,h1,h2⟩:=hasAllW_cons hsh;obtain rfl:=hasAllW_nil h2;obtain⟨xs,rfl,h3⟩:=hasW_list h1;obtain⟨ns,rfl⟩:=items_int h3;have hlen:ns.length<=n:=by
  unfold QX.pre at hc;have h4:(WTm.not (.lt (.lit (.int (n:Int))) (.len (.arg 0)))).holds [] {args:=[.list (ns.map .int)]}=true:=by
   have h4:=(holds_andW hc).1;rw[hn]at h4;exact h4
  have h5:=condW_of h4 (w_not (w_lt w_lit (w_len_list (w_arg rfl))));rw[Ge]at h5;apply Nat.le_of_not_lt λq=>?_;have q':(n:Int)<((ns.length:Nat):Int):=by omega
  first
   | (rw[decide_eq_true q']at h5;exact absurd h5 (by decide))
   | (simp at h5;omega)
 cases hwl with
 | cons w1 w2=>
  cases w2;cases w1 with
  | list ho hall=>exact⟨_,_,ns,rfl,rfl,ho,ints_of_wellAll ns _ hall,hlen⟩
def post_true(l:QX)(args:List Rk):l.row.toRowW.claim.post args (.bool true) args=true:=
 postW_of (r:=l.row.toRowW) (X:=(true==true))
  (show Rg [] (.bool true) .bool=true by first|rfl|decide|simp[Rg,QY.arms,QY.armsAll])
  (show(WTm.eq .res (.lit (.bool true))).value [] {args:=args,res:=some (.bool true),after:=args}=some (.bool (true==true))from w_eq_bool (w_res rfl) w_lit) rfl
def attach_call{l:QX}{n:Nat}{q:LR}{loose:List Str}{XP:(Str->Option LH)->Heap->Prop}{YP:Mb->Heap->Prop}{d:DefRec}
  (hn:l.most=some n) (hdf:d.params.defaults=[])
  (call:∀(w:Mb) (s₀ s₁ : LI) (mg mb:Str->Option LH) (fa:Addr) (o:Obj) (pm cd doc:LH) (a:Addr) (vs:List LH) (ns:List Int),
   Ground q loose [] XP w s₀ mg mb s₁.heap->YP w s₁.heap ->
   s₁.heap.get? fa=some o->o.data=.func (docDef d.name d.params d.body d.scope pm cd doc)->s₁.heap.CodeRec cd d.name->mg d.name=some (.ref fa) ->
   s₁.heap.get? a=some {cls:=.type "list",data:=.seq vs.toArray}->Qd vs ns->ns.length<=n->s₁.gens = #[] ->
   Mv (LO l.prog w) O8 (.call (.ref fa) ⟨[.ref a],[]⟩) (λr s'=>r=.ok (.ret (.bool true))/\OldK s₁.heap s'.heap/\s'.os=s₁.os/\Ob s'.gens) s₁) :
  WalkO q loose XP YP l.row.toRowW d [] (λf vs=>PySem.call f vs):=by
 intro w s₀ s₁ mg mb G Y fa o pm cd doc dV kV ho hd hcd hD hmg hg args vals as hpre hlay hrd hwl hlo;obtain rfl:dV=.none:=Dflts.none hD hdf;obtain rfl:kV=.none:=Dflts.noKw hD;obtain⟨a,vs,ns,rfl,rfl,hobj,hints,hlen⟩:=script_of hn hpre hwl;apply enter_call (NQ (call w s₀ s₁ mg mb fa o pm cd doc a vs ns G Y ho (fd_plain hd) hcd hmg hobj hints hlen hg) λr s' hq=>?_);obtain⟨rfl,h2,h3,h4⟩:=hq;exact⟨.inl ⟨.bool true,.bool true,[],rfl,λ_=>rfl,.bool true,post_true l _,λ_=>⟨List.Pairwise.nil,λ_ hm=>(nomatch hm)⟩⟩,h2,h3,h4⟩
end Att
namespace L2
open PySem PySem.Spec PyProof.Rows
def lY:∀{vs:List LH} {ns:List Int},Qd vs ns->Vals (ns.map V.int) vs
 | _,_,.nil=>.nil
 | _,_,.cons n t h=>.cons ⟨t,rfl⟩ (lY h)
abbrev Do(H:Hp):Prop:=∀b,H b=none \/ ∃o xs,H b=some (.frz o (.lst xs))
def uH{P:LR}{w:Mb}{K:yF}{mg mb:Str->Option LH}{CX:CXT}{k:Nat}{fa a:Addr}{fd:M5}{x:Str}{sp:Sp}{s₁ : LI}{vs:List LH}{ns:List Int}
  (KX:K.In s₁.heap) (hns:s₁.heap.Ns Mq mg) (hb:s₁.heap.Ns Pn mb) (hbb:∀x:Str,x ≠ "__name__" -> mb x=MQ x) (hlim:s₁.heap.NoLimit) (hg:s₁.gens = #[])
  (ha:s₁.heap.get? a=some {cls:=.type "list",data:=.seq vs.toArray}) (hi:Qd vs ns) (hl:ns.length<=sizeLine) (hr:Lb k O8)
  (F:∀base:Heap,K.In base->base.Ns Mq mg->Lx P w K mg base CX k fa fd [x] sp) (hbind:∀(s:LI) (u:LH),O7 s fd ⟨[u],[]⟩ [(x,u)])
  (hsp:∀H:Hp,Do H->SqL K H a (ns.map V.int)->sp [.ref a] H (λv _=>v=.bl true) λ_ _ _=>False)
  (hCX:∀H e s',CX [] H s₁ (λ_ _ _=>False) e s'->False) :
  Mv (LO P w) O8 (.call (.ref fa) ⟨[.ref a],[]⟩) (λr s'=>r=.ok (.ret (.bool true))/\OldK s₁.heap s'.heap/\s'.os=s₁.os/\Ob s'.gens) s₁:=by
 have rv:=lY hi;have lenV:=hi.length;have core:∀H:Hp,Do H->SqL K H a (ns.map V.int)->HOk P w H s₁.heap->(∀b,H b≠none->b=a)->(H a≠none->K.lookup a=none) ->
   Mv (LO P w) O8 (.call (.ref fa) ⟨[.ref a],[]⟩) (λr s'=>r=.ok (.ret (.bool true))/\OldK s₁.heap s'.heap/\s'.os=s₁.os/\Ob s'.gens) s₁:=by
  intro H hO hS hok hA hK;have base_of:∀{b:Addr} {o:Obj},s₁.heap.get? b=some o->H b=none->(my s₁.heap H).get? b=some o:=λe n=>uu e n;have noA:∀{b:Addr} {o:Obj} {es:Array QJ} {ep:Nat},s₁.heap.get? b=some o->o.data=.dict es ep->H b=none:=λ{b o es ep} e d=>by
   cases q:H b with
   | none=>rfl
   | some u=>
    have e':b=a:=hA b (by rw[q];simp);subst e';rw[ha]at e;cases e;have d':Data.seq vs.toArray _=Data.dict es ep:=d;cases d'
  have nsK:∀{b:Addr} {m:Str->Option LH},s₁.heap.Ns b m->(my s₁.heap H).Ns b m:=λ{b m} ⟨o,es,ep,e,d,r⟩=>⟨o,es,ep,base_of e (noA e d),d,r⟩;have hKb:K.In (my s₁.heap H):=λb o e=>base_of (KX b o e) (by
   cases q:H b with
   | none=>rfl
   | some u=>
    have e':b=a:=hA b (by rw[q];simp);subst e';rw[hK (by rw[q];simp)]at e;cases e)
  have hM:Mod K mg (my s₁.heap H):=⟨hKb,nsK hns,⟨mb,nsK hb,hbb⟩,let ⟨mc,h1,h2⟩:=hlim;⟨mc,nsK h1,h2⟩⟩;have e0:LC P w K mg (my s₁.heap H) O8 [] s₁ H:=⟨rfl,hM,λb o e=>ye e,Nat.le_of_eq (r6 _ _),trivial,λb hb=>absurd (show b∈([]:List Addr)from hb) ∅,hok,.of_eq hg⟩;apply NQ ((F _ hKb (nsK hns)).run O8 [] s₁ H ⟨[.ref a],[]⟩ [.ref a] [.ref a] _ _ hr e0 (hbind s₁ (.ref a)) (.cons rfl .nil) (hsp H hO hS)) λr s' h=>?_;cases r with
  | error e=>exact(hCX H e s' h).elim
  | ok fl=>
   cases fl with
   | next=>exact M1 h
   | brk=>exact M1 h
   | cont=>exact M1 h
   | ret u=>
    obtain⟨v,H',os,bare,un,hok',r',q⟩:=h;have q':v=.bl true:=q;subst q';obtain rfl:u=NT true:=r';apply⟨rfl,OldK.of_keep λb o e=>?_,os,bare⟩;cases q:H b with
    | none=>exact un.keep b o e q (by intro z;exact absurd (show b∈([]:List Addr)from z) ∅) ∅
    | some u=>
     rcases hO b with z|⟨ob,xs,z⟩;rw[q]at z;cases z
     ·have z2:=un.frzs b ob _ z;obtain⟨e1,_⟩:=hok b _ z;obtain⟨e2,_⟩:=hok' b _ z2;rw[e]at e1;cases e1;exact e2
 cases hk:K.lookup a with
 | some o=>
  have e:=KX a o hk;rw[ha]at e;cases e;apply core (λ_=>none) (λ_=>.inl rfl) (.inr ⟨_,vs.toArray,_,hk,rfl,rfl,rfl,by rw[Gf,lenV];exact hl,by simpa using rv⟩) (λb u z=>by have z':(none:Option HO)=some u:=z;cases z') (λb z=>absurd rfl z) λz=>absurd rfl z
 | none=>
  apply core (λb=>if b=a then some (.frz {cls:=.type "list",data:=.seq vs.toArray} (.lst (ns.map V.int)))else none) (λb=>?_) (.inl (.inr ⟨{cls:=.type "list",data:=.seq vs.toArray},if_pos rfl⟩)) (λb u z=>?_) (λb z=>?_) λ_=>hk
  ·by_cases hb:b=a;exact .inr ⟨_,_,if_pos hb⟩;exact .inl (if_neg hb)
  ·by_cases hb:b=a
   ·have z':=(if_pos hb).symm.trans z;cases z';subst hb;exact⟨ha,by rw[Ge];exact hl,vs,_,rv,ha⟩
   ·have z':=(if_neg hb).symm.trans z;cases z'
  ·by_cases hb:b=a;exact hb;exact absurd (if_neg hb) z
abbrev dv(s:Stmt):Arguments:=match s with
 | .FunctionDef _ a _ _ _ _ _ _ _ _=>a
 | _=>{posonlyargs:=[],args:=[],vararg:=none,kwonlyargs:=[],kw_defaults:=[],kwarg:=none,defaults:=[]}
abbrev bA(s:Stmt):List Stmt:=match s with
 | .FunctionDef _ _ b _ _ _ _ _ _ _=>b
 | _=>[]
abbrev ai(s:Stmt):ML:=match s with
 | .FunctionDef _ _ _ _ _ _ sc _ _ _=>sc
 | _=>{kind:=.function,names:=[],isGenerator:=false,isCoroutine:=false}
protected def CX0:CXT:=λ_ _ _ _ _ _=>False
protected def E0:XK:=λ_ _ _=>False
def D8{X:Cx}:oT CX0 X E0:=λ_ _ _ _ _ _ _ h=>h.elim
structure Fun(K:yF)(x qual:Str)(st:Stmt)(f:Addr)(fd:M5):Prop where
 ex:∃(oc:LH) (od:Option Addr) (kV doc pm:LH) (an:Option Addr) (cdv ct:LH) (osl:Array (Option LH)),
  fd=HC x qual (dv st) (bA st) (ai st) .none kV doc pm an cdv ct/\K.lookup f=some ⟨oc,od,.func fd,osl⟩/\Ij K cdv qual=true
 kp:HJ K (.ref f)=true
section
variable {P:LR}{w:Mb}{K:yF}{mg:Str->Option LH}{base:Heap}
def Fun.ok{x qual:Str}{st:Stmt}{f:Addr}{fd:M5}{N ps:List Str}{k:Nat}{sp:Sp}(F:Fun K x qual st f fd)(S:KU N ps (ai st))(len:∀vs H Q E,sp vs H Q E->vs.length=ps.length)
  (hbody:∀(cdv:LH) (A:LX) (outer:List Env) (s:LI) (H:Hp) (vs:List V) (Q:VK) (E:XK),Lb k (A.deeper (NG qual (ai st) s.heap.objs.size f cdv))->sp vs H Q E ->
   ∃t,PSs (kX CX0 P w K mg base N qual (ai st) f cdv A outer s H E).nox (bA st) t/\t {nx:=λ_ H'=>Q .non H',rt:=Q} (bQ N vs) H):Lx P w K mg base CX0 (k+1) f fd ps sp:=by
 obtain⟨oc,od,kV,doc,pm,an,cdv,ct,osl,rfl,lk,hcd⟩:=F.ex;apply Dw lk hcd S len λA outer s H vs Q E hr hsp=>?_;obtain⟨t,h,q⟩:=hbody cdv A outer s H vs Q E hr hsp;exact⟨t,h.nox,q⟩
def AS{x qual:Str}{st:Stmt}{f:Addr}{oc:LH}{od an:Option Addr}{osl:Array (Option LH)}{kV doc pm cdv ct:LH}(l:K.lookup f=some ⟨oc,od,.func (HC x qual (dv st) (bA st) (ai st) .none kV doc pm an cdv ct),osl⟩)
  (c:Ij K cdv qual=true) (k:HJ K (.ref f)=true):Fun K x qual st f (HC x qual (dv st) (bA st) (ai st) .none kV doc pm an cdv ct):=⟨⟨oc,od,kV,doc,pm,an,cdv,ct,osl,rfl,l,c⟩,k⟩
end
def Dz{A:LX}{k:Nat}(hr:Lb k A):A.units+1<My:=HB (JL (by decide:1<=64) _) hr.units
def pb{A B:Prop}(h:B):if false=true then A else B:=by
 rw[if_neg Gv];exact h
def pc{A B:Prop}(h:A):if true=true then A else B:=by
 rw[if_pos rfl];exact h
abbrev Le(H H':Hp):Prop:=∀b o,H b=some o->H' b=some o
def Le.refl(H:Hp):Le H H:=λ_ _ h=>h
abbrev bx(env:Env):List (Str×LV)->List (Str×Addr)->List (Str×Addr)
 | [],acc=>acc
 | (n,k)::r,acc=>if k == .free then bx env r ((n,(env.cells.lookup n).getD 0)::acc)else bx env r acc
def i6{env:Env}:∀(names:List (Str×LV)) (acc:List (Str×Addr)),(∀x∈names,x.2=.free->∃c,env.cells.lookup x.1=some c) ->
  (forIn names acc λ(x:Str×LV) (cs:List (Str×Addr))=>if x.2 == .free then(do let c <-cellOf env x.1;pure (NI ((x.1,c)::cs)):Sem _)else pure (NI cs))=(pure (bx env names acc):Sem _)
 | [],acc,_=>rfl
 | (n,k)::r,acc,h=>by
  have hr:∀x∈r,x.2=.free->∃c,env.cells.lookup x.1=some c:=λx hx=>h x (ymC _ hx);rw[List.forIn_cons];unfold bx;by_cases hk:(k==MK)=true
  ·obtain⟨c,hc⟩:=h (n,k) ymS (by exists hk);have hc':env.cells.lookup n=some c:=hc;have e:cellOf env n=pure c:=by unfold cellOf;rw[hc']
   dsimp[hk,if_true,e,hc',Option.getD_some,pure_bind];exact i6 r _ hr
  ·have hk':(k==MK)=false:=by exists hk
   dsimp[hk',HA,if_false,pure_bind];exact i6 r _ hr
def cU{env:Env}{scope:ML}(h:∀x∈scope.names,x.2=.free->∃c,env.cells.lookup x.1=some c):closureFor scope env=pure (bx env scope.names []):=by
 have:=i6 (env:=env) scope.names [] h;dsimp[closureFor];rw[this,pure_bind]
def i5{env:Env}{x:Str}{c:Addr}:∀(names:List (Str×LV)) (acc:List (Str×Addr)),(∀y∈names,y.2=.free->∃c,env.cells.lookup y.1=some c)->(acc.lookup x=some c->env.cells.lookup x=some c) ->
  (bx env names acc).lookup x=some c->env.cells.lookup x=some c
 | [],acc,_,h0,h=>h0 h
 | (n,k)::r,acc,hn,h0,h=>by
  have hr:∀y∈r,y.2=.free->∃c,env.cells.lookup y.1=some c:=λy hy=>hn y (ymC _ hy);unfold bx at h;by_cases hk:(k==MK)=true
  ·rw[if_pos hk]at h;apply i5 r _ hr (λe=>?_) h;obtain⟨c',hc'⟩:=hn (n,k) ymS (by exists hk);have hc'':env.cells.lookup n=some c':=hc';rw[G8]at e;by_cases hx:(x==n)=true
   ·rw[hx]at e;have hxn:x=n:=by exists hx
    subst hxn;rw[hc'']at e|-;exact e
   ·have hx':(x==n)=false:=by exists hx
    rw[hx']at e;exact h0 e
  ·rw[if_neg hk]at h;exact i5 r acc hr h0 h
def iZ{env:Env}{x:Str}:∀(names:List (Str×LV)) (acc:List (Str×Addr)),(acc.lookup x).isSome=true->((bx env names acc).lookup x).isSome=true
 | [],_,h=>h
 | (n,k)::r,acc,h=>by
  unfold bx;by_cases hk:(k==MK)=true
  ·rw[if_pos hk];apply iZ r _ ?_;rw[G8];cases hx:(x==n)with
   | true=>rfl
   | false=>exact h
  ·rw[if_neg hk];exact iZ r acc h
def fk{env:Env}{x:Str}:∀(names:List (Str×LV)) (acc:List (Str×Addr)),(x,MK)∈names->((bx env names acc).lookup x).isSome=true
 | [],_,h=>by cases h
 | (n,k)::r,acc,h=>by
  unfold bx;rcases ycM h with e|h
  ·cases e;rw[if_pos (by rfl)];apply iZ r _ ?_;rw[G8,beq_self_eq_true];rfl
  ·by_cases hk:(k==MK)=true
   ·rw[if_pos hk];exact fk r _ h
   ·rw[if_neg hk];exact fk r _ h
def jZ{x:Str}{c:Addr}:∀(names:List (Str×LV)) (n:Nat) (acc:List (Str×Addr)),(Mc n names acc).lookup x=some c->(n<=c/\(x,L0)∈names)\/acc.lookup x=some c
 | [],_,_,h=>.inr h
 | (y,k)::r,n,acc,h=>by
  unfold Mc at h;by_cases hk:(k==L0)=true
  ·rw[if_pos hk]at h;rcases jZ r (n+1) _ h with⟨h1,h2⟩|h1;exact .inl ⟨by omega,ymC _ h2⟩
   ·rw[G8]at h1;by_cases hx:(x==y)=true
    ·rw[hx]at h1;have hxy:x=y:=by exists hx
     have hkc:k=.cell:=by exists hk
     subst hxy hkc;cases h1;exact .inl ⟨Gj _,ymS⟩
    ·have hx':(x==y)=false:=by exists hx
     rw[hx']at h1;exact .inr h1
  ·rw[if_neg hk]at h;rcases jZ r n _ h with⟨h1,h2⟩|h1;exact .inl ⟨h1,ymC _ h2⟩;exact .inr h1
def oZ:∀(names:List (Str×LV)) (n:Nat) (acc:List (Str×Addr)),(∀x c,acc.lookup x=some c->c<n)->(∀x y c,acc.lookup x=some c->acc.lookup y=some c->x=y) ->
  ∀x y c,(Mc n names acc).lookup x=some c->(Mc n names acc).lookup y=some c->x=y
 | [],_,_,_,hi,x,y,c,h1,h2=>hi x y c h1 h2
 | (z,k)::r,n,acc,hb,hi,x,y,c,h1,h2=>by
  unfold Mc at h1 h2;by_cases hk:(k==L0)=true
  ·rw[if_pos hk]at h1 h2;apply oZ r (n+1) ((z,n)::acc) (λa b e=>?_) (λa b d e1 e2=>?_) x y c h1 h2
   ·rw[G8]at e;cases q:(a==z)with
    | true=>rw[q]at e;cases e;exact Kg _
    | false=>rw[q]at e;exact I9 (hb a b e)
   ·rw[G8]at e1 e2;cases q1:(a==z)with
    | true=>
     cases q2:(b==z)with
     | true=>rw[beq_iff_eq.mp q1,beq_iff_eq.mp q2]
     | false=>rw[q1]at e1;rw[q2]at e2;cases e1;exact absurd (hb b n e2) (Hc _)
    | false=>
     cases q2:(b==z)with
     | true=>rw[q1]at e1;rw[q2]at e2;cases e2;exact absurd (hb a n e1) (Hc _)
     | false=>rw[q1]at e1;rw[q2]at e2;exact hi a b d e1 e2
  ·rw[if_neg hk]at h1 h2;exact oZ r n acc hb hi x y c h1 h2
def j0{x:Str}:∀(names:List (Str×LV)) (n:Nat) (acc:List (Str×Addr)),(x,L0)∉names->(Mc n names acc).lookup x=acc.lookup x
 | [],_,_,_=>rfl
 | (y,k)::r,n,acc,h=>by
  unfold Mc;by_cases hk:(k==L0)=true
  ·rw[if_pos hk,j0 r _ _ (λz=>h (ymC _ z)),G8];have hkc:k=.cell:=by exists hk
   have hx:(x==y)=false:=by
    cases q:(x==y)with
    | false=>rfl
    | true=>exact absurd (by rw[beq_iff_eq.mp q,hkc];exact ymS) h
   rw[hx]
  ·rw[if_neg hk];exact j0 r _ _ λz=>h (ymC _ z)
def me{x:Str}{c:Addr}:∀(names:List (Str×LV)) (n:Nat) (acc:List (Str×Addr)),((x,L0)∈names \/ ∀c',acc.lookup x=some c'->n<=c')->(Mc n names acc).lookup x=some c->∀lo,lo<=n->(∀c',acc.lookup x=some c'->lo<=c')\/(x,L0)∈names->lo<=c
 | [],n,acc,_,h,lo,hl,h2=>by
  rcases h2 with h2|h2;exact h2 c h;cases h2
 | (y,k)::r,n,acc,_,h,lo,hl,h2=>by
  unfold Mc at h;by_cases hk:(k==L0)=true
  ·rw[if_pos hk]at h;have key:(∀c',((y,n)::acc).lookup x=some c'->lo<=c')\/(x,L0)∈r:=by
    by_cases hx:(x==y)=true
    ·apply .inl λc' e=>?_;rw[G8,hx]at e;cases e;exact hl
    ·have hx':(x==y)=false:=by exists hx
     rcases h2 with h2|h2
     ·apply .inl λc' e=>?_;rw[G8,hx']at e;exact h2 c' e
     ·rcases ycM h2 with e|h2
      ·cases e;simp at hx
      ·exact .inr h2
   have key2:(x,L0)∈r \/ ∀c',((y,n)::acc).lookup x=some c'->n+1<=c'\/True:=.inr λ_ _=>.inr trivial;rcases key with key|key
   ·by_cases hm:(x,L0)∈r;exact me r (n+1) _ (.inl hm) h lo ⋯ (.inr hm)
    ·rw[j0 r _ _ hm]at h;exact key c h
   ·exact me r (n+1) _ (.inl key) h lo ⋯ (.inr key)
  ·rw[if_neg hk]at h;have key:(∀c',acc.lookup x=some c'->lo<=c')\/(x,L0)∈r:=by
    rcases h2 with h2|h2;exact .inl h2
    ·rcases ycM h2 with e|h2
     ·cases e;exact absurd rfl hk
     ·exact .inr h2
   by_cases hm:(x,L0)∈r;exact me r n _ (.inl hm) h lo hl (.inr hm)
   ·rcases key with key|key
    ·rw[j0 r _ _ hm]at h;exact key c h
    ·exact absurd key hm
def eP{x:Str}{c:Addr}:∀(names:List (Str×LV)) (h:Heap) (acc:List (Str×Addr)),(Mc h.objs.size names acc).lookup x=some c->(pushCells h names).IsCell c none\/acc.lookup x=some c
 | [],_,_,e=>.inr e
 | (y,k)::r,h,acc,e=>by
  unfold Mc at e;unfold pushCells;by_cases hk:(k==L0)=true
  ·rw[if_pos hk]at e|-;have e':(Mc (h.push {cls:=.type "cell",data:=.cell none}).objs.size r ((y,h.objs.size)::acc)).lookup x=some c:=by rw[OV];exact e
   rcases eP r (h.push {cls:=.type "cell",data:=.cell none}) ((y,h.objs.size)::acc) e' with q|q;exact .inl q
   ·rw[G8]at q;cases hx:(x==y)with
    | true=>
     rw[hx]at q;cases q;exact .inl ⟨_,OJ r _ _ _ (LQ _ rfl),rfl⟩
    | false=>rw[hx]at q;exact .inr q
  ·rw[if_neg hk]at e|-;exact eP r h acc e
def dZ{M:Rj}{A:LX}{E:LH->LI->Prop}{s:LI}{scope:ML}{globals:Addr}{cl:List (Str×Addr)}{qual:Str}{env:Env}{Q:Env->LI->Prop}
  (hQ:∀h',h'.Ns s.heap.objs.size (λ_=>none)->(∀b o,s.heap.get? b=some o->h'.get? b=some o)->(∀x c,(Mc (s.heap.objs.size+1) scope.names cl).lookup x=some c->h'.IsCell c none\/cl.lookup x=some c) ->
   Q (newEnv scope s.heap.objs.size globals (Mc (s.heap.objs.size+1) scope.names cl) qual none .none (some env) Pn) {s with heap:=h'}) :
  LN M A (Np scope globals cl [] qual none .none (some env)) Q E s:=by
 dsimp[Np,Option.isSome_some,if_true];apply LG (wpAny_alloc ?_);apply LG (wpAny_layCells _ (λname kind cells=>by cases hkc:kind==L0<;>simp[hkc]) _ _ _ _ ?_);rw[show({s with heap:=s.heap.push {cls:=.type "dict",data:=.dict #[]}}:LI).heap.objs.size=s.heap.objs.size+1 from OV ..];rw[List.forIn_nil];apply LG (LJ (LJ (hQ _ ?_ ?_ ?_)));exact(Heap.Ns.new s.heap (.type "dict")).keeps (OJ _ _);exact λb o e=>OJ _ _ b o (LK _ e)
 ·intro x c e;have e':(Mc (s.heap.push {cls:=.type "dict",data:=.dict #[]}).objs.size scope.names cl).lookup x=some c:=by rw[OV];exact e
  exact eP _ _ _ e'
abbrev rlK(env:Env) (n:Str) (k:LV):LV:=if(k == .free&&env.scope.kind == .function&&env.kindOf n==some .cell)then .cell else k
def lC{env:Env}{x:Str}:∀(names:List (Str×LV)),
  (names.map λ(n,k)=>if(k==MK&&env.scope.kind == .function&&env.kindOf n==some .cell)then(n,L0)else(n,k)).lookup x=(names.lookup x).map (rlK env x)
 | []=>rfl
 | (n,k)::r=>by
  have ih:=lC (env:=env) (x:=x) r;rw[Gg,G8];have e1:(if(k==MK&&env.scope.kind == .function&&env.kindOf n==some .cell)then(n,L0)else(n,k))=(n,rlK env n k):=by
   unfold rlK;split<;>rfl
  show IL x ((if(k==MK&&env.scope.kind == .function&&env.kindOf n==some .cell)then(n,L0)else(n,k))::_)=_;rw[e1,G8,G8];cases hx:(x==n)with
  | true=>
   have e2:=beq_iff_eq.mp hx;subst e2;rfl
  | false=>exact ih
def fZ{scope:ML}{env:Env}{x:Str}:(OD scope env).names.lookup x=(scope.names.lookup x).map (rlK env x):=lC scope.names
structure Blk(osc sc:ML)(N N':List Str)(fr:List (Option Nat)):Prop where
 kind:sc.kind=.function
 nd:N'.Nodup
 len:fr.length=N'.length
 free:∀(i j:Nat) (x:Str),fr[i]?=some (some j)->N'[i]?=some x->N[j]?=some x/\sc.names.lookup x=some .free
 out:∀x∈sc.names,x.2=.free->(osc.names.lookup x.1=some .cell\/osc.names.lookup x.1=some .free)/\(x.1,L0)∉sc.names
 locl:∀x∈sc.names,x.2=.local->sc.names.lookup x.1=some .local
abbrev Ds(osc sc:ML) (N N':List Str) (fr:List (Option Nat)):Bool:=
 (sc.kind == .function)&&decide N'.Nodup&&(fr.length==N'.length) &&
 (fr.zip N').all (λp=>match p.1 with|none=>true|some j=>N[j]? == some p.2&&sc.names.lookup p.2==some .free) &&
 sc.names.all (λp=>(p.2 != .free||((osc.names.lookup p.1==some .cell||osc.names.lookup p.1==some .free) && !sc.names.contains (p.1,.cell)))&&(p.2 != .local||sc.names.lookup p.1==some .local))
def Blk.of{osc sc:ML}{N N':List Str}{fr:List (Option Nat)}(h:Ds osc sc N N' fr=true):Blk osc sc N N' fr:=by
 unfold Ds at h;dsimp[Gd]at h;obtain⟨⟨⟨⟨h1,h2⟩,h3⟩,h4⟩,h5⟩:=h;apply⟨by simpa using h1,of_decide_eq_true h2,by simpa using h3,λi j x e1 e2=>?_,λx hx hk=>?_,λx hx hk=>?_⟩
 ·have hm:(some j,x)∈fr.zip N':=by
   apply Ib.mpr ⟨i,?_⟩;rw[List.getElem?_zip_eq_some];exact⟨e1,e2⟩
  have:=G9.mp h4 _ hm;dsimp[Gd]at this;exact⟨by simpa using this.1,by simpa using this.2⟩
 ·have:=G9.mp h5 x hx;dsimp[Gd]at this;have t1:=this.1;rw[hk]at t1;dsimp[bne_self_eq_false,JP,Gd,Hl,GJ]at t1;apply⟨t1.1.imp (λz=>by exists z) (λz=>by exists z),λhm=>?_⟩;have t2:=t1.2;rw[List.contains_iff_mem.mpr hm]at t2;cases t2
 ·have:=G9.mp h5 x hx;dsimp[Gd]at this;have t1:=this.2;rw[hk]at t1;dsimp[bne_self_eq_false,JP]at t1;exists t1
abbrev aM(fr:List (Option Nat)) (Z:St):St:=fr.map λo=>match o with
 | none=>none
 | some j=>Z.getD j none
def bD(fr:List (Option Nat))(Z:St):(aM fr Z).length=fr.length:=by unfold aM;rw[Ge]
abbrev AH(X:Cx) (scope:ML) (N':List Str) (cells:List (Str×Addr)) (C:Addr) (s:LI) (H:Hp) (ex:List Addr) (pn:List (Addr×Obj)) (xe:LH->LI->Prop):Cx where
 prog:=X.prog
 w:=X.w
 K:=X.K
 mg:=X.mg
 base:=X.base
 A:=X.A
 N:=N'
 s₀:=s
 H₀:=H
 env:=Q7 scope cells C X.env
 outer:=X.stack
 stack:=X.stack
 ex:=ex
 fn:=λx=>scope.names.lookup x==some .cell
 calm:=X.calm
 pn:=pn
 xe:=xe
section
variable {X:Cx}{Uq:List (Addr×Obj)}{Z:St}{H H':Hp}{s:LI}{scope:ML}{N':List Str}{fr:List (Option Nat)}{ex:List Addr}{xe:LH->LI->Prop}
def dM{sc:ML}{x:Str}{k:LV}(h:sc.names.lookup x=some k):(x,k)∈sc.names:=HG h
def Inv.freeCells(I:Inv X Uq Z H s)(B:Blk X.env.scope scope X.N N' fr):∀x∈scope.names,x.2=.free->∃c,X.env.cells.lookup x.1=some c:=λx hx hk=>I.ok.has x.1 (B.out x hx hk).1
def Inv.enter{h':Heap}(I:Inv X Uq Z H s)(B:Blk X.env.scope scope X.N N' fr)(hex:∀b∈ex,ed X Uq H b/\∃o,s.heap.get? b=some o)
  (hns:h'.Ns s.heap.objs.size (λ_=>none)) (hk:∀b o,s.heap.get? b=some o->h'.get? b=some o)
  (hc:∀x c,(Mc (s.heap.objs.size+1) scope.names (bx X.env scope.names [])).lookup x=some c->h'.IsCell c none\/(bx X.env scope.names []).lookup x=some c) :
  Inv (AH X scope N' (Mc (s.heap.objs.size+1) scope.names (bx X.env scope.names [])) s.heap.objs.size s H ex (X.pn++Uq) xe) [] (aM fr Z) H {s with heap:=h'}:=by
 have hfc:=I.freeCells B;have old:∀x c,(bx X.env scope.names []).lookup x=some c->X.env.cells.lookup x=some c:=λx c e=>i5 scope.names [] hfc (λz=>by cases z) e;have lt:∀x c,X.env.cells.lookup x=some c->c<s.heap.objs.size:=λx c e=>by
  obtain⟨v,q⟩:=I.cell x c e;exact q.lt
 have cases2:∀x c,(Mc (s.heap.objs.size+1) scope.names (bx X.env scope.names [])).lookup x=some c->s.heap.objs.size+1<=c\/X.env.cells.lookup x=some c:=λx c e=>
  (jZ _ _ _ e).imp (λz=>z.1) (old x c)
 have hlt:∀b∈ex,b<s.heap.objs.size:=λb hb=>by
  obtain⟨o,e⟩:=(hex b hb).2;exact LP e
 have has:∀x,scope.names.lookup x=some .cell\/scope.names.lookup x=some .free->∃c,(Mc (s.heap.objs.size+1) scope.names (bx X.env scope.names [])).lookup x=some c:=λx hx=>by
  apply Hi.mp (Iw _ _ _ (hx.imp id λz=>fk _ _ (dM z)))
 apply⟨⟨I.ok.mod,?_,I.ok.glob,I.ok.blt,Gj _,?_,?_,?_,I.ok.hd,I.ok.gd,I.ok.frames,.inl rfl,?_,I.bs,GV I.ok.bsz I.sz,?_,?_,I.stack,I.stkFree⟩,rfl,I.bare,Un.kept hk,⟨_,hns,?_⟩,?_,?_,?_,?_,I.hok.kept hk,?_⟩;exact B.kind;exact oZ _ _ _ (λx c e=>I9 (lt x c (old x c e))) (λx y c e1 e2=>I.ok.inj x y c (old x c e1) (old y c e2))
 ·intro x hx;apply has x ?_;have hx':(OD scope X.env).names.lookup x=some .cell\/(OD scope X.env).names.lookup x=some .free:=hx;rw[fZ]at hx';cases q:scope.names.lookup x with
  | none=>rw[q]at hx';rcases hx' with z|z<;>cases z
  | some k=>
   rw[q]at hx';have hx2:rlK X.env x k=.cell\/rlK X.env x k=.free:=hx'.imp (λz=>GK.inj z) (λz=>GK.inj z);unfold rlK at hx2;split at hx2
   ·delta hc;dsimp[Gd]at hc;have:k=.free:=by exists hc.1.1
    rw[this];exact .inr rfl
   ·rcases hx2 with z|z<;>rw[z];exact .inl rfl;exact .inr rfl
 ·intro x c hf e;have hf':scope.names.lookup x=some .cell:=by
   have:(scope.names.lookup x==some L0)=true:=hf;exists this
  exact me _ _ _ (.inl (dM hf')) e _ (I8 _) (.inr (dM hf'))
 ·intro b hb;obtain⟨⟨_,_,_,_,f4,_⟩,_⟩:=hex b hb;apply⟨GO (hlt b hb),λx c e z=>?_⟩;rcases cases2 x c e with q|q
  ·rw[z]at q;exact absurd (GF (hlt b hb) (Nat.le_of_succ_le q)) (Hc _)
  ·exact f4 x c q z
 ·intro b o e hb;obtain⟨⟨_,_,_,f3,_,_⟩,_⟩:=hex b hb;rcases f3 with z|z;exact I.ok.noex b o e z;exact absurd (GF (LP e) (GV I.ok.bsz z)) (Hc _)
 ·intro b hb hf;obtain⟨⟨_,f1,f2,_,_,_⟩,_⟩:=hex b hb;rcases ycM (I.stkSub b hf)with z|z;exact f1 z;exact f2 z
 ·intro i x v e1 e2 e3;unfold aM at e2;rw[Go]at e2;cases q:fr[i]? with
  | none=>rw[q]at e2;cases e2
  | some o=>
   rw[q]at e2;cases o with
   | none=>simp at e2
   | some j=>
    have e2':Z.getD j none=some v:=by exists e2
    obtain⟨b1,b2⟩:=B.free i j x q e1;have e4:Z[j]?=some (some v):=by
     rw[GC]at e2';cases q2:Z[j]? with
     | none=>rw[q2]at e2';cases e2'
     | some y=>rw[q2]at e2';simp at e2';rw[e2']
    obtain⟨o1,o2⟩:=B.out (x,.free) (dM b2) rfl;obtain⟨m,hn,hl⟩:=I.loc;have vis:Vis X.env.scope x:=o1.elim (λz=>.inr (.inl z)) λz=>.inr (.inr z);obtain⟨u,r,l⟩:=hl j x v b1 e4 vis;apply⟨u,r,.inr ?_⟩;have nl:∃c,X.env.cells.lookup x=some c/\s.heap.IsCell c (some u):=by
     rcases l with⟨kl,_⟩|⟨_,c,h1,h2⟩
     ·have kl':X.env.scope.names.lookup x=some .local:=kl;rcases o1 with z|z<;>· have z':X.env.scope.names.lookup x=_:=z;rw[kl']at z';cases z'
     ·exact⟨c,h1,h2⟩
    obtain⟨c,h1,h2⟩:=nl;have kd:(Q7 scope (Mc (s.heap.objs.size+1) scope.names (bx X.env scope.names [])) s.heap.objs.size X.env).kindOf x=some .cell\/(Q7 scope (Mc (s.heap.objs.size+1) scope.names (bx X.env scope.names [])) s.heap.objs.size X.env).kindOf x=some .free:=by
     show(OD scope X.env).names.lookup x=some .cell\/(OD scope X.env).names.lookup x=some .free;rw[fZ,b2];show some (rlK X.env x .free)=_\/some (rlK X.env x .free)=_;unfold rlK;split;exact .inl rfl;exact .inr rfl
    apply⟨kd,c,?_,h2.keeps hk⟩;show(Mc (s.heap.objs.size+1) scope.names (bx X.env scope.names [])).lookup x=some c;rw[j0 _ _ _ o2];obtain⟨c',hc'⟩:=Hi.mp (fk (env:=X.env) scope.names [] (dM b2));rw[hc'];have:=old x c' hc';rw[h1]at this;exact this.symm
 ·intro x c e;rcases hc x c e with q|q;exact⟨_,q⟩
  ·obtain⟨v,z⟩:=I.cell x c (old x c q);exact⟨v,z.keeps hk⟩
 ·exact I.hok.fresh (Gj _)
 ·intro x c e;rcases cases2 x c e with q|q
  ·exact I.hok.fresh ⋯
  ·exact I.freeC x c q
 ·intro p hp;have hp':p∈X.pn++Uq:=by
   have:p∈(X.pn++Uq)++[]:=hp;rwa [Gy]at this
  obtain⟨e,n,ne,nf,d⟩:=I.pin p hp';apply⟨hk _ _ e,n,GO (LP e),λz=>?_,d⟩;rcases ycM (I.stkSub p.1 z)with q|q;exact ne q;exact nf q
 ·show(aM fr Z).length=N'.length;rw[bD,B.len]
def Inv.leave{cells:List (Str×Addr)}{C:Addr}{pins':List (Addr×Obj)}{Z':St}{s':LI}{pn:List (Addr×Obj)}(I:Inv X Uq Z H s)(hex:∀b∈ex,ed X Uq H b)
  (J:Inv (AH X scope N' cells C s H ex pn xe) pins' Z' H' s'):Inv X Uq Z H' s':=
 I.call' J.os J.base J.hok J.bare λb hb=>by
  obtain⟨_,f1,_,f3,f4,f5⟩:=hex b hb;exact⟨f3,f1,f4,f5⟩
def Inv.track{d:Addr}{o:HO}(I:Inv X Uq Z H s)(hd:ed X Uq H d)(hX:d∉X.ex\/X.s₀.heap.objs.size<=d)(h0:X.s₀.heap.objs.size<=d)(new:K6 X.prog X.w (upd H d o) s.heap d o):Inv X Uq Z (upd H d o) s:=by
 obtain⟨f0,f1,f2,f3,f4,f5⟩:=hd;apply⟨I.ok,I.os,I.bare,⟨I.base.keep,I.base.slot,λb u q n hx=>?_,I.base.there,λb xs q=>?_,λb u xs q=>?_,λb ps q=>?_⟩,I.loc,I.cell,?_,λx c e=>?_,λp hp=>?_,λb u q=>?_,I.len⟩
 ·rw[aT (GO (GF (LP q) h0))];exact I.base.free b u q n hx
 ·have:=I.base.tups b xs q;rw[aT (bf this f0)];exact this
 ·have:=I.base.frzs b u xs q;rw[aT (bf this f0)];exact this
 ·obtain⟨m,this⟩:=I.base.tbls b ps q;exact⟨m,by rw[aT (bf this f0)];exact this⟩
 ·rw[aT (Mj f1)];exact I.free
 ·rw[aT (f4 x c e)];exact I.freeC x c e
 ·obtain⟨e,n,ne,nf,dd⟩:=I.pin p hp;exact⟨e,by rw[aT (f5 p hp)];exact n,ne,nf,dd⟩
 ·by_cases hb:b=d
  ·subst hb;rw[aI]at q;cases q;exact new
  ·rw[aT hb]at q;exact(I.hok b u q).stay (λ_ _ _ z=>z) (λc z=>by rw[aT (bf z f0)];exact z) λc xs z=>by rw[aT (bf z f0)];exact z
end
noncomputable abbrev jU(ifs:List Expr) (env:Env):Sem Bool:=forIn ifs true λc r=>if r=true then do let ok <-OP c env (eval c env);pure (NI ok)else pure (NI r)
def fW{prog:LR}{w:Mb}{A:LX}{R:Og->LI->Prop}{s:LI}{elt target iter:Expr}{ifs:List Expr}{scope:ML}{pos:Pos}{it acc:LH}{env:Env}(I:Nat->LI->Prop)
  (turn:∀n s,I n s->LN (LO prog w) A (NX it) (λr s₁=>match r with
   | none=>R (.ok .next) s₁
   | some v=>LN (LO prog w) A (Mz target it v) (λ_ s₁'=>LN (LO prog w) A (Nb target env v) (λ_ s₂=>
     LN (LO prog w) A (jU ifs env) (λok s₃=>
      if ok=true then LN (LO prog w) A (eval elt env) (λx s₄=>
       LN (LO prog w) A (call (.builtin "list.append") [acc,x]) (λ_ s₅=>∃m,m<n/\I m s₅) (Nf (LO prog w) A env λe s'=>R (.error e) s') s₄) (Nf (LO prog w) A env λe s'=>R (.error e) s') s₃
      else∃m,m<n/\I m s₃) (Nf (LO prog w) A env λe s'=>R (.error e) s') s₂) (Nf (LO prog w) A env λe s'=>R (.error e) s') s₁') (Nf (LO prog w) A env λe s'=>R (.error e) s') s₁) (Nf (LO prog w) A env λe s'=>R (.error e) s') s)
  (n:Nat) (h:I n s):Mv (LO prog w) A (.compLoop (.ListComp elt [⟨target,iter,ifs,0⟩] scope pos) 0 it acc env) R s:=by
 apply OE rfl I (λn s hI=>?_) n h;show LN _ A ((Ot (.ListComp elt [⟨target,iter,ifs,0⟩] scope pos) 0 it acc env).onRaise (λx=>do O9 x env;NJ x)) _ _ s;apply OW ?_;rw[compTurn_list];apply LG (Mx (LG (LS (turn n s hI) (λr s₁ h₁=>?_) λ_ _ h'=>h')));cases r with
 | none=>exact LJ h₁
 | some v=>
  apply LG (LS h₁ (λ_ s₁' h₁'=>?_) λ_ _ h'=>h');apply LG (LS h₁' (λ_ s₂ h₂=>LG (LS h₂ (λok s₃ h₃=>?_) λ_ _ h'=>h')) λ_ _ h'=>h');cases ok with
  | false=>exact LJ ⟨rfl,h₃⟩
  | true=>
   exact LG (LG (LS h₃ (λx s₄ h₄=>LG (LS h₄ (λ_ s₅ h₅=>LJ (LJ ⟨rfl,h₅⟩)) λ_ _ h'=>h')) λ_ _ h'=>h'))
abbrev PTs(X:Cx)(ifs:List Expr)(t:TT):Prop:=
 ∀(Uq:List (Addr×Obj)) (s:LI) (Z:St) (H:Hp) (Q:Bool->Hp->Prop),Inv X Uq Z H s->t Z H Q->LN (LO X.prog X.w) X.A (jU ifs X.env) (TP X Uq Z Q) X.xe s
abbrev Ff:TT:=λ_ H Q=>Q true H
def yJ{X:Cx}:PTs X [] Ff:=λ_ _ _ H _ I h=>wpAny_tests_nil ⟨H,I,h⟩
def yK{X:Cx}{c:Expr}{t:TT}(h:PT X c t):PTs X [c] t:=λUq s Z H Q I q=>wpAny_tests_one (h Uq s Z H Q I q)
abbrev Kp(fr:List (Option Nat))(Z Z':St):Prop:=Z'.length=Z.length/\∀i j:Nat,fr[i]?=some (some j)->Z'[i]?=Z[i]?
def Kp.refl(fr:List (Option Nat))(Z:St):Kp fr Z Z:=⟨rfl,λ_ _ _=>rfl⟩
def Kp.trans{fr:List (Option Nat)}{Z Z' Z'':St}(a:Kp fr Z Z')(b:Kp fr Z' Z''):Kp fr Z Z'':=⟨b.1.trans a.1,λi j e=>(b.2 i j e).trans (a.2 i j e)⟩
abbrev cj(fr:List (Option Nat))(g:TG):Prop:=∀v Z H (Q Q':St->Hp->Prop),(∀Z' H',Q Z' H'->Kp fr Z Z'->Q' Z' H')->g v Z H Q->g v Z H Q'
abbrev jV(fr:List (Option Nat))(g:TGs):Prop:=∀v Z H (Q Q':St->Hp->Prop),(∀Z' H',Q Z' H'->Kp fr Z Z'->Q' Z' H')->g v Z H Q->g v Z H Q'
def xE{fr:List (Option Nat)}{i:Nat}(h:fr[i]?=some none):cj fr (lw i):=λv Z H Q Q' k q=>by
 apply k _ _ q ⟨Iq,λi' j e=>?_⟩;have:i≠i':=λz=>by subst z;rw[h]at e;cases e
 exact GB this
def AU{fr:List (Option Nat)}:jV fr AT:=λv Z H Q Q' k q=>⟨q.1,k _ _ q.2 (Kp.refl _ _)⟩
def xD{fr:List (Option Nat)}{g:TG}{gs:TGs}(h1:cj fr g)(h2:jV fr gs):jV fr (up g gs):=λvs Z H Q Q' k q=>by
 obtain⟨v,r,e,q⟩:=q;apply⟨v,r,e,h1 v Z H _ _ (λZ1 H1 q1 k1=>h2 r Z1 H1 _ _ (λZ2 H2 q2 k2=>k Z2 H2 q2 (k1.trans k2)) q1) q⟩
def AV{fr:List (Option Nat)}{K:yF}{n:Nat}{gs:TGs}(h:jV fr gs):cj fr (xC K n gs):=λv Z H Q Q' k q=>by
 obtain⟨a,xs,e1,e2,e3,q⟩:=q;exact⟨a,xs,e1,e2,e3,h xs Z H Q Q' k q⟩
structure Bk where
 cells:List (Str×Addr)
 C:Addr
 s:LI
 H:Hp
 ex:List Addr
 pn:List (Addr×Obj)
noncomputable abbrev cxB(X:Cx) (scope:ML) (N':List Str) (b:Bk):Cx:=AH X scope N' b.cells b.C b.s b.H b.ex b.pn λ_ _=>False
abbrev wN(wi:TI)(fr:List (Option Nat))(g:TG)(tc:TT)(te:TE):TE:=λZ H Q=>
 wi Z H λJ H1=>∃W:Nat->Nat->List V->Hp->Prop,(∃m,W 0 m [] H1)/\∀i m acc H,W i m acc H->acc.length<sizeLine /\
  ((J.stop i H/\∀d,H d=none->Q (.ref d) (upd H d (.lst acc))) \/
  (J.go i H/\∃N:List V->Hp->Prop,(∀acc' H',N acc' H'->∃m',m'<m/\W (i+1) m' acc' H') /\
   ∀x H',J.yld i H x H'->g x (aM fr Z) H' λZ2 H2=>tc Z2 H2 λb H3=>if b=true then te Z2 H3 λv H4=>N (acc++[v]) H4 else N acc H3))
section
variable {X:Cx}{elt tg iter:Expr}{ifs:List Expr}{scope:ML}{pos:Pos}{N':List Str}{fr:List (Option Nat)}{wi:TI}{g:TG}{tc:TT}{te:TE}
def j4(hc:X.calm=true)(B:Blk X.env.scope scope X.N N' fr)
  (hg:∀b,PG (cxB X scope N' b) tg g) (hgk:cj fr g) (ht:∀b,PTs (cxB X scope N' b) ifs tc) (he:∀b,PE (cxB X scope N' b) elt te)
  {Uq:List (Addr×Obj)} {Z:St} {Q:VK} {itv:LH} {s2:LI} {E:LH->LI->Prop} {RR:LH->Addr->Og->LI->Prop}
  (h2:PIE X Uq Z tg (λJ H1=>∃W:Nat->Nat->List V->Hp->Prop,(∃m,W 0 m [] H1)/\∀i m acc H,W i m acc H->acc.length<sizeLine /\
   ((J.stop i H/\∀d,H d=none->Q (.ref d) (upd H d (.lst acc))) \/
   (J.go i H/\∃N:List V->Hp->Prop,(∀acc' H',N acc' H'->∃m',m'<m/\W (i+1) m' acc' H') /\
    ∀x H',J.yld i H x H'->g x (aM fr Z) H' λZ2 H2=>tc Z2 H2 λb H3=>if b=true then te Z2 H3 λv H4=>N (acc++[v]) H4 else N acc H3))) itv s2)
  (hRR:∀(d C:Addr) (v:V) (H':Hp) (s':LI) m',Inv X Uq Z H' s'->v=.ref d->Q v H'->s'.heap.Ns C m'->ed X Uq H' C->C≠d->RR (.ref d) C (.ok .next) s') :
  LN (LO X.prog X.w) X.A (Qe []) (λacc s₃=>LN (LO X.prog X.w) X.A (Np scope X.env.globals (bx X.env scope.names []) [] X.env.qual none .none (some X.env)) (λcenv s₄=>
   Mv (LO X.prog X.w) X.A (.compStart (.ListComp elt [⟨tg,iter,ifs,0⟩] scope pos) 0 itv acc {cenv with scope:=OD scope X.env}) (RR acc cenv.locals) s₄) E s₃) E s2:=by
 obtain⟨it,fp,tn,J,H2,rfl,I2,T,st2,f2,W,⟨m0,w0⟩,turn⟩:=h2;apply LU ?_;generalize hd:s2.heap.objs.size=d;have I3:Inv X Uq Z H2 {s2 with heap:=s2.heap.push {cls:=.type "list",dict:=none,data:=.seq ([]:List LH).toArray}}:=I2.kept (t':=s2.toks) λb o e=>LK _ e;have fd:ed X Uq H2 d:=I2.fpOk (by rw[hd];exact Gj _) (I2.hok.fresh (by rw[hd];exact Gj _));have od:(s2.heap.push {cls:=.type "list",dict:=none,data:=.seq ([]:List LH).toArray}).get? d=some {cls:=.type "list",dict:=none,data:=.seq ([]:List LH).toArray}:=by rw[<-hd];exact LQ _ rfl
 have st3:tn 0 (s2.heap.push {cls:=.type "list",dict:=none,data:=.seq ([]:List LH).toArray}):=T.keep _ _ _ st2 λb _ o e=>LK _ e;have ne_d:∀b∈fp,b≠d:=λb hb=>by
  obtain⟨o,e,_⟩:=T.obj _ _ st2 b hb;rw[<-hd];exact GO (LP e)
 have hd0:X.s₀.heap.objs.size<=d:=by rw[<-hd];exact I2.sz
 generalize hs3:({s2 with heap:=s2.heap.push {cls:=.type "list",dict:=none,data:=.seq ([]:List LH).toArray}}:LI)=s3 at I3;have od3:s3.heap.get? d=some {cls:=.type "list",dict:=none,data:=.seq ([]:List LH).toArray}:=by rw[<-hs3];exact od
 have st3':tn 0 s3.heap:=by rw[<-hs3];exact st3
 have hex:∀b∈d::fp,ed X Uq H2 b/\∃o,s3.heap.get? b=some o:=λb hb=>by
  rcases ycM hb with e|hb;subst e;exact⟨fd,_,od3⟩
  ·obtain⟨o,e,_⟩:=T.obj _ _ st3' b hb;exact⟨f2 b hb,o,e⟩
 apply dZ λh4 hns hk hcl=>?_;have J0:=I3.enter (ex:=d::fp) (xe:=λ_ _=>False) B hex hns hk hcl;generalize hCs:Mc (s3.heap.objs.size+1) scope.names (bx X.env scope.names [])=cells at J0;have hCd:s3.heap.objs.size≠d:=λz=>by have:=LP od3;rw[z]at this;exact Hc _ this
 let bk:Bk:=⟨cells,s3.heap.objs.size,s3,H2,d::fp,X.pn++Uq⟩
 have J0':Inv (cxB X scope N' bk) [] (aM fr Z) H2 {s3 with heap:=h4}:=J0;show Mv (LO X.prog X.w) X.A (.compStart (.ListComp elt [⟨tg,iter,ifs,0⟩] scope pos) 0 (.ref it) (.ref d) (cxB X scope N' bk).env) (RR (.ref d) s3.heap.objs.size) {s3 with heap:=h4};have ne_pn:∀p∈X.pn++Uq,p.1≠d/\∀b∈fp,p.1≠b:=λp hp=>⟨fd.2.2.2.2.2 p hp,λb hb=>(f2 b hb).2.2.2.2.2 p hp⟩;have fpk:∀{Hx:Hp} {o:Obj},(∀b∈fp,Hx b=none)->∀b∈fp,ed (cxB X scope N' bk) [(d,o)] Hx b:=λ{Hx o} hn b hb=>by
  have hb':b∈d::fp:=ymC _ hb;apply⟨hn b hb,(J0'.ok.exf b hb').1,J0'.ok.exfs b hb',.inl hb',λx c e=>(J0'.ok.exf b hb').2 x c e,λp hp=>?_⟩;have hp':p∈(X.pn++Uq)++[(d,o)]:=hp;rcases yaM hp' with z|z;exact(ne_pn p z).2 b hb
  ·have:p=(d,o):=by exists z
   rw[this];exact Mj (ne_d b hb)
 have loop:∀s4:LI,Inv (cxB X scope N' bk) [] (aM fr Z) H2 s4->tn 0 s4.heap->s4.heap.PlainList d #[] ->
   Mv (LO X.prog X.w) X.A (.compLoop (.ListComp elt [⟨tg,iter,ifs,0⟩] scope pos) 0 (.ref it) (.ref d) (cxB X scope N' bk).env) (RR (.ref d) s3.heap.objs.size) s4:=by
  intro s4 J4 st4 pl4;apply fW (λn s'=>∃i acc its H' Z',Inv (cxB X scope N' bk) [] Z' H' s'/\Kp fr (aM fr Z) Z'/\tn i s'.heap/\(∀b∈fp,H' b=none)/\H' d=none/\s'.heap.PlainList d (Jr its)/\Vals acc its/\W i n acc H') ?_ m0
   ⟨0,[],[],H2,aM fr Z,J4,Kp.refl _ _,st4,λb hb=>(f2 b hb).1,fd.1,pl4,.nil,w0⟩
  rintro n s5 ⟨i,acc,its,H5,Z5,J5,kp5,st5,fr5,hd5,⟨n5,pl5⟩,va5,w5⟩;obtain⟨hz,cs⟩:=turn i n acc H5 w5;have J5p:Inv (cxB X scope N' bk) [(d,{cls:=.type "list",data:=.seq its.toArray n5})] Z5 H5 s5:=J5.pins_of λp hp=>by
   have:p=(d,{cls:=.type "list",data:=.seq its.toArray n5}):=by exists hp
   subst this;exact⟨pl5,hd5,(J0'.ok.exf d ymS).1,J0'.ok.exfs d ymS,λv z=>by cases z⟩
  rcases cs with⟨stop,q⟩|⟨go,N,hN,step⟩
  ·apply thn (T.done (cxB X scope N' bk) rfl rfl rfl hc i _ s5 Z5 H5 _ J5p (fpk fr5) st5 stop) λr s6 ⟨hr,J6⟩=>?_;subst hr;obtain⟨e6,n6,_⟩:=J6.pin (d,{cls:=.type "list",data:=.seq its.toArray n5}) (yaR _ ∅);have I6:Inv X Uq Z H5 s6:=I3.leave (λb hb=>(hex b hb).1) J6;have I6t:Inv X Uq Z (upd H5 d (.lst acc)) s6:=I6.track ⟨hd5,fd.2⟩ (.inr hd0) hd0 ⟨by omega,its,n5,va5,e6⟩;obtain⟨m6,hn6,_⟩:=J6.loc;apply hRR d s3.heap.objs.size (.ref d) _ s6 m6 I6t rfl (q d hd5) hn6 ?_ hCd;exact I3.fpOk (Gj _) (by rw[aT hCd];exact J6.free)
  ·apply thn (T.item (cxB X scope N' bk) rfl rfl rfl hc i _ s5 Z5 H5 _ J5p (fpk fr5) st5 go) λr s6 ⟨u,hr,h6⟩=>?_;subst hr;apply thn h6 λ_ s7 ⟨x,H7,J7,r7,y7,st7,fr7⟩=>?_;have J7w:Inv (cxB X scope N' bk) [(d,{cls:=.type "list",data:=.seq its.toArray n5})] (aM fr Z) H7 s7:=J7.weak kp5.1.symm λk v e=>by
    cases q:fr[k]? with
    | none=>
     unfold aM at e;rw[Go,q]at e;cases e
    | some o=>
     cases o with
     | none=>
      unfold aM at e;rw[Go,q]at e;simp at e
     | some j=>rw[kp5.2 k j q];exact e
   have J7p:=J7w.pinned (fpk fr7) (T.obj _ _ st7);have never:∀{α:Type} {t:Sem α} {QQ : α->LI->Prop} {EE:LH->LI->Prop} {ss:LI},LN (LO X.prog X.w) X.A t QQ (λ_ _=>False) ss->LN (LO X.prog X.w) X.A t QQ EE ss:=λhh=>LS hh (λ_ _ z=>z) λ_ _ z=>z.elim;have G:=hgk x (aM fr Z) H7 _ (λZ2 H2=>(tc Z2 H2 λb H3=>if b=true then te Z2 H3 λv H4=>N (acc++[v]) H4 else N acc H3)/\Kp fr (aM fr Z) Z2) (λZ' H' a b=>⟨a,b⟩) (step x H7 y7);apply never (thn (hg bk _ s7 (aM fr Z) H7 x u _ J7p r7 G) λ_ s8 ⟨Z8,H8,J8,q8,kp8⟩=>?_);apply never (thn (ht bk _ s8 Z8 H8 _ J8 q8) λok s9 ⟨H9,J9,q9⟩=>?_);have keepT:∀{Zx:St} {Hx:Hp} {sx:LI},Inv (cxB X scope N' bk) ([(d,{cls:=.type "list",data:=.seq its.toArray n5})]++bu fp s7.heap) Zx Hx sx->(∀b∈fp,∀o,s7.heap.get? b=some o->sx.heap.get? b=some o)/\(∀b∈fp,Hx b=none)/\sx.heap.get? d=some {cls:=.type "list",data:=.seq its.toArray n5}/\Hx d=none:=λ{Zx Hx sx} Jx=>by
    apply⟨λb hb o e=>(Jx.pin (b,o) (yaR _ (yaR _ (bq hb e)))).1,λb hb=>?_,?_⟩
    ·obtain⟨o,e,_⟩:=T.obj _ _ st7 b hb;exact(Jx.pin (b,o) (yaR _ (yaR _ (bq hb e)))).2.1
    ·have:=Jx.pin (d,{cls:=.type "list",data:=.seq its.toArray n5}) (yaR _ (yaL _ ∅));exact⟨this.1,this.2.1⟩
   cases ok with
   | false=>
    rw[if_neg (by decide)]at q9|-;obtain⟨m',hm,w9⟩:=hN _ _ q9;obtain⟨k1,k2,k3,k4⟩:=keepT J9;exact⟨m',hm,i+1,acc,its,H9,Z8,J9.pins_of (λp hp=>by simp at hp),kp8,T.keep _ _ _ st7 k1,k2,k4,⟨n5,k3⟩,va5,w9⟩
   | true=>
    rw[if_pos rfl]at q9|-;apply never (thn (he bk _ s9 Z8 H9 _ J9 q9) λy s10 ⟨v,H10,J10,r10,q10⟩=>?_);obtain⟨m',hm,w10⟩:=hN _ _ q10;obtain⟨k1,k2,k3,k4⟩:=keepT J10;have hzs:its.toArray.size<=sizeLine:=by rw[Gf,<-va5.length];omega
    apply Ou (hsz:=hzs) ⟨n5,k3⟩ λh11 pl11 sb11=>?_;have J10':Inv (cxB X scope N' bk) [] Z8 H10 s10:=J10.pins_of (λp hp=>by simp at hp);have J11:Inv (cxB X scope N' bk) [] Z8 H10 {s10 with heap:=h11}:=J10'.turned (it:=d) (t':=s10.toks) (λb o hb e=>(sb11.2 b hb).trans e) k4 (J0'.ok.exf d ymS).1 (.inl ymS) (λx c e=>(J0'.ok.exf d ymS).2 x c e) λp hp=>by
     have hp':p∈(X.pn++Uq)++[]:=hp;rw[Gy]at hp';exact(ne_pn p hp').1
    apply⟨m',hm,i+1,acc++[v],its++[y],H10,Z8,J11,kp8,T.keep _ _ _ st7 (λb hb o e=>(sb11.2 b (ne_d b hb)).trans (k1 b hb o e)),k2,k4,?_,va5.append (.cons r10 .nil),w10⟩;have:(its++[y]).toArray=its.toArray.push y:=by simp
    rw[this];exact pl11
 have st4:tn 0 h4:=T.keep _ _ _ st3' λb _ o e=>hk b o e;have pl4:h4.PlainList d #[]:=⟨0,hk d _ od3⟩;have L4:=loop {s3 with heap:=h4} J0' st4 pl4;exact OG L4 (T.self X.A 0 _ _ _ st4 L4)
def yp(hc:X.calm=true)(B:Blk X.env.scope scope X.N N' fr)(hi:PI X tg iter wi)
  (hg:∀b,PG (cxB X scope N' b) tg g) (hgk:cj fr g) (ht:∀b,PTs (cxB X scope N' b) ifs tc) (he:∀b,PE (cxB X scope N' b) elt te)
  (hs:∀x,LY iter X.env x=pure x:=by intro _;rfl):PE X (.ListComp elt [⟨tg,iter,ifs,0⟩] scope pos) (wN wi fr g tc te):=by
 intro Uq s Z H Q I h;rw[eval_ListComp];apply MX (use:=none) rfl hs (cU (I.freeCells B)) B.kind B.locl (thn (hi Uq s Z H _ I h) λv s1 h1=>thn h1 λitv s2 h2=>?_);apply j4 (RR:=λacc C=>Qr (LO X.prog X.w) X.A X.xe none (EP X Uq Z Q) acc C) hc B hg hgk ht he h2 ?_;intro d C v H' s' m' I' hv q hn fC hCd;apply⟨m',hn,λh'' sb=>?_⟩;obtain⟨c0,c1,c2,c3,c4,c5⟩:=fC;exact⟨v,H',I'.turned (it:=C) (t':=s'.toks) (λb o hb e=>(sb.2 b hb).trans e) c0 c1 c3 c4 c5,by rw[hv];rfl,q⟩
def pM{i:Nat}{x:Str}{pos' spos:Pos}(hc:X.calm=true)(hN:X.N.Nodup)(hi':X.N[i]?=some x)(hx:X.env.scope.names.lookup x=some .local)(B:Blk X.env.scope scope X.N N' fr)(hi:PI X tg iter wi)
  (hg:∀b,PG (cxB X scope N' b) tg g) (hgk:cj fr g) (ht:∀b,PTs (cxB X scope N' b) ifs tc) (he:∀b,PE (cxB X scope N' b) elt te)
  (hsw:On (.ListComp elt [⟨tg,iter,ifs,0⟩] scope pos) (some (.Name x pos')) spos.line X.env=pure true:=by rfl)
  (hs:∀x,LY iter X.env x=pure x:=by intro _;rfl):PS X (.Assign [.Name x pos'] (.ListComp elt [⟨tg,iter,ifs,0⟩] scope pos) spos) (zD (wN wi fr g tc te) (lw i)):=by
 intro Uq s Z H D I h;rw[exec_Assign_Name_used _ _ _ _ hsw];apply LG (Mx (LG ?_));show LN _ _ (do let _ <-comprehension (.ListComp elt [⟨tg,iter,ifs,0⟩] scope pos) scope X.env _ (Qe []) false (eval iter X.env) (some (Nb (.Name x pos') X.env))) _ _ s;apply LG (LS (MX (use:=some (Nb (.Name x pos') X.env)) (Q:=λ_ s'=>SP X Uq D .next s') rfl hs (cU (I.freeCells B)) B.kind B.locl (thn (hi Uq s Z H _ I h) λv s1 h1=>thn h1 λitv s2 h2=>?_)) (λ_ s' hq=>LJ (LJ hq)) λ_ _ e=>e);apply j4 (Q:=λv H1=>lw i v Z H1 D.nx) (RR:=λacc C=>Qr (LO X.prog X.w) X.A X.xe (some (Nb (.Name x pos') X.env)) (λ_ s'=>SP X Uq D .next s') acc C) hc B hg hgk ht he h2 ?_;intro d C v H' s' m' I' hv q hn fC hCd;obtain⟨c0,c1,c2,c3,c4,c5⟩:=fC;subst hv;apply Pv (lO I' hN hi' (.inl hx) (show RelV (.ref d) (.ref d)from rfl) (λs6 I6 ⟨a,sa,ha⟩=>?_) (.inr hx));have haC:C≠a:=by
  rcases ha with z|z;rw[z];exact c1;exact λz'=>c4 x a z z'.symm
 apply⟨m',hn.sameBut sa haC,λh'' sb=>?_⟩;exact⟨_,H',I6.turned (it:=C) (t':=s6.toks) (λb o hb e=>(sb.2 b hb).trans e) c0 c1 c3 c4 c5,q⟩
end
inductive D where
 | int (i:Int)|str (x:Str)|tup (ds:List D)
mutual
def Rep(K:yF)(H:Hp):D->V->Prop
 | .int i,v=>v=.int i
 | .str x,v=>v=.str x
 | .tup ds,v=>∃a xs,v=.ref a/\SqT K H a xs/\K2 K H ds xs
def K2(K:yF)(H:Hp):List D->List V->Prop
 | [],xs=>xs=[]
 | d::ds,xs=>∃x r,xs=x::r/\Rep K H d x/\K2 K H ds r
end
mutual
noncomputable def D.depth:D->Nat
 | .int _=>0
 | .str _=>0
 | .tup ds=>aF ds+1
noncomputable def aF:List D->Nat
 | []=>0
 | d::ds=>max d.depth (aF ds)
end
def lu{d:D}:∀{ds:List D},d∈ds->d.depth<=aF ds
 | [],h=>by cases h
 | e::ds,h=>by
  rw[aF];rcases ycM h with z|z;rw[z];exact Jz _ _;exact GV (lu z) (Jm _ _)
def K2.length{K:yF}{H:Hp}:∀{ds:List D} {xs:List V},K2 K H ds xs->xs.length=ds.length
 | [],xs,h=>by rw[K2]at h;rw[h];rfl
 | d::ds,xs,h=>by
  rw[K2]at h;obtain⟨x,r,rfl,_,h3⟩:=h;rw[Gp,Gp,h3.length]
def Rep.tup_iff{K:yF}{H:Hp}{ds:List D}{v:V}:Rep K H (.tup ds) v ↔ ∃a xs,v=.ref a/\SqT K H a xs/\K2 K H ds xs:=by rw[Rep]
def Le.laid{H:Hp}{p:Addr}{o:HO}(hp:H p=none):Le H (upd H p o):=λb u e=>by rw[aT (bf e hp)];exact e
section
variable {X:Cx}{Uq:List (Addr×Obj)}{Z:St}{H:Hp}{s:LI}
mutual
theorem Rep.inj(I:Inv X Uq Z H s):∀{d e:D} {v:V},Rep X.K H d v->Rep X.K H e v->d=e
 | .int i,.int j,v,h,h'=>by dsimp[Rep]at h h';subst h;cases h';rfl
 | .int i,.str j,v,h,h'=>by dsimp[Rep]at h h';subst h;cases h'
 | .int i,.tup j,v,h,h'=>by dsimp[Rep]at h h';subst h;obtain⟨_,_,z,_⟩:=h';cases z
 | .str i,.int j,v,h,h'=>by dsimp[Rep]at h h';subst h;cases h'
 | .str i,.str j,v,h,h'=>by dsimp[Rep]at h h';subst h;cases h';rfl
 | .str i,.tup j,v,h,h'=>by dsimp[Rep]at h h';subst h;obtain⟨_,_,z,_⟩:=h';cases z
 | .tup i,.int j,v,h,h'=>by dsimp[Rep]at h h';subst h';obtain⟨_,_,z,_⟩:=h;cases z
 | .tup i,.str j,v,h,h'=>by dsimp[Rep]at h h';subst h';obtain⟨_,_,z,_⟩:=h;cases z
 | .tup ds,.tup es,v,h,h'=>by
  dsimp[Rep]at h h';obtain⟨a,xs,rfl,h2,h3⟩:=h;obtain⟨b,ys,z,h4,h5⟩:=h';cases z;rw[I.tuple_inj h4 h2]at h5;rw[K2.inj I h3 h5]
theorem K2.inj(I:Inv X Uq Z H s):∀{ds es:List D} {xs:List V},K2 X.K H ds xs->K2 X.K H es xs->ds=es
 | [],[],xs,h,h'=>rfl
 | [],e::es,xs,h,h'=>by dsimp[K2]at h h';subst h;obtain⟨_,_,z,_⟩:=h';cases z
 | d::ds,[],xs,h,h'=>by dsimp[K2]at h h';subst h';obtain⟨_,_,z,_⟩:=h;cases z
 | d::ds,e::es,xs,h,h'=>by
  dsimp[K2]at h h';obtain⟨x,r,rfl,h2,h3⟩:=h;obtain⟨y,q,z,h4,h5⟩:=h';cases z;rw[Rep.inj I h2 h4,K2.inj I h3 h5]
end
open SeqAt in
mutual
theorem uj(I:Inv X Uq Z H s):∀(d e:D) {x y:V} {u v:LH} {A:LX},Rep X.K H d x->Rep X.K H e y->RelV x u->RelV y v->A.units+d.depth<My->∃b,(b=true↔d=e)/\EqAt A s u v b
 | .int i,.int j,x,y,u,v,A,h,h',r,r',_=>by
  dsimp[Rep]at h h';subst h h';obtain⟨t,rfl⟩:=r;obtain⟨t',rfl⟩:=r';exact⟨_,by simp,EqAt.int_int i t j t'⟩
 | .int i,.str j,x,y,u,v,A,h,h',r,r',_=>by
  dsimp[Rep]at h h';subst h h';obtain⟨t,rfl⟩:=r;obtain⟨t',rfl⟩:=r';exact⟨_,by simp,EqAt.int_str i t j t'⟩
 | .str i,.int j,x,y,u,v,A,h,h',r,r',_=>by
  dsimp[Rep]at h h';subst h h';obtain⟨t,rfl⟩:=r;obtain⟨t',rfl⟩:=r';exact⟨_,by simp,EqAt.str_int i t j t'⟩
 | .str i,.str j,x,y,u,v,A,h,h',r,r',_=>by
  dsimp[Rep]at h h';subst h h';obtain⟨t,rfl⟩:=r;obtain⟨t',rfl⟩:=r';exact⟨_,by simp,EqAt.str_str i t j t'⟩
 | .int i,.tup j,x,y,u,v,A,h,h',r,r',hu=>by
  dsimp[Rep]at h h';subst h;obtain⟨t,rfl⟩:=r;obtain⟨a,xs,rfl,h2,_⟩:=h';cases r';obtain⟨its,_,p,_⟩:=I.tuple h2;exact⟨false,by simp,EqAt.int_tuple i t (show s.heap.IsTuple a its.toArray from p) (HB (HU _ _) hu)⟩
 | .str i,.tup j,x,y,u,v,A,h,h',r,r',hu=>by
  dsimp[Rep]at h h';subst h;obtain⟨t,rfl⟩:=r;obtain⟨a,xs,rfl,h2,_⟩:=h';cases r';obtain⟨its,_,p,_⟩:=I.tuple h2;exact⟨false,by simp,EqAt.str_tuple i t (show s.heap.IsTuple a its.toArray from p) (HB (HU _ _) hu)⟩
 | .tup j,.int i,x,y,u,v,A,h,h',r,r',hu=>by
  dsimp[Rep]at h h';subst h';obtain⟨t,rfl⟩:=r';obtain⟨a,xs,rfl,h2,_⟩:=h;cases r;obtain⟨its,_,p,_⟩:=I.tuple h2;exact⟨false,by simp,EqAt.tuple_int i t (show s.heap.IsTuple a its.toArray from p) (HB (HU _ _) hu)⟩
 | .tup j,.str i,x,y,u,v,A,h,h',r,r',hu=>by
  dsimp[Rep]at h h';subst h';obtain⟨t,rfl⟩:=r';obtain⟨a,xs,rfl,h2,_⟩:=h;cases r;obtain⟨its,_,p,_⟩:=I.tuple h2;exact⟨false,by simp,EqAt.tuple_str i t (show s.heap.IsTuple a its.toArray from p) (HB (HU _ _) hu)⟩
 | .tup ds,.tup es,x,y,u,v,A,h,h',r,r',hu=>by
  by_cases hne:u=v
  ·subst hne;have hxy:x=y:=r.inj r';subst hxy;exact⟨true,by simp[Rep.inj I h h'],EqAt.same u⟩
  ·dsimp[Rep]at h h';obtain⟨a,xs,rfl,h2,h3⟩:=h;obtain⟨b,ys,rfl,h4,h5⟩:=h';cases r;cases r';obtain⟨its,rv,p,_⟩:=I.tuple h2;obtain⟨its',rv',p',_⟩:=I.tuple h4;have hab:a≠b:=λz=>hne (by rw[z]);have hu':A.in1.units+aF ds<My:=by
    have:A.units+(aF ds+1)<My:=by rw[D.depth]at hu;exact hu
    show A.units+1+aF ds<My;omega
   obtain⟨e,he,hE⟩:=gx I ds es (A:=A.in1) h3 h5 rv rv' hu';have R:=RcAt.tuples (A:=A) (s:=s) (l:=a) (b:=b) (items:=its.toArray) (items2:=its'.toArray) (e:=e) (show s.heap.IsTuple a its.toArray from p) (show s.heap.IsTuple b its'.toArray from p') (HB (HU _ _) hu) (λj h1 h2=>by
    simpa using hE j (its[j]'(by exists h1)) (its'[j]'(by exists h2)) ∅ ∅)
   apply⟨_,?_,EqAt.of_refs hab R⟩;rw[he.symm];have l1:its.toArray.size=ds.length:=by rw[Gf,<-rv.length,h3.length]
   have l2:its'.toArray.size=es.length:=by rw[Gf,<-rv'.length,h5.length]
   rw[l1,l2];simp
theorem gx(I:Inv X Uq Z H s):∀(ds es:List D) {xs ys:List V} {us vs:List LH} {A:LX},K2 X.K H ds xs->K2 X.K H es ys->Vals xs us->Vals ys vs->A.units+aF ds<My ->
  ∃e:Nat->Bool,(((Gz (min ds.length es.length)).all e=true/\ds.length=es.length)↔D.tup ds=D.tup es)/\∀(j:Nat) u v,us[j]?=some u->vs[j]?=some v->EqAt A s u v (e j)
 | [],es,xs,ys,us,vs,A,h,h',r,r',_=>by
  rw[K2]at h;subst h;cases r;apply⟨λ_=>true,?_,λj u v e=>by simp at e⟩;cases es<;>simp
 | d::ds,[],xs,ys,us,vs,A,h,h',r,r',_=>by
  rw[K2]at h';subst h';cases r';exact⟨λ_=>true,by simp,λj u v _ e=>by simp at e⟩
 | d::ds,e::es,xs,ys,us,vs,A,h,h',r,r',hu=>by
  dsimp[K2]at h h';obtain⟨x,q,rfl,h2,h3⟩:=h;obtain⟨y,q',rfl,h4,h5⟩:=h';cases r with
  | cons r1 r2=>
   cases r' with
   | cons r3 r4=>
    rw[aF]at hu;have m1:=Jz d.depth (aF ds);have m2:=Jm d.depth (aF ds);obtain⟨b,hb,hB⟩:=uj I d e (A:=A) h2 h4 r1 r3 ⋯;obtain⟨f,hf,hF⟩:=gx I ds es (A:=A) h3 h5 r2 r4 ⋯;apply⟨λj=>match j with|0=>b|j+1=>f j,?_,λj u v e1 e2=>?_⟩
    ·have hf':((Gz (min ds.length es.length)).all f=true/\ds.length=es.length)↔ds=es:=by rw[hf];simp
     rw[Gp,Gp,Nat.succ_min_succ,Js,Ht,JZ];dsimp[D.tup.injEq,HD.injEq,Gd,Nat.add_right_cancel_iff];rw[<-hf',<-hb];constructor;rintro⟨⟨a1,a2⟩,a3⟩;exact⟨a1,a2,a3⟩;rintro⟨a1,a2,a3⟩;exact⟨⟨a1,a2⟩,a3⟩
    ·cases j with
     | zero=>simp at e1 e2;subst e1 e2;exact hB
     | succ j=>exact hF j u v (by exists e1) (by exists e2)
end
end
section
variable {X:Cx}
abbrev EJ(K:yF):R2:=λx y H Q=>∃ds es,Rep K H (.tup ds) x/\Rep K H (.tup es) y/\aF ds<=50/\∀b,(b=true↔ds=es)->Q (.bl b) H
abbrev EO(K:yF):R2:=λx y H Q=>∃ds es,Rep K H (.tup ds) x/\Rep K H (.tup es) y/\aF ds<=50/\∀b,(b=true↔ds≠es)->Q (.bl b) H
def Bh(hu:X.A.units+64<My):OpR X (Ml .Eq) (EJ X.K):=by
 intro Uq s Z H x y v u Q I rx ry h;obtain⟨ds,es,h1,h2,hd,q⟩:=h;rw[Rep.tup_iff]at h1 h2;obtain⟨a,xs,rfl,h3,h4⟩:=h1;obtain⟨b,ys,rfl,h5,h6⟩:=h2;cases rx;cases ry;obtain⟨its,rv,p,_⟩:=I.tuple h3;obtain⟨its',rv',p',_⟩:=I.tuple h5;have hu':X.A.in1.units+aF ds<My:=by show X.A.units+1+aF ds<My;omega
 obtain⟨e,he,hE⟩:=gx I ds es (A:=X.A.in1) h4 h6 rv rv' hu';have R:=Qs.tuples (A:=X.A) (s:=s) (l:=a) (b:=b) (items:=its.toArray) (items2:=its'.toArray) (e:=e) (show s.heap.IsTuple a its.toArray from p) (show s.heap.IsTuple b its'.toArray from p') ⋯ (λj h1 h2=>by
  simpa using hE j (its[j]'(by exists h1)) (its'[j]'(by exists h2)) ∅ ∅)
 apply R X.prog X.w X.xe _ ⟨.bl _,H,I,rfl,q _ ?_⟩;have l1:its.toArray.size=ds.length:=by rw[Gf,<-rv.length,h4.length]
 have l2:its'.toArray.size=es.length:=by rw[Gf,<-rv'.length,h6.length]
 have he':((Gz (min ds.length es.length)).all e=true/\ds.length=es.length)↔ds=es:=by rw[he];simp
 rw[l1,l2,<-he'];simp
def Bp(hu:X.A.units+64<My):OpR X (Ml .NotEq) (EO X.K):=by
 intro Uq s Z H x y v u Q I rx ry h;obtain⟨ds,es,h1,h2,hd,q⟩:=h;rw[Rep.tup_iff]at h1 h2;obtain⟨a,xs,rfl,h3,h4⟩:=h1;obtain⟨b,ys,rfl,h5,h6⟩:=h2;cases rx;cases ry;obtain⟨its,rv,p,_⟩:=I.tuple h3;obtain⟨its',rv',p',_⟩:=I.tuple h5;have hu':X.A.in1.units+aF ds<My:=by show X.A.units+1+aF ds<My;omega
 obtain⟨e,he,hE⟩:=gx I ds es (A:=X.A.in1) h4 h6 rv rv' hu';have R:=Rb (A:=X.A) (s:=s) (l:=a) (b:=b) (items:=its.toArray) (items2:=its'.toArray) (e:=e) (show s.heap.IsTuple a its.toArray from p) (show s.heap.IsTuple b its'.toArray from p') ⋯ (λj h1 h2=>by
  simpa using hE j (its[j]'(by exists h1)) (its'[j]'(by exists h2)) ∅ ∅)
 apply R X.prog X.w X.xe _ ⟨.bl _,H,I,rfl,q _ ?_⟩;have l1:its.toArray.size=ds.length:=by rw[Gf,<-rv.length,h4.length]
 have l2:its'.toArray.size=es.length:=by rw[Gf,<-rv'.length,h6.length]
 have he':((Gz (min ds.length es.length)).all e=true/\ds.length=es.length)↔ds=es:=by rw[he];simp
 rw[l1,l2,ne_eq,<-not_congr he',GJ,<-ID,Gd,beq_iff_eq]
abbrev EK(K:yF):R2:=λx y H Q=>∃a b xs ys ds es,x=.ref a/\y=.ref b/\SqL K H a xs/\SqL K H b ys/\K2 K H ds xs/\K2 K H es ys/\aF ds<=50/\∀c,(c=true↔ds=es)->Q (.bl c) H
abbrev EQ(K:yF):R2:=λx y H Q=>∃a b xs ys ds es,x=.ref a/\y=.ref b/\SqL K H a xs/\SqL K H b ys/\K2 K H ds xs/\K2 K H es ys/\aF ds<=50/\∀c,(c=true↔ds≠es)->Q (.bl c) H
def Bj(hu:X.A.units+64<My):OpR X (Ml .Eq) (EK X.K):=by
 intro Uq s Z H x y v u Q I rx ry h;obtain⟨a,b,xs,ys,ds,es,rfl,rfl,h3,h5,h4,h6,hd,q⟩:=h;cases rx;cases ry;obtain⟨its,rv,p,_⟩:=I.list h3;obtain⟨its',rv',p',_⟩:=I.list h5;have hu':X.A.in1.units+aF ds<My:=by show X.A.units+1+aF ds<My;omega
 obtain⟨e,he,hE⟩:=gx I ds es (A:=X.A.in1) h4 h6 rv rv' hu';have l1:its.toArray.size=ds.length:=by rw[Gf,<-rv.length,h4.length]
 have l2:its'.toArray.size=es.length:=by rw[Gf,<-rv'.length,h6.length]
 have he':((Gz (min ds.length es.length)).all e=true/\ds.length=es.length)↔ds=es:=by rw[he];simp
 by_cases hl:ds.length=es.length
 ·have R:=Qs.lists (A:=X.A) (s:=s) (l:=a) (b:=b) (items:=its.toArray) (items2:=its'.toArray) (e:=e) p.isList p'.isList (by rw[l1,l2];exact hl) ⋯ (λj h1 h2=>by
   simpa using hE j (its[j]'(by exists h1)) (its'[j]'(by exists h2)) ∅ ∅)
  apply R X.prog X.w X.xe _ ⟨.bl _,H,I,rfl,q _ ?_⟩;rw[l1,<-he',<-hl,KC];simp
 ·have R:=Qs.lists_lengths (A:=X.A) (s:=s) (l:=a) (b:=b) (items:=its.toArray) (items2:=its'.toArray) p.isList p'.isList (by rw[l1,l2];exists hl) ⋯;apply R X.prog X.w X.xe _ ⟨.bl _,H,I,rfl,q _ ?_⟩;constructor;intro z;cases z;intro z;exact absurd (by rw[z]) hl
def Bq(hu:X.A.units+64<My):OpR X (Ml .NotEq) (EQ X.K):=by
 intro Uq s Z H x y v u Q I rx ry h;obtain⟨a,b,xs,ys,ds,es,rfl,rfl,h3,h5,h4,h6,hd,q⟩:=h;cases rx;cases ry;obtain⟨its,rv,p,_⟩:=I.list h3;obtain⟨its',rv',p',_⟩:=I.list h5;have hu':X.A.in1.units+aF ds<My:=by show X.A.units+1+aF ds<My;omega
 obtain⟨e,he,hE⟩:=gx I ds es (A:=X.A.in1) h4 h6 rv rv' hu';have l1:its.toArray.size=ds.length:=by rw[Gf,<-rv.length,h4.length]
 have l2:its'.toArray.size=es.length:=by rw[Gf,<-rv'.length,h6.length]
 have he':((Gz (min ds.length es.length)).all e=true/\ds.length=es.length)↔ds=es:=by rw[he];simp
 by_cases hl:ds.length=es.length
 ·have R:=Rh (A:=X.A) (s:=s) (l:=a) (b:=b) (items:=its.toArray) (items2:=its'.toArray) (e:=e) p.isList p'.isList (by rw[l1,l2];exact hl) ⋯ (λj h1 h2=>by
   simpa using hE j (its[j]'(by exists h1)) (its'[j]'(by exists h2)) ∅ ∅)
  apply R X.prog X.w X.xe _ ⟨.bl _,H,I,rfl,q _ ?_⟩;rw[l1,ne_eq,<-not_congr he',<-hl,KC];simp
 ·have R:=Qt (A:=X.A) (s:=s) (l:=a) (b:=b) (items:=its.toArray) (items2:=its'.toArray) p.isList p'.isList (by rw[l1,l2];exists hl) ⋯;apply R X.prog X.w X.xe _ ⟨.bl _,H,I,rfl,q _ ?_⟩;constructor;intro _ z;exact absurd (by rw[z]) hl;intro _;rfl
open Classical in
abbrev isD(K:yF) (H:Hp) (d:D) (u:LH):Bool:=decide (∃v,RelV v u/\Rep K H d v)
open Classical in
def mE{K:yF}{H:Hp}{d:D}{u:LH}:isD K H d u=true ↔ ∃v,RelV v u/\Rep K H d v:=by
 unfold isD;exact decide_eq_true_iff
def iw{Uq:List (Addr×Obj)}{Z:St}{H:Hp}{s:LI}(I:Inv X Uq Z H s){d:D}:∀{ds:List D} {xs:List V} {us:List LH},K2 X.K H ds xs->Vals xs us->(us.any (isD X.K H d)=true↔d∈ds)
 | [],xs,us,h,r=>by rw[K2]at h;subst h;cases r;simp
 | e::ds,xs,us,h,r=>by
  rw[K2]at h;obtain⟨x,q,rfl,h2,h3⟩:=h;cases r with
  | @cons _ u0 _ us0 r1 r2=>
   rw[Jd,Hl,iw I h3 r2,Hs];have:isD X.K H d u0=true↔d=e:=by
    rw[mE];constructor
    ·rintro⟨v,rv,hv⟩;rw[rv.inj r1]at hv;exact Rep.inj I hv h2
    ·intro z;subst z;exact⟨x,r1,h2⟩
   rw[this]
def dI{Uq:List (Addr×Obj)}{Z:St}{H:Hp}{s:LI}(I:Inv X Uq Z H s){A:LX}{d:D}{x:V}{v:LH}(hx:Rep X.K H d x)(rx:RelV x v){ds:List D}(hu:A.units+aF ds<My) :
  ∀{es:List D} {xs:List V} {us:List LH},(∀e∈es,e∈ds)->K2 X.K H es xs->Vals xs us->∀u∈us,Me A s u v (isD X.K H d u)
 | [],xs,us,_,h,r=>by rw[K2]at h;subst h;cases r;intro u hu;cases hu
 | e::es,xs,us,hs,h,r=>by
  rw[K2]at h;obtain⟨y,q,rfl,h2,h3⟩:=h;cases r with
  | cons r1 r2=>
   intro u hu';rcases ycM hu' with z|z
   ·subst z;obtain⟨b,hb,hB⟩:=uj I e d (A:=A) h2 hx r1 rx (HB (JL (lu (hs e ymS)) _) hu);have:isD X.K H d u=b:=by
     have h5:isD X.K H d u=true↔e=d:=by
      rw[mE];constructor
      ·rintro⟨w,rw',hw⟩;rw[rw'.inj r1]at hw;exact(Rep.inj I hw h2).symm
      ·intro z;subst z;exact⟨y,r1,h2⟩
     rw[GR,h5,hb]
    rw[this];exact hB
   ·exact dI I hx rx hu (λe' h'=>hs e' (ymC _ h')) h3 r2 u z
abbrev y3(K:yF)(neg:Bool):R2:=λx y H Q=>∃p xs d ds,y=.ref p/\(SqL K H p xs\/SqT K H p xs)/\Rep K H d x/\K2 K H ds xs/\aF ds<=50/\∀b,(b=true↔(if neg=true then d∉ds else d∈ds))->Q (.bl b) H
def Bm(hu:X.A.units+64<My):OpR X (Ml .In) (y3 X.K false):=by
 intro Uq s Z H x y v u Q I rx ry h;obtain⟨p,xs,d,ds,rfl,hq,hx,hs,hd,q⟩:=h;cases ry;have hu':X.A.in1.units+aF ds<My:=by show X.A.units+1+aF ds<My;omega
 rcases hq with hq|hq
 ·obtain⟨its,rv,pl,_⟩:=I.list hq;apply P7 (isD X.K H d) pl.isList (λy hy=>dI I hx rx hu' (λ_ z=>z) hs rv y (by exists hy)) ⟨.bl _,H,I,rfl,q _ ?_⟩;rw[if_neg (by decide),<-iw I hs rv];simp
 ·obtain⟨its,rv,pl,_⟩:=I.tuple hq;apply PY (isD X.K H d) (show s.heap.IsTuple p its.toArray from pl) (λy hy=>dI I hx rx hu' (λ_ z=>z) hs rv y (by exists hy)) ⟨.bl _,H,I,rfl,q _ ?_⟩;rw[if_neg (by decide),<-iw I hs rv];simp
def sD(hu:X.A.units+64<My):OpR X (Ml .NotIn) (y3 X.K true):=by
 intro Uq s Z H x y v u Q I rx ry h;obtain⟨p,xs,d,ds,rfl,hq,hx,hs,hd,q⟩:=h;cases ry;have hu':X.A.in1.units+aF ds<My:=by show X.A.units+1+aF ds<My;omega
 rcases hq with hq|hq
 ·obtain⟨its,rv,pl,_⟩:=I.list hq;apply Ps (isD X.K H d) pl.isList (λy hy=>dI I hx rx hu' (λ_ z=>z) hs rv y (by exists hy)) ⟨.bl _,H,I,rfl,q _ ?_⟩;rw[if_pos rfl,<-iw I hs rv];simp
 ·obtain⟨its,rv,pl,_⟩:=I.tuple hq;apply Pc (isD X.K H d) (show s.heap.IsTuple p its.toArray from pl) (λy hy=>dI I hx rx hu' (λ_ z=>z) hs rv y (by exists hy)) ⟨.bl _,H,I,rfl,q _ ?_⟩;rw[if_pos rfl,<-iw I hs rv];simp
abbrev oR(i j:Int):Prop:=0<j/\j<2^64
def sC:OpR X (Ms .FloorDiv) (rI oR λi j=>.int (i / j)):=opI λi j _ _ _ _ _ hc q=>by
 have h1:(0:Int)<j:=hc.1;have h2:j<2^64:=hc.2;apply floordiv_int ⋯ (by rw[Int.fdiv_eq_ediv_of_nonneg i ⋯];exact q) (.inl (PyProof.noPylong_of_log2 ?_));have h3:j.natAbs<2^64:=by omega
 have h4:j.natAbs≠0:=by omega
 have:=(Nat.log2_lt h4).mpr h3;omega
def BS{tg e:Expr}{te:TE}(he:PE X e te):PI X tg e (λZ H R=>te Z H λx H1=>∃z:Str,x=.str z/\R ⟨λi _=>i<z.cps.size,λi H y H'=>H'=H/\∃c,z.cps[i]?=some c/\y=.str ⟨#[c]⟩,λi _=>z.cps.size<=i⟩ H1):=by
 intro Uq s Z H R I h;apply thn (he Uq s Z H _ I h) λv s1 ⟨x,H1,I1,r1,q1⟩=>?_;obtain⟨z,rfl,q⟩:=q1;obtain⟨t,rfl⟩:=r1;have main:∀(n:String) (o:Obj),(["enumerate","zip","dict_itemiterator","dict_reverseitemiterator","odict_iterator","itertools.zip_longest","itertools.pairwise"].contains n=false) ->
   o={cls:=.type n,data:=.fields #[.str z t,.int 0 0]}->(∀A':LX,A'.handled=none->Q4 X.prog X.w A' s1.heap.objs.size [s1.heap.objs.size] [s1.heap.objs.size] z.cps.size (SignAt z) (λi h=>h.IsStrIter s1.heap.objs.size n z t i)) ->
   (∀(A:LX) (i:Nat) (s:LI) (Q:LH->LI->Prop) (E:LH->LI->Prop),s.heap.IsStrIter s1.heap.objs.size n z t i->Q (.ref s1.heap.objs.size) s->LN (LO X.prog X.w) A (Po (.ref s1.heap.objs.size)) Q E s) ->
   PIE X Uq Z tg R (.ref s1.heap.objs.size) {s1 with heap:=s1.heap.push o}:=by
  intro n o hn ho W hself;subst ho;apply⟨s1.heap.objs.size,[s1.heap.objs.size],λi h=>h.IsStrIter s1.heap.objs.size n z t i/\i<=z.cps.size,_,H1,rfl,I1.kept (t':=s1.toks) λb o e=>LK _ e,?_,⟨⟨_,LQ _ rfl,rfl,rfl⟩,GY _⟩,λb hb=>?_,q⟩
  ·apply⟨by simp,λi h st b hb=>?_,λi h h' st k=>⟨?_,st.2⟩,?_,?_,λA i s Q E st h=>?_⟩
   ·have e:b=s1.heap.objs.size:=by exists hb
    subst e;obtain⟨o,e,c,d⟩:=st.1;exact⟨o,e,λv z=>by rw[d]at z;cases z⟩
   ·obtain⟨o,ho,r⟩:=st.1;exact⟨o,k _ ∅ o ho,r⟩
   ·intro Y hP hw hK hc i pins' s' Z' H' E I' hf st hg;obtain⟨f0,f1,f2,f3,f4,f5⟩:=hf s1.heap.objs.size ∅;apply(W Y.A (I'.ok.hd hc)).item i s' _ _ hg st.1 λv h' tk hv st' kk=>?_;obtain⟨c,u,hc',rfl⟩:=hv;have I1':Inv Y pins' Z' H' {s' with heap:=h',toks:=tk}:=I'.turned (λb o hb e=>kk b o (by exists hb) e) f0 f1 f3 f4 f5;obtain⟨o,e,cl,d⟩:=id st';exact⟨_,rfl,qE (s:={s' with heap:=h',toks:=tk}) e cl d hn ⟨.str ⟨#[c]⟩,H',I1',⟨u,rfl⟩,⟨rfl,c,hc',rfl⟩,⟨st',hg⟩,λb hb=>(hf b hb).1⟩⟩
   ·intro Y hP hw hK hc i pins' s' Z' H' E I' hf st hg;obtain⟨f0,f1,f2,f3,f4,f5⟩:=hf s1.heap.objs.size ∅;have hi:i=z.cps.size:=Nat.le_antisymm st.2 hg;apply(W Y.A (I'.ok.hd hc)).done s' _ _ (hi▸st.1) λh' tk kk=>⟨rfl,?_⟩;exact I'.turned (λb o hb e=>kk b o (by exists hb) e) f0 f1 f3 f4 f5
   ·exact hself A i s Q E st.1 h
  ·have e:b=s1.heap.objs.size:=by exists hb
   subst e;exact I1.fpOk (Gj _) (I1.hok.fresh (Gj _))
 cases ha:z.cps.all (· < 128);exact wpAny_pyIter_wide ha (main "str_iterator" _ (by decide) rfl (λA' hA=>Q4.strWide hA _ z t) λA i s Q E st h=>wpAny_pyIter_striter_wide st h);exact wpAny_pyIter_ascii ha (main "str_ascii_iterator" _ (by decide) rfl (λA' hA=>Q4.strAscii hA _ z t) λA i s Q E st h=>wpAny_pyIter_striter_ascii st h)
end
noncomputable abbrev sL(z:Str):List Nat:=z.cps.toList
noncomputable abbrev oL(l:List Nat):Str:=⟨l.toArray⟩
def dU(l:List Nat):sL (oL l)=l:=rfl
def uU(z:Str):oL (sL z)=z:=by cases z;rfl
def eR(z:Str):z.length=(sL z).length:=by unfold Rf sL;rw[G5]
def kK(x y:Str):sL (x++y)=sL x++sL y:=by
 show(x.cps++y.cps).toList=_;rw[Array.toList_append]
def m9{x y:Str}(h:sL x=sL y):x=y:=by rw[<-uU x,h,uU]
abbrev ci{α:Type} (xs:List α) (lo hi:Option Int):List α:=(xs.drop (HT.sIx xs.length 0 lo)).take (HT.sIx xs.length xs.length hi-HT.sIx xs.length 0 lo)
def oz(lo hi:Option Int)(n:Nat):Mk lo hi 1 n=(Gz (HT.sIx n n hi-HT.sIx n 0 lo)).map (HT.sIx n 0 lo + ·):=by
 have h1:(1:Int)>0:=by omega
 have clip:∀(v:Option Int) (d:Nat),(match v with|none=>(d:Int)|some i=>(if(1:Int)>0 then max 0 (min (if i<0 then i+(n:Int)else i) (n:Int))else max (-1) (min (if i<0 then i+(n:Int)else i) ((n:Int)-1))))=((HT.sIx n d v:Nat):Int):=by
  intro v d;cases v with
  | none=>rfl
  | some i=>
   show(if(1:Int)>0 then max 0 (min (if i<0 then i+(n:Int)else i) (n:Int))else _)=(((if i<0 then(i+(n:Int)).toNat else min i.toNat n):Nat):Int);rw[if_pos h1];by_cases hi:i<0;dsimp[if_pos hi];omega;dsimp[if_neg hi];omega
 have e:Mk lo hi 1 n=sliceRange ((HT.sIx n 0 lo:Nat):Int) ((HT.sIx n n hi:Nat):Int) 1:=by
  unfold Mk;dsimp[h1,if_true];have c1:=clip lo 0;have c2:=clip hi n;dsimp[h1,if_true]at c1 c2;rw[<-c1,<-c2];rfl
 rw[e,Qq]
def l4(x:Str)(lo hi:Option Int):QK x lo hi=oL (ci (sL x) lo hi):=by
 have hn:x.length=(sL x).length:=eR x;have key:((Mk lo hi 1 x.length).filterMap (x.cps[·]?))=ci (sL x) lo hi:=by
  rw[oz,hn];unfold ci;exact Q5 x.cps _ _
 unfold QK;split
 ·delta h;have h2:(Mk lo hi 1 x.length).length=x.length:=by
   dsimp[Gd]at h;exists h.2
  have h3:(ci (sL x) lo hi)=sL x:=by
   unfold ci;rw[oz,Ge,Ih,hn]at h2;have a1:=HT.sIx_le (sL x).length (sL x).length (Gj _) hi;have a2:HT.sIx (sL x).length 0 lo=0\/(sL x).length=0:=by omega
   rcases a2 with a2|a2
   ·rw[a2,JF];exact GE ⋯
   ·rw[HV a2];simp
  rw[h3,uU]
 ·rw[key]
section
variable {X:Cx}
def CS:SlR X (λx lo hi H Q=>∃z,x=.str z/\z.length<=sizeLine/\Q (.str (oL (ci (sL z) lo hi))) H):=by
 intro Uq s Z H x v vl vu lo hi sl Q I rx hs pl pu h;obtain⟨z,rfl,hz,q⟩:=h;obtain⟨t,rfl⟩:=rx;have hp:∀{v:LH} {o:Option Int},NH v o->∃p:Option (Int×Tok),v=partValue p/\p.map (·.1)=o:=λ{v o} p=>by
  cases p with
  | none=>exact⟨none,rfl,rfl⟩
  | int i t=>exact⟨some (i,t),rfl,rfl⟩
 obtain⟨l,rfl,rfl⟩:=hp pl;obtain⟨u,rfl,rfl⟩:=hp pu;apply⟨"str",_,F.slot_str_getitem.lookup,Qp _ _ _,?_⟩;apply wpAny_getItem_str_slice (l:=l) (u:=u) (st:=none) hs rfl ?_;have e:sliceMade z t l u none=if((1:Int)==1&&(Mk (l.map (·.1)) (u.map (·.1)) 1 z.length).length==z.length)=true then Made.val (.str z t)else Made.str ⟨((Mk (l.map (·.1)) (u.map (·.1)) 1 z.length).filterMap (z.cps[·]?)).toArray⟩:=rfl;rw[e];apply Qa ⟨GV (Txt.slice_le z _ _) hz,λt' k=>?_⟩;apply⟨.str (QK z (l.map (·.1)) (u.map (·.1))),H,I.tok k,⟨t',rfl⟩,?_⟩;rw[l4];exact q
abbrev rSl(K:yF):V->Option Int->Option Int->Hp->VK->Prop:=λx lo hi H Q=>Cz K x lo hi H Q\/ET K x lo hi H Q \/ ∃z,x=.str z/\z.length<=sizeLine/\Q (.str (oL (ci (sL z) lo hi))) H
def iq{zs:List Str}:∀{us:List LH},Vals (zs.map V.str) us->PK us zs:=by
 induction zs with
 | nil=>intro us r;rw[He]at r;cases r;exact .nil
 | cons n ns ih=>
  intro us r;rw[Gg]at r;cases r with
  | cons r1 r2=>
   obtain⟨t,e⟩:=r1;subst e;exact .cons n t (ih r2)
def x8:MtR X "str.join" (λx vs H Q=>∃z a zs,x=.str z/\vs=[.ref a]/\SqL X.K H a (zs.map V.str)/\(zs.map (·.length)).sum+zs.length*z.length<=16777216/\Q (.str (Nq z zs)) H):=by
 intro Uq s Z H x xs v us Q I rx rv h;obtain⟨z,a,zs,rfl,rfl,hq,hz,q⟩:=h;obtain⟨t,rfl⟩:=rx;obtain⟨u,rfl,ru⟩:=fh rv;cases ru;obtain⟨its,r,p,_⟩:=I.list hq;exact join_list p.isList (by simpa using iq r) hz λt' k=>⟨.str (Nq z zs),H,I.tok k,⟨t',rfl⟩,q⟩
def rZ(zs:List Str):sL (Nq (oL []) zs)=(zs.map sL).flatten:=by
 have key:∀(zs:List Str) (acc:Array Nat),(zs.foldl (λacc p=>acc++(oL []).cps++p.cps) acc).toList=acc.toList++(zs.map sL).flatten:=by
  intro zs
  induction zs with
  | nil=>intro acc;simp
  | cons z zs ih=>
   intro acc;rw[Hk,ih];simp
 cases zs with
 | nil=>rfl
 | cons z zs=>
  show(zs.foldl (λacc p=>acc++(oL []).cps++p.cps) z.cps).toList=_;rw[key];simp
def op_mulS:OpR X (Ms .Mult) (λx y H Q=>∃z n,x=.str z/\y=.int n/\1<=n/\n<=1000/\z.length<=1000/\Q (.str (oL (Gh n.toNat (sL z)).flatten)) H):=by
 intro Uq s Z H x y v u Q I rx ry h;obtain⟨z,n,rfl,rfl,h1,h2,h3,q⟩:=h;obtain⟨t,rfl⟩:=rx;obtain⟨t',rfl⟩:=ry;have hf:∀(m:Nat) (acc:Array Nat),(Gh m z.cps).foldl (· ++ ·) acc=acc++(Gh m (sL z)).flatten.toArray:=by
  intro m
  induction m with
  | zero=>intro acc;simp
  | succ m ih=>intro acc;rw[G6,Hk,ih,G6,Hv];apply Array.ext';simp
 have hlen:z.length*n.toNat<=1000*1000:=IU h3 ⋯;have e3:¬ n<1:=by omega
 apply P.mul_str ?_ ?_ ?_ ?_;rw[decide_eq_false ⋯,decide_eq_false ⋯];rfl
 ·intro _ _;have a1:n*9223372036854775<=2^63-1:=by omega
  have:(9223372036854775:Int)<=(2^63-1) / n:=(Int.le_ediv_iff_mul_le ⋯).mpr ⋯;omega
 ·intro _ _;unfold Rc;exact decide_eq_false (by rw[LL];omega)
 ·rw[if_neg e3];apply Qa ?_;have hv:(if(n==1||z.length==0)=true then z else(⟨(Gh n.toNat z.cps).foldl (· ++ ·) #[]⟩:Str))=oL (Gh n.toNat (sL z)).flatten:=by
   split
   ·delta hc;rcases Bool.or_eq_true_iff.mp hc with c|c
    ·have:n=1:=by exists c
     subst this;show z=oL (Gh 1 (sL z)).flatten;dsimp[G6,List.replicate_zero,Hv,List.flatten_nil,Gy]
    ·have h0:(sL z).length=0:=by rw[<-eR];exists c
     have h00:sL z=[]:=HV h0;rw[h00];apply m9;rw[h00,dU];symm;exact IE.mpr λa ha=>by
      obtain⟨l,hl,hal⟩:=Kh.mp ha;rw[List.eq_of_mem_replicate hl]at hal;cases hal
   ·rw[hf];simp
  rw[hv];apply⟨?_,λt2 k=>⟨.str (oL (Gh n.toNat (sL z)).flatten),H,I.tok k,⟨t2,rfl⟩,q⟩⟩;rw[eR,dU,iH,<-eR,LL,JX];omega
def jk:fillsNumberSlot (.type "tuple") "mul" = pure false:=
 PySem.fillsNumberSlot_seq (id:="tuple.__mul__") (r:=some (.builtin "tuple.__rmul__")) NA.lookup (by decide +kernel) PL.lookup (by decide +kernel)
def mZ:seqRepeat? (.type "tuple")=pure (some (.builtin "tuple.__mul__")):=by
 unfold seqRepeat?;rw[Ki (T:="tuple") (name:="__mul__") (id:="tuple.__mul__") NA.lookup (by decide +kernel),Ki (T:="tuple") (name:="__rmul__") (id:="tuple.__rmul__") PL.lookup (by decide +kernel)];rfl
def j9(a:Int)(t:Tok)(l:Addr)(items:Array LH)(n:Nat)(dd:Option Addr)(sl:Array (Option LH)) :
  QL (LM.«int.__rmul__» ⟨[.int a t,.ref l],[]⟩) (λ_ R s=>s.heap.get? l=some {cls:=.type "tuple",dict:=dd,data:=.seq items n,slots:=sl}/\R (.ok (.ret LH.notImplemented)) s):=
 .of_wp λprog w A R s h=>by obtain⟨hp,g,d,tk,os⟩:=s;obtain⟨hl,h⟩:=h;wp_walk;exact⟨_,rfl,h⟩
def jO(l:Addr)(items:Array LH)(n:Nat)(dd:Option Addr)(sl:Array (Option LH))(k:Int)(t:Tok)(h1:2<=k)(h2:k<=1000)(hne:items.isEmpty=false)(hz:items.size<=1000) :
  QL (LM.«tuple.__mul__» ⟨[.ref l,.int k t],[]⟩) (λ_ R s=>s.heap.get? l=some {cls:=.type "tuple",dict:=dd,data:=.seq items n,slots:=sl} /\
   R (.ok (.ret (.ref s.heap.objs.size))) {s with heap:=s.heap.push {cls:=.type "tuple",data:=.seq ((Gh k.toNat items).foldl (· ++ ·) #[])}}):=
 .of_wp λprog w A R s h=>by
  obtain⟨hp,g,d,tk,os⟩:=s;obtain⟨hl,h⟩:=h;have c1:¬ (decide (k < -(2^63))||decide (k≥2^63))=true:=by rw[decide_eq_false ⋯,decide_eq_false ⋯];decide
  have c2:¬ (items.isEmpty||k==1)=true:=by rw[hne];simp;omega
  have c3:¬ (decide (k<=0)||items.isEmpty)=true:=by rw[hne,decide_eq_false ⋯];decide
  have c0:((items.size:Nat):Int)*k<=1000*1000:=Int.mul_le_mul ⋯ h2 ⋯ ⋯;have c4:¬ ((items.size:Int)*k>(2^63-1) / 8):=by omega
  have c5:¬ N5 ((items.size:Int)*k)=true:=by unfold N5;simp;rw[LL];omega
  have f1:=Ov;wp_walk using MY hl
  rw[if_neg c1];apply LG (Oh ⟨_,hl,rfl,n,rfl⟩ ?_);dsimp only;rw[if_neg c2,if_neg c3,if_neg c4,if_neg c5];have hsz:sizeOk (.seq ((Gh k.toNat items).foldl (· ++ ·) #[])):=by
   show((Gh k.toNat items).foldl (· ++ ·) #[]).size<=sizeLine;have f0:=eW items.toList k.toNat [];have e0:(Gh k.toNat items.toList.toArray).foldl (· ++ ·) #[]=(Gh k.toNat items.toList).flatten.toArray:=by exists f0
   have e1:items.toList.toArray=items:=by simp
   rw[e1]at e0;rw[e0,Gf,iH,G5,LL];have a1:k.toNat*items.size<=1000*1000:=IU ⋯ hz;omega
  first
   | exact LG (m:=LW _) (LU (LJ ⟨_,rfl,h⟩) hsz)
   | exact LG (LG (m:=LW _) (LU (LJ ⟨_,rfl,h⟩) hsz))
abbrev Aj(K:yF):R2:=λx y H Q=>∃l k xs,x=.ref l/\y=.int k/\SqT K H l xs/\xs≠[]/\xs.length<=1000/\1<=k/\k<=1000 /\
 (k=1->Q (.ref l) H)/\(2<=k->∀p,H p=none->Q (.ref p) (upd H p (.tup (Gh k.toNat xs).flatten)))
def yk:OpR X (Ms .Mult) (Aj X.K):=by
 intro Uq s Z H x y v u Q I rx ry h;obtain⟨l,k,xs,rfl,rfl,hH,hne,hlen,h1,h2,q1,q2⟩:=h;cases rx;obtain⟨t,rfl⟩:=ry;obtain⟨its,r,p,hz⟩:=I.tuple (X:=X) hH;obtain⟨⟨cls,dd,data,sl⟩,ho,hc,n,hd⟩:=id p;simp only at hc hd;subst hc hd;have hl:=r.length;have hne':its.toArray.isEmpty=false:=by
  cases its with
  | nil=>cases r;exact absurd rfl hne
  | cons a r'=>rfl
 have hTy:s.TypeIs (.ref l) "tuple" :=⟨_,ho,rfl⟩;apply Ng (T:="tuple") (U:="int") (by decide) hTy (λs'=>Ny s' k t) jk OI M6 mZ Oq.lookup
  (MC M6 (Ny s k t) Os (Oc _ _) (j9 k t l its.toArray n dd sl)
   ⟨ho,rfl,hTy,?_⟩)
 by_cases hk:k=1
 ·subst hk;apply Mo NA hTy PM ?_ (Pu _ _);have f1:=Ov;have c1:¬ (decide ((1:Int) < -(2^63))||decide ((1:Int)≥2^63))=true:=by decide
  obtain⟨hp,g,d,tk,os⟩:=s;wp_walk using MY ho
  exact⟨_,rfl,.ref l,H,I,rfl,q1 rfl⟩
 ·apply MC NA hTy PM (Pu _ _) (jO l its.toArray n dd sl k t ⋯ h2 hne' (by rw[Gf,<-hl];exact hlen)) ⟨ho,?_⟩;have e0:(Gh k.toNat its.toArray).foldl (· ++ ·) #[]=(Gh k.toNat its).flatten.toArray:=by simpa using eW its k.toNat []
  rw[e0];apply⟨.ref s.heap.objs.size,_,I.laid (t':=s.toks) (o:=.tup (Gh k.toNat xs).flatten) (λb ob q=>LK _ q) (Gj _) ?_,rfl,q2 ⋯ _ (I.hok.fresh (Gj _))⟩;apply⟨?_,_,r.rep k.toNat,Ld.new _ _⟩;rw[iH,LL];have a1:k.toNat*xs.length<=1000*1000:=IU ⋯ hlen;omega
def gY(l:Addr)(items:Array LH)(n:Nat)(b:Addr)(items2:Array LH)(n2:Nat)(dd:Option Addr)(sl:Array (Option LH))(hs0:¬(!items.isEmpty&&LZ (items.size+items2.size))=true)(hs1:items.size<=sizeLine)(hs2:items.size+items2.size<=sizeLine+1) :
  QL (LM.«list.extend» ⟨[.ref l,.ref b],[]⟩) (λ_ R s=>s.heap.get? l=some {cls:=.type "list",dict:=none,data:=.seq items n,slots:=#[]}/\s.heap.get? b=some {cls:=.type "tuple",dict:=dd,data:=.seq items2 n2,slots:=sl}/\R (.ok (.ret Mm)) {s with heap:=s.heap.update l (Md λx=>x++items2),toks:=s.toks}):=
 .of_wp λprog w A R s h=>by
  obtain⟨hp,g,d,tk,os⟩:=s;obtain⟨hl,hb,h⟩:=h;have f1:=Ov;have f2:=AutoSeq1.sub_tuple_tuple;have f3:=AutoSeq1.sub_list_list;have f4:=AutoSeq1.sub_tuple_list;have f5:=AutoSeq1.sub_list_tuple;have hz':(items++items2).size<=sizeLine+1:=by rw[JY];exact hs2
  wp_walk using(M7 hl rfl (hz:=hs1) (_hz':=hz')),MY hl,MY hb;exact⟨_,rfl,h⟩
abbrev nZ(K:yF):V->List V->Hp->VK->Prop:=λx vs H Q=>∃l b xs zs,x=.ref l/\vs=[.ref b]/\H l=some (.lst xs)/\SqT K H b zs/\xs.length+zs.length<=sizeLine/\Q .non (upd H l (.lst (xs++zs)))
def pE:MtM X "list.extend" (nZ X.K):=by
 intro Uq s Z H x vs v us Q I rx rv h;obtain⟨l,b,xs,zs,rfl,rfl,hH,hB,hz,q⟩:=h;cases rx;obtain⟨u,rfl,ru⟩:=rv.one;cases ru;obtain⟨z,its,n,r,hl,e⟩:=I.lstM hH;obtain⟨its2,r2,p2,z2⟩:=I.tuple hB;obtain⟨⟨cls,dd,data,sl⟩,ho,hc,n2,hd⟩:=id p2;simp only at hc hd;subst hc hd;have hl2:=r2.length;have hsz:its.toArray.size+its2.toArray.size<=sizeLine:=by rw[Gf,Gf];omega
 have hlong:¬ (!its.toArray.isEmpty&&LZ (its.toArray.size+its2.toArray.size))=true:=by
  rw[dN hsz,JE];exact Gv
 apply MC N4 ⟨_,e,rfl⟩ NO (NE _ _)
  (gY l its.toArray n b its2.toArray n2 dd sl hlong (by rw[Gf];omega) ⋯) ⟨e,ho,?_⟩
 apply⟨.non,_,I.lset (its':=its++its2) hH e ∅ (r.append r2) ?_,rfl,q⟩;rw[Gr];omega
end
section
variable {X:Cx}
def fK{α β:Type}{f : α->Option β}{g : α->β}:∀{l:List α},(∀k∈l,f k=some (g k))->l.filterMap f=l.map g
 | [],_=>rfl
 | a::l,h=>by
  rw[GG,h a ymS,Gg];show g a::_=_;rw[fK λk hk=>h k (ymC _ hk)]
def wB(xs:Array LH):((Gz xs.size).filterMap λ(k:Nat)=>xs[(((xs.size:Int)-1)+(k:Int) * -1).toNat]?)=xs.toList.reverse:=by
 apply HP;intro i;rw[fK (g:=λk=>(xs[xs.size-1-k]?).getD default) (λk hk=>?_),Go]
 ·by_cases hi:i<xs.size
  ·have h2:xs.size-1-i<xs.size:=by omega
   rw[List.getElem?_range hi,List.getElem?_reverse (by exists hi)];simp[h2]
  ·rw[JB (by exists hi),JB (by exists hi)];rfl
 ·have hk':=GU.mp hk;have e1:((((xs.size:Nat):Int)-1)+(k:Int) * -1).toNat=xs.size-1-k:=by omega
  rw[e1];have h2:xs.size-1-k<xs.size:=by omega
  simp[h2]
def iD{prog:LR}{w:Mb}{A:LX}{E:LH->LI->Prop}{s:LI}{t sl:Addr}{tt:Tok}{items:Array LH}{Q:LH->LI->Prop}(ht:NM s.heap t items)(hs:s.heap.IsSliceOf sl .none .none (.int (-1) tt))
  (h:Q (.ref s.heap.objs.size) {s with heap:=s.heap.push {cls:=.type "tuple",data:=.seq items.toList.reverse.toArray}})
  (hsz:items.size<=sizeLine):LN (LO prog w) A (Nl (.ref t) (.ref sl)) Q E s:=by
 have htake:sizeOk (.seq items.toList.reverse.toArray):=by
  show items.toList.reverse.toArray.size<=sizeLine;rw[Gf,Il,G5];exact hsz
 obtain⟨os,hos,hcs,hds⟩:=id hs;have hTs:s.TypeIs (.ref sl) "slice" :=⟨os,hos,hcs⟩;unfold Nl;try with_reducible refine Mi ?_
 first|refine LG (LJ ?_)|skip
 apply LG (Nm ht.typeIs (by decide) ?_);apply LG (Mt (name:=Mg "__getitem__") ht.typeIs GI
  (Mo GI ht.typeIs NN ?_ (N0 _ _)))
 show LN _ _ (Nc (.ref t) >>= _) _ _ s;apply LG (Oh ht ?_);apply LG (M4 hTs ?_);rw[if_pos (by decide)];have app:∀{Q':Int×Int×Nat->LI->Prop},Q' ((items.size:Int)-1,-1,items.size) s->LN (LO prog w) A.in1 (MM (.ref sl) (pure (items.size:Int))) Q' E s:=by
  intro Q' hq;unfold MM N8;apply LG (LG (Mn hos hds (x:=.none) rfl (LG (Mn hos hds (x:=.none) rfl (LG (Mn hos hds (x:=.int (-1) tt) rfl (LJ ?_)))))));apply LG (slicePart_int ?_);show LN _ _ (if((-1:Int)==0)=true then _ else _) _ _ s;rw[if_neg (by decide)];apply LG (NZ (LG (NZ (LG (LJ ?_)))));show LN _ _ (match Mp none none (-1) (items.size:Int)with|(lo,hi)=>pure (lo,(-1:Int),Mf lo hi (-1))) _ _ s;have e1:Mp none none (-1) (items.size:Int)=((items.size:Int)-1,-1):=by
   unfold Mp;simp
  rw[e1];have e2:Mf ((items.size:Int)-1) (-1) (-1)=items.size:=by
   unfold Mf;rw[if_neg ⋯];split;rw[Int.neg_neg,KA];omega;omega
  show LN _ _ (pure ((items.size:Int)-1,(-1:Int),Mf ((items.size:Int)-1) (-1) (-1))) _ _ s;rw[e2];exact LJ hq
 apply LG (app ?_);show LN _ _ (if((((items.size:Int)-1)==0&&(-1:Int)==1&&items.size==items.size))=true then _ else _) _ _ s;rw[if_neg ∅,wB];first
  | exact LG (m:=LW _) (LU (LJ ⟨_,rfl,LJ h⟩) htake)
  | exact LG (m:=LW _) (LU (LG (LJ (LJ ⟨_,rfl,LJ h⟩))) htake)
  | exact LG (LG (m:=LW _) (LU (LJ (LJ ⟨_,rfl,LJ h⟩)) htake))
  | exact LG (LG (m:=LW _) (LU (LJ ⟨_,rfl,LJ h⟩) htake))
abbrev wQ(K:yF)(te:TE):TE:=λZ H Q=>te Z H λx H1=>∃a xs,x=.ref a/\SqT K H1 a xs/\∀p,H1 p=none->Q (.ref p) (upd H1 p (.tup xs.reverse))
def yt{e:Expr}{te:TE}{j:Nat}{p1 p2 p3 pos:Pos}(he:PE X e te):PE X (.Subscript e (.Slice none none (some (.UnaryOp .USub (.Constant (.int 1) j p1) p2)) p3) pos) (wQ X.K te):=by
 intro Uq s Z H Q I h;apply Pr (thn (he Uq s Z H _ I h) λv s1 ⟨x,H1,I1,r1,q1⟩=>?_);obtain⟨a,xs,rfl,hq,q⟩:=q1;cases r1;apply P3 ?_;rw[Oj];apply LJ (LJ ?_);rw[evalPart_some];apply thn (Ef C4 vj Uq s1 Z H1 (λx H2=>x=.int (-1)/\H2=H1) I1 ⟨1,rfl,rfl,rfl⟩) λvu s2 ⟨y,H2,I2,r2,e1,e2⟩=>?_;subst e1 e2;obtain⟨tt,rfl⟩:=r2;have I3:Inv X Uq Z H2 {s2 with heap:=s2.heap.push {cls:=.type "slice",data:=.fields #[.none,.none,.int (-1) tt]}}:=I2.kept (t':=s2.toks) λb ob q=>LK _ q;obtain⟨its,r,ht,hz⟩:=I3.tuple hq;show LN (LO X.prog X.w) X.A (Ol e (.Slice none none (some (.UnaryOp .USub (.Constant (.int 1) j p1) p2)) p3) (.ref a) (.ref s2.heap.objs.size)) (EP X Uq Z Q) X.xe {s2 with heap:=s2.heap.push {cls:=.type "slice",data:=.fields #[.none,.none,.int (-1) tt]}};apply Q6 (ops:=[.ref a,.ref s2.heap.objs.size]) ht.typeIs GI.lookup (iD (tt:=tt) ht (N1 ..) ?_ (by rw[Gf,<-r.length];exact hz)) (by unhygienic rfl);apply⟨.ref _,_,I3.laid (t':=s2.toks) (o:=.tup xs.reverse) (λb ob q=>LK _ q) (Gj _) ?_,rfl,q _ (I3.hok.fresh (Gj _))⟩;exact⟨by rw[Il];exact hz,its.reverse,r.reverse,Ld.new _ _⟩
def pZ{A:LX}{bs:List Bool}:TruthOf X.prog X.w A (λi v=>(bs.map NT)[i]?=some v) (λi=>bs.getD i false):=by
 intro i v s Q E hv hq;rw[Go]at hv;cases q:bs[i]? with
 | none=>rw[q]at hv;cases hv
 | some b=>
  rw[q]at hv;cases hv;have e:bs.getD i false=b:=by rw[GC,q];rfl
  dsimp[e]at hq;exact MR hq
def Fg{bs:List Bool}:∀{us:List LH},Vals (bs.map V.bl) us->us=bs.map NT:=by
 induction bs with
 | nil=>intro us r;rw[He]at r;cases r;rfl
 | cons b bs ih=>
  intro us r;rw[Gg]at r;cases r with
  | cons r1 r2=>rw[ih r2,Gg];cases r1;rfl
def range_getD(bs:List Bool):(Gz bs.length).all (λi=>bs.getD i false)=bs.all id:=by
 have:(Gz bs.length).map (λi=>bs.getD i false)=bs:=QM bs false
 conv=>rhs;rw[<-this]
 rw[JZ];rfl
def uc(hc:X.calm=true):La X (.builtin "all") (λxs H Q=>∃(a:Addr) (bs:List Bool),xs=[.ref a]/\SqL X.K H a (bs.map V.bl)/\Q (.bl (bs.all id)) H):=by
 intro Uq s Z H xs us Q I rv h;obtain⟨a,bs,rfl,hq,q⟩:=h;obtain⟨u,rfl,ru⟩:=fh rv;cases ru;obtain⟨its,r,p,hz⟩:=I.list hq;have e:=Fg r;subst e;have hne:a≠s.heap.objs.size:=by
  obtain⟨o,n,e,_⟩:=p;exact GO (LP e)
 apply call_all_walk (Px p.isList ?_);apply⟨s.heap.objs.size,_,_,_,_,_,λi=>bs.getD i false,rfl,Q4.list (A:=X.A.in1) (show X.A.in1.handled=none from I.ok.hd hc) s.heap.objs.size a hne (bs.map NT).toArray,⟨⟨_,LQ _ rfl,rfl,rfl⟩,?_⟩,?_,λh' tk hk=>?_⟩;exact p.isList.at λo e=>LK _ e
 ·intro i v s Q E hv hq;exact pZ (bs:=bs) i v s Q E (by exists hv) hq
 ·have I1:Inv X Uq Z H {s with heap:=h',toks:=tk}:=I.kept λb o e=>hk b o (λz=>absurd (ysM z) (GO (LP e))) (LK _ e);apply⟨.bl _,H,I1,rfl,?_⟩;have:(Gz (bs.map NT).toArray.size).all (λi=>bs.getD i false)=bs.all id:=by rw[Gf,Ge];exact range_getD bs
  rw[this];exact q
abbrev uq(to:TE)(tl th:TO):TG:=λv Z H Q=>to Z H λo H1=>tl Z H1 λl H2=>th Z H2 λu H3=>∃p b xs ys a c,o=.ref p/\v=.ref b/\l=some a/\u=some c/\H3 p=some (.lst xs)/\H3 b=some (.lst ys)/\p≠b/\0<=a/\a<=c/\c<=xs.length/\xs.length+ys.length<=sizeLine /\
 Q Z (upd H3 p (.lst (xs.take a.toNat++ys++xs.drop c.toNat)))
def vm{o:Expr}{lo hi:Option Expr}{to:TE}{tl th:TO}{p2 pos:Pos}(ho:PE X o to)(hl:PO X lo tl)(hu:PO X hi th)
  (ha:∀v,Nb (.Subscript o (.Slice lo hi none p2) pos) X.env v=(do
   let ov <-MU [v] (eval o X.env)
   let iv <-MU [v,ov] (eval (.Slice lo hi none p2) X.env)
   Nd pos
   MU [v,ov,iv] (OA ov iv v)
   QU [iv,v,ov] []):=by intro _;rfl):PG X (.Subscript o (.Slice lo hi none p2) pos) (uq to tl th):=by
 intro Uq s Z H v u Q I r h;rw[ha];apply LG (Mi (thn (ho Uq s Z H _ I h) λov s1 ⟨x,H1,I1,r1,q1⟩=>?_));apply LG (Mi (P3 (thn (hl Uq s1 Z H1 _ I1 q1) λvl s2 ⟨l,H2,I2,pl,q2⟩=>thn (hu Uq s2 Z H2 _ I2 q2) λvu s3 ⟨w',H3,I3,pu,q3⟩=>?_)));rw[Oj];apply LJ ?_;obtain⟨p,b,xs,ys,a,c,rfl,rfl,rfl,rfl,hp,hb,hne,h0,hac,hc,hz,q⟩:=q3;have I4:Inv X Uq Z H3 {s3 with heap:=s3.heap.push {cls:=.type "slice",data:=.fields #[vl,vu,.none]}}:=I3.kept (t':=s3.toks) λb ob q=>LK _ q;cases r1;cases r;apply LG (Mx (LG (Mi ?_)));cases pl with
 | int _ t1=>
  cases pu with
  | int _ t2=>
   exact tG (sl:=s3.heap.objs.size) I4 hp hb hne (N1 ..) ⟨t1,rfl⟩ ⟨t2,rfl⟩ h0 hac hc hz λs' I'=>wpAny_release ⟨Z,_,I',q⟩
end
abbrev Has(P:LR)(w:Mb)(K:yF)(mg:Str->Option LH)(base:Heap)(k:Nat)(name:Str)(ps:List Str)(sp:Sp):Prop:=
 ∃(f:Addr) (fd:M5),mg name=some (.ref f)/\HJ K (.ref f)=true/\Lu K fd ps []/\Lx P w K mg base CX0 k f fd ps sp/\∃oc od osl,K.lookup f=some ⟨oc,od,.func fd,osl⟩
abbrev Def(K:yF)(mg:Str->Option LH)(name:Str)(st:Stmt)(ps:List Str):Prop:=
 ∃(f:Addr) (fd:M5),mg name=some (.ref f)/\Fun K name name st f fd/\Lu K fd ps []
def Def.has{P:LR}{w:Mb}{K:yF}{mg:Str->Option LH}{base:Heap}{k:Nat}{name:Str}{st:Stmt}{N ps:List Str}{sp:Sp}(d:Def K mg name st ps)(S:KU N ps (ai st))(len:∀vs H Q E,sp vs H Q E->vs.length=ps.length)
  (hbody:∀(f:Addr) (cdv:LH) (A:LX) (outer:List Env) (s:LI) (H:Hp) (vs:List V) (Q:VK) (E:XK),Lb k (A.deeper (NG name (ai st) s.heap.objs.size f cdv))->sp vs H Q E ->
   ∃t,PSs (kX CX0 P w K mg base N name (ai st) f cdv A outer s H E).nox (bA st) t/\t {nx:=λ_ H'=>Q .non H',rt:=Q} (bQ N vs) H):Has P w K mg base (k+1) name ps sp:=by
 obtain⟨f,fd,h1,F,b⟩:=d;obtain⟨oc,od,kV,doc,pm,an,cdv,ct,osl,e,lk,hcd⟩:=F.ex;exact⟨f,fd,h1,F.kp,b,F.ok S len (hbody f),oc,od,osl,lk⟩
def uI{P:LR}{w:Mb}{K:yF}{mg:Str->Option LH}{fa:Addr}{name:Str}{st:Stmt}{x:Str}{k:Nat}{sp:Sp}(hfa:mg name=some (.ref fa))(d:Def K mg name st [x])
  (hb:∀(kV doc pm:LH) (an:Option Addr) (cdv ct:LH) (s:LI) (v:LH),O7 s (HC name name (dv st) (bA st) (ai st) .none kV doc pm an cdv ct) ⟨[v],[]⟩ [(x,v)])
  (H:∀base:Heap,K.In base->base.Ns Mq mg->Has P w K mg base k name [x] sp) :
  ∃fd:M5,(∀(s:LI) (v:LH),O7 s fd ⟨[v],[]⟩ [(x,v)])/\∀base:Heap,K.In base->base.Ns Mq mg->Lx P w K mg base CX0 k fa fd [x] sp:=by
 obtain⟨f,fd,h1,F,b⟩:=d;rw[hfa]at h1;cases h1;obtain⟨oc,od,kV,doc,pm,an,cdv,ct,osl,e,lk,hcd⟩:=F.ex;apply⟨fd,λs v=>by rw[e];exact hb _ _ _ _ _ _ s v,λbase kb nb=>?_⟩;obtain⟨f',fd',g1,_,_,g4,oc',od',osl',lk'⟩:=H base kb nb;rw[hfa]at g1;cases g1;rw[lk]at lk';cases lk';exact g4
section
variable {X:Cx}{x:Str}{e:Expr}{es:List Expr}{p pos:Pos}{k:Nat}{ps:List Str}{sp:Sp}{t:TA}
def Eb(h:Has X.prog X.w X.K X.mg X.base k x ps sp)(hr:Lb k X.A)(hg:Gl X x)(ha:PA X (e::es) t)(hdb:(x==("__debug__" : Str))=false:=by decide)
  (he:Ma (e::es) X.env=(false,eval e X.env)::Ma es X.env:=by rfl) (hpl:(Nk pos (Ma es X.env)).any (·.1)=false:=by rfl) :
  PE X (.Call (.Name x p) (e::es) [] pos) (lR sp [] E0 t):=by
 obtain⟨f,fd,h1,h2,h3,h4,_⟩:=h;exact yn h4 hr hg h1 h2 h3 .nil D8 ha hdb he hpl
end
section
variable {X:Cx}
abbrev Ab(K:yF):R2:=λx y H Q=>rI0 (λi j=>.int (i+j)) x y H Q\/((∃i j,x=.str i/\y=.str j/\i.length+j.length<=sizeLine/\Q (.str (i++j)) H)\/(EI x y H Q\/Ae K x y H Q))
def op_addX:OpR X (Ms .Add) (Ab X.K):=op_add.or (op_add_str.or (op_cat.or yh))
abbrev Ah(K:yF):R2:=λx y H Q=>rI LA (λi j=>.int (i*j)) x y H Q\/((∃z n,x=.str z/\y=.int n/\1<=n/\n<=1000/\z.length<=1000/\Q (.str (oL (Gh n.toNat (sL z)).flatten)) H)\/(ER x y H Q\/Aj K x y H Q))
def op_mulX:OpR X (Ms .Mult) (Ah X.K):=op_mul.or (op_mulS.or (op_rep.or yk))
abbrev Cu(K:yF):R2:=λx y H Q=>rEq x y H Q\/(EJ K x y H Q\/EK K x y H Q)
def Bl(hu:X.A.units+64<My):OpR X (Ml .Eq) (Cu X.K):=op_eq.or ((Bh hu).or (Bj hu))
abbrev Cw(K:yF):R2:=λx y H Q=>rNe x y H Q\/(EO K x y H Q\/EQ K x y H Q)
def Br(hu:X.A.units+64<My):OpR X (Ml .NotEq) (Cw X.K):=op_ne.or ((Bp hu).or (Bq hu))
abbrev Cv(K:yF):R2:=λx y H Q=>(∃i j,x=.str i/\y=.str j/\Q (.bl (!(MH j i 0 j.length 1).isEmpty)) H)\/(rIn K false x y H Q\/y3 K false x y H Q)
def Bn(hu:X.A.units+64<My):OpR X (Ml .In) (Cv X.K):=op_in_str.or (op_in_seq.or (Bm hu))
abbrev mU(K:yF):R2:=λx y H Q=>(∃i j,x=.str i/\y=.str j/\Q (.bl (!(!(MH j i 0 j.length 1).isEmpty))) H)\/(rIn K true x y H Q\/y3 K true x y H Q)
def sE(hu:X.A.units+64<My):OpR X (Ml .NotIn) (mU X.K):=op_notIn_str.or (op_notIn_seq.or (sD hu))
def F5:SlR X (rSl X.K):=sl_tup.or (sl_list.or CS)
abbrev wa(K:yF):List V->Hp->VK->Prop:=λxs H Q=>(∃p ys,xs=[.ref p]/\(SqL K H p ys\/SqT K H p ys)/\Q (.int ys.length) H)\/(∃z,xs=[.str z]/\z.length<=sizeLine/\Q (.int z.length) H)
def rO:La X (.builtin "len") (wa X.K):=La.or l8 l9
end
abbrev Its(z:Str):It:=⟨λi _=>i<z.cps.size,λi H y H'=>H'=H/\∃c,z.cps[i]?=some c/\y=.str ⟨#[c]⟩,λi _=>z.cps.size<=i⟩
abbrev DA(te:TE):TI:=λZ H R=>te Z H λx H1=>∃z:Str,x=.str z/\R (Its z) H1
def yy{X:Cx}{tg e:Expr}{te:TE}(he:PE X e te):PI X tg e (DA te):=BS he
def kw{N:List Str}(h:decide N.Nodup=true):N.Nodup:=of_decide_eq_true h
section
variable {X:Cx}{K:yF}
def FR(h:X.K=K):IxR X (rIx K):=h▸A1
abbrev wf(K:yF):List V->Hp->VK->Prop:=λxs H Q=>∃p ys,xs=[.ref p]/\((SqL K H p ys/\∀l,H l=none->Q (.ref l) (upd H l (.tup ys)))\/(SqT K H p ys/\Q (.ref p) H))
abbrev wb(K:yF):List V->Hp->VK->Prop:=λxs H Q=>∃p ys,xs=[.ref p]/\(SqL K H p ys\/SqT K H p ys)/\∀l,H l=none->Q (.ref l) (upd H l (.lst ys))
abbrev EH(K:yF):List V->Hp->VK->Prop:=λxs H Q=>∃(a:Addr) (bs:List Bool),xs=[.ref a]/\SqL K H a (bs.map V.bl)/\Q (.bl (bs.all id)) H
abbrev Af(K:yF):V->List V->Hp->VK->Prop:=λx vs H Q=>∃z a zs,x=.str z/\vs=[.ref a]/\SqL K H a (zs.map V.str)/\(zs.map (·.length)).sum+zs.length*z.length<=16777216/\Q (.str (Nq z zs)) H
def F3{e:Expr}{te:TE}{j:Nat}{p1 p2 p3 pos:Pos}(h:X.K=K)(he:PE X e te):PE X (.Subscript e (.Slice none none (some (.UnaryOp .USub (.Constant (.int 1) j p1) p2)) p3) pos) (wQ K te):=h▸yt he
def tgK{es:List Expr}{k:Nat}{t:TGs}{n:Nat}{pos:Pos}(h:X.K=K)(hc:X.calm=true)(hs:PGs X es t)
  (hn:(MJ es X.env).length=n:=by rfl) (hst:(MJ es X.env).findIdx? (·.1)=none:=by rfl):PG X (.Tuple es k pos) (xC K n t):=h▸BR hc hs hn hst
def ilK{tg l:Expr}{tl:TE}(h:X.K=K)(hl:PE X l tl):PI X tg l (qF K tl):=h▸yx hl
def itK{tg l:Expr}{tl:TE}(h:X.K=K)(hl:PE X l tl):PI X tg l (xF K tl):=h▸BU hl
abbrev Fd(K:yF)(ta:TE):TT:=λZ H Q=>ta Z H λx H'=>∃k,xm K x H' k/\Q k H'
def F6{a:Expr}{ta:TE}(h:X.K=K)(ha:PE X a ta)(he:∀whole,OP a X.env whole=(do let v <-whole;Nd a.pos;MU [v] (Qg v))):PT X a (Fd K ta):=h▸vO ha he
variable {o e:Expr}{es:List Expr}{to:TE}{t:TA}{name:Str}{apos cpos:Pos}{T id:String}{r:V->List V->Hp->VK->Prop}
def FD(h:X.K=K)(pa:Nz T)(slot:Slot T name id)(hty:Pt (.builtin id)=pure (.type "method_descriptor"))(hm:MtR X id r)(ho:PE X o to)
  (hbase:MD o name X.env (eval o X.env)=eval o X.env:=by rfl) (hline:(apos.endLine==cpos.line)=true:=by rfl):PE X (.Call (.Attribute o name apos) [] [] cpos) (CU K T r to):=h▸BL pa slot hty hm ho hbase hline
def bmK(h:X.K=K)(pa:Nz T)(slot:Slot T name id)(hty:Pt (.builtin id)=pure (.type "method_descriptor"))(hm:MtR X id r)(ho:PE X o to)(ha:PA X (e::es) t)
  (hbase:MD o name X.env (eval o X.env)=eval o X.env:=by rfl)
  (hfew:((Nk cpos (Ma (e::es) X.env)).all (λx=>!x.1)&&(backToKw cpos (keywordEach [] X.env)).all (λx=>x.1.isSome)
   && decide ((e::es).length+([]:List Qc).length+(if([]:List Qc).isEmpty then 0 else 1)<30))=true:=by rfl)
  (hline:(apos.endLine==cpos.line)=true:=by rfl) (hs:Ma (e::es) X.env=(false,eval e X.env)::Ma es X.env:=by rfl) (hplain:(Nk cpos (Ma es X.env)).any (·.1)=false:=by rfl) :
  PE X (.Call (.Attribute o name apos) (e::es) [] cpos) (tBM K T r to t):=h▸Ea pa slot hty hm ho ha hbase hfew hline hs hplain
end
structure Bi(mg:Str->Option LH):Prop where
 b_len:mg "len" = none
 b_all:mg "all" = none
 b_any:mg "any" = none
 b_tuple:mg "tuple" = none
 b_list:mg "list" = none
 b_range:mg "range" = none
 b_min:mg "min" = none
 b_max:mg "max" = none
 b_int:mg "int" = none
 b_bool:mg "bool" = none
 b_isinstance:mg "isinstance" = none
 b_str:mg "str" = none
 b_sorted:mg "sorted" = none
 b_sum:mg "sum" = none
 b_zip:mg "zip" = none
 b_enumerate:mg "enumerate" = none
 b_dict:mg "dict" = none
 b_abs:mg "abs" = none
 b_repr:mg "repr" = none
 b_reversed:mg "reversed" = none
 b_set:mg "set" = none
noncomputable abbrev LET:Str:="abcdefghijklmnopqrstuvwxyz"
def l0:(sL LET).length=26:=by decide +kernel
def LET_len':LET.length=26:=by decide +kernel
abbrev rd:D->Option D
 | .tup [.str x,nm,row]=>if x=("at" : Str)then some (.tup [nm,row])else none
 | _=>none
def p9(elt tg iter tg2 iter2:Expr)(ifs2:List Expr)(scope:ML)(pos:Pos)(it acc:LH)(env:Env) :
  Ot (.ListComp elt [⟨tg,iter,[],0⟩,⟨tg2,iter2,ifs2,0⟩] scope pos) 0 it acc env=(Nd iter.pos >>= λ_=>NX it >>= λr=>match r with
   | none=>pure (.done .next)
   | some v=>Mz tg it v >>= λ_=>Nb tg env v >>= λ_=>
    (eval iter2 env >>= λx=>Nd iter2.pos >>= λ_=>LY iter2 env x >>= λx=>MU [x] (Po x) >>= λj=>runOwn (.compStart (.ListComp elt [⟨tg,iter,[],0⟩,⟨tg2,iter2,ifs2,0⟩] scope pos) 1 j acc env) env >>= λ_=>
     again (.compLoop (.ListComp elt [⟨tg,iter,[],0⟩,⟨tg2,iter2,ifs2,0⟩] scope pos) 0 it acc env))):=by
 unfold Ot;rfl
def p8(elt tg2 iter2:Expr)(g1:Pi)(ifs2:List Expr)(scope:ML)(pos:Pos)(it acc:LH)(env:Env) :
  Ot (.ListComp elt [g1,⟨tg2,iter2,ifs2,0⟩] scope pos) 1 it acc env=(do
   Nd iter2.pos
   match <-NX it with
   | none=>pure (.done .next)
   | some v=>
    Mz tg2 it v
    Nb tg2 env v
    let mut ok:=true
    for c in ifs2 do
     if ok then ok <-OP c env (eval c env)
    if ok then
     (do let _ <-call (.builtin "list.append") [acc,<-eval elt env])
    again (.compLoop (.ListComp elt [g1,⟨tg2,iter2,ifs2,0⟩] scope pos) 1 it acc env)):=by rfl
def pe{prog:LR}{w:Mb}{A:LX}{R:Og->LI->Prop}{s:LI}{elt tg2 iter2:Expr}{g1:Pi}{ifs2:List Expr}{scope:ML}{pos:Pos}{it acc:LH}{env:Env}(I:Nat->LI->Prop)
  (turn:∀n s,I n s->LN (LO prog w) A (NX it) (λr s₁=>match r with
   | none=>R (.ok .next) s₁
   | some v=>LN (LO prog w) A (Mz tg2 it v) (λ_ s₁'=>LN (LO prog w) A (Nb tg2 env v) (λ_ s₂=>
     LN (LO prog w) A (jU ifs2 env) (λok s₃=>
      if ok=true then LN (LO prog w) A (eval elt env) (λx s₄=>
       LN (LO prog w) A (call (.builtin "list.append") [acc,x]) (λ_ s₅=>∃m,m<n/\I m s₅) (λ_ _=>False) s₄) (λ_ _=>False) s₃
      else∃m,m<n/\I m s₃) (λ_ _=>False) s₂) (λ_ _=>False) s₁') (λ_ _=>False) s₁) (λ_ _=>False) s)
  (n:Nat) (h:I n s):Mv (LO prog w) A (.compLoop (.ListComp elt [g1,⟨tg2,iter2,ifs2,0⟩] scope pos) 1 it acc env) R s:=by
 have never:∀{α:Type} {t:Sem α} {QQ : α->LI->Prop} {EE:LH->LI->Prop} {ss:LI},LN (LO prog w) A t QQ (λ_ _=>False) ss->LN (LO prog w) A t QQ EE ss:=λhh=>LS hh (λ_ _ z=>z) λ_ _ z=>z.elim;apply OE rfl I (λn s hI=>?_) n h;show LN _ A ((Ot (.ListComp elt [g1,⟨tg2,iter2,ifs2,0⟩] scope pos) 1 it acc env).onRaise (λx=>do O9 x env;NJ x)) _ _ s;apply OW ?_;rw[p8];apply LG (Mx (LG (LS (turn n s hI) (λr s₁ h₁=>?_) λ_ _ z=>z.elim)));cases r with
 | none=>exact LJ h₁
 | some v=>
  apply LG (LS h₁ (λ_ s₁' h₁'=>?_) λ_ _ z=>z.elim);apply LG (LS h₁' (λ_ s₂ h₂=>LG (LS h₂ (λok s₃ h₃=>?_) λ_ _ z=>z.elim)) λ_ _ z=>z.elim);cases ok with
  | false=>exact LJ ⟨rfl,h₃⟩
  | true=>
   exact LG (LG (LS h₃ (λx s₄ h₄=>LG (LS h₄ (λ_ s₅ h₅=>LJ (LJ ⟨rfl,h₅⟩)) λ_ _ z=>z.elim)) λ_ _ z=>z.elim))
def ou{prog:LR}{w:Mb}{A:LX}{R:Og->LI->Prop}{s:LI}{elt tg2 iter2:Expr}{g1:Pi}{ifs2:List Expr}{scope:ML}{pos:Pos}{it acc:LH}{env:Env}
  (h0:Mv (LO prog w) A (.compLoop (.ListComp elt [g1,⟨tg2,iter2,ifs2,0⟩] scope pos) 1 it acc env) R s)
  (h:LN (LO prog w) A (Po it) (λit' s'=>Mv (LO prog w) A (.compLoop (.ListComp elt [g1,⟨tg2,iter2,ifs2,0⟩] scope pos) 1 it' acc env) R s') (Nf (LO prog w) A env λx s'=>R (.error x) s') s) :
  Mv (LO prog w) A (.compStart (.ListComp elt [g1,⟨tg2,iter2,ifs2,0⟩] scope pos) 1 it acc env) R s:=by
 apply codeAny_of_tree ?_;show LN _ _ ((compStart (.ListComp elt [g1,⟨tg2,iter2,ifs2,0⟩] scope pos) 1 it acc env).onRaise (λx=>do O9 x env;Nd theWindowsPlace)) _ _ s;apply wpAny_notedAt ?_;unfold compStart;show LN _ _ (ask >>= _) _ _ s;apply LG (wpAny_askSetting (wpAny_ite ?_));split
 ·first
   | exact LJ (QN rfl h0)
   | exact LG (LJ (LJ (QN rfl h0)))
 ·apply LG (Nx ?_);show LN _ _ (Nd iter2.pos >>= _) _ _ s;exact LG (Mx (LG (LS h (λit' s' h'=>LJ (QN rfl h')) λ_ _ x=>x)))
def pf{prog:LR}{w:Mb}{A:LX}{R:Og->LI->Prop}{s:LI}{elt tg iter tg2 iter2:Expr}{ifs2:List Expr}{scope:ML}{pos:Pos}{it acc:LH}{env:Env}(hs:∀x,LY iter2 env x=pure x)(I:Nat->LI->Prop)
  (turn:∀n s,I n s->LN (LO prog w) A (NX it) (λr s₁=>match r with
   | none=>R (.ok .next) s₁
   | some v=>LN (LO prog w) A (Mz tg it v) (λ_ s₁'=>LN (LO prog w) A (Nb tg env v) (λ_ s₂=>
     LN (LO prog w) A (eval iter2 env) (λx s₃=>LN (LO prog w) A (Po x) (λj s₄=>
      Mv (LO prog w) A (.compStart (.ListComp elt [⟨tg,iter,[],0⟩,⟨tg2,iter2,ifs2,0⟩] scope pos) 1 j acc env) (λr s₅=>match r with|.ok _=>∃m,m<n/\I m s₅|.error _=>False) s₄)
       (λ_ _=>False) s₃) (λ_ _=>False) s₂) (λ_ _=>False) s₁') (λ_ _=>False) s₁) (λ_ _=>False) s)
  (n:Nat) (h:I n s):Mv (LO prog w) A (.compLoop (.ListComp elt [⟨tg,iter,[],0⟩,⟨tg2,iter2,ifs2,0⟩] scope pos) 0 it acc env) R s:=by
 apply OE rfl I (λn s hI=>?_) n h;show LN _ A ((Ot (.ListComp elt [⟨tg,iter,[],0⟩,⟨tg2,iter2,ifs2,0⟩] scope pos) 0 it acc env).onRaise (λx=>do O9 x env;NJ x)) _ _ s;apply OW ?_;rw[p9];apply LG (Mx (LG (LS (turn n s hI) (λr s₁ h₁=>?_) λ_ _ z=>z.elim)));cases r with
 | none=>exact LJ h₁
 | some v=>
  apply LG (LS h₁ (λ_ s₁' h₁'=>?_) λ_ _ z=>z.elim);apply LG (LS h₁' (λ_ s₂ h₂=>?_) λ_ _ z=>z.elim);apply LG (LS h₂ (λx s₃ h₃=>LG (Mx (LG (MV (hs x) (LG (Mi (LS h₃ (λj s₄ h₄=>?_) λ_ _ z=>z.elim))))))) λ_ _ z=>z.elim);apply LG (wpAny_runOwn (NQ h₄ λr s₅ h₅=>?_));cases r with
  | ok f=>exact LJ ⟨rfl,h₅⟩
  | error e=>exact h₅.elim
abbrev tW(J2:It)(Zi:St)(g2:TG)(tc2:TT)(te:TE)(acc0:List V)(H3:Hp)(N:List V->Hp->Prop):Prop:=
 ∃W2:Nat->Nat->List V->Hp->Prop,(∃m,W2 0 m acc0 H3)/\∀i m acc H,W2 i m acc H->acc.length<sizeLine /\
  ((J2.stop i H/\N acc H) \/
  (J2.go i H/\∃N2:List V->Hp->Prop,(∀acc' H',N2 acc' H'->∃m',m'<m/\W2 (i+1) m' acc' H') /\
   ∀x H',J2.yld i H x H'->g2 x Zi H' λZ3 H4=>tc2 Z3 H4 λb H5=>if b=true then te Z3 H5 λv H6=>N2 (acc++[v]) H6 else N2 acc H5))
abbrev tX(J:It)(Zi:St)(g:TG)(wi2:TI)(fr2:List (Option Nat))(g2:TG)(tc2:TT)(te:TE)(H1:Hp)(Q:VK):Prop:=
 ∃W:Nat->Nat->List V->Hp->Prop,(∃m,W 0 m [] H1)/\∀i m acc H,W i m acc H->acc.length<sizeLine /\
  ((J.stop i H/\∀d,H d=none->Q (.ref d) (upd H d (.lst acc))) \/
  (J.go i H/\∃N:List V->Hp->Prop,(∀acc' H',N acc' H'->∃m',m'<m/\W (i+1) m' acc' H') /\
   ∀x H',J.yld i H x H'->g x Zi H' λZ2 H2=>wi2 Z2 H2 λJ2 H3=>tW J2 (aM fr2 Z2) g2 tc2 te acc H3 N))
abbrev wO(wi:TI)(fr:List (Option Nat))(g:TG)(wi2:TI)(fr2:List (Option Nat))(g2:TG)(tc2:TT)(te:TE):TE:=λZ H Q=>wi Z H λJ H1=>tX J (aM fr Z) g wi2 fr2 g2 tc2 te H1 Q
section
variable {X:Cx}{elt tg iter tg2 iter2:Expr}{ifs2:List Expr}{scope:ML}{pos:Pos}{N':List Str}{fr fr2:List (Option Nat)}{wi wi2:TI}{g g2:TG}{tc2:TT}{te:TE}
abbrev oG(fr fr2:List (Option Nat)):Bool:=(fr2.length==fr.length)&&(Gz fr.length).all λk=>(fr2[k]? == some (some k))||(fr2[k]? == some none&&fr[k]? == some none)
def rK{fr:List (Option Nat)}{Z Z5:St}(kp:Kp fr (aM fr Z) Z5):∀(k:Nat) v,(aM fr Z)[k]?=some (some v)->Z5[k]?=some (some v):=λk v e=>by
 cases q:fr[k]? with
 | none=>
  unfold aM at e;rw[Go,q]at e;cases e
 | some o=>
  cases o with
  | none=>
   unfold aM at e;rw[Go,q]at e;simp at e
  | some j=>rw[kp.2 k j q];exact e
def A9{Z Z8 Z5:St}(h:oG fr fr2=true)(kp8:Kp fr (aM fr Z) Z8)(kp5:Kp fr2 (aM fr2 Z8) Z5):Kp fr (aM fr Z) Z5:=by
 unfold oG at h;rw[Gd]at h;obtain⟨h1,h2⟩:=h;have hl:fr2.length=fr.length:=by exists h1
 apply⟨by rw[kp5.1,bD,bD,hl],λk j e=>?_⟩;have hk:k<fr.length:=(Gc.mp e).1;have h3:=G9.mp h2 k (GU.mpr hk);rw[e]at h3;have h4:fr2[k]?=some (some k):=by
  rw[Hl]at h3;rcases h3 with z|z;exists z
  ·rw[Gd]at z;have z2:=z.2;simp at z2
 rw[kp5.2 k k h4,<-kp8.2 k j e];have hlen:k<Z8.length:=by rw[kp8.1,bD];exact hk
 unfold aM;rw[Go,h4];show some (Z8.getD k none)=_;rw[GC,GD hlen];rfl
def nw(hc:X.calm=true)(B:Blk X.env.scope scope X.N N' fr)(hsub:oG fr fr2=true)
  (hg:∀b,PG (cxB X scope N' b) tg g) (hgk:cj fr g) (hi2:∀b,PI (cxB X scope N' b) tg2 iter2 wi2) (hg2:∀b,PG (cxB X scope N' b) tg2 g2) (hgk2:cj fr2 g2) (ht:∀b,PTs (cxB X scope N' b) ifs2 tc2) (he:∀b,PE (cxB X scope N' b) elt te)
  (hs2:∀b x,LY iter2 (cxB X scope N' b).env x=pure x)
  {Uq:List (Addr×Obj)} {Z:St} {Q:VK} {itv:LH} {s2:LI} {E:LH->LI->Prop} {RR:LH->Addr->Og->LI->Prop}
  (h2:PIE X Uq Z tg (λJ H1=>tX J (aM fr Z) g wi2 fr2 g2 tc2 te H1 Q) itv s2)
  (hRR:∀(d C:Addr) (v:V) (H':Hp) (s':LI) m',Inv X Uq Z H' s'->v=.ref d->Q v H'->s'.heap.Ns C m'->ed X Uq H' C->C≠d->RR (.ref d) C (.ok .next) s') :
  LN (LO X.prog X.w) X.A (Qe []) (λacc s₃=>LN (LO X.prog X.w) X.A (Np scope X.env.globals (bx X.env scope.names []) [] X.env.qual none .none (some X.env)) (λcenv s₄=>
   Mv (LO X.prog X.w) X.A (.compStart (.ListComp elt [⟨tg,iter,[],0⟩,⟨tg2,iter2,ifs2,0⟩] scope pos) 0 itv acc {cenv with scope:=OD scope X.env}) (RR acc cenv.locals) s₄) E s₃) E s2:=by
 obtain⟨it,fp,tn,J,H2,rfl,I2,T,st2,f2,W,⟨m0,w0⟩,turn⟩:=h2;apply LU ?_;generalize hd:s2.heap.objs.size=d;have I3:Inv X Uq Z H2 {s2 with heap:=s2.heap.push {cls:=.type "list",dict:=none,data:=.seq ([]:List LH).toArray}}:=I2.kept (t':=s2.toks) λb o e=>LK _ e;have fd:ed X Uq H2 d:=I2.fpOk (by rw[hd];exact Gj _) (I2.hok.fresh (by rw[hd];exact Gj _));have od:(s2.heap.push {cls:=.type "list",dict:=none,data:=.seq ([]:List LH).toArray}).get? d=some {cls:=.type "list",dict:=none,data:=.seq ([]:List LH).toArray}:=by rw[<-hd];exact LQ _ rfl
 have st3:tn 0 (s2.heap.push {cls:=.type "list",dict:=none,data:=.seq ([]:List LH).toArray}):=T.keep _ _ _ st2 λb _ o e=>LK _ e;have ne_d:∀b∈fp,b≠d:=λb hb=>by
  obtain⟨o,e,_⟩:=T.obj _ _ st2 b hb;rw[<-hd];exact GO (LP e)
 have hd0:X.s₀.heap.objs.size<=d:=by rw[<-hd];exact I2.sz
 generalize hs3:({s2 with heap:=s2.heap.push {cls:=.type "list",dict:=none,data:=.seq ([]:List LH).toArray}}:LI)=s3 at I3;have od3:s3.heap.get? d=some {cls:=.type "list",dict:=none,data:=.seq ([]:List LH).toArray}:=by rw[<-hs3];exact od
 have st3':tn 0 s3.heap:=by rw[<-hs3];exact st3
 have hex:∀b∈d::fp,ed X Uq H2 b/\∃o,s3.heap.get? b=some o:=λb hb=>by
  rcases ycM hb with e|hb;subst e;exact⟨fd,_,od3⟩
  ·obtain⟨o,e,_⟩:=T.obj _ _ st3' b hb;exact⟨f2 b hb,o,e⟩
 apply dZ λh4 hns hk hcl=>?_;have J0:=I3.enter (ex:=d::fp) (xe:=λ_ _=>False) B hex hns hk hcl;generalize hCs:Mc (s3.heap.objs.size+1) scope.names (bx X.env scope.names [])=cells at J0;have hCd:s3.heap.objs.size≠d:=λz=>by have:=LP od3;rw[z]at this;exact Hc _ this
 let bk:Bk:=⟨cells,s3.heap.objs.size,s3,H2,d::fp,X.pn++Uq⟩
 have J0':Inv (cxB X scope N' bk) [] (aM fr Z) H2 {s3 with heap:=h4}:=J0;show Mv (LO X.prog X.w) X.A (.compStart (.ListComp elt [⟨tg,iter,[],0⟩,⟨tg2,iter2,ifs2,0⟩] scope pos) 0 (.ref it) (.ref d) (cxB X scope N' bk).env) (RR (.ref d) s3.heap.objs.size) {s3 with heap:=h4};have ne_pn:∀p∈X.pn++Uq,p.1≠d/\∀b∈fp,p.1≠b:=λp hp=>⟨fd.2.2.2.2.2 p hp,λb hb=>(f2 b hb).2.2.2.2.2 p hp⟩;have never:∀{α:Type} {t:Sem α} {QQ : α->LI->Prop} {EE:LH->LI->Prop} {ss:LI},LN (LO X.prog X.w) X.A t QQ (λ_ _=>False) ss->LN (LO X.prog X.w) X.A t QQ EE ss:=λhh=>LS hh (λ_ _ z=>z) λ_ _ z=>z.elim;have fpk:∀{Hx:Hp} {o:Obj},(∀b∈fp,Hx b=none)->∀b∈fp,ed (cxB X scope N' bk) [(d,o)] Hx b:=λ{Hx o} hn b hb=>by
  have hb':b∈d::fp:=ymC _ hb;apply⟨hn b hb,(J0'.ok.exf b hb').1,J0'.ok.exfs b hb',.inl hb',λx c e=>(J0'.ok.exf b hb').2 x c e,λp hp=>?_⟩;have hp':p∈(X.pn++Uq)++[(d,o)]:=hp;rcases yaM hp' with z|z;exact(ne_pn p z).2 b hb
  ·have:p=(d,o):=by exists z
   rw[this];exact Mj (ne_d b hb)
 have dC:=(J0'.ok.exf d ymS).1;have dS:=J0'.ok.exfs d ymS;have loop:∀s4:LI,Inv (cxB X scope N' bk) [] (aM fr Z) H2 s4->tn 0 s4.heap->s4.heap.PlainList d #[] ->
   Mv (LO X.prog X.w) X.A (.compLoop (.ListComp elt [⟨tg,iter,[],0⟩,⟨tg2,iter2,ifs2,0⟩] scope pos) 0 (.ref it) (.ref d) (cxB X scope N' bk).env) (RR (.ref d) s3.heap.objs.size) s4:=by
  intro s4 J4 st4 pl4;apply pf (hs2 bk) (λn s'=>∃i acc its H' Z',Inv (cxB X scope N' bk) [] Z' H' s'/\Kp fr (aM fr Z) Z'/\tn i s'.heap/\(∀b∈fp,H' b=none)/\H' d=none/\s'.heap.PlainList d (Jr its)/\Vals acc its/\W i n acc H') ?_ m0
   ⟨0,[],[],H2,aM fr Z,J4,Kp.refl _ _,st4,λb hb=>(f2 b hb).1,fd.1,pl4,.nil,w0⟩
  rintro n s5 ⟨i,acc,its,H5,Z5,J5,kp5,st5,fr5,hd5,⟨n5,pl5⟩,va5,w5⟩;obtain⟨hz,cs⟩:=turn i n acc H5 w5;have J5p:Inv (cxB X scope N' bk) [(d,{cls:=.type "list",data:=.seq its.toArray n5})] Z5 H5 s5:=J5.pins_of λp hp=>by
   have:p=(d,{cls:=.type "list",data:=.seq its.toArray n5}):=by exists hp
   subst this;exact⟨pl5,hd5,dC,dS,λv z=>by cases z⟩
  rcases cs with⟨stop,q⟩|⟨go,N,hN,step⟩
  ·apply never (thn (T.done (cxB X scope N' bk) rfl rfl rfl hc i _ s5 Z5 H5 _ J5p (fpk fr5) st5 stop) λr s6 ⟨hr,J6⟩=>?_);subst hr;obtain⟨e6,n6,_⟩:=J6.pin (d,{cls:=.type "list",data:=.seq its.toArray n5}) (yaR _ ∅);have I6:Inv X Uq Z H5 s6:=I3.leave (λb hb=>(hex b hb).1) J6;have I6t:Inv X Uq Z (upd H5 d (.lst acc)) s6:=I6.track ⟨hd5,fd.2⟩ (.inr hd0) hd0 ⟨by omega,its,n5,va5,e6⟩;obtain⟨m6,hn6,_⟩:=J6.loc;apply hRR d s3.heap.objs.size (.ref d) _ s6 m6 I6t rfl (q d hd5) hn6 ?_ hCd;exact I3.fpOk (Gj _) (by rw[aT hCd];exact J6.free)
  ·apply never (thn (T.item (cxB X scope N' bk) rfl rfl rfl hc i _ s5 Z5 H5 _ J5p (fpk fr5) st5 go) λr s6 ⟨u,hr,h6⟩=>?_);subst hr;apply never (thn h6 λ_ s7 ⟨x,H7,J7,r7,y7,st7,fr7⟩=>?_);have J7w:Inv (cxB X scope N' bk) [(d,{cls:=.type "list",data:=.seq its.toArray n5})] (aM fr Z) H7 s7:=J7.weak kp5.1.symm (rK kp5);have J7p:=J7w.pinned (fpk fr7) (T.obj _ _ st7);have G:=hgk x (aM fr Z) H7 _ (λZ2 H2=>(wi2 Z2 H2 λJ2 H3=>tW J2 (aM fr2 Z2) g2 tc2 te acc H3 N)/\Kp fr (aM fr Z) Z2) (λZ' H' a b=>⟨a,b⟩) (step x H7 y7);apply never (thn (hg bk _ s7 (aM fr Z) H7 x u _ J7p r7 G) λ_ s8 ⟨Z8,H8,J8,q8,kp8⟩=>?_);apply never (thn (hi2 bk _ s8 Z8 H8 _ J8 q8) λv9 s9 h9=>thn h9 λj s10 h10=>?_);obtain⟨it2,fp2,tn2,J2,H10,rfl,J10,T2,st10,f10,W2,⟨m2,w2⟩,turn2⟩:=h10;have keep1:∀{pp:List (Addr×Obj)} {Zx:St} {Hx:Hp} {sx:LI},(∀p∈bu fp s7.heap,p∈pp)->Inv (cxB X scope N' bk) pp Zx Hx sx->(∀b∈fp,∀o,s7.heap.get? b=some o->sx.heap.get? b=some o)/\(∀b∈fp,Hx b=none):=λ{pp Zx Hx sx} hpp Jx=>by
    apply⟨λb hb o e=>(Jx.pin (b,o) (yaR _ (hpp _ (bq hb e)))).1,λb hb=>?_⟩;obtain⟨o,e,_⟩:=T.obj _ _ st7 b hb;exact(Jx.pin (b,o) (yaR _ (hpp _ (bq hb e)))).2.1
   have ne2:∀b∈fp2,b≠d:=λb hb z=>(f10 b hb).2.2.2.2.2 (d,{cls:=.type "list",data:=.seq its.toArray n5}) (yaR _ (yaL _ ∅)) z.symm;have fpk2:∀{Hx:Hp} {o:Obj},(∀b∈fp2,Hx b=none)->∀b∈fp2,ed (cxB X scope N' bk) ([(d,o)]++bu fp s7.heap) Hx b:=λ{Hx o} hn b hb=>by
    obtain⟨_,k1,k2,k3,k4,k5⟩:=f10 b hb;apply⟨hn b hb,k1,k2,k3,k4,λp hp=>?_⟩;rcases yaM hp with z|z;exact k5 p (yaL _ z)
    ·rcases yaM z with z|z
     ·have:p=(d,o):=by exists z
      rw[this];exact(ne2 b hb).symm
     ·exact k5 p (yaR _ (yaR _ z))
   obtain⟨e10,hd10,_⟩:=J10.pin (d,{cls:=.type "list",data:=.seq its.toArray n5}) (yaR _ (yaL _ ∅));have J10w:Inv (cxB X scope N' bk) (bu fp s7.heap) (aM fr2 Z8) H10 s10:=by
    have J10p:Inv (cxB X scope N' bk) (bu fp s7.heap) Z8 H10 s10:=J10.pins_of λp hp=>J10.pin p (yaR _ (yaR _ hp));apply J10p.weak ?_ λk v e=>?_
    ·rw[bD,kp8.1,bD];unfold oG at hsub;rw[Gd]at hsub;have h1:=hsub.1;exists h1
    ·unfold aM at e;rw[Go]at e;cases q:fr2[k]? with
     | none=>rw[q]at e;cases e
     | some o=>
      rw[q]at e;cases o with
      | none=>simp at e
      | some j=>
       have hk:k<fr.length:=by
        unfold oG at hsub;rw[Gd]at hsub;have h1:fr2.length=fr.length:=by exists hsub.1
        have:=(Gc.mp q).1;omega
       have hj:j=k:=by
        unfold oG at hsub;rw[Gd]at hsub;have h3:=G9.mp hsub.2 k (GU.mpr hk);rw[q]at h3;simp at h3;exact h3
       subst hj;have e':Z8.getD j none=some v:=by exists e
       rw[GC]at e';cases q2:Z8[j]? with
       | none=>rw[q2]at e';cases e'
       | some y=>rw[q2]at e';simp at e';rw[e']
   have inner:∀s11:LI,s11=s10->Mv (LO X.prog X.w) X.A (.compLoop (.ListComp elt [⟨tg,iter,[],0⟩,⟨tg2,iter2,ifs2,0⟩] scope pos) 1 (.ref it2) (.ref d) (cxB X scope N' bk).env)
     (λr s₅=>match r with|.ok _=>∃m,m<n/\∃i acc its H' Z',Inv (cxB X scope N' bk) [] Z' H' s₅/\Kp fr (aM fr Z) Z'/\tn i s₅.heap/\(∀b∈fp,H' b=none)/\H' d=none/\s₅.heap.PlainList d (Jr its)/\Vals acc its/\W i m acc H'|.error _=>False) s11:=by
    rintro s11 rfl;apply pe (λn2 s'=>∃i2 acc its H' Z',Inv (cxB X scope N' bk) (bu fp s7.heap) Z' H' s'/\Kp fr2 (aM fr2 Z8) Z'/\tn2 i2 s'.heap/\(∀b∈fp2,H' b=none)/\H' d=none/\s'.heap.PlainList d (Jr its)/\Vals acc its/\W2 i2 n2 acc H') ?_ m2
     ⟨0,acc,its,H10,aM fr2 Z8,J10w,Kp.refl _ _,st10,λb hb=>(f10 b hb).1,hd10,⟨n5,e10⟩,va5,w2⟩
    rintro n' t5 ⟨i2,acc2,its2,K5,τ5,L5,kq5,ut5,gr5,he5,⟨n6,ql5⟩,vb5,x5⟩;obtain⟨hz2,cs2⟩:=turn2 i2 n' acc2 K5 x5;have L5p:Inv (cxB X scope N' bk) ([(d,{cls:=.type "list",data:=.seq its2.toArray n6})]++bu fp s7.heap) τ5 K5 t5:=L5.pins_of λp hp=>by
     rcases yaM hp with z|z
     ·have:p=(d,{cls:=.type "list",data:=.seq its2.toArray n6}):=by exists z
      subst this;exact⟨ql5,he5,dC,dS,λv z=>by cases z⟩
     ·exact L5.pin p (yaR _ z)
    rcases cs2 with⟨stop2,q2⟩|⟨go2,N2,hN2,step2⟩
    ·apply thn (T2.done (cxB X scope N' bk) rfl rfl rfl hc i2 _ t5 τ5 K5 _ L5p (fpk2 gr5) ut5 stop2) λr t6 ⟨hr,L6⟩=>?_;subst hr;obtain⟨e6,n6',_⟩:=L6.pin (d,{cls:=.type "list",data:=.seq its2.toArray n6}) (yaR _ (yaL _ ∅));obtain⟨m',hm,w6⟩:=hN _ _ q2;obtain⟨k1,k2⟩:=keep1 (λp hp=>yaR _ hp) L6;exact⟨m',hm,i+1,acc2,its2,K5,τ5,L6.pins_of (λp hp=>by simp at hp),A9 hsub kp8 kq5,T.keep _ _ _ st7 k1,k2,n6',⟨n6,e6⟩,vb5,w6⟩
    ·apply thn (T2.item (cxB X scope N' bk) rfl rfl rfl hc i2 _ t5 τ5 K5 _ L5p (fpk2 gr5) ut5 go2) λr t6 ⟨u2,hr,h6⟩=>?_;subst hr;apply thn h6 λ_ t7 ⟨x2,K7,L7,s7r,y72,ut7,gr7⟩=>?_;have L7w:Inv (cxB X scope N' bk) ([(d,{cls:=.type "list",data:=.seq its2.toArray n6})]++bu fp s7.heap) (aM fr2 Z8) K7 t7:=L7.weak kq5.1.symm (rK kq5);have L7p:=L7w.pinned (fpk2 gr7) (T2.obj _ _ ut7);have G2:=hgk2 x2 (aM fr2 Z8) K7 _ (λZ3 H4=>(tc2 Z3 H4 λb H5=>if b=true then te Z3 H5 λv H6=>N2 (acc2++[v]) H6 else N2 acc2 H5)/\Kp fr2 (aM fr2 Z8) Z3) (λZ' H' a b=>⟨a,b⟩) (step2 x2 K7 y72);apply thn (hg2 bk _ t7 (aM fr2 Z8) K7 x2 u2 _ L7p s7r G2) λ_ t8 ⟨τ8,K8,L8,q82,kq8⟩=>?_;apply thn (ht bk _ t8 τ8 K8 _ L8 q82) λok t9 ⟨K9,L9,q9⟩=>?_;have keepT:∀{Zx:St} {Hx:Hp} {sx:LI},Inv (cxB X scope N' bk) (([(d,{cls:=.type "list",data:=.seq its2.toArray n6})]++bu fp s7.heap)++bu fp2 t7.heap) Zx Hx sx->(∀b∈fp2,∀o,t7.heap.get? b=some o->sx.heap.get? b=some o)/\(∀b∈fp2,Hx b=none)/\sx.heap.get? d=some {cls:=.type "list",data:=.seq its2.toArray n6}/\Hx d=none:=λ{Zx Hx sx} Jx=>by
      apply⟨λb hb o e=>(Jx.pin (b,o) (yaR _ (yaR _ (bq hb e)))).1,λb hb=>?_,?_⟩
      ·obtain⟨o,e,_⟩:=T2.obj _ _ ut7 b hb;exact(Jx.pin (b,o) (yaR _ (yaR _ (bq hb e)))).2.1
      ·have:=Jx.pin (d,{cls:=.type "list",data:=.seq its2.toArray n6}) (yaR _ (yaL _ (yaL _ ∅)));exact⟨this.1,this.2.1⟩
     have strip:∀{Zx:St} {Hx:Hp} {sx:LI},Inv (cxB X scope N' bk) (([(d,{cls:=.type "list",data:=.seq its2.toArray n6})]++bu fp s7.heap)++bu fp2 t7.heap) Zx Hx sx->Inv (cxB X scope N' bk) (bu fp s7.heap) Zx Hx sx:=λJx=>Jx.pins_of λp hp=>Jx.pin p (yaR _ (yaL _ (yaR _ hp)));cases ok with
     | false=>
      rw[if_neg (by decide)]at q9|-;obtain⟨m',hm,w9⟩:=hN2 _ _ q9;obtain⟨k1,k2,k3,k4⟩:=keepT L9;exact⟨m',hm,i2+1,acc2,its2,K9,τ8,strip L9,kq8,T2.keep _ _ _ ut7 k1,k2,k4,⟨n6,k3⟩,vb5,w9⟩
     | true=>
      rw[if_pos rfl]at q9|-;apply thn (he bk _ t9 τ8 K9 _ L9 q9) λy t10 ⟨v,K10,L10,r10,q10⟩=>?_;obtain⟨m',hm,w10⟩:=hN2 _ _ q10;obtain⟨k1,k2,k3,k4⟩:=keepT L10;have hzs:its2.toArray.size<=sizeLine:=by rw[Gf,<-vb5.length];omega
      apply Ou (hsz:=hzs) ⟨n6,k3⟩ λh11 pl11 sb11=>?_;have L11:Inv (cxB X scope N' bk) (bu fp s7.heap) τ8 K10 {t10 with heap:=h11}:=(strip L10).turned (it:=d) (t':=t10.toks) (λb o hb e=>(sb11.2 b hb).trans e) k4 dC (.inl ymS) (λx c e=>(J0'.ok.exf d ymS).2 x c e) λp hp=>by
       have hp':p∈(X.pn++Uq)++bu fp s7.heap:=hp;rcases yaM hp' with z|z;exact(ne_pn p z).1;exact ne_d p.1 (lH z).1
      apply⟨m',hm,i2+1,acc2++[v],its2++[y],K10,τ8,L11,kq8,T2.keep _ _ _ ut7 (λb hb o e=>(sb11.2 b (ne2 b hb)).trans (k1 b hb o e)),k2,k4,?_,vb5.append (.cons r10 .nil),w10⟩;have:(its2++[y]).toArray=its2.toArray.push y:=by simp
      rw[this];exact pl11
   exact ou (inner s10 rfl) (T2.self X.A 0 _ _ _ st10 (inner s10 rfl))
 have st4:tn 0 h4:=T.keep _ _ _ st3' λb _ o e=>hk b o e;have pl4:h4.PlainList d #[]:=⟨0,hk d _ od3⟩;have L4:=loop {s3 with heap:=h4} J0' st4 pl4;exact OG L4 (T.self X.A 0 _ _ _ st4 L4)
def vf(hc:X.calm=true)(B:Blk X.env.scope scope X.N N' fr)(hsub:oG fr fr2=true)(hi:PI X tg iter wi)
  (hg:∀b,PG (cxB X scope N' b) tg g) (hgk:cj fr g) (hi2:∀b,PI (cxB X scope N' b) tg2 iter2 wi2) (hg2:∀b,PG (cxB X scope N' b) tg2 g2) (hgk2:cj fr2 g2) (ht:∀b,PTs (cxB X scope N' b) ifs2 tc2) (he:∀b,PE (cxB X scope N' b) elt te)
  (hs:∀x,LY iter X.env x=pure x:=by intro _;rfl) (hs2:∀b x,LY iter2 (cxB X scope N' b).env x=pure x:=by intro _ _;rfl) :
  PE X (.ListComp elt [⟨tg,iter,[],0⟩,⟨tg2,iter2,ifs2,0⟩] scope pos) (wO wi fr g wi2 fr2 g2 tc2 te):=by
 intro Uq s Z H Q I h;rw[eval_ListComp];apply MX (use:=none) rfl hs (cU (I.freeCells B)) B.kind B.locl (thn (hi Uq s Z H _ I h) λv s1 h1=>thn h1 λitv s2 h2=>?_);apply nw (RR:=λacc C=>Qr (LO X.prog X.w) X.A X.xe none (EP X Uq Z Q) acc C) hc B hsub hg hgk hi2 hg2 hgk2 ht he hs2 h2 ?_;intro d C v H' s' m' I' hv q hn fC hCd;apply⟨m',hn,λh'' sb=>?_⟩;obtain⟨c0,c1,c2,c3,c4,c5⟩:=fC;exact⟨v,H',I'.turned (it:=C) (t':=s'.toks) (λb o hb e=>(sb.2 b hb).trans e) c0 c1 c3 c4 c5,by rw[hv];rfl,q⟩
end
open PySem.AutoSeq1 (wpAny_loadPart')
abbrev mT:V->List V->Hp->VK->Prop:=λx vs H Q=>∃l xs i y,x=.ref l/\vs=[.int i,y]/\H l=some (.lst xs)/\0<=i/\i<=xs.length/\xs.length<sizeLine/\Q .non (upd H l (.lst (xs.take i.toNat++y::xs.drop i.toNat)))
def sw{X:Cx}:MtM X "list.insert" mT:=by
 intro Uq s Z H x vs v us Q I rx rv h;obtain⟨l,xs,i,y,rfl,rfl,hH,hi0,hi,hz0,q⟩:=h;cases rx;obtain⟨u1,u2,rfl,ru,ry⟩:=wU rv;obtain⟨t,rfl⟩:=ru;obtain⟨z,its,n,r,hl,e⟩:=I.lstM hH;have h63:i<2^63:=by rw[LL]at hz0;omega
 have h62 : -(2^63)<=i:=by omega
 have hfit:¬(!Builtin.List.listFitsIndex i)=true:=by rw[OS h62 h63];exact Gv
 have hsz:its.toArray.size<=sizeLine:=by rw[Gf];omega
 apply MC F.slot_list_insert ⟨_,e,rfl⟩ F.entry_list_insert (F.args_list_insert_3 _ _ _) (PySem.AutoSeq1.list_insert_list_int_val_1 l _ n i t u2 hfit hsz) ⟨e,?_⟩;apply⟨.non,_,I.lset (its':=its.take i.toNat++u2::its.drop i.toNat) hH e ?_ ((r.take i.toNat).append (.cons ry (r.drop i.toNat))) ?_,rfl,q⟩
 ·show(its.toArray.extract 0 (if i<0 then(i+(its.toArray.size:Int)).toNat else min i.toNat its.toArray.size)).push u2++its.toArray.extract (if i<0 then(i+(its.toArray.size:Int)).toNat else min i.toNat its.toArray.size)=(its.take i.toNat++u2::its.drop i.toNat).toArray;have hm:min i.toNat its.toArray.size=i.toNat:=by rw[Gf];omega
  rw[if_neg ⋯,hm];simp;rw[GE (by rw[Hm];exact Gj _)]
 ·rw[Gr,GZ,Gp,Hm];omega
abbrev fq:Expr->Bool
 | .Starred _ _=>true
 | _=>false
def bi{e:Expr}{es:List Expr}{env:Env}(h:fq e=false):Ma (e::es) env=(false,eval e env)::Ma es env:=by
 cases e<;>first|rfl|cases h
abbrev bg:List Expr->Bool
 | []=>true
 | e::es=>(!fq e)&&bg es
def cZ{env:Env}{pos:Pos}:∀{es:List Expr},bg es=true->(Nk pos (Ma es env)).any (·.1)=false
 | [],_=>rfl
 | e::es,h=>by
  rw[bg,Gd]at h;have h1:fq e=false:=by exists h.1
  rw[bi h1];show(false||(Nk pos (Ma es env)).any (·.1))=false;rw[cZ h.2];rfl
def jH{env:Env}{pos:Pos}:∀{es:List Expr},bg es=true->(Nk pos (Ma es env)).all (λx=>!x.1)=true
 | [],_=>rfl
 | e::es,h=>by
  rw[bg,Gd]at h;have h1:fq e=false:=by exists h.1
  rw[bi h1];show(!false&&(Nk pos (Ma es env)).all (λx=>!x.1))=true;rw[jH h.2];rfl
section
variable {X:Cx}{K:yF}{e:Expr}{es:List Expr}{te:TE}{t:TA}{x:Str}{p pos:Pos}{k:Nat}{ps:List Str}{sp:Sp}
def kD(ha:PE X e te)(hr:PA X es t)(hs:fq e=false:=by rfl):PA X (e::es) (rB te t):=ym ha hr (bi hs)
def vh(h:Has X.prog X.w X.K X.mg X.base k x ps sp)(hr:Lb k X.A)(hg:Gl X x)(ha:PA X (e::es) t)(hn:bg (e::es)=true:=by rfl)(hdb:(x==("__debug__" : Str))=false:=by decide):PE X (.Call (.Name x p) (e::es) [] pos) (lR sp [] E0 t):=by
 rw[bg,Gd]at hn;exact Eb h hr hg ha hdb (bi (by exists hn.1)) (cZ hn.2)
def sG{id:String}{r:List V->Hp->VK->Prop}(hc:La X (.builtin id) r)(hg:Gl X x)(hm:X.mg x=none)(hb:MQ x=some (.builtin id))(ha:PA X (e::es) t)(hn:bg (e::es)=true:=by rfl)(hx:x≠("__name__" : Str):=by decide)(hdb:(x==("__debug__" : Str))=false:=by decide):PE X (.Call (.Name x p) (e::es) [] pos) (tCB r t):=by
 rw[bg,Gd]at hn;exact ve hc hg hm hb ha hx hdb (bi (by exists hn.1)) (cZ hn.2)
def hC{T:String}{r:List V->Hp->VK->Prop}(hc:La X (.type T) r)(hg:Gl X x)(hm:X.mg x=none)(hb:MQ x=some (.type T))(ha:PA X (e::es) t)(hn:bg (e::es)=true:=by rfl)(hx:x≠("__name__" : Str):=by decide)(hdb:(x==("__debug__" : Str))=false:=by decide):PE X (.Call (.Name x p) (e::es) [] pos) (tCB r t):=by
 rw[bg,Gd]at hn;exact sH hc hg hm hb ha hx hdb (bi (by exists hn.1)) (cZ hn.2)
def xq{o:Expr}{to:TE}{name:Str}{apos cpos:Pos}{T id:String}{r:V->List V->Hp->VK->Prop}(h:X.K=K)(pa:Nz T)(slot:Slot T name id)(hty:Pt (.builtin id)=pure (.type "method_descriptor"))(hm:MtR X id r)(ho:PE X o to)(ha:PA X (e::es) t)(hn:bg (e::es)=true:=by rfl)(hlen:decide ((e::es).length<30)=true:=by rfl)
  (hbase:MD o name X.env (eval o X.env)=eval o X.env:=by rfl) (hline:(apos.endLine==cpos.line)=true:=by rfl):PE X (.Call (.Attribute o name apos) (e::es) [] cpos) (tBM K T r to t):=by
 have hn':=hn;rw[bg,Gd]at hn';apply bmK h pa slot hty hm ho ha hbase ?_ hline (bi (by exists hn'.1)) (cZ hn'.2);rw[jH hn];have:=of_decide_eq_true hlen;dsimp[JQ,List.length_nil,Nat.add_zero,List.isEmpty_nil,if_true];rw[decide_eq_true this];rfl
end
inductive I where
 | non|bl (b:Bool)|int (i:Int)|str (x:Str)|tup (is:List I)|ls (is:List I)
 | fd (ks:List Key) (is:List I)
mutual
def I.beq:I->I->Bool
 | .non,.non=>true
 | .bl a,.bl b=>a==b
 | .int a,.int b=>decide (a=b)
 | .str a,.str b=>decide (a=b)
 | .tup a,.tup b=>I.beqs a b
 | .ls a,.ls b=>I.beqs a b
 | .fd k a,.fd j b=>decide (k=j)&&I.beqs a b
 | _,_=>false
def I.beqs:List I->List I->Bool
 | [],[]=>true
 | a::as,b::bs=>I.beq a b&&I.beqs as bs
 | _,_=>false
end
mutual
theorem I.beq_iff:∀{a b:I},I.beq a b=true↔a=b
 | .non,b=>by cases b<;>simp[I.beq]
 | .bl x,b=>by cases b<;>simp[I.beq]
 | .int x,b=>by cases b<;>simp[I.beq]
 | .str x,b=>by cases b<;>simp[I.beq]
 | .tup x,b=>by
  cases b with
  | tup y=>rw[I.beq,I.beqs_iff,I.tup.injEq]
  | _=>simp[I.beq]
 | .ls x,b=>by
  cases b with
  | ls y=>rw[I.beq,I.beqs_iff,I.ls.injEq]
  | _=>simp[I.beq]
 | .fd k x,b=>by
  cases b with
  | fd j y=>rw[I.beq,Gd,I.beqs_iff,I.fd.injEq,decide_eq_true_iff]
  | _=>simp[I.beq]
theorem I.beqs_iff:∀{a b:List I},I.beqs a b=true↔a=b
 | [],b=>by cases b<;>simp[I.beqs]
 | x::xs,b=>by
  cases b with
  | nil=>simp[I.beqs]
  | cons y ys=>rw[I.beqs,Gd,I.beq_iff,I.beqs_iff,HD.injEq]
end
instance:DecidableEq I:=λa b=>decidable_of_iff (I.beq a b=true) I.beq_iff
inductive T where
 | im (i:I)|tup (ts:List T)|li (is:List I)|lst (ts:List T)|di (kvs:List (I×I))|dc (kvs:List (I×T))|ins (C:Addr) (fs:List (Str×T))
abbrev eg:Key->I
 | .inl i=>.int i
 | .inr x=>.str x
abbrev DAt(K:yF)(H:Hp)(a:Addr)(ks:List (I×V)):Prop:=∃ys:List (Key×V),H a=some (.dK ys)/\ks=ys.map λp=>(eg p.1,p.2)
mutual
def RpI(K:yF)(H:Hp):I->V->Prop
 | .non,v=>v=.non
 | .bl b,v=>v=.bl b
 | .int i,v=>v=.int i
 | .str x,v=>v=.str x
 | .tup is,v=>∃a xs,v=.ref a/\SqT K H a xs/\KT K H is xs
 | .ls is,v=>∃a o xs,v=.ref a/\H a=some (.frz o (.lst xs))/\KT K H is xs
 | .fd ks is,v=>∃a o ys,v=.ref a/\H a=some (.frz o (.dK ys))/\ys.map (·.1)=ks/\KT K H is (ys.map (·.2))
def KT(K:yF)(H:Hp):List I->List V->Prop
 | [],xs=>xs=[]
 | t::ts,xs=>∃x r,xs=x::r/\RpI K H t x/\KT K H ts r
end
mutual
def Rp(K:yF)(H:Hp):T->V->List Addr->Prop
 | .im i,v,F=>RpI K H i v/\F=[]
 | .tup ts,v,F=>∃a xs,v=.ref a/\SqT K H a xs/\Rps K H ts xs F
 | .li is,v,F=>∃a xs,v=.ref a/\Rd H a (.lst xs)/\KT K H is xs/\F=[a]
 | .lst ts,v,F=>∃a xs F',v=.ref a/\Rd H a (.lst xs)/\Rps K H ts xs F'/\F=a::F'
 | .di kvs,v,F=>∃a ys,v=.ref a/\DAt K H a ys/\KT K H (kvs.map (·.2)) (ys.map (·.2))/\ys.map (·.1)=kvs.map (·.1)/\F=[a]
 | .dc kvs,v,F=>∃a ys F',v=.ref a/\DAt K H a ys/\Rpk K H kvs ys F'/\F=a::F'
 | .ins C fs,v,F=>∃a dx ys F',v=.ref a/\H a=some (.ins C dx ys)/\Rpf K H fs ys F'/\F=a::F'
def Rps(K:yF)(H:Hp):List T->List V->List Addr->Prop
 | [],xs,F=>xs=[]/\F=[]
 | t::ts,xs,F=>∃x r F1 F2,xs=x::r/\Rp K H t x F1/\Rps K H ts r F2/\F=F1++F2
def Rpk(K:yF)(H:Hp):List (I×T)->List (I×V)->List Addr->Prop
 | [],xs,F=>xs=[]/\F=[]
 | (k,t)::ts,xs,F=>∃x r F1 F2,xs=(k,x)::r/\Rp K H t x F1/\Rpk K H ts r F2/\F=F1++F2
def Rpf(K:yF)(H:Hp):List (Str×T)->List (Str×V)->List Addr->Prop
 | [],xs,F=>xs=[]/\F=[]
 | (k,t)::ts,xs,F=>∃x r F1 F2,xs=(k,x)::r/\Rp K H t x F1/\Rpf K H ts r F2/\F=F1++F2
end
abbrev FO:HO->Bool
 | .lst _=>true|.dK _=>true|.dT _=>true|.ins _ _ _=>true|.ext _=>true|_=>false
abbrev Mu(H:Hp)(a:Addr):Prop:=∃o,H a=some o/\FO o=true
abbrev K1(M:List Addr)(H H':Hp):Prop:=∀b o,H b=some o->b∉M->H' b=some o
def Le.offM{H H':Hp}(s:Le H H')(M:List Addr):K1 M H H':=λb o h _=>s b o h
def K1.refl(M:List Addr)(H:Hp):K1 M H H:=λb o h _=>h
def K1.mono{M M':List Addr}{H H1:Hp}(x:K1 M H H1)(y:∀a∈M,a∈M'):K1 M' H H1:=λb o h n=>x b o h λz=>n (y b z)
def K1.upd{H:Hp}{a:Addr}{o:HO}:K1 [a] H (upd H a o):=λb u h n=>by rw[aT (by exists n)];exact h
def K1.rd{M:List Addr}{H H':Hp}{a:Addr}{o:HO}(x:K1 M H H')(n:a∉M)(h:Rd H a o):Rd H' a o:=by
 rcases h with h|⟨u,h⟩;exact .inl (x a _ h n);exact .inr ⟨u,x a _ h n⟩
def K1.sqT{K:yF}{M:List Addr}{H H':Hp}{a:Addr}{xs:List V}(x:K1 M H H')(hM:∀b∈M,Mu H b)(h:SqT K H a xs):SqT K H' a xs:=by
 rcases h with(h|⟨u,h⟩)|h;exact .inl (.inl (x a _ h λz=>by obtain⟨o,e,m⟩:=hM a z;rw[h]at e;cases e;cases m));exact .inl (.inr ⟨u,x a _ h λz=>by obtain⟨o,e,m⟩:=hM a z;rw[h]at e;cases e;cases m⟩);exact .inr h
def DAt.off{K:yF}{M:List Addr}{H H':Hp}{a:Addr}{ks:List (I×V)}(x:K1 M H H')(n:a∉M)(h:DAt K H a ks):DAt K H' a ks:=by
 obtain⟨ys,h1,h2⟩:=h;exact⟨ys,x a _ h1 n,h2⟩
def DAt.dom{K:yF}{H:Hp}{a:Addr}{ks:List (I×V)}(h:DAt K H a ks):∃o,H a=some o:=by
 obtain⟨ys,h1,h2⟩:=h;exact⟨_,h1⟩
def Rd.dom{H:Hp}{a:Addr}{u:HO}(h:Rd H a u):∃o,H a=some o:=by
 rcases h with h|⟨o,h⟩;exact⟨_,h⟩;exact⟨_,h⟩
mutual
theorem RpI.off{K:yF}{M:List Addr}{H H':Hp}(x:K1 M H H')(hM:∀b∈M,Mu H b):∀{t:I} {v:V},RpI K H t v->RpI K H' t v
 | .non,_,h=>by rw[RpI]at h|-;exact h
 | .bl _,_,h=>by rw[RpI]at h|-;exact h
 | .int _,_,h=>by rw[RpI]at h|-;exact h
 | .str _,_,h=>by rw[RpI]at h|-;exact h
 | .tup ts,_,h=>by rw[RpI]at h|-;obtain⟨a,xs,h1,h2,h3⟩:=h;exact⟨a,xs,h1,x.sqT hM h2,KT.off x hM h3⟩
 | .ls ts,_,h=>by
  rw[RpI]at h|-;obtain⟨a,o,xs,h1,h2,h3⟩:=h;exact⟨a,o,xs,h1,x a _ h2 (λz=>by obtain⟨u,e,m⟩:=hM a z;rw[h2]at e;cases e;cases m),KT.off x hM h3⟩
 | .fd ks ts,_,h=>by
  rw[RpI]at h|-;obtain⟨a,o,ys,h1,h2,h3,h4⟩:=h;exact⟨a,o,ys,h1,x a _ h2 (λz=>by obtain⟨u,e,m⟩:=hM a z;rw[h2]at e;cases e;cases m),h3,KT.off x hM h4⟩
theorem KT.off{K:yF}{M:List Addr}{H H':Hp}(x:K1 M H H')(hM:∀b∈M,Mu H b):∀{ts:List I} {xs:List V},KT K H ts xs->KT K H' ts xs
 | [],_,h=>by rw[KT]at h|-;exact h
 | t::ts,_,h=>by
  rw[KT]at h|-;obtain⟨y,r,h1,h2,h3⟩:=h;exact⟨y,r,h1,RpI.off x hM h2,KT.off x hM h3⟩
end
mutual
theorem Rp.off{K:yF}{M:List Addr}{H H':Hp}(x:K1 M H H')(hM:∀b∈M,Mu H b):∀{t:T} {v:V} {F:List Addr},(∀a∈F,a∉M)->Rp K H t v F->Rp K H' t v F
 | .im _,_,_,_,h=>by rw[Rp]at h|-;exact⟨RpI.off x hM h.1,h.2⟩
 | .tup ts,_,_,n,h=>by rw[Rp]at h|-;obtain⟨a,xs,h1,h2,h3⟩:=h;exact⟨a,xs,h1,x.sqT hM h2,Rps.off x hM n h3⟩
 | .li ts,_,_,n,h=>by
  rw[Rp]at h|-;obtain⟨a,xs,h1,h2,h3,rfl⟩:=h;exact⟨a,xs,h1,x.rd (n a ymS) h2,KT.off x hM h3,rfl⟩
 | .lst ts,_,_,n,h=>by
  rw[Rp]at h|-;obtain⟨a,xs,F',h1,h2,h3,rfl⟩:=h;exact⟨a,xs,F',h1,x.rd (n a ymS) h2,Rps.off x hM (λb hb=>n b (ymC _ hb)) h3,rfl⟩
 | .di kvs,_,_,n,h=>by
  rw[Rp]at h|-;obtain⟨a,xs,h1,h2,h3,h4,rfl⟩:=h;exact⟨a,xs,h1,h2.off x (n a ymS),KT.off x hM h3,h4,rfl⟩
 | .dc kvs,_,_,n,h=>by
  rw[Rp]at h|-;obtain⟨a,xs,F',h1,h2,h3,rfl⟩:=h;exact⟨a,xs,F',h1,h2.off x (n a ymS),Rpk.off x hM (λb hb=>n b (ymC _ hb)) h3,rfl⟩
 | .ins C fs,_,_,n,h=>by
  rw[Rp]at h|-;obtain⟨a,dx,xs,F',h1,h2,h3,rfl⟩:=h;exact⟨a,dx,xs,F',h1,x a _ h2 (n a ymS),Rpf.off x hM (λb hb=>n b (ymC _ hb)) h3,rfl⟩
theorem Rps.off{K:yF}{M:List Addr}{H H':Hp}(x:K1 M H H')(hM:∀b∈M,Mu H b):∀{ts:List T} {xs:List V} {F:List Addr},(∀a∈F,a∉M)->Rps K H ts xs F->Rps K H' ts xs F
 | [],_,_,_,h=>by rw[Rps]at h|-;exact h
 | t::ts,_,_,n,h=>by
  rw[Rps]at h|-;obtain⟨y,r,F1,F2,h1,h2,h3,rfl⟩:=h;exact⟨y,r,F1,F2,h1,Rp.off x hM (λb hb=>n b (yaL _ hb)) h2,Rps.off x hM (λb hb=>n b (yaR _ hb)) h3,rfl⟩
theorem Rpk.off{K:yF}{M:List Addr}{H H':Hp}(x:K1 M H H')(hM:∀b∈M,Mu H b):∀{ts:List (I×T)} {xs:List (I×V)} {F:List Addr},(∀a∈F,a∉M)->Rpk K H ts xs F->Rpk K H' ts xs F
 | [],_,_,_,h=>by rw[Rpk]at h|-;exact h
 | (k,t)::ts,_,_,n,h=>by
  rw[Rpk]at h|-;obtain⟨y,r,F1,F2,h1,h2,h3,rfl⟩:=h;exact⟨y,r,F1,F2,h1,Rp.off x hM (λb hb=>n b (yaL _ hb)) h2,Rpk.off x hM (λb hb=>n b (yaR _ hb)) h3,rfl⟩
theorem Rpf.off{K:yF}{M:List Addr}{H H':Hp}(x:K1 M H H')(hM:∀b∈M,Mu H b):∀{ts:List (Str×T)} {xs:List (Str×V)} {F:List Addr},(∀a∈F,a∉M)->Rpf K H ts xs F->Rpf K H' ts xs F
 | [],_,_,_,h=>by rw[Rpf]at h|-;exact h
 | (k,t)::ts,_,_,n,h=>by
  rw[Rpf]at h|-;obtain⟨y,r,F1,F2,h1,h2,h3,rfl⟩:=h;exact⟨y,r,F1,F2,h1,Rp.off x hM (λb hb=>n b (yaL _ hb)) h2,Rpf.off x hM (λb hb=>n b (yaR _ hb)) h3,rfl⟩
end
def Rps.same{K:yF}{H H':Hp}(x:Le H H'){t:List T}{v:List V}{F:List Addr}(h:Rps K H t v F):Rps K H' t v F:=Rps.off (x.offM []) ∅ ∅ h
def KT.same{K:yF}{H H':Hp}(x:Le H H'){t:List I}{v:List V}(h:KT K H t v):KT K H' t v:=KT.off (x.offM []) ∅ h
mutual
theorem Rp.dom{K:yF}{H:Hp}:∀{t:T} {v:V} {F:List Addr},Rp K H t v F->∀a∈F,∃o,H a=some o
 | .im _,_,_,h=>by rw[Rp]at h;rw[h.2];simp
 | .tup ts,_,_,h=>by rw[Rp]at h;obtain⟨_,_,_,_,h⟩:=h;exact Rps.dom h
 | .li ts,_,_,h=>by
  rw[Rp]at h;obtain⟨a,xs,h1,h2,h3,rfl⟩:=h;intro b hb;rw[ysM hb];exact h2.dom
 | .lst ts,_,_,h=>by
  rw[Rp]at h;obtain⟨a,xs,F',h1,h2,h3,rfl⟩:=h;intro b hb;rcases ycM hb with rfl|hb;exact h2.dom;exact Rps.dom h3 b hb
 | .di ts,_,_,h=>by
  rw[Rp]at h;obtain⟨a,xs,h1,h2,h3,h4,rfl⟩:=h;intro b hb;rw[ysM hb];exact h2.dom
 | .dc ts,_,_,h=>by
  rw[Rp]at h;obtain⟨a,xs,F',h1,h2,h3,rfl⟩:=h;intro b hb;rcases ycM hb with rfl|hb;exact h2.dom;exact Rpk.dom h3 b hb
 | .ins C ts,_,_,h=>by
  rw[Rp]at h;obtain⟨a,dx,xs,F',h1,h2,h3,rfl⟩:=h;intro b hb;rcases ycM hb with rfl|hb;exact⟨_,h2⟩;exact Rpf.dom h3 b hb
theorem Rps.dom{K:yF}{H:Hp}:∀{ts:List T} {xs:List V} {F:List Addr},Rps K H ts xs F->∀a∈F,∃o,H a=some o
 | [],_,_,h=>by rw[Rps]at h;rw[h.2];simp
 | t::ts,_,_,h=>by
  rw[Rps]at h;obtain⟨y,r,F1,F2,h1,h2,h3,rfl⟩:=h;intro b hb;rcases yaM hb with hb|hb;exact Rp.dom h2 b hb;exact Rps.dom h3 b hb
theorem Rpk.dom{K:yF}{H:Hp}:∀{ts:List (I×T)} {xs:List (I×V)} {F:List Addr},Rpk K H ts xs F->∀a∈F,∃o,H a=some o
 | [],_,_,h=>by rw[Rpk]at h;rw[h.2];simp
 | (k,t)::ts,_,_,h=>by
  rw[Rpk]at h;obtain⟨y,r,F1,F2,h1,h2,h3,rfl⟩:=h;intro b hb;rcases yaM hb with hb|hb;exact Rp.dom h2 b hb;exact Rpk.dom h3 b hb
theorem Rpf.dom{K:yF}{H:Hp}:∀{ts:List (Str×T)} {xs:List (Str×V)} {F:List Addr},Rpf K H ts xs F->∀a∈F,∃o,H a=some o
 | [],_,_,h=>by rw[Rpf]at h;rw[h.2];simp
 | (k,t)::ts,_,_,h=>by
  rw[Rpf]at h;obtain⟨y,r,F1,F2,h1,h2,h3,rfl⟩:=h;intro b hb;rcases yaM hb with hb|hb;exact Rp.dom h2 b hb;exact Rpf.dom h3 b hb
end
def KT.nil{K:yF}{H:Hp}:KT K H [] []:=by rw[KT]
def KT.cons{K:yF}{H:Hp}{t:I}{ts:List I}{x:V}{xs:List V}(h:RpI K H t x)(hs:KT K H ts xs):KT K H (t::ts) (x::xs):=by rw[KT];exact⟨x,xs,rfl,h,hs⟩
def KT.cons_inv{K:yF}{H:Hp}{t:I}{ts:List I}{xs:List V}(h:KT K H (t::ts) xs):∃x r,xs=x::r/\RpI K H t x/\KT K H ts r:=by rw[KT]at h;exact h
def KT.nil_inv{K:yF}{H:Hp}{xs:List V}(h:KT K H [] xs):xs=[]:=by rw[KT]at h;exact h
def KT.length{K:yF}{H:Hp}:∀{ts:List I} {xs:List V},KT K H ts xs->xs.length=ts.length
 | [],xs,h=>by rw[h.nil_inv];rfl
 | d::ds,xs,h=>by obtain⟨x,r,rfl,_,h3⟩:=h.cons_inv;rw[Gp,Gp,h3.length]
def KT.get{K:yF}{H:Hp}:∀{ts:List I} {xs:List V} {i:Nat} {t:I},KT K H ts xs->ts[i]?=some t->∃x,xs[i]?=some x/\RpI K H t x
 | [],_,_,_,_,e=>by simp at e
 | d::ds,xs,0,d',h,e=>by
  obtain⟨x,r,rfl,h2,h3⟩:=h.cons_inv;simp at e;subst e;exact⟨x,rfl,h2⟩
 | d::ds,xs,i+1,d',h,e=>by
  obtain⟨x,r,rfl,h2,h3⟩:=h.cons_inv;obtain⟨y,h4,h5⟩:=KT.get (i:=i) h3 (by exists e);exact⟨y,by simpa using h4,h5⟩
def KT.append{K:yF}{H:Hp}:∀{ds es:List I} {xs ys:List V},KT K H ds xs->KT K H es ys->KT K H (ds++es) (xs++ys)
 | [],es,xs,ys,h,h'=>by obtain rfl:=h.nil_inv;exact h'
 | d::ds,es,xs,ys,h,h'=>by
  obtain⟨x,r,rfl,h2,h3⟩:=h.cons_inv;exact KT.cons h2 (KT.append h3 h')
def KT.take{K:yF}{H:Hp}:∀{ds:List I} {xs:List V} (n:Nat),KT K H ds xs->KT K H (ds.take n) (xs.take n)
 | ds,xs,0,h=>by dsimp[IV];exact KT.nil
 | [],xs,n+1,h=>by obtain rfl:=h.nil_inv;exact KT.nil
 | d::ds,xs,n+1,h=>by
  obtain⟨x,r,rfl,h2,h3⟩:=h.cons_inv;exact KT.cons h2 (KT.take n h3)
def KT.drop{K:yF}{H:Hp}:∀{ds:List I} {xs:List V} (n:Nat),KT K H ds xs->KT K H (ds.drop n) (xs.drop n)
 | ds,xs,0,h=>h
 | [],xs,n+1,h=>by obtain rfl:=h.nil_inv;exact KT.nil
 | d::ds,xs,n+1,h=>by
  obtain⟨x,r,rfl,h2,h3⟩:=h.cons_inv;exact KT.drop n h3
def KT.one{K:yF}{H:Hp}{t:I}{x:V}(h:RpI K H t x):KT K H [t] [x]:=.cons h .nil
def KT.reverse{K:yF}{H:Hp}:∀{ds:List I} {xs:List V},KT K H ds xs->KT K H ds.reverse xs.reverse
 | [],xs,h=>by obtain rfl:=h.nil_inv;exact KT.nil
 | d::ds,xs,h=>by
  obtain⟨x,r,rfl,h2,h3⟩:=h.cons_inv;rw[Ig,Ig];exact KT.append (KT.reverse h3) (.one h2)
def KT.set{K:yF}{H:Hp}{t:I}{x:V}(hx:RpI K H t x):∀{ds:List I} {xs:List V} (n:Nat),KT K H ds xs->KT K H (ds.set n t) (xs.set n x)
 | [],xs,n,h=>by obtain rfl:=h.nil_inv;exact KT.nil
 | d::ds,xs,0,h=>by obtain⟨y,r,rfl,h2,h3⟩:=h.cons_inv;exact KT.cons hx h3
 | d::ds,xs,n+1,h=>by obtain⟨y,r,rfl,h2,h3⟩:=h.cons_inv;exact KT.cons h2 (KT.set hx n h3)
def KT.ints{K:yF}{H:Hp}:∀(ns:List Int),KT K H (ns.map I.int) (ns.map V.int)
 | []=>KT.nil
 | n::ns=>KT.cons (by rw[RpI]) (KT.ints ns)
def Rps.nil{K:yF}{H:Hp}:Rps K H [] [] []:=by rw[Rps];exact⟨rfl,rfl⟩
def Rps.cons{K:yF}{H:Hp}{t:T}{ts:List T}{x:V}{xs:List V}{F F':List Addr}(h:Rp K H t x F)(hs:Rps K H ts xs F'):Rps K H (t::ts) (x::xs) (F++F'):=by rw[Rps];exact⟨x,xs,F,F',rfl,h,hs,rfl⟩
def Rps.cons_inv{K:yF}{H:Hp}{t:T}{ts:List T}{xs:List V}{F:List Addr}(h:Rps K H (t::ts) xs F):∃x r F1 F2,xs=x::r/\Rp K H t x F1/\Rps K H ts r F2/\F=F1++F2:=by rw[Rps]at h;exact h
def Rps.nil_inv{K:yF}{H:Hp}{xs:List V}{F:List Addr}(h:Rps K H [] xs F):xs=[]/\F=[]:=by rw[Rps]at h;exact h
def Rps.length{K:yF}{H:Hp}:∀{ts:List T} {xs:List V} {F:List Addr},Rps K H ts xs F->xs.length=ts.length
 | [],xs,_,h=>by rw[h.nil_inv.1];rfl
 | d::ds,xs,_,h=>by obtain⟨x,r,_,_,rfl,_,h3,_⟩:=h.cons_inv;rw[Gp,Gp,h3.length]
def Rps.append{K:yF}{H:Hp}:∀{ds es:List T} {xs ys:List V} {F G:List Addr},Rps K H ds xs F->Rps K H es ys G->Rps K H (ds++es) (xs++ys) (F++G)
 | [],es,xs,ys,F,G,h,h'=>by obtain⟨rfl,rfl⟩:=h.nil_inv;exact h'
 | d::ds,es,xs,ys,F,G,h,h'=>by
  obtain⟨x,r,F1,F2,rfl,h2,h3,rfl⟩:=h.cons_inv;rw[Gx];exact Rps.cons h2 (Rps.append h3 h')
def Rps.at{K:yF}{H:Hp}:∀{ts:List T} {xs:List V} {F:List Addr} {i:Nat} {t:T},Rps K H ts xs F->ts[i]?=some t ->
  ∃x A G B,xs[i]?=some x/\Rp K H t x G/\F=A++G++B/\Rps K H (ts.take i) (xs.take i) A/\Rps K H (ts.drop (i+1)) (xs.drop (i+1)) B
 | [],_,_,_,_,_,e=>by simp at e
 | d::ds,xs,_,0,d',h,e=>by
  obtain⟨x,r,F1,F2,rfl,h2,h3,rfl⟩:=h.cons_inv;simp at e;subst e;exact⟨x,[],F1,F2,rfl,h2,by simp,Rps.nil,by simpa using h3⟩
 | d::ds,xs,_,i+1,d',h,e=>by
  obtain⟨x,r,F1,F2,rfl,h2,h3,rfl⟩:=h.cons_inv;obtain⟨y,A,G,B,h4,h5,h6,h7,h8⟩:=Rps.at (i:=i) h3 (by exists e);apply⟨y,F1++A,G,B,by simpa using h4,h5,by rw[h6];simp,?_,by simpa using h8⟩;simpa using Rps.cons h2 h7
def Rps.take{K:yF}{H:Hp}:∀{ds:List T} {xs:List V} {F:List Addr} (n:Nat),Rps K H ds xs F->∃G G',Rps K H (ds.take n) (xs.take n) G/\Rps K H (ds.drop n) (xs.drop n) G'/\F=G++G'
 | ds,xs,F,0,h=>⟨[],F,by dsimp[IV];exact Rps.nil,by simpa using h,rfl⟩
 | [],xs,F,n+1,h=>by obtain⟨rfl,rfl⟩:=h.nil_inv;exact⟨[],[],Rps.nil,Rps.nil,rfl⟩
 | d::ds,xs,F,n+1,h=>by
  obtain⟨x,r,F1,F2,rfl,h2,h3,rfl⟩:=h.cons_inv;obtain⟨G,G',g1,g2,rfl⟩:=Rps.take n h3;exact⟨F1++G,G',Rps.cons h2 g1,g2,by rw[Gx]⟩
def Rps.ims{K:yF}{H:Hp}:∀{is:List I} {xs:List V} {F:List Addr},Rps K H (is.map T.im) xs F↔(KT K H is xs/\F=[])
 | [],xs,F=>by rw[He,Rps,KT]
 | i::is,xs,F=>by
  rw[Gg,Rps,KT];constructor
  ·rintro⟨x,r,F1,F2,rfl,h1,h2,rfl⟩;rw[Rp]at h1;have:=Rps.ims.mp h2;exact⟨⟨x,r,rfl,h1.1,this.1⟩,by rw[h1.2,this.2];rfl⟩
  ·rintro⟨⟨x,r,rfl,h1,h2⟩,rfl⟩;exact⟨x,r,[],[],rfl,by rw[Rp];exact⟨h1,rfl⟩,Rps.ims.mpr ⟨h2,rfl⟩,rfl⟩
def iR{K:yF}{H:Hp}{i:I}{v:V}(h:RpI K H i v):Rp K H (.im i) v []:=by rw[Rp];exact⟨h,rfl⟩
def aZ{K:yF}{H:Hp}{i:I}{v:V}{F:List Addr}(h:Rp K H (.im i) v F):RpI K H i v/\F=[]:=by rw[Rp]at h;exact h
abbrev I.sc:I->Option V
 | .non=>some .non|.bl b=>some (.bl b)|.int i=>some (.int i)|.str x=>some (.str x)|.tup _=>none|.ls _=>none|.fd _ _=>none
def jL{t:I}{K:yF}{H:Hp}{v:V}(h:t.sc=some v):RpI K H t v:=by
 cases t<;>dsimp[I.sc]at h<;>cases h<;>rw[RpI]
def An{t:I}{K:yF}{H:Hp}{v w:V}(h:t.sc=some v)(r:RpI K H t w):w=v:=by
 cases t<;>dsimp[I.sc]at h<;>cases h<;>rw[RpI]at r<;>exact r
inductive Ac where
 | ix (n:Nat)|ky (k:I)|fd (f:Str)
 deriving DecidableEq
abbrev cY{κ α:Type} [DecidableEq κ]:List (κ × α)->κ->Option α
 | [],_=>none
 | (k',t)::r,k=>if k'=k then some t else cY r k
abbrev kG{κ α:Type} [DecidableEq κ]:List (κ × α)->κ->α->List (κ × α)
 | [],_,_=>[]
 | (k',t)::r,k,s=>if k'=k then(k',s)::r else(k',t)::kG r k s
abbrev jw:T->Ac->Option T
 | .lst ts,.ix n=>ts[n]?
 | .dc kvs,.ky k=>cY kvs k
 | .ins _ fs,.fd f=>cY fs f
 | _,_=>none
abbrev B4:T->Ac->T->T
 | .lst ts,.ix n,s=>.lst (ts.set n s)
 | .dc kvs,.ky k,s=>.dc (kG kvs k s)
 | .ins C fs,.fd f,s=>.ins C (kG fs f s)
 | t,_,_=>t
abbrev T.sub:T->List Ac->Option T
 | t,[]=>some t
 | t,a::p=>(jw t a).bind λs=>s.sub p
abbrev T.put:T->List Ac->T->T
 | _,[],s=>s
 | t,a::p,s=>match jw t a with
  | some u=>B4 t a (u.put p s)
  | none=>t
abbrev at1(K:yF)(H:Hp):V->Ac->V->Prop
 | v,.ix n,w=>∃a xs,v=.ref a/\H a=some (.lst xs)/\xs[n]?=some w
 | v,.ky k,w=>∃a ys,v=.ref a/\DAt K H a ys/\cY ys k=some w
 | v,.fd f,w=>∃a C dx ys,v=.ref a/\H a=some (.ins C dx ys)/\cY ys f=some w
abbrev atP(K:yF)(H:Hp):V->List Ac->V->Prop
 | v,[],w=>w=v
 | v,a::p,w=>∃u,at1 K H v a u/\atP K H u p w
def DAt.det{K:yF}{H:Hp}{a:Addr}{xs ys:List (I×V)}(h:DAt K H a xs)(g:DAt K H a ys):xs=ys:=by
 obtain⟨zs,h1,rfl⟩:=h;obtain⟨zs',h2,rfl⟩:=g;rw[h1]at h2;cases h2;rfl
def qo{K:yF}{H:Hp}{v w w':V}{a:Ac}(h:at1 K H v a w)(g:at1 K H v a w'):w=w':=by
 cases a with
 | ix n=>
  obtain⟨a,xs,rfl,h1,h2⟩:=h;obtain⟨a',xs',e,g1,g2⟩:=g;cases e;rw[h1]at g1;cases g1;rw[h2]at g2;cases g2;rfl
 | ky k=>
  obtain⟨a,xs,rfl,h1,h2⟩:=h;obtain⟨a',xs',e,g1,g2⟩:=g;cases e;have:=h1.det g1;subst this;rw[h2]at g2;cases g2;rfl
 | fd f=>
  obtain⟨a,C,dx,xs,rfl,h1,h2⟩:=h;obtain⟨a',C',dx',xs',e,g1,g2⟩:=g;cases e;rw[h1]at g1;cases g1;rw[h2]at g2;cases g2;rfl
def iy{K:yF}{H:Hp}:∀{p:List Ac} {v w w':V},atP K H v p w->atP K H v p w'->w=w'
 | [],v,w,w',h,g=>by rw[atP]at h g;rw[h,g]
 | a::p,v,w,w',h,g=>by
  rw[atP]at h g;obtain⟨u,h1,h2⟩:=h;obtain⟨u',g1,g2⟩:=g;have:=qo h1 g1;subst this;exact iy h2 g2
def qr{K:yF}{H:Hp}{a:Ac}:∀{p:List Ac} {v w u:V},atP K H v p w->at1 K H w a u->atP K H v (p++[a]) u
 | [],v,w,u,h,g=>by rw[atP]at h;subst h;exact⟨u,g,rfl⟩
 | b::p,v,w,u,h,g=>by
  rw[atP]at h;obtain⟨x,h1,h2⟩:=h;exact⟨x,h1,qr h2 g⟩
def rA{a:Ac}:∀{p:List Ac} {t s u:T},t.sub p=some s->jw s a=some u->t.sub (p++[a])=some u
 | [],t,s,u,h,g=>by rw[T.sub]at h;cases h;rw[Hy,T.sub,g];rfl
 | b::p,t,s,u,h,g=>by
  rw[T.sub]at h;rw[GL,T.sub];cases e:jw t b with
  | none=>rw[e]at h;cases h
  | some x=>rw[e]at h;exact rA (p:=p) h g
section
variable {K:yF}{H:Hp}
def Rpk.at{k:I}:∀{ts:List (I×T)} {xs:List (I×V)} {F:List Addr} {t:T},Rpk K H ts xs F->cY ts k=some t ->
  ∃x A G B,cY xs k=some x/\Rp K H t x G/\F=A++G++B/\∀H' s' G',(∀{u:T} {w:V} {F':List Addr},(∀a∈F',a∈A\/a∈B)->Rp K H u w F'->Rp K H' u w F')->Rp K H' s' x G'->Rpk K H' (kG ts k s') xs (A++G'++B)
 | [],xs,F,t,h,e=>by simp[cY]at e
 | (k',d)::ds,xs,F,t,h,e=>by
  rw[Rpk]at h;obtain⟨x,r,F1,F2,rfl,h2,h3,rfl⟩:=h;by_cases hk:k'=k
  ·subst hk;simp[cY]at e;subst e;apply⟨x,[],F1,F2,by simp[cY],h2,by simp,λH' s' G' st q=>?_⟩;dsimp[kG,if_pos];rw[Rpk];apply⟨x,r,G',F2,rfl,q,?_,by simp⟩;have:∀{ts:List (I×T)} {xs:List (I×V)} {F:List Addr},(∀a∈F,a∈F2)->Rpk K H ts xs F->Rpk K H' ts xs F:=by
    intro ts
    induction ts with
    | nil=>intro xs F _ h;rw[Rpk]at h|-;exact h
    | cons p ts ih=>
     intro xs F hF h;obtain⟨k2,t2⟩:=p;rw[Rpk]at h|-;obtain⟨y,r,G1,G2,h1,h2,h3,rfl⟩:=h;exact⟨y,r,G1,G2,h1,st (λa ha=>.inr (hF a (yaL _ ha))) h2,ih (λa ha=>hF a (yaR _ ha)) h3,rfl⟩
   exact this (λa ha=>ha) h3
  ·simp[cY,hk]at e;obtain⟨y,A,G,B,h4,h5,h6,h7⟩:=Rpk.at h3 e;apply⟨y,F1++A,G,B,by simp[cY,hk,h4],h5,by rw[h6];simp,λH' s' G' st q=>?_⟩;dsimp[kG,if_neg hk];rw[Rpk];exact⟨x,r,F1,A++G'++B,rfl,st (λa ha=>.inl (yaL _ ha)) h2,h7 H' s' G' (λha=>st (λa h=>(ha a h).imp (yaR _) id)) q,by simp⟩
def Rpf.at{k:Str}:∀{ts:List (Str×T)} {xs:List (Str×V)} {F:List Addr} {t:T},Rpf K H ts xs F->cY ts k=some t ->
  ∃x A G B,cY xs k=some x/\Rp K H t x G/\F=A++G++B/\∀H' s' G',(∀{u:T} {w:V} {F':List Addr},(∀a∈F',a∈A\/a∈B)->Rp K H u w F'->Rp K H' u w F')->Rp K H' s' x G'->Rpf K H' (kG ts k s') xs (A++G'++B)
 | [],xs,F,t,h,e=>by simp[cY]at e
 | (k',d)::ds,xs,F,t,h,e=>by
  rw[Rpf]at h;obtain⟨x,r,F1,F2,rfl,h2,h3,rfl⟩:=h;by_cases hk:k'=k
  ·subst hk;simp[cY]at e;subst e;apply⟨x,[],F1,F2,by simp[cY],h2,by simp,λH' s' G' st q=>?_⟩;dsimp[kG,if_pos];rw[Rpf];apply⟨x,r,G',F2,rfl,q,?_,by simp⟩;have:∀{ts:List (Str×T)} {xs:List (Str×V)} {F:List Addr},(∀a∈F,a∈F2)->Rpf K H ts xs F->Rpf K H' ts xs F:=by
    intro ts
    induction ts with
    | nil=>intro xs F _ h;rw[Rpf]at h|-;exact h
    | cons p ts ih=>
     intro xs F hF h;obtain⟨k2,t2⟩:=p;rw[Rpf]at h|-;obtain⟨y,r,G1,G2,h1,h2,h3,rfl⟩:=h;exact⟨y,r,G1,G2,h1,st (λa ha=>.inr (hF a (yaL _ ha))) h2,ih (λa ha=>hF a (yaR _ ha)) h3,rfl⟩
   exact this (λa ha=>ha) h3
  ·simp[cY,hk]at e;obtain⟨y,A,G,B,h4,h5,h6,h7⟩:=Rpf.at h3 e;apply⟨y,F1++A,G,B,by simp[cY,hk,h4],h5,by rw[h6];simp,λH' s' G' st q=>?_⟩;dsimp[kG,if_neg hk];rw[Rpf];exact⟨x,r,F1,A++G'++B,rfl,st (λa ha=>.inl (yaL _ ha)) h2,h7 H' s' G' (λha=>st (λa h=>(ha a h).imp (yaR _) id)) q,by simp⟩
def Mu.lst{a:Addr}{xs:List V}(m:Mu H a)(h:Rd H a (.lst xs)):H a=some (.lst xs):=by
 rcases h with h|⟨o,h⟩;exact h;obtain⟨u,e,m⟩:=m;rw[h]at e;cases e;cases m
def Rps.stay{H':Hp}:∀{ts:List T} {xs:List V} {F:List Addr},(∀{u:T} {w:V} {F':List Addr},(∀a∈F',a∈F)->Rp K H u w F'->Rp K H' u w F')->Rps K H ts xs F->Rps K H' ts xs F
 | [],_,_,_,h=>by rw[Rps]at h|-;exact h
 | t::ts,_,_,n,h=>by
  rw[Rps]at h|-;obtain⟨y,r,F1,F2,h1,h2,h3,rfl⟩:=h;exact⟨y,r,F1,F2,h1,n (λa ha=>yaL _ ha) h2,Rps.stay (λha=>n λa h=>yaR _ (ha a h)) h3,rfl⟩
def Rp.at1{t s:T}{v:V}{F:List Addr}{a:Ac}(h:Rp K H t v F)(mu:∀b∈F,Mu H b)(nd:F.Nodup)(e:jw t a=some s) :
  ∃w A G B,L2.at1 K H v a w/\Rp K H s w G/\F=A++G++B/\∀H' s' G',K1 G H H'->Rp K H' s' w G'->Rp K H' (B4 t a s') v (A++G'++B):=by
 have dj:∀{A G B:List Addr},F=A++G++B->∀b,(b∈A\/b∈B)->b∉G:=by
  intro A G B e b hb hg;rw[e]at nd;rcases hb with hb|hb;exact(Gi.mp (Gi.mp nd).1).2.2 b hb b hg rfl;exact(Gi.mp nd).2.2 b (yaR _ hg) b hb rfl
 have muG:∀{A G B:List Addr},F=A++G++B->∀b∈G,Mu H b:=λe b hb=>mu b (by rw[e];simp[hb]);cases t with
 | lst ts=>
  cases a with
  | ix n=>
   rw[Rp]at h;obtain⟨a,xs,F',rfl,h2,h3,rfl⟩:=h;have ha:=(mu a ymS).lst h2;obtain⟨x,A,G,B,h4,h5,h6,h7,h8⟩:=h3.at e;have e':a::F'=(a::A)++G++B:=by rw[h6];simp
   apply⟨x,a::A,G,B,⟨a,xs,rfl,ha,h4⟩,h5,e',λH' s' G' off q=>?_⟩;have st:∀{u:T} {w:V} {F':List Addr},(∀b∈F',b∈A\/b∈B)->Rp K H u w F'->Rp K H' u w F':=λhb r=>r.off off (muG e') (λb z=>dj e' b ((hb b z).imp (ymC _) id));show Rp K H' (.lst (ts.set n s')) (.ref a) _;rw[Rp];apply⟨a,xs,A++G'++B,rfl,.inl (off a _ ha (dj e' a (.inl ymS))),?_,by simp⟩;have hn:n<ts.length:=(Gc.mp e).1;have hn':n<xs.length:=(Gc.mp h4).1;have e1:ts.set n s'=ts.take n++s'::ts.drop (n+1):=by rw[List.set_eq_take_append_cons_drop,if_pos hn]
   have e2:xs=xs.take n++x::xs.drop (n+1):=by
    have:=Gc.mp h4;obtain⟨hl,hx⟩:=this
    conv=>lhs;rw[<-Ic n xs,Hz hl,hx]
   rw[e1,e2,Gx];exact Rps.append (Rps.stay (λhb=>st λb z=>.inl (hb b z)) h7) (Rps.cons q (Rps.stay (λhb=>st λb z=>.inr (hb b z)) h8))
  | ky k=>cases e
  | fd k=>cases e
 | dc kvs=>
  cases a with
  | ky k=>
   rw[Rp]at h;obtain⟨a,xs,F',rfl,h2,h3,rfl⟩:=h;obtain⟨x,A,G,B,h4,h5,h6,h7⟩:=h3.at e;have e':a::F'=(a::A)++G++B:=by rw[h6];simp
   apply⟨x,a::A,G,B,⟨a,xs,rfl,h2,h4⟩,h5,e',λH' s' G' off q=>?_⟩;have st:∀{u:T} {w:V} {F':List Addr},(∀b∈F',b∈A\/b∈B)->Rp K H u w F'->Rp K H' u w F':=λhb r=>r.off off (muG e') (λb z=>dj e' b ((hb b z).imp (ymC _) id));show Rp K H' (.dc (kG kvs k s')) (.ref a) _;rw[Rp];exact⟨a,xs,A++G'++B,rfl,h2.off off (dj e' a (.inl ymS)),h7 H' s' G' st q,by simp⟩
  | ix k=>cases e
  | fd k=>cases e
 | ins C fs=>
  cases a with
  | fd k=>
   rw[Rp]at h;obtain⟨a,dx,xs,F',rfl,h2,h3,rfl⟩:=h;obtain⟨x,A,G,B,h4,h5,h6,h7⟩:=h3.at e;have e':a::F'=(a::A)++G++B:=by rw[h6];simp
   apply⟨x,a::A,G,B,⟨a,C,dx,xs,rfl,h2,h4⟩,h5,e',λH' s' G' off q=>?_⟩;have st:∀{u:T} {w:V} {F':List Addr},(∀b∈F',b∈A\/b∈B)->Rp K H u w F'->Rp K H' u w F':=λhb r=>r.off off (muG e') (λb z=>dj e' b ((hb b z).imp (ymC _) id));show Rp K H' (.ins C (kG fs k s')) (.ref a) _;rw[Rp];exact⟨a,dx,xs,A++G'++B,rfl,off a _ h2 (dj e' a (.inl ymS)),h7 H' s' G' st q,by simp⟩
  | ix k=>cases e
  | ky k=>cases e
 | im _=>cases a<;>cases e
 | tup _=>cases a<;>cases e
 | li _=>cases a<;>cases e
 | di _=>cases a<;>cases e
def Rp.atP:∀{p:List Ac} {t s:T} {v:V} {F:List Addr},Rp K H t v F->(∀b∈F,Mu H b)->F.Nodup->t.sub p=some s ->
  ∃w A G B,L2.atP K H v p w/\Rp K H s w G/\F=A++G++B/\∀H' s' G',K1 G H H'->Rp K H' s' w G'->Rp K H' (t.put p s') v (A++G'++B)
 | [],t,s,v,F,h,mu,nd,e=>by
  rw[T.sub]at e;cases e;exact⟨v,[],F,[],rfl,h,by simp,λH' s' G' _ q=>by rw[T.put];simpa using q⟩
 | a::p,t,s,v,F,h,mu,nd,e=>by
  rw[T.sub]at e;cases e1:jw t a with
  | none=>rw[e1]at e;cases e
  | some u=>
   rw[e1]at e;obtain⟨w,A,G,B,h1,h2,rfl,h4⟩:=h.at1 mu nd e1;have nd2:=(Gi.mp (Gi.mp nd).1).2.1;obtain⟨x,A',G',B',g1,g2,rfl,g4⟩:=Rp.atP (p:=p) h2 (λb hb=>mu b (yaL _ (yaR _ hb))) nd2 e;apply⟨x,A++A',G',B'++B,⟨w,h1,g1⟩,g2,by simp,λH' s' G2 off q=>?_⟩;rw[T.put,e1];have:=h4 H' (u.put p s') (A'++G2++B') (off.mono λb hb=>by simp[hb]) (g4 H' s' G2 off q);exists this
end
inductive Kd where
 | ow|io (k:Nat)|vw (r:Option Nat) (p:Option (List Ac))
structure R where
 k:Kd
 t:T
structure En where
 key:Option Nat
 v:V
 r:R
structure Hd where
 e:En
 F:List Addr
structure Gm where
 K:yF
 H0:Hp
 io:List Addr
 iov:List V
abbrev Kd.isOw:Kd->Bool
 | .vw _ _=>false|_=>true
abbrev Kd.root:Kd->Option Nat
 | .vw r _=>r|_=>none
abbrev Hd.own(h:Hd):List Addr:=if h.e.r.k.isOw=true then h.F else []
abbrev K4(Γ:Gm)(H:Hp)(L:List Hd)(h:Hd):Prop:=match h.e.r.k with
 | .ow=>∀a∈h.F,Γ.H0 a=none
 | .io k=>Γ.iov[k]?=some h.e.v
 | .vw none _=>∀a∈h.F,a∉L.flatMap Hd.own
 | .vw (some j) p=>∃g∈L,g.e.key=some j/\g.e.r.k.isOw=true/\(∀a∈h.F,a∈g.F\/a∉L.flatMap Hd.own)/\∀q,p=some q->g.e.r.t.sub q=some h.e.r.t/\atP Γ.K H g.e.v q h.e.v
structure GW(Γ:Gm)(H:Hp)(L:List Hd):Prop where
 nd:(L.flatMap Hd.own).Nodup
 ad:∀a∈L.flatMap Hd.own,Mu H a/\(Γ.H0 a=none\/a ∈ Γ.io)
 rp:∀h∈L,Rp Γ.K H h.e.r.t h.e.v h.F
 kd:∀h∈L,K4 Γ H L h
 ks:(L.filterMap λh=>h.e.key).Nodup
 fr:∀b o,Γ.H0 b=some o->b∉Γ.io->H b=some o
 iol:∀a ∈ Γ.io,∃o,H a=some o
section
variable {Γ:Gm}{H H':Hp}{L L':List Hd}{h:Hd}
def K4.sub(k:K4 Γ H L h)(s:∀g∈L,g.e.r.k.isOw=true->g∈L')(o:∀a∈L'.flatMap Hd.own,a∈L.flatMap Hd.own):K4 Γ H L' h:=by
 unfold K4 at k|-;split at k;exact k;exact k;exact λa ha z=>k a ha (o a z)
 ·obtain⟨g,h1,h2,h3,h4,h5⟩:=k;exact⟨g,s g h1 h3,h2,h3,λa ha=>(h4 a ha).imp id λz w=>z (o a w),h5⟩
def GW.perm(G:GW Γ H L)(p:L.Perm L'):GW Γ H L':=
 ⟨(p.flatMap_right _).nodup_iff.mp G.nd,λa ha=>G.ad a ((p.flatMap_right _).mem_iff.mpr ha),λh hh=>G.rp h (p.mem_iff.mpr hh),λh hh=>(G.kd h (p.mem_iff.mpr hh)).sub (λg hg _=>p.mem_iff.mp hg) (λa ha=>(p.flatMap_right _).mem_iff.mpr ha),(p.filterMap _).nodup_iff.mp G.ks,G.fr,G.iol⟩
def jS(s:L'.Sublist L):(L'.flatMap Hd.own).Sublist (L.flatMap Hd.own):=by
 induction s with
 | slnil=>exact List.Sublist.refl _
 | cons a s ih=>rw[Gs];exact ih.trans (List.sublist_append_right _ _)
 | cons_cons a s ih=>rw[Gs,Gs];exact(List.Sublist.refl _).append ih
def GW.sub(G:GW Γ H L)(s:L'.Sublist L)(ro:∀h∈L',∀j,h.e.r.k.root=some j->∀g∈L,g.e.key=some j->g.e.r.k.isOw=true->g∈L'):GW Γ H L':=by
 apply⟨(jS s).nodup G.nd,λa ha=>G.ad a ((jS s).subset ha),λh hh=>G.rp h (s.subset hh),λh hh=>?_,(s.filterMap _).nodup G.ks,G.fr,G.iol⟩;have k:=G.kd h (s.subset hh);unfold K4 at k|-;split at k;exact k;exact k;exact λa ha z=>k a ha ((jS s).subset z)
 ·delta j p e;obtain⟨g,h1,h2,h3,h4,h5⟩:=k;exact⟨g,ro h hh j (by rw[e];rfl) g h1 h2 h3,h2,h3,λa ha=>(h4 a ha).imp id λz w=>z ((jS s).subset w),h5⟩
def GW.drop(G:GW Γ H (h::L))(hk:h.e.key=none):GW Γ H L:=by
 apply G.sub (Jt _ _) λg hg j _ x hx hj _=>?_;rcases ycM hx with rfl|hx;rw[hk]at hj;cases hj;exact hx
def GW.dropK(G:GW Γ H (h::L))(hr:∀g∈L,∀j,h.e.key=some j->g.e.r.k.root≠some j):GW Γ H L:=by
 apply G.sub (Jt _ _) λg hg j hj x hx hk _=>?_;rcases ycM hx with rfl|hx;exact absurd hj (hr g hg j hk);exact hx
def GW.filter(G:GW Γ H L)(p:Hd->Bool)(hp:∀h∈L,h.e.r.k.isOw=true->p h=true):GW Γ H (L.filter p):=
 G.sub Hh λh hh j hj g hg hk ho=>Gk.mpr ⟨hg,hp g hg ho⟩
def GW.new0(G:GW Γ H L){a:Addr}(e:H a=none) : Γ.H0 a=none:=by
 cases q : Γ.H0 a with
 | none=>rfl
 | some o=>
  exfalso;by_cases hio:a ∈ Γ.io;obtain⟨o,e'⟩:=G.iol a hio;rw[e]at e';cases e';have:=G.fr a o q hio;rw[e]at this;cases this
def GW.push(G:GW Γ H L){v:V}{r:R}{F:List Addr}(hr:Rp Γ.K H r.t v F)(hk:K4 Γ H L ⟨⟨none,v,r⟩,F⟩)(hF:r.k.isOw=false\/F=[]):GW Γ H (⟨⟨none,v,r⟩,F⟩::L):=by
 have e:Hd.own ⟨⟨none,v,r⟩,F⟩=[]:=by
  unfold Hd.own;rcases hF with h|h;simp[h];simp[h]
 apply⟨by rw[Gs,e];exact G.nd,λa ha=>G.ad a (by rw[Gs,e]at ha;exact ha),λx hx=>?_,λx hx=>?_,?_,G.fr,G.iol⟩
 ·rcases ycM hx with rfl|hx;exact hr;exact G.rp x hx
 ·rcases ycM hx with rfl|hx;exact hk.sub (λg hg _=>ymC _ hg) (λa ha=>by rw[Gs,e]at ha;exact ha);exact(G.kd x hx).sub (λg hg _=>ymC _ hg) (λa ha=>by rw[Gs,e]at ha;exact ha)
 ·rw[GG];exact G.ks
def GW.rekey(G:GW Γ H (h::L))(hk:h.e.key=none){key:Option Nat}(hn:∀j,key=some j->j∉L.filterMap λh=>h.e.key):GW Γ H (⟨⟨key,h.e.v,h.e.r⟩,h.F⟩::L):=by
 have eo:((⟨⟨key,h.e.v,h.e.r⟩,h.F⟩:Hd)::L).flatMap Hd.own=(h::L).flatMap Hd.own:=rfl;have ro:∀x∈L,K4 Γ H (h::L) x->K4 Γ H (⟨⟨key,h.e.v,h.e.r⟩,h.F⟩::L) x:=λx hx k=>by
  unfold K4 at k|-;split at k;exact k;exact k;exact k
  ·obtain⟨g,h1,h2,h3⟩:=k;rcases ycM h1 with rfl|h1;rw[hk]at h2;cases h2;exact⟨g,ymC _ h1,h2,h3⟩
 apply⟨G.nd,G.ad,λx hx=>?_,λx hx=>?_,?_,G.fr,G.iol⟩
 ·rcases ycM hx with rfl|hx;exact G.rp h ymS;exact G.rp x (ymC _ hx)
 ·rcases ycM hx with rfl|hx
  ·have k:=G.kd h ymS;unfold K4 at k|-;split at k;delta e;dsimp[e];exact k;delta e;dsimp[e];exact k;delta e;dsimp[e];exact k
   ·delta e;dsimp[e];obtain⟨g,h1,h2,h3⟩:=k;rcases ycM h1 with rfl|h1;rw[hk]at h2;cases h2;exact⟨g,ymC _ h1,h2,h3⟩
  ·exact ro x hx (G.kd x (ymC _ hx))
 ·have g:=G.ks;rw[GG,hk]at g;rw[GG];cases key with
  | none=>exact g
  | some j=>exact GA.mpr ⟨hn j rfl,g⟩
def iO{a:Addr}(ho:h.e.r.k.isOw=true)(ha:a∈h.F):a∈h.own:=by unfold Hd.own;rw[if_pos ho];exact ha
def GW.apart{hs:List Hd}(G:GW Γ H (hs++L))(hr:∀g∈L,∀h∈hs,∀j,h.e.key=some j->g.e.r.k.root≠some j)(ho:∀h∈hs,h.e.r.k.isOw=true):∀g∈L,∀a∈g.F,∀h∈hs,a∉h.F:=by
 intro g hg a ha h hh hah;have nd:=G.nd;rw[Gw]at nd;have h1:a∈hs.flatMap Hd.own:=Ha.mpr ⟨h,hh,iO (ho h hh) hah⟩;have out:a∉(hs++L).flatMap Hd.own->False:=λn=>n (by rw[Gw];exact yaL _ h1);have k:=G.kd g (yaR _ hg);have own:∀x∈L,x.e.r.k.isOw=true->a∈x.F->False:=λx hx ox hax=>
  (Gi.mp nd).2.2 a h1 a (Ha.mpr ⟨x,hx,iO ox hax⟩) rfl
 unfold K4 at k;split at k;delta e;exact own g hg (by rw[e];rfl) ha;delta e;exact own g hg (by rw[e];rfl) ha;exact out (k a ha)
 ·delta j p e;obtain⟨x,h1',h2,h3,h4,_⟩:=k;rcases h4 a ha with z|z
  ·rcases yaM h1' with hx|hx;exact hr g hg x hx j h2 (by rw[e];rfl);exact own x hx h3 z
  ·exact out z
def l7{M:List Addr}(off:K1 M H H'){F:List Addr}(hF:∀a∈F,a∉M)(mu:∀a∈F,Mu H a):∀{q:List Ac} {t s:T} {v w:V} {F':List Addr},(∀a∈F',a∈F)->F'.Nodup->Rp Γ.K H t v F'->t.sub q=some s->atP Γ.K H v q w->atP Γ.K H' v q w
 | [],_,_,_,_,_,_,_,_,_,h=>h
 | a::q,t,s,v,w,F',hs,nd,r,e,h=>by
  rw[atP]at h|-;obtain⟨u,h1,h2⟩:=h;rw[T.sub]at e;cases e1:jw t a with
  | none=>rw[e1]at e;cases e
  | some x=>
   rw[e1]at e;obtain⟨y,A,G,B,g1,g2,rfl,_⟩:=r.at1 (λb hb=>mu b (hs b hb)) nd e1;have:=qo h1 g1;subst this;apply⟨u,?_,l7 off hF mu (λb hb=>hs b (yaL _ (yaR _ hb))) (Gi.mp (Gi.mp nd).1).2.1 g2 e h2⟩;cases a with
   | ix n=>
    obtain⟨b,xs,rfl,z1,z2⟩:=h1;apply⟨b,xs,rfl,off b _ z1 (hF b ?_),z2⟩;cases t<;>dsimp[jw]at e1<;>try cases e1
    rw[Rp]at r;obtain⟨b',xs',F'',eb,_,_,eF⟩:=r;cases eb;exact hs b (by rw[eF];exact ymS)
   | ky n=>
    obtain⟨b,xs,rfl,z1,z2⟩:=h1;apply⟨b,xs,rfl,z1.off off (hF b ?_),z2⟩;cases t<;>dsimp[jw]at e1<;>try cases e1
    rw[Rp]at r;obtain⟨b',xs',F'',eb,_,_,eF⟩:=r;cases eb;exact hs b (by rw[eF];exact ymS)
   | fd n=>
    obtain⟨b,C,dx,xs,rfl,z1,z2⟩:=h1;apply⟨b,C,dx,xs,rfl,off b _ z1 (hF b ?_),z2⟩;cases t<;>dsimp[jw]at e1<;>try cases e1
    rw[Rp]at r;obtain⟨b',dx',xs',F'',eb,_,_,eF⟩:=r;cases eb;exact hs b (by rw[eF];exact ymS)
def GW.ndF(G:GW Γ H L)(hh:h∈L)(ho:h.e.r.k.isOw=true):h.F.Nodup:=by
 have nd:=G.nd;obtain⟨s,t,rfl⟩:=Iu hh;rw[Gw,Gs]at nd;have:=(Gi.mp (Gi.mp nd).2.1).1;unfold Hd.own at this;rw[if_pos ho]at this;exact this
def GW.muF(G:GW Γ H L)(hh:h∈L)(ho:h.e.r.k.isOw=true):∀a∈h.F,Mu H a:=λa ha=>(G.ad a (Ha.mpr ⟨h,hh,iO ho ha⟩)).1
def gc{hs:List Hd}(ho:∀h∈hs,h.e.r.k.isOw=true):hs.flatMap Hd.own=hs.flatMap (·.F):=by
 induction hs with
 | nil=>rfl
 | cons x xs ih=>
  rw[Gs,Gs,ih λh hh=>ho h (ymC _ hh)];unfold Hd.own;rw[if_pos (ho x ymS)]
def GW.step{hs:List Hd}(G:GW Γ H (hs++L))(ho:∀h∈hs,h.e.r.k.isOw=true)(hr:∀g∈L,∀h∈hs,∀j,h.e.key=some j->g.e.r.k.root≠some j)
  (off:K1 (hs.flatMap (·.F)) H H') (dom:∀a∈hs.flatMap (·.F),∃o,H' a=some o) {key:Option Nat} {v:V} {r:R} {F:List Addr} (nd:F.Nodup) (hF:∀a∈F,(a∈hs.flatMap (·.F)\/H a=none)/\Mu H' a) (hp:Rp Γ.K H' r.t v F)
  (hk:(r.k=.ow/\∀h∈hs,h.e.r.k=.ow) \/ ∃k,r.k=.io k/\Γ.iov[k]?=some v) (hkey:∀j,key=some j->j∉L.filterMap λh=>h.e.key):GW Γ H' (⟨⟨key,v,r⟩,F⟩::L):=by
 have iow:r.k.isOw=true:=by rcases hk with⟨e,_⟩|⟨k,e,_⟩<;>rw[e]<;>rfl
 have eo:=gc ho;have G':=G.nd;rw[Gw,eo]at G';have nd1:=(Gi.mp G').2.1;have dj:=(Gi.mp G').2.2;have adL:∀a∈L.flatMap Hd.own,Mu H a/\(Γ.H0 a=none\/a ∈ Γ.io):=λa ha=>G.ad a (by rw[Gw];exact yaR _ ha);have adM:∀a∈hs.flatMap (·.F),Mu H a/\(Γ.H0 a=none\/a ∈ Γ.io):=λa ha=>G.ad a (by rw[Gw,eo];exact yaL _ ha);have ap:=G.apart hr ho;have apM:∀g∈L,∀a∈g.F,a∉hs.flatMap (·.F):=λg hg a ha hm=>by
  obtain⟨h,hh,hah⟩:=Ha.mp hm;exact ap g hg a ha h hh hah
 have eF:Hd.own ⟨⟨key,v,r⟩,F⟩=F:=by unfold Hd.own;rw[if_pos iow]
 have f0:∀a∈F,Γ.H0 a=none\/a ∈ Γ.io:=λa ha=>by
  rcases(hF a ha).1 with z|z;exact(adM a z).2;exact .inl (G.new0 z)
 apply⟨?_,λa ha=>?_,λx hx=>?_,λx hx=>?_,?_,λb o e n=>?_,λa ha=>?_⟩
 ·rw[Gs,eF];apply Gi.mpr ⟨nd,nd1,λa ha b hb=>?_⟩;rintro rfl;rcases(hF a ha).1 with z|z;exact dj a z a hb rfl
  ·obtain⟨o,e,_⟩:=(adL a hb).1;rw[z]at e;cases e
 ·rw[Gs,eF]at ha;rcases yaM ha with ha|ha;exact⟨(hF a ha).2,f0 a ha⟩
  ·obtain⟨⟨o,e,m⟩,z⟩:=adL a ha;exact⟨⟨o,off a o e λhm=>dj a hm a ha rfl,m⟩,z⟩
 ·rcases ycM hx with rfl|hx;exact hp;exact(G.rp x (yaR _ hx)).off off (λa ha=>(adM a ha).1) (apM x hx)
 ·rcases ycM hx with rfl|hx
  ·unfold K4;rcases hk with⟨e,eh⟩|⟨k,e,ek⟩
   ·dsimp[e];intro a ha;rcases(hF a ha).1 with z|z
    ·obtain⟨h,hh,hah⟩:=Ha.mp z;have q:=G.kd h (yaL _ hh);unfold K4 at q;rw[eh h hh]at q;exact q a hah
    ·exact G.new0 z
   ·dsimp[e];exact ek
  ·have k:=G.kd x (yaR _ hx);have st:∀a∈x.F,a∉(hs++L).flatMap Hd.own->a∉((⟨⟨key,v,r⟩,F⟩:Hd)::L).flatMap Hd.own:=λa ha n z=>by
    rw[Gs,eF]at z;rcases yaM z with z|z
    ·rcases(hF a z).1 with w|w;exact n (by rw[Gw,eo];exact yaL _ w)
     ·obtain⟨o,e⟩:=(G.rp x (yaR _ hx)).dom a ha;rw[w]at e;cases e
    ·exact n (by rw[Gw];exact yaR _ z)
   unfold K4 at k|-;split at k;exact k;exact k;exact λa ha=>st a ha (k a ha)
   ·delta j p e;obtain⟨g,h1,h2,h3,h4,h5⟩:=k;rcases yaM h1 with hg|hg;exact absurd (by rw[e];rfl) (hr x hx g hg j h2)
    ·apply⟨g,ymC _ hg,h2,h3,λa ha=>(h4 a ha).imp id (st a ha),λq hq=>⟨(h5 q hq).1,?_⟩⟩;exact l7 off (F:=g.F) (apM g hg) (G.muF (yaR _ hg) h3) (λa ha=>ha) (G.ndF (yaR _ hg) h3) (G.rp g (yaR _ hg)) (h5 q hq).1 (h5 q hq).2
 ·have g:=G.ks;rw[GH]at g;have g2:=(Gi.mp g).2.1;rw[GG];cases key with
  | none=>exact g2
  | some j=>exact GA.mpr ⟨hkey j rfl,g2⟩
 ·apply off b o (G.fr b o e n) λhm=>?_;rcases(adM b hm).2 with z|z;rw[z]at e;cases e;exact n z
 ·obtain⟨o,e⟩:=G.iol a ha;by_cases hm:a∈hs.flatMap (·.F);exact dom a hm;exact⟨o,off a o e hm⟩
end
def lL{α β:Type}{f : α->β}{N M:List β}(p:N.Perm M):∀L:List α,L.map f=N->∃L',L.Perm L'/\L'.map f=M:=by
 induction p with
 | nil=>intro L h;exact⟨L,List.Perm.refl _,h⟩
 | cons x p ih=>
  intro L h;cases L with
  | nil=>cases h
  | cons a L=>
   rw[Gg,HD.injEq]at h;obtain⟨L',h1,h2⟩:=ih L h.2;exact⟨a::L',h1.cons a,by rw[Gg,h.1,h2]⟩
 | swap x y l=>
  intro L h;cases L with
  | nil=>cases h
  | cons a L=>
   cases L with
   | nil=>cases h
   | cons b L=>
    dsimp[Gg,HD.injEq]at h;exact⟨b::a::L,List.Perm.swap _ _ _,by simp[h.1,h.2.1,h.2.2]⟩
 | trans p q ih1 ih2=>
  intro L h;obtain⟨L1,h1,h2⟩:=ih1 L h;obtain⟨L2,h3,h4⟩:=ih2 L1 h2;exact⟨L2,h1.trans h3,h4⟩
abbrev KY(Γ:Gm)(H:Hp)(X:List En):Prop:=∃L,GW Γ H L/\L.map (·.e)=X
section
variable {Γ:Gm}{H H':Hp}{X Y:List En}{e:En}
def KY.perm(S:KY Γ H X)(p:X.Perm Y):KY Γ H Y:=by
 obtain⟨L,g,e⟩:=S;obtain⟨L',h1,h2⟩:=lL p L e;exact⟨L',g.perm h1,h2⟩
def aN{α β:Type}{f : α->β}{L:List α}{b : β}{X:List β}(h:L.map f=b::X):∃a L',L=a::L'/\f a=b/\L'.map f=X:=by
 cases L with
 | nil=>cases h
 | cons a L=>rw[Gg,HD.injEq]at h;exact⟨a,L,rfl,h.1,h.2⟩
def eD{α β:Type}{f : α->β}:∀{A:List β} {L:List α} {B:List β},L.map f=A++B->∃L1 L2,L=L1++L2/\L1.map f=A/\L2.map f=B
 | [],L,B,h=>⟨[],L,rfl,rfl,h⟩
 | a::A,L,B,h=>by
  obtain⟨x,L',rfl,h1,h2⟩:=aN h;obtain⟨L1,L2,rfl,h3,h4⟩:=eD h2;exact⟨x::L1,L2,rfl,by rw[Gg,h1,h3],h4⟩
def KY.drop(S:KY Γ H (e::X))(hk:e.key=none):KY Γ H X:=by
 obtain⟨L,g,h⟩:=S;obtain⟨x,L',rfl,h1,h2⟩:=aN h;subst h1;exact⟨L',g.drop hk,h2⟩
def KY.dropK(S:KY Γ H (e::X))(hr:∀g∈X,∀j,e.key=some j->g.r.k.root≠some j):KY Γ H X:=by
 obtain⟨L,g,h⟩:=S;obtain⟨x,L',rfl,h1,h2⟩:=aN h;subst h1;apply⟨L',g.dropK λy hy j hj=>hr y.e (by rw[<-h2];exact GS hy) j hj,h2⟩
abbrev aE(M:List Nat) (e:En):Bool:=match e.r.k.root with
 | some j=>!M.contains j
 | none=>true
abbrev ah(M:List Nat) (E:List En):List En:=E.filter (aE M)
def sf(e:En):aE [] e=true:=by unfold aE;split<;>rfl
def cf(E:List En):ah [] E=E:=by unfold ah;rw[Hw];intro a _;exact sf a
def az(M:List Nat)(A B:List En):ah M (A++B)=ah M A++ah M B:=G3 ..
def lx(M N:List Nat)(e:En):aE (M++N) e=(aE N e&&aE M e):=by
 unfold aE;split
 ·rename_i j _;by_cases h1:j∈M<;>by_cases h2:j∈N<;>simp[h1,h2]
 ·rfl
def ae(M N:List Nat)(E:List En):ah N (ah M E)=ah (M++N) E:=by
 unfold ah;rw[Iv];congr 1;funext e;rw[lx]
def KY.kill(S:KY Γ H X)(M:List Nat):KY Γ H (ah M X):=by
 obtain⟨L,g,h⟩:=S;apply⟨L.filter λx=>aE M x.e,g.filter _ λx _ ho=>?_,?_⟩
 ·unfold aE;cases k:x.e.r.k with
  | vw r p=>rw[k]at ho;cases ho
  | ow=>rfl
  | io _=>rfl
 ·rw[<-h];unfold ah;rw[Ir];rfl
def KY.push(S:KY Γ H X){v:V}{i:I}(h:RpI Γ.K H i v):KY Γ H (⟨none,v,⟨.ow,.im i⟩⟩::X):=by
 obtain⟨L,g,hX⟩:=S;exact⟨_,g.push (v:=v) (r:=⟨.ow,.im i⟩) (iR h) (λa ha=>by cases ha) (.inr rfl),by rw[Gg,hX]⟩
def KY.rekey(S:KY Γ H (e::X))(hk:e.key=none){key:Option Nat}(hn:∀j,key=some j->∀g∈X,g.key≠some j):KY Γ H (⟨key,e.v,e.r⟩::X):=by
 obtain⟨L,g,h⟩:=S;obtain⟨x,L',rfl,h1,h2⟩:=aN h;subst h1;apply⟨_,g.rekey hk (key:=key) λj hj hm=>?_,by rw[Gg,h2]⟩;obtain⟨y,hy,hyk⟩:=GX.mp hm;exact hn j hj y.e (by rw[<-h2];exact GS hy) hyk
def KY.rd(S:KY Γ H X)(he:e∈X):∃F,Rp Γ.K H e.r.t e.v F:=by
 obtain⟨L,g,rfl⟩:=S;obtain⟨h,hh,rfl⟩:=Gn.mp he;exact⟨h.F,g.rp h hh⟩
def KY.view(S:KY Γ H X)(he:e∈X){j:Nat}(hk:e.key=some j)(ho:e.r.k.isOw=true):KY Γ H (⟨none,e.v,⟨.vw (some j) (some []),e.r.t⟩⟩::X):=by
 obtain⟨L,g,rfl⟩:=S;obtain⟨h,hh,rfl⟩:=Gn.mp he;exact⟨_,g.push (v:=h.e.v) (r:=⟨.vw (some j) (some []),h.e.r.t⟩) (g.rp h hh) ⟨h,hh,hk,ho,λa ha=>.inl ha,λq hq=>by cases hq;exact⟨rfl,rfl⟩⟩ (.inl rfl),rfl⟩
def KY.copy(S:KY Γ H X)(he:e∈X)(ho:e.r.k.isOw=false):KY Γ H (⟨none,e.v,e.r⟩::X):=by
 obtain⟨L,g,rfl⟩:=S;obtain⟨h,hh,rfl⟩:=Gn.mp he;exact⟨_,g.push (v:=h.e.v) (r:=h.e.r) (F:=h.F) (g.rp h hh) (g.kd h hh) (.inl ho),rfl⟩
def KY.part(S:KY Γ H X)(he:e∈X){ro:Option Nat}{p:Option (List Ac)}(ho:e.r.k=.vw ro p){P:V->Prop}{s:T}(hp:∀F,Rp Γ.K H e.r.t e.v F->∃w G,P w/\Rp Γ.K H s w G/\∀a∈G,a∈F):∃w,P w/\KY Γ H (⟨none,w,⟨.vw ro none,s⟩⟩::X):=by
 obtain⟨L,g,rfl⟩:=S;obtain⟨h,hh,rfl⟩:=Gn.mp he;obtain⟨w,G,h1,h2,h3⟩:=hp h.F (g.rp h hh);apply⟨w,h1,_,g.push (v:=w) (r:=⟨.vw ro none,s⟩) (F:=G) h2 ?_ (.inl rfl),rfl⟩;have k:=g.kd h hh;unfold K4 at k|-;rw[ho]at k;cases ro with
 | none=>exact λa ha=>k a (h3 a ha)
 | some j=>
  obtain⟨x,x1,x2,x3,x4,x5⟩:=k;exact⟨x,x1,x2,x3,λa ha=>x4 a (h3 a ha),λq hq=>by cases hq⟩
def KY.partP(S:KY Γ H X)(he:e∈X){j:Nat}{q:List Ac}(ho:e.r.k=.vw (some j) (some q)){a:Ac}{s:T}(hs:jw e.r.t a=some s):∃w,at1 Γ.K H e.v a w/\KY Γ H (⟨none,w,⟨.vw (some j) (some (q++[a])),s⟩⟩::X):=by
 obtain⟨L,g,rfl⟩:=S;obtain⟨h,hh,rfl⟩:=Gn.mp he;have k:=g.kd h hh;unfold K4 at k;rw[ho]at k;obtain⟨x,x1,x2,x3,x4,x5⟩:=k;obtain⟨y1,y2⟩:=x5 q rfl;have ms:x.e.r.t.sub (q++[a])=some s:=rA y1 hs;obtain⟨w,A,G,B,z1,z2,z3,_⟩:=(g.rp x x1).atP (g.muF x1 x3) (g.ndF x1 x3) ms;obtain⟨w0,A0,G0,B0,u1,u2,u3,_⟩:=(g.rp x x1).atP (g.muF x1 x3) (g.ndF x1 x3) y1;have ew:=iy u1 y2;subst ew;have nG:G0.Nodup:=by
  have:=g.ndF x1 x3;rw[u3]at this;exact(Gi.mp (Gi.mp this).1).2.1
 have mG:∀b∈G0,Mu H b:=λb hb=>g.muF x1 x3 b (by rw[u3];exact yaL _ (yaR _ hb));obtain⟨w',A',G',B',v1,v2,v3,_⟩:=u2.at1 mG nG hs;have e2:=iy (qr u1 v1) z1;subst e2;apply⟨w',v1,_,g.push (v:=w') (r:=⟨.vw (some j) (some (q++[a])),s⟩) (F:=G) z2 ⟨x,x1,x2,x3,λb hb=>.inl (by rw[z3];exact yaL _ (yaR _ hb)),λq' hq=>?_⟩ (.inl rfl),rfl⟩;cases hq;exact⟨ms,z1⟩
abbrev au:List V->List T->List En
 | v::vs,t::ts=>⟨none,v,⟨.ow,t⟩⟩::au vs ts
 | _,_=>[]
def kO:∀{vs:List V} {ts:List T} {L:List Hd},vs.length=ts.length->L.map (·.e)=au vs ts->(∀h∈L,Rp Γ.K H h.e.r.t h.e.v h.F)->Rps Γ.K H ts vs (L.flatMap (·.F))/\∀h∈L,h.e.r.k=.ow/\h.e.key=none
 | [],[],L,_,h,_=>by
  have:L=[]:=Im.mp h;subst this;exact⟨Rps.nil,by simp⟩
 | v::vs,t::ts,L,hl,h,hr=>by
  obtain⟨x,L',rfl,h1,h2⟩:=aN h;obtain⟨r1,r2⟩:=kO (vs:=vs) (ts:=ts) (by exists hl) h2 λy hy=>hr y (ymC _ hy);have rx:=hr x ymS;rw[h1]at rx;rw[Gs];apply⟨Rps.cons rx r1,λy hy=>?_⟩;rcases ycM hy with rfl|hy;rw[h1];exact⟨rfl,rfl⟩;exact r2 y hy
 | [],_::_,_,h,_,_=>by cases h
 | _::_,[],_,h,_,_=>by cases h
def KY.use{vs:List V}{ts:List T}(S:KY Γ H (au vs ts++X))(hl:vs.length=ts.length):∃F,Rps Γ.K H ts vs F/\F.Nodup/\(∀a∈F,Mu H a) /\
  ∀H' v t F',K1 F H H'->(∀a∈F,∃o,H' a=some o)->F'.Nodup->(∀a∈F',(a∈F\/H a=none)/\Mu H' a)->Rp Γ.K H' t v F'->KY Γ H' (⟨none,v,⟨.ow,t⟩⟩::X):=by
 obtain⟨L,g,h⟩:=S;obtain⟨hs,L2,rfl,h1,h2⟩:=eD h;obtain⟨r1,r2⟩:=kO hl h1 λy hy=>g.rp y (yaL _ hy);have ho:∀h∈hs,h.e.r.k.isOw=true:=λh hh=>by rw[(r2 h hh).1];rfl
 have nd:=g.nd;rw[Gw,gc ho]at nd;apply⟨_,r1,(Gi.mp nd).1,λa ha=>(g.ad a (by rw[Gw,gc ho];exact yaL _ ha)).1,λH' v t F' off dom nd' hF rp=>?_⟩;apply⟨_,g.step ho (λx _ y hy j hj=>by rw[(r2 y hy).2]at hj;cases hj) off dom (key:=none) (v:=v) (r:=⟨.ow,t⟩) nd' hF rp (.inl ⟨rfl,λy hy=>(r2 y hy).1⟩) (λj hj=>by cases hj),by rw[Gg,h2]⟩
def KY.mutP{vs:List V}{ts:List T}{p:List Ac}{s:T}(S:KY Γ H (e::au vs ts++X))(hl:vs.length=ts.length)(ho:e.r.k.isOw=true)(hr:∀g∈X,∀j,e.key=some j->g.r.k.root≠some j)(hs:e.r.t.sub p=some s)(hX:∀j,e.key=some j->∀g∈X,g.key≠some j) :
  ∃w G F,atP Γ.K H e.v p w/\Rp Γ.K H s w G/\Rps Γ.K H ts vs F/\(G++F).Nodup/\(∀a∈G++F,Mu H a) /\
  ∀H' s' G',K1 G H H'->(∀a∈G,∃o,H' a=some o)->G'.Nodup->(∀a∈G',(a∈G++F\/H a=none)/\Mu H' a)->Rp Γ.K H' s' w G'->KY Γ H' (⟨e.key,e.v,⟨e.r.k,e.r.t.put p s'⟩⟩::X):=by
 obtain⟨L,g,h⟩:=S;rw[GL]at h;obtain⟨x,L',rfl,h1,h2⟩:=aN h;obtain⟨hs',L2,rfl,h3,h4⟩:=eD h2;subst h1;obtain⟨r1,r2⟩:=kO hl h3 λy hy=>g.rp y (ymC _ (yaL _ hy));have ho':∀h∈x::hs',h.e.r.k.isOw=true:=λh hh=>by
  rcases ycM hh with rfl|hh;exact ho;rw[(r2 h hh).1];rfl
 have nx:=g.ndF ymS ho;obtain⟨w,A,G,B,z1,z2,z3,z4⟩:=(g.rp x ymS).atP (g.muF ymS ho) nx hs;have nd:=g.nd;rw[show x::(hs'++L2)=(x::hs')++L2 from rfl,Gw,gc ho']at nd;have nd1:=(Gi.mp nd).1;rw[Gs,z3]at nd1;have mu:∀a∈(x::hs').flatMap (·.F),Mu H a:=λa ha=>(g.ad a (by rw[show x::(hs'++L2)=(x::hs')++L2 from rfl,Gw,gc ho'];exact yaL _ ha)).1;have inM:∀a,a∈G++hs'.flatMap (·.F)->a∈(x::hs').flatMap (·.F):=λa ha=>by
  rw[Gs,z3];rcases yaM ha with z|z;exact yaL _ (yaL _ (yaR _ z));exact yaR _ z
 have ndA:=(Gi.mp nd1);have ndG:(G++hs'.flatMap (·.F)).Nodup:=Gi.mpr ⟨(Gi.mp (Gi.mp ndA.1).1).2.1,ndA.2.1,λa ha b hb=>ndA.2.2 a (yaL _ (yaR _ ha)) b hb⟩;apply⟨w,G,hs'.flatMap (·.F),z1,z2,r1,ndG,λa ha=>mu a (inM a ha),λH' s' G' off dom nd' hG rp=>?_⟩;have apAB:∀a,(a∈A\/a∈B)->a∉G++hs'.flatMap (·.F):=λa ha hm=>by
  rcases yaM hm with z|z
  ·rcases ha with q|q;exact(Gi.mp (Gi.mp ndA.1).1).2.2 a q a z rfl;exact(Gi.mp ndA.1).2.2 a (yaR _ z) a q rfl
  ·rcases ha with q|q;exact ndA.2.2 a (yaL _ (yaL _ q)) a z rfl;exact ndA.2.2 a (yaR _ q) a z rfl
 have rp':=z4 H' s' G' off rp;apply⟨_,g.step (hs:=x::hs') (L:=L2) ho' (λy hy z hz j hj=>?_) (off.mono λa ha=>inM a (yaL _ ha)) (λa ha=>?_) (key:=x.e.key) (v:=x.e.v) (r:=⟨x.e.r.k,x.e.r.t.put p s'⟩) (F:=A++G'++B) ?_ (λa ha=>?_) rp' ?_ (λj hj hm=>?_),by rw[Gg,h4]⟩
 ·rcases ycM hz with rfl|hz;exact hr y.e (by rw[<-h4];exact GS hy) j hj;rw[(r2 z hz).2]at hj;cases hj
 ·by_cases hm:a∈G;exact dom a hm
  ·obtain⟨o,e1,_⟩:=mu a ha;exact⟨o,off a o e1 hm⟩
 ·have ab:=Gi.mp ndA.1;have aG:=Gi.mp ab.1;have nG:∀a,(a∈A\/a∈B)->a∉G':=λa ha hg=>by
   rcases(hG a hg).1 with z|z;exact apAB a ha z
   ·have:Mu H a:=mu a (by
     rw[Gs,z3];rcases ha with q|q;exact yaL _ (yaL _ (yaL _ q));exact yaL _ (yaR _ q))
    obtain⟨o,e1,_⟩:=this;rw[z]at e1;cases e1
  apply Gi.mpr ⟨Gi.mpr ⟨aG.1,nd',λa ha b hb e=>nG a (.inl ha) (e▸hb)⟩,ab.2.1,λa ha b hb e=>?_⟩;subst e;rcases yaM ha with z|z;exact ab.2.2 a (yaL _ z) a hb rfl;exact nG a (.inr hb) z
 ·have old:a∈A\/a∈B->(a∈(x::hs').flatMap (·.F)\/H a=none)/\Mu H' a:=λq=>by
   have hm:a∈(x::hs').flatMap (·.F):=by
    rw[Gs,z3];rcases q with q|q;exact yaL _ (yaL _ (yaL _ q));exact yaL _ (yaR _ q)
   obtain⟨o,e1,m1⟩:=mu a hm;exact⟨.inl hm,o,off a o e1 (λz=>apAB a q (yaL _ z)),m1⟩
  rcases yaM ha with z|z
  ·rcases yaM z with z|z;exact old (.inl z);exact⟨(hG a z).1.imp (inM a) id,(hG a z).2⟩
  ·exact old (.inr z)
 ·have k:=g.kd x ymS;unfold K4 at k;cases ek:x.e.r.k with
  | ow=>
   apply .inl ⟨rfl,λy hy=>?_⟩;rcases ycM hy with rfl|hy;exact ek;exact(r2 y hy).1
  | io n=>rw[ek]at k;exact .inr ⟨n,rfl,k⟩
  | vw a b=>rw[ek]at ho;cases ho
 ·obtain⟨y,hy,hyk⟩:=GX.mp hm;exact hX j hj y.e (by rw[<-h4];exact GS hy) hyk
end
protected def Rho:=List (Option R)
abbrev aD:Nat->List (Option V)->Rho->List En
 | i,some v::Z,some r::O=>⟨some i,v,r⟩::aD (i+1) Z O
 | i,none::Z,_::O=>aD (i+1) Z O
 | i,some _::Z,none::O=>aD (i+1) Z O
 | _,_,_=>[]
def bB{r:R}:∀{k:Nat} {Z:List (Option V)} {O:Rho} {i:Nat} {v:V},Z[i]?=some (some v)->O[i]?=some (some r)->(aD k Z O).Perm (⟨some (k+i),v,r⟩::aD k Z (O.set i none))
 | _,[],_,_,_,h,_=>by simp at h
 | _,_::_,[],_,_,_,h=>by simp at h
 | k,x::Z,y::O,0,v,h1,h2=>by
  simp at h1 h2;subst h1 h2;simp[aD]
 | k,x::Z,y::O,i+1,v,h1,h2=>by
  have ih:=bB (k:=k+1) (Z:=Z) (O:=O) (i:=i) (v:=v) (r:=r) (by exists h1) (by exists h2);rw[show k+1+i=k+(i+1) by omega]at ih;cases x with
  | none=>simpa[aD]using ih
  | some x=>
   cases y with
   | none=>simpa[aD]using ih
   | some y=>
    dsimp[aD,JS];exact(List.Perm.cons _ ih).trans (List.Perm.swap _ _ _)
def lv:∀{k:Nat} {Z:List (Option V)} {O:Rho} {i:Nat} {x:Option V},aD k (Z.set i x) (O.set i none)=aD k Z (O.set i none)
 | _,[],O,_,_=>rfl
 | _,x::Z,[],i,y=>by cases i<;>cases x<;>simp[aD]<;>cases y<;>simp[aD]
 | _,x::Z,y::O,0,z=>by cases x<;>cases z<;>simp[aD]
 | k,x::Z,y::O,i+1,z=>by
  have ih:=lv (k:=k+1) (Z:=Z) (O:=O) (i:=i) (x:=z);cases x<;>cases y<;>simp[aD,ih]
def fY{k:Nat}{Z:List (Option V)}{O:Rho}{i:Nat}{v:V}{r:R}(h1:i<Z.length)(h2:i < O.length):(aD k (Z.set i (some v)) (O.set i (some r))).Perm (⟨some (k+i),v,r⟩::aD k Z (O.set i none)):=by
 have:=bB (k:=k) (Z:=Z.set i (some v)) (O:=O.set i (some r)) (i:=i) (v:=v) (r:=r) (by simp[h1]) (by simp[h2]);rw[List.set_set,lv]at this;exact this
def cX{e:En}:∀{k:Nat} {Z:List (Option V)} {O:Rho},e∈aD k Z O->∃i,e.key=some (k+i)/\O[i]?=some (some e.r)/\Z[i]?=some (some e.v)
 | _,[],_,h=>by simp[aD]at h
 | _,x::_,[],h=>by cases x<;>simp[aD]at h
 | k,x::Z,y::O,h=>by
  have go:e∈aD (k+1) Z O->∃i,e.key=some (k+i)/\(y::O)[i]?=some (some e.r)/\(x::Z)[i]?=some (some e.v):=λh=>by
   obtain⟨i,h1,h2,h3⟩:=cX h;exact⟨i+1,by rw[h1];congr 1;omega,by simpa using h2,by simpa using h3⟩
  cases x with
  | none=>dsimp[aD]at h;exact go h
  | some x=>
   cases y with
   | none=>dsimp[aD]at h;exact go h
   | some y=>
    dsimp[aD]at h;rcases ycM h with rfl|h;exact⟨0,rfl,rfl,rfl⟩;exact go h
abbrev dq(M:List Nat) (r:R):Bool:=match r.k.root with
 | some j=>!M.contains j
 | none=>true
abbrev cq(M:List Nat):Option R->Option R
 | some r=>if dq M r=true then some r else none
 | none=>none
abbrev ao(M:List Nat) (O:Rho):Rho:=O.map (cq M)
def aP(M:List Nat)(O:Rho):(ao M O).length=O.length:=by unfold ao;rw[Ge]
def eV(M:List Nat):∀{k:Nat} {Z:List (Option V)} {O:Rho},aD k Z (ao M O)=ah M (aD k Z O)
 | _,[],_=>rfl
 | _,x::_,[]=>by cases x<;>rfl
 | k,x::Z,y::O=>by
  have ih:=eV M (k:=k+1) (Z:=Z) (O:=O);have e:ao M (y::O)=cq M y::ao M O:=rfl;rw[e];cases x with
  | none=>simpa[aD]using ih
  | some v=>
   cases y with
   | none=>simpa[aD,cq]using ih
   | some r=>
    have hk:aE M ⟨some k,v,r⟩=dq M r:=rfl;cases q:dq M r with
    | true=>dsimp[aD,cq,q,if_true,ah,GM,hk,ih]
    | false=>
     dsimp[aD,cq,q,ah,GM,hk,ih];simp[aD,ih,ah]
def lz{M:List Nat}{O:Rho}{i:Nat}{r:R}(h:(ao M O)[i]?=some (some r)) : O[i]?=some (some r):=by
 unfold ao at h;rw[Go]at h;cases q : O[i]? with
 | none=>rw[q]at h;cases h
 | some o=>
  rw[q]at h;cases o with
  | none=>cases h
  | some x=>
   have h':cq M (some x)=some r:=by exists h
   dsimp[cq]at h';split at h';rw[GK.inj h'];exact absurd h' ∅
def sj{M:List Nat}{O:Rho}{i:Nat}{r:R}(h : O[i]?=some (some r))(ho:r.k.isOw=true):(ao M O)[i]?=some (some r):=by
 unfold ao;rw[Go,h];have:dq M r=true:=by
  unfold dq;cases e:r.k with
  | vw a b=>rw[e]at ho;cases ho
  | ow=>rfl
  | io _=>rfl
 simp[cq,this]
structure Sim(Γ:Gm)(H:Hp)(O:Rho)(Z:St)(E:List En):Prop where
 sl:KY Γ H (E++aD 0 Z O)
 al:∀(i:Nat) r,O[i]?=some (some r)->∃v,Z[i]?=some (some v)
 len:Z.length=O.length
 hi:∀e∈E,∀j,e.key=some j->O.length<=j
section
variable {Γ:Gm}{H H':Hp}{O:Rho}{Z:St}{E E':List En}{e:En}{r:R}{v w x:V}{i j:Nat}{t s:T}
def Sim.perm(S:Sim Γ H O Z E)(p:E.Perm E'):Sim Γ H O Z E':=⟨S.sl.perm (p.append_right _),S.al,S.len,λe he=>S.hi e (p.mem_iff.mpr he)⟩
def Sim.drop(S:Sim Γ H O Z (e::E))(hk:e.key=none):Sim Γ H O Z E:=⟨S.sl.drop hk,S.al,S.len,λx hx=>S.hi x (ymC _ hx)⟩
def Sim.swap{f:En}(S:Sim Γ H O Z (e::f::E)):Sim Γ H O Z (f::e::E):=S.perm (List.Perm.swap _ _ _)
def Sim.imm(S:Sim Γ H O Z E){i:I}(h:RpI Γ.K H i v):Sim Γ H O Z (⟨none,v,⟨.ow,.im i⟩⟩::E):=
 ⟨S.sl.push h,S.al,S.len,λx hx j hj=>by
  rcases ycM hx with rfl|hx;cases hj;exact S.hi x hx j hj⟩
def Sim.rd(S:Sim Γ H O Z E)(he:e∈E):∃F,Rp Γ.K H e.r.t e.v F:=S.sl.rd (yaL _ he)
def Sim.slot(S:Sim Γ H O Z E)(h : O[i]?=some (some r)):∃v,Z[i]?=some (some v)/\(⟨some i,v,r⟩:En)∈E++aD 0 Z O:=by
 obtain⟨v,hv⟩:=S.al i r h;apply⟨v,hv,yaR _ ((bB hv h).mem_iff.mpr ?_)⟩;rw[Hb];exact ymS
abbrev rdR(i:Nat):R->R
 | ⟨.ow,.im x⟩=>⟨.ow,.im x⟩
 | ⟨.vw a b,t⟩=>⟨.vw a b,t⟩
 | ⟨_,t⟩=>⟨.vw (some i) (some []),t⟩
def Sim.cons(S:Sim Γ H O Z E)(h:KY Γ H' (⟨none,v,r⟩::(E++aD 0 Z O))):Sim Γ H' O Z (⟨none,v,r⟩::E):=
 ⟨h,S.al,S.len,λx hx j hj=>by
  rcases ycM hx with rfl|hx;cases hj;exact S.hi x hx j hj⟩
def Sim.var(S:Sim Γ H O Z E)(h : O[i]?=some (some r)):∃v,Z[i]?=some (some v)/\Sim Γ H O Z (⟨none,v,rdR i r⟩::E):=by
 obtain⟨v,hv,hm⟩:=S.slot h;apply⟨v,hv,S.cons ?_⟩;obtain⟨k,t⟩:=r;cases k with
 | vw a b=>exact S.sl.copy (e:=⟨some i,v,⟨.vw a b,t⟩⟩) hm rfl
 | io n=>
  have:=S.sl.view (e:=⟨some i,v,⟨.io n,t⟩⟩) hm rfl rfl;cases t<;>exact this
 | ow=>
  cases t with
  | im x=>
   obtain⟨F,rp⟩:=S.sl.rd hm;exact S.sl.push (aZ rp).1
  | tup _=>exact S.sl.view (e:=⟨some i,v,⟨.ow,_⟩⟩) hm rfl rfl
  | li _=>exact S.sl.view (e:=⟨some i,v,⟨.ow,_⟩⟩) hm rfl rfl
  | lst _=>exact S.sl.view (e:=⟨some i,v,⟨.ow,_⟩⟩) hm rfl rfl
  | di _=>exact S.sl.view (e:=⟨some i,v,⟨.ow,_⟩⟩) hm rfl rfl
  | dc _=>exact S.sl.view (e:=⟨some i,v,⟨.ow,_⟩⟩) hm rfl rfl
  | ins _ _=>exact S.sl.view (e:=⟨some i,v,⟨.ow,_⟩⟩) hm rfl rfl
def Sim.kill(S:Sim Γ H O Z E)(M:List Nat):Sim Γ H (ao M O) Z (ah M E):=by
 apply⟨?_,λi r h=>S.al i r (lz h),by rw[aP];exact S.len,λx hx j hj=>by rw[aP];exact S.hi x (Gk.mp hx).1 j hj⟩;rw[eV,<-az];exact S.sl.kill M
def kz{M:List Nat}{X:List En}(hi:i∈M):∀g∈ah M X,g.r.k.root≠some i:=λg hg z=>by
 have:=(Gk.mp hg).2;unfold aE at this;rw[z]at this;simp[hi]at this
def Sim.out(S:Sim Γ H O Z E)(h : O[i]?=some (some r))(ho:r.k.isOw=true):∃v,Z[i]?=some (some v)/\KY Γ H (⟨some i,v,r⟩::(ah [i] E++aD 0 Z ((ao [i] O).set i none))) /\
  (∀g∈ah [i] E++aD 0 Z ((ao [i] O).set i none),g.r.k.root≠some i)/\∀g∈ah [i] E++aD 0 Z ((ao [i] O).set i none),g.key≠some i:=by
 obtain⟨v,hv⟩:=S.al i r h;have S2:=S.kill [i];have h2:=sj (M:=[i]) h ho;have hil:i < O.length:=(Gc.mp h).1;apply⟨v,hv,S2.sl.perm ?_,λg hg=>?_,λg hg hk=>?_⟩
 ·have:=(bB (k:=0) hv h2).append_left (ah [i] E);rw[Hb]at this;exact this.trans GQ
 ·rcases yaM hg with z|z;exact kz ∅ g z
  ·have:g∈aD 0 Z (ao [i] O):=by
    obtain⟨m,h1,h3,h4⟩:=cX z;have hm:m≠i:=λe=>by subst e;simp[aP,hil]at h3
    rw[GB (Mj hm)]at h3;have:=(bB (k:=0) h4 h3).mem_iff.mpr (ymS);have e:g=⟨some (0+m),g.v,g.r⟩:=by cases g;dsimp[En.mk.injEq,and_self,and_true];exact h1
    rw[e];exact this
   rw[eV]at this;exact kz ∅ g this
 ·rcases yaM hg with z|z
  ·have:=S2.hi g z i hk;rw[aP]at this;omega
  ·obtain⟨m,h1,h3,h4⟩:=cX z;rw[hk,Hb]at h1;cases h1;simp[aP,hil]at h3
def Sim.back(S:Sim Γ H O Z E){O':Rho}{Z':St}(h:KY Γ H' (E'++aD 0 Z' O'))(hl : O'.length=O.length)(hZ:Z'.length=Z.length)(al:∀(i:Nat) r,O'[i]?=some (some r)->∃v,Z'[i]?=some (some v))(hi:∀e∈E',∀j,e.key=some j->e∈E):Sim Γ H' O' Z' E':=
 ⟨h,al,by rw[hl,hZ];exact S.len,λe he j hj=>by rw[hl];exact S.hi e (hi e he j hj) j hj⟩
abbrev e8(O:Rho) (i:Nat):Bool:=match O[i]? with
 | some (some ⟨.io _,_⟩)=>false
 | some _=>true
 | none=>false
def AB{O:Rho}{Z:St}(al:∀(i:Nat) r,O[i]?=some (some r)->∃v,Z[i]?=some (some v))(h1:i<Z.length):∀(m:Nat) r',(O.set i (some r))[m]?=some (some r')->∃v',(Z.set i (some v))[m]?=some (some v'):=λm r' hm=>by
 by_cases e:m=i;subst e;exact⟨v,by simp[h1]⟩;rw[GB (Mj e)]at hm|-;exact al m r' hm
def Sim.put(S:Sim Γ H O Z (⟨none,v,r⟩::E))(hi:e8 O i=true)(hr:r.k.root≠some i):Sim Γ H ((ao [i] O).set i (some r)) (Z.set i (some v)) (ah [i] E):=by
 have hil:i < O.length:=by
  unfold e8 at hi;cases q : O[i]? with
  | none=>rw[q]at hi;cases hi
  | some o=>exact(Gc.mp q).1
 have hiZ:i<Z.length:=by rw[S.len];exact hil
 have hkeep:aE [i] ⟨none,v,r⟩=true:=by
  unfold aE;split
  ·delta j hj;have:j≠i:=λz=>hr (z▸hj);simp[this]
  ·rfl
 have ek:ah [i] (⟨none,v,r⟩::E)=⟨none,v,r⟩::ah [i] E:=by unfold ah;rw[GM,if_pos hkeep]
 have S2:=S.kill [i];rw[ek]at S2;have S3:KY Γ H (⟨none,v,r⟩::(ah [i] E++aD 0 Z ((ao [i] O).set i none)))/\∀g∈ah [i] E++aD 0 Z ((ao [i] O).set i none),g.key≠some i:=by
  cases q:(ao [i] O)[i]? with
  | none=>rw[List.getElem?_eq_none_iff,aP]at q;omega
  | some o=>
   cases o with
   | none=>
    have e:(ao [i] O).set i none=ao [i] O:=by
     apply HP;intro m;by_cases hm:m=i;subst hm;rw[q];simp[aP,hil];rw[GB (Mj hm)]
    rw[e];apply⟨S2.sl,λg hg hk=>?_⟩;rcases yaM hg with z|z
    ·have:=S2.hi g (ymC _ z) i hk;rw[aP]at this;omega
    ·obtain⟨m,h1,h3,h4⟩:=cX z;rw[hk,Hb]at h1;cases h1;rw[q]at h3;cases h3
   | some r0=>
    have q0:=lz q;by_cases ho:r0.k.isOw=true
    ·obtain⟨v0,hv0,h1,h2,h3⟩:=S.out q0 ho;rw[ek]at h1 h2 h3;apply⟨h1.dropK λg hg j hj=>by cases hj;exact h2 g hg,λg hg=>h3 g (ymC _ hg)⟩
    ·obtain⟨v0,hv0⟩:=S.al i r0 q0;have p:=(bB (k:=0) hv0 q).append_left (⟨none,v,r⟩::ah [i] E);rw[Hb]at p;have h1:=S2.sl.perm (p.trans GQ);apply⟨h1.dropK λg hg j hj=>?_,λg hg hk=>?_⟩
     ·cases hj;have h1':g∈ah [i] (⟨none,v,r⟩::E)++ah [i] (aD 0 Z O):=by
       rw[ek,<-eV];rcases yaM hg with z|z;exact yaL _ z
       ·apply yaR _ ?_;obtain⟨m,h1,h3,h4⟩:=cX z;have hm:m≠i:=λe=>by subst e;simp[aP,hil]at h3
        rw[GB (Mj hm)]at h3;have:=(bB (k:=0) h4 h3).mem_iff.mpr (ymS);have e:g=⟨some (0+m),g.v,g.r⟩:=by cases g;dsimp[En.mk.injEq,and_self,and_true];exact h1
        rw[e];exact this
      rw[<-az]at h1';exact kz ∅ g h1'
     ·rcases yaM hg with z|z
      ·have:=S2.hi g (ymC _ z) i hk;rw[aP]at this;omega
      ·obtain⟨m,h1,h3,h4⟩:=cX z;rw[hk,Hb]at h1;cases h1;simp[aP,hil]at h3
 obtain⟨S3,hks⟩:=S3;have S4:=S3.rekey (e:=⟨none,v,r⟩) rfl (key:=some i) λj hj g hg=>by cases hj;exact hks g hg
 apply S2.back (S4.perm ?_) (by simp[aP]) ∅ (AB S2.al hiZ) (λe he j hj=>ymC _ he);have p:=(fY (k:=0) (Z:=Z) (O:=ao [i] O) (v:=v) (r:=r) hiZ (by rw[aP];exact hil)).append_left (ah [i] E);rw[Hb]at p;exact(GQ.symm).trans p.symm
def Sim.mut{vs:List V}{ts:List T}{p:List Ac}{k:Kd}(S:Sim Γ H O Z (au vs ts++⟨none,w,⟨.vw (some i) (some p),s⟩⟩::E))(hl:vs.length=ts.length)(h : O[i]?=some (some ⟨k,t⟩))(ho:k.isOw=true) :
  ∃G F,Rp Γ.K H s w G/\Rps Γ.K H ts vs F/\(G++F).Nodup/\(∀a∈G++F,Mu H a) /\
  ∀H' s' G',K1 G H H'->(∀a∈G,∃o,H' a=some o)->G'.Nodup->(∀a∈G',(a∈G++F\/H a=none)/\Mu H' a)->Rp Γ.K H' s' w G'->Sim Γ H' ((ao [i] O).set i (some ⟨k,t.put p s'⟩)) Z (ah [i] E):=by
 have hil:i < O.length:=(Gc.mp h).1;obtain⟨v0,hv0,hm⟩:=S.slot h;have pl:t.sub p=some s/\atP Γ.K H v0 p w:=by
  obtain⟨L,g,e⟩:=S.sl;have:(⟨none,w,⟨.vw (some i) (some p),s⟩⟩:En)∈L.map (·.e):=by rw[e];simp
  obtain⟨y,hy,ey⟩:=Gn.mp this;have kd:=g.kd y hy;unfold K4 at kd;rw[ey]at kd;obtain⟨x,x1,x2,x3,x4,x5⟩:=kd;have hm':(⟨some i,v0,⟨k,t⟩⟩:En)∈L.map (·.e):=by rw[e];exact hm
  obtain⟨z,hz,ez⟩:=Gn.mp hm';have:x=z:=by
   have nk:=g.ks;by_cases q:x=z;exact q
   ·exfalso;obtain⟨A,B,rfl⟩:=Iu x1;rw[GH,GG,x2]at nk;rcases yaM hz with hz|hz;exact(Gi.mp nk).2.2 i (GX.mpr ⟨z,hz,by rw[ez]⟩) i ymS rfl
    ·rcases ycM hz with hz|hz;exact q hz.symm;exact(GA.mp (Gi.mp nk).2.1).1 (GX.mpr ⟨z,hz,by rw[ez]⟩)
  subst this;have:=x5 p rfl;rw[ez]at this;exact this
 obtain⟨v1,hv1,h1,h2,h3⟩:=S.out h ho;rw[hv0]at hv1;cases hv1;have ktemps:∀{vs:List V} {ts:List T},ah [i] (au vs ts)=au vs ts:=by
  intro vs
  induction vs with
  | nil=>intro ts;rfl
  | cons v vs ih=>
   intro ts;cases ts with
   | nil=>rfl
   | cons t ts=>show List.filter _ _=_;rw[au,GM,if_pos (show aE [i] ⟨none,v,⟨.ow,t⟩⟩=true from rfl)];exact congrArg _ ih
 have kv:aE [i] ⟨none,w,⟨.vw (some i) (some p),s⟩⟩=false:=by unfold aE;simp[Kd.root]
 have ek:ah [i] (au vs ts++⟨none,w,⟨.vw (some i) (some p),s⟩⟩::E)=au vs ts++ah [i] E:=by
  rw[az,ktemps];unfold ah;rw[GM,if_neg (by rw[kv];simp)]
 rw[ek]at h1 h2 h3;rw[Gx]at h1 h2 h3;obtain⟨w',G,F,m1,m2,m3,m4,m5,m6⟩:=KY.mutP (e:=⟨some i,v0,⟨k,t⟩⟩) (X:=ah [i] E++aD 0 Z ((ao [i] O).set i none)) (by rw[GL];exact h1) hl ho (λg hg j hj=>by cases hj;exact h2 g (yaR _ hg)) pl.1 (λj hj g hg=>by cases hj;exact h3 g (yaR _ hg));have ew:=iy m1 pl.2;subst ew;apply⟨G,F,m2,m3,m4,m5,λH' s' G' off dom nd hG rp=>?_⟩;have S5:=m6 H' s' G' off dom nd hG rp;have S2:=S.kill [i];apply S2.back (S5.perm ?_) (by simp[aP]) rfl (λm r' hm=>?_) (λe he j hj=>by rw[ek];exact yaR _ he)
 ·have p:=(fY (k:=0) (Z:=Z) (O:=ao [i] O) (v:=v0) (r:=⟨k,t.put p s'⟩) (by rw[S.len];exact hil) (by rw[aP];exact hil)).append_left (ah [i] E);rw[Hb]at p;have eZ:Z.set i (some v0)=Z:=by
   apply HP;intro m;by_cases hm:m=i;subst hm;rw[hv0];simp[S.len,hil];rw[GB (Mj hm)]
  rw[eZ]at p;exact(GQ.symm).trans p.symm
 ·by_cases e:m=i;subst e;exact⟨v0,hv0⟩;rw[GB (Mj e)]at hm;exact S2.al m r' hm
def Sim.move(S:Sim Γ H O Z (⟨none,w,⟨.vw (some i) (some []),s⟩⟩::E))(h : O[i]?=some (⇑t)):Sim Γ H ((ao [i] O).set i none) Z (⟨none,w,⟨.ow,s⟩⟩::ah [i] E):=by
 have hil:i < O.length:=(Gc.mp h).1;obtain⟨v0,hv0,hm⟩:=S.slot h;have pl:s=t/\w=v0:=by
  obtain⟨L,g,e⟩:=S.sl;have:(⟨none,w,⟨.vw (some i) (some []),s⟩⟩:En)∈L.map (·.e):=by rw[e];simp
  obtain⟨y,hy,ey⟩:=Gn.mp this;have kd:=g.kd y hy;unfold K4 at kd;rw[ey]at kd;obtain⟨x,x1,x2,x3,x4,x5⟩:=kd;have hm':(⟨some i,v0,⟨.ow,t⟩⟩:En)∈L.map (·.e):=by rw[e];exact hm
  obtain⟨z,hz,ez⟩:=Gn.mp hm';have:x=z:=by
   have nk:=g.ks;by_cases q:x=z;exact q
   ·exfalso;obtain⟨A,B,rfl⟩:=Iu x1;rw[GH,GG,x2]at nk;rcases yaM hz with hz|hz;exact(Gi.mp nk).2.2 i (GX.mpr ⟨z,hz,by rw[ez]⟩) i ymS rfl
    ·rcases ycM hz with hz|hz;exact q hz.symm;exact(GA.mp (Gi.mp nk).2.1).1 (GX.mpr ⟨z,hz,by rw[ez]⟩)
  subst this;have:=x5 [] rfl;rw[ez]at this;obtain⟨q1,q2⟩:=this;rw[T.sub]at q1;cases q1;exact⟨rfl,q2⟩
 obtain⟨rfl,rfl⟩:=pl;obtain⟨v1,hv1,h1,h2,h3⟩:=S.out h rfl;rw[hv0]at hv1;cases hv1;have kv:aE [i] ⟨none,w,⟨.vw (some i) (some []),s⟩⟩=false:=by unfold aE;simp[Kd.root]
 have ek:ah [i] (⟨none,w,⟨.vw (some i) (some []),s⟩⟩::E)=ah [i] E:=by
  unfold ah;rw[GM,if_neg (by rw[kv];simp)]
 rw[ek]at h1 h2 h3;have S2:=S.kill [i];apply S2.back (E':=⟨none,w,⟨.ow,s⟩⟩::ah [i] E) ?_ (by simp[aP]) rfl (λm r' hm=>?_) (λe he j hj=>?_)
 ·obtain⟨L,g,e⟩:=h1;obtain⟨x,L',rfl,e1,e2⟩:=aN e;have:=g.step (hs:=[x]) (L:=L') (H':=H) (λy hy=>by rw[ysM hy,e1];rfl) (λy hy z hz j hj=>by
   rw[ysM hz,e1]at hj;cases hj;exact h2 y.e (by rw[<-e2];exact GS hy)) (K1.refl _ _) (λa ha=>by
    obtain⟨y,hy,ha⟩:=Ha.mp ha;rw[ysM hy]at ha;exact(g.rp x ymS).dom a ha) (key:=none) (v:=w) (r:=⟨.ow,s⟩) (F:=x.F) (g.ndF ymS (by rw[e1];rfl)) (λa ha=>⟨.inl (by exists ha),g.muF ymS (by rw[e1];rfl) a ha⟩)
    (by have:=g.rp x ymS;rw[e1]at this;exact this) (.inl ⟨rfl,λy hy=>by rw[ysM hy,e1]⟩) (λj hj=>by cases hj)
  exact⟨_,this,by rw[Gg,e2];rfl⟩
 ·by_cases e:m=i;subst e;simp[aP,hil]at hm;rw[GB (Mj e)]at hm;exact S2.al m r' hm
 ·rcases ycM he with rfl|he;cases hj;rw[ek];exact he
def Sim.use{vs:List V}{ts:List T}(S:Sim Γ H O Z (au vs ts++E))(hl:vs.length=ts.length):∃F,Rps Γ.K H ts vs F/\F.Nodup/\(∀a∈F,Mu H a) /\
  ∀H' v t F',K1 F H H'->(∀a∈F,∃o,H' a=some o)->F'.Nodup->(∀a∈F',(a∈F\/H a=none)/\Mu H' a)->Rp Γ.K H' t v F'->Sim Γ H' O Z (⟨none,v,⟨.ow,t⟩⟩::E):=by
 have S1:=S.sl;rw[Gx]at S1;obtain⟨F,h1,h2,h3,h4⟩:=S1.use hl;apply⟨F,h1,h2,h3,λH' v t F' a b c d e=>?_⟩;exact⟨h4 H' v t F' a b c d e,S.al,S.len,λx hx j hj=>by
  rcases ycM hx with rfl|hx;cases hj;exact S.hi x (yaR _ hx) j hj⟩
def Sim.part(S:Sim Γ H O Z E)(he:e∈E){ro:Option Nat}{p:Option (List Ac)}(ho:e.r.k=.vw ro p){P:V->Prop}(hp:∀F,Rp Γ.K H e.r.t e.v F->∃w G,P w/\Rp Γ.K H s w G/\∀a∈G,a∈F):∃w,P w/\Sim Γ H O Z (⟨none,w,⟨.vw ro none,s⟩⟩::E):=by
 obtain⟨w,h1,h2⟩:=S.sl.part (yaL _ he) ho hp;exact⟨w,h1,S.cons h2⟩
def Sim.partP(S:Sim Γ H O Z E)(he:e∈E){q:List Ac}(ho:e.r.k=.vw (some j) (some q)){a:Ac}(hs:jw e.r.t a=some s):∃w,at1 Γ.K H e.v a w/\Sim Γ H O Z (⟨none,w,⟨.vw (some j) (some (q++[a])),s⟩⟩::E):=by
 obtain⟨w,h1,h2⟩:=S.sl.partP (yaL _ he) ho hs;exact⟨w,h1,S.cons h2⟩
end
structure ME where
 run:Rho->Option (R×Rho)
 mu:List Nat
structure MT where
 run:Rho->Option (Bool×Rho)
 mu:List Nat
structure MA where
 run:Rho->Option (List R×Rho)
 mu:List Nat
inductive Fl where
 | nx|rt (t:T)|bk|ct
structure MS where
 run:Rho->Option (Fl×Rho)
 mu:List Nat
structure MG where
 run:R->Rho->Option Rho
 mu:List Nat
structure MGs where
 run:List R->Rho->Option Rho
 mu:List Nat
abbrev ens:List V->List R->List En
 | v::vs,r::rs=>⟨none,v,r⟩::ens vs rs
 | _,_=>[]
abbrev ax(M:List Nat) (r:R):Bool:=dq M r
def bp{M:List Nat}{r:R}{v:V}(h:ax M r=true):aE M ⟨none,v,r⟩=true:=h
def ar{M:List Nat}{e:En}{E:List En}(h:aE M e=true):ah M (e::E)=e::ah M E:=by unfold ah;rw[GM,if_pos h]
def jc{M:List Nat}:∀{vs:List V} {rs:List R},rs.all (ax M)=true->ah M (ens vs rs)=ens vs rs
 | [],_,_=>by cases ‹List R›<;>rfl
 | _::_,[],_=>rfl
 | v::vs,r::rs,h=>by
  rw[Ht,Gd]at h;rw[ens,ar (bp h.1),jc h.2]
def Sim.weak{Γ:Gm}{H:Hp}{O:Rho}{Z:St}{E:List En}(S:Sim Γ H O Z E)(M:List Nat):Sim Γ H O Z (ah M E):=by
 apply⟨?_,S.al,S.len,λe he=>S.hi e (Gk.mp he).1⟩;obtain⟨L,g,h⟩:=S.sl;obtain⟨A,B,rfl,h1,h2⟩:=eD h;apply⟨A.filter (λx=>aE M x.e)++B,g.sub (Hh.append (List.Sublist.refl _)) λx hx j hj y hy hk ho=>?_,?_⟩
 ·rcases yaM hy with z|z
  ·apply yaL _ (Gk.mpr ⟨z,?_⟩);unfold aE;cases e:y.e.r.k with
   | vw a b=>rw[e]at ho;cases ho
   | ow=>rfl
   | io _=>rfl
  ·exact yaR _ z
 ·rw[Gq,h2,<-h1];unfold ah;rw[Ir];rfl
abbrev aV(K:yF)(te:TE)(m:ME):Prop:=∀(Γ:Gm) (H:Hp) (O:Rho) (Z:St) (E:List En) (Q:VK) (r:R) (O':Rho),Γ.K=K->m.run O=some (r,O')->Sim Γ H O Z E->(∀v H',Sim Γ H' O' Z (⟨none,v,r⟩::ah m.mu E)->Q v H')->te Z H Q
abbrev ef(K:yF)(te:TT)(m:MT):Prop:=∀(Γ:Gm) (H:Hp) (O:Rho) (Z:St) (E:List En) (Q:Bool->Hp->Prop) (b:Bool) (O':Rho),Γ.K=K->m.run O=some (b,O')->Sim Γ H O Z E->(∀H',Sim Γ H' O' Z (ah m.mu E)->Q b H')->te Z H Q
abbrev gI(K:yF)(ta:TA)(m:MA):Prop:=∀(Γ:Gm) (H:Hp) (O:Rho) (Z:St) (E:List En) (Q:List V->Hp->Prop) (rs:List R) (O':Rho),Γ.K=K->m.run O=some (rs,O')->Sim Γ H O Z E->(∀vs H',vs.length=rs.length->Sim Γ H' O' Z (ens vs rs++ah m.mu E)->Q vs H')->ta Z H Q
abbrev Ll(Γ:Gm)(O':Rho)(E:List En)(D:Ls):Fl->Prop
 | .nx=>∀Z' H',Sim Γ H' O' Z' E->D.nx Z' H'
 | .bk=>∀Z' H',Sim Γ H' O' Z' E->D.bk Z' H'
 | .ct=>∀Z' H',Sim Γ H' O' Z' E->D.ct Z' H'
 | .rt t=>∀v Z' H',Sim Γ H' O' Z' [⟨none,v,⟨.ow,t⟩⟩]->D.rt v H'
abbrev ee(K:yF)(ts:TS)(m:MS):Prop:=∀(Γ:Gm) (H:Hp) (O:Rho) (Z:St) (E:List En) (D:Ls) (f:Fl) (O':Rho),Γ.K=K->(∀e∈E,e.key=none)->m.run O=some (f,O')->Sim Γ H O Z E->Ll Γ O' (ah m.mu E) D f->ts D Z H
abbrev ir(K:yF)(g:TG)(m:MG):Prop:=∀(Γ:Gm) (H:Hp) (O:Rho) (Z:St) (E:List En) (Q:St->Hp->Prop) (v:V) (r:R) (O':Rho),Γ.K=K->m.run r O=some O'->Sim Γ H O Z (⟨none,v,r⟩::E)->(∀Z' H',Sim Γ H' O' Z' (ah m.mu E)->Q Z' H')->g v Z H Q
abbrev nt(K:yF)(g:TGs)(m:MGs):Prop:=∀(Γ:Gm) (H:Hp) (O:Rho) (Z:St) (E:List En) (Q:St->Hp->Prop) (vs:List V) (rs:List R) (O':Rho),Γ.K=K->m.run rs O=some O'->vs.length=rs.length->Sim Γ H O Z (ens vs rs++E)->(∀Z' H',Sim Γ H' O' Z' (ah m.mu E)->Q Z' H')->g vs Z H Q
abbrev Dp(X:Cx)(st:List Stmt)(m:MS):Prop:=∃ts,PSs X st ts/\ee X.K ts m
section
variable {K:yF}{X:Cx}
private def mC(i:I):ME:=⟨λO=>some (⟨.ow,.im i⟩,O),[]⟩
private def af(i:Nat):ME:=⟨λO=>match O[i]? with
 | some (some r)=>some (rdR i r,O)
 | _=>none,[]⟩
def wm{i:I}{v:V}(h:i.sc=some v):aV K (tC v) (mC i):=by unhygienic
 intro Γ H O Z E Q r O' hK hr S q;cases hr;exact q v H (by rw[show(mC i).mu=[]from rfl,cf];exact S.imm (jL h))
def zp{i:Nat}:aV K (CV i) (af i):=by unhygienic
 intro Γ H O Z E Q r O' hK hr S q;dsimp[af]at hr;split at hr
 ·delta r0 h0;cases hr;obtain⟨v,hv,S2⟩:=S.var h0;exact⟨v,hv,q v H (by rw[show(af i).mu=[]from rfl,cf];exact S2)⟩
 ·cases hr
private def mNil:MA:=⟨λO=>some ([],O),[]⟩
private def ac(m:ME)(ms:MA):MA:=⟨λO=>match m.run O with
 | some (r,O1)=>match ms.run O1 with
  | some (rs,O2)=>if ax ms.mu r=true then some (r::rs,O2)else none
  | none=>none
 | none=>none,m.mu++ms.mu⟩
def zf:gI K E7 mNil:=by unhygienic
 intro Γ H O Z E Q rs O' hK hr S q;cases hr;exact q [] H rfl (by rw[show mNil.mu=[]from rfl,cf];exact S)
def xx{v:V}{r:R}{E:List En}:∀{vs:List V} {rs:List R},(ens vs rs++⟨none,v,r⟩::E).Perm (⟨none,v,r⟩::(ens vs rs++E)):=GQ
def wn{te:TE}{ta:TA}{m:ME}{ms:MA}(h1:aV K te m)(h2:gI K ta ms):gI K (rB te ta) (ac m ms):=by unhygienic
 intro Γ H O Z E Q rs O' hK hr S q;dsimp[ac]at hr;split at hr
 ·delta r O1 e1;split at hr
  ·delta rs1 O2 e2;split at hr
   ·delta al;cases hr;apply h1 Γ H O Z E _ r O1 hK e1 S λv H1 S1=>?_;apply h2 Γ H1 O1 Z _ _ rs1 _ hK e2 S1 λvs H2 hl S2=>q (v::vs) H2 (by rw[Gp,Gp,hl]) ?_;rw[ar (bp al),ae]at S2;exact S2.perm xx
   ·cases hr
  ·cases hr
 ·cases hr
private def mNext:MS:=⟨λO=>some (.nx,O),[]⟩
private def am(a b:MS):MS:=⟨λO=>match a.run O with
 | some (.nx,O1)=>b.run O1
 | some (.rt t,O1)=>some (.rt t,O1)
 | some (.bk,O1)=>some (.bk,O1)
 | some (.ct,O1)=>some (.ct,O1)
 | none=>none,a.mu++b.mu⟩
private def mIf(c:MT)(a b:MS):MS:=⟨λO=>match c.run O with
 | some (true,O1)=>a.run O1
 | some (false,O1)=>b.run O1
 | none=>none,c.mu++(a.mu++b.mu)⟩
private def be(e:ME):MS:=⟨λO=>match e.run O with
 | some (_,O1)=>some (.nx,O1)
 | none=>none,e.mu⟩
private def aB(e:ME)(g:MG):MS:=⟨λO=>match e.run O with
 | some (r,O1)=>match g.run r O1 with
  | some O2=>some (.nx,O2)
  | none=>none
 | none=>none,e.mu++g.mu⟩
private def tq:R->Rho->Option (T×Rho)
 | ⟨.ow,t⟩,O=>some (t,O)
 | ⟨.vw (some i) (some []),t⟩,O=>match O[i]? with
  | some (⇑_)=>some (t,(ao [i] O).set i none)
  | _=>none
 | _,_=>none
private def bd(e:ME):MS:=⟨λO=>match e.run O with
 | some (r,O1)=>match tq r O1 with
  | some (t,O2)=>some (.rt t,O2)
  | none=>none
 | none=>none,e.mu⟩
def Ll.weak{Γ:Gm}{O':Rho}{E:List En}{D:Ls}{f:Fl}{M N:List Nat}(h:Ll Γ O' (ah (M++N) E) D f):Ll Γ O' (ah M E) D f:=by
 cases f with
 | rt t=>exact h
 | nx=>exact λZ' H' S=>h Z' H' (by rw[<-ae];exact S.weak N)
 | bk=>exact λZ' H' S=>h Z' H' (by rw[<-ae];exact S.weak N)
 | ct=>exact λZ' H' S=>h Z' H' (by rw[<-ae];exact S.weak N)
def pd(M N:List Nat)(E:List En):ah M (ah N E)=ah N (ah M E):=by
 unfold ah;rw[Iv,Iv];congr 1;funext e;exact Bool.and_comm _ _
def Ll.weak2{Γ:Gm}{O':Rho}{E:List En}{D:Ls}{f:Fl}{M N:List Nat}(h:Ll Γ O' (ah (M++N) E) D f):Ll Γ O' (ah N E) D f:=by
 apply Ll.weak (N:=M) ?_;rwa [<-ae,pd,ae]
def bT{M:List Nat}{E:List En}(h:∀e∈E,e.key=none):∀e∈ah M E,e.key=none:=λe he=>h e (Gk.mp he).1
def wv:ee K Aq mNext:=by unhygienic
 intro Γ H O Z E D f O' hK hE hr S q;cases hr;exact q Z H (by rw[show mNext.mu=[]from rfl,cf];exact S)
def zl{t u:TS}{a b:MS}(h1:ee K t a)(h2:ee K u b):ee K (Fc t u) (am a b):=by
 intro Γ H O Z E D f O' hK hE hr S q;show t {D with nx:=u D} Z H;dsimp[am]at hr q;split at hr
 ·delta O1 e1;apply h1 Γ H O Z E _ .nx O1 hK hE e1 S λZ1 H1 S1=>?_;apply h2 Γ H1 O1 Z1 _ D f O' hK (bT hE) hr S1 ?_;rw[ae];exact q
 ·delta t1 O1 e1;cases hr;exact h1 Γ H O Z E _ (.rt t1) _ hK hE e1 S q
 ·delta O1 e1;cases hr;exact h1 Γ H O Z E _ .bk _ hK hE e1 S (show Ll Γ _ (ah a.mu E) D .bk from q.weak)
 ·delta O1 e1;cases hr;exact h1 Γ H O Z E _ .ct _ hK hE e1 S (show Ll Γ _ (ah a.mu E) D .ct from q.weak)
 ·cases hr
def zd{c:TT}{t u:TS}{mc:MT}{a b:MS}(hc:ef K c mc)(h1:ee K t a)(h2:ee K u b):ee K (E5 c t u) (mIf mc a b):=by
 intro Γ H O Z E D f O' hK hE hr S q;dsimp[mIf]at hr q;rw[<-ae]at q;split at hr
 ·delta O1 e1;apply hc Γ H O Z E _ true O1 hK e1 S λH1 S1=>pc ?_;exact h1 Γ H1 O1 Z _ D f O' hK (bT hE) hr S1 q.weak
 ·delta O1 e1;apply hc Γ H O Z E _ false O1 hK e1 S λH1 S1=>pb ?_;exact h2 Γ H1 O1 Z _ D f O' hK (bT hE) hr S1 q.weak2
 ·cases hr
def wp{te:TE}{m:ME}(h:aV K te m):ee K (Ap te) (be m):=by unhygienic
 intro Γ H O Z E D f O' hK hE hr S q;dsimp[be]at hr;split at hr
 ·delta r O1 e1;cases hr;exact h Γ H O Z E _ r _ hK e1 S λv H1 S1=>q Z H1 (S1.drop rfl)
 ·cases hr
def mW{te:TE}{g:TG}{m:ME}{mg:MG}(h:aV K te m)(hg:ir K g mg):ee K (zD te g) (aB m mg):=by
 intro Γ H O Z E D f O' hK hE hr S q;dsimp[aB]at hr q;split at hr
 ·delta r O1 e1;split at hr
  ·delta O2 e2;cases hr;apply h Γ H O Z E _ r O1 hK e1 S λv H1 S1=>?_;exact hg Γ H1 O1 Z _ _ v r _ hK e2 S1 λZ2 H2 S2=>q Z2 H2 (by rw[<-ae];exact S2)
  ·cases hr
 ·cases hr
def Sim.only{Γ:Gm}{H:Hp}{O:Rho}{Z:St}{e:En}{E:List En}(S:Sim Γ H O Z (e::E))(hE:∀x∈E,x.key=none):Sim Γ H O Z [e]:=by
 induction E with
 | nil=>exact S
 | cons x E ih=>exact ih (S.swap.drop (hE x ymS)) λy hy=>hE y (ymC _ hy)
def zj{te:TE}{m:ME}(h:aV K te m):ee K (Fb te) (bd m):=by unhygienic
 intro Γ H O Z E D f O' hK hE hr S q;dsimp[bd]at hr;split at hr
 ·delta r O1 e1;split at hr
  ·delta t O2 e2;cases hr;apply h Γ H O Z E _ r O1 hK e1 S λv H1 S1=>?_;obtain⟨k,t0⟩:=r;cases k with
   | ow=>
    cases e2;exact q v Z H1 (S1.only (bT hE))
   | io n=>cases e2
   | vw a b=>
    cases a with
    | none=>cases e2
    | some i=>
     cases b with
     | none=>cases e2
     | some p=>
      cases p with
      | cons _ _=>cases e2
      | nil=>
       dsimp[tq]at e2;split at e2
       ·delta t1 h1;cases e2;exact q v Z H1 ((S1.move h1).only (bT (bT hE)))
       ·cases e2
  ·cases hr
 ·cases hr
private def ag(i:Nat):MG:=⟨λr O=>if(e8 O i&&ax [i] r)=true then some ((ao [i] O).set i (some r))else none,[i]⟩
def gU{i:Nat}{r:R}(h:ax [i] r=true):r.k.root≠some i:=λz=>by
 unfold ax dq at h;rw[z]at h;simp at h
def kI{i:Nat}:ir K (lw i) (ag i):=by unhygienic
 intro Γ H O Z E Q v r O' hK hr S q;dsimp[ag]at hr;split at hr
 ·delta h;cases hr;rw[Gd]at h;exact q _ H (S.put h.1 (gU h.2))
 ·cases hr
end
section
variable {X:Cx}
def Inv.lstR{Uq:List (Addr×Obj)}{Z:St}{H:Hp}{s:LI}{l:Addr}{xs:List V}(I:Inv X Uq Z H s)(hH:Rd H l (.lst xs)):xs.length<=sizeLine/\∃(its:List LH) (n:Nat),Vals xs its/\xs.length=its.length/\s.heap.get? l=some {cls:=.type "list",data:=.seq its.toArray n}:=by
 obtain⟨z,its,n,r,e⟩:=hH.ok I.hok;exact⟨z,its,n,r,r.length,e⟩
abbrev Ad:R2:=λx y H Q=>∃l b xs zs,x=.ref l/\y=.ref b/\Rd H l (.lst xs)/\Rd H b (.lst zs)/\xs.length+zs.length<=sizeLine/\∀p,H p=none->Q (.ref p) (upd H p (.lst (xs++zs)))
def op_catR:OpR X (Ms .Add) Ad:=by
 intro Uq s Z H x y v u Q I rx ry h;obtain⟨l,b,xs,zs,rfl,rfl,hH,hB,hz,q⟩:=h;cases rx;cases ry;obtain⟨z,its,n,r,hl,e⟩:=I.lstR hH;obtain⟨z2,its2,n2,r2,hl2,e2⟩:=I.lstR hB;apply PySem.P.add_list e e2 ?_ (by rw[Gf,Gf];omega);have ea:its.toArray++its2.toArray=(its++its2).toArray:=by simp
 rw[ea];exact⟨.ref _,_,I.lnew (t':=s.toks) (r.append r2) (by rw[Gr];omega),rfl,q _ I.fresh⟩
abbrev vW(K:yF):R2:=λx y H Q=>∃a b ys,x=.ref a/\y=.ref b/\SqT K H a []/\SqT K H b ys/\Q (.ref b) H
def uV:OpR X (Ms .Add) (vW X.K):=by
 intro Uq s Z H x y v u Q I rx ry h;obtain⟨a,b,ys,rfl,rfl,ha,hb,q⟩:=h;cases rx;cases ry;obtain⟨its,r1,p1,_⟩:=I.tuple ha;obtain⟨its2,r2,p2,_⟩:=I.tuple hb;have hv:its=[]:=r1.nil_iff.mpr rfl;subst hv;obtain⟨⟨cls,dd,data,sl⟩,ho,hc,n,hd⟩:=id p1;obtain⟨⟨cls2,dd2,data2,sl2⟩,ho2,hc2,n2,hd2⟩:=id p2;simp only at hc hd hc2 hd2;subst hc hd hc2 hd2;exact PB ⟨_,ho,rfl⟩ ⟨_,ho2,rfl⟩ Op Ph PySem.F.slot_tuple_add PySem.F.entry_tuple_add (PySem.F.args_tuple_add_2 _ _)
   (tuple_addW0 a b #[] its2.toArray n n2 dd dd2 sl sl2 rfl) ⟨ho,ho2,⟨.ref b,H,I,rfl,q⟩⟩
abbrev vV(K:yF):R2:=λx y H Q=>Ab K x y H Q\/(Ad x y H Q\/vW K x y H Q)
def yg:OpR X (Ms .Add) (vV X.K):=op_addX.or (op_catR.or uV)
abbrev Ai:R2:=λx y H Q=>∃l k xs,x=.ref l/\y=.int k/\Rd H l (.lst xs)/\-(2^63)<=k/\k<2^63/\xs.length*k.toNat<=sizeLine/\∀p,H p=none->Q (.ref p) (upd H p (.lst (Gh k.toNat xs).flatten))
def yj:OpR X (Ms .Mult) Ai:=by
 intro Uq s Z H x y v u Q I rx ry h;obtain⟨l,k,xs,rfl,rfl,hH,h1,h2,hz,q⟩:=h;cases rx;obtain⟨t,rfl⟩:=ry;obtain⟨z,its,n,r,hl,e⟩:=I.lstR hH;have hlen:its.toArray.size*k.toNat<=sizeLine:=by rw[Gf,<-hl];exact hz
 have hcap:¬ its.toArray.size*k.toNat>(2^63-1) / 8:=by
  have:(sizeLine:Nat)<=(2^63-1) / 8:=by decide
  omega
 have hfit:¬ (!Builtin.List.listFitsIndex k)=true:=by
  rw[OS h1 h2];exact Gv
 have hlong:¬ LZ (its.toArray.size*k.toNat)=true:=by
  rw[dN hlen];exact Gv
 have hnew:Jq (λx1 x2=>x1++x2) #[] (Gh (if its.toArray.isEmpty=true then 0 else k.toNat) its.toArray)=(Gh k.toNat its).flatten.toArray:=by
  have f0:∀m:Nat,Jq (λx1 x2=>x1++x2) #[] (Gh m its.toArray)=(Gh m its).flatten.toArray:=λm=>by
   have:=eW its m [];rw[Hy]at this;exact this
  rw[f0];cases its with
  | nil=>simp
  | cons a r'=>rw[if_neg ∅]
 apply Ng (T:="list") (U:="int") (by decide) ⟨_,e,rfl⟩ (λs'=>Ny s' k t) P8 OI M6 repeat_list Oq.lookup
  (MC M6 (Ny s k t) Os (Oc _ _) (OM k t l its.toArray n)
   ⟨e,rfl,⟨_,e,rfl⟩,MC P9 ⟨_,e,rfl⟩ PZ (PF _ _) (Nj l its.toArray n k t hfit hcap hlong) ⟨e,?_⟩⟩)
 rw[hnew];exact⟨.ref _,_,I.lnew (t':=s.toks) (r.rep k.toNat) (by rw[iH,JX];exact hz),rfl,q _ I.fresh⟩
abbrev wc(K:yF):R2:=λx y H Q=>Ah K x y H Q\/Ai x y H Q
def yi:OpR X (Ms .Mult) (wc X.K):=op_mulX.or yj
abbrev nY:V->List V->Hp->VK->Prop:=λx vs H Q=>∃l b xs zs,x=.ref l/\vs=[.ref b]/\H l=some (.lst xs)/\Rd H b (.lst zs)/\xs.length+zs.length<=sizeLine/\Q .non (upd H l (.lst (xs++zs)))
def pD:MtM X "list.extend" nY:=by
 intro Uq s Z H x vs v us Q I rx rv h;obtain⟨l,b,xs,zs,rfl,rfl,hH,hB,hz,q⟩:=h;cases rx;obtain⟨u,rfl,ru⟩:=rv.one;cases ru;obtain⟨z,its,n,r,hl,e⟩:=I.lstM hH;obtain⟨z2,its2,n2,r2,hl2,e2⟩:=I.lstR hB;have hsz:its.toArray.size+its2.toArray.size<=sizeLine:=by rw[Gf,Gf];omega
 have hlong:¬ (!its.toArray.isEmpty&&LZ (its.toArray.size+its2.toArray.size))=true:=by
  rw[dN hsz,JE];exact Gv
 apply MC N4 ⟨_,e,rfl⟩ NO (NE _ _)
  (Nn l its.toArray n b its2.toArray n2 hlong (by rw[Gf];omega) ⋯) ⟨e,e2,?_⟩
 apply⟨.non,_,I.lset (its':=its++its2) hH e ∅ (r.append r2) ?_,rfl,q⟩;rw[Gr];omega
abbrev vX(K:yF):V->List V->Hp->VK->Prop:=λx xs H Q=>nY x xs H Q\/nZ K x xs H Q
def xZ:MtR X "list.extend" (vX X.K):=MtR.or pD pE
end
abbrev Rpx(K:yF)(H:Hp)(t:T)(v:V):Prop:=∃F,Rp K H t v F
abbrev New(K:yF)(H H':Hp)(t:T)(v:V):Prop:=Le H H'/\∃F,Rp K H' t v F/\F.Nodup/\∀a∈F,H a=none/\Mu H' a
section
variable {K:yF}{H H':Hp}{Γ:Gm}{O:Rho}{Z:St}{E:List En}{t:T}{v x y:V}{Q:VK}
def Sim.fresh(S:Sim Γ H O Z E)(n:New Γ.K H H' t v):Sim Γ H' O Z (⟨none,v,⟨.ow,t⟩⟩::E):=by
 obtain⟨sm,F,h1,h2,h3⟩:=n;obtain⟨F0,r0,_,_,k⟩:=Sim.use (vs:=[]) (ts:=[]) S rfl;have:=r0.nil_inv.2;subst this;exact k H' v t F (sm.offM _) ∅ h2 (λa ha=>⟨.inr (h3 a ha).1,(h3 a ha).2⟩) h1
def New.im{i:I}(h:RpI K H i v):New K H H (.im i) v:=⟨Le.refl H,[],iR h,Hj,by simp⟩
def New.sc{i:I}(h:i.sc=some v):New K H H (.im i) v:=.im (jL h)
def New.tup{is:List I}{xs:List V}{p:Addr}(hp:H p=none)(h:KT K H is xs):New K H (upd H p (.tup xs)) (.im (.tup is)) (.ref p):=by
 apply⟨Le.laid hp,[],iR ?_,Hj,by simp⟩;rw[RpI];exact⟨p,xs,rfl,SqT.of aI,h.same (Le.laid hp)⟩
def New.li{is:List I}{xs:List V}{p:Addr}(hp:H p=none)(h:KT K H is xs):New K H (upd H p (.lst xs)) (.li is) (.ref p):=by
 apply⟨Le.laid hp,[p],?_,by simp,λa ha=>?_⟩;rw[Rp];exact⟨p,xs,rfl,.inl aI,h.same (Le.laid hp),rfl⟩;rw[ysM ha];exact⟨hp,_,aI,rfl⟩
def dt{i:I}(h:Rpx K H (.im i) v):RpI K H i v:=by obtain⟨F,h⟩:=h;exact(aZ h).1
def aO{n:Int}(h:Rpx K H (.im (.int n)) v):v=.int n:=by have:=dt h;rw[RpI]at this;exact this
def dh{n:Str}(h:Rpx K H (.im (.str n)) v):v=.str n:=by have:=dt h;rw[RpI]at this;exact this
def om{n:Bool}(h:Rpx K H (.im (.bl n)) v):v=.bl n:=by have:=dt h;rw[RpI]at this;exact this
def CP(h:Rpx K H (.im .non) v):v=.non:=by have:=dt h;rw[RpI]at this;exact this
def bO{is:List I}(h:Rpx K H (.im (.tup is)) v):∃a xs,v=.ref a/\SqT K H a xs/\KT K H is xs:=by have:=dt h;rw[RpI]at this;exact this
def cM{is:List I}(h:Rpx K H (.li is) v):∃a xs,v=.ref a/\Rd H a (.lst xs)/\KT K H is xs:=by
 obtain⟨F,h⟩:=h;rw[Rp]at h;obtain⟨a,xs,h1,h2,h3,_⟩:=h;exact⟨a,xs,h1,h2,h3⟩
def Am{is:List I}(h:Rpx K H (.im (.ls is)) v):∃a xs,v=.ref a/\Rd H a (.lst xs)/\KT K H is xs:=by
 have:=dt h;rw[RpI]at this;obtain⟨a,o,xs,h1,h2,h3⟩:=this;exact⟨a,xs,h1,.inr ⟨o,h2⟩,h3⟩
def ib{ts:List T}(h:Rpx K H (.lst ts) v):∃a xs F,v=.ref a/\Rd H a (.lst xs)/\Rps K H ts xs F:=by
 obtain⟨F,h⟩:=h;rw[Rp]at h;obtain⟨a,xs,F',h1,h2,h3,_⟩:=h;exact⟨a,xs,F',h1,h2,h3⟩
def aX{a:Addr}{xs:List V}(h:Rd H a (.lst xs)):SqL K H a xs:=.inl h
abbrev eu(K:yF)(red:R2)(f:T->T->Option T):Prop:=∀(H:Hp) (x y:V) (tx ty t:T) (Q:VK),Rpx K H tx x->Rpx K H ty y->f tx ty=some t->(∀v H',New K H H' t v->Q v H')->red x y H Q
abbrev Lk(K:yF)(H:Hp):List T->List V->Prop
 | [],vs=>vs=[]
 | t::ts,vs=>∃v r,vs=v::r/\Rpx K H t v/\Lk K H ts r
abbrev eA(K:yF)(red:List V->Hp->VK->Prop)(f:List T->Option T):Prop:=∀(H:Hp) (vs:List V) (ts:List T) (t:T) (Q:VK),Lk K H ts vs->f ts=some t->(∀v H',New K H H' t v->Q v H')->red vs H Q
private def mOp(f:T->T->Option T)(a b:ME):ME:=⟨λO=>match a.run O with
 | some (ra,O1)=>match b.run O1 with
  | some (rb,O2)=>if ax b.mu ra=true then(match f ra.t rb.t with
   | some t=>some (⟨.ow,t⟩,O2)
   | none=>none)else none
  | none=>none
 | none=>none,a.mu++b.mu⟩
def pR{red:R2}{f:T->T->Option T}{ta tb:TE}{a b:ME}(hp:eu K red f)(ha:aV K ta a)(hb:aV K tb b):aV K (tOp red ta tb) (mOp f a b):=by unhygienic
 intro Γ H O Z E Q r O' hK hr S q;dsimp[mOp]at hr;split at hr
 ·delta ra O1 e1;split at hr
  ·delta rb O2 e2;split at hr
   ·delta al;split at hr
    ·delta t e3;cases hr;apply ha Γ H O Z E _ ra O1 hK e1 S λx H1 S1=>?_;apply hb Γ H1 O1 Z _ _ rb _ hK e2 S1 λy H2 S2=>?_;rw[ar (bp al),ae]at S2;have r1:=S2.rd (ymC _ ymS);have r2:=S2.rd ymS;rw[hK]at r1 r2;apply hp H2 x y ra.t rb.t t Q r1 r2 e3 λv H3 n=>q v H3 ?_;rw[<-hK]at n;exact((S2.drop rfl).drop rfl).fresh n
    ·cases hr
   ·cases hr
  ·cases hr
 ·cases hr
private def mUn(f:T->Option T)(a:ME):ME:=⟨λO=>match a.run O with
 | some (ra,O1)=>(match f ra.t with
  | some t=>some (⟨.ow,t⟩,O1)
  | none=>none)
 | none=>none,a.mu⟩
def Sim.rds:∀{vs:List V} {rs:List R} {E:List En},Sim Γ H O Z (ens vs rs++E)->vs.length=rs.length->Lk Γ.K H (rs.map (·.t)) vs
 | [],[],E,S,_=>rfl
 | v::vs,r::rs,E,S,h=>by
  rw[ens,GL]at S;exact⟨v,vs,rfl,S.rd ymS,Sim.rds (S.drop rfl) (by exists h)⟩
 | [],_::_,_,_,h=>by cases h
 | _::_,[],_,_,h=>by cases h
def Sim.drops:∀{vs:List V} {rs:List R} {E:List En},Sim Γ H O Z (ens vs rs++E)->Sim Γ H O Z E
 | [],rs,E,S=>by cases rs<;>exact S
 | v::vs,[],E,S=>S
 | v::vs,r::rs,E,S=>by
  rw[ens,GL]at S;exact Sim.drops (S.drop rfl)
private def mB(f:List T->Option T)(a:MA):ME:=⟨λO=>match a.run O with
 | some (rs,O1)=>(match f (rs.map (·.t))with
  | some t=>some (⟨.ow,t⟩,O1)
  | none=>none)
 | none=>none,a.mu⟩
def n8{red:List V->Hp->VK->Prop}{f:List T->Option T}{ta:TA}{a:MA}(hp:eA K red f)(ha:gI K ta a):aV K (tCB red ta) (mB f a):=by unhygienic
 intro Γ H O Z E Q r O' hK hr S q;dsimp[mB]at hr;split at hr
 ·delta rs O1 e1;split at hr
  ·delta t e3;cases hr;apply ha Γ H O Z E _ rs _ hK e1 S λvs H1 hl S1=>?_;have r1:=S1.rds hl;rw[hK]at r1;apply hp H1 vs _ t Q r1 e3 λv H3 n=>q v H3 ?_;rw[<-hK]at n;exact S1.drops.fresh n
  ·cases hr
 ·cases hr
private def mM(f:T->List T->Option T)(o:ME)(a:MA):ME:=⟨λO=>match o.run O with
 | some (r,O0)=>match a.run O0 with
  | some (rs,O1)=>if ax a.mu r=true then(match f r.t (rs.map (·.t))with
   | some t=>some (⟨.ow,t⟩,O1)
   | none=>none)else none
  | none=>none
 | none=>none,o.mu++a.mu⟩
abbrev qk(K:yF)(T0:String)(red:V->List V->Hp->VK->Prop)(f:T->List T->Option T):Prop:=∀(H:Hp) (x:V) (vs:List V) (tx:T) (ts:List T) (t:T) (Q:VK),Rpx K H tx x->Lk K H ts vs->f tx ts=some t->(∀v H',New K H H' t v->Q v H')->red x vs H Q
def Al{T0:String}{red:V->List V->Hp->VK->Prop}{f:T->List T->Option T}{to:TE}{ta:TA}{o:ME}{a:MA}(hp:qk K T0 red f)(hty:∀(H:Hp) (x:V) (tx:T) ts t,Rpx K H tx x->f tx ts=some t->tyV K T0 x H)(ho:aV K to o)(ha:gI K ta a):aV K (tBM K T0 red to ta) (mM f o a):=by unhygienic
 intro Γ H O Z E Q r O' hK hr S q;dsimp[mM]at hr;split at hr
 ·delta r0 O0 e0;split at hr
  ·delta rs O1 e1;split at hr
   ·delta al;split at hr
    ·delta t e3;cases hr;apply ho Γ H O Z E _ r0 _ hK e0 S λx H1 S1=>?_;have r0':=S1.rd ymS;rw[hK]at r0';apply⟨hty H1 x _ _ _ r0' e3,?_⟩;apply ha Γ H1 O0 Z _ _ rs _ hK e1 S1 λvs H2 hl S2=>?_;rw[ar (bp al),ae]at S2;have r1:=S2.rds hl;have S3:=S2.drops;have r2:=S3.rd ymS;rw[hK]at r1 r2;apply hp H2 x vs _ _ t Q r2 r1 e3 λv H3 n=>q v H3 ?_;rw[<-hK]at n;exact(S3.drop rfl).fresh n
    ·cases hr
   ·cases hr
  ·cases hr
 ·cases hr
private def aJ(a:ME):MT:=⟨λO=>match a.run O with
 | some (⟨_,.im (.bl b)⟩,O1)=>some (b,O1)
 | _=>none,a.mu⟩
def oa{ta:TE}{a:ME}(ha:aV K ta a):ef K (Ar ta) (aJ a):=by unhygienic
 intro Γ H O Z E Q b O' hK hr S q;dsimp[aJ]at hr;split at hr
 ·delta k b0 O1 e1;cases hr;apply ha Γ H O Z E _ _ _ hK e1 S λx H1 S1=>⟨b,?_,q H1 (S1.drop rfl)⟩;have r1:=S1.rd ymS;exact om r1
 ·cases hr
def CL{ta:TE}{a:ME}(ha:aV K ta a):ef K (tB ta) (aJ a):=oa ha
abbrev tru:T->Option Bool
 | .im .non=>some false
 | .im (.bl b)=>some b
 | .im (.int i)=>some (i != 0)
 | .im (.str x)=>if x.length<=sizeLine then some ((x.length:Int) != 0)else none
 | .im (.tup is)=>some (!is.isEmpty)
 | .li is=>some (!is.isEmpty)
 | .lst ts=>some (!ts.isEmpty)
 | .tup ts=>some (!ts.isEmpty)
 | _=>none
private def pw(a:ME):MT:=⟨λO=>match a.run O with
 | some (r,O1)=>(match tru r.t with
  | some b=>some (b,O1)
  | none=>none)
 | none=>none,a.mu⟩
def gv{α β:Type}{l:List α}{m:List β}(h:l.length=m.length):l.isEmpty=m.isEmpty:=by
 cases l<;>cases m<;>first|rfl|cases h
def tru_ok'{b:Bool}(h:tru t=some b)(r:Rpx K H t v):xm K v H b:=by
 cases t with
 | im i=>
  cases i with
  | non=>rw[CP r];cases h;rfl
  | bl x=>rw[om r];cases h;rfl
  | int x=>rw[aO r];cases h;rfl
  | str x=>
   rw[dh r];dsimp[tru]at h;split at h;cases h;exact⟨by assumption,rfl⟩;cases h
  | tup is=>
   obtain⟨a,xs,rfl,h1,h2⟩:=bO r;cases h;exact .inr (.inl ⟨xs,h1,by rw[gv h2.length]⟩)
  | ls is=>cases h
  | fd _ _=>cases h
 | li is=>
  obtain⟨a,xs,rfl,h1,h2⟩:=cM r;cases h;exact .inl ⟨xs,aX h1,by rw[gv h2.length]⟩
 | lst is=>
  obtain⟨a,xs,F,rfl,h1,h2⟩:=ib r;cases h;exact .inl ⟨xs,aX h1,by rw[gv h2.length]⟩
 | tup ts=>
  obtain⟨F,r⟩:=r;rw[Rp]at r;obtain⟨a,xs,rfl,h1,h2⟩:=r;cases h;exact .inr (.inl ⟨xs,h1,by rw[gv h2.length]⟩)
 | di _=>cases h
 | dc _=>cases h
 | ins _ _=>cases h
def zo{ta:TE}{a:ME}(ha:aV K ta a):ef K (Fd K ta) (pw a):=by unhygienic
 intro Γ H O Z E Q b O' hK hr S q;dsimp[pw]at hr;split at hr
 ·delta r O1 e1;split at hr
  ·delta b0 e2;cases hr;apply ha Γ H O Z E _ _ _ hK e1 S λx H1 S1=>⟨b,?_,q H1 (S1.drop rfl)⟩;have r1:=S1.rd ymS;rw[hK]at r1;exact tru_ok' e2 r1
  ·cases hr
 ·cases hr
private def kr(a b:MT):MT:=⟨λO=>match a.run O with
 | some (true,O1)=>b.run O1
 | some (false,O1)=>some (false,O1)
 | none=>none,a.mu++b.mu⟩
private def mOr(a b:MT):MT:=⟨λO=>match a.run O with
 | some (true,O1)=>some (true,O1)
 | some (false,O1)=>b.run O1
 | none=>none,a.mu++b.mu⟩
private def su(a:MT):MT:=⟨λO=>match a.run O with
 | some (b,O1)=>some (!b,O1)
 | none=>none,a.mu⟩
def y9{ta tb:TT}{a b:MT}(ha:ef K ta a)(hb:ef K tb b):ef K (EY ta tb) (kr a b):=by
 intro Γ H O Z E Q c O' hK hr S q;dsimp[kr]at hr q;split at hr
 ·delta O1 e1;apply ha Γ H O Z E _ _ _ hK e1 S λH1 S1=>pc ?_;exact hb Γ H1 O1 Z _ _ _ _ hK hr S1 λH2 S2=>q H2 (by rw[<-ae];exact S2)
 ·delta O1 e1;cases hr;exact ha Γ H O Z E _ _ _ hK e1 S λH1 S1=>pb (q H1 (by rw[<-ae];exact S1.weak _))
 ·cases hr
def CI{ta tb:TT}{a b:MT}(ha:ef K ta a)(hb:ef K tb b):ef K (tOr ta tb) (mOr a b):=by
 intro Γ H O Z E Q c O' hK hr S q;dsimp[mOr]at hr q;split at hr
 ·delta O1 e1;cases hr;exact ha Γ H O Z E _ _ _ hK e1 S λH1 S1=>pc (q H1 (by rw[<-ae];exact S1.weak _))
 ·delta O1 e1;apply ha Γ H O Z E _ _ _ hK e1 S λH1 S1=>pb ?_;exact hb Γ H1 O1 Z _ _ _ _ hK hr S1 λH2 S2=>q H2 (by rw[<-ae];exact S2)
 ·cases hr
def zg{ta:TT}{a:MT}(ha:ef K ta a):ef K (E8 ta) (su a):=by
 intro Γ H O Z E Q c O' hK hr S q;dsimp[su]at hr q;split at hr
 ·delta b O1 e1;cases hr;exact ha Γ H O Z E _ _ _ hK e1 S λH1 S1=>q H1 S1
 ·cases hr
private def mAndV(a b:ME):ME:=⟨λO=>match a.run O with
 | some (⟨_,.im (.bl true)⟩,O1)=>b.run O1
 | some (⟨_,.im (.bl false)⟩,O1)=>some (⟨.ow,.im (.bl false)⟩,O1)
 | _=>none,a.mu++b.mu⟩
private def pj(a b:ME):ME:=⟨λO=>match a.run O with
 | some (⟨_,.im (.bl true)⟩,O1)=>some (⟨.ow,.im (.bl true)⟩,O1)
 | some (⟨_,.im (.bl false)⟩,O1)=>b.run O1
 | _=>none,a.mu++b.mu⟩
def zh{ta tb:TE}{a b:ME}(ha:aV K ta a)(hb:aV K tb b):aV K (E9 ta tb) (pj a b):=by
 intro Γ H O Z E Q c O' hK hr S q;dsimp[pj]at hr q;split at hr
 ·delta k O1 e1;cases hr;apply ha Γ H O Z E _ _ _ hK e1 S λx H1 S1=>⟨true,om (S1.rd ymS),pc (q _ H1 ?_)⟩;rw[<-ae];exact((S1.drop rfl).weak _).imm (jL rfl)
 ·delta k O1 e1;apply ha Γ H O Z E _ _ _ hK e1 S λx H1 S1=>⟨false,om (S1.rd ymS),pb ?_⟩;exact hb Γ H1 O1 Z _ _ _ _ hK hr (S1.drop rfl) λv H2 S2=>q v H2 (by rw[<-ae];exact S2)
 ·cases hr
end
mutual
noncomputable def I.dok:I->Bool
 | .int _=>true|.str _=>true|.tup is=>I.doks is|_=>false
noncomputable def I.doks:List I->Bool
 | []=>true
 | i::is=>i.dok&&I.doks is
end
mutual
noncomputable def I.toD:I->D
 | .int i=>.int i|.str x=>.str x|.tup is=>.tup (I.toDs is)|_=>.int 0
noncomputable def I.toDs:List I->List D
 | []=>[]
 | i::is=>i.toD::I.toDs is
end
mutual
noncomputable def I.dep:I->Nat
 | .tup is=>I.deps is+1|_=>0
noncomputable def I.deps:List I->Nat
 | []=>0
 | i::is=>max i.dep (I.deps is)
end
mutual
theorem AI:∀(i:I),i.toD.depth=i.dep
 | .non=>rfl|.bl _=>rfl|.int _=>rfl|.str _=>rfl|.ls _=>rfl|.fd _ _=>rfl
 | .tup is=>by rw[I.toD,D.depth,I.dep,eB is]
theorem eB:∀(is:List I),aF (I.toDs is)=I.deps is
 | []=>rfl
 | i::is=>by rw[I.toDs,aF,I.deps,AI i,eB is]
end
mutual
theorem rF:∀{a b:I},a.dok=true->b.dok=true->(a.toD=b.toD↔a=b)
 | .non,_,h,_=>by simp[I.dok]at h
 | .bl _,_,h,_=>by simp[I.dok]at h
 | .ls _,_,h,_=>by simp[I.dok]at h
 | .fd _ _,_,h,_=>by simp[I.dok]at h
 | .int x,b,_,h=>by cases b<;>simp[I.dok]at h<;>simp[I.toD]
 | .str x,b,_,h=>by cases b<;>simp[I.dok]at h<;>simp[I.toD]
 | .tup x,b,h1,h=>by
  cases b with
  | tup y=>
   rw[I.dok]at h h1;rw[I.toD,I.toD,D.tup.injEq,I.tup.injEq];exact iW h1 h
  | non=>simp[I.dok]at h
  | bl _=>simp[I.dok]at h
  | ls _=>simp[I.dok]at h
  | fd _ _=>simp[I.dok]at h
  | int _=>simp[I.toD]
  | str _=>simp[I.toD]
theorem iW:∀{a b:List I},I.doks a=true->I.doks b=true->(I.toDs a=I.toDs b↔a=b)
 | [],b,_,_=>by cases b<;>simp[I.toDs]
 | x::xs,b,h1,h=>by
  cases b with
  | nil=>simp[I.toDs]
  | cons y ys=>
   rw[I.doks,Gd]at h h1;rw[I.toDs,I.toDs,HD.injEq,HD.injEq,rF h1.1 h.1,iW h1.2 h.2]
end
section
variable {K:yF}{H:Hp}
mutual
theorem hV:∀{i:I} {v:V},i.dok=true->RpI K H i v->Rep K H i.toD v
 | .non,_,h,_=>by simp[I.dok]at h
 | .bl _,_,h,_=>by simp[I.dok]at h
 | .ls _,_,h,_=>by simp[I.dok]at h
 | .fd _ _,_,h,_=>by simp[I.dok]at h
 | .int _,_,_,r=>by rw[RpI]at r;rw[I.toD,Rep];exact r
 | .str _,_,_,r=>by rw[RpI]at r;rw[I.toD,Rep];exact r
 | .tup is,_,h,r=>by
  rw[RpI]at r;rw[I.dok]at h;obtain⟨a,xs,h1,h2,h3⟩:=r;rw[I.toD,Rep];exact⟨a,xs,h1,h2,eH h h3⟩
theorem eH:∀{is:List I} {vs:List V},I.doks is=true->KT K H is vs->K2 K H (I.toDs is) vs
 | [],_,_,r=>by rw[KT]at r;rw[I.toDs,K2];exact r
 | i::is,_,h,r=>by
  rw[KT]at r;rw[I.doks,Gd]at h;obtain⟨x,xs,h1,h2,h3⟩:=r;rw[I.toDs,K2];exact⟨x,xs,h1,hV h.1 h2,eH h.2 h3⟩
end
def f8{i:I}:∀{is:List I},i.dok=true->I.doks is=true->(i.toD∈I.toDs is↔i∈is)
 | [],_,_=>by simp[I.toDs]
 | x::xs,h,hs=>by
  rw[I.doks,Gd]at hs;rw[I.toDs,Hs,Hs,rF h hs.1,f8 h hs.2]
abbrev isI:T->Option Int
 | .im i=>(match i with|.int a=>some a|_=>none)
 | _=>none
abbrev isS:T->Option Str
 | .im i=>(match i with|.str a=>some a|_=>none)
 | _=>none
abbrev AZ:T->Option (List I)
 | .im i=>(match i with|.tup a=>some a|_=>none)
 | _=>none
abbrev uy:T->Option (List I)
 | .li a=>some a
 | _=>none
def cn{t:T}{a:Int}(h:isI t=some a):t=.im (.int a):=by
 cases t with
 | im i=>cases i<;>cases h;rfl
 | _=>cases h
def xI{t:T}{a:Str}(h:isS t=some a):t=.im (.str a):=by
 cases t with
 | im i=>cases i<;>cases h;rfl
 | _=>cases h
def nJ{t:T}{a:List I}(h:AZ t=some a):t=.im (.tup a):=by
 cases t with
 | im i=>cases i<;>cases h;rfl
 | _=>cases h
def eX{t:T}{a:List I}(h:uy t=some a):t=.li a:=by
 cases t with
 | li i=>cases h;rfl
 | _=>cases h
abbrev i2(g:Int->Int->Option T) (x y:T):Option T:=match isI x with
 | some a=>(match isI y with
  | some b=>g a b
  | none=>none)
 | none=>none
def gZ{g:Int->Int->Option T}{x y t:T}(h:i2 g x y=some t):∃a b,x=.im (.int a)/\y=.im (.int b)/\g a b=some t:=by
 unfold i2 at h;split at h
 ·delta a ea;split at h
  ·delta b eb;exact⟨a,b,cn ea,cn eb,h⟩
  ·cases h
 ·cases h
def aQ{α:Type}{c:Prop}[Decidable c]{t u : α}(h:(if c then some t else none)=some u):c/\t=u:=by
 by_cases hc:c;rw[if_pos hc]at h;exact⟨hc,GK.inj h⟩;rw[if_neg hc]at h;cases h
abbrev Dr(i:I) (y:T):Option T:=match i with
 | .int a=>(match isI y with|some b=>some (.im (.int (a+b)))|none=>none)
 | .str a=>(match isS y with|some b=>if a.length+b.length<=sizeLine then some (.im (.str (a++b)))else none|none=>none)
 | .tup a=>(match AZ y with|some b=>if a.length+b.length<=sizeLine then some (.im (.tup (a++b)))else none|none=>none)
 | _=>none
private def bh(x y:T):Option T:=match x with
 | .im i=>Dr i y
 | .li a=>(match uy y with|some b=>if a.length+b.length<=sizeLine then some (.li (a++b))else none|none=>none)
 | _=>none
def KT.nil_iff{is:List I}{xs:List V}(h:KT K H is xs):xs=[]↔is=[]:=by
 have:=h.length;cases is<;>cases xs<;>first|(simp;done)|(cases this;done)
def vo:eu K (vV K) bh:=by
 intro H x y tx ty t Q rx ry e q;unfold bh at e;split at e
 ·delta i;unfold Dr at e;split at e
  ·split at e
   ·delta b eb;cases cn eb;cases e;rw[aO rx,aO ry];exact .inl (.inl ⟨_,_,rfl,rfl,q _ H (.sc rfl)⟩)
   ·cases e
  ·split at e
   ·delta b eb;cases xI eb;obtain⟨hl,rfl⟩:=aQ e;rw[dh rx,dh ry];exact .inl (.inr (.inl ⟨_,_,rfl,rfl,hl,q _ H (.sc rfl)⟩))
   ·cases e
  ·delta a;split at e
   ·delta b eb;cases nJ eb;obtain⟨hl,rfl⟩:=aQ e;obtain⟨p,xs,rfl,h1,h2⟩:=bO rx;obtain⟨p',ys,rfl,g1,g2⟩:=bO ry;by_cases ha:a=[]
    ·subst ha;have:=h2.nil_inv;subst this;apply .inr (.inr ⟨p,p',ys,rfl,rfl,h1,g1,q _ H (.im ?_)⟩);rw[RpI];exact⟨p',ys,rfl,g1,g2⟩
    ·apply .inl (.inr (.inr (.inr ⟨p,p',xs,ys,rfl,rfl,h1,g1,λz=>ha (h2.nil_iff.mp z),by rw[h2.length,g2.length];exact hl,λz=>q _ H (.im ?_),λz p hp=>q _ _ (.tup hp (h2.append g2))⟩)));have:=g2.nil_iff.mp z;subst this;rw[Gy,RpI];exact⟨p,xs,rfl,h1,h2⟩
   ·cases e
  ·cases e
 ·split at e
  ·delta b eb;cases eX eb;obtain⟨hl,rfl⟩:=aQ e;obtain⟨p,xs,rfl,h1,h2⟩:=cM rx;obtain⟨p',ys,rfl,g1,g2⟩:=cM ry;exact .inr (.inl ⟨p,p',xs,ys,rfl,rfl,h1,g1,by rw[h2.length,g2.length];exact hl,λp hp=>q _ _ (.li hp (h2.append g2))⟩)
  ·cases e
 ·cases e
private def da:T->T->Option T:=i2 λa b=>some (.im (.int (a-b)))
def vJ:eu K (rI0 λi j=>.int (i-j)) da:=by
 intro H x y tx ty t Q rx ry e q;unfold da at e;obtain⟨a,b,rfl,rfl,e⟩:=gZ e;cases e;rw[aO rx,aO ry];exact⟨_,_,rfl,rfl,q _ H (.sc rfl)⟩
abbrev jG(i j:Int):Bool:=(decide (-(2^64)<i)&&decide (i<2^64))||(decide (-(2^64)<j)&&decide (j<2^64))
def yb{i j:Int}(h:jG i j=true):LA i j:=by
 unfold jG at h;dsimp[Hl,Gd,decide_eq_true_eq]at h;exact h
abbrev DL(i:I) (b:Int):Option T:=match i with
 | .int a=>if jG a b=true then some (.im (.int (a*b)))else none
 | .str a=>if 1<=b/\b<=1000/\a.length<=1000 then some (.im (.str (oL (Gh b.toNat (sL a)).flatten)))else none
 | .tup a=>if a≠[]/\a.length<=1000/\1<=b/\b<=1000 then some (.im (.tup (Gh b.toNat a).flatten))else none
 | _=>none
private def el(x y:T):Option T:=match isI y with
 | some b=>(match x with
  | .im i=>DL i b
  | .li a=>if -(2^63)<=b/\b<2^63/\a.length*b.toNat<=sizeLine then some (.li (Gh b.toNat a).flatten)else none
  | _=>none)
 | none=>none
def KT.reps{is:List I}{xs:List V}(h:KT K H is xs):∀n:Nat,KT K H (Gh n is).flatten (Gh n xs).flatten
 | 0=>.nil
 | n+1=>by
  rw[G6,G6,Hv,Hv];exact h.append (h.reps n)
def vD:eu K (wc K) el:=by
 intro H x y tx ty t Q rx ry e q;unfold el at e;split at e
 ·delta b eb;cases cn eb;split at e
  ·unfold DL at e;split at e
   ·obtain⟨h,rfl⟩:=aQ e;rw[aO rx,aO ry];exact .inl (.inl ⟨_,_,rfl,rfl,yb h,q _ H (.sc rfl)⟩)
   ·obtain⟨h,rfl⟩:=aQ e;rw[dh rx,aO ry];exact .inl (.inr (.inl ⟨_,_,rfl,rfl,h.1,h.2.1,h.2.2,q _ H (.sc rfl)⟩))
   ·delta a;obtain⟨h,rfl⟩:=aQ e;obtain⟨p,xs,rfl,h1,h2⟩:=bO rx;rw[aO ry];apply .inl (.inr (.inr (.inr ⟨p,b,xs,rfl,rfl,h1,λz=>h.1 (h2.nil_iff.mp z),by rw[h2.length];exact h.2.1,h.2.2.1,h.2.2.2,λz=>q _ H (.im ?_),λz p hp=>q _ _ (.tup hp (h2.reps _))⟩)));subst z;have e1:(Gh (1:Int).toNat a).flatten=a:=by simp
    rw[e1,RpI];exact⟨p,xs,rfl,h1,h2⟩
   ·cases e
  ·obtain⟨h,rfl⟩:=aQ e;obtain⟨p,xs,rfl,h1,h2⟩:=cM rx;rw[aO ry];exact .inr ⟨p,b,xs,rfl,rfl,h1,h.1,h.2.1,by rw[h2.length];exact h.2.2,λp hp=>q _ _ (.li hp (h2.reps _))⟩
  ·cases e
 ·cases e
private def jC:T->T->Option T:=i2 λa b=>if 0<b/\b<2^64 then some (.im (.int (a / b)))else none
def sN:eu K (rI oR λi j=>.int (i / j)) jC:=by
 intro H x y tx ty t Q rx ry e q;unfold jC at e;obtain⟨a,b,rfl,rfl,e⟩:=gZ e;obtain⟨h,rfl⟩:=aQ e;rw[aO rx,aO ry];exact⟨_,_,rfl,rfl,h,q _ H (.sc rfl)⟩
private def f9:T->T->Option T:=i2 λa b=>if 0<b then some (.im (.int (a % b)))else none
def vC:eu K (rI (λ_ j=>0<j) λi j=>.int (i % j)) f9:=by
 intro H x y tx ty t Q rx ry e q;unfold f9 at e;obtain⟨a,b,rfl,rfl,e⟩:=gZ e;obtain⟨h,rfl⟩:=aQ e;rw[aO rx,aO ry];exact⟨_,_,rfl,rfl,h,q _ H (.sc rfl)⟩
private def sK:T->T->Option T:=i2 λa b=>if 0<=b/\b<=1000000/\a.natAbs<2^64 then some (.im (.int (a^b.toNat)))else none
def vG:eu K (rI Av λi j=>.int (i^j.toNat)) sK:=by
 intro H x y tx ty t Q rx ry e q;unfold sK at e;obtain⟨a,b,rfl,rfl,e⟩:=gZ e;obtain⟨h,rfl⟩:=aQ e;rw[aO rx,aO ry];exact⟨_,_,rfl,rfl,h,q _ H (.sc rfl)⟩
private def fU(p:Int->Int->Bool):T->T->Option T:=i2 λa b=>some (.im (.bl (p a b)))
def kF{p:Int->Int->Bool}:eu K (rI0 λi j=>.bl (p i j)) (fU p):=by
 intro H x y tx ty t Q rx ry e q;unfold fU at e;obtain⟨a,b,rfl,rfl,e⟩:=gZ e;cases e;rw[aO rx,aO ry];exact⟨_,_,rfl,rfl,q _ H (.sc rfl)⟩
abbrev Ao(a b:I):Bool:=match a.sc with
 | some v=>(match b.sc with
  | some w=>wI v w
  | none=>false)
 | none=>false
abbrev ofV:V->I
 | .bl b=>.bl b
 | .int i=>.int i
 | .str x=>.str x
 | _=>.non
def zY{a:I}{v:V}(h:a.sc=some v):ofV v=a:=by cases a<;>cases h<;>rfl
abbrev eqI:I->I->Option Bool
 | .tup a,.tup b=>if I.doks a=true/\I.doks b=true/\I.deps a<=50 then some (decide (a=b))else none
 | a,b=>if Ao a b=true then some (decide (a=b))else none
abbrev eqB:T->T->Option Bool
 | .im a,.im b=>eqI a b
 | .li a,.li b=>if I.doks a=true/\I.doks b=true/\I.deps a<=50 then some (decide (a=b))else none
 | _,_=>none
private def eqT(x y:T):Option T:=(eqB x y).map λb=>.im (.bl b)
private def neT(x y:T):Option T:=(eqB x y).map λb=>.im (.bl !b)
def AL{a b:I}{c:Bool}(h:eqI a b=some c):(∃x y,a=.tup x/\b=.tup y/\I.doks x=true/\I.doks y=true/\I.deps x<=50/\c=decide (x=y)) \/ ∃v w,a.sc=some v/\b.sc=some w/\wI v w=true/\c=decide (v=w):=by
 unfold eqI at h;split at h
 ·delta x y;split at h;delta hh;cases h;exact .inl ⟨x,y,rfl,rfl,hh.1,hh.2.1,hh.2.2,rfl⟩;cases h
 ·split at h
  ·delta hh;cases h;right;unfold Ao at hh;split at hh
   ·delta v ev;split at hh
    ·delta w ew;apply⟨v,w,ev,ew,hh,?_⟩;have:(a=b)↔(v=w):=⟨λz=>GK.inj (ev.symm.trans ((congrArg I.sc z).trans ew)),λz=>by rw[<-zY ev,<-zY ew,z]⟩;exact decide_eq_decide.mpr this
    ·cases hh
   ·cases hh
  ·cases h
def uk{x y:V}{tx ty:T}{b:Bool}{P:V->Prop}(rx:Rpx K H tx x)(ry:Rpx K H ty y)(e:eqB tx ty=some b) :
  (wI x y=true/\b=decide (x=y))\/(∃ds es,Rep K H (.tup ds) x/\Rep K H (.tup es) y/\aF ds<=50/\(b=true↔ds=es))\/(∃p q xs ys ds es,x=.ref p/\y=.ref q/\SqL K H p xs/\SqL K H q ys/\K2 K H ds xs/\K2 K H es ys/\aF ds<=50/\(b=true↔ds=es)):=by
 unfold eqB at e;split at e
 ·delta a c;rcases AL e with⟨x1,y1,rfl,rfl,h1,h2,h3,rfl⟩|⟨v,w,h1,h2,h3,rfl⟩
  ·apply .inr (.inl ⟨I.toDs x1,I.toDs y1,?_,?_,by rw[eB];exact h3,?_⟩)
   ·have:=hV (i:=.tup x1) (by rw[I.dok];exact h1) (dt rx);rwa [I.toD]at this
   ·have:=hV (i:=.tup y1) (by rw[I.dok];exact h2) (dt ry);rwa [I.toD]at this
   ·rw[decide_eq_true_eq,iW h1 h2]
  ·rw[An h1 (dt rx),An h2 (dt ry)];exact .inl ⟨h3,rfl⟩
 ·split at e
  ·delta a c h;cases e;obtain⟨p,xs,rfl,h1,h2⟩:=cM rx;obtain⟨p',ys,rfl,g1,g2⟩:=cM ry;exact .inr (.inr ⟨p,p',xs,ys,_,_,rfl,rfl,aX h1,aX g1,eH h.1 h2,eH h.2.1 g2,by rw[eB];exact h.2.2,by rw[decide_eq_true_eq,iW h.1 h.2.1]⟩)
  ·cases e
 ·cases e
def yB:eu K (Cu K) eqT:=by
 intro H x y tx ty t Q rx ry e q;unfold eqT at e;cases h:eqB tx ty with
 | none=>rw[h]at e;cases e
 | some b=>
  rw[h]at e;cases e;rcases uk (P:=λ_=>True) rx ry h with⟨h1,rfl⟩|⟨ds,es,h1,h2,h3,h4⟩|⟨p,p',xs,ys,ds,es,h1,h2,h3,h4,h5,h6,h7,h8⟩;exact .inl ⟨h1,q _ H (.sc rfl)⟩
  ·apply .inr (.inl ⟨ds,es,h1,h2,h3,λc hc=>?_⟩);have:c=b:=by rw[GR,hc,h4]
   subst this;exact q _ H (.sc rfl)
  ·apply .inr (.inr ⟨p,p',xs,ys,ds,es,h1,h2,h3,h4,h5,h6,h7,λc hc=>?_⟩);have:c=b:=by rw[GR,hc,h8]
   subst this;exact q _ H (.sc rfl)
def yD:eu K (Cw K) neT:=by
 intro H x y tx ty t Q rx ry e q;unfold neT at e;cases h:eqB tx ty with
 | none=>rw[h]at e;cases e
 | some b=>
  rw[h]at e;cases e;rcases uk (P:=λ_=>True) rx ry h with⟨h1,rfl⟩|⟨ds,es,h1,h2,h3,h4⟩|⟨p,p',xs,ys,ds,es,h1,h2,h3,h4,h5,h6,h7,h8⟩;exact .inl ⟨h1,q _ H (.sc rfl)⟩
  ·apply .inr (.inl ⟨ds,es,h1,h2,h3,λc hc=>?_⟩);have:c = !b:=by cases b<;>cases c<;>simp_all
   subst this;exact q _ H (.sc rfl)
  ·apply .inr (.inr ⟨p,p',xs,ys,ds,es,h1,h2,h3,h4,h5,h6,h7,λc hc=>?_⟩);have:c = !b:=by cases b<;>cases c<;>simp_all
   subst this;exact q _ H (.sc rfl)
abbrev occ(i j:Str):Bool:=!(MH j i 0 j.length 1).isEmpty
abbrev inI(i:I) (y:T):Option Bool:=match y with
 | .im j=>(match j with
  | .str b=>(match i with
   | .str a=>some (occ a b)
   | _=>none)
  | .tup is=>if i.dok=true/\I.doks is=true/\I.deps is<=50 then some (decide (i∈is))else none
  | _=>none)
 | .li is=>if i.dok=true/\I.doks is=true/\I.deps is<=50 then some (decide (i∈is))else none
 | _=>none
abbrev inB(x y:T):Option Bool:=match x with
 | .im i=>inI i y
 | _=>none
private def inT(x y:T):Option T:=(inB x y).map λb=>.im (.bl b)
private def iP(x y:T):Option T:=(inB x y).map λb=>.im (.bl !b)
def uw{x y:V}{tx ty:T}{b:Bool}(rx:Rpx K H tx x)(ry:Rpx K H ty y)(e:inB tx ty=some b) :
  (∃i j,x=.str i/\y=.str j/\b=occ i j)\/(∃p xs d ds,y=.ref p/\(SqL K H p xs\/SqT K H p xs)/\Rep K H d x/\K2 K H ds xs/\aF ds<=50/\(b=true↔d∈ds)):=by
 unfold inB at e;split at e
 ·unfold inI at e;split at e
  ·split at e
   ·split at e;cases e;exact .inl ⟨_,_,dh rx,dh ry,rfl⟩;cases e
   ·obtain⟨h,rfl⟩:=aQ e;obtain⟨p,xs,rfl,h1,h2⟩:=bO ry;exact .inr ⟨p,xs,_,_,rfl,.inr h1,hV h.1 (dt rx),eH h.2.1 h2,by rw[eB];exact h.2.2,by rw[decide_eq_true_eq,f8 h.1 h.2.1]⟩
   ·cases e
  ·obtain⟨h,rfl⟩:=aQ e;obtain⟨p,xs,rfl,h1,h2⟩:=cM ry;exact .inr ⟨p,xs,_,_,rfl,.inl (aX h1),hV h.1 (dt rx),eH h.2.1 h2,by rw[eB];exact h.2.2,by rw[decide_eq_true_eq,f8 h.1 h.2.1]⟩
  ·cases e
 ·cases e
def yC:eu K (Cv K) inT:=by
 intro H x y tx ty t Q rx ry e q;unfold inT at e;cases h:inB tx ty with
 | none=>rw[h]at e;cases e
 | some b=>
  rw[h]at e;cases e;rcases uw rx ry h with⟨i,j,rfl,rfl,rfl⟩|⟨p,xs,d,ds,h1,h2,h3,h4,h5,h6⟩;exact .inl ⟨i,j,rfl,rfl,q _ H (.sc rfl)⟩
  ·apply .inr (.inr ⟨p,xs,d,ds,h1,h2,h3,h4,h5,λc hc=>?_⟩);have:c=b:=by rw[GR,hc,h6];simp
   subst this;exact q _ H (.sc rfl)
def vE:eu K (mU K) iP:=by
 intro H x y tx ty t Q rx ry e q;unfold iP at e;cases h:inB tx ty with
 | none=>rw[h]at e;cases e
 | some b=>
  rw[h]at e;cases e;rcases uw rx ry h with⟨i,j,rfl,rfl,rfl⟩|⟨p,xs,d,ds,h1,h2,h3,h4,h5,h6⟩;exact .inl ⟨i,j,rfl,rfl,q _ H (.sc rfl)⟩
  ·apply .inr (.inr ⟨p,xs,d,ds,h1,h2,h3,h4,h5,λc hc=>?_⟩);have:c = !b:=by cases b<;>cases c<;>simp_all
   subst this;exact q _ H (.sc rfl)
abbrev l1{α:Type} (g:T->Option α) (ts:List T):Option α:=match ts with
 | []=>none
 | t::r=>(match r with
  | []=>g t
  | _::_=>none)
def bX{α:Type}{g:T->Option α}{ts:List T}{u : α}(h:l1 g ts=some u):∃t,ts=[t]/\g t=some u:=by
 cases ts with
 | nil=>cases h
 | cons t r=>cases r with
  | nil=>exact⟨t,rfl,h⟩
  | cons _ _=>cases h
abbrev l2{α:Type} (g:T->T->Option α) (ts:List T):Option α:=match ts with
 | []=>none
 | t::r=>l1 (g t) r
def km{α:Type}{g:T->T->Option α}{ts:List T}{u : α}(h:l2 g ts=some u):∃t s,ts=[t,s]/\g t s=some u:=by
 cases ts with
 | nil=>cases h
 | cons t r=>
  obtain⟨s,rfl,e⟩:=bX (show l1 (g t) r=some u from h);exact⟨t,s,rfl,e⟩
abbrev DJ(i:I):Option T:=match i with
 | .str x=>if x.length<=sizeLine then some (.im (.int x.length))else none
 | .tup is=>some (.im (.int is.length))
 | _=>none
abbrev DH(t:T):Option T:=match t with
 | .im i=>DJ i
 | .li is=>some (.im (.int is.length))
 | .lst ts=>some (.im (.int ts.length))
 | .tup ts=>some (.im (.int ts.length))
 | _=>none
private def cL:List T->Option T:=l1 DH
def iT{t:T}{vs:List V}(h:Lk K H [t] vs):∃v,vs=[v]/\Rpx K H t v:=by
 obtain⟨v,r,rfl,h1,h2⟩:=h;rw[Lk]at h2;subst h2;exact⟨v,rfl,h1⟩
def CQ{t u:T}{vs:List V}(h:Lk K H [t,u] vs):∃v w,vs=[v,w]/\Rpx K H t v/\Rpx K H u w:=by
 obtain⟨v,r,rfl,h1,h2⟩:=h;obtain⟨w,rfl,h3⟩:=iT h2;exact⟨v,w,rfl,h1,h3⟩
def rh{ts:List T}{v:V}(h:Rpx K H (.tup ts) v):∃a xs F,v=.ref a/\SqT K H a xs/\Rps K H ts xs F:=by
 obtain⟨F,h⟩:=h;rw[Rp]at h;obtain⟨a,xs,h1,h2,h3⟩:=h;exact⟨a,xs,F,h1,h2,h3⟩
def vy:eA K (wa K) cL:=by
 intro H vs ts t Q r e q;unfold cL at e;have e0:=bX e;clear e;obtain⟨x,rfl,e⟩:=e0;obtain⟨v,rfl,r1⟩:=iT r;unfold DH at e;split at e
 ·unfold DJ at e;split at e
  ·obtain⟨h,rfl⟩:=aQ e;rw[dh r1];exact .inr ⟨_,rfl,h,q _ H (.sc rfl)⟩
  ·cases e;obtain⟨p,xs,rfl,h1,h2⟩:=bO r1;exact .inl ⟨p,xs,rfl,.inr h1,q _ H (.sc (by rw[h2.length];rfl))⟩
  ·cases e
 ·cases e;obtain⟨p,xs,rfl,h1,h2⟩:=cM r1;exact .inl ⟨p,xs,rfl,.inl (aX h1),q _ H (.sc (by rw[h2.length];rfl))⟩
 ·cases e;obtain⟨p,xs,F,rfl,h1,h2⟩:=ib r1;exact .inl ⟨p,xs,rfl,.inl (aX h1),q _ H (.sc (by rw[h2.length];rfl))⟩
 ·cases e;obtain⟨p,xs,F,rfl,h1,h2⟩:=rh r1;exact .inl ⟨p,xs,rfl,.inr h1,q _ H (.sc (by rw[h2.length];rfl))⟩
 ·cases e
private def pC:List T->Option T:=l2 (i2 λa b=>some (.im (.int (if b<a then b else a))))
def vB:eA K (λxs H Q=>∃i j,xs=[.int i,.int j]/\Q (.int (if j<i then j else i)) H) pC:=by
 intro H vs ts t Q r e q;unfold pC at e;have e0:=km e;clear e;obtain⟨x,y,rfl,e⟩:=e0;obtain⟨a,b,rfl,rfl,e⟩:=gZ e;cases e;obtain⟨v,w,rfl,r1,r2⟩:=CQ r;rw[aO r1,aO r2];exact⟨_,_,rfl,q _ H (.sc rfl)⟩
private def pA:List T->Option T:=l2 (i2 λa b=>some (.im (.int (if b>a then b else a))))
def vA:eA K (λxs H Q=>∃i j,xs=[.int i,.int j]/\Q (.int (if j>i then j else i)) H) pA:=by
 intro H vs ts t Q r e q;unfold pA at e;have e0:=km e;clear e;obtain⟨x,y,rfl,e⟩:=e0;obtain⟨a,b,rfl,rfl,e⟩:=gZ e;cases e;obtain⟨v,w,rfl,r1,r2⟩:=CQ r;rw[aO r1,aO r2];exact⟨_,_,rfl,q _ H (.sc rfl)⟩
abbrev DD(t:T):Option T:=match t with
 | .im i=>(match i with
  | .int a=>some (.im (.int a))
  | .bl b=>some (.im (.int (if b then 1 else 0)))
  | _=>none)
 | _=>none
private def r8:List T->Option T:=l1 DD
def vt:eA K (λxs H Q=>(∃i,xs=[.int i]/\Q (.int i) H) \/ ∃k,xs=[.bl k]/\Q (.int (if k then 1 else 0)) H) r8:=by
 intro H vs ts t Q r e q;unfold r8 at e;have e0:=bX e;clear e;obtain⟨x,rfl,e⟩:=e0;obtain⟨v,rfl,r1⟩:=iT r;unfold DD at e;split at e
 ·split at e
  ·cases e;rw[aO r1];exact .inl ⟨_,rfl,q _ H (.sc rfl)⟩
  ·cases e;rw[om r1];exact .inr ⟨_,rfl,q _ H (.sc rfl)⟩
  ·cases e
 ·cases e
abbrev zx(g:List I->T) (t:T):Option T:=match t with
 | .im i=>(match i with
  | .tup is=>some (g is)
  | _=>none)
 | .li is=>some (g is)
 | _=>none
private def gq:List T->Option T:=l1 (zx λis=>.im (.tup is))
def vK:eA K (wf K) gq:=by
 intro H vs ts t Q r e q;unfold gq at e;have e0:=bX e;clear e;obtain⟨x,rfl,e⟩:=e0;obtain⟨v,rfl,r1⟩:=iT r;unfold zx at e;split at e
 ·split at e
  ·cases e;obtain⟨p,xs,rfl,h1,h2⟩:=bO r1;exact⟨p,xs,rfl,.inr ⟨h1,q _ H (.im (dt r1))⟩⟩
  ·cases e
 ·cases e;obtain⟨p,xs,rfl,h1,h2⟩:=cM r1;exact⟨p,xs,rfl,.inl ⟨aX h1,λl hl=>q _ _ (.tup hl h2)⟩⟩
 ·cases e
private def uM:List T->Option T:=l1 (zx λis=>.li is)
def vz:eA K (wb K) uM:=by
 intro H vs ts t Q r e q;unfold uM at e;have e0:=bX e;clear e;obtain⟨x,rfl,e⟩:=e0;obtain⟨v,rfl,r1⟩:=iT r;unfold zx at e;split at e
 ·split at e
  ·cases e;obtain⟨p,xs,rfl,h1,h2⟩:=bO r1;exact⟨p,xs,rfl,.inr h1,λl hl=>q _ _ (.li hl h2)⟩
  ·cases e
 ·cases e;obtain⟨p,xs,rfl,h1,h2⟩:=cM r1;exact⟨p,xs,rfl,.inl (aX h1),λl hl=>q _ _ (.li hl h2)⟩
 ·cases e
abbrev bls:List I->Option (List Bool)
 | []=>some []
 | .bl b::is=>(bls is).map (b :: ·)
 | _=>none
def AG{is:List I}{xs:List V}:∀{bs:List Bool},bls is=some bs->KT K H is xs->xs=bs.map V.bl:=by
 induction is generalizing xs with
 | nil=>intro bs h r;cases h;exact r.nil_inv
 | cons i is ih=>
  intro bs h r;cases i with
  | bl b=>
   dsimp[bls]at h;cases e:bls is with
   | none=>rw[e]at h;cases h
   | some cs=>
    rw[e]at h;cases h;obtain⟨x,r',rfl,h1,h2⟩:=r.cons_inv;rw[RpI]at h1;rw[h1,ih e h2];rfl
  | _=>simp[bls]at h
abbrev rM:List T->Option T
 | [.li is]=>(bls is).map λbs=>.im (.bl (bs.all id))
 | _=>none
def vp:eA K (EH K) rM:=by
 intro H vs ts t Q r e q;unfold rM at e;split at e
 ·delta is;cases h:bls is with
  | none=>rw[h]at e;cases e
  | some bs=>
   rw[h]at e;cases e;obtain⟨v,rfl,r1⟩:=iT r;obtain⟨p,xs,rfl,h1,h2⟩:=cM r1;have:=AG h h2;subst this;exact⟨p,bs,rfl,aX h1,q _ H (.sc rfl)⟩
 ·cases e
abbrev oE:List I->Option (List Str)
 | []=>some []
 | .str b::is=>(oE is).map (b :: ·)
 | _=>none
def zB{is:List I}{xs:List V}:∀{bs:List Str},oE is=some bs->KT K H is xs->xs=bs.map V.str:=by
 induction is generalizing xs with
 | nil=>intro bs h r;cases h;exact r.nil_inv
 | cons i is ih=>
  intro bs h r;cases i with
  | str b=>
   dsimp[oE]at h;cases e:oE is with
   | none=>rw[e]at h;cases h
   | some cs=>
    rw[e]at h;cases h;obtain⟨x,r',rfl,h1,h2⟩:=r.cons_inv;rw[RpI]at h1;rw[h1,ih e h2];rfl
  | _=>simp[oE]at h
abbrev ki:T->List T->Option T
 | .im (.str z),[.li is]=>match oE is with
  | some zs=>if(zs.map (·.length)).sum+zs.length*z.length<=16777216 then some (.im (.str (Nq z zs)))else none
  | none=>none
 | _,_=>none
def sO:qk K "str" (Af K) ki:=by
 intro H x vs tx ts t Q rx r e q;unfold ki at e;split at e
 ·delta z is;split at e
  ·delta zs hz;split at e
   ·cases e;obtain⟨v,rfl,r1⟩:=iT r;obtain⟨p,xs,rfl,h1,h2⟩:=cM r1;have:=zB hz h2;subst this;rw[dh rx];exact⟨z,p,zs,rfl,rfl,aX h1,by assumption,q _ H (.sc rfl)⟩
   ·cases e
  ·cases e
 ·cases e
end
section
variable {Γ:Gm}{H H':Hp}{X:List En}{e:En}{O:Rho}{Z:St}{E:List En}{v:V}{t:T}{K:yF}
def Sim.partN(S:Sim Γ H O Z E)(sm:Le H H'){s:T}(he:e∈E){ro:Option Nat}{p:Option (List Ac)}(ho:e.r.k=.vw ro p){P:V->Prop}(hp:∀F,Rp Γ.K H e.r.t e.v F->∃w G,P w/\Rp Γ.K H' s w G/\∀a∈G,a∈F\/H a=none):∃w,P w/\Sim Γ H' O Z (⟨none,w,⟨.vw ro none,s⟩⟩::E):=by
 obtain⟨L,g,hL⟩:=S.sl;have he':e∈L.map (·.e):=by rw[hL];exact yaL _ he
 obtain⟨h,hh,rfl⟩:=Gn.mp he';obtain⟨w,G,h1,h2,h3⟩:=hp h.F (g.rp h hh);have own:∀a,H a=none->a∉L.flatMap Hd.own:=λa ha z=>by
  obtain⟨o,e,_⟩:=(g.ad a z).1;rw[ha]at e;cases e
 have g':GW Γ H' L:=by
  have:=g.step (hs:=[]) (L:=L) (H':=H') ∅ ∅ (sm.offM _) ∅ (key:=none) (v:=.non) (r:=⟨.ow,.im .non⟩) (F:=[]) Hj ∅ (iR (by rw[RpI])) (.inl ⟨rfl,by simp⟩) (λj hj=>by cases hj);exact this.drop rfl
 apply⟨w,h1,⟨⟨_,g'.push (v:=w) (r:=⟨.vw ro none,s⟩) (F:=G) h2 ?_ (.inl rfl),by rw[Gg,hL];rfl⟩,S.al,S.len,λx hx j hj=>?_⟩⟩
 ·have k:=g'.kd h hh;unfold K4 at k|-;rw[ho]at k;cases ro with
  | none=>exact λa ha=>(h3 a ha).elim (k a) (own a)
  | some j=>
   obtain⟨x,x1,x2,x3,x4,x5⟩:=k;exact⟨x,x1,x2,x3,λa ha=>(h3 a ha).elim (x4 a) (λz=>.inr (own a z)),λq hq=>by cases hq⟩
 ·rcases ycM hx with rfl|hx;cases hj;exact S.hi x hx j hj
def wG:∀{ts:List T} {xs:List V} {F:List Addr},Rps K H ts xs F->∃hs:List Hd,hs.map (·.e)=au xs ts/\hs.flatMap (·.F)=F/\∀h∈hs,Rp K H h.e.r.t h.e.v h.F/\h.e.r.k=.ow/\h.e.key=none/\∀a∈h.F,a∈F
 | [],xs,F,r=>by
  obtain⟨rfl,rfl⟩:=r.nil_inv;exact⟨[],rfl,rfl,by simp⟩
 | t::ts,xs,F,r=>by
  obtain⟨y,r',F1,F2,rfl,r1,r2,rfl⟩:=r.cons_inv;obtain⟨hs,h1,h2,h3⟩:=wG r2;apply⟨⟨⟨none,y,⟨.ow,t⟩⟩,F1⟩::hs,by rw[Gg,h1];rfl,by rw[Gs,h2],λh hh=>?_⟩;rcases ycM hh with rfl|hh;exact⟨r1,rfl,rfl,λa ha=>yaL _ ha⟩
  ·obtain⟨a,b,c,d⟩:=h3 h hh;exact⟨a,b,c,λx hx=>yaR _ (d x hx)⟩
def Sim.split{ts:List T}(S:Sim Γ H O Z (⟨none,v,⟨.ow,.tup ts⟩⟩::E)):∃a xs,v=.ref a/\SqT Γ.K H a xs/\xs.length=ts.length/\Sim Γ H O Z (au xs ts++E):=by
 obtain⟨L,g,h⟩:=S.sl;rw[GL]at h;obtain⟨x,L',rfl,h1,h2⟩:=aN h;have rp:=g.rp x ymS;rw[h1,Rp]at rp;obtain⟨a,xs,ev,hq,rps⟩:=rp;have k0:=g.kd x ymS;unfold K4 at k0;rw[h1]at k0;have eo:x.own=x.F:=by unfold Hd.own;rw[h1];rfl
 obtain⟨hs,e1,e2,e3⟩:=wG rps;have ho:∀h∈hs,h.e.r.k.isOw=true:=λh hh=>by rw[(e3 h hh).2.1];rfl
 have eown:(hs++L').flatMap Hd.own=(x::L').flatMap Hd.own:=by rw[Gw,Gs,gc ho,e2,eo]
 apply⟨a,xs,ev,hq,rps.length,⟨⟨hs++L',⟨?_,?_,λy hy=>?_,λy hy=>?_,?_,g.fr,g.iol⟩,?_⟩,S.al,S.len,λy hy j hj=>?_⟩⟩;rw[eown];exact g.nd;rw[eown];exact g.ad
 ·rcases yaM hy with hy|hy;exact(e3 y hy).1;exact g.rp y (ymC _ hy)
 ·rcases yaM hy with hy|hy
  ·unfold K4;rw[(e3 y hy).2.1];exact λb hb=>k0 b ((e3 y hy).2.2.2 b hb)
  ·have k:=g.kd y (ymC _ hy);unfold K4 at k|-;split at k;exact k;exact k;rw[eown];exact k
   ·obtain⟨z,z1,z2,z3,z4,z5⟩:=k;rcases ycM z1 with rfl|z1;rw[h1]at z2;cases z2;exact⟨z,yaR _ z1,z2,z3,by rw[eown];exact z4,z5⟩
 ·have ks:=g.ks;rw[GG,h1]at ks;rw[GH,List.filterMap_eq_nil_iff.mpr λy hy=>(e3 y hy).2.2.1];exact ks
 ·rw[Gq,e1,h2,Gx]
 ·rcases yaM hy with hy|hy
  ·have:∀{xs:List V} {ts:List T},y∈au xs ts->y.key=none:=by
    intro xs
    induction xs with
    | nil=>intro ts h;cases ts<;>cases h
    | cons x xs ih=>
     intro ts h;cases ts with
     | nil=>cases h
     | cons t ts=>
      rcases ycM h with rfl|h;rfl;exact ih h
   rw[this hy]at hj;cases hj
  ·exact S.hi y (ymC _ hy) j hj
abbrev partV(ro:Option Nat):T->R
 | .im i=>⟨.ow,.im i⟩
 | t=>⟨.vw ro none,t⟩
abbrev parts:R->Option (List R)
 | ⟨_,.im (.tup is)⟩=>some (is.map λi=>⟨.ow,.im i⟩)
 | ⟨.ow,.tup ts⟩=>some (ts.map λt=>⟨.ow,t⟩)
 | ⟨.vw ro _,.tup ts⟩=>some (ts.map (partV ro))
 | _=>none
def lS:∀{xs:List V} {ts:List T},au xs ts=ens xs (ts.map λt=>⟨.ow,t⟩)
 | [],ts=>by cases ts<;>rfl
 | x::xs,[]=>rfl
 | x::xs,t::ts=>by rw[au,Gg,ens,lS]
def Sim.imms:∀{is:List I} {xs:List V} {E:List En},Sim Γ H O Z E->KT Γ.K H is xs->Sim Γ H O Z (ens xs (is.map λi=>⟨.ow,.im i⟩)++E)
 | [],xs,E,S,r=>by obtain rfl:=r.nil_inv;exact S
 | i::is,xs,E,S,r=>by
  obtain⟨x,r',rfl,h1,h2⟩:=r.cons_inv;rw[Gg,ens,GL];exact(Sim.imms S h2).imm h1
def Sim.parts{r:R}{rs:List R}(S:Sim Γ H O Z (⟨none,v,r⟩::E))(h:L2.parts r=some rs):∃a xs,v=.ref a/\SqT Γ.K H a xs/\xs.length=rs.length/\Sim Γ H O Z (ens xs rs++E):=by
 unfold L2.parts at h;split at h
 ·delta k is;cases h;obtain⟨F,r⟩:=S.rd ymS;obtain⟨a,xs,e,hq,hr⟩:=bO ⟨F,r⟩;exact⟨a,xs,e,hq,by rw[hr.length,Ge],(S.drop rfl).imms hr⟩
 ·delta ts;cases h;obtain⟨a,xs,e,hq,hl,S2⟩:=S.split;rw[lS]at S2;exact⟨a,xs,e,hq,by rw[hl,Ge],S2⟩
 ·delta ro p ts;cases h;obtain⟨F,r⟩:=S.rd ymS;obtain⟨a,xs,G,e,hq,hr⟩:=rh ⟨F,r⟩;obtain⟨L,g,hL⟩:=S.sl;rw[GL]at hL;obtain⟨x,L',rfl,h1,h2⟩:=aN hL;have rp:=g.rp x ymS;rw[h1,Rp]at rp;obtain⟨a',xs',ev,hq',rps⟩:=rp;have S3:Sim Γ H O Z (ens xs' (ts.map (partV ro))++E):=by
   have go:∀(ts:List T) (xs:List V) (G:List Addr),Rps Γ.K H ts xs G->(∀a∈G,a∈x.F)->∃L1,GW Γ H (L1++x::L')/\L1.map (·.e)=ens xs (ts.map (partV ro))/\∀h∈L1,h.e.key=none:=by
    intro ts
    induction ts with
    | nil=>intro xs G r _;obtain⟨rfl,rfl⟩:=r.nil_inv;exact⟨[],g,rfl,by simp⟩
    | cons t ts ih=>
     intro xs G r hG;obtain⟨y,r',F1,F2,rfl,r1,r2,rfl⟩:=r.cons_inv;obtain⟨L1,g1,e1,e2⟩:=ih r' F2 r2 λa ha=>hG a (yaR _ ha);have kx:=g1.kd x (yaR _ ymS);unfold K4 at kx;rw[h1]at kx;have key:∃h:Hd,GW Γ H (h::(L1++x::L'))/\h.e=⟨none,y,partV ro t⟩:=by
      have vw:GW Γ H (⟨⟨none,y,⟨.vw ro none,t⟩⟩,F1⟩::(L1++x::L')):=by
       apply g1.push (v:=y) (r:=⟨.vw ro none,t⟩) (F:=F1) r1 ?_ (.inl rfl);unfold K4;cases ro with
       | none=>exact λa ha=>kx a (hG a (yaL _ ha))
       | some j=>
        obtain⟨z,z1,z2,z3,z4,z5⟩:=kx;exact⟨z,z1,z2,z3,λa ha=>z4 a (hG a (yaL _ ha)),λq hq=>by cases hq⟩
      cases t with
      | im i=>exact⟨_,g1.push (v:=y) (r:=⟨.ow,.im i⟩) (F:=[]) (iR (aZ r1).1) (λa ha=>by cases ha) (.inr rfl),rfl⟩
      | _=>exact⟨_,vw,rfl⟩
     obtain⟨h,gh,eh⟩:=key;apply⟨h::L1,gh,by rw[Gg,eh,e1];rfl,λz hz=>?_⟩;rcases ycM hz with rfl|hz;rw[eh];exact e2 z hz
   obtain⟨L1,g1,e1,e2⟩:=go ts xs' x.F rps λa ha=>ha;have g2:GW Γ H (L1++L'):=by
    have p:(L1++x::L').Perm (x::(L1++L')):=GQ;exact(g1.perm p).drop (by rw[h1])
   apply⟨⟨_,g2,by rw[Gq,e1,h2,Gx]⟩,S.al,S.len,λy hy j hj=>?_⟩;rcases yaM hy with hy|hy
   ·rw[<-e1]at hy;obtain⟨z,hz,rfl⟩:=Gn.mp hy;rw[e2 z hz]at hj;cases hj
   ·exact S.hi y (ymC _ hy) j hj
  exact⟨a',xs',ev,hq',by rw[rps.length,Ge],S3⟩
 ·cases h
private def mGNil:MGs:=⟨λrs O=>match rs with
 | []=>some O
 | _=>none,[]⟩
private def aW(g:MG)(gs:MGs):MGs:=⟨λrs O=>match rs with
 | r::rs=>if rs.all (ax g.mu)=true then(match g.run r O with
  | some O1=>gs.run rs O1
  | none=>none)else none
 | []=>none,g.mu++gs.mu⟩
private def dr(gs:MGs):MG:=⟨λr O=>match parts r with
 | some rs=>gs.run rs O
 | none=>none,gs.mu⟩
def wq:nt K AT mGNil:=by unhygienic
 intro Γ H O Z E Q vs rs O' hK hr hl S q;cases rs with
 | nil=>
  cases hr;have:vs=[]:=G4.mp hl;subst this;exact⟨rfl,q Z H (by rw[show mGNil.mu=[]from rfl,cf];exact S)⟩
 | cons _ _=>cases hr
def tf{g:TG}{gs:TGs}{m:MG}{ms:MGs}(h1:ir K g m)(h2:nt K gs ms):nt K (up g gs) (aW m ms):=by unhygienic
 intro Γ H O Z E Q vs rs O' hK hr hl S q;cases rs with
 | nil=>cases hr
 | cons r rs=>
  cases vs with
  | nil=>cases hl
  | cons v vs=>
   dsimp[aW]at hr q;split at hr
   ·delta al;split at hr
    ·delta O1 e1;apply⟨v,vs,rfl,?_⟩;rw[ens,GL]at S;apply h1 Γ H O Z _ _ v r O1 hK e1 S λZ1 H1 S1=>?_;rw[az,jc al]at S1;exact h2 Γ H1 O1 Z1 _ _ vs rs O' hK hr (by exists hl) S1 λZ2 H2 S2=>q Z2 H2 (by rw[<-ae];exact S2)
    ·cases hr
   ·cases hr
def wr{gs:TGs}{ms:MGs}{n:Nat}(h:nt K gs ms)(hn:∀rs O O',ms.run rs O=some O'->rs.length=n):ir K (xC K n gs) (dr ms):=by
 intro Γ H O Z E Q v r O' hK hr S q;dsimp[dr]at hr q;split at hr
 ·delta rs e1;obtain⟨a,xs,e,hq,hl,S2⟩:=S.parts e1;rw[hK]at hq;exact⟨a,xs,e,hq,by rw[hl];exact hn _ _ _ hr,h Γ H O Z _ _ xs rs O' hK hr hl S2 q⟩
 ·cases hr
abbrev consL(mv:List Nat):List R->Rho->Option (List T×Rho)
 | [],O=>some ([],O)
 | ⟨.ow,t⟩::rs,O=>match consL mv rs O with
  | some (ts,O')=>some (t::ts,O')
  | none=>none
 | ⟨.vw (some i) (some []),t⟩::rs,O=>if(mv.contains i&&rs.all (ax [i]))=true then(match O[i]? with
  | some (⇑_)=>(match consL mv rs ((ao [i] O).set i none)with
   | some (ts,O')=>some (t::ts,O')
   | none=>none)
  | _=>none)else none
 | _,_=>none
def Sim.consL{mv:List Nat}:∀{rs:List R} {vs:List V} {ts:List T} {O O':Rho} {A E:List En},Sim Γ H O Z (A++(ens vs rs++E))->vs.length=rs.length->L2.consL mv rs O=some (ts,O')->(∀e∈A,e.r.k=.ow/\e.key=none)->vs.length=ts.length/\Sim Γ H O' Z (A++(au vs ts++ah mv E))
 | [],[],ts,O,O',A,E,S,_,h,hA=>by
  cases h;apply⟨rfl,?_⟩;have:=S.weak mv;rw[az]at this;have ea:ah mv A=A:=Hw.mpr λe he=>by unfold aE;rw[(hA e he).1];rfl
  rw[ea]at this;exact this
 | r::rs,v::vs,ts,O,O',A,E,S,hl,h,hA=>by
  rw[ens,GL]at S;obtain⟨k,t⟩:=r;cases k with
  | ow=>
   dsimp[L2.consL]at h;split at h
   ·delta ts1 O1 e1;cases h;obtain⟨h1,S1⟩:=Sim.consL (rs:=rs) (vs:=vs) (A:=A++[⟨none,v,⟨.ow,t⟩⟩]) (E:=E) (by exists S) (by exists hl) e1 (λe he=>by
     rcases yaM he with he|he;exact hA e he;rw[ysM he];exact⟨rfl,rfl⟩)
    exact⟨by simp[h1],by rw[au];simpa using S1⟩
   ·cases h
  | io n=>cases h
  | vw a b=>
   cases a with
   | none=>cases h
   | some i=>
    cases b with
    | none=>cases h
    | some p=>
     cases p with
     | cons _ _=>cases h
     | nil=>
      dsimp[L2.consL]at h;split at h
      ·delta al;rw[Gd]at al;split at h
       ·delta t1 h1;split at h
        ·delta ts1 O1 e1;cases h;have S0:Sim Γ H O Z (⟨none,v,⟨.vw (some i) (some []),t⟩⟩::(A++(ens vs rs++E))):=S.perm GQ;have S1:=S0.move h1;have ea:ah [i] A=A:=Hw.mpr λe he=>by unfold aE;rw[(hA e he).1];rfl
         rw[az,ea,az,jc al.2]at S1;obtain⟨h2,S2⟩:=Sim.consL (rs:=rs) (vs:=vs) (A:=A++[⟨none,v,⟨.ow,t⟩⟩]) (E:=ah [i] E) (S1.perm (by
          rw[Gx];exact(GQ).symm)) (by exists hl) e1 (λe he=>by
          rcases yaM he with he|he;exact hA e he;rw[ysM he];exact⟨rfl,rfl⟩)
         apply⟨by simp[h2],?_⟩;rw[au];have ek:ah mv (ah [i] E)=ah mv E:=by
          rw[ae];unfold ah;congr 1;funext e;rw[lx];by_cases hk:aE mv e=true
          ·rw[hk,JQ];unfold aE at hk|-;split
           ·delta j hj;rw[hj]at hk;have:j≠i:=λz=>by subst z;simp at hk;exact hk (by exists al.1)
            simp[this]
           ·rfl
          ·rw[ID]at hk;rw[hk,Ku]
         rw[ek]at S2;exists S2
        ·cases h
       ·cases h
      ·cases h
 | [],_::_,_,_,_,_,_,_,h,_,_=>by cases h
 | _::_,[],_,_,_,_,_,_,h,_,_=>by cases h
abbrev ims:List T->Option (List I)
 | []=>some []
 | .im i::ts=>(ims ts).map (i :: ·)
 | _=>none
def mz:∀{ts:List T} {is:List I},ims ts=some is->ts=is.map T.im
 | [],is,h=>by cases h;rfl
 | .im i::ts,is,h=>by
  dsimp[ims]at h;cases e:ims ts with
  | none=>rw[e]at h;cases h
  | some js=>rw[e]at h;cases h;rw[Gg,<-mz e]
 | .tup _::_,_,h=>by cases h
 | .li _::_,_,h=>by cases h
 | .lst _::_,_,h=>by cases h
 | .di _::_,_,h=>by cases h
 | .dc _::_,_,h=>by cases h
 | .ins _ _::_,_,h=>by cases h
abbrev lG(ts:List T):T:=match ims ts with
 | some is=>.im (.tup is)
 | none=>.tup ts
abbrev bF(ts:List T):T:=match ims ts with
 | some is=>.li is
 | none=>.lst ts
private def ay(mv:List Nat)(a:MA):ME:=⟨λO=>match a.run O with
 | some (rs,O1)=>if rs.length<=1000 then(match consL mv rs O1 with
  | some (ts,O2)=>some (⟨.ow,lG ts⟩,O2)
  | none=>none)else none
 | none=>none,a.mu++mv⟩
private def aR(mv:List Nat)(a:MA):ME:=⟨λO=>match a.run O with
 | some (rs,O1)=>if rs.length<=1000 then(match consL mv rs O1 with
  | some (ts,O2)=>some (⟨.ow,bF ts⟩,O2)
  | none=>none)else none
 | none=>none,a.mu++mv⟩
def wM{n:Nat}(h:n<=1000):n<=sizeLine:=by rw[LL];omega
def wz{ta:TA}{a:MA}{mv:List Nat}(ha:gI K ta a):aV K (Fe ta) (ay mv a):=by
 intro Γ H O Z E Q r O' hK hr S q;dsimp[ay]at hr q;split at hr
 ·delta rs O1 e1;split at hr
  ·delta hz;split at hr
   ·delta ts O2 e2;cases hr;apply ha Γ H O Z E _ rs O1 hK e1 S λvs H1 hl S1=>⟨by rw[hl];exact wM hz,λp hp=>?_⟩;obtain⟨hl2,S2⟩:=Sim.consL (A:=[]) (by exists S1) hl e2 ∅;rw[Hy,ae]at S2;obtain⟨F,h1,h2,h3,h4⟩:=S2.use hl2;have sm:=Le.laid (o:=.tup vs) hp;apply q _ _ (h4 _ (.ref p) (lG ts) F (sm.offM _) (λa ha=>let ⟨o,e,_⟩:=h3 a ha;⟨o,sm a o e⟩) h2 (λa ha=>⟨.inl ha,let ⟨o,e,m⟩:=h3 a ha;⟨o,sm a o e,m⟩⟩) ?_);unfold lG;split
    ·delta is hi;rw[mz hi]at h1;obtain⟨h5,h6⟩:=Rps.ims.mp h1;subst h6;apply iR ?_;rw[RpI];exact⟨p,vs,rfl,SqT.of aI,h5.same sm⟩
    ·rw[Rp];exact⟨p,vs,rfl,SqT.of aI,h1.same sm⟩
   ·cases hr
  ·cases hr
 ·cases hr
def wt{ta:TA}{a:MA}{mv:List Nat}(ha:gI K ta a):aV K (E6 ta) (aR mv a):=by
 intro Γ H O Z E Q r O' hK hr S q;dsimp[aR]at hr q;split at hr
 ·delta rs O1 e1;split at hr
  ·delta hz;split at hr
   ·delta ts O2 e2;cases hr;apply ha Γ H O Z E _ rs O1 hK e1 S λvs H1 hl S1=>⟨by rw[hl];exact wM hz,λp hp=>?_⟩;obtain⟨hl2,S2⟩:=Sim.consL (A:=[]) (by exists S1) hl e2 ∅;rw[Hy,ae]at S2;obtain⟨F,h1,h2,h3,h4⟩:=S2.use hl2;have sm:=Le.laid (o:=.lst vs) hp;have np:p∉F:=λz=>by obtain⟨o,e,_⟩:=h3 p z;rw[hp]at e;cases e
    apply q _ _ (h4 _ (.ref p) (bF ts) (p::F) (sm.offM _) (λa ha=>let ⟨o,e,_⟩:=h3 a ha;⟨o,sm a o e⟩) (GA.mpr ⟨np,h2⟩) (λa ha=>?_) ?_)
    ·rcases ycM ha with rfl|ha;exact⟨.inr hp,_,aI,rfl⟩;exact⟨.inl ha,let ⟨o,e,m⟩:=h3 a ha;⟨o,sm a o e,m⟩⟩
    ·unfold bF;split
     ·delta is hi;rw[mz hi]at h1;obtain⟨h5,h6⟩:=Rps.ims.mp h1;subst h6;rw[Rp];exact⟨p,vs,rfl,.inl aI,h5.same sm,rfl⟩
     ·rw[Rp];exact⟨p,vs,F,rfl,.inl aI,h1.same sm,rfl⟩
   ·cases hr
  ·cases hr
 ·cases hr
end
section
variable {Γ:Gm}{H H':Hp}{O:Rho}{Z:St}{E:List En}{v x y:V}{t:T}{K:yF}{Q:VK}
abbrev ixK:Kd->Option Ac->Option Kd
 | .ow,_=>some .ow
 | .io _,_=>none
 | .vw (some r) (some p),some a=>some (.vw (some r) (some (p++[a])))
 | .vw ro _,_=>some (.vw ro none)
abbrev ixP(k:Kd) (a:Option Ac):T->Option R
 | .im i=>↥i
 | t=>match ixK k a with
  | some k'=>some ⟨k',t⟩
  | none=>none
abbrev ixI(i:I) (n:Int):Option R:=match i with
 | .tup is=>(atI is n).map λi=>⟨.ow,.im i⟩
 | .str z=>if z.length<=sizeLine then(atI (sL z) n).map λc=>⟨.ow,.im (.str ⟨#[c]⟩)⟩else none
 | _=>none
abbrev ixX(k:Kd) (t:T) (n:Int):Option R:=match t with
 | .im i=>ixI i n
 | .li is=>(atI is n).map λi=>⟨.ow,.im i⟩
 | .lst ts=>(match ixN ts.length n with
  | some j=>(ts[j]?).bind (ixP k (some (.ix j)))
  | none=>none)
 | .tup ts=>(match ixN ts.length n with
  | some j=>(ts[j]?).bind (ixP k none)
  | none=>none)
 | _=>none
private def ixR(r:R)(t:T):Option R:=match isI t with
 | some n=>ixX r.k r.t n
 | none=>none
private def mIx(a b:ME):ME:=⟨λO=>match a.run O with
 | some (ra,O1)=>match b.run O1 with
  | some (rb,O2)=>if ax b.mu ra=true then(match ixR ra rb.t with
   | some r=>some (r,O2)
   | none=>none)else none
  | none=>none
 | none=>none,a.mu++b.mu⟩
def nu{is:List I}{xs:List V}{n:Int}{i:I}(r:KT K H is xs)(e:atI is n=some i):∃w,atI xs n=some w/\RpI K H i w:=by
 unfold atI at e|-;rw[r.length];cases h:ixN is.length n with
 | none=>rw[h]at e;cases e
 | some j=>rw[h]at e;exact r.get e
def Sim.takeO{s:T}(S:Sim Γ H O Z (⟨none,x,⟨.ow,t⟩⟩::E)){P:V->Prop}(hp:∀F,Rp Γ.K H t x F->∃w A G B,P w/\Rp Γ.K H s w G/\F=A++G++B):∃w,P w/\Sim Γ H O Z (⟨none,w,⟨.ow,s⟩⟩::E):=by
 obtain⟨F,h1,h2,h3,h4⟩:=Sim.use (vs:=[x]) (ts:=[t]) S rfl;obtain⟨y,r',F1,F2,e,r1,r2,rfl⟩:=h1.cons_inv;cases e;have:=r2.nil_inv.2;subst this;rw[Gy]at h2 h3 h4;obtain⟨w,A,G,B,p,rg,rfl⟩:=hp F1 r1;have inF:∀a∈G,a∈A++G++B:=λa ha=>yaL _ (yaR _ ha);exact⟨w,p,h4 H w s G (K1.refl _ _) (λa ha=>let ⟨o,e,_⟩:=h3 a ha;⟨o,e⟩) (Gi.mp (Gi.mp h2).1).2.1 (λa ha=>⟨.inl (inF a ha),h3 a (inF a ha)⟩) rg⟩
def oW{α:Type}{xs:List α}{n:Int}{j m:Nat}{w : α}(h:ixN m n=some j)(hl:xs.length=m)(hw:xs[j]?=some w):atI xs n=some w:=by
 unfold atI;rw[hl,h];exact hw
def Sim.ixL{k:Kd}{ts:List T}{s:T}{j:Nat}{n:Int}{r:R}(S:Sim Γ H O Z (⟨none,x,⟨k,.lst ts⟩⟩::E))(hn:ixN ts.length n=some j)(hj:ts[j]?=some s)(hr:L2.ixP k (some (.ix j)) s=some r) :
  ∃w,(∀Q:VK,Q w H->rIx Γ.K x (.int n) H Q)/\Sim Γ H O Z (⟨none,w,r⟩::E):=by
 have gen:∀F,Rp Γ.K H (.lst ts) x F->∃w A G B,(∀Q:VK,Q w H->rIx Γ.K x (.int n) H Q)/\Rp Γ.K H s w G/\F=A++G++B:=λF rp=>by
  rw[Rp]at rp;obtain⟨a,xs,F',rfl,h2,h3,rfl⟩:=rp;obtain⟨w,A,G,B,h4,h5,h6,_,_⟩:=h3.at hj;exact⟨w,a::A,G,B,λQ q=>.inl ⟨a,xs,n,w,rfl,rfl,aX h2,oW hn h3.length h4,q⟩,h5,by rw[h6];simp⟩
 have hview:∀ro p,k=.vw ro p->∃w,(∀Q:VK,Q w H->rIx Γ.K x (.int n) H Q)/\Sim Γ H O Z (⟨none,w,⟨.vw ro none,s⟩⟩::E):=λro p hk=>by
  obtain⟨w,h1,S2⟩:=S.part (e:=⟨none,x,⟨k,.lst ts⟩⟩) ymS hk (P:=λw=>∀Q:VK,Q w H->rIx Γ.K x (.int n) H Q) (s:=s) (λF rp=>by
   obtain⟨w,A,G,B,h1,h2,h3⟩:=gen F rp;exact⟨w,G,h1,h2,λa ha=>by rw[h3];exact yaL _ (yaR _ ha)⟩)
  exact⟨w,h1,S2.swap.drop rfl⟩
 have main:∀k',ixK k (some (.ix j))=some k'->∃w,(∀Q:VK,Q w H->rIx Γ.K x (.int n) H Q)/\Sim Γ H O Z (⟨none,w,⟨k',s⟩⟩::E):=λk' hk'=>by
  cases k with
  | ow=>
   cases hk';exact S.takeO gen
  | io m=>cases hk'
  | vw ro p=>
   cases ro with
   | none=>
    cases hk';exact hview none p rfl
   | some i=>
    cases p with
    | none=>cases hk';exact hview (some i) none rfl
    | some p=>
     cases hk';obtain⟨w,h1,S2⟩:=S.partP (e:=⟨none,x,⟨.vw (some i) (some p),.lst ts⟩⟩) ymS rfl (a:=.ix j) (s:=s) hj;apply⟨w,λQ q=>?_,S2.swap.drop rfl⟩;obtain⟨F,rp⟩:=S.rd ymS;obtain⟨a,xs,G,e1,h2,h3⟩:=ib ⟨F,rp⟩;obtain⟨a',xs',e2,g1,g2⟩:=h1;have e1':x=.ref a:=e1;have e2':x=.ref a':=e2;rw[e1']at e2';cases e2';have e3:xs'=xs:=by
      rcases h2 with h2|⟨o,h2⟩;rw[h2]at g1;cases g1;rfl;rw[h2]at g1;cases g1
     subst e3;rw[e1'];exact .inl ⟨a,xs',n,w,rfl,rfl,SqL.of g1,oW hn h3.length g2,q⟩
 cases s with
 | im i=>
  cases hr;obtain⟨F,rp⟩:=S.rd ymS;obtain⟨w,A,G,B,h1,h2,_⟩:=gen F rp;exact⟨w,h1,(S.drop rfl).imm (aZ h2).1⟩
 | _=>
  dsimp[L2.ixP]at hr;split at hr;delta k' e;cases hr;exact main k' e;cases hr
def Sim.ixT{k:Kd}{ts:List T}{s:T}{j:Nat}{n:Int}{r:R}(S:Sim Γ H O Z (⟨none,x,⟨k,.tup ts⟩⟩::E))(hn:ixN ts.length n=some j)(hj:ts[j]?=some s)(hr:L2.ixP k none s=some r) :
  ∃w,(∀Q:VK,Q w H->rIx Γ.K x (.int n) H Q)/\Sim Γ H O Z (⟨none,w,r⟩::E):=by
 have gen:∀F,Rp Γ.K H (.tup ts) x F->∃w A G B,(∀Q:VK,Q w H->rIx Γ.K x (.int n) H Q)/\Rp Γ.K H s w G/\F=A++G++B:=λF rp=>by
  rw[Rp]at rp;obtain⟨a,xs,rfl,h2,h3⟩:=rp;obtain⟨w,A,G,B,h4,h5,h6,_,_⟩:=h3.at hj;exact⟨w,A,G,B,λQ q=>.inr (.inl ⟨a,xs,n,w,rfl,rfl,h2,oW hn h3.length h4,q⟩),h5,h6⟩
 have main:∀k',ixK k none=some k'->∃w,(∀Q:VK,Q w H->rIx Γ.K x (.int n) H Q)/\Sim Γ H O Z (⟨none,w,⟨k',s⟩⟩::E):=λk' hk'=>by
  cases k with
  | ow=>
   cases hk';exact S.takeO gen
  | io m=>cases hk'
  | vw ro p=>
   have hv:k'=.vw ro none:=by cases ro<;>cases p<;>cases hk'<;>rfl
   subst hv;obtain⟨w,h1,S2⟩:=S.part (e:=⟨none,x,⟨.vw ro p,.tup ts⟩⟩) ymS rfl (P:=λw=>∀Q:VK,Q w H->rIx Γ.K x (.int n) H Q) (s:=s) (λF rp=>by
    obtain⟨w,A,G,B,h1,h2,h3⟩:=gen F rp;exact⟨w,G,h1,h2,λa ha=>by rw[h3];exact yaL _ (yaR _ ha)⟩)
   exact⟨w,h1,S2.swap.drop rfl⟩
 cases s with
 | im i=>
  cases hr;obtain⟨F,rp⟩:=S.rd ymS;obtain⟨w,A,G,B,h1,h2,_⟩:=gen F rp;exact⟨w,h1,(S.drop rfl).imm (aZ h2).1⟩
 | _=>
  dsimp[L2.ixP]at hr;split at hr;delta k' e;cases hr;exact main k' e;cases hr
def Sim.ixR{ra r:R}{tb:T}(h:L2.ixR ra tb=some r)(S:Sim Γ H O Z (⟨none,x,ra⟩::E))(ry:Rpx Γ.K H tb y):∃w,(∀Q:VK,Q w H->rIx Γ.K x y H Q)/\Sim Γ H O Z (⟨none,w,r⟩::E):=by
 have r1:Rpx Γ.K H ra.t x:=S.rd (e:=⟨none,x,ra⟩) ymS;unfold L2.ixR at h;split at h
 ·delta n en;cases cn en;obtain⟨k0,t0⟩:=ra;replace r1:Rpx Γ.K H t0 x:=r1;rw[aO ry];unfold ixX at h;dsimp only at h;split at h
  ·unfold ixI at h;split at h
   ·delta is;cases h0:atI is n with
    | none=>rw[h0]at h;cases h
    | some i=>
     rw[h0]at h;cases h;obtain⟨p,xs,ex,g1,g2⟩:=bO r1;obtain⟨w,h3,h4⟩:=nu g2 h0;exact⟨w,λQ q=>.inr (.inl ⟨p,xs,n,w,ex,rfl,g1,h3,q⟩),(S.drop rfl).imm h4⟩
   ·delta z;split at h
    ·delta hz;cases h0:atI (sL z) n with
     | none=>rw[h0]at h;cases h
     | some c=>
      rw[h0]at h;cases h;exact⟨_,λQ q=>.inr (.inr ⟨z,n,c,dh r1,rfl,hz,h0,q⟩),(S.drop rfl).imm (jL rfl)⟩
    ·cases h
   ·cases h
  ·delta is;cases h0:atI is n with
   | none=>rw[h0]at h;cases h
   | some i=>
    rw[h0]at h;cases h;obtain⟨p,xs,ex,g1,g2⟩:=cM r1;obtain⟨w,h3,h4⟩:=nu g2 h0;exact⟨w,λQ q=>.inl ⟨p,xs,n,w,ex,rfl,aX g1,h3,q⟩,(S.drop rfl).imm h4⟩
  ·delta ts;split at h
   ·delta j hj;cases h0:ts[j]? with
    | none=>rw[h0]at h;cases h
    | some s=>
     rw[h0]at h;exact S.ixL hj h0 h
   ·cases h
  ·delta ts;split at h
   ·delta j hj;cases h0:ts[j]? with
    | none=>rw[h0]at h;cases h
    | some s=>
     rw[h0]at h;exact S.ixT hj h0 h
   ·cases h
  ·cases h
 ·cases h
def CH{ta tb:TE}{a b:ME}(ha:aV K ta a)(hb:aV K tb b):aV K (tOp (rIx K) ta tb) (mIx a b):=by unhygienic
 intro Γ H O Z E Q r O' hK hr S q;dsimp[mIx]at hr;split at hr
 ·delta ra O1 e1;split at hr
  ·delta rb O2 e2;split at hr
   ·delta al;split at hr
    ·delta r0 e3;cases hr;apply ha Γ H O Z E _ ra O1 hK e1 S λx H1 S1=>?_;apply hb Γ H1 O1 Z _ _ rb _ hK e2 S1 λy H2 S2=>?_;rw[ar (bp al),ae]at S2;have r2:=S2.rd ymS;obtain⟨w,h1,S4⟩:=Sim.ixR e3 (S2.drop rfl) r2;rw[<-hK];exact h1 Q (q w _ S4)
    ·cases hr
   ·cases hr
  ·cases hr
 ·cases hr
structure MO where
 run:Rho->Option (Option Int×Rho)
 mu:List Nat
abbrev oU(K:yF)(to:TO)(m:MO):Prop:=∀(Γ:Gm) (H:Hp) (O:Rho) (Z:St) (E:List En) (Q:Option Int->Hp->Prop) (o:Option Int) (O':Rho),Γ.K=K->m.run O=some (o,O')->Sim Γ H O Z E->(∀H',Sim Γ H' O' Z (ah m.mu E)->Q o H')->to Z H Q
private def mNoPart:MO:=⟨λO=>some (none,O),[]⟩
private def eC(a:ME):MO:=⟨λO=>match a.run O with
 | some (⟨_,.im (.int n)⟩,O1)=>some (some n,O1)
 | _=>none,a.mu⟩
def pQ:oU K rD mNoPart:=by unhygienic
 intro Γ H O Z E Q o O' hK hr S q;cases hr;exact q H (by rw[show mNoPart.mu=[]from rfl,cf];exact S)
def ww{ta:TE}{a:ME}(ha:aV K ta a):oU K (rE ta) (eC a):=by unhygienic
 intro Γ H O Z E Q o O' hK hr S q;dsimp[eC]at hr;split at hr
 ·delta k n O1 e1;cases hr;exact ha Γ H O Z E _ _ _ hK e1 S λx H1 S1=>⟨n,aO (S1.rd ymS),q H1 (S1.drop rfl)⟩
 ·cases hr
def KT.cut{is:List I}{xs:List V}(r:KT K H is xs)(lo hi:Option Int):KT K H (ci is lo hi) (j5 xs lo hi):=by
 unfold ci j5;rw[r.length];exact(r.drop _).take _
def Rps.cut{ts:List T}{xs:List V}{F:List Addr}(r:Rps K H ts xs F)(lo hi:Option Int):∃A G B,Rps K H (ci ts lo hi) (j5 xs lo hi) G/\F=A++G++B:=by
 unfold ci j5;rw[r.length];obtain⟨A,G1,h1,h2,rfl⟩:=r.take (HT.sIx ts.length 0 lo);obtain⟨G,B,h3,h4,rfl⟩:=h2.take (HT.sIx ts.length ts.length hi-HT.sIx ts.length 0 lo);exact⟨A,G,B,h3,by simp⟩
abbrev slI(i:I) (lo hi:Option Int):Option R:=match i with
 | .tup is=>if HT.sIx is.length 0 lo=0/\HT.sIx is.length is.length hi=is.length then none else ↥(.tup (ci is lo hi))
 | .str z=>if z.length<=sizeLine then ↥(.str (oL (ci (sL z) lo hi)))else none
 | _=>none
abbrev slX(k:Kd) (t:T) (lo hi:Option Int):Option R:=match t with
 | .li is=>⇑(.li (ci is lo hi))
 | .im i=>slI i lo hi
 | .lst ts=>(match k with
  | .vw ro _=>some ⟨.vw ro none,.lst (ci ts lo hi)⟩
  | _=>none)
 | _=>none
private def slR(r:R)(lo hi:Option Int):Option R:=slX r.k r.t lo hi
private def mSl(a:ME)(lo hi:MO):ME:=⟨λO=>match a.run O with
 | some (ra,O1)=>match lo.run O1 with
  | some (l,O2)=>match hi.run O2 with
   | some (h,O3)=>if ax (lo.mu++hi.mu) ra=true then(match slR ra l h with
    | some r=>some (r,O3)
    | none=>none)else none
   | none=>none
  | none=>none
 | none=>none,a.mu++(lo.mu++hi.mu)⟩
def CJ{ta:TE}{tl th:TO}{a:ME}{lo hi:MO}(ha:aV K ta a)(hl:oU K tl lo)(hh:oU K th hi):aV K (tSl (rSl K) ta tl th) (mSl a lo hi):=by unhygienic
 intro Γ H O Z E Q r O' hK hr S q;dsimp[mSl]at hr;split at hr
 ·delta ra O1 e1;split at hr
  ·delta l O2 e2;split at hr
   ·delta h O3 e3;split at hr
    ·delta al;split at hr
     ·delta r0 e4;cases hr;apply ha Γ H O Z E _ ra O1 hK e1 S λx H1 S1=>?_;apply hl Γ H1 O1 Z _ _ l _ hK e2 S1 λH2 S2=>?_;apply hh Γ H2 O2 Z _ _ h _ hK e3 S2 λH3 S3=>?_;rw[ae,ar (bp al),ae]at S3;have r1:=S3.rd ymS;unfold slR slX at e4;obtain⟨k0,t0⟩:=ra;replace r1:Rpx Γ.K H3 t0 x:=r1;dsimp only at e4;split at e4
      ·cases e4;obtain⟨p,xs,ex,g1,g2⟩:=cM r1;exact .inr (.inl ⟨p,xs,ex,aX g1,λp hp=>q _ _ ((S3.drop rfl).fresh (.li hp (g2.cut l h)))⟩)
      ·unfold slI at e4;split at e4
       ·delta is;split at e4;cases e4
        ·delta hw;cases e4;obtain⟨p,xs,ex,g1,g2⟩:=bO r1;rw[hK]at g1;exact .inl ⟨p,xs,ex,g1,by rw[g2.length];exact hw,λp hp=>q _ _ ((S3.drop rfl).fresh (.tup hp (g2.cut l h)))⟩
       ·split at e4
        ·delta hz;cases e4;exact .inr (.inr ⟨_,dh r1,hz,q _ _ ((S3.drop rfl).imm (jL rfl))⟩)
        ·cases e4
       ·cases e4
      ·delta ts;split at e4
       ·delta ro p0;cases e4;obtain⟨p,xs,F,ex0,g1,g2⟩:=ib r1;have ex:x=.ref p:=ex0;apply .inr (.inl ⟨p,xs,ex,aX g1,λp' hp=>?_⟩);obtain⟨w,hw,S4⟩:=S3.partN (H':=upd H3 p' (.lst (j5 xs l h))) (Le.laid hp) (s:=.lst (ci ts l h)) ymS rfl (P:=λw=>w=.ref p') (λF rp=>by
         have rp':Rp Γ.K H3 (.lst ts) x F:=rp;rw[Rp]at rp';obtain⟨a',xs',F',ex',g1',g2',rfl⟩:=rp';rw[ex]at ex';cases ex';have e3:xs'=xs:=by
          rcases g1 with g1|⟨o,g1⟩<;>rcases g1' with g1'|⟨o',g1'⟩<;>rw[g1]at g1'<;>cases g1'<;>rfl
         subst e3;obtain⟨A,G,B,g3,rfl⟩:=g2'.cut l h;apply⟨.ref p',p'::G,rfl,?_,λb hb=>?_⟩
         ·rw[Rp];exact⟨p',_,G,rfl,.inl aI,g3.same (Le.laid hp),rfl⟩
         ·rcases ycM hb with rfl|hb;exact .inr hp;exact .inl (ymC _ (yaL _ (yaR _ hb))))
        subst hw;exact q _ _ (S4.swap.drop rfl)
       ·cases e4
      ·cases e4
     ·cases hr
    ·cases hr
   ·cases hr
  ·cases hr
 ·cases hr
private def wA:T->Option T
 | .im (.tup is)=>some (.im (.tup is.reverse))
 | _=>none
def zk{ta:TE}{a:ME}(ha:aV K ta a):aV K (wQ K ta) (mUn wA a):=by unhygienic
 intro Γ H O Z E Q r O' hK hr S q;dsimp[mUn]at hr;split at hr
 ·delta ra O1 e1;split at hr
  ·delta t e2;cases hr;apply ha Γ H O Z E _ ra _ hK e1 S λx H1 S1=>?_;have r1:=S1.rd ymS;obtain⟨k,ta⟩:=ra;unfold wA at e2;split at e2
   ·delta is e0;cases e2;have e0':ta=.im (.tup is):=e0;subst e0';obtain⟨p,xs,ex,g1,g2⟩:=bO r1;rw[hK]at g1;exact⟨p,xs,ex,g1,λp hp=>q _ _ ((S1.drop rfl).fresh (.tup hp g2.reverse))⟩
   ·cases e2
  ·cases hr
 ·cases hr
abbrev du(K:yF)(red:V->List V->Hp->VK->Prop)(f:T->List T->Option (T×I)):Prop:=∀(H:Hp) (w:V) (vs:List V) (s:T) (ts:List T) (s':T) (i:I) (G F:List Addr) (Q:VK),Rp K H s w G->Rps K H ts vs F->(G++F).Nodup->(∀a∈G++F,Mu H a)->f s ts=some (s',i) ->
 (∀v H' G',K1 G H H'->(∀a∈G,∃o,H' a=some o)->G'.Nodup->(∀a∈G',(a∈G++F\/H a=none)/\Mu H' a)->Rp K H' s' w G'->RpI K H' i v->Q v H')->red w vs H Q
private def mutR(i:Nat)(mv:List Nat)(f:T->List T->Option (T×I))(r0:R)(rs:List R)(O1:Rho):Option (R×Rho):=match r0 with
 | ⟨.vw (some j) (some p),s⟩=>if(decide (j=i) && !mv.contains i)=true then(match consL mv rs O1 with
  | some (ts,O2)=>(match f s ts with
   | some (s',res)=>(match O2[i]? with
    | some (some ⟨k,t⟩)=>if k.isOw=true then some (⟨.ow,.im res⟩,(ao [i] O2).set i (some ⟨k,t.put p s'⟩))else none
    | _=>none)
   | none=>none)
  | none=>none)else none
 | _=>none
def Sim.mutR{i:Nat}{mv:List Nat}{red:V->List V->Hp->VK->Prop}{f:T->List T->Option (T×I)}{r0:R}{rs:List R}{r:R}{O1 O':Rho}{vs:List V}(hK : Γ.K=K)(hp:du K red f)(h:L2.mutR i mv f r0 rs O1=some (r,O'))(hl:vs.length=rs.length)(S:Sim Γ H O1 Z (ens vs rs++⟨none,x,r0⟩::E))(q:∀v H',Sim Γ H' O' Z (⟨none,v,r⟩::ah (mv++[i]) E)->Q v H'):red x vs H Q:=by
 unfold L2.mutR at h;split at h
 ·delta j p s;split at h
  ·delta hc;rw[Gd,decide_eq_true_eq,GJ]at hc;obtain⟨rfl,hmv⟩:=hc;split at h
   ·delta ts O2 e1;split at h
    ·delta s' res e2;split at h
     ·delta k t e3;split at h
      ·delta ho;cases h;obtain⟨hl2,S2⟩:=Sim.consL (A:=[]) (by exists S) hl e1 ∅;rw[Hy,ar (show aE mv ⟨none,x,⟨.vw (some j) (some p),s⟩⟩=true by unfold aE;dsimp[Kd.root];rw[hmv];rfl)]at S2;obtain⟨G,F,h1,h2,h3,h4,h5⟩:=S2.mut hl2 e3 ho;rw[hK]at h1 h2;apply hp H x vs s ts s' res G F Q h1 h2 h3 h4 e2 λv H' G' a b c d e g=>q v H' ?_;rw[<-ae];rw[<-hK]at e g;exact(h5 H' s' G' a b c d e).imm g
      ·cases h
     ·cases h
    ·cases h
   ·cases h
  ·cases h
 ·cases h
private def b7(i:Nat)(mv:List Nat)(f:T->List T->Option (T×I))(o:ME)(a:MA):ME:=⟨λO=>match o.run O with
 | some (r0,O0)=>match a.run O0 with
  | some (rs,O1)=>if ax a.mu r0=true then L2.mutR i mv f r0 rs O1 else none
  | none=>none
 | none=>none,(o.mu++a.mu)++(mv++[i])⟩
def qT{T0:String}{red:V->List V->Hp->VK->Prop}{f:T->List T->Option (T×I)}{i:Nat}{mv:List Nat}{to:TE}{ta:TA}{o:ME}{a:MA}(hp:du K red f)(hty:∀(H:Hp) (x:V) (tx:T) ts r,Rpx K H tx x->f tx ts=some r->tyV K T0 x H)(ho:aV K to o)(ha:gI K ta a):aV K (tBM K T0 red to ta) (b7 i mv f o a):=by
 intro Γ H O Z E Q r O' hK hr S q;dsimp[b7]at hr q;split at hr
 ·delta r0 O0 e0;split at hr
  ·delta rs O1 e1;split at hr
   ·delta al;apply ho Γ H O Z E _ r0 _ hK e0 S λx H1 S1=>?_;have r0':=S1.rd ymS;rw[hK]at r0';apply⟨?_,?_⟩
    ·unfold L2.mutR at hr;split at hr
     ·split at hr
      ·split at hr
       ·split at hr;delta e2;exact hty H1 x _ _ _ r0' e2;cases hr
       ·cases hr
      ·cases hr
     ·cases hr
    ·apply ha Γ H1 O0 Z _ _ rs _ hK e1 S1 λvs H2 hl S2=>?_;rw[ar (bp al),ae]at S2;exact Sim.mutR hK hp hr hl S2 λv H' S3=>q v H' (by rw[<-ae];exact S3)
   ·cases hr
  ·cases hr
 ·cases hr
private def lE(i:Nat)(f:T->List T->Option (T×I))(o:ME):ME:=⟨λO=>match o.run O with
 | some (r0,O0)=>L2.mutR i [] f r0 [] O0
 | none=>none,o.mu++[i]⟩
def wu{T0:String}{red:V->List V->Hp->VK->Prop}{f:T->List T->Option (T×I)}{i:Nat}{to:TE}{o:ME}(hp:du K red f)(hty:∀(H:Hp) (x:V) (tx:T) ts r,Rpx K H tx x->f tx ts=some r->tyV K T0 x H)(ho:aV K to o):aV K (CU K T0 red to) (lE i f o):=by
 intro Γ H O Z E Q r O' hK hr S q;dsimp[lE]at hr q;split at hr
 ·delta r0 O0 e0;apply ho Γ H O Z E _ r0 _ hK e0 S λx H1 S1=>?_;have r0':=S1.rd ymS;rw[hK]at r0';apply⟨?_,?_⟩
  ·unfold L2.mutR at hr;split at hr
   ·split at hr
    ·split at hr
     ·split at hr;delta e2;exact hty H1 x _ _ _ r0' e2;cases hr
     ·cases hr
    ·cases hr
   ·cases hr
  ·exact Sim.mutR (vs:=[]) (mv:=[]) hK hp hr rfl S1 λv H' S3=>q v H' (by rw[<-ae];exact S3)
 ·cases hr
def jF{is:List I}{w:V}{G:List Addr}(h:Rp K H (.li is) w G)(mu:∀a∈G,Mu H a):∃a xs,w=.ref a/\H a=some (.lst xs)/\KT K H is xs/\G=[a]:=by
 rw[Rp]at h;obtain⟨a,xs,h1,h2,h3,rfl⟩:=h;exact⟨a,xs,h1,(mu a ymS).lst h2,h3,rfl⟩
def Bd{ts:List T}{w:V}{G:List Addr}(h:Rp K H (.lst ts) w G)(mu:∀a∈G,Mu H a):∃a xs F,w=.ref a/\H a=some (.lst xs)/\Rps K H ts xs F/\G=a::F:=by
 rw[Rp]at h;obtain⟨a,xs,F,h1,h2,h3,rfl⟩:=h;exact⟨a,xs,F,h1,(mu a ymS).lst h2,h3,rfl⟩
def gt{is':List I}{xs xs':List V}{a:Addr}{F:List Addr}{i:I}{v:V}(hH:H a=some (.lst xs))(hr:KT K H is' xs')(hi:RpI K H i v)
  (q:∀v H' G',K1 [a] H H'->(∀b∈[a],∃o,H' b=some o)->G'.Nodup->(∀b∈G',(b∈[a]++F\/H b=none)/\Mu H' b)->Rp K H' (.li is') (.ref a) G'->RpI K H' i v->Q v H'):Q v (upd H a (.lst xs')):=by
 have hM:∀b∈[a],Mu H b:=λb hb=>by rw[ysM hb];exact⟨_,hH,rfl⟩
 apply q v _ [a] K1.upd (λb hb=>by rw[ysM hb];exact⟨_,aI⟩) ∅ (λb hb=>?_) ?_ (hi.off K1.upd hM);rw[ysM hb];exact⟨.inl ∅,_,aI,rfl⟩;rw[Rp];exact⟨a,xs',rfl,.inl aI,hr.off K1.upd hM,rfl⟩
def rG{ts':List T}{xs xs':List V}{a:Addr}{G F F':List Addr}{i:I}{v:V}(hH:H a=some (.lst xs))(nd:(a::F').Nodup)(mu:∀b∈F',Mu H b)(hF:∀b∈F',b∈(a::G)++F)(hr:Rps K H ts' xs' F')(hi:RpI K H i v)
  (q:∀v H' G',K1 (a::G) H H'->(∀b∈a::G,∃o,H' b=some o)->G'.Nodup->(∀b∈G',(b∈(a::G)++F\/H b=none)/\Mu H' b)->Rp K H' (.lst ts') (.ref a) G'->RpI K H' i v->Q v H') (dG:∀b∈G,∃o,H b=some o):Q v (upd H a (.lst xs')):=by
 have hM:∀b∈[a],Mu H b:=λb hb=>by rw[ysM hb];exact⟨_,hH,rfl⟩
 have na:∀b∈F',b≠a:=λb hb z=>(GA.mp nd).1 (z▸hb);apply q v _ (a::F') (K1.upd.mono λb hb=>by rw[ysM hb];exact ymS) (λb hb=>?_) nd (λb hb=>?_) ?_ (hi.off K1.upd hM)
 ·by_cases e:b=a;subst e;exact⟨_,aI⟩
  ·rcases ycM hb with z|z;exact absurd z e;obtain⟨o,h⟩:=dG b z;exact⟨o,by rw[aT e];exact h⟩
 ·rcases ycM hb with rfl|hb;exact⟨.inl ∅,_,aI,rfl⟩
  ·apply⟨.inl (hF b hb),?_⟩;obtain⟨o,h,m⟩:=mu b hb;exact⟨o,by rw[aT (na b hb)];exact h,m⟩
 ·rw[Rp];apply⟨a,xs',F',rfl,.inl aI,hr.off K1.upd hM (λb hb z=>na b hb (ysM z)),rfl⟩
abbrev ap1(s t:T):Option (T×I):=match s with
 | .li is=>(match t with
  | .im i=>if is.length<sizeLine then some (.li (is++[i]),.non)else none
  | _=>if is.length<sizeLine then some (.lst (is.map .im++[t]),.non)else none)
 | .lst ts=>if ts.length<sizeLine then some (.lst (ts++[t]),.non)else none
 | _=>none
private def apT(s:T)(ts:List T):Option (T×I):=l1 (ap1 s) ts
def tu{t:T}{vs:List V}{F:List Addr}(h:Rps K H [t] vs F):∃v,vs=[v]/\Rp K H t v F:=by
 obtain⟨v,r,F1,F2,rfl,h1,h2,rfl⟩:=h.cons_inv;obtain⟨rfl,rfl⟩:=h2.nil_inv;exact⟨v,rfl,by rw[Gy];exact h1⟩
def F4{t u:T}{vs:List V}{F:List Addr}(h:Rps K H [t,u] vs F):∃v w F1 F2,vs=[v,w]/\Rp K H t v F1/\Rp K H u w F2/\F=F1++F2:=by
 obtain⟨v,r,F1,F2,rfl,h1,h2,rfl⟩:=h.cons_inv;obtain⟨w,rfl,h3⟩:=tu h2;exact⟨v,w,F1,F2,rfl,h1,h3,rfl⟩
def bW:RpI K H .non .non:=by rw[RpI]
def nU:du K mS apT:=by
 intro H w vs s ts s' i G F Q rw0 rs nd mu e q;unfold apT at e;have e0:=bX e;clear e;obtain⟨tt,rfl,e⟩:=e0;obtain⟨y,rfl,h3⟩:=tu rs;unfold ap1 at e;split at e
 ·delta is;obtain⟨a,xs,rfl,h1,h2,rfl⟩:=jF rw0 λa ha=>mu a (yaL _ ha);split at e
  ·obtain⟨hz,e⟩:=aQ e;cases e;exact⟨a,xs,y,rfl,rfl,h1,by rw[h2.length];exact hz,gt h1 (h2.append (.one (aZ h3).1)) bW q⟩
  ·obtain⟨hz,e⟩:=aQ e;cases e;apply⟨a,xs,y,rfl,rfl,h1,by rw[h2.length];exact hz,rG (G:=[]) (F:=F) (F':=F) h1 nd (λb hb=>mu b (yaR _ hb)) (λb hb=>yaR _ hb) ?_ bW q ∅⟩;have:=Rps.append (Rps.ims.mpr ⟨h2,rfl⟩) (Rps.cons h3 Rps.nil);exists this
 ·obtain⟨hz,e⟩:=aQ e;cases e;obtain⟨a,xs,F0,rfl,h1,h2,rfl⟩:=Bd rw0 λa ha=>mu a (yaL _ ha);have mm:∀b∈F0++F,b∈(a::F0)++F:=λb hb=>(yaM hb).elim (λz=>yaL _ (ymC _ z)) λz=>yaR _ z;apply⟨a,xs,y,rfl,rfl,h1,by rw[h2.length];exact hz,rG (G:=F0) (F:=F) (F':=F0++F) h1 (by exists nd) (λb hb=>mu b (mm b hb)) mm ?_ bW q (λb hb=>h2.dom b hb)⟩;have:=Rps.append h2 (Rps.cons h3 Rps.nil);exists this
 ·cases e
def lX{is:List I}{x:V}(h:Rpx K H (.li is) x):tyV K "list" x H:=by
 obtain⟨a,xs,rfl,h1,h2⟩:=cM h;exact .inl ⟨rfl,xs,aX h1⟩
def C1{is:List T}{x:V}(h:Rpx K H (.lst is) x):tyV K "list" x H:=by
 obtain⟨a,xs,F,rfl,h1,h2⟩:=ib h;exact .inl ⟨rfl,xs,aX h1⟩
def tO(H:Hp)(x:V)(tx:T)(ts:List T)(r:T×I)(h:Rpx K H tx x)(e:apT tx ts=some r):tyV K "list" x H:=by
 unfold apT at e;obtain⟨t,_,e⟩:=bX e;unfold ap1 at e;split at e;exact lX h;exact C1 h;cases e
abbrev AM(s t:T):Option (T×I):=match uy s with
 | some is=>(match uy t with
  | some js=>if is.length+js.length<=sizeLine then some (.li (is++js),.non)else none
  | none=>(match AZ t with
   | some js=>if is.length+js.length<=sizeLine then some (.li (is++js),.non)else none
   | none=>none))
 | none=>none
private def j7(s:T)(ts:List T):Option (T×I):=l1 (AM s) ts
def nV:du K (vX K) j7:=by
 intro H w vs s ts s' i G F Q rw0 rs nd mu e q;unfold j7 at e;have e0:=bX e;clear e;obtain⟨tt,rfl,e⟩:=e0;obtain⟨y,rfl,h3⟩:=tu rs;unfold AM at e;split at e
 ·delta is es;cases eX es;obtain⟨a,xs,rfl,h1,h2,rfl⟩:=jF rw0 λa ha=>mu a (yaL _ ha);split at e
  ·delta js ej;cases eX ej;obtain⟨hz,e⟩:=aQ e;cases e;rw[Rp]at h3;obtain⟨b,ys,rfl,g1,g2,rfl⟩:=h3;exact .inl ⟨a,b,xs,ys,rfl,rfl,h1,g1,by rw[h2.length,g2.length];exact hz,gt h1 (h2.append g2) bW q⟩
  ·split at e
   ·delta js ej;cases nJ ej;obtain⟨hz,e⟩:=aQ e;cases e;have h4:=(aZ h3).1;rw[RpI]at h4;obtain⟨b,ys,rfl,g1,g2⟩:=h4;exact .inr ⟨a,b,xs,ys,rfl,rfl,h1,g1,by rw[h2.length,g2.length];exact hz,gt h1 (h2.append g2) bW q⟩
   ·cases e
 ·cases e
def tP(H:Hp)(x:V)(tx:T)(ts:List T)(r:T×I)(h:Rpx K H tx x)(e:j7 tx ts=some r):tyV K "list" x H:=by
 unfold j7 at e;obtain⟨t,_,e⟩:=bX e;unfold AM at e;split at e
 ·delta is es;cases eX es;exact lX h
 ·cases e
private def nT:T->List T->Option (T×I)
 | .li is,[]=>match is[is.length-1]? with
  | some i=>some (.li is.dropLast,i)
  | none=>none
 | _,_=>none
def KT.dropLast{is:List I}{xs:List V}(h:KT K H is xs):KT K H is.dropLast xs.dropLast:=by
 rw[JC,JC,h.length];exact h.take _
def vF:du K Cy nT:=by
 intro H w vs s ts s' i G F Q rw0 rs nd mu e q;unfold nT at e;split at e
 ·delta is;split at e
  ·delta j hj;cases e;obtain⟨a,xs,rfl,h1,h2,rfl⟩:=jF rw0 λa ha=>mu a (yaL _ ha);obtain⟨rfl,rfl⟩:=rs.nil_inv;obtain⟨y,hy,r⟩:=h2.get hj;rw[<-h2.length]at hy;exact⟨a,xs,y,rfl,rfl,h1,hy,gt h1 h2.dropLast r q⟩
  ·cases e
 ·cases e
def C2(H:Hp)(x:V)(tx:T)(ts:List T)(r:T×I)(h:Rpx K H tx x)(e:nT tx ts=some r):tyV K "list" x H:=by
 unfold nT at e;split at e;exact lX h;cases e
abbrev AX(s n t:T):Option (T×I):=match uy s with
 | some is=>(match isI n with
  | some n=>(match t with
   | .im i=>if 0<=n/\n<=is.length/\is.length<sizeLine then some (.li (is.take n.toNat++i::is.drop n.toNat),.non)else none
   | _=>none)
  | none=>none)
 | none=>none
private def mD(s:T)(ts:List T):Option (T×I):=l2 (AX s) ts
def nW:du K mT mD:=by
 intro H w vs s ts s' i G F Q rw0 rs nd mu e q;unfold mD at e;have e0:=km e;clear e;obtain⟨tn,tt,rfl,e⟩:=e0;obtain⟨y,z,F1,F2,rfl,g1,g2,rfl⟩:=F4 rs;unfold AX at e;split at e
 ·delta is es;cases eX es;obtain⟨a,xs,rfl,h1,h2,rfl⟩:=jF rw0 λa ha=>mu a (yaL _ ha);split at e
  ·delta n en;cases cn en;split at e
   ·obtain⟨hz,e⟩:=aQ e;cases e;have e1:=aO ⟨F1,g1⟩;subst e1;exact⟨a,xs,n,z,rfl,rfl,h1,hz.1,by rw[h2.length];exact hz.2.1,by rw[h2.length];exact hz.2.2,gt h1 ((h2.take _).append (.cons (aZ g2).1 (h2.drop _))) bW q⟩
   ·cases e
  ·cases e
 ·cases e
def tQ(H:Hp)(x:V)(tx:T)(ts:List T)(r:T×I)(h:Rpx K H tx x)(e:mD tx ts=some r):tyV K "list" x H:=by
 unfold mD at e;obtain⟨t,u,_,e⟩:=km e;unfold AX at e;split at e
 ·delta is es;cases eX es;exact lX h
 ·cases e
private def wJ(s:T)(n:T)(v:T):Option T:=match s,n,v with
 | .li is,.im (.int n),.im i=>match ixN is.length n with
  | some j=>some (.li (is.set j i))
  | none=>none
 | _,_,_=>none
private def pv(j:Nat)(o i:ME):MG:=⟨λr O=>match r with
 | ⟨.ow,tv⟩=>match o.run O with
  | some (⟨.vw (some j') (some p),s⟩,O1)=>match i.run O1 with
   | some (ri,O2)=>if(decide (j'=j) && !i.mu.contains j)=true then(match wJ s ri.t tv with
    | some s'=>(match O2[j]? with
     | some (some ⟨k,t⟩)=>if k.isOw=true then some ((ao [j] O2).set j (some ⟨k,t.put p s'⟩))else none
     | _=>none)
    | none=>none)else none
   | none=>none
  | _=>none
 | _=>none,(o.mu++i.mu)++[j]⟩
def KT.set'{is:List I}{xs:List V}{i:I}{w:V}(hx:RpI K H i w)(n:Nat)(h:KT K H is xs):KT K H (is.set n i) (xs.set n w):=KT.set hx n h
def zn{to ti:TE}{o i:ME}{j:Nat}(ho:aV K to o)(hi:aV K ti i):ir K (Dy to ti Ak) (pv j o i):=by
 intro Γ H O Z E Q v r O' hK hr S q;dsimp[pv]at hr q;split at hr
 ·delta tv;split at hr
  ·delta j' p s O1 e1;split at hr
   ·delta ri O2 e2;split at hr
    ·delta hc;rw[Gd,decide_eq_true_eq,GJ]at hc;obtain⟨rfl,hmv⟩:=hc;split at hr
     ·delta s' e3;split at hr
      ·delta k t e4;split at hr
       ·delta hw;cases hr;apply ho Γ H O Z _ _ _ _ hK e1 S λx H1 S1=>?_;apply hi Γ H1 O1 Z _ _ _ _ hK e2 S1 λy H2 S2=>?_;have k1:aE i.mu ⟨none,x,⟨.vw (some j') (some p),s⟩⟩=true:=by unfold aE;dsimp[Kd.root];rw[hmv];rfl
        have k2:∀M:List Nat,aE M ⟨none,v,⟨.ow,tv⟩⟩=true:=λM=>rfl;rw[ar k1,ae,ar (k2 _)]at S2;have ry:=S2.rd ymS;have S3:=S2.drop rfl;obtain⟨G,F,h1,h2,h3,h4,h5⟩:=Sim.mut (vs:=[v]) (ts:=[tv]) (S3.perm (List.Perm.swap _ _ _)) rfl e4 hw;generalize hri:ri.t=tri at e3;unfold wJ at e3;split at e3
        ·delta is n i0;split at e3
         ·delta m hm;cases e3;obtain⟨a,xs,rfl,g1,g2,rfl⟩:=jF h1 λa ha=>h4 a (yaL _ ha);obtain⟨z,ez,g3⟩:=tu h2;cases ez;obtain⟨g4,rfl⟩:=aZ g3;have ry':∃F,Rp Γ.K H2 ri.t y F:=ry;have ey:y=.int n:=by rw[hri]at ry';exact aO ry'
          subst ey;apply⟨a,xs,n,m,rfl,rfl,g1,by rw[g2.length];exact hm,?_⟩;apply gt (Q:=λ_ H'=>Q Z H') (F:=[]) (v:=.non) (i:=.non) g1 (g2.set' g4 m) bW λv' H' G' a1 a2 a3 a4 a5 _=>q Z H' ?_;have:=h5 H' _ G' a1 a2 a3 a4 a5;rw[ae]at this;exact this
         ·cases e3
        ·cases e3
       ·cases hr
      ·cases hr
     ·cases hr
    ·cases hr
   ·cases hr
  ·cases hr
 ·cases hr
end
section
variable {Γ:Gm}{H H':Hp}{O:Rho}{Z:St}{E:List En}{v x y:V}{t:T}{K:yF}{Q:VK}
def jb{M N:List Nat}(h:∀j∈N,j∈M){e:En}(k:aE M e=true):aE N e=true:=by
 unfold aE at k|-;split at k
 ·delta j hj;dsimp[GJ,Hn,decide_eq_false_iff_not]at k|-;exact λz=>k (h j z)
 ·rfl
def cg{M N:List Nat}(h:∀j∈N,j∈M)(E:List En):ah N (ah M E)=ah M E:=by
 unfold ah;rw[Hw];intro e he;exact jb h (Gk.mp he).2
abbrev itW(c:MT) (b:MS):Nat->Rho->Option (Fl×Rho)
 | 0,_=>none
 | n+1,O=>match c.run O with
  | some (true,O1)=>(match b.run O1 with
   | some (.nx,O2)=>itW c b n O2
   | some (.ct,O2)=>itW c b n O2
   | some (.bk,O2)=>some (.nx,O2)
   | some (.rt t,O2)=>some (.rt t,O2)
   | none=>none)
  | some (false,O1)=>some (.nx,O1)
  | none=>none
def eY{c:MT}{b:MS}:∀{n:Nat} {O:Rho} {r:Fl×Rho},itW c b n O=some r->∀m,n<=m->itW c b m O=some r
 | 0,_,_,h,_,_=>by cases h
 | n+1,O,r,h,m,hm=>by
  obtain⟨m',rfl⟩:∃m',m=m'+1:=⟨m-1,by omega⟩;rw[itW]at h|-;split at h
  ·delta O1 e1;split at h;delta O2 e2;exact eY h m' ⋯;delta O2 e2;exact eY h m' ⋯;exact h;exact h;exact h
  ·exact h
  ·exact h
abbrev wV(c:MT) (b:MS) (O:Rho):Option (Fl×Rho):=@dite _ (∃n,(itW c b n O).isSome=true) (Classical.propDecidable _) (λh=>itW c b (NB h) O) (λ_=>none)
private def dL(c:MT)(b:MS):MS:=⟨wV c b,c.mu++b.mu⟩
def tV{c:MT}{b:MS}{r:Fl×Rho}{n:Nat}(h:itW c b n O=some r):(dL c b).run O=some r:=by unhygienic
 have hx:∃n,(itW c b n O).isSome=true:=⟨n,by rw[h];rfl⟩;show wV c b O=_;unfold wV;rw[dif_pos hx];have h2:=Classical.choose_spec hx;cases e:itW c b (NB hx) O with
 | none=>rw[e]at h2;cases h2
 | some r'=>
  have a:=eY h (max n (NB hx)) (Jz _ _);have b':=eY e (max n (NB hx)) (Jm _ _);rw[a]at b';exact b'.symm
def xj{c:MT}{b:MS}{r:Fl×Rho}(h:(dL c b).run O=some r):∃n,itW c b n O=some r:=by unhygienic
 have h':wV c b O=some r:=h;unfold wV at h';split at h';exact⟨_,h'⟩;cases h'
def tp{tc:TT}{tb:TS}{c:MT}{b:MS}(hc:ef K tc c)(hb:ee K tb b):ee K (wS tc tb) (dL c b):=by unhygienic
 intro Γ H O Z E D f O' hK hE hr S q;obtain⟨n,hn⟩:=xj hr;have qe:(dL c b).mu=c.mu++b.mu:=rfl;rw[qe]at q;have kc:ah c.mu (ah (c.mu++b.mu) E)=ah (c.mu++b.mu) E:=cg (λj hj=>yaL _ hj) E;have kb:ah b.mu (ah (c.mu++b.mu) E)=ah (c.mu++b.mu) E:=cg (λj hj=>yaR _ hj) E;have hE0:=bT (M:=c.mu++b.mu) hE;have S0:=S.weak (c.mu++b.mu);generalize ah (c.mu++b.mu) E=E0 at q kc kb hE0 S0;apply⟨λm Z H=>∃O,itW c b m O=some (f,O')/\Sim Γ H O Z E0,⟨n,O,hn,S0⟩,?_⟩
 ·rintro m Z1 H1 ⟨O1,h1,S1⟩;cases m with
  | zero=>cases h1
  | succ m=>
   rw[itW]at h1;split at h1
   ·delta O2 e1;apply hc Γ H1 O1 Z1 E0 _ true O2 hK e1 S1 λH2 S2=>pc ?_;rw[kc]at S2;apply⟨λZ' H'=>∃O,itW c b m O=some (f,O')/\Sim Γ H' O Z' E0,λZ' H' ⟨O3,h3,S3⟩=>⟨m,Kg m,O3,h3,S3⟩,?_⟩;split at h1
    ·delta O3 e2;exact hb Γ H2 O2 Z1 E0 _ .nx O3 hK hE0 e2 S2 λZ' H' S3=>⟨O3,h1,by rw[kb]at S3;exact S3⟩
    ·delta O3 e2;exact hb Γ H2 O2 Z1 E0 _ .ct O3 hK hE0 e2 S2 λZ' H' S3=>⟨O3,h1,by rw[kb]at S3;exact S3⟩
    ·delta O3 e2;cases h1;exact hb Γ H2 O2 Z1 E0 _ .bk _ hK hE0 e2 S2 λZ' H' S3=>q Z' H' (by rw[kb]at S3;exact S3)
    ·delta t O3 e2;cases h1;exact hb Γ H2 O2 Z1 E0 _ (.rt t) _ hK hE0 e2 S2 q
    ·cases h1
   ·delta O2 e1;cases h1;exact hc Γ H1 O1 Z1 E0 _ false _ hK e1 S1 λH2 S2=>pb (q Z1 H2 (by rw[kc]at S2;exact S2))
   ·cases h1
structure MI where
 run:Rho->Option ((List R×List R)×Rho)
 mu:List Nat
abbrev gT(Γ:Gm)(J:It)(vs:List V)(srcs:List R)(items:List R):Prop:=∀(H:Hp) (O:Rho) (Z:St) (E:List En),Sim Γ H O Z (ens vs srcs++E)->(∀i,items.length<=i->J.stop i H)/\∀i r,items[i]?=some r->J.go i H/\∀x H',J.yld i H x H'->Sim Γ H' O Z (⟨none,x,r⟩::(ens vs srcs++E))
abbrev jX(K:yF)(wi:TI)(m:MI):Prop:=∀(Γ:Gm) (H:Hp) (O:Rho) (Z:St) (E:List En) (Rr:It->Hp->Prop) (srcs:List R) (items:List R) (O':Rho),Γ.K=K->m.run O=some ((srcs,items),O')->Sim Γ H O Z E->(∀Γ':Gm,Γ'.K=Γ.K->(∀H O Z E,Sim Γ' H O Z E->Sim Γ H O Z E)->∀J vs H',vs.length=srcs.length->Sim Γ' H' O' Z (ens vs srcs++ah m.mu E)->gT Γ' J vs srcs items->Rr J H')->wi Z H Rr
def ce{M:List Nat}:∀{A:List En},(∀e∈A,aE M e=true)->ah M A=A
 | [],_=>rfl
 | e::A,h=>by rw[ar (h e ymS),ce λx hx=>h x (ymC _ hx)]
def iC{M:List Nat}:∀{vs:List V} {rs:List R},rs.all (ax M)=true->∀e∈ens vs rs,aE M e=true
 | [],rs,_,e,h=>by cases rs<;>cases h
 | _::_,[],_,e,h=>by cases h
 | v::vs,r::rs,ha,e,h=>by
  rw[Ht,Gd]at ha;rcases ycM h with rfl|h;exact ha.1;exact iC ha.2 e h
def nE:∀{vs:List V} {rs:List R},∀e∈ens vs rs,e.key=none
 | [],rs,e,h=>by cases rs<;>cases h
 | _::_,[],e,h=>by cases h
 | v::vs,r::rs,e,h=>by
  rcases ycM h with rfl|h;rfl;exact nE e h
abbrev jN(n:Int):R:=⟨.ow,.im (.int n)⟩
abbrev pN:R:=⟨.ow,.im .non⟩
abbrev gi(lo:Int) (n:Nat):List R:=(Gz n).map λi:Nat=>jN (lo+(i:Int))
def oQ{lo:Int}{n:Nat}:gT Γ (Itr lo n) [.non] [pN] (gi lo n):=λH O Z E S=>by
 apply⟨λi hi=>(show n<=i by simpa[gi]using hi),λi r hr=>?_⟩;unfold gi at hr;rw[Go]at hr;cases e:(Gz n)[i]? with
 | none=>rw[e]at hr;cases hr
 | some m=>
  rw[e]at hr;cases hr;obtain⟨h1,h2⟩:=Gc.mp e;simp at h1 h2;subst h2;apply⟨h1,λx H' y=>?_⟩;obtain⟨rfl,rfl⟩:=y;exact S.imm (jL rfl)
abbrev ii2(x y:T):Option (Int×Int):=match isI x with
 | some i=>(match isI y with
  | some j=>some (i,j)
  | none=>none)
 | none=>none
def xG{x y:T}{i j:Int}(h:ii2 x y=some (i,j)):x=.im (.int i)/\y=.im (.int j):=by
 unfold ii2 at h;split at h
 ·delta a ea;split at h
  ·delta b eb;cases h;exact⟨cn ea,cn eb⟩
  ·cases h
 ·cases h
private def bc(a:MA):MI:=⟨λO=>match a.run O with
 | some (rs,O1)=>(match l1 isI (rs.map (·.t))with
  | some j=>if -(2^62)<=j/\j<2^62 then some (([pN],gi 0 j.toNat),O1)else none
  | none=>none)
 | none=>none,a.mu⟩
private def fL(a:MA):MI:=⟨λO=>match a.run O with
 | some (rs,O1)=>(match l2 ii2 (rs.map (·.t))with
  | some (i,j)=>if -(2^62)<=i/\i<2^62/\-(2^62)<=j/\j<2^62 then some (([pN],gi i (j-i).toNat),O1)else none
  | none=>none)
 | none=>none,a.mu⟩
def wx{ta:TA}{a:MA}(ha:gI K ta a):jX K (zS ta) (bc a):=by unhygienic
 intro Γ H O Z E Rr src items O' hK hr S q;dsimp[bc]at hr;split at hr
 ·delta rs O1 e1;split at hr
  ·delta j ej;obtain⟨hj,e⟩:=aQ hr;cases e;obtain⟨t,et,ei⟩:=bX ej;cases cn ei;apply ha Γ H O Z E _ _ _ hK e1 S λvs H1 hl S1=>?_;have r1:=S1.rds hl;rw[et]at r1;obtain⟨w,rfl,r2⟩:=iT r1;apply⟨j,by rw[aO r2],hj.1,hj.2,q Γ rfl (λ_ _ _ _ S=>S) _ [.non] H1 rfl ?_ oQ⟩;exact S1.drops.imm bW
  ·cases hr
 ·cases hr
def wy{ta:TA}{a:MA}(ha:gI K ta a):jX K (zT ta) (fL a):=by unhygienic
 intro Γ H O Z E Rr src items O' hK hr S q;dsimp[fL]at hr;split at hr
 ·delta rs O1 e1;split at hr
  ·delta i j ej;obtain⟨hj,e⟩:=aQ hr;cases e;obtain⟨t,u,et,ei⟩:=km ej;obtain⟨rfl,rfl⟩:=xG ei;apply ha Γ H O Z E _ _ _ hK e1 S λvs H1 hl S1=>?_;have r1:=S1.rds hl;rw[et]at r1;obtain⟨w,w',rfl,r2,r3⟩:=CQ r1;apply⟨i,j,by rw[aO r2,aO r3],hj,q Γ rfl (λ_ _ _ _ S=>S) _ [.non] H1 rfl ?_ oQ⟩;exact S1.drops.imm bW
  ·cases hr
 ·cases hr
abbrev g6:R->Option (List R)
 | ⟨_,.li is⟩=>some (is.map λi=>⟨.ow,.im i⟩)
 | ⟨.vw ro _,.lst ts⟩=>some (ts.map (partV ro))
 | ⟨_,.im (.ls is)⟩=>some (is.map λi=>⟨.ow,.im i⟩)
 | _=>none
abbrev kh:R->Option (List R)
 | ⟨_,.im (.tup is)⟩=>some (is.map λi=>⟨.ow,.im i⟩)
 | _=>none
abbrev uN(a:ME):MI:=⟨λO=>match a.run O with
 | some (r,O1)=>(match g6 r with
  | some rs=>some (([r],rs),O1)
  | none=>none)
 | none=>none,a.mu⟩
abbrev Ba(a:ME):MI:=⟨λO=>match a.run O with
 | some (r,O1)=>(match kh r with
  | some rs=>some (([r],rs),O1)
  | none=>none)
 | none=>none,a.mu⟩
def Rd.det{a:Addr}{xs ys:List V}(h:Rd H a (.lst xs))(g:Rd H a (.lst ys)):xs=ys:=by
 rcases h with h|⟨o,h⟩<;>rcases g with g|⟨o',g⟩<;>rw[h]at g<;>cases g<;>rfl
def aC{α β:Type}{f : α->β}{l:List α}{i:Nat}{b : β}(h:(l.map f)[i]?=some b):∃a,l[i]?=some a/\f a=b:=by
 rw[Go]at h;cases e:l[i]? with
 | none=>rw[e]at h;cases h
 | some a=>rw[e]at h;exact⟨a,rfl,GK.inj h⟩
def Sim.partV{ro:Option Nat}{p:Option (List Ac)}{s:T}{e:En}{w:V}(S:Sim Γ H O Z E)(he:e∈E)(ho:e.r.k=.vw ro p)(hp:∀F,Rp Γ.K H e.r.t e.v F->∃G,Rp Γ.K H s w G/\∀a∈G,a∈F):Sim Γ H O Z (⟨none,w,L2.partV ro s⟩::E):=by
 cases s with
 | im i=>
  obtain⟨F,r⟩:=S.rd he;obtain⟨G,g,_⟩:=hp F r;exact S.imm (aZ g).1
 | _=>
  obtain⟨w',h1,S2⟩:=S.part he ho (P:=λw'=>w'=w) (s:=_) (λF r=>let ⟨G,g,hG⟩:=hp F r;⟨w,G,rfl,g,hG⟩);subst h1;exact S2
def Dh{a:Addr}{src:R}{items:List R}(hi:g6 src=some items):gT Γ (Itl Γ.K a) [.ref a] [src] items:=λH O Z E S=>by
 replace S:Sim Γ H O Z (⟨none,.ref a,src⟩::E):=S;have r1:Rpx Γ.K H src.t (.ref a):=S.rd (e:=⟨none,.ref a,src⟩) ymS;unfold g6 at hi;split at hi
 ·cases hi;obtain⟨a',xs,ea,g1,g2⟩:=cM r1;cases ea;apply⟨λi hi=>⟨xs,aX g1,by rw[g2.length];simpa using hi⟩,λi r hr=>?_⟩;obtain⟨j,hj,rfl⟩:=aC hr;obtain⟨w,hw,rw0⟩:=g2.get hj;apply⟨⟨xs,w,aX g1,hw⟩,λx H' y=>?_⟩;obtain⟨rfl,y⟩:=y;have:=y xs (aX g1);rw[hw]at this;cases this;exact S.imm rw0
 ·delta ro p ts;cases hi;obtain⟨a',xs,F,ea,g1,g2⟩:=ib r1;cases ea;apply⟨λi hi=>⟨xs,aX g1,by rw[g2.length];simpa using hi⟩,λi r hr=>?_⟩;obtain⟨j,hj,rfl⟩:=aC hr;obtain⟨w,A,G,B,hw,rw0,_⟩:=g2.at hj;apply⟨⟨xs,w,aX g1,hw⟩,λx H' y=>?_⟩;obtain⟨rfl,y⟩:=y;have:=y xs (aX g1);rw[hw]at this;cases this;apply S.partV (e:=⟨none,.ref a,⟨.vw ro p,.lst ts⟩⟩) ymS rfl λF rp=>?_;have rp':Rp Γ.K _ (.lst ts) (.ref a) F:=rp;rw[Rp]at rp';obtain⟨a'',xs',F',ea,k1,k2,rfl⟩:=rp';cases ea;have:=k1.det g1;subst this;obtain⟨w',A',G',B',hw',rw',e',_⟩:=k2.at hj;rw[hw]at hw';cases hw';exact⟨G',rw',λb hb=>by rw[e'];exact ymC _ (yaL _ (yaR _ hb))⟩
 ·cases hi;obtain⟨a',xs,ea,g1,g2⟩:=Am r1;cases ea;apply⟨λi hi=>⟨xs,aX g1,by rw[g2.length];simpa using hi⟩,λi r hr=>?_⟩;obtain⟨j,hj,rfl⟩:=aC hr;obtain⟨w,hw,rw0⟩:=g2.get hj;apply⟨⟨xs,w,aX g1,hw⟩,λx H' y=>?_⟩;obtain⟨rfl,y⟩:=y;have:=y xs (aX g1);rw[hw]at this;cases this;exact S.imm rw0
 ·cases hi
def mX{ta:TE}{a:ME}(ha:aV K ta a):jX K (qF K ta) (uN a):=by
 intro Γ H O Z E Rr srcs items O' hK hr S q;dsimp[uN]at hr;split at hr
 ·delta src O1 e1;split at hr
  ·delta rs e2;cases hr;apply ha Γ H O Z E _ _ _ hK e1 S λx H1 S1=>?_;have r1:Rpx Γ.K H1 src.t x:=S1.rd (e:=⟨none,x,src⟩) ymS;have hx:∃a xs,x=.ref a/\SqL K H1 a xs:=by
    unfold g6 at e2;split at e2;obtain⟨a,xs,e,g1,g2⟩:=cM r1;exact⟨a,xs,e,aX g1⟩;obtain⟨a,xs,F,e,g1,g2⟩:=ib r1;exact⟨a,xs,e,aX g1⟩;obtain⟨a,xs,e,g1,g2⟩:=Am r1;exact⟨a,xs,e,aX g1⟩;cases e2
   obtain⟨b,xs,rfl,h2⟩:=hx;exact⟨b,rfl,⟨xs,h2⟩,q Γ rfl (λ_ _ _ _ S=>S) _ [.ref b] H1 rfl S1 (by rw[<-hK];exact Dh e2)⟩
  ·cases hr
 ·cases hr
def Di{a:Addr}{src:R}{items:List R}(hi:kh src=some items):gT Γ (Itt Γ.K a) [.ref a] [src] items:=λH O Z E S=>by
 replace S:Sim Γ H O Z (⟨none,.ref a,src⟩::E):=S;have r1:Rpx Γ.K H src.t (.ref a):=S.rd (e:=⟨none,.ref a,src⟩) ymS;unfold kh at hi;split at hi
 ·cases hi;obtain⟨a',xs,ea,g1,g2⟩:=bO r1;cases ea;apply⟨λi hi=>⟨xs,g1,by rw[g2.length];simpa using hi⟩,λi r hr=>?_⟩;obtain⟨j,hj,rfl⟩:=aC hr;obtain⟨w,hw,rw0⟩:=g2.get hj;apply⟨⟨xs,w,g1,hw⟩,λx H' y=>?_⟩;obtain⟨rfl,y⟩:=y;have:=y xs g1;rw[hw]at this;cases this;exact S.imm rw0
 ·cases hi
def ze{ta:TE}{a:ME}(ha:aV K ta a):jX K (xF K ta) (Ba a):=by
 intro Γ H O Z E Rr srcs items O' hK hr S q;dsimp[Ba]at hr;split at hr
 ·delta src O1 e1;split at hr
  ·delta rs e2;cases hr;apply ha Γ H O Z E _ _ _ hK e1 S λx H1 S1=>?_;have r1:Rpx Γ.K H1 src.t x:=S1.rd (e:=⟨none,x,src⟩) ymS;have hx:∃a xs,x=.ref a/\SqT K H1 a xs:=by
    unfold kh at e2;split at e2;obtain⟨a,xs,e,g1,g2⟩:=bO r1;rw[hK]at g1;exact⟨a,xs,e,g1⟩;cases e2
   obtain⟨b,xs,rfl,h2⟩:=hx;exact⟨b,rfl,⟨xs,h2⟩,q Γ rfl (λ_ _ _ _ S=>S) _ [.ref b] H1 rfl S1 (by rw[<-hK];exact Di e2)⟩
  ·cases hr
 ·cases hr
def Ll.back{Γ Γ':Gm}{O':Rho}{E:List En}{D:Ls}{f:Fl}(bk:∀H O Z E,Sim Γ' H O Z E->Sim Γ H O Z E)(q:Ll Γ O' E D f):Ll Γ' O' E D f:=by
 cases f with
 | nx=>exact λZ' H' S=>q Z' H' (bk _ _ _ _ S)
 | bk=>exact λZ' H' S=>q Z' H' (bk _ _ _ _ S)
 | ct=>exact λZ' H' S=>q Z' H' (bk _ _ _ _ S)
 | rt t=>exact λv Z' H' S=>q v Z' H' (bk _ _ _ _ S)
abbrev fm(g:R->Rho->Option Rho) (b:Rho->Option (Fl×Rho)):List R->Rho->Option (Fl×Rho)
 | [],O=>some (.nx,O)
 | r::rs,O=>match g r O with
  | some O1=>(match b O1 with
   | some (.nx,O2)=>fm g b rs O2
   | some (.ct,O2)=>fm g b rs O2
   | some (.bk,O2)=>some (.nx,O2)
   | some (.rt t,O2)=>some (.rt t,O2)
   | none=>none)
  | none=>none
private def bZ(it:MI)(g:MG)(b:MS):MS:=⟨λO=>match it.run O with
 | some ((srcs,items),O1)=>if(srcs.all (ax (g.mu++b.mu))&&items.all (ax (g.mu++b.mu)))=true then fm g.run b.run items O1 else none
 | none=>none,it.mu++(g.mu++b.mu)⟩
def zc{wi:TI}{g:TG}{tb:TS}{it:MI}{mg:MG}{b:MS}(hi:jX K wi it)(hg:ir K g mg)(hb:ee K tb b):ee K (E4 wi g tb) (bZ it mg b):=by
 intro Γ H O Z E D f O' hK hE hr S q;dsimp[bZ]at hr q;split at hr
 ·delta srcs items O1 e1;split at hr
  ·delta al;rw[Gd]at al;apply hi Γ H O Z E _ srcs items O1 hK e1 S λΓ hK2 bk J vs H1 hlv S1 wk=>?_;replace hK:=hK2.trans hK;replace q:=Ll.back bk q;rw[<-ae]at q;have hE1:=bT (M:=it.mu) hE;generalize ah it.mu E=E1 at q S1 hE1;have ks:∀e∈ens vs srcs,aE (mg.mu++b.mu) e=true:=iC al.1;have kg:ah mg.mu (ens vs srcs++ah (mg.mu++b.mu) E1)=ens vs srcs++ah (mg.mu++b.mu) E1:=by
    rw[az,ce (λe he=>jb (λj hj=>yaL _ hj) (ks e he)),cg (λj hj=>yaL _ hj)]
   have kb:ah b.mu (ens vs srcs++ah (mg.mu++b.mu) E1)=ens vs srcs++ah (mg.mu++b.mu) E1:=by
    rw[az,ce (λe he=>jb (λj hj=>yaR _ hj) (ks e he)),cg (λj hj=>yaR _ hj)]
   have S2:=S1.weak (mg.mu++b.mu);rw[az,ce ks]at S2;have hE2:=bT (M:=mg.mu++b.mu) hE1;generalize ah (mg.mu++b.mu) E1=E2 at q kg kb S2 hE2;have hE3:∀e∈ens vs srcs++E2,e.key=none:=λe he=>by
    rcases yaM he with he|he;exact nE e he;exact hE2 e he
   apply⟨λi m Z H=>m=items.length-i/\i<=items.length/\∃O,fm mg.run b.run (items.drop i) O=some (f,O')/\Sim Γ H O Z (ens vs srcs++E2),⟨items.length,by simp,GY _,O1,by simpa using hr,S2⟩,?_⟩;rintro i m Z1 H2 ⟨rfl,hil,O2,h2,S3⟩;obtain⟨w1,w2⟩:=wk H2 O2 Z1 E2 S3;by_cases hlt:i<items.length
   ·have hx:items[i]?=some items[i]:=by simp[hlt]
    obtain⟨w3,w4⟩:=w2 i _ hx;rw[Hz hlt,fm]at h2;apply .inr ⟨w3,λZ' H'=>∃O,fm mg.run b.run (items.drop (i+1)) O=some (f,O')/\Sim Γ H' O Z' (ens vs srcs++E2),λZ' H' ⟨O3,h3,S4⟩=>⟨items.length-(i+1),by omega,rfl,hlt,O3,h3,S4⟩,λx H3 y=>?_⟩;have S4:=w4 x H3 y;split at h2
    ·delta O3 e3;apply hg Γ H3 O2 Z1 _ _ x _ O3 hK e3 S4 λZ2 H4 S5=>?_;rw[kg]at S5;split at h2
     ·delta O4 e4;exact hb Γ H4 O3 Z2 _ _ .nx O4 hK hE3 e4 S5 λZ' H' S6=>⟨O4,h2,by rw[kb]at S6;exact S6⟩
     ·delta O4 e4;exact hb Γ H4 O3 Z2 _ _ .ct O4 hK hE3 e4 S5 λZ' H' S6=>⟨O4,h2,by rw[kb]at S6;exact S6⟩
     ·delta O4 e4;cases h2;exact hb Γ H4 O3 Z2 _ _ .bk _ hK hE3 e4 S5 λZ' H' S6=>q Z' H' (by rw[kb]at S6;exact S6.drops)
     ·delta t O4 e4;cases h2;exact hb Γ H4 O3 Z2 _ _ (.rt t) _ hK hE3 e4 S5 q
     ·cases h2
    ·cases h2
   ·have e:i=items.length:=by omega
    subst e;rw[IF,fm]at h2;cases h2;exact .inl ⟨w1 _ (Gj _),q Z1 H2 S3.drops⟩
  ·cases hr
 ·cases hr
end
abbrev jt(π:Nat->Nat):Kd->Kd
 | .vw (some j) p=>.vw (some (π j)) p
 | k=>k
abbrev gf(π:Nat->Nat) (r:R):R:=⟨jt π r.k,r.t⟩
abbrev br(π:Nat->Nat) (e:En):En:=⟨e.key.map π,e.v,gf π e.r⟩
section
variable {Γ:Gm}{H H':Hp}{O:Rho}{Z:St}{E X:List En}{v x y:V}{t:T}{K:yF}{Q:VK}{π:Nat->Nat}
def qU(k:Kd):(jt π k).isOw=k.isOw:=by
 cases k with
 | vw a b=>cases a<;>rfl
 | _=>rfl
def lN(k:Kd):(jt π k).root=k.root.map π:=by
 cases k with
 | vw a b=>cases a<;>rfl
 | _=>rfl
def KY.ren(S:KY Γ H X)(inj:∀e∈X,∀f∈X,∀a b,e.key=some a->f.key=some b->π a=π b->a=b):KY Γ H (X.map (br π)):=by
 obtain⟨L,g,rfl⟩:=S;have own:∀L:List Hd,(L.map λh:Hd=>(⟨br π h.e,h.F⟩:Hd)).flatMap Hd.own=L.flatMap Hd.own:=by
  intro L
  induction L with
  | nil=>rfl
  | cons h L ih=>
   rw[Gg,Gs,Gs,ih];congr 1;unfold Hd.own;show(if(jt π h.e.r.k).isOw=true then h.F else [])=_;rw[qU]
 apply⟨L.map λh=>⟨br π h.e,h.F⟩,⟨by rw[own];exact g.nd,by rw[own];exact g.ad,λh hh=>?_,λh hh=>?_,?_,g.fr,g.iol⟩,by rw[Hf,Hf];rfl⟩
 ·obtain⟨h0,h1,rfl⟩:=Gn.mp hh;exact g.rp h0 h1
 ·obtain⟨h0,h1,rfl⟩:=Gn.mp hh;have k:=g.kd h0 h1;unfold K4 at k|-;show match jt π h0.e.r.k with
   | .ow=>_|.io k=>_|.vw none _=>_|.vw (some j) p=>_
  cases ek:h0.e.r.k with
  | ow=>rw[ek]at k;exact k
  | io n=>rw[ek]at k;exact k
  | vw a p=>
   rw[ek]at k;cases a with
   | none=>rw[own];exact k
   | some j=>
    obtain⟨x,x1,x2,x3,x4,x5⟩:=k;apply⟨⟨br π x.e,x.F⟩,GS x1,by show x.e.key.map π=_;rw[x2];rfl,by show(jt π x.e.r.k).isOw=true;rw[qU];exact x3,λa ha=>by rw[own];exact x4 a ha,x5⟩
 ·rw[Is];have e:(λh:Hd=>h.e.key)∘(λh:Hd=>(⟨br π h.e,h.F⟩:Hd))=λh=>h.e.key.map π:=rfl;rw[e];have:∀L':List Hd,(∀h∈L',h∈L)->(L'.filterMap λh=>h.e.key).Nodup->(L'.filterMap λh=>h.e.key.map π).Nodup:=by
   intro L'
   induction L' with
   | nil=>intro _ _;exact Hj
   | cons h L' ih=>
    intro hs nd;rw[GG]at nd|-;cases ek:h.e.key with
    | none=>rw[ek]at nd;exact ih (λx hx=>hs x (ymC _ hx)) nd
    | some a=>
     rw[ek]at nd;obtain⟨n1,n2⟩:=GA.mp nd;apply GA.mpr ⟨λhm=>?_,ih (λx hx=>hs x (ymC _ hx)) n2⟩;obtain⟨y,hy,ey⟩:=GX.mp hm;cases eb:y.e.key with
     | none=>rw[eb]at ey;cases ey
     | some b=>
      rw[eb]at ey;have e2 : π b=π a:=GK.inj ey;have:=inj y.e (GS (hs y (ymC _ hy))) h.e (GS (hs h ymS)) b a eb ek e2;subst this;exact n1 (GX.mpr ⟨y,hy,eb⟩)
  exact this L (λ_ h=>h) g.ks
def KY.filt(S:KY Γ H X)(p:En->Bool)(hp:∀e∈X,p e=true->∀j,e.r.k.root=some j->∀f∈X,f.key=some j->p f=true):KY Γ H (X.filter p):=by
 obtain⟨L,g,rfl⟩:=S;apply⟨L.filter λh=>p h.e,g.sub Hh λh hh j hj x hx hk ho=>?_,by rw[Ir];rfl⟩;obtain⟨h1,h2⟩:=Gk.mp hh;exact Gk.mpr ⟨hx,hp h.e (GS h1) h2 j hj x.e (GS hx) hk⟩
def K3{e:En}:e∈aD 0 Z O ↔ ∃i,e.key=some i/\O[i]?=some (some e.r)/\Z[i]?=some (some e.v):=by
 constructor
 ·intro h;obtain⟨i,h1,h2,h3⟩:=cX h;exact⟨i,by rw[h1,Hb],h2,h3⟩
 ·rintro⟨i,h1,h2,h3⟩;have:=(bB (k:=0) h3 h2).mem_iff.mpr ymS;have e':e=⟨some (0+i),e.v,e.r⟩:=by cases e;dsimp[En.mk.injEq,and_self,and_true,Hb];exact h1
  rw[e'];exact this
def mq:∀{k:Nat} {Z:List (Option V)} {O:Rho},(aD k Z O).Pairwise λa b=>∃i j,a.key=some i/\b.key=some j/\i<j
 | _,[],_=>List.Pairwise.nil
 | _,x::_,[]=>by cases x<;>exact List.Pairwise.nil
 | k,x::Z,y::O=>by
  have ih:=mq (k:=k+1) (Z:=Z) (O:=O);cases x with
  | none=>simpa[aD]using ih
  | some v=>
   cases y with
   | none=>simpa[aD]using ih
   | some r=>
    dsimp[aD];apply List.Pairwise.cons (λb hb=>?_) ih;obtain⟨i,h1,_,_⟩:=cX hb;exact⟨k,k+1+i,rfl,h1,by omega⟩
def Lc{k:Nat}:(aD k Z O).Nodup:=by
 apply List.Pairwise.imp ?_ mq;rintro a b ⟨i,j,h1,h2,h3⟩ rfl;rw[h1]at h2;cases h2;omega
abbrev bS(fr:List (Option Nat)) (j:Nat):Bool:=match fr[j]? with
 | some (some i)=>i==j
 | _=>false
abbrev piF(fr:List (Option Nat)) (j:Nat):Nat:=if bS fr j=true then j else fr.length+j
abbrev psF(fr:List (Option Nat)) (k:Nat):Nat:=if k<fr.length then k else k-fr.length
abbrev jM(π:Nat->Nat):Nat->List (Option Nat)->Rho->Rho
 | _,[],_=>[]
 | k,o::fr,r::O=>(if o=some k then r.map (gf π)else none)::jM π (k+1) fr O
 | k,o::fr,[]=>none::jM π (k+1) fr []
abbrev inR(fr:List (Option Nat)) (O:Rho):Rho:=jM (piF fr) 0 fr O
abbrev gP(ψ : Nat->Nat) (tg mu:List Nat):Nat->List (Option Nat)->Rho->Rho->Rho
 | k,o::fr,ri::Oi,r::O=>(if o=some k then(cq tg ri).map (gf ψ)else cq mu r)::gP ψ tg mu (k+1) fr Oi O
 | _,[],_,O=>O.map (cq mu)
 | _,_::_,[],O=>O.map (cq mu)
 | _,_::_,_::_,[]=>[]
abbrev tgF(fr:List (Option Nat)):List Nat:=(Gz fr.length).filter λi=>!bS fr i
abbrev muF(fr:List (Option Nat)) (mu:List Nat):List Nat:=mu.filter (bS fr)
abbrev bK(fr:List (Option Nat)) (mu:List Nat) (Oi O:Rho):Rho:=gP (psF fr) (tgF fr) (muF fr mu) 0 fr Oi O
def Lg{fr:List (Option Nat)}{j:Nat}:bS fr j=true↔fr[j]?=some (some j):=by
 unfold bS;split;delta i h;rw[h];simp
 ·delta h;constructor;intro z;cases z;intro z;exact absurd z (h j)
def j8:∀{k:Nat} {fr:List (Option Nat)} {O:Rho} {i:Nat} {r':R},(jM π k fr O)[i]?=some (some r')↔fr[i]?=some (some (k+i))/\∃r,O[i]?=some (some r)/\r'=gf π r
 | k,[],O,i,r'=>by simp[jM]
 | k,o::fr,[],0,r'=>by simp[jM]
 | k,o::fr,[],i+1,r'=>by
  rw[jM,Ho,j8 (k:=k+1) (fr:=fr) (O:=[]) (i:=i)];simp
 | k,o::fr,r::O,0,r'=>by
  rw[jM,HE,HE,HE];by_cases h:o=some k
  ·subst h;rw[if_pos rfl];cases r with
   | none=>simp
   | some r=>simp[eq_comm]
  ·rw[if_neg h];constructor;intro z;cases z;rintro⟨h1,_⟩;exact absurd (by exists h1) h
 | k,o::fr,r::O,i+1,r'=>by
  rw[jM,Ho,Ho,Ho,j8 (k:=k+1) (fr:=fr) (O:=O) (i:=i),show k+1+i=k+(i+1) by omega]
def iE:∀{k:Nat} {fr:List (Option Nat)} {O:Rho},(jM π k fr O).length=fr.length
 | k,[],O=>rfl
 | k,o::fr,[]=>by rw[jM,Gp,iE,Gp]
 | k,o::fr,r::O=>by rw[jM,Gp,iE,Gp]
def Lo{fr:List (Option Nat)}{i:Nat}{r':R}:(inR fr O)[i]?=some (some r')↔bS fr i=true/\∃r,O[i]?=some (some r)/\r'=gf (piF fr) r:=by
 unfold inR;rw[j8,Hb,Lg]
def iF{fr:List (Option Nat)}{i:Nat}(h:bS fr i=true):(aM fr Z)[i]?=some (Z.getD i none):=by
 unfold aM;rw[Go,Lg.mp h];rfl
def getD_some{i:Nat}{v:V}:Z.getD i none=some v↔Z[i]?=some (some v):=by
 rw[GC];cases h:Z[i]? with
 | none=>simp
 | some o=>simp
def dD{fr:List (Option Nat)}{j:Nat}(h:bS fr j=true):piF fr j=j:=by unfold piF;rw[if_pos h]
def cA{fr:List (Option Nat)}{j:Nat}(h:bS fr j=false):piF fr j=fr.length+j:=by unfold piF;rw[if_neg (by rw[h];simp)]
def bG{fr:List (Option Nat)}{j:Nat}(h:bS fr j=true):j<fr.length:=(Gc.mp (Lg.mp h)).1
def yw{fr:List (Option Nat)}{a b:Nat}(h:piF fr a=piF fr b):a=b:=by
 cases ha:bS fr a<;>cases hb:bS fr b;rw[cA ha,cA hb]at h;omega;rw[cA ha,dD hb]at h;have:=bG hb;omega;rw[dD ha,cA hb]at h;have:=bG ha;omega;rw[dD ha,dD hb]at h;exact h
def vL{fr:List (Option Nat)}(a:Nat):psF fr (piF fr a)=a:=by
 cases ha:bS fr a;rw[cA ha];unfold psF;rw[if_neg ⋯];omega;rw[dD ha];unfold psF;rw[if_pos (bG ha)]
def mY{fr:List (Option Nat)}(e:En):br (psF fr) (br (piF fr) e)=e:=by
 obtain⟨key,v,⟨k,t⟩⟩:=e;have h1:(key.map (piF fr)).map (psF fr)=key:=by cases key<;>simp[vL]
 have h2:jt (psF fr) (jt (piF fr) k)=k:=by
  cases k with
  | vw a p=>cases a<;>simp[jt,vL]
  | _=>rfl
 show(⟨(key.map (piF fr)).map (psF fr),v,⟨jt (psF fr) (jt (piF fr) k),t⟩⟩:En)=_;rw[h1,h2]
abbrev eU(fr:List (Option Nat)) (e:En):Bool:=match e.key with
 | some j=>bS fr j
 | none=>false
def jj{α β:Type}{f : α->β}{l:List α}(h:l.Nodup)(inj:∀a∈l,∀b∈l,f a=f b->a=b):(l.map f).Nodup:=by
 induction l with
 | nil=>exact Hj
 | cons a l ih=>
  obtain⟨h1,h2⟩:=GA.mp h;rw[Gg];apply GA.mpr ⟨λhm=>?_,ih h2 λx hx y hy=>inj x (ymC _ hx) y (ymC _ hy)⟩;obtain⟨b,hb,e⟩:=Gn.mp hm;have:=inj b (ymC _ hb) a ymS e;subst this;exact h1 hb
def inn_perm{fr:List (Option Nat)}:((aD 0 Z O).map (br (piF fr))).Perm (aD 0 (aM fr Z) (inR fr O)++((aD 0 Z O).filter λe=>!eU fr e).map (br (piF fr))):=by
 have inj:∀a∈aD 0 Z O,∀b∈aD 0 Z O,br (piF fr) a=br (piF fr) b->a=b:=λa _ b _ h=>by
  have:=congrArg (br (psF fr)) h;rwa [mY,mY]at this
 have nd1:=jj (Lc (k:=0) (Z:=Z) (O:=O)) inj;have nd2:(((aD 0 Z O).filter λe=>!eU fr e).map (br (piF fr))).Nodup:=nd1.sublist (Hh.map _);apply(IW nd1 (Gi.mpr ⟨Lc,nd2,?_⟩)).mpr λe=>?_
 ·rintro a ha b hb rfl;obtain⟨i,h1,h2,h3⟩:=K3.mp ha;obtain⟨hc,_⟩:=Lo.mp h2;obtain⟨f,hf,rfl⟩:=Gn.mp hb;obtain⟨hf1,hf2⟩:=Gk.mp hf;obtain⟨j,g1,g2,g3⟩:=K3.mp hf1;have g0:bS fr j=false:=by unfold eU at hf2;rw[g1]at hf2;exists hf2
  have h1':(f.key.map (piF fr))=some i:=h1;rw[g1]at h1';have h1'':piF fr j=i:=by exists h1'
  rw[cA g0]at h1'';have:=bG hc;omega
 ·rw[Ip];constructor
  ·intro he;obtain⟨f,hf,rfl⟩:=Gn.mp he;obtain⟨j,g1,g2,g3⟩:=K3.mp hf;cases hc:bS fr j;exact .inr (Gn.mpr ⟨f,Gk.mpr ⟨hf,by unfold eU;rw[g1];simp[hc]⟩,rfl⟩)
   ·left;apply K3.mpr ⟨j,?_,Lo.mpr ⟨hc,_,g2,rfl⟩,?_⟩
    ·show f.key.map (piF fr)=_;rw[g1];simp[dD hc]
    ·rw[iF hc,getD_some.mpr g3];rfl
  ·rintro(he|he)
   ·obtain⟨i,h1,h2,h3⟩:=K3.mp he;obtain⟨hc,r,h4,h5⟩:=Lo.mp h2;rw[iF hc]at h3;have h3':=getD_some.mp (GK.inj h3);apply Gn.mpr ⟨⟨some i,e.v,r⟩,K3.mpr ⟨i,rfl,h4,h3'⟩,?_⟩;cases e;simp only at h1 h5;simp[br,dD hc,h1,h5]
   ·obtain⟨f,hf,rfl⟩:=Gn.mp he;exact GS (Gk.mp hf).1
abbrev cO(fr:List (Option Nat)) (Z:St) (O:Rho) (E:List En):List En:=(E++(aD 0 Z O).filter λe=>!eU fr e).map (br (piF fr))
abbrev cm(fr:List (Option Nat)) (n:Nat):Bool:=decide (n<=fr.length)&&(Gz fr.length).all λi=>!bS fr i||decide (i<n)
def mw{fr:List (Option Nat)}{n j:Nat}(h:cm fr n=true)(hc:bS fr j=true):j<n:=by
 unfold cm at h;rw[Gd]at h;have:=G9.mp h.2 j (GU.mpr (bG hc));rw[hc]at this;exists this
def Sim.inn{fr:List (Option Nat)}(S:Sim Γ H O Z E)(hf:cm fr O.length=true):Sim Γ H (inR fr O) (aM fr Z) (cO fr Z O E):=by
 apply⟨?_,λi r h=>?_,by rw[bD];unfold inR;rw[iE],λe he j hj=>?_⟩
 ·have:=S.sl.ren (π:=piF fr) λe _ f _ a b _ _ h=>yw h;rw[Gq]at this;apply this.perm ?_;unfold cO;rw[Gq,Gx];exact(inn_perm.append_left _).trans (JD.append_left _)
 ·obtain⟨hc,r0,h1,_⟩:=Lo.mp h;obtain⟨v,hv⟩:=S.al i r0 h1;exact⟨v,by rw[iF hc,getD_some.mpr hv]⟩
 ·unfold inR;rw[iE];unfold cO at he;obtain⟨f,hf',rfl⟩:=Gn.mp he;have hj':f.key.map (piF fr)=some j:=hj;cases hk:f.key with
  | none=>rw[hk]at hj';cases hj'
  | some i=>
   rw[hk]at hj';have e1:piF fr i=j:=by exists hj'
   have hc:bS fr i=false:=by
    rcases yaM hf' with z|z
    ·cases hc:bS fr i with
     | false=>rfl
     | true=>
      have:=mw hf hc;have:=S.hi f z i hk;omega
    ·have:=(Gk.mp z).2;unfold eU at this;rw[hk]at this;exists this
   rw[cA hc]at e1;omega
def lK{ψ : Nat->Nat}{tg mu:List Nat}:∀{k:Nat} {fr:List (Option Nat)} {Oi O:Rho} {i:Nat},i < O.length->O.length<=fr.length->fr.length=Oi.length->(gP ψ tg mu k fr Oi O)[i]?=some (if fr[i]?=some (some (k+i))then(cq tg (Oi.getD i none)).map (gf ψ)else cq mu (O.getD i none))
 | k,fr,Oi,[],i,h,_,_=>by cases h
 | k,[],Oi,r::O,i,_,h,_=>by simp at h
 | k,o::fr,[],r::O,i,_,_,h=>by cases h
 | k,o::fr,ri::Oi,r::O,0,h,h2,h3=>by
  rw[gP,HE,HE];simp
 | k,o::fr,ri::Oi,r::O,i+1,h,h2,h3=>by
  rw[gP,Ho,lK (k:=k+1) (by exists h) (by exists h2) (by exists h3),Ho,show k+1+i=k+(i+1) by omega];simp
def jl{ψ : Nat->Nat}{tg mu:List Nat}:∀{k:Nat} {fr:List (Option Nat)} {Oi O:Rho},(gP ψ tg mu k fr Oi O).length=O.length
 | k,[],Oi,O=>by cases Oi<;>simp[gP]
 | k,o::fr,[],O=>by simp[gP]
 | k,o::fr,ri::Oi,[]=>by simp[gP]
 | k,o::fr,ri::Oi,r::O=>by rw[gP,Gp,jl,Gp]
def iV{fr:List (Option Nat)}{i:Nat}:i∈tgF fr↔i<fr.length/\bS fr i=false:=by
 unfold tgF;rw[Gk,GU];simp
def Li{M:List Nat}{o:Option R}{r:R}:cq M o=some r↔o=some r/\dq M r=true:=by
 cases o with
 | none=>simp[cq]
 | some x=>
  dsimp[cq];split
  ·delta h;constructor;intro z;cases z;exact⟨rfl,h⟩;rintro⟨z,_⟩;rw[z]
  ·delta h;constructor;intro z;cases z;rintro⟨z,h2⟩;cases z;exact absurd h2 h
def uB{fr:List (Option Nat)}{mu:List Nat}(hmu:∀j∈mu,j<fr.length)(e:En):aE mu (br (piF fr) e)=aE (muF fr mu) e:=by
 unfold aE;show(match (jt (piF fr) e.r.k).root with|some j=>!mu.contains j|none=>true)=_;rw[lN];cases e.r.k.root with
 | none=>rfl
 | some j=>
  show(!mu.contains (piF fr j)) = !(muF fr mu).contains j;congr 1;rw[GR];dsimp[Hn,decide_eq_true_eq,muF,Gk];cases hc:bS fr j
  ·rw[cA hc];constructor;intro z;have:=hmu _ z;omega;rintro⟨_,z⟩;cases z
  ·rw[dD hc];simp
def xL{fr:List (Option Nat)}(e:En):aE (tgF fr) (br (piF fr) e)=true:=by
 unfold aE;show(match (jt (piF fr) e.r.k).root with|some j=>!(tgF fr).contains j|none=>true)=_;rw[lN];cases e.r.k.root with
 | none=>rfl
 | some j=>
  show(!(tgF fr).contains (piF fr j))=true;dsimp[Hn,GJ,decide_eq_false_iff_not,iV];rintro⟨h1,h2⟩;cases hc:bS fr j;rw[cA hc]at h1;omega;rw[dD hc,hc]at h2;cases h2
def Sim.outt{fr:List (Option Nat)}{mu:List Nat}{Oi:Rho}{Z2:St}(S:Sim Γ H' Oi Z2 (ah mu (cO fr Z O E)))(hf:cm fr O.length=true)(hmu:∀j∈mu,j<fr.length)(hl : Oi.length=fr.length)(kp:Kp fr (aM fr Z) Z2)
  (al:∀(i:Nat) r,O[i]?=some (some r)->∃v,Z[i]?=some (some v)) (len:Z.length=O.length) (hi:∀e∈E,∀j,e.key=some j->O.length<=j):Sim Γ H' (bK fr mu Oi O) Z (ah (muF fr mu) E):=by
 have hn : O.length<=fr.length:=by unfold cm at hf;rw[Gd,decide_eq_true_eq]at hf;exact hf.1
 have val:∀{i:Nat} {w:V},bS fr i=true->Z2[i]?=some (some w)->Z[i]?=some (some w):=λ{i w} hc h=>by
  rw[kp.2 i i (Lg.mp hc),iF hc]at h;exact getD_some.mp (GK.inj h)
 have eE:ah mu (cO fr Z O E)=(ah (muF fr mu) (E++(aD 0 Z O).filter λe=>!eU fr e)).map (br (piF fr)):=by
  unfold cO ah;rw[Ir];congr 1;apply HQ;intro e _;exact uB hmu e
 have s1:=(S.sl.kill (tgF fr));rw[az,eE]at s1;have e1:ah (tgF fr) ((ah (muF fr mu) (E++(aD 0 Z O).filter λe=>!eU fr e)).map (br (piF fr)))=(ah (muF fr mu) (E++(aD 0 Z O).filter λe=>!eU fr e)).map (br (piF fr)):=by
  unfold ah;rw[Hw];intro e he;obtain⟨f,_,rfl⟩:=Gn.mp he;exact xL f
 rw[e1]at s1
 let p:En->Bool:=λe=>match e.key with
  | some k=>!(tgF fr).contains k
  | none=>true
 have kout:∀f∈E++(aD 0 Z O).filter λe=>!eU fr e,∀j,f.key=some j->bS fr j=false:=λf hf' j hj=>by
  rcases yaM hf' with z|z
  ·cases hc:bS fr j with
   | false=>rfl
   | true=>have:=mw hf hc;have:=hi f z j hj;omega
  ·have:=(Gk.mp z).2;unfold eU at this;rw[hj]at this;exists this
 have pO:∀e∈(ah (muF fr mu) (E++(aD 0 Z O).filter λe=>!eU fr e)).map (br (piF fr)),p e=true:=λe he=>by
  obtain⟨f,hf',rfl⟩:=Gn.mp he;have hf'':=(Gk.mp hf').1;show(match f.key.map (piF fr)with|some k=>!(tgF fr).contains k|none=>true)=true;cases hk:f.key with
  | none=>rfl
  | some j=>
   have:=kout f hf'' j hk;dsimp[HZ,Hn,GJ,decide_eq_false_iff_not,iV];rw[cA this];omega
 have s2:=s1.filt p λe he _ j hj f hf' hk=>by
  show(match f.key with|some k=>!(tgF fr).contains k|none=>true)=true;rw[hk];have hm:e∈ah (tgF fr) (ah mu (cO fr Z O E)++aD 0 Z2 Oi):=by rw[az,eE,e1];exact he
  by_cases hj':j∈tgF fr;exact absurd hj (kz (M:=tgF fr) (i:=j) hj' e hm);simp[hj']
 rw[G3,Hw.mpr pO]at s2;have s3:=s2.ren (π:=psF fr) (λe he f hf' a b ha hb hab=>by
  have key:∀e∈(ah (muF fr mu) (E++(aD 0 Z O).filter λe=>!eU fr e)).map (br (piF fr))++(ah (tgF fr) (aD 0 Z2 Oi)).filter p,∀a,e.key=some a->(∃j,a=fr.length+j/\bS fr j=false)\/bS fr a=true:=λe he a ha=>by
   rcases yaM he with z|z
   ·left;obtain⟨g,hg,rfl⟩:=Gn.mp z;have hg':=(Gk.mp hg).1;have ha':g.key.map (piF fr)=some a:=ha;cases hk:g.key with
    | none=>rw[hk]at ha';cases ha'
    | some j=>
     have hc:=kout g hg' j hk;rw[hk]at ha';have:piF fr j=a:=by exists ha'
     exact⟨j,by rw[<-this,cA hc],hc⟩
   ·right;obtain⟨z1,z2⟩:=Gk.mp z;obtain⟨i,h1,h2,h3⟩:=K3.mp (Gk.mp z1).1;rw[ha]at h1;cases h1;have z2':(match e.key with|some k=>!(tgF fr).contains k|none=>true)=true:=z2;rw[ha]at z2';have hlt:a<fr.length:=by
     have:=(Gc.mp h2).1;omega
    dsimp[Hn,GJ,decide_eq_false_iff_not,iV]at z2';cases hc:bS fr a with
    | true=>rfl
    | false=>exact absurd ⟨hlt,hc⟩ z2'
  rcases key e he a ha with⟨j,rfl,hj⟩|hj<;>rcases key f hf' b hb with⟨j',rfl,hj'⟩|hj';unfold psF at hab;rw[if_neg ⋯,if_neg ⋯]at hab;omega
  ·unfold psF at hab;rw[if_neg ⋯,if_pos (bG hj')]at hab;have:j=b:=by omega
   subst this;rw[hj]at hj';cases hj'
  ·unfold psF at hab;rw[if_pos (bG hj),if_neg ⋯]at hab;have:j'=a:=by omega
   subst this;rw[hj']at hj;cases hj
  ·unfold psF at hab;rw[if_pos (bG hj),if_pos (bG hj')]at hab;exact hab)
 rw[Gq,Hf]at s3;have e2:(ah (muF fr mu) (E++(aD 0 Z O).filter λe=>!eU fr e)).map (br (psF fr)∘br (piF fr))=ah (muF fr mu) (E++(aD 0 Z O).filter λe=>!eU fr e):=by
  conv=>rhs;rw[<-KP (ah (muF fr mu) (E++(aD 0 Z O).filter λe=>!eU fr e))]
  apply HH;intro e _;exact mY e
 rw[e2,az,Gx]at s3;have olen:(bK fr mu Oi O).length=O.length:=by unfold bK;exact jl
 have oget:∀{i:Nat} {r:R},(bK fr mu Oi O)[i]?=some (some r)↔i < O.length/\((bS fr i=true/\∃r0,Oi[i]?=some (some r0)/\dq (tgF fr) r0=true/\r=gf (psF fr) r0)\/(bS fr i=false/\O[i]?=some (some r)/\dq (muF fr mu) r=true)):=λ{i r}=>by
  by_cases hlt:i < O.length
  ·unfold bK;rw[lK hlt hn hl.symm,Hb];cases hc:bS fr i
   ·rw[if_neg (λz=>by rw[Lg.mpr z]at hc;cases hc)];rw[GK.injEq,Li];have : O.getD i none=some r↔O[i]?=some (some r):=by
     rw[GC];cases O[i]?<;>simp
    rw[this];simp[hlt]
   ·rw[if_pos (Lg.mp hc)];rw[GK.injEq,Option.map_eq_some_iff];constructor
    ·rintro⟨r0,h1,h2⟩;obtain⟨h3,h4⟩:=Li.mp h1;apply⟨hlt,.inl ⟨rfl,r0,?_,h4,h2.symm⟩⟩;rw[GC]at h3;cases h5 : Oi[i]? with
     | none=>rw[h5]at h3;cases h3
     | some o=>rw[h5]at h3;have:o=some r0:=h3;rw[this]
    ·rintro⟨_,⟨_,r0,h1,h2,h3⟩|⟨z,_⟩⟩;exact⟨r0,Li.mpr ⟨by rw[GC,h1];rfl,h2⟩,h3.symm⟩;cases z
  ·constructor
   ·intro z;have:=(Gc.mp z).1;rw[olen]at this;exact absurd this hlt
   ·rintro⟨z,_⟩;exact absurd z hlt
 apply⟨s3.perm (List.Perm.append_left _ ?_),λi r h=>?_,by rw[olen];exact len,λe he j hj=>by rw[olen];exact hi e (Gk.mp he).1 j hj⟩
 ·have ndA:(ah (muF fr mu) ((aD 0 Z O).filter λe=>!eU fr e)).Nodup:=Lc.sublist (Hh.trans Hh);have inB:∀e∈(ah (tgF fr) (aD 0 Z2 Oi)).filter p,∃i,e.key=some i/\bS fr i=true/\Oi[i]?=some (some e.r)/\Z2[i]?=some (some e.v)/\dq (tgF fr) e.r=true:=λe he=>by
   obtain⟨z1,z2⟩:=Gk.mp he;obtain⟨z3,z4⟩:=Gk.mp z1;obtain⟨i,h1,h2,h3⟩:=K3.mp z3;have z2':(match e.key with|some k=>!(tgF fr).contains k|none=>true)=true:=z2;rw[h1]at z2';have hlt:i<fr.length:=by
    have:=(Gc.mp h2).1;omega
   dsimp[Hn,GJ,decide_eq_false_iff_not,iV]at z2';apply⟨i,h1,?_,h2,h3,z4⟩;cases hc:bS fr i with
   | true=>rfl
   | false=>exact absurd ⟨hlt,hc⟩ z2'
  have ndB:(((ah (tgF fr) (aD 0 Z2 Oi)).filter p).map (br (psF fr))).Nodup:=by
   apply jj (Lc.sublist (Hh.trans Hh)) λa ha b hb h=>?_;obtain⟨i,h1,h2,h3,h4,_⟩:=inB a ha;obtain⟨j,g1,g2,g3,g4,_⟩:=inB b hb;have hk:a.key.map (psF fr)=b.key.map (psF fr):=congrArg En.key h;rw[h1,g1]at hk;have hk':psF fr i=psF fr j:=by exists hk
   unfold psF at hk';rw[if_pos (bG h2),if_pos (bG g2)]at hk';subst hk';rw[h3]at g3;rw[h4]at g4;cases a;cases b;simp only at h1 g1 g3 g4;have e1:=GK.inj (GK.inj g3);have e2:=GK.inj (GK.inj g4);simp[h1,g1,e1,e2]
  apply(IW (Gi.mpr ⟨ndA,ndB,?_⟩) Lc).mpr λe=>?_
  ·rintro a ha b hb rfl;obtain⟨f,hf',hfe⟩:=Gn.mp hb;obtain⟨i,h1,h2,_⟩:=inB f hf';have hk:f.key.map (psF fr)=a.key:=congrArg En.key hfe;rw[h1]at hk;have hk':a.key=some i:=by rw[<-hk];simp[psF,bG h2]
   obtain⟨y1,y2⟩:=Gk.mp (Gk.mp ha).1;unfold eU at y2;rw[hk']at y2;simp[h2]at y2
  ·rw[Ip,K3];constructor
   ·rintro(he|he)
    ·obtain⟨z1,z2⟩:=Gk.mp he;obtain⟨z3,z4⟩:=Gk.mp z1;obtain⟨i,h1,h2,h3⟩:=K3.mp z3;unfold eU at z4;rw[h1]at z4;apply⟨i,h1,oget.mpr ⟨(Gc.mp h2).1,.inr ⟨by simpa using z4,h2,z2⟩⟩,h3⟩
    ·obtain⟨f,hf',rfl⟩:=Gn.mp he;obtain⟨i,h1,h2,h3,h4,h5⟩:=inB f hf';apply⟨i,?_,oget.mpr ⟨mw hf h2,.inl ⟨h2,f.r,h3,h5,rfl⟩⟩,val h2 h4⟩;show f.key.map (psF fr)=some i;rw[h1];simp[psF,bG h2]
   ·rintro⟨i,h1,h2,h3⟩;obtain⟨hlt,⟨hc,r0,g1,g2,g3⟩|⟨hc,g1,g2⟩⟩:=oget.mp h2
    ·right;obtain⟨w,hw⟩:=S.al i r0 g1;have hw':=val hc hw;rw[h3]at hw';have ew:e.v=w:=GK.inj (GK.inj hw');apply Gn.mpr ⟨⟨some i,w,r0⟩,Gk.mpr ⟨Gk.mpr ⟨K3.mpr ⟨i,rfl,g1,hw⟩,g2⟩,?_⟩,?_⟩
     ·show(!(tgF fr).contains i)=true;dsimp[Hn,GJ,decide_eq_false_iff_not,iV];rintro⟨_,z⟩;rw[hc]at z;cases z
     ·cases e;simp only at h1 g3 ew;simp[br,h1,g3,ew,psF,bG hc]
    ·left;apply Gk.mpr ⟨Gk.mpr ⟨K3.mpr ⟨i,h1,g1,h3⟩,?_⟩,g2⟩;unfold eU;rw[h1];simp[hc]
 ·obtain⟨hlt,⟨hc,r0,g1,g2,g3⟩|⟨hc,g1,g2⟩⟩:=oget.mp h
  ·obtain⟨w,hw⟩:=S.al i r0 g1;exact⟨w,val hc hw⟩
  ·exact al i r g1
end
section
variable {Γ:Gm}{H H':Hp}{O:Rho}{Z:St}{E X:List En}{v x y:V}{t:T}{K:yF}{Q:VK}
def Sim.mkL{vs:List V}{ts:List T}{p:Addr}(S:Sim Γ H O Z (au vs ts++E))(hl:vs.length=ts.length)(hp:H p=none):Sim Γ (upd H p (.lst vs)) O Z (⟨none,.ref p,⟨.ow,bF ts⟩⟩::E):=by
 obtain⟨F,h1,h2,h3,h4⟩:=S.use hl;have sm:=Le.laid (o:=.lst vs) hp;have np:p∉F:=λz=>by obtain⟨o,e,_⟩:=h3 p z;rw[hp]at e;cases e
 apply h4 _ (.ref p) (bF ts) (p::F) (sm.offM _) (λa ha=>let ⟨o,e,_⟩:=h3 a ha;⟨o,sm a o e⟩) (GA.mpr ⟨np,h2⟩) (λa ha=>?_) ?_
 ·rcases ycM ha with rfl|ha;exact⟨.inr hp,_,aI,rfl⟩;exact⟨.inl ha,let ⟨o,e,m⟩:=h3 a ha;⟨o,sm a o e,m⟩⟩
 ·unfold bF;split
  ·delta is hi;rw[mz hi]at h1;obtain⟨h5,h6⟩:=Rps.ims.mp h1;subst h6;rw[Rp];exact⟨p,vs,rfl,.inl aI,h5.same sm,rfl⟩
  ·rw[Rp];exact⟨p,vs,F,rfl,.inl aI,h1.same sm,rfl⟩
def jx{t:T}:∀{vs:List V} {ts:List T},vs.length=ts.length->au (vs++[v]) (ts++[t])=au vs ts++[⟨none,v,⟨.ow,t⟩⟩]
 | [],[],_=>rfl
 | a::vs,b::ts,h=>by
  rw[GL,GL,au,au,jx (by exists h),GL]
 | [],_::_,h=>by cases h
 | _::_,[],h=>by cases h
def cN{M:List Nat}:∀{vs:List V} {ts:List T},ah M (au vs ts)=au vs ts
 | [],ts=>by cases ts<;>rfl
 | a::vs,[]=>rfl
 | a::vs,b::ts=>by rw[au,ar rfl,cN]
abbrev bj(fr:List (Option Nat)) (M:List Nat) (g:MG) (c:MT) (e:ME):List R->Rho->List T->Option (List T×Rho)
 | [],O,acc=>some (acc,O)
 | r::rs,O,acc=>match g.run (gf (piF fr) r) (inR fr O)with
  | some O1=>(match c.run O1 with
   | some (true,O2)=>(match e.run O2 with
    | some (⟨.ow,t⟩,O3)=>bj fr M g c e rs (bK fr M O3 O) (acc++[t])
    | _=>none)
   | some (false,O2)=>bj fr M g c e rs (bK fr M O2 O) acc
   | none=>none)
  | none=>none
def cP{fr:List (Option Nat)}{e:En}:cO fr Z O (e::E)=br (piF fr) e::cO fr Z O E:=rfl
def gb{fr:List (Option Nat)}{M:List Nat}{Oi:Rho}:(bK fr M Oi O).length=O.length:=jl
def lq{J:It}{fr:List (Option Nat)}{g:TG}{tc:TT}{te:TE}{mg:MG}{c:MT}{e:ME}{M:List Nat}{vs:List V}{srcs:List R}{items:List R}{N:List V->Hp->Prop}(hK : Γ.K=K)(wk:gT Γ J vs srcs items)(hgk:cj fr g)(hg:ir K g mg)(hc:ef K tc c)(he:aV K te e)(hM:M=mg.mu++(c.mu++e.mu))
  (hmu:∀j∈M,j<fr.length) (ks:∀e∈ens vs srcs,aE (muF fr M) e=true) {E2:List En} (kE:ah (muF fr M) E2=E2) {tsF:List T} {OF:Rho} {acc0:List V} {ts0:List T} (hl0:acc0.length=ts0.length) (hz:acc0.length+items.length<sizeLine)
  (hf:cm fr O.length=true) (S:Sim Γ H O Z (ens vs srcs++(au acc0 ts0++E2))) (hr:bj fr M mg c e items O ts0=some (tsF,OF))
  (q:∀acc H',acc.length=tsF.length->acc.length<=acc0.length+items.length->OF.length=O.length->Sim Γ H' OF Z (ens vs srcs++(au acc tsF++E2))->N acc H'):tW J (aM fr Z) g tc te acc0 H N:=by
 have kE2:∀acc ts,ah (muF fr M) (ens vs srcs++(au acc ts++E2))=ens vs srcs++(au acc ts++E2):=λacc ts=>by rw[az,ce ks,az,cN,kE]
 apply⟨λi m acc H=>m=items.length-i/\i<=items.length/\acc.length<=acc0.length+i/\∃O1 ts,bj fr M mg c e (items.drop i) O1 ts=some (tsF,OF)/\acc.length=ts.length/\O1.length=O.length/\Sim Γ H O1 Z (ens vs srcs++(au acc ts++E2)),⟨items.length,by simp,GY _,by omega,O,ts0,by simpa using hr,hl0,rfl,S⟩,?_⟩;rintro i m acc H1 ⟨rfl,hil,hal,O1,ts,h1,hl,hO,S1⟩;apply⟨by omega,?_⟩;obtain⟨w1,w2⟩:=wk H1 O1 Z _ S1;by_cases hlt:i<items.length
 ·have hx:items[i]?=some items[i]:=by simp[hlt]
  obtain⟨w3,w4⟩:=w2 i _ hx;rw[Hz hlt,bj]at h1;apply .inr ⟨w3,λacc' H'=>acc'.length<=acc0.length+(i+1)/\∃O1 ts,bj fr M mg c e (items.drop (i+1)) O1 ts=some (tsF,OF)/\acc'.length=ts.length/\O1.length=O.length/\Sim Γ H' O1 Z (ens vs srcs++(au acc' ts++E2)),λacc' H' ⟨ha,O3,ts3,h3,hl3,hO3,S3⟩=>⟨items.length-(i+1),by omega,rfl,hlt,ha,O3,ts3,h3,hl3,hO3,S3⟩,λx H2 y=>?_⟩;have S2:=w4 x H2 y;have hf1:cm fr O1.length=true:=by rw[hO];exact hf
  have S3:=S2.inn hf1;rw[cP]at S3;split at h1
  ·delta O2 e2;apply hgk x (aM fr Z) H2 (λZ2 H3=>Kp fr (aM fr Z) Z2->_) _ (λZ2 H3 z kp=>z kp) ?_;apply hg Γ H2 (inR fr O1) (aM fr Z) _ _ x _ O2 hK e2 S3 λZ2 H3 S4 kp=>?_;split at h1
   ·delta O3 e3;apply hc Γ H3 O2 Z2 _ _ true O3 hK e3 S4 λH4 S5=>pc ?_;split at h1
    ·delta t O4 e4;apply he Γ H4 O3 Z2 _ _ _ O4 hK e4 S5 λw H5 S6=>?_;rw[ae,ae]at S6;rw[<-hM]at S6;have S7:Sim Γ H5 O4 Z2 (ah M (cO fr Z O1 (⟨none,w,⟨.ow,t⟩⟩::(ens vs srcs++(au acc ts++E2))))):=by
      rw[cP,ar (show aE M (br (piF fr) ⟨none,w,⟨.ow,t⟩⟩)=true from rfl)];exact S6
     have hl4 : O4.length=fr.length:=by rw[<-S6.len,kp.1,bD]
     have S8:=S7.outt hf1 hmu hl4 kp S1.al S1.len (λe' he' j hj=>by
      rcases ycM he' with rfl|he';cases hj;exact S1.hi e' he' j hj)
     rw[ar (show aE (muF fr M) ⟨none,w,⟨.ow,t⟩⟩=true from rfl),kE2]at S8;apply⟨by simp;omega,_,_,h1,by simp[hl],by rw[gb,hO],?_⟩;rw[jx hl,Gx];apply S8.perm ?_;have pp:∀(A B C:List En) (x:En),(x::(A++(B++C))).Perm (A++(B++(x::C))):=λA B C x=>by
      rw[<-Gx,<-Gx];exact GQ.symm
     exact pp _ _ _ _
    ·cases h1
   ·delta O3 e3;apply hc Γ H3 O2 Z2 _ _ false O3 hK e3 S4 λH4 S5=>pb ?_;have S6:=S5.weak e.mu;rw[ae,ae]at S6;rw[<-hM]at S6;have hl4 : O3.length=fr.length:=by rw[<-S6.len,kp.1,bD]
    have S8:=S6.outt hf1 hmu hl4 kp S1.al S1.len S1.hi;rw[kE2]at S8;exact⟨by omega,_,_,h1,hl,by rw[gb,hO],S8⟩
   ·cases h1
  ·cases h1
 ·have ei:i=items.length:=by omega
  subst ei;rw[IF,bj]at h1;cases h1;exact .inl ⟨w1 _ (Gj _),q acc H1 hl hal hO S1⟩
abbrev cr(M:List Nat) (n:Nat):Bool:=M.all λj=>decide (j<n)
def iJ{M:List Nat}{n:Nat}(h:cr M n=true):∀j∈M,j<n:=λj hj=>by
 have:=G9.mp h j hj;exists this
private def aU(fr:List (Option Nat))(it:MI)(g:MG)(c:MT)(e:ME):ME:=⟨λO=>match it.run O with
 | some ((srcs,items),O1)=>if(cm fr O1.length&&cr (g.mu++(c.mu++e.mu)) fr.length&&srcs.all (ax (muF fr (g.mu++(c.mu++e.mu))))&&decide (items.length<sizeLine))=true then(match bj fr (g.mu++(c.mu++e.mu)) g c e items O1 []with
  | some (ts,O2)=>some (⟨.ow,bF ts⟩,O2)
  | none=>none)else none
 | none=>none,it.mu++muF fr (g.mu++(c.mu++e.mu))⟩
def n9{wi:TI}{fr:List (Option Nat)}{g:TG}{tc:TT}{te:TE}{it:MI}{mg:MG}{c:MT}{e:ME}(hi:jX K wi it)(hgk:cj fr g)(hg:ir K g mg)(hc:ef K tc c)(he:aV K te e):aV K (wN wi fr g tc te) (aU fr it mg c e):=by
 intro Γ H O Z E Q r O' hK hr S q;dsimp[aU]at hr q;split at hr
 ·delta srcs items O1 e1;split at hr
  ·delta hb;dsimp[Gd,decide_eq_true_eq]at hb;obtain⟨⟨⟨b1,b2⟩,b3⟩,b5⟩:=hb;split at hr
   ·delta ts O2 e2;cases hr;apply hi Γ H O Z E _ srcs items O1 hK e1 S λΓ hK2 bk J vs H1 hlv S1 wk=>?_;replace hK:=hK2.trans hK;replace q:=λv H' S=>q v H' (bk _ _ _ _ S);rw[<-ae]at q;generalize ah it.mu E=E1 at q S1;have ks:∀e'∈ens vs srcs,aE (muF fr (mg.mu++(c.mu++e.mu))) e'=true:=iC b3;have S2:=S1.weak (muF fr (mg.mu++(c.mu++e.mu)));rw[az,ce ks]at S2;have kE:=cg (M:=muF fr (mg.mu++(c.mu++e.mu))) (N:=muF fr (mg.mu++(c.mu++e.mu))) (λj hj=>hj) E1;generalize ah (muF fr (mg.mu++(c.mu++e.mu))) E1=E2 at q S2 kE;apply lq (acc0:=[]) (ts0:=[]) hK wk hgk hg hc he rfl (iJ b2) ks kE rfl (by exists b5) b1 S2 e2 λacc H' hl _ _ S3 d hd=>?_;exact q _ _ (S3.drops.mkL hl hd)
   ·cases hr
  ·cases hr
 ·cases hr
abbrev bY(fr fr2:List (Option Nat)) (g:MG) (it2:MI) (g2:MG) (c:MT) (e:ME):List R->Rho->List T->Option (List T×Rho)
 | [],O,acc=>some (acc,O)
 | r::rs,O,acc=>match g.run (gf (piF fr) r) (inR fr O)with
  | some O1=>(match it2.run O1 with
   | some ((srcs2,items2),O2)=>if(cm fr2 O2.length&&(decide (srcs2.length=1)&&srcs2.all (ax (muF fr2 (g2.mu++(c.mu++e.mu)))))&&decide (acc.length+items2.length<sizeLine))=true then(match bj fr2 (g2.mu++(c.mu++e.mu)) g2 c e items2 O2 acc with
    | some (ts,O3)=>bY fr fr2 g it2 g2 c e rs (bK fr (g.mu++(it2.mu++muF fr2 (g2.mu++(c.mu++e.mu)))) O3 O) ts
    | none=>none)else none
   | none=>none)
  | none=>none
private def ji(fr fr2:List (Option Nat))(it:MI)(g:MG)(it2:MI)(g2:MG)(c:MT)(e:ME):ME:=⟨λO=>match it.run O with
 | some ((srcs,items),O1)=>if(cm fr O1.length&&cr (g.mu++(it2.mu++muF fr2 (g2.mu++(c.mu++e.mu)))) fr.length&&cr (g2.mu++(c.mu++e.mu)) fr2.length&&(decide (srcs.length=1)&&srcs.all (ax (muF fr (g.mu++(it2.mu++muF fr2 (g2.mu++(c.mu++e.mu))))))))=true then(match bY fr fr2 g it2 g2 c e items O1 []with
  | some (ts,O2)=>if ts.length<sizeLine then some (⟨.ow,bF ts⟩,O2)else none
  | none=>none)else none
 | none=>none,it.mu++muF fr (g.mu++(it2.mu++muF fr2 (g2.mu++(c.mu++e.mu))))⟩
def fX{fr:List (Option Nat)}{M:List Nat}{g:MG}{c:MT}{e:ME}:∀{items:List R} {O:Rho} {acc ts:List T} {O':Rho},bj fr M g c e items O acc=some (ts,O')->acc.length<=ts.length
 | [],O,acc,ts,O',h=>by cases h;exact Gj _
 | r::rs,O,acc,ts,O',h=>by
  rw[bj]at h;split at h
  ·split at h
   ·split at h;have:=fX h;simp at this;omega;cases h
   ·exact fX h
   ·cases h
  ·cases h
def iz{fr fr2:List (Option Nat)}{g:MG}{it2:MI}{g2:MG}{c:MT}{e:ME}:∀{items:List R} {O:Rho} {acc ts:List T} {O':Rho},bY fr fr2 g it2 g2 c e items O acc=some (ts,O')->acc.length<=ts.length
 | [],O,acc,ts,O',h=>by cases h;exact Gj _
 | r::rs,O,acc,ts,O',h=>by
  rw[bY]at h;split at h
  ·split at h
   ·split at h
    ·split at h;delta e1;exact GV (fX e1) (iz h);cases h
    ·cases h
   ·cases h
  ·cases h
def sX{wi wi2:TI}{fr fr2:List (Option Nat)}{g g2:TG}{tc:TT}{te:TE}{it it2:MI}{mg mg2:MG}{c:MT}{e:ME}(hi:jX K wi it)(hgk:cj fr g)(hg:ir K g mg)(hi2:jX K wi2 it2)(hgk2:cj fr2 g2)(hg2:ir K g2 mg2)(hc:ef K tc c)(he:aV K te e):aV K (wO wi fr g wi2 fr2 g2 tc te) (ji fr fr2 it mg it2 mg2 c e):=by
 intro Γ H O Z E Q r O' hK hr S q;dsimp[ji]at hr q;split at hr
 ·delta srcs items O1 e1;split at hr
  ·delta hb;dsimp[Gd,decide_eq_true_eq]at hb;obtain⟨⟨⟨b1,b2⟩,b3⟩,b5,b4⟩:=hb;obtain⟨src,rfl⟩:=HW.mp b5;rw[Ht,Ix,IJ]at b4;split at hr
   ·delta tsF OF e2;split at hr
    ·delta hz;cases hr;apply hi Γ H O Z E _ [src] items O1 hK e1 S λΓ hK2 bk J vs H1 hlv S1 wk=>?_;replace hK:=hK2.trans hK;replace q:=λv H' S=>q v H' (bk _ _ _ _ S);obtain⟨v,rfl⟩:=HW.mp hlv;replace S1:Sim Γ H1 O1 Z (⟨none,v,src⟩::ah it.mu E):=S1;rw[<-ae]at q;generalize hM2:mg2.mu++(c.mu++e.mu)=M2 at *;generalize hM:mg.mu++(it2.mu++muF fr2 M2)=M at *;generalize ah it.mu E=E1 at q S1;have ks:aE (muF fr M) ⟨none,v,src⟩=true:=b4;have S2:=S1.weak (muF fr M);rw[ar ks]at S2;have kE:=cg (M:=muF fr M) (N:=muF fr M) (λj hj=>hj) E1;generalize ah (muF fr M) E1=E2 at q S2 kE;have kE2:∀acc ts,ah (muF fr M) (⟨none,v,src⟩::(au acc ts++E2))=⟨none,v,src⟩::(au acc ts++E2):=λacc ts=>by rw[ar ks,az,cN,kE]
     apply⟨λi m acc H=>m=items.length-i/\i<=items.length/\∃O2 ts,bY fr fr2 mg it2 mg2 c e (items.drop i) O2 ts=some (tsF,O')/\acc.length=ts.length/\O2.length=O1.length/\Sim Γ H O2 Z (⟨none,v,src⟩::(au acc ts++E2)),⟨items.length,by simp,GY _,O1,[],by simpa using e2,rfl,rfl,S2⟩,?_⟩;rintro i m acc H2 ⟨rfl,hil,O2,ts,h1,hl,hO,S3⟩;have:=iz h1;apply⟨by omega,?_⟩;obtain⟨w1,w2⟩:=wk H2 O2 Z _ S3;by_cases hlt:i<items.length
     ·have hx:items[i]?=some items[i]:=by simp[hlt]
      obtain⟨w3,w4⟩:=w2 i _ hx;rw[Hz hlt,bY]at h1;apply .inr ⟨w3,λacc' H'=>∃O2 ts,bY fr fr2 mg it2 mg2 c e (items.drop (i+1)) O2 ts=some (tsF,O')/\acc'.length=ts.length/\O2.length=O1.length/\Sim Γ H' O2 Z (⟨none,v,src⟩::(au acc' ts++E2)),λacc' H' ⟨O3,ts3,h3,hl3,hO3,S3⟩=>⟨items.length-(i+1),by omega,rfl,hlt,O3,ts3,h3,hl3,hO3,S3⟩,λx H3 y=>?_⟩;have S4:Sim Γ H3 O2 Z (⟨none,x,items[i]⟩::⟨none,v,src⟩::(au acc ts++E2)):=w4 x H3 y;have hf1:cm fr O2.length=true:=by rw[hO];exact b1
      have S5:=S4.inn hf1;rw[cP]at S5;split at h1
      ·delta O3 e3;apply hgk x (aM fr Z) H3 (λZ2 H4=>Kp fr (aM fr Z) Z2->_) _ (λZ2 H4 z kp=>z kp) ?_;apply hg Γ H3 (inR fr O2) (aM fr Z) _ _ x _ O3 hK e3 S5 λZ2 H4 S6 kp=>?_;split at h1
       ·delta srcs2 items2 O4 e4;split at h1
        ·delta hb2;rw[hM2]at hb2;dsimp[Gd,decide_eq_true_eq]at hb2;obtain⟨⟨c1,c4,c2⟩,c3⟩:=hb2;obtain⟨src2,rfl⟩:=HW.mp c4;rw[Ht,Ix,IJ]at c2;split at h1
         ·delta ts3 O5 e5;rw[hM2]at e5 h1;apply hi2 Γ H4 O3 Z2 _ _ [src2] items2 O4 hK e4 S6 λΓ2 hK3 bk2 J2 vs2 H5 hlv2 S7 wk2=>?_;obtain⟨v2,rfl⟩:=HW.mp hlv2;rw[show ens [v2] [src2]=[⟨none,v2,src2⟩]from rfl,List.singleton_append]at S7;rw[ae]at S7;have ks2:aE (muF fr2 M2) ⟨none,v2,src2⟩=true:=c2;have eo:ah (mg.mu++it2.mu) (cO fr Z O2 (⟨none,v,src⟩::(au acc ts++E2)))=ah (mg.mu++it2.mu) (br (piF fr) ⟨none,v,src⟩::(au acc ts++cO fr Z O2 E2)):=by
           congr 1;rw[cP];congr 1;unfold cO;rw[Gx,Gq];congr 1;have:∀{vs:List V} {ts:List T},(au vs ts).map (br (piF fr))=au vs ts:=by
            intro vs
            induction vs with
            | nil=>intro ts;cases ts<;>rfl
            | cons a vs ih=>
             intro ts;cases ts with
             | nil=>rfl
             | cons b ts=>rw[au,Gg,ih];rfl
           exact this
          have S8:=S7.weak (muF fr2 M2);rw[ar ks2,eo,ae]at S8;have pm:(⟨none,v2,src2⟩::ah (mg.mu++it2.mu++muF fr2 M2) (br (piF fr) ⟨none,v,src⟩::(au acc ts++cO fr Z O2 E2))).Perm (⟨none,v2,src2⟩::(au acc ts++ah (mg.mu++it2.mu++muF fr2 M2) (br (piF fr) ⟨none,v,src⟩::cO fr Z O2 E2))):=by
           apply List.Perm.cons _ ?_;have e9:ah (mg.mu++it2.mu++muF fr2 M2) (au acc ts++(br (piF fr) ⟨none,v,src⟩::cO fr Z O2 E2))=au acc ts++ah (mg.mu++it2.mu++muF fr2 M2) (br (piF fr) ⟨none,v,src⟩::cO fr Z O2 E2):=by rw[az,cN]
           rw[<-e9];exact List.Perm.filter _ GQ.symm
          have S9:=S8.perm pm;have kE9:=cg (M:=mg.mu++it2.mu++muF fr2 M2) (N:=muF fr2 M2) (λj hj=>yaR _ hj) (br (piF fr) ⟨none,v,src⟩::cO fr Z O2 E2);apply lq (H:=H5) (O:=O4) (Z:=Z2) (E2:=ah (mg.mu++it2.mu++muF fr2 M2) (br (piF fr) ⟨none,v,src⟩::cO fr Z O2 E2)) (acc0:=acc) (ts0:=ts) (hK3.trans hK) wk2 hgk2 hg2 hc he hM2.symm (iJ b3) (λe' he'=>by rcases ysM he' with rfl;exact ks2) kE9 hl (by rw[hl];exact c3) c1 S9 e5 λacc' H6 hl' _ hO5 S10=>?_;apply⟨_,ts3,h1,hl',by rw[gb,hO],?_⟩;have S11:=bk2 _ _ _ _ (S10.drop rfl);have em:mg.mu++it2.mu++muF fr2 M2=M:=by rw[<-hM,Gx]
          have pm2:(au acc' ts3++ah (mg.mu++it2.mu++muF fr2 M2) (br (piF fr) ⟨none,v,src⟩::cO fr Z O2 E2)).Perm (ah M (cO fr Z O2 (⟨none,v,src⟩::(au acc' ts3++E2)))):=by
           have e10:cO fr Z O2 (⟨none,v,src⟩::(au acc' ts3++E2))=br (piF fr) ⟨none,v,src⟩::(au acc' ts3++cO fr Z O2 E2):=by
            rw[cP];congr 1;unfold cO;rw[Gx,Gq];congr 1;have:∀{vs:List V} {ts:List T},(au vs ts).map (br (piF fr))=au vs ts:=by
             intro vs
             induction vs with
             | nil=>intro ts;cases ts<;>rfl
             | cons a vs ih=>
              intro ts;cases ts with
              | nil=>rfl
              | cons b ts=>rw[au,Gg,ih];rfl
            exact this
           rw[em,e10];have e11:ah M (au acc' ts3++(br (piF fr) ⟨none,v,src⟩::cO fr Z O2 E2))=au acc' ts3++ah M (br (piF fr) ⟨none,v,src⟩::cO fr Z O2 E2):=by rw[az,cN]
           rw[<-e11];exact List.Perm.filter _ GQ
          have S12:=S11.perm pm2;have hl5 : O5.length=fr.length:=by rw[<-S12.len,kp.1,bD]
          have tk:∀{vs:List V} {ts:List T} {e':En},e'∈au vs ts->e'.key=none:=by
           intro vs
           induction vs with
           | nil=>intro ts e' h;cases ts<;>cases h
           | cons a vs ih=>
            intro ts e' h;cases ts with
            | nil=>cases h
            | cons b ts=>
             rcases ycM h with rfl|h;rfl;exact ih h
          have S13:=S12.outt hf1 (iJ b2) hl5 kp S3.al S3.len (λe' he' j hj=>by
           rcases ycM he' with rfl|he';cases hj
           ·rcases yaM he' with he'|he';rw[tk he']at hj;cases hj;exact S3.hi e' (ymC _ (yaR _ he')) j hj)
          rw[kE2]at S13;rw[hM];exact S13
         ·cases h1
        ·cases h1
       ·cases h1
      ·cases h1
     ·have ei:i=items.length:=by omega
      subst ei;rw[IF,bY]at h1;cases h1;exact .inl ⟨w1 _ (Gj _),λd hd=>q _ _ ((S3.drop rfl).mkL hl hd)⟩
    ·cases hr
   ·cases hr
  ·cases hr
 ·cases hr
end
section
variable {Γ:Gm}{H H':Hp}{L:List Hd}{O:Rho}{Z:St}{E X:List En}{v w x y:V}{t s:T}{K:yF}{Q:VK}
def GW.stepN{hs ns:List Hd}(G:GW Γ H (hs++L))(ho:∀h∈hs,h.e.r.k.isOw=true)(hr:∀g∈L,∀h∈hs,∀j,h.e.key=some j->g.e.r.k.root≠some j)
  (off:K1 (hs.flatMap (·.F)) H H') (dom:∀a∈hs.flatMap (·.F),∃o,H' a=some o) (nd:(ns.flatMap (·.F)).Nodup) (hF:∀a∈ns.flatMap (·.F),(a∈hs.flatMap (·.F)\/H a=none)/\Mu H' a) (hp:∀n∈ns,Rp Γ.K H' n.e.r.t n.e.v n.F)
  (hk:∀n∈ns,(n.e.r.k=.ow/\∀a∈n.F,H a=none \/ ∃h∈hs,h.e.r.k=.ow/\a∈h.F) \/ ∃k,n.e.r.k=.io k/\Γ.iov[k]?=some n.e.v) (hkey:((ns++L).filterMap λh=>h.e.key).Nodup):GW Γ H' (ns++L):=by
 have iow:∀n∈ns,n.e.r.k.isOw=true:=λn hn=>by rcases hk n hn with⟨e,_⟩|⟨k,e,_⟩<;>rw[e]<;>rfl
 have eo:=gc ho;have en:=gc iow;have G':=G.nd;rw[Gw,eo]at G';have nd1:=(Gi.mp G').2.1;have dj:=(Gi.mp G').2.2;have adL:∀a∈L.flatMap Hd.own,Mu H a/\(Γ.H0 a=none\/a ∈ Γ.io):=λa ha=>G.ad a (by rw[Gw];exact yaR _ ha);have adM:∀a∈hs.flatMap (·.F),Mu H a/\(Γ.H0 a=none\/a ∈ Γ.io):=λa ha=>G.ad a (by rw[Gw,eo];exact yaL _ ha);have ap:=G.apart hr ho;have apM:∀g∈L,∀a∈g.F,a∉hs.flatMap (·.F):=λg hg a ha hm=>by
  obtain⟨h,hh,hah⟩:=Ha.mp hm;exact ap g hg a ha h hh hah
 apply⟨?_,λa ha=>?_,λx hx=>?_,λx hx=>?_,hkey,λb o e n=>?_,λa ha=>?_⟩
 ·rw[Gw,en];apply Gi.mpr ⟨nd,nd1,λa ha b hb=>?_⟩;rintro rfl;rcases(hF a ha).1 with z|z;exact dj a z a hb rfl
  ·obtain⟨o,e,_⟩:=(adL a hb).1;rw[z]at e;cases e
 ·rw[Gw,en]at ha;rcases yaM ha with ha|ha
  ·apply⟨(hF a ha).2,?_⟩;rcases(hF a ha).1 with z|z;exact(adM a z).2;exact .inl (G.new0 z)
  ·obtain⟨⟨o,e,m⟩,z⟩:=adL a ha;exact⟨⟨o,off a o e λhm=>dj a hm a ha rfl,m⟩,z⟩
 ·rcases yaM hx with hx|hx;exact hp x hx;exact(G.rp x (yaR _ hx)).off off (λa ha=>(adM a ha).1) (apM x hx)
 ·rcases yaM hx with hx|hx
  ·unfold K4;rcases hk x hx with⟨e,eh⟩|⟨k,e,ek⟩
   ·dsimp[e];intro a ha;rcases eh a ha with z|⟨h,hh,he,hah⟩;exact G.new0 z
    ·have q:=G.kd h (yaL _ hh);unfold K4 at q;rw[he]at q;exact q a hah
   ·dsimp[e];exact ek
  ·have k:=G.kd x (yaR _ hx);have st:∀a∈x.F,a∉(hs++L).flatMap Hd.own->a∉(ns++L).flatMap Hd.own:=λa ha n z=>by
    rw[Gw,en]at z;rcases yaM z with z|z
    ·rcases(hF a z).1 with w|w;exact n (by rw[Gw,eo];exact yaL _ w)
     ·obtain⟨o,e⟩:=(G.rp x (yaR _ hx)).dom a ha;rw[w]at e;cases e
    ·exact n (by rw[Gw];exact yaR _ z)
   unfold K4 at k|-;split at k;exact k;exact k;exact λa ha=>st a ha (k a ha)
   ·delta j p e;obtain⟨g,h1,h2,h3,h4,h5⟩:=k;rcases yaM h1 with hg|hg;exact absurd (by rw[e];rfl) (hr x hx g hg j h2)
    ·apply⟨g,yaR _ hg,h2,h3,λa ha=>(h4 a ha).imp id (st a ha),λq hq=>⟨(h5 q hq).1,?_⟩⟩;exact l7 off (F:=g.F) (apM g hg) (G.muF (yaR _ hg) h3) (λa ha=>ha) (G.ndF (yaR _ hg) h3) (G.rp g (yaR _ hg)) (h5 q hq).1 (h5 q hq).2
 ·apply off b o (G.fr b o e n) λhm=>?_;rcases(adM b hm).2 with z|z;rw[z]at e;cases e;exact n z
 ·obtain⟨o,e⟩:=G.iol a ha;by_cases hm:a∈hs.flatMap (·.F);exact dom a hm;exact⟨o,off a o e hm⟩
def GW.uniq(g:GW Γ H L){x z:Hd}{i:Nat}(x1:x∈L)(hz:z∈L)(x2:x.e.key=some i)(z2:z.e.key=some i):x=z:=by
 have nk:=g.ks;by_cases q:x=z;exact q
 ·exfalso;obtain⟨A,B,rfl⟩:=Iu x1;rw[GH,GG,x2]at nk;rcases yaM hz with hz|hz;exact(Gi.mp nk).2.2 i (GX.mpr ⟨z,hz,z2⟩) i ymS rfl
  ·rcases ycM hz with hz|hz;exact q hz.symm;exact(GA.mp (Gi.mp nk).2.1).1 (GX.mpr ⟨z,hz,z2⟩)
def Sim.place{i:Nat}{p:List Ac}{r:R}{v0:V}(S:Sim Γ H O Z E)(he:(⟨none,w,⟨.vw (some i) (some p),s⟩⟩:En)∈E)(h : O[i]?=some (some r))(hv:Z[i]?=some (some v0)):r.t.sub p=some s/\atP Γ.K H v0 p w:=by
 obtain⟨v1,hv1,hm⟩:=S.slot h;rw[hv]at hv1;cases hv1;obtain⟨L,g,e⟩:=S.sl;have h1:(⟨none,w,⟨.vw (some i) (some p),s⟩⟩:En)∈L.map (·.e):=by rw[e];exact yaL _ he
 obtain⟨y,hy,ey⟩:=Gn.mp h1;have kd:=g.kd y hy;unfold K4 at kd;rw[ey]at kd;obtain⟨x,x1,x2,x3,x4,x5⟩:=kd;have hm':(⟨some i,v0,r⟩:En)∈L.map (·.e):=by rw[e];exact hm
 obtain⟨z,hz,ez⟩:=Gn.mp hm';have:=g.uniq x1 hz x2 (by rw[ez]);subst this;have:=x5 p rfl;rw[ez]at this;exact this
def KY.dropsN:∀{A X:List En},KY Γ H (A++X)->(∀e∈A,e.key=none)->KY Γ H X
 | [],_,S,_=>S
 | a::A,X,S,h=>KY.dropsN (KY.drop S (h a ymS)) λe he=>h e (ymC _ he)
def mn:∀{vs:List V} {rs:List R} {m:Nat} {r:R} {x:V},rs[m]?=some r->vs[m]?=some x->(⟨none,x,r⟩:En)∈ens vs rs
 | [],_,m,_,_,_,h=>by simp at h
 | _::_,[],m,_,_,h,_=>by simp at h
 | v::vs,r0::rs,0,r,x,h1,h2=>by simp at h1 h2;subst h1 h2;exact ymS
 | v::vs,r0::rs,m+1,r,x,h1,h2=>ymC _ (mn (by exists h1) (by exists h2))
def qA:∀{vs:List V} {rs:List R} {e:En},e∈ens vs rs->e.key=none
 | [],rs,e,h=>by cases rs<;>cases h
 | _::_,[],e,h=>by cases h
 | v::vs,r::rs,e,h=>by
  rcases ycM h with rfl|h;rfl;exact qA h
def Sim.io{vs:List V}{rs:List R}{k i:Nat}{p:List Ac}{kd:Kd}{t0:T}(S:Sim Γ H O Z (ens vs rs++E))(hk:rs[k]?=some ⟨.vw (some i) (some p),s⟩)(hw:vs[k]?=some w)(hal:∀m r,m≠k->rs[m]?=some r->ax [i] r=true)(h : O[i]?=some (some ⟨kd,t0⟩))(ho:kd.isOw=true) :
  ∃G,Rp Γ.K H s w G/\G.Nodup/\(∀a∈G,Mu H a)/\(∀m r x,m≠k->rs[m]?=some r->vs[m]?=some x->∃F,Rp Γ.K H r.t x F/\∀a∈F,a∉G) /\
  ∀H' s' v t F G',K1 G H H'->(∀a∈G,∃o,H' a=some o)->(F++G').Nodup->(∀a∈F,H a=none/\Mu H' a)->(∀a∈G',(a∈G\/H a=none)/\Mu H' a)->Rp Γ.K H' s' w G'->Rp Γ.K H' t v F->Sim Γ H' ((ao [i] O).set i (some ⟨kd,t0.put p s'⟩)) Z (⟨none,v,⟨.ow,t⟩⟩::ah [i] E):=by
 have hil:i < O.length:=(Gc.mp h).1;obtain⟨v0,hv0,h1,h2,h3⟩:=S.out h ho;have pl:=S.place (yaL _ (mn hk hw)) h hv0;obtain⟨L,g,eL⟩:=h1;obtain⟨x,L',rfl,ex,eL'⟩:=aN eL;have hox:x.e.r.k.isOw=true:=by rw[ex];exact ho
 have nx:=g.ndF ymS hox;have mx:=g.muF ymS hox;have hsub:x.e.r.t.sub p=some s:=by rw[ex];exact pl.1
 obtain⟨w',A,G,B,z1,z2,z3,z4⟩:=(g.rp x ymS).atP mx nx hsub;have ew:w'=w:=by rw[ex]at z1;exact iy z1 pl.2
 subst ew;have inG:∀a∈G,a∈x.F:=λa ha=>by rw[z3];exact yaL _ (yaR _ ha)
 have ndx:=nx;rw[z3]at ndx;have ndA:=Gi.mp ndx;have ndG:=Gi.mp ndA.1;have keyL:∀g∈L',g.e.key≠some i:=λy hy=>h3 y.e (by rw[<-eL'];exact GS hy);have rootL:∀g∈L',g.e.r.k.root≠some i:=λy hy=>h2 y.e (by rw[<-eL'];exact GS hy);have ap:=GW.apart (hs:=[x]) (L:=L') g (λy hy z hz j hj=>by rw[ysM hz,ex]at hj;cases hj;exact rootL y hy) (λz hz=>by rw[ysM hz];exact hox);apply⟨G,z2,ndG.2.1,λa ha=>mx a (inG a ha),λm r y hm hr hy=>?_,λH' s' v t F G' off dom nd hF hG rp' rpt=>?_⟩
 ·have hmem:(⟨none,y,r⟩:En)∈ah [i] (ens vs rs++E):=Gk.mpr ⟨yaL _ (mn hr hy),hal m r hm hr⟩;have hmem2:(⟨none,y,r⟩:En)∈L'.map (·.e):=by rw[eL'];exact yaL _ hmem
  obtain⟨z,hz,ez⟩:=Gn.mp hmem2;have rz:=g.rp z (ymC _ hz);rw[ez]at rz;exact⟨z.F,rz,λa ha hg=>ap z hz a ha x ymS (inG a hg)⟩
 ·have apAB:∀a,(a∈A\/a∈B)->a∉G:=λa ha hm=>by
   rcases ha with q|q;exact ndG.2.2 a q a hm rfl;exact ndA.2.2 a (yaR _ hm) a q rfl
  have inAB:∀a,(a∈A\/a∈B)->a∈x.F:=λa ha=>by
   rw[z3];rcases ha with q|q;exact yaL _ (yaL _ q);exact yaR _ q
  have rp2:=z4 H' s' G' off rp';have nFG:=Gi.mp nd;have oldAB:∀a,(a∈A\/a∈B)->H a≠none:=λa ha z=>by obtain⟨o,e1,_⟩:=mx a (inAB a ha);rw[z]at e1;cases e1
  have nG':∀a,(a∈A\/a∈B)->a∉G':=λa ha hg=>by
   rcases(hG a hg).1 with z|z;exact apAB a ha z;exact oldAB a ha z
  have ndR:(A++G'++B).Nodup:=by
   apply Gi.mpr ⟨Gi.mpr ⟨ndG.1,nFG.2.1,λa ha b hb e=>nG' a (.inl ha) (e▸hb)⟩,ndA.2.1,λa ha b hb e=>?_⟩;subst e;rcases yaM ha with z|z;exact ndA.2.2 a (yaL _ z) a hb rfl;exact nG' a (.inr hb) z
  have memR:∀a∈A++G'++B,(a∈x.F\/H a=none)/\Mu H' a:=λa ha=>by
   have old:a∈A\/a∈B->(a∈x.F\/H a=none)/\Mu H' a:=λq=>by
    obtain⟨o,e1,m1⟩:=mx a (inAB a q);exact⟨.inl (inAB a q),o,off a o e1 (apAB a q),m1⟩
   rcases yaM ha with z|z
   ·rcases yaM z with z|z;exact old (.inl z);exact⟨(hG a z).1.imp (inG a) id,(hG a z).2⟩
   ·exact old (.inr z)
  have st:=GW.stepN (hs:=[x]) (L:=L') (H':=H') (ns:=[⟨⟨none,v,⟨.ow,t⟩⟩,F⟩,⟨⟨some i,v0,⟨kd,t0.put p s'⟩⟩,A++G'++B⟩]) g (λz hz=>by rw[ysM hz];exact hox) (λy hy z hz j hj=>by rw[ysM hz,ex]at hj;cases hj;exact rootL y hy)
   (by simpa using off.mono inG) (λa ha=>by
    have ha':a∈x.F:=by exists ha
    by_cases hg:a∈G;exact dom a hg;obtain⟨o,e1,_⟩:=mx a ha';exact⟨o,off a o e1 hg⟩)
   (by
    dsimp[Gs,IG,Gy];apply Gi.mpr ⟨nFG.1,ndR,λa ha b hb e=>?_⟩;subst e;rcases yaM hb with z|z
    ·rcases yaM z with z|z;exact oldAB a (.inl z) (hF a ha).1;exact nFG.2.2 a ha a z rfl
    ·exact oldAB a (.inr z) (hF a ha).1)
   (λa ha=>by
    dsimp[Gs,IG,Gy]at ha|-;rcases yaM ha with z|z;exact⟨.inr (hF a z).1,(hF a z).2⟩;exact memR a z)
   (λn hn=>by
    rcases ycM hn with rfl|hn;exact rpt;rw[ysM hn];rw[ex]at rp2;exact rp2)
   (λn hn=>by
    rcases ycM hn with rfl|hn;exact .inl ⟨rfl,λa ha=>.inl (hF a ha).1⟩
    ·rw[ysM hn];have kx:=g.kd x ymS;unfold K4 at kx;rw[ex]at kx;cases kd with
     | ow=>exact .inl ⟨rfl,λa ha=>(memR a ha).1.elim (λz=>.inr ⟨x,ymS,by rw[ex],z⟩) .inl⟩
     | io n=>exact .inr ⟨n,rfl,kx⟩
     | vw a b=>cases ho)
   (by
    have ks:=g.ks;rw[GG,ex]at ks;exact ks)
  have S2:=S.kill [i];have SL:KY Γ H' (⟨none,v,⟨.ow,t⟩⟩::⟨some i,v0,⟨kd,t0.put p s'⟩⟩::(ah [i] (ens vs rs++E)++aD 0 Z ((ao [i] O).set i none))):=⟨_,st,by rw[Gq,eL'];rfl⟩;have SL2:KY Γ H' (⟨none,v,⟨.ow,t⟩⟩::⟨some i,v0,⟨kd,t0.put p s'⟩⟩::(ah [i] E++aD 0 Z ((ao [i] O).set i none))):=by
   rw[az,Gx]at SL;have pp:(⟨none,v,⟨.ow,t⟩⟩::⟨some i,v0,⟨kd,t0.put p s'⟩⟩::(ah [i] (ens vs rs)++(ah [i] E++aD 0 Z ((ao [i] O).set i none)))).Perm (ah [i] (ens vs rs)++(⟨none,v,⟨.ow,t⟩⟩::⟨some i,v0,⟨kd,t0.put p s'⟩⟩::(ah [i] E++aD 0 Z ((ao [i] O).set i none)))):=by
    apply List.Perm.trans ?_ (GQ.symm);apply List.Perm.cons _ ?_;exact GQ.symm
   exact(SL.perm pp).dropsN λe he=>qA (Gk.mp he).1
  apply S2.back (E':=⟨none,v,⟨.ow,t⟩⟩::ah [i] E) (SL2.perm ?_) (by simp[aP]) rfl (λm r' hm=>?_) (λe he j hj=>?_)
  ·have pq:=(fY (k:=0) (Z:=Z) (O:=ao [i] O) (v:=v0) (r:=⟨kd,t0.put p s'⟩) (by rw[S.len];exact hil) (by rw[aP];exact hil)).append_left (ah [i] E);rw[Hb]at pq;have eZ:Z.set i (some v0)=Z:=by
    apply HP;intro m;by_cases hm:m=i;subst hm;rw[hv0];simp[S.len,hil];rw[GB (Mj hm)]
   rw[eZ]at pq;rw[GL];exact List.Perm.cons _ ((GQ.symm).trans pq.symm)
  ·by_cases e:m=i;subst e;exact⟨v0,hv0⟩;rw[GB (Mj e)]at hm;exact S2.al m r' hm
  ·rcases ycM he with rfl|he;cases hj;rw[az];exact yaR _ he
abbrev spP(K:yF)(run:List T->Option T):Sp:=λvs H Q _=>∃ts t,Lk K H ts vs/\run ts=some t/\∀v H',New K H H' t v->Q v H'
abbrev spI(K:yF)(k:Nat)(run:List T->Option (T×T)):Sp:=λvs H Q _=>∃ts s w G t s',vs.length=ts.length/\vs[k]?=some w/\ts[k]?=some s/\Rp K H s w G/\G.Nodup/\(∀a∈G,Mu H a)/\(∀(m:Nat) x u,m≠k->vs[m]?=some x->ts[m]?=some u->∃F,Rp K H u x F/\∀a∈F,a∉G)/\run ts=some (t,s') /\
 ∀v H' F G',K1 G H H'->(∀a∈G,∃o,H' a=some o)->(F++G').Nodup->(∀a∈F,H a=none/\Mu H' a)->(∀a∈G',(a∈G\/H a=none)/\Mu H' a)->Rp K H' s' w G'->Rp K H' t v F->Q v H'
def sW{run:List T->Option T}{ta:TA}{a:MA}(ha:gI K ta a):aV K (lR (spP K run) [] E0 ta) (mB run a):=by
 have e:lR (spP K run) [] E0 ta=tCB (λvs H Q=>spP K run vs H Q E0) ta:=by
  funext Z H Q;show(ta Z H λvs H1=>spP K run (vs++[]) H1 Q E0)=_;dsimp[Gy];rfl
 rw[e];exact n8 (λH vs ts t Q r e q=>⟨ts,t,r,e,q⟩) ha
private def ak(k j:Nat)(run:List T->Option (T×T))(a:MA):ME:=⟨λO=>match a.run O with
 | some (rs,O1)=>(match rs[k]? with
  | some ⟨.vw (some i) (some p),_⟩=>if(decide (i=j)&&(Gz rs.length).all λm=>decide (m=k)||ax [j] (rs.getD m ⟨.ow,.im .non⟩))=true then(match run (rs.map (·.t))with
   | some (t,s')=>(match O1[j]? with
    | some (some ⟨kd,t0⟩)=>if kd.isOw=true then some (⟨.ow,t⟩,(ao [j] O1).set j (some ⟨kd,t0.put p s'⟩))else none
    | _=>none)
   | none=>none)else none
  | _=>none)
 | none=>none,a.mu++[j]⟩
def sV{k j:Nat}{run:List T->Option (T×T)}{ta:TA}{a:MA}(ha:gI K ta a):aV K (lR (spI K k run) [] E0 ta) (ak k j run a):=by
 intro Γ H O Z E Q r O' hK hr S q;show ta Z H λvs H1=>spI K k run (vs++[]) H1 Q E0;dsimp[Gy];dsimp[ak]at hr q;split at hr
 ·delta rs O1 e1;split at hr
  ·delta i p s e2;split at hr
   ·delta hb;rw[Gd,decide_eq_true_eq]at hb;obtain⟨rfl,hal⟩:=hb;split at hr
    ·delta t s' e3;split at hr
     ·delta kd t0 e4;split at hr
      ·delta ho;cases hr;apply ha Γ H O Z E _ rs O1 hK e1 S λvs H1 hl S1=>?_;have hkl:k<rs.length:=(Gc.mp e2).1;obtain⟨w,hw⟩:∃w,vs[k]?=some w:=⟨vs[k],by simp[hl,hkl]⟩;have hal':∀m r,m≠k->rs[m]?=some r->ax [i] r=true:=λm r hm hr=>by
        have hml:=(Gc.mp hr).1;have:=G9.mp hal m (GU.mpr hml);rw[GC,hr]at this;simpa[hm]using this
       obtain⟨G,g1,g2,g3,g4,g5⟩:=S1.io e2 hw hal' e4 ho;rw[hK]at g1;apply⟨rs.map (·.t),s,w,G,t,s',by rw[Ge,hl],hw,by rw[Go,e2];rfl,g1,g2,g3,λm x u hm hx hu=>?_,e3,λv H' F G' a1 a2 a3 a4 a5 a6 a7=>q v H' ?_⟩
       ·rw[Go]at hu;cases hr:rs[m]? with
        | none=>rw[hr]at hu;cases hu
        | some r=>
         rw[hr]at hu;cases hu;have:=g4 m r x hm hr hx;rw[hK]at this;exact this
       ·rw[<-hK]at a6 a7;have:=g5 H' s' v t F G' a1 a2 a3 a4 a5 a6 a7;rw[ae]at this;exact this
      ·cases hr
     ·cases hr
    ·cases hr
   ·cases hr
  ·cases hr
 ·cases hr
abbrev roR:T->R
 | .im i=>⟨.ow,.im i⟩
 | t=>⟨.vw none none,t⟩
abbrev cR(ts:List T) (n:Nat):Rho:=(ts.map λt=>some (roR t))++Gh (n-ts.length) none
def gX:∀(k n m:Nat),aD k (Gh n none) (Gh m none)=[]
 | _,0,_=>rfl
 | _,n+1,0=>rfl
 | k,n+1,m+1=>by dsimp[G6,aD];exact gX (k+1) n m
def rm{H0:Hp}{io:List Addr}{iov:List V}(n m:Nat):∀{ts:List T} {vs:List V} {k:Nat},Lk K H ts vs->∃L:List Hd,L.map (·.e)=aD k (vs.map some++Gh n none) ((ts.map λt=>some (roR t))++Gh m none)/\L.flatMap Hd.own=[]/\(∀h∈L,Rp K H h.e.r.t h.e.v h.F)/\(∀h∈L,(h.e.r.k=.ow/\h.F=[])\/h.e.r.k=.vw none none)
 | [],vs,k,r=>by
  rw[Lk]at r;subst r;exact⟨[],by simp[gX],rfl,by simp,by simp⟩
 | t::ts,vs,k,r=>by
  obtain⟨v,vr,rfl,⟨F,r1⟩,r2⟩:=r;obtain⟨L,h1,h2,h3,h4⟩:=rm (H0:=H0) (io:=io) (iov:=iov) n m (k:=k+1) r2;have hroR:∃F',Rp K H (roR t).t v F'/\(((roR t).k=.ow/\F'=[])\/(roR t).k=.vw none none):=by
   cases t with
   | im i=>exact⟨[],iR (aZ r1).1,.inl ⟨rfl,rfl⟩⟩
   | _=>exact⟨F,r1,.inr rfl⟩
  obtain⟨F',g1,g2⟩:=hroR;apply⟨⟨⟨some k,v,roR t⟩,F'⟩::L,by simp[aD,h1],?_,λh hh=>?_,λh hh=>?_⟩
  ·rw[Gs,h2,Gy];unfold Hd.own;rcases g2 with⟨e,rfl⟩|e;simp;rw[show(⟨⟨some k,v,roR t⟩,F'⟩:Hd).e.r.k=(roR t).k from rfl,e];rfl
  ·rcases ycM hh with rfl|hh;exact g1;exact h3 h hh
  ·rcases ycM hh with rfl|hh
   ·rcases g2 with⟨e,rfl⟩|e;exact .inl ⟨e,rfl⟩;exact .inr e
   ·exact h4 h hh
def Lk.length:∀{ts:List T} {vs:List V},Lk K H ts vs->vs.length=ts.length
 | [],vs,r=>by rw[Lk]at r;subst r;rfl
 | t::ts,vs,r=>by obtain⟨v,vr,rfl,_,r2⟩:=r;rw[Gp,Gp,Lk.length r2]
def ot{ts:List T}{vs:List V}{n m:Nat}(hl:vs.length=ts.length)(i:Nat)(r:R)(h:((ts.map λt=>some (roR t))++Gh m none)[i]?=some (some r)):∃v,(vs.map some++Gh n none)[i]?=some (some v):=by
 have hi:i<ts.length:=by
  by_cases e:i<ts.length;exact e
  ·rw[Hu (by simp;omega),Ji]at h;split at h<;>cases h
 apply⟨vs[i],?_⟩;rw[G7 (by simp;omega),Go];simp[hl,hi]
def qB{k:Nat}:((aD k Z O).filterMap λe=>e.key).Nodup:=by
 have:=mq (k:=k) (Z:=Z) (O:=O);apply List.Pairwise.filterMap (R:=λa b=>∃i j,a.key=some i/\b.key=some j/\i<j) (λe:En=>e.key) (λa a' ⟨i,j,h1,h2,h3⟩ b hb b' hb'=>?_) this;rw[h1]at hb;rw[h2]at hb';cases hb;cases hb';omega
def zA{ts:List T}{vs:List V}{N:List Str}(r:Lk K H ts vs):Sim ⟨K,H,[],[]⟩ H (cR ts N.length) (bQ N vs) []:=by
 obtain⟨L,h1,h2,h3,h4⟩:=rm (H0:=H) (io:=[]) (iov:=[]) (N.length-vs.length) (N.length-ts.length) (k:=0) r;apply⟨⟨L,⟨by rw[h2];exact Hj,by rw[h2];simp,h3,λh hh=>?_,?_,λb o e _=>e,by simp⟩,by rw[h1];rfl⟩,λi r' h=>ot r.length i r' h,?_,by simp⟩
 ·unfold K4;rcases h4 h hh with⟨e,eF⟩|e;rw[e,eF];simp;rw[e,h2];simp
 ·have:(L.filterMap λh=>h.e.key)=(L.map (·.e)).filterMap λe=>e.key:=by rw[Is];rfl
  rw[this,h1];exact qB
 ·simp[bQ,cR,r.length]
abbrev cT(m:MS) (n:Nat) (ts:List T):Option T:=match m.run (cR ts n)with
 | some (.rt t,_)=>some t
 | some (.nx,_)=>some (.im .non)
 | _=>none
def zR{H0:Hp}(S:Sim ⟨K,H0,[],[]⟩ H' O Z [⟨none,v,⟨.ow,t⟩⟩]):New K H0 H' t v:=by
 obtain⟨L,g,e⟩:=S.sl;obtain⟨x,L',rfl,ex,_⟩:=aN e;have rp:=g.rp x ymS;rw[ex]at rp;have kd:=g.kd x ymS;unfold K4 at kd;rw[ex]at kd;have ho:x.e.r.k.isOw=true:=by rw[ex];rfl
 exact⟨λb o h=>g.fr b o h ∅,x.F,rp,g.ndF ymS ho,λa ha=>⟨kd a ha,g.muF ymS ho a ha⟩⟩
def Def.mp{P:LR}{W:Mb}{mg:Str->Option LH}{base:Heap}{k:Nat}{name:Str}{st:Stmt}{N ps:List Str}(d:Def K mg name st ps)(S:KU N ps (ai st)){m:MS}
  (hbody:∀(f:Addr) (cdv:LH) (A:LX) (outer:List Env) (s:LI) (H:Hp) (E:XK),Lb k (A.deeper (NG name (ai st) s.heap.objs.size f cdv))->Dp (kX CX0 P W K mg base N name (ai st) f cdv A outer s H E).nox (bA st) m)
  {run:List T->Option T} (hrun:∀ts,run ts=if ts.length=ps.length then cT m N.length ts else none):Has P W K mg base (k+1) name ps (spP K run):=by
 apply d.has S (λvs H Q E h=>?_) (λf cdv A outer s H vs Q E hr h=>?_)
 ·obtain⟨ts,t,r,e,_⟩:=h;rw[hrun]at e;split at e;delta hl;rw[r.length,hl];cases e
 ·obtain⟨ts,t,r,e,q⟩:=h;rw[hrun]at e;split at e
  ·obtain⟨tS,p1,p2⟩:=hbody f cdv A outer s H E hr;apply⟨tS,p1,?_⟩;have S0:=zA (N:=N) r;unfold cT at e;split at e
   ·delta t0 O' e1;cases e;exact p2 ⟨K,H,[],[]⟩ H _ _ [] _ _ O' rfl ∅ e1 S0 λv Z' H' S1=>q v H' (zR S1)
   ·delta O' e1;cases e;exact p2 ⟨K,H,[],[]⟩ H _ _ [] _ .nx O' rfl ∅ e1 S0 λZ' H' S1=>q .non H' (zR (S1.imm bW))
   ·cases e
  ·cases e
abbrev fw(k:Nat) (ts:List T) (n:Nat):Rho:=(cR ts n).set k (some ⟨.io 0,ts.getD k (.im .non)⟩)
abbrev fS(m:MS) (k n:Nat) (ts:List T):Option (T×T):=match m.run (fw k ts n)with
 | some (.rt t,O')=>(match O'[k]? with
  | some (some ⟨.io 0,s'⟩)=>some (t,s')
  | _=>none)
 | some (.nx,O')=>(match O'[k]? with
  | some (some ⟨.io 0,s'⟩)=>some (.im .non,s')
  | _=>none)
 | _=>none
def oq{G:List Addr}(n m:Nat):∀{ts:List T} {vs:List V} {k:Nat},vs.length=ts.length->(∀(i:Nat) x u,vs[i]?=some x->ts[i]?=some u->∃F,Rp K H u x F/\∀a∈F,a∉G)->∃L:List Hd,L.map (·.e)=aD k (vs.map some++Gh n none) ((ts.map λt=>some (roR t))++Gh m none)/\L.flatMap Hd.own=[]/\(∀h∈L,Rp K H h.e.r.t h.e.v h.F/\∀a∈h.F,a∉G)/\(∀h∈L,(h.e.r.k=.ow/\h.F=[])\/h.e.r.k=.vw none none)
 | [],[],k,_,_=>⟨[],by simp[gX],rfl,by simp,by simp⟩
 | t::ts,v::vs,k,hl,r=>by
  obtain⟨F,r1,r1'⟩:=r 0 v t rfl rfl;obtain⟨L,h1,h2,h3,h4⟩:=oq (G:=G) n m (ts:=ts) (vs:=vs) (k:=k+1) (by exists hl) (λi x u hx hu=>r (i+1) x u (by exists hx) (by exists hu));have hroR:∃F',Rp K H (roR t).t v F'/\(∀a∈F',a∉G)/\(((roR t).k=.ow/\F'=[])\/(roR t).k=.vw none none):=by
   cases t with
   | im i=>exact⟨[],iR (aZ r1).1,by simp,.inl ⟨rfl,rfl⟩⟩
   | _=>exact⟨F,r1,r1',.inr rfl⟩
  obtain⟨F',g1,g1',g2⟩:=hroR;apply⟨⟨⟨some k,v,roR t⟩,F'⟩::L,by simp[aD,h1],?_,λh hh=>?_,λh hh=>?_⟩
  ·rw[Gs,h2,Gy];unfold Hd.own;rcases g2 with⟨e,rfl⟩|e;simp;rw[show(⟨⟨some k,v,roR t⟩,F'⟩:Hd).e.r.k=(roR t).k from rfl,e];rfl
  ·rcases ycM hh with rfl|hh;exact⟨g1,g1'⟩;exact h3 h hh
  ·rcases ycM hh with rfl|hh
   ·rcases g2 with⟨e,rfl⟩|e;exact .inl ⟨e,rfl⟩;exact .inr e
   ·exact h4 h hh
 | [],_::_,_,h,_=>by cases h
 | _::_,[],_,h,_=>by cases h
def zz{ts:List T}{vs:List V}{N:List Str}{k:Nat}{G:List Addr}(hl:vs.length=ts.length)(hw:vs[k]?=some w)(hs:ts[k]?=some s)(rp:Rp K H s w G)(nd:G.Nodup)(mu:∀a∈G,Mu H a)(ro:∀(m:Nat) x u,m≠k->vs[m]?=some x->ts[m]?=some u->∃F,Rp K H u x F/\∀a∈F,a∉G):Sim ⟨K,H,G,[w]⟩ H (fw k ts N.length) (bQ N vs) []:=by
 have hkl:k<ts.length:=(Gc.mp hs).1;have hl':(vs.set k .non).length=(ts.set k (.im .non)).length:=by simp[hl]
 obtain⟨L,h1,h2,h3,h4⟩:=oq (K:=K) (H:=H) (G:=G) (N.length-vs.length) (N.length-ts.length) (ts:=ts.set k (.im .non)) (vs:=vs.set k .non) (k:=0) hl' (λm x u hx hu=>by
  by_cases e:m=k
  ·subst e;simp[hl,hkl]at hx hu;subst hx hu;exact⟨[],iR bW,by simp⟩
  ·rw[GB (Mj e)]at hx hu;exact ro m x u e hx hu)
 have eZ:(vs.set k .non).map some++Gh (N.length-vs.length) none=(bQ N vs).set k (some .non):=by
  unfold bQ;rw[JG _ _ (by simp[hl,hkl]),Ju]
 have eO:((ts.set k (.im .non)).map λt=>some (roR t))++Gh (N.length-ts.length) none=(cR ts N.length).set k (↥(.non)):=by
  unfold cR;rw[JG _ _ (by simp[hkl]),Ju];rfl
 rw[eZ,eO]at h1;have hkO:k<(cR ts N.length).length:=by simp[cR];omega
 have hkZ:k<(bQ N vs).length:=by simp[bQ,hl];omega
 have p1:=fY (k:=0) (Z:=bQ N vs) (O:=cR ts N.length) (v:=.non) (r:=⟨.ow,.im .non⟩) hkZ hkO;rw[Hb,<-h1]at p1;obtain⟨L2,pL,eL⟩:=lL p1 L rfl;obtain⟨x,L3,rfl,ex,e3⟩:=aN eL;have inL:∀h∈L3,h∈L:=λh hh=>pL.mem_iff.mpr (ymC _ hh);have own3:L3.flatMap Hd.own=[]:=by
  rw[Jn];intro h hh;rw[Jn]at h2;exact h2 h (inL h hh)
 have own1:((⟨⟨some k,w,⟨.io 0,s⟩⟩,G⟩:Hd)::L3).flatMap Hd.own=G:=by rw[Gs,own3,Gy];rfl
 have ht:ts.getD k (.im .non)=s:=by rw[GC,hs];rfl
 have eZ2:(bQ N vs).set k (some w)=bQ N vs:=by
  apply HP;intro m;by_cases hm:m=k
  ·subst hm;rw[Hg hkZ];unfold bQ;rw[G7 (by simp[hl,hkl]),Go,hw];rfl
  ·rw[GB (Mj hm)]
 have p2:=fY (k:=0) (Z:=bQ N vs) (O:=cR ts N.length) (v:=w) (r:=⟨.io 0,s⟩) hkZ hkO;rw[Hb,eZ2]at p2;have gw:GW ⟨K,H,G,[w]⟩ H (⟨⟨some k,w,⟨.io 0,s⟩⟩,G⟩::L3):=by
  apply⟨by rw[own1];exact nd,λa ha=>by rw[own1]at ha;exact⟨mu a ha,.inr ha⟩,λh hh=>?_,λh hh=>?_,?_,λb o e _=>e,λa ha=>let ⟨o,e,_⟩:=mu a ha;⟨o,e⟩⟩
  ·rcases ycM hh with rfl|hh;exact rp;exact(h3 h (inL h hh)).1
  ·rcases ycM hh with rfl|hh;rfl
   ·unfold K4;rcases h4 h (inL h hh)with⟨e,eF⟩|e;rw[e,eF];simp;rw[e,own1];exact(h3 h (inL h hh)).2
  ·have e5:((⟨⟨some k,w,⟨.io 0,s⟩⟩,G⟩:Hd)::L3).filterMap (λh=>h.e.key)=(x::L3).filterMap λh=>h.e.key:=by rw[GG,GG,ex]
   rw[e5];have e6:((x::L3).filterMap λh=>h.e.key)=((x::L3).map (·.e)).filterMap λe=>e.key:=by rw[Is];rfl
   rw[e6,eL];have:=(p1.filterMap (λe:En=>e.key)).nodup_iff.mp (by rw[h1];exact qB);exact this
 apply⟨KY.perm ⟨_,gw,rfl⟩ ?_,λi r' h=>?_,?_,by simp⟩
 ·rw[Gg,e3,Hy];unfold fw;rw[ht];exact p2.symm
 ·unfold fw at h;rw[ht]at h;by_cases e:i=k
  ·subst e;apply⟨w,?_⟩;unfold bQ;rw[G7 (by simp[hl,hkl]),Go,hw];rfl
  ·rw[GB (Mj e)]at h;exact ot hl i r' h
 ·simp[bQ,fw,cR,hl]
def zQ{H0:Hp}{G:List Addr}{w0:V}{k:Nat}{s':T}(S:Sim ⟨K,H0,G,[w0]⟩ H' O Z [⟨none,v,⟨.ow,t⟩⟩])(h : O[k]?=some (some ⟨.io 0,s'⟩)):∃F G',K1 G H0 H'/\(∀a∈G,∃o,H' a=some o)/\(F++G').Nodup/\(∀a∈F,H0 a=none/\Mu H' a)/\(∀a∈G',(a∈G\/H0 a=none)/\Mu H' a)/\Rp K H' s' w0 G'/\Rp K H' t v F:=by
 obtain⟨w,hw,hm⟩:=S.slot h;obtain⟨L,g,e⟩:=S.sl;rw[GL]at e hm;obtain⟨x,L',rfl,ex,e2⟩:=aN e;have hm':(⟨some k,w,⟨.io 0,s'⟩⟩:En)∈L'.map (·.e):=by
  rw[e2];rcases ycM hm with z|z;cases z;exact z
 obtain⟨y,hy,ey⟩:=Gn.mp hm';have rpx:=g.rp x ymS;rw[ex]at rpx;have rpy:=g.rp y (ymC _ hy);rw[ey]at rpy;have kx:=g.kd x ymS;unfold K4 at kx;rw[ex]at kx;have ky:=g.kd y (ymC _ hy);unfold K4 at ky;rw[ey]at ky;have ew:w0=w:=by exists ky
 subst ew;have hox:x.e.r.k.isOw=true:=by rw[ex];rfl
 have hoy:y.e.r.k.isOw=true:=by rw[ey];rfl
 apply⟨x.F,y.F,λb o hb n=>g.fr b o hb n,g.iol,?_,λa ha=>⟨kx a ha,g.muF ymS hox a ha⟩,λa ha=>?_,rpy,rpx⟩
 ·have nd:=g.nd;rw[Gs]at nd;have nx:x.own=x.F:=by unfold Hd.own;rw[if_pos hox]
  rw[nx]at nd;have nn:=Gi.mp nd;exact Gi.mpr ⟨nn.1,g.ndF (ymC _ hy) hoy,λa ha b hb=>nn.2.2 a ha b (Ha.mpr ⟨y,hy,iO hoy hb⟩)⟩
 ·have:=g.ad a (Ha.mpr ⟨y,ymC _ hy,iO hoy ha⟩);exact⟨this.2.symm,this.1⟩
def Def.mi{P:LR}{W:Mb}{mg:Str->Option LH}{base:Heap}{k:Nat}{name:Str}{st:Stmt}{N ps:List Str}{j:Nat}(d:Def K mg name st ps)(S:KU N ps (ai st)){m:MS}
  (hbody:∀(f:Addr) (cdv:LH) (A:LX) (outer:List Env) (s:LI) (H:Hp) (E:XK),Lb k (A.deeper (NG name (ai st) s.heap.objs.size f cdv))->Dp (kX CX0 P W K mg base N name (ai st) f cdv A outer s H E).nox (bA st) m)
  {run:List T->Option (T×T)} (hrun:∀ts,run ts=if ts.length=ps.length then fS m j N.length ts else none):Has P W K mg base (k+1) name ps (spI K j run):=by
 apply d.has S (λvs H Q E h=>?_) (λf cdv A outer s H vs Q E hr h=>?_)
 ·obtain⟨ts,s0,w,G,t,s',hl,_,_,_,_,_,_,e,_⟩:=h;rw[hrun]at e;split at e;delta h2;rw[hl,h2];cases e
 ·obtain⟨ts,s0,w,G,t,s',hl,hw,hs,rp,nd,mu,ro,e,q⟩:=h;rw[hrun]at e;split at e
  ·obtain⟨tS,p1,p2⟩:=hbody f cdv A outer s H E hr;apply⟨tS,p1,?_⟩;have S0:=zz (N:=N) hl hw hs rp nd mu ro;unfold fS at e;split at e
   ·delta t0 O' e1;split at e
    ·delta s1 e2;cases e;apply p2 ⟨K,H,G,[w]⟩ H _ _ [] _ _ O' rfl ∅ e1 S0 λv Z' H' S1=>?_;obtain⟨F,G',a1,a2,a3,a4,a5,a6,a7⟩:=zQ S1 e2;exact q v H' F G' a1 a2 a3 a4 a5 a6 a7
    ·cases e
   ·delta O' e1;split at e
    ·delta s1 e2;cases e;apply p2 ⟨K,H,G,[w]⟩ H _ _ [] _ .nx O' rfl ∅ e1 S0 λZ' H' S1=>?_;obtain⟨F,G',a1,a2,a3,a4,a5,a6,a7⟩:=zQ (S1.imm bW) e2;exact q .non H' F G' a1 a2 a3 a4 a5 a6 a7
    ·cases e
   ·cases e
  ·cases e
end
structure CK{ι : Type}(C:ι->Cx)(P:LR)(W:Mb)(K:yF)(mg:Str->Option LH)(base:Heap)(k:Nat):Prop where
 prog:∀i,(C i).prog=P
 w:∀i,(C i).w=W
 kk:∀i,(C i).K=K
 mg:∀i,(C i).mg=mg
 base:∀i,(C i).base=base
 calm:∀i,(C i).calm=true
 room:∀i,Lb k (C i).A
variable {ι : Type}{C:ι->Cx}{P:LR}{W:Mb}{K:yF}{mg:Str->Option LH}{base:Heap}{k:Nat}
noncomputable abbrev gJ(C:ι->Cx) (scope:ML) (N':List Str):ι×Bk->Cx:=λp=>cxB (C p.1) scope N' p.2
def CK.blk(ck:CK C P W K mg base k){scope:ML}{N':List Str}:CK (gJ C scope N') P W K mg base k:=
 ⟨λp=>ck.prog p.1,λp=>ck.w p.1,λp=>ck.kk p.1,λp=>ck.mg p.1,λp=>ck.base p.1,λp=>ck.calm p.1,λp=>ck.room p.1⟩
structure QE(C:ι->Cx)(K:yF)(e:Expr)(m:ME):Prop where
 ex:∃te,(∀i,PE (C i) e te)/\aV K te m
structure QT(C:ι->Cx)(K:yF)(e:Expr)(m:MT):Prop where
 ex:∃te,(∀i,PT (C i) e te)/\ef K te m
structure QW(C:ι->Cx)(K:yF)(e:Expr)(m:MT):Prop where
 ex:∃te,(∀i,PW (C i) e te)/\ef K te m
structure QTs(C:ι->Cx)(K:yF)(e:List Expr)(m:MT):Prop where
 ex:∃te,(∀i,PTs (C i) e te)/\ef K te m
structure QA(C:ι->Cx)(K:yF)(es:List Expr)(m:MA):Prop where
 ex:∃ta,(∀i,PA (C i) es ta)/\bg es=true/\gI K ta m
structure QS(C:ι->Cx)(K:yF)(st:Stmt)(m:MS):Prop where
 ex:∃ts,(∀i,PS (C i) st ts)/\ee K ts m
structure QSs(C:ι->Cx)(K:yF)(st:List Stmt)(m:MS):Prop where
 ex:∃ts,(∀i,PSs (C i) st ts)/\ee K ts m
structure QG(C:ι->Cx)(K:yF)(fr:Option (List (Option Nat)))(e:Expr)(m:MG):Prop where
 ex:∃g,(∀i,PG (C i) e g)/\ir K g m/\∀f,fr=some f->cj f g
structure QGs(C:ι->Cx)(K:yF)(fr:Option (List (Option Nat)))(n:Nat)(es:List Expr)(m:MGs):Prop where
 ex:∃g,(∀i,PGs (C i) es g)/\nt K g m/\(∀f,fr=some f->jV f g)/\(∀rs O O',m.run rs O=some O'->rs.length=n)
structure QI(C:ι->Cx)(K:yF)(tg e:Expr)(m:MI):Prop where
 ex:∃wi,(∀i,PI (C i) tg e wi)/\jX K wi m
structure QO(C:ι->Cx)(K:yF)(e:Option Expr)(m:MO):Prop where
 ex:∃t,(∀i,PO (C i) e t)/\oU K t m
section
variable {a b c e o:Expr}{es:List Expr}{ma mb mc m:ME}{ms:MA}{pos:Pos}{mt mt':MT}
def Ep{i:Int}{j:Nat}:QE C K (.Constant (.int i) j pos) (mC (.int i)):=⟨_,λ_=>vj,wm rfl⟩
def FU{x:Bool}{j:Nat}:QE C K (.Constant (.bool x) j pos) (mC (.bl x)):=⟨_,λ_=>D9,wm rfl⟩
def EA{x:Str}{j:Nat}:QE C K (.Constant (.str x) j pos) (mC (.str x)):=⟨_,λ_=>BO,wm rfl⟩
def ED(n:Nat){x:Str}(hN:∀i,(C i).N[n]?=some x:=by intro _;rfl)(hv:∀i,Vis (C i).env.scope x:=by first|exact λ_=>P1 rfl|exact λ_=>OX (P1 rfl)|exact λ_=>OX (OX rfl))(hd:(x==("__debug__" : Str))=false:=by decide)(hcd:(x==("__classdict__" : Str))=false:=by decide):QE C K (.Name x pos) (af n):=⟨_,λi=>vk (hN i) (hv i) hd hcd,zp⟩
def Cd:QA C K [] mNil:=⟨_,λ_=>vc,rfl,zf⟩
def yO(h1:QE C K e m)(h2:QA C K es ms)(hs:fq e=false:=by rfl):QA C K (e::es) (ac m ms):=by
 obtain⟨te,a,b⟩:=h1;obtain⟨ta,c,n,d⟩:=h2;exact⟨_,λi=>kD (a i) (c i) hs,by rw[bg,hs,n];rfl,wn b d⟩
def sS{op:Qh}{red:yF->R2}{f:T->T->Option T}(ck:CK C P W K mg base k)(ho:∀X:Cx,OpR X (Ms op) (red X.K))(hp:eu K (red K) f)(ha:QE C K a ma)(hb:QE C K b mb):QE C K (.BinOp a op b pos) (mOp f ma mb):=by
 obtain⟨ta,p,r⟩:=ha;obtain⟨tb,p',r'⟩:=hb;exact⟨_,λi=>Ed (r:=red K) (by have:=ho (C i);rw[ck.kk i]at this;exact this) (p i) (p' i),pR hp r r'⟩
def Ei(ck:CK C P W K mg base k)(ha:QE C K a ma)(hb:QE C K b mb):QE C K (.BinOp a .Add b pos) (mOp bh ma mb):=sS ck (red:=vV) (λ_=>yg) vo ha hb
def EB(ck:CK C P W K mg base k)(ha:QE C K a ma)(hb:QE C K b mb):QE C K (.BinOp a .Sub b pos) (mOp da ma mb):=sS ck (red:=λ_=>rI0 λi j=>.int (i-j)) (λ_=>Bt) vJ ha hb
def Et(ck:CK C P W K mg base k)(ha:QE C K a ma)(hb:QE C K b mb):QE C K (.BinOp a .Mult b pos) (mOp el ma mb):=sS ck (red:=wc) (λ_=>yi) vD ha hb
def B8(ck:CK C P W K mg base k)(ha:QE C K a ma)(hb:QE C K b mb):QE C K (.BinOp a .FloorDiv b pos) (mOp jC ma mb):=sS ck (red:=λ_=>rI oR λi j=>.int (i / j)) (λ_=>sC) sN ha hb
def Es(ck:CK C P W K mg base k)(ha:QE C K a ma)(hb:QE C K b mb):QE C K (.BinOp a .Mod b pos) (mOp f9 ma mb):=sS ck (red:=λ_=>rI (λ_ j=>0<j) λi j=>.int (i % j)) (λ_=>Bo) vC ha hb
def Ew(ck:CK C P W K mg base k)(ha:QE C K a ma)(hb:QE C K b mb):QE C K (.BinOp a .Pow b pos) (mOp sK ma mb):=sS ck (red:=λ_=>rI Av λi j=>.int (i^j.toNat)) (λ_=>Bs) vG ha hb
abbrev gN(op:QB)(f:T->T->Option T):Prop:=∃red:yF->R2,(∀X:Cx,X.A.units+64<My->OpR X (Ml op) (red X.K))/\∀K,eu K (red K) f
def FI:gN .Lt (fU λi j=>decide (i<j)):=⟨λ_=>_,λ_ _=>DQ,λ_=>kF⟩
def FG:gN .Gt (fU λi j=>decide (j<i)):=⟨λ_=>_,λ_ _=>DP,λ_=>kF⟩
def FF:gN .GtE (fU λi j=>decide (j<=i)):=⟨λ_=>_,λ_ _=>DO,λ_=>kF⟩
def FE:gN .Eq eqT:=⟨Cu,λ_ hu=>Bl hu,λ_=>yB⟩
def FJ:gN .NotEq neT:=⟨Cw,λ_ hu=>Br hu,λ_=>yD⟩
def FH:gN .In inT:=⟨Cv,λ_ hu=>Bn hu,λ_=>yC⟩
def Dt:gN .NotIn iP:=⟨mU,λ_ hu=>sE hu,λ_=>vE⟩
def Ek{op:QB}{f:T->T->Option T}(ck:CK C P W K mg base k)(hc:gN op f)(ha:QE C K a ma)(hb:QE C K b mb)(hm:NC op b=false):QE C K (.Compare a [op] [b] pos) (mOp f ma mb):=by
 obtain⟨red,ho,hp⟩:=hc;obtain⟨ta,p,r⟩:=ha;obtain⟨tb,p',r'⟩:=hb;exact⟨_,λi=>yo (r:=red K) (by have:=ho (C i) (ck.room i).units;rw[ck.kk i]at this;exact this) (p i) (p' i) hm,pR (hp K) r r'⟩
def Co{op:QB}{f:T->T->Option T}(ck:CK C P W K mg base k)(hc:gN op f)(ha:QE C K a ma)(hb:QE C K b mb)(hm:NC op b=false):QT C K (.Compare a [op] [b] pos) (aJ (mOp f ma mb)):=by
 obtain⟨red,ho,hp⟩:=hc;obtain⟨ta,p,r⟩:=ha;obtain⟨tb,p',r'⟩:=hb;exact⟨_,λi=>yI (r:=red K) (by have:=ho (C i) (ck.room i).units;rw[ck.kk i]at this;exact this) (p i) (p' i) hm,oa (pR (hp K) r r')⟩
def Cr(ha:QE C K e m)(he:∀i whole,OP e (C i).env whole=(do let v <-whole;Nd e.pos;MU [v] (Qg v)):=by intro _ _;rfl):QT C K e (aJ m):=by
 obtain⟨ta,p,r⟩:=ha;exact⟨_,λi=>B3 (p i) (he i),CL r⟩
def Cq(ck:CK C P W K mg base k)(ha:QE C K e m)(he:∀i whole,OP e (C i).env whole=(do let v <-whole;Nd e.pos;MU [v] (Qg v)):=by intro _ _;rfl):QT C K e (pw m):=by
 obtain⟨ta,p,r⟩:=ha;exact⟨_,λi=>F6 (ck.kk i) (p i) (he i),zo r⟩
def Cp(ha:QT C K a mt):QT C K (.UnaryOp .Not a pos) (su mt):=by
 obtain⟨ta,p,r⟩:=ha;exact⟨_,λi=>B2 (p i),zg r⟩
def yY(ha:QT C K a mt):QW C K (.BoolOp .And [a] pos) mt:=by
 obtain⟨ta,p,r⟩:=ha;exact⟨_,λi=>yL (p i),r⟩
def Ct(ha:QT C K a mt):QW C K (.BoolOp .Or [a] pos) mt:=by
 obtain⟨ta,p,r⟩:=ha;exact⟨_,λi=>B6 (p i),r⟩
def Cs{rest:List Expr}(ha:QT C K a mt)(hb:QW C K (.BoolOp .And (b::rest) pos) mt'):QW C K (.BoolOp .And (a::b::rest) pos) (kr mt mt'):=by
 obtain⟨ta,p,r⟩:=ha;obtain⟨tb,p',r'⟩:=hb;exact⟨_,λi=>B5 (p i) (p' i),y9 r r'⟩
def EG{rest:List Expr}(ha:QT C K a mt)(hb:QW C K (.BoolOp .Or (b::rest) pos) mt'):QW C K (.BoolOp .Or (a::b::rest) pos) (mOr mt mt'):=by
 obtain⟨ta,p,r⟩:=ha;obtain⟨tb,p',r'⟩:=hb;exact⟨_,λi=>Eh (p i) (p' i),CI r r'⟩
def QW.t(h:QW C K e mt):QT C K e mt:=by
 obtain⟨ta,p,r⟩:=h;exact⟨_,λi=>(p i).pt,r⟩
def Ev{op:BoolOp}(h:QE C K a m):QE C K (.BoolOp op [a] pos) m:=by
 obtain⟨ta,p,r⟩:=h;exact⟨_,λi=>BN (p i),r⟩
def FX{rest:List Expr}(ha:QE C K a ma)(hb:QE C K (.BoolOp .Or (b::rest) pos) mb):QE C K (.BoolOp .Or (a::b::rest) pos) (pj ma mb):=by
 obtain⟨ta,p,r⟩:=ha;obtain⟨tb,p',r'⟩:=hb;exact⟨_,λi=>Ee (p i) (p' i),zh r r'⟩
def Er(mv:List Nat)(h:QA C K es ms):QE C K (.List es pos) (aR mv ms):=by
 obtain⟨ta,p,_,r⟩:=h;exact⟨_,λi=>BM (p i),wt r⟩
def EC(mv:List Nat){x1:Nat}(h:QA C K es ms):QE C K (.Tuple es x1 pos) (ay mv ms):=by
 obtain⟨ta,p,_,r⟩:=h;exact⟨_,λi=>BP (p i),wz r⟩
def FW(ck:CK C P W K mg base k)(ha:QE C K a ma)(hb:QE C K b mb)(hs:qj b:=by exact λ_ _=>rfl):QE C K (.Subscript a b pos) (mIx ma mb):=by
 obtain⟨ta,p,r⟩:=ha;obtain⟨tb,p',r'⟩:=hb;exact⟨_,λi=>Ec (FR (ck.kk i)) (p i) (p' i) hs,CH r r'⟩
def yQ:QO C K none mNoPart:=⟨_,λ_=>yz,pQ⟩
def yR(h:QE C K e m):QO C K (some e) (eC m):=by
 obtain⟨ta,p,r⟩:=h;exact⟨_,λi=>mQ (p i),ww r⟩
def FY{lo hi:Option Expr}{ml mh:MO}{p2:Pos}(ck:CK C P W K mg base k)(ha:QE C K a ma)(hl:QO C K lo ml)(hh:QO C K hi mh):QE C K (.Subscript a (.Slice lo hi none p2) pos) (mSl ma ml mh):=by
 obtain⟨ta,p,r⟩:=ha;obtain⟨tl,p',r'⟩:=hl;obtain⟨th,p'',r''⟩:=hh;exact⟨_,λi=>nS (r:=rSl K) (by have:=F5 (X:=C i);rw[ck.kk i]at this;exact this) (p i) (p' i) (p'' i),CJ r r' r''⟩
def Ey{j:Nat}{p1 p2 p3:Pos}(ck:CK C P W K mg base k)(ha:QE C K a ma):QE C K (.Subscript a (.Slice none none (some (.UnaryOp .USub (.Constant (.int 1) j p1) p2)) p3) pos) (mUn wA ma):=by
 obtain⟨ta,p,r⟩:=ha;exact⟨_,λi=>F3 (ck.kk i) (p i),zk r⟩
def Em{x:Str}{p:Pos}{j:Nat}{ps:List Str}{run:List T->Option T}(ck:CK C P W K mg base k)(h:Has P W K mg base j x ps (spP K run))(ha:QA C K (e::es) ms)(hj:j<=k:=by first|decide|omega)(hg:∀i,Gl (C i) x:=by intro _;rfl)(hdb:(x==("__debug__" : Str))=false:=by decide):QE C K (.Call (.Name x p) (e::es) [] pos) (mB run ms):=by
 obtain⟨ta,q,n,r⟩:=ha;apply⟨_,λi=>vh (by rw[ck.prog i,ck.w i,ck.kk i,ck.mg i,ck.base i];exact h) ((ck.room i).mono hj) (hg i) (q i) n hdb,sW r⟩
def El(l:Nat){x:Str}{p:Pos}{j n0:Nat}{ps:List Str}{run:List T->Option (T×T)}(ck:CK C P W K mg base k)(h:Has P W K mg base j x ps (spI K n0 run))(ha:QA C K (e::es) ms)(hj:j<=k:=by first|decide|omega)(hg:∀i,Gl (C i) x:=by intro _;rfl)(hdb:(x==("__debug__" : Str))=false:=by decide):QE C K (.Call (.Name x p) (e::es) [] pos) (ak n0 l run ms):=by
 obtain⟨ta,q,n,r⟩:=ha;apply⟨_,λi=>vh (by rw[ck.prog i,ck.w i,ck.kk i,ck.mg i,ck.base i];exact h) ((ck.room i).mono hj) (hg i) (q i) n hdb,sV r⟩
abbrev lf(x:Str)(f:List T->Option T):Prop:=∃(id:String) (red:yF->List V->Hp->VK->Prop),MQ x=some (.builtin id)/\(∀X:Cx,X.calm=true->La X (.builtin id) (red X.K))/\∀K,eA K (red K) f
abbrev xn(x:Str)(f:List T->Option T):Prop:=∃(id:String) (red:yF->List V->Hp->VK->Prop),MQ x=some (.type id)/\(∀X:Cx,X.calm=true->La X (.type id) (red X.K))/\∀K,eA K (red K) f
def Ej{x:Str}{p:Pos}{f:List T->Option T}(ck:CK C P W K mg base k)(hb:lf x f)(hm:mg x=none)(ha:QA C K (e::es) ms)(hg:∀i,Gl (C i) x:=by intro _;rfl)(hx:x≠("__name__" : Str):=by decide)(hdb:(x==("__debug__" : Str))=false:=by decide):QE C K (.Call (.Name x p) (e::es) [] pos) (mB f ms):=by
 obtain⟨id,red,b1,b2,b3⟩:=hb;obtain⟨ta,q,n,r⟩:=ha;exact⟨_,λi=>sG (r:=red K) (by have:=b2 (C i) (ck.calm i);rw[ck.kk i]at this;exact this) (hg i) (by rw[ck.mg i];exact hm) b1 (q i) n hx hdb,n8 (b3 K) r⟩
def FZ{x:Str}{p:Pos}{f:List T->Option T}(ck:CK C P W K mg base k)(hb:xn x f)(hm:mg x=none)(ha:QA C K (e::es) ms)(hg:∀i,Gl (C i) x:=by intro _;rfl)(hx:x≠("__name__" : Str):=by decide)(hdb:(x==("__debug__" : Str))=false:=by decide):QE C K (.Call (.Name x p) (e::es) [] pos) (mB f ms):=by
 obtain⟨id,red,b1,b2,b3⟩:=hb;obtain⟨ta,q,n,r⟩:=ha;exact⟨_,λi=>hC (r:=red K) (by have:=b2 (C i) (ck.calm i);rw[ck.kk i]at this;exact this) (hg i) (by rw[ck.mg i];exact hm) b1 (q i) n hx hdb,n8 (b3 K) r⟩
def b_len:lf "len" cL:=⟨_,wa,PySem.boot_len,λ_ _=>rO,λ_=>vy⟩
def b_min:lf "min" pC:=⟨_,λ_=>_,KI,λ_ h=>rQ h,λ_=>vB⟩
def b_max:lf "max" pA:=⟨_,λ_=>_,KJ,λ_ h=>rP h,λ_=>vA⟩
def b_all:lf "all" rM:=⟨_,EH,KM,λ_ h=>uc h,λ_=>vp⟩
def b_int:xn "int" r8:=⟨_,λ_=>_,KN,λ_ _=>rN,λ_=>vt⟩
def b_tuple:xn "tuple" gq:=⟨_,wf,Jo,λ_ _=>kU,λ_=>vK⟩
def b_list:xn "list" uM:=⟨_,wb,KD,λ_ _=>md,λ_=>vz⟩
abbrev tZ(T0:String)(name:Str)(f:T->List T->Option T):Prop:=∃(id:String) (red:yF->V->List V->Hp->VK->Prop),Nz T0/\Slot T0 name id/\Pt (.builtin id)=pure (.type "method_descriptor")/\(∀X:Cx,MtR X id (red X.K))/\(∀K,qk K T0 (red K) f)/\∀K (H:Hp) (x:V) (tx:T) ts t,Rpx K H tx x->f tx ts=some t->tyV K T0 x H
abbrev lg(T0:String)(name:Str)(f:T->List T->Option (T×I)):Prop:=∃(id:String) (red:yF->V->List V->Hp->VK->Prop),Nz T0/\Slot T0 name id/\Pt (.builtin id)=pure (.type "method_descriptor")/\(∀X:Cx,MtR X id (red X.K))/\(∀K,du K (red K) f)/\∀K (H:Hp) (x:V) (tx:T) ts r,Rpx K H tx x->f tx ts=some r->tyV K T0 x H
def Ca{T0:String}{name:Str}{f:T->List T->Option T}{apos:Pos}{mo:ME}(ck:CK C P W K mg base k)(hm:tZ T0 name f)(ho:QE C K o mo)(ha:QA C K (e::es) ms)(hlen:decide ((e::es).length<30)=true:=by rfl)
  (hbase:∀i,MD o name (C i).env (eval o (C i).env)=eval o (C i).env:=by intro _;rfl) (hline:(apos.endLine==pos.line)=true:=by rfl):QE C K (.Call (.Attribute o name apos) (e::es) [] pos) (mM f mo ms):=by
 obtain⟨id,red,h1,h2,h3,h4,h5,h6⟩:=hm;obtain⟨to,q,r⟩:=ho;obtain⟨ta,q',n,r'⟩:=ha;exact⟨_,λi=>xq (r:=red K) (ck.kk i) h1 h2 h3 (by have:=h4 (C i);rw[ck.kk i]at this;exact this) (q i) (q' i) n hlen (hbase i) hline,Al (h5 K) (h6 K) r r'⟩
def Eu(l:Nat)(mv:List Nat){T0:String}{name:Str}{f:T->List T->Option (T×I)}{apos:Pos}{mo:ME}(ck:CK C P W K mg base k)(hm:lg T0 name f)(ho:QE C K o mo)(ha:QA C K (e::es) ms)(hlen:decide ((e::es).length<30)=true:=by rfl)
  (hbase:∀i,MD o name (C i).env (eval o (C i).env)=eval o (C i).env:=by intro _;rfl) (hline:(apos.endLine==pos.line)=true:=by rfl):QE C K (.Call (.Attribute o name apos) (e::es) [] pos) (b7 l mv f mo ms):=by
 obtain⟨id,red,h1,h2,h3,h4,h5,h6⟩:=hm;obtain⟨to,q,r⟩:=ho;obtain⟨ta,q',n,r'⟩:=ha;exact⟨_,λi=>xq (r:=red K) (ck.kk i) h1 h2 h3 (by have:=h4 (C i);rw[ck.kk i]at this;exact this) (q i) (q' i) n hlen (hbase i) hline,qT (h5 K) (h6 K) r r'⟩
def Cb(l:Nat){T0:String}{name:Str}{f:T->List T->Option (T×I)}{apos:Pos}{mo:ME}(ck:CK C P W K mg base k)(hm:lg T0 name f)(ho:QE C K o mo)
  (hbase:∀i,MD o name (C i).env (eval o (C i).env)=eval o (C i).env:=by intro _;rfl) (hline:(apos.endLine==pos.line)=true:=by rfl):QE C K (.Call (.Attribute o name apos) [] [] pos) (lE l f mo):=by
 obtain⟨id,red,h1,h2,h3,h4,h5,h6⟩:=hm;obtain⟨to,q,r⟩:=ho;exact⟨_,λi=>FD (r:=red K) (ck.kk i) h1 h2 h3 (by have:=h4 (C i);rw[ck.kk i]at this;exact this) (q i) (hbase i) hline,wu (h5 K) (h6 K) r⟩
def Bb:tZ "str" "join" ki:=⟨_,Af,PySem.F.plainAttrs_str,PySem.F.slot_str_join,PySem.F.type_str_join,λ_=>x8,λ_=>sO,λK H x tx ts t r e=>by
 unfold ki at e;split at e;rw[dh r];rfl;cases e⟩
def uO:lg "list" "append" apT:=⟨_,λ_=>mS,PySem.F.plainAttrs_list,PySem.F.slot_list_append,PySem.F.type_list_append,λ_=>sv,λ_=>nU,λK=>tO⟩
def uP:lg "list" "extend" j7:=⟨_,vX,PySem.F.plainAttrs_list,PySem.F.slot_list_extend,PySem.F.type_list_extend,λ_=>xZ,λ_=>nV,λK=>tP⟩
def DK:lg "list" "pop" nT:=⟨_,λ_=>Cy,PySem.F.plainAttrs_list,PySem.F.slot_list_pop,PySem.F.type_list_pop,λ_=>Bc,λ_=>vF,λK=>C2⟩
def uQ:lg "list" "insert" mD:=⟨_,λ_=>mT,PySem.F.plainAttrs_list,PySem.F.slot_list_insert,PySem.F.type_list_insert,λ_=>sw,λ_=>nW,λK=>tQ⟩
end
variable {ι : Type}{C:ι->Cx}{P:LR}{W:Mb}{K:yF}{mg:Str->Option LH}{base:Heap}{k:Nat}
section
variable {a b c e o tg iter:Expr}{es:List Expr}{ma mb mc m mo mi:ME}{ms:MA}{pos:Pos}{mt mt':MT}{s1 s2:MS}{g g':MG}{gs:MGs}{it it2:MI}{fr:Option (List (Option Nat))}
def yP(n:Nat){x:Str}(hN:∀i,(C i).N.Nodup)(hi:∀i,(C i).N[n]?=some x:=by intro _;rfl)(hx:∀i,Loc (C i).env.scope x:=by first|exact λ_=>P1 rfl|exact λ_=>OX rfl)(hf:∀i,(C i).fn x=true\/(C i).env.scope.names.lookup x=some .local:=by first|exact λ_=>.inl rfl|exact λ_=>.inr rfl)
  (hfr:∀f,fr=some f->f[n]?=some none:=by first|(intro f h;cases h;done)|(intro f h;cases h;rfl)):QG C K fr (.Name x pos) (ag n):=
 ⟨_,λi=>yu (hN i) (hi i) (hx i) (hf i),kI,λf hf'=>xE (hfr f hf')⟩
def qS:QGs C K fr 0 [] mGNil:=by unhygienic exact⟨_,λ_=>yv,wq,λ_ _=>AU,λrs O O' h=>by cases rs<;>first|rfl|cases h⟩
def ge{n:Nat}(h1:QG C K fr e g)(h2:QGs C K fr n es gs)(hs:∀i,(MJ (e::es) (C i).env).map (·.2)=Nb e (C i).env::(MJ es (C i).env).map (·.2):=by intro _;rfl):QGs C K fr (n+1) (e::es) (aW g gs):=by unhygienic
 obtain⟨g1,p1,r1,k1⟩:=h1;obtain⟨g2,p2,r2,k2,l2⟩:=h2;apply⟨_,λi=>vn (p1 i) (p2 i) (hs i),tf r1 r2,λf hf=>xD (k1 f hf) (k2 f hf),λrs O O' h=>?_⟩;cases rs with
 | nil=>cases h
 | cons r rs=>
  dsimp[aW]at h;split at h
  ·split at h;rw[Gp,l2 _ _ _ h];cases h
  ·cases h
def vT{n k0:Nat}(ck:CK C P W K mg base k)(h:QGs C K fr n es gs)(hn:∀i,(MJ es (C i).env).length=n:=by intro _;rfl)(hst:∀i,(MJ es (C i).env).findIdx? (·.1)=none:=by intro _;rfl):QG C K fr (.Tuple es k0 pos) (dr gs):=by
 obtain⟨g,p,r,kk,l⟩:=h;exact⟨_,λi=>tgK (ck.kk i) (ck.calm i) (p i) (hn i) (hst i),wr r l,λf hf=>AV (kk f hf)⟩
def Ce(j:Nat)(ho:QE C K o mo)(hi:QE C K e mi)
  (ha:∀i v,Nb (.Subscript o e pos) (C i).env v=(do
   let ov <-MU [v] (eval o (C i).env)
   let iv <-MU [v,ov] (eval e (C i).env)
   Nd pos
   MU [v,ov,iv] (OA ov iv v)
   QU [v,ov,iv] []):=by intro _ _;rfl):QG C K none (.Subscript o e pos) (pv j mo mi):=by
 obtain⟨to,p,r⟩:=ho;obtain⟨ti,p',r'⟩:=hi;exact⟨_,λi=>BQ (p i) (p' i) wK (ha i),zn r r',λf h=>by cases h⟩
def Ci:QSs C K [] mNext:=⟨_,λ_=>yG,wv⟩
def Cj{st:Stmt}(h1:QS C K st s1):QSs C K [st] s1:=by
 obtain⟨t,p,r⟩:=h1;exact⟨_,λi=>yH (p i),r⟩
def yT{st:Stmt}{rest:List Stmt}(h1:QS C K st s1)(h2:QSs C K rest s2):QSs C K (st::rest) (am s1 s2):=by
 obtain⟨t,p,r⟩:=h1;obtain⟨u,p',r'⟩:=h2;exact⟨_,λi=>vN (p i) (p' i),zl r r'⟩
def EF{b1 b2:List Stmt}(hc:QT C K c mt)(h1:QSs C K b1 s1)(h2:QSs C K b2 s2):QS C K (.If c b1 b2 pos) (mIf mt s1 s2):=by
 obtain⟨tc,p0,r0⟩:=hc;obtain⟨t,p,r⟩:=h1;obtain⟨u,p',r'⟩:=h2;exact⟨_,λi=>Eg (p0 i) (p i) (p' i),zd r0 r r'⟩
def Cm(h:QE C K e m):QS C K (.Return (some e) pos) (bd m):=by
 obtain⟨t,p,r⟩:=h;exact⟨_,λi=>BZ (p i),zj r⟩
def yU(h:QE C K e m)(hs:∀i,On e none pos.line (C i).env=pure false:=by intro _;rfl):QS C K (.Expr e pos) (be m):=by
 obtain⟨t,p,r⟩:=h;exact⟨_,λi=>yE (p i) (hs i),wp r⟩
def Cg(h:QE C K e m)(hg:QG C K none tg g)(hs:∀i,Oe [tg] e pos.line (C i).env=pure false:=by intro _;rfl)(hw:∀i,Of [tg] e (C i).env=pure none:=by intro _;rfl)
  (h1:∀i,(MJ [tg] (C i).env).map (·.2)=[Nb tg (C i).env]:=by intro _;rfl):QS C K (.Assign [tg] e pos) (aB m g):=by
 obtain⟨t,p,r⟩:=h;obtain⟨u,p',r',_⟩:=hg;exact⟨_,λi=>BV (p i) (p' i) (hs i) (hw i) (h1 i),mW r r'⟩
def Cn(n:Nat){x:Str}{pos':Pos}(hN:∀i,(C i).N.Nodup)(he:QE C K e m)(hi:∀i,(C i).N[n]?=some x:=by intro _;rfl)(hx:∀i,Loc (C i).env.scope x:=by first|exact λ_=>P1 rfl|exact λ_=>OX rfl)(hs:∀i,On e (some (.Name x pos')) pos.line (C i).env=pure false:=by intro _;rfl)(hf:∀i,(C i).fn x=true\/(C i).env.scope.names.lookup x=some .local:=by first|exact λ_=>.inl rfl|exact λ_=>.inr rfl) :
  QS C K (.Assign [.Name x pos'] e pos) (aB m (ag n)):=by
 obtain⟨t,p,r⟩:=he;exact⟨_,λi=>B1 (hN i) (hi i) (hx i) (p i) (hs i) (hf i),mW r kI⟩
abbrev xV(i j:Nat) (a:MA):MS:=⟨λO=>match a.run O with
 | some ([r1,r2],O1)=>if(e8 O1 i&&ax [i] r1&&ax [i] r2&&e8 O1 j&&ax [j] r2)=true then some (.nx,(ao [j] ((ao [i] O1).set i (some r1))).set j (some r2))else none
 | _=>none,a.mu++[i,j]⟩
def sA{O:Rho}{i j:Nat}{r:R}(h:e8 O j=true)(hr:∀n,r.k ≠ .io n):e8 ((ao [i] O).set i (some r)) j=true:=by
 unfold e8 at h|-;by_cases e:j=i
 ·subst e;have hl:j < O.length:=by
   cases q : O[j]? with
   | none=>rw[q]at h;cases h
   | some o=>exact(Gc.mp q).1
  rw[Hg (by rw[aP];exact hl)];obtain⟨k,t⟩:=r;cases k with
  | io n=>exact absurd rfl (hr n)
  | _=>rfl
 ·rw[GB (Mj e)];unfold ao;rw[Go];cases q : O[j]? with
  | none=>rw[q]at h;cases h
  | some o=>
   rw[q]at h;cases o with
   | none=>rfl
   | some x=>
    show(match some (cq [i] (some x))with|some (some ⟨.io _,_⟩)=>false|some _=>true|none=>false)=true;cases hk:cq [i] (some x)with
    | none=>rfl
    | some y=>
     obtain⟨e1,_⟩:=Li.mp hk;cases e1;exact h
abbrev kA(r:R):Bool:=match r.k with
 | .io _=>false
 | _=>true
def zi{i j:Nat}{ta:TA}{a:MA}(ha:gI K ta a)(hio:∀O rs O',a.run O=some (rs,O')->True):ee K (Fa i j ta) (xV i j ⟨λO=>match a.run O with
  | some (rs,O1)=>if rs.all kA=true then some (rs,O1)else none
  | none=>none,a.mu⟩):=by
 intro Γ H O Z E D f O' hK hE hr S q;dsimp[xV]at hr q;split at hr
 ·delta r1 r2 O1 e1;split at e1
  ·delta rs O2 e2;split at e1
   ·delta hall;cases e1;split at hr
    ·delta hb;cases hr;dsimp[Gd]at hb;obtain⟨⟨⟨⟨b1,b2⟩,b3⟩,b4⟩,b5⟩:=hb;apply ha Γ H O Z E _ _ _ hK e2 S λvs H1 hl S1=>?_;obtain⟨v,w,rfl⟩:∃v w,vs=[v,w]:=by
      cases vs with
      | nil=>cases hl
      | cons v r=>cases r with
       | nil=>cases hl
       | cons w r=>cases r with
        | nil=>exact⟨v,w,rfl⟩
        | cons _ _=>cases hl
     have S1:Sim Γ H1 O1 Z (⟨none,v,r1⟩::⟨none,w,r2⟩::ah a.mu E):=S1;apply⟨v,w,rfl,q _ H1 ?_⟩;have S2:=S1.put b1 (gU b2);rw[ar (bp b3)]at S2;have hr1:∀n,r1.k ≠ .io n:=λn z=>by
      have:=G9.mp hall r1 ymS;unfold kA at this;rw[z]at this;cases this
     have S3:=S2.put (sA b4 hr1) (gU b5);rw[ae,ae]at S3;have:a.mu++([i]++[j])=a.mu++[i,j]:=rfl;rw[<-Gx]at this;exact S3
    ·cases hr
   ·cases e1
  ·cases e1
 ·cases hr
private def lF(i j:Nat)(a:MA):MS:=xV i j ⟨λO=>match a.run O with
  | some (rs,O1)=>if rs.all kA=true then some (rs,O1)else none
  | none=>none,a.mu⟩
def Ck(i j:Nat){x y:Str}{px py pt:Pos}{kt k2 pt2}(ck:CK C P W K mg base k)(hN:∀i,(C i).N.Nodup)(ha:QA C K [a,b] ms)(hi:∀n,(C n).N[i]?=some x:=by intro _;rfl)(hj:∀n,(C n).N[j]?=some y:=by intro _;rfl)(hij:i≠j:=by decide)
  (hx:∀n,(C n).env.scope.names.lookup x=some .local:=by intro _;rfl) (hy:∀n,(C n).env.scope.names.lookup y=some .local:=by intro _;rfl)
  (hw:∀n,Of [.Tuple [.Name x px,.Name y py] kt pt] (.Tuple [a,b] k2 pt2) (C n).env=pure (some [x,y]):=by intro _;rfl)
  (hs:∀n,Oe [.Tuple [.Name x px,.Name y py] kt pt] (.Tuple [a,b] k2 pt2) pos.line (C n).env=pure false:=by intro _;rfl) :
  QS C K (.Assign [.Tuple [.Name x px,.Name y py] kt pt] (.Tuple [a,b] k2 pt2) pos) (lF i j ms):=by unhygienic
 obtain⟨ta,p,_,r⟩:=ha;exact⟨_,λn=>BY (ck.calm n) (hN n) (hi n) (hj n) hij (hx n) (hy n) (p n) (hw n) (hs n),zi r (λ_ _ _ _=>trivial)⟩
private def sr(i:Nat)(f:Int->Int->Int)(e:ME):MS:=⟨λO=>match O[i]? with
 | some (some ⟨_,.im (.int a)⟩)=>(match e.run O with
  | some (⟨_,.im (.int b)⟩,O1)=>if e8 O1 i=true then some (.nx,(ao [i] O1).set i (↥(.int (f a b))))else none
  | _=>none)
 | _=>none,e.mu++[i]⟩
def za{i:Nat}{f:Int->Int->Int}{te:TE}(he:aV K te m):ee K (EZ i te (ipI f)) (sr i f m):=by
 intro Γ H O Z E D fl O' hK hE hr S q;dsimp[sr]at hr q;split at hr
 ·delta k0 a0 e0;split at hr
  ·delta k1 b0 O1 e1;split at hr
   ·delta hn;cases hr;obtain⟨v,hv,hm⟩:=S.slot e0;obtain⟨F,rp⟩:=S.sl.rd hm;have ev:v=.int a0:=aO ⟨F,rp⟩;subst ev;apply⟨_,hv,he Γ H O Z E _ _ _ hK e1 S λy H1 S1=>?_⟩;have ey:y=.int b0:=aO (S1.rd ymS);subst ey;apply⟨a0,b0,rfl,rfl,q _ H1 ?_⟩;have S2:=((S1.drop rfl).imm (i:=.int (f a0 b0)) (v:=.int (f a0 b0)) (jL rfl)).put hn (by simp[Kd.root]);rw[ae]at S2;exact S2
   ·cases hr
  ·cases hr
 ·cases hr
def yS(n:Nat){x:Str}{pos':Pos}(hN:∀i,(C i).N.Nodup)(he:QE C K e m)(hi:∀i,(C i).N[n]?=some x:=by intro _;rfl)(hx:∀i,Loc (C i).env.scope x:=by first|exact λ_=>P1 rfl|exact λ_=>OX rfl)(hf:∀i,(C i).fn x=true\/(C i).env.scope.names.lookup x=some .local:=by first|exact λ_=>.inl rfl|exact λ_=>.inr rfl) :
  QS C K (.AugAssign (.Name x pos') .Add e pos) (sr n (· + ·) m):=by
 obtain⟨t,p,r⟩:=he;exact⟨_,λi=>BW (hN i) (hi i) (hx i) (p i) AY (hf i),za r⟩
def vU{body:List Stmt}(hp:∀i,Oo (LO (C i).prog (C i).w) (C i).A (C i).env (C i).xe)(hc:QT C K c mt)(hb:QSs C K body s1):QS C K (.While c body [] pos) (dL mt s1):=by
 obtain⟨tc,p,r⟩:=hc;obtain⟨tb,p',r'⟩:=hb;exact⟨_,λi=>vM (hp i) (p i) (p' i),tp r r'⟩
def Ch{body:List Stmt}(ck:CK C P W K mg base k)(hp:∀i,Oo (LO (C i).prog (C i).w) (C i).A (C i).env (C i).xe)(hi:QI C K tg iter it)(hg:QG C K none tg g)(hb:QSs C K body s1)(hs:∀i x,LY iter (C i).env x=pure x:=by intro _ _;rfl):QS C K (.For tg iter body [] pos) (bZ it g s1):=by
 obtain⟨wi,p,r⟩:=hi;obtain⟨tg',p1,r1,_⟩:=hg;obtain⟨tb,p',r'⟩:=hb;exact⟨_,λi=>BX (hp i) (ck.calm i) (p i) (p1 i) (p' i) (hs i),zc r r1 r'⟩
def sT{p:Pos}(ck:CK C P W K mg base k)(T:Bi mg)(ha:QA C K [a] ms)(hg:∀i,Gl (C i) "range" :=by intro _;rfl)(hs:fq a=false:=by rfl):QI C K tg (.Call (.Name "range" p) [a] [] pos) (bc ms):=by
 obtain⟨ta,q,_,r⟩:=ha;exact⟨_,λi=>sI (hg i) (by rw[ck.mg i];exact T.b_range) (q i) (by rw[bi hs];rfl),wx r⟩
def sU{p:Pos}(ck:CK C P W K mg base k)(T:Bi mg)(ha:QA C K [a,b] ms)(hg:∀i,Gl (C i) "range" :=by intro _;rfl)(hs:fq a=false:=by rfl)(hs2:fq b=false:=by rfl):QI C K tg (.Call (.Name "range" p) [a,b] [] pos) (fL ms):=by
 obtain⟨ta,q,_,r⟩:=ha;exact⟨_,λi=>sJ (hg i) (by rw[ck.mg i];exact T.b_range) (q i) (by rw[bi hs,bi hs2];rfl) (by rw[bi hs2];rfl),wy r⟩
def PI.or{X:Cx}{w1 w2:TI}(h1:PI X tg iter w1)(h2:PI X tg iter w2):PI X tg iter (λZ H R=>w1 Z H R\/w2 Z H R):=by
 intro Uq s Z H R I h;rcases h with h|h;exact h1 Uq s Z H R I h;exact h2 Uq s Z H R I h
abbrev eM:R->Option (List R)
 | ⟨_,.li is⟩=>some (is.map λi=>⟨.ow,.im i⟩)
 | ⟨.vw ro _,.lst ts⟩=>some (ts.map (partV ro))
 | ⟨_,.im (.tup is)⟩=>some (is.map λi=>⟨.ow,.im i⟩)
 | ⟨_,.im (.str z)⟩=>some ((sL z).map λc=>⟨.ow,.im (.str ⟨#[c]⟩)⟩)
 | ⟨_,.im (.ls is)⟩=>some (is.map λi=>⟨.ow,.im i⟩)
 | _=>none
private def mIt(a:ME):MI:=⟨λO=>match a.run O with
 | some (r,O1)=>(match eM r with
  | some rs=>some (([r],rs),O1)
  | none=>none)
 | none=>none,a.mu⟩
def zI{Γ:Gm}{z:Str}{v:V}{src:R}:gT Γ (Its z) [v] [src] ((sL z).map λc=>⟨.ow,.im (.str ⟨#[c]⟩)⟩):=λH O Z E S=>by
 apply⟨λi hi=>?_,λi r hr=>?_⟩
 ·show z.cps.size<=i;simpa[sL]using hi
 ·obtain⟨c,hc,rfl⟩:=aC hr;have hc':z.cps[i]?=some c:=by simpa[sL]using hc
  apply⟨?_,λx H' y=>?_⟩
  ·show i<z.cps.size;exact(IX.mp hc').1
  ·obtain⟨rfl,c',h1,rfl⟩:=y;rw[hc']at h1;cases h1;exact S.imm (jL rfl)
def CG{ta:TE}(ha:aV K ta m):jX K (λZ H R=>qF K ta Z H R\/(xF K ta Z H R\/DA ta Z H R)) (mIt m):=by unhygienic
 intro Γ H O Z E Rr src items O' hK hr S q;dsimp[mIt]at hr;split at hr
 ·delta r O1 e1;split at hr
  ·delta rs e2;cases hr;unfold eM at e2;split at e2
   ·delta k0 is;exact .inl (mX ha Γ H O Z E Rr _ items O' hK (by dsimp[uN,e1,g6];cases e2;rfl) S q)
   ·exact .inl (mX ha Γ H O Z E Rr _ items O' hK (by dsimp[uN,e1,g6];cases e2;rfl) S q)
   ·exact .inr (.inl (ze ha Γ H O Z E Rr _ items O' hK (by dsimp[Ba,e1,kh];cases e2;rfl) S q))
   ·delta k0 z;cases e2;right;right;apply ha Γ H O Z E _ _ _ hK e1 S λx H1 S1=>?_;exact⟨z,dh (S1.rd ymS),q Γ rfl (λ_ _ _ _ S=>S) _ [x] H1 rfl S1 zI⟩
   ·exact .inl (mX ha Γ H O Z E Rr _ items O' hK (by dsimp[uN,e1,g6];cases e2;rfl) S q)
   ·cases e2
  ·cases hr
 ·cases hr
def Cf(ck:CK C P W K mg base k)(ha:QE C K iter m):QI C K tg iter (mIt m):=by
 obtain⟨ta,q,r⟩:=ha;exact⟨_,λi=>PI.or (ilK (ck.kk i) (q i)) (PI.or (itK (ck.kk i) (q i)) (yy (q i))),CG r⟩
private def mYes:MT:=⟨λO=>some (true,O),[]⟩
def zq:ef K Ff mYes:=by unhygienic
 intro Γ H O Z E Q b O' hK hr S q;cases hr;exact q H (by rw[show mYes.mu=[]from rfl,cf];exact S)
def yW:QTs C K [] mYes:=⟨_,λ_=>yJ,zq⟩
def yX(h:QT C K c mt):QTs C K [c] mt:=by
 obtain⟨t,p,r⟩:=h;exact⟨_,λi=>yK (p i),r⟩
section
variable {elt tg2 iter2:Expr}{ifs:List Expr}{scope:ML}
def bv{N':List Str}{f:List (Option Nat)}(ck:CK C P W K mg base k)(hB:∀i,Blk (C i).env.scope scope (C i).N N' f)(hi:QI C K tg iter it)(hg:QG (gJ C scope N') K (some f) tg g)(ht:QTs (gJ C scope N') K ifs mt)(he:QE (gJ C scope N') K elt m)(hs:∀i x,LY iter (C i).env x=pure x:=by intro _ _;rfl) :
  QE C K (.ListComp elt [⟨tg,iter,ifs,0⟩] scope pos) (aU f it g mt m):=by
 obtain⟨wi,p0,r0⟩:=hi;obtain⟨gg,p1,r1,kk⟩:=hg;obtain⟨tt,p2,r2⟩:=ht;obtain⟨te,p3,r3⟩:=he;exact⟨_,λi=>yp (ck.calm i) (hB i) (p0 i) (λb=>p1 (i,b)) (kk f rfl) (λb=>p2 (i,b)) (λb=>p3 (i,b)) (hs i),n9 r0 (kk f rfl) r1 r2 r3⟩
def cQ(n:Nat){x:Str}{pos' spos:Pos}{N':List Str}{f:List (Option Nat)}(ck:CK C P W K mg base k)(hN:∀i,(C i).N.Nodup)(hB:∀i,Blk (C i).env.scope scope (C i).N N' f)(hi:QI C K tg iter it)(hg:QG (gJ C scope N') K (some f) tg g)(ht:QTs (gJ C scope N') K ifs mt)(he:QE (gJ C scope N') K elt m)(hn:∀i,(C i).N[n]?=some x:=by intro _;rfl)(hx:∀i,(C i).env.scope.names.lookup x=some .local:=by intro _;rfl)
  (hsw:∀i,On (.ListComp elt [⟨tg,iter,ifs,0⟩] scope pos) (some (.Name x pos')) spos.line (C i).env=pure true:=by intro _;rfl) (hs:∀i x,LY iter (C i).env x=pure x:=by intro _ _;rfl) :
  QS C K (.Assign [.Name x pos'] (.ListComp elt [⟨tg,iter,ifs,0⟩] scope pos) spos) (aB (aU f it g mt m) (ag n)):=by
 obtain⟨wi,p0,r0⟩:=hi;obtain⟨gg,p1,r1,kk⟩:=hg;obtain⟨tt,p2,r2⟩:=ht;obtain⟨te,p3,r3⟩:=he;exact⟨_,λi=>pM (ck.calm i) (hN i) (hn i) (hx i) (hB i) (p0 i) (λb=>p1 (i,b)) (kk f rfl) (λb=>p2 (i,b)) (λb=>p3 (i,b)) (hsw i) (hs i),mW (n9 r0 (kk f rfl) r1 r2 r3) kI⟩
def yM{N':List Str}{f f2:List (Option Nat)}(ck:CK C P W K mg base k)(hB:∀i,Blk (C i).env.scope scope (C i).N N' f)(hsub:oG f f2=true)(hi:QI C K tg iter it)(hg:QG (gJ C scope N') K (some f) tg g)(hi2:QI (gJ C scope N') K tg2 iter2 it2)(hg2:QG (gJ C scope N') K (some f2) tg2 g')(ht:QTs (gJ C scope N') K ifs mt)(he:QE (gJ C scope N') K elt m)(hs:∀i x,LY iter (C i).env x=pure x:=by intro _ _;rfl)(hs2:∀i b x,LY iter2 (cxB (C i) scope N' b).env x=pure x:=by intro _ _ _;rfl) :
  QE C K (.ListComp elt [⟨tg,iter,[],0⟩,⟨tg2,iter2,ifs,0⟩] scope pos) (ji f f2 it g it2 g' mt m):=by
 obtain⟨wi,p0,r0⟩:=hi;obtain⟨gg,p1,r1,kk⟩:=hg;obtain⟨wi2,p4,r4⟩:=hi2;obtain⟨gg2,p5,r5,kk2⟩:=hg2;obtain⟨tt,p2,r2⟩:=ht;obtain⟨te,p3,r3⟩:=he;exact⟨_,λi=>vf (ck.calm i) (hB i) hsub (p0 i) (λb=>p1 (i,b)) (kk f rfl) (λb=>p4 (i,b)) (λb=>p5 (i,b)) (kk2 f2 rfl) (λb=>p2 (i,b)) (λb=>p3 (i,b)) (hs i) (hs2 i),sX r0 (kk f rfl) r1 r4 (kk2 f2 rfl) r5 r2 r3⟩
end
end
structure DI(k:Nat)(name:Str)(st:Stmt) where
 f:Addr
 cdv:LH
 A:LX
 outer:List Env
 s:LI
 H:Hp
 E:XK
 hr:Lb k (A.deeper (NG name (ai st) s.heap.objs.size f cdv))
noncomputable abbrev dC(P:LR) (W:Mb) (K:yF) (mg:Str->Option LH) (base:Heap) (k:Nat) (N:List Str) (name:Str) (st:Stmt):DI k name st->Cx:=λd=>(kX CX0 P W K mg base N name (ai st) d.f d.cdv d.A d.outer d.s d.H d.E).nox
def o3{N:List Str}{name:Str}{st:Stmt}:CK (dC P W K mg base k N name st) P W K mg base k:=
 ⟨λ_=>rfl,λ_=>rfl,λ_=>rfl,λ_=>rfl,λ_=>rfl,λ_=>rfl,λd=>d.hr⟩
def Def.qp{name:Str}{st:Stmt}{N ps:List Str}(d:Def K mg name st ps)(S:KU N ps (ai st)){m:MS}(h:QSs (dC P W K mg base k N name st) K (bA st) m)
  {run:List T->Option T} (hrun:∀ts,run ts=if ts.length=ps.length then cT m N.length ts else none):Has P W K mg base (k+1) name ps (spP K run):=by
 obtain⟨t,p,r⟩:=h;exact d.mp S (λf cdv A outer s H E hr=>⟨t,p ⟨f,cdv,A,outer,s,H,E,hr⟩,r⟩) hrun
def Def.qi{name:Str}{st:Stmt}{N ps:List Str}{j:Nat}(d:Def K mg name st ps)(S:KU N ps (ai st)){m:MS}(h:QSs (dC P W K mg base k N name st) K (bA st) m)
  {run:List T->Option (T×T)} (hrun:∀ts,run ts=if ts.length=ps.length then fS m j N.length ts else none):Has P W K mg base (k+1) name ps (spI K j run):=by
 obtain⟨t,p,r⟩:=h;exact d.mi S (λf cdv A outer s H E hr=>⟨t,p ⟨f,cdv,A,outer,s,H,E,hr⟩,r⟩) hrun
section
variable {Γ:Gm}{H H':Hp}{L:List Hd}{O:Rho}{Z:St}{E X:List En}{v w x y:V}{t s:T}{K:yF}{Q:VK}
private def mCallT(k:Nat)(run:List T->Option (T×T))(a:MA):ME:=⟨λO=>match a.run O with
 | some (rs,O1)=>(match rs[k]? with
  | ⇑_=>(match run (rs.map (·.t))with
   | some (t,_)=>some (⟨.ow,t⟩,O1)
   | none=>none)
  | _=>none)
 | none=>none,a.mu⟩
private def g9(j:Nat)(o:ME)(lo hi:ME):MG:=⟨λr O=>match r with
 | ⟨.ow,.li ys⟩=>match o.run O with
  | some (⟨.vw (some j') (some p),.li xs⟩,O1)=>match lo.run O1 with
   | some (⟨_,.im (.int a)⟩,O2)=>match hi.run O2 with
    | some (⟨_,.im (.int c)⟩,O3)=>if(decide (j'=j) && !(lo.mu++hi.mu).contains j&&decide (0<=a/\a<=c/\c<=xs.length/\xs.length+ys.length<=sizeLine))=true then(match O3[j]? with
     | some (some ⟨k,t⟩)=>if k.isOw=true then some ((ao [j] O3).set j (some ⟨k,t.put p (.li (xs.take a.toNat++ys++xs.drop c.toNat))⟩))else none
     | _=>none)else none
    | _=>none
   | _=>none
  | _=>none
 | _=>none,(o.mu++(lo.mu++hi.mu))++[j]⟩
def tm{to tl th:TE}{o lo hi:ME}{j:Nat}(ho:aV K to o)(hl:aV K tl lo)(hh:aV K th hi):ir K (uq to (rE tl) (rE th)) (g9 j o lo hi):=by
 intro Γ H O Z E Q v r O' hK hr S q;dsimp[g9]at hr q;split at hr
 ·delta ys;split at hr
  ·delta j' p xs O1 e1;split at hr
   ·delta k1 a O2 e2;split at hr
    ·delta k2 c O3 e3;split at hr
     ·delta hc;rw[Gd,Gd,decide_eq_true_eq,GJ,decide_eq_true_eq]at hc;obtain⟨⟨rfl,hmv⟩,hz⟩:=hc;split at hr
      ·delta k t e4;split at hr
       ·delta hw;cases hr;apply ho Γ H O Z _ _ _ _ hK e1 S λx H1 S1=>?_;apply hl Γ H1 O1 Z _ _ _ _ hK e2 S1 λya H2 S2=>?_;apply⟨a,aO (S2.rd ymS),?_⟩;apply hh Γ H2 O2 Z _ _ _ _ hK e3 (S2.drop rfl) λyc H3 S3=>?_;apply⟨c,aO (S3.rd ymS),?_⟩;have S4:=S3.drop rfl;have k1':aE (lo.mu++hi.mu) ⟨none,x,⟨.vw (some j') (some p),.li xs⟩⟩=true:=by unfold aE;dsimp[Kd.root];rw[hmv];rfl
        have k2':∀M:List Nat,aE M ⟨none,v,⟨.ow,.li ys⟩⟩=true:=λM=>rfl;rw[ae,ar k1',ae,ar (k2' _)]at S4;obtain⟨G,F,h1,h2,h3,h4,h5⟩:=Sim.mut (vs:=[v]) (ts:=[.li ys]) (S4.perm (List.Perm.swap _ _ _)) rfl e4 hw;obtain⟨p0,xs',rfl,g1,g2,rfl⟩:=jF h1 λa ha=>h4 a (yaL _ ha);obtain⟨z,ez,g3⟩:=tu h2;cases ez;obtain⟨b0,ys',rfl,g4,g5,rfl⟩:=jF g3 λa ha=>h4 a (yaR _ ha);have hne:p0≠b0:=λz=>by
         have:=h3;rw[z]at this;simp at this
        apply⟨p0,b0,xs',ys',a,c,rfl,rfl,rfl,rfl,g1,g4,hne,hz.1,hz.2.1,by rw[g2.length];exact hz.2.2.1,by rw[g2.length,g5.length];exact hz.2.2.2,?_⟩;apply gt (Q:=λ_ H'=>Q Z H') (F:=[b0]) (v:=.non) (i:=.non) g1 (((g2.take _).append g5).append (g2.drop _)) bW λv' H' G' a1 a2 a3 a4 a5 _=>q Z H' ?_;have:=h5 H' _ G' a1 a2 a3 a4 a5;rw[ae]at this;exact this
       ·cases hr
      ·cases hr
     ·cases hr
    ·cases hr
   ·cases hr
  ·cases hr
 ·cases hr
abbrev mL:MS:=⟨λ_=>none,[]⟩
def tj{t:TS}:ee K t mL:=by
 intro Γ H O Z E D f O' hK hE hr S q;cases hr
end
variable {ι : Type}{C:ι->Cx}{P:LR}{W:Mb}{K:yF}{mg:Str->Option LH}{base:Heap}{k:Nat}
section
variable {Γ:Gm}{H H':Hp}{O:Rho}{Z:St}{E:List En}{v w x y:V}{t s:T}{K:yF}{Q:VK}
private def aa(n:Nat)(ms:MA):MA:=⟨λO=>match ms.run O with
 | some (rs,O2)=>(match O2[n]? with
  | some (some r)=>(match O[n]? with
   | some (some _)=>some (rdR n r::rs,O2)
   | _=>none)
  | _=>none)
 | none=>none,ms.mu⟩
def sY{n:Nat}{ta:TA}{ms:MA}(h2:gI K ta ms):gI K (rB (CV n) ta) (aa n ms):=by unhygienic
 intro Γ H O Z E Q rs O' hK hr S q;dsimp[aa]at hr;split at hr
 ·delta rs1 O2 e2;split at hr
  ·delta r e3;split at hr
   ·delta r0 e4;cases hr;obtain⟨v,hv,_⟩:=S.var e4;apply⟨v,hv,?_⟩;apply h2 Γ H O Z E _ rs1 _ hK e2 S λvs H2 hl S2=>q (v::vs) H2 (by rw[Gp,Gp,hl]) ?_;obtain⟨v',hv',S3⟩:=S2.var e3;rw[hv]at hv';cases hv';exact S3
   ·cases hr
  ·cases hr
 ·cases hr
end
variable {ι : Type}{C:ι->Cx}{P:LR}{W:Mb}{K:yF}{mg:Str->Option LH}{base:Heap}{k:Nat}
section
variable {a b c e o tg iter:Expr}{es:List Expr}{ma mb mc m mo mi ml mh:ME}{ms:MA}{pos:Pos}{mt mt':MT}{s1 s2:MS}{g g':MG}{gs:MGs}{it it2:MI}{fr:Option (List (Option Nat))}
def vR(n:Nat){x:Str}{p:Pos}(h2:QA C K es ms)(hN:∀i,(C i).N[n]?=some x:=by intro _;rfl)(hv:∀i,Vis (C i).env.scope x:=by first|exact λ_=>P1 rfl|exact λ_=>OX (P1 rfl)|exact λ_=>OX (OX rfl))(hd:(x==("__debug__" : Str))=false:=by decide)(hcd:(x==("__classdict__" : Str))=false:=by decide):QA C K (.Name x p::es) (aa n ms):=by
 obtain⟨ta,c,n',d⟩:=h2;exact⟨_,λi=>kD (vk (hN i) (hv i) hd hcd) (c i) rfl,by rw[bg,n'];rfl,sY d⟩
def vS(j:Nat){lo hi:Expr}{p2:Pos}(ho:QE C K o mo)(hl:QE C K lo ml)(hh:QE C K hi mh)
  (ha:∀i v,Nb (.Subscript o (.Slice (some lo) (some hi) none p2) pos) (C i).env v=(do
   let ov <-MU [v] (eval o (C i).env)
   let iv <-MU [v,ov] (eval (.Slice (some lo) (some hi) none p2) (C i).env)
   Nd pos
   MU [v,ov,iv] (OA ov iv v)
   QU [iv,v,ov] []):=by intro _ _;rfl):QG C K none (.Subscript o (.Slice (some lo) (some hi) none p2) pos) (g9 j mo ml mh):=by
 obtain⟨to,p,r⟩:=ho;obtain⟨tl,p',r'⟩:=hl;obtain⟨th,p'',r''⟩:=hh;exact⟨_,λi=>vm (p i) (mQ (p' i)) (mQ (p'' i)) (ha i),tm r r' r'',λf h=>by cases h⟩
def lM{st:List Stmt}:QSs C K st mL:=⟨λ_ _ _=>False,λ_ _ _ _ _ _ _ h=>h.elim,tj⟩
end
variable {ι : Type}{C:ι->Cx}{P:LR}{W:Mb}{K:yF}{mg:Str->Option LH}{base:Heap}{k:Nat}
section
variable {Γ:Gm}{H:Hp}{O:Rho}{Z:St}{E:List En}
abbrev fgt(i:Nat) (O:Rho):Rho:=(ao [i] O).set i none
def Sim.fgt(S:Sim Γ H O Z E)(i:Nat):Sim Γ H (L2.fgt i O) Z (ah [i] E):=by
 have S1:=S.kill [i];unfold L2.fgt;cases h:(ao [i] O)[i]? with
 | none=>rw[List.set_eq_of_length_le (by exists h)];exact S1
 | some o=>
  cases o with
  | none=>
   have:(ao [i] O).set i none=ao [i] O:=by
    apply HP;intro j;by_cases e:i=j
    ·subst e;have hl:=(Gc.mp h).1;rw[Hg hl,h]
    ·rw[GB e]
   rw[this];exact S1
  | some r=>
   obtain⟨v,hv⟩:=S1.al i r h;have p:=bB (k:=0) hv h;have SL:KY Γ H (⟨some (0+i),v,r⟩::(ah [i] E++aD 0 Z ((ao [i] O).set i none))):=S1.sl.perm ((List.Perm.append_left _ p).trans GQ);obtain⟨L,g,e⟩:=SL;obtain⟨x,L',rfl,ex,eL⟩:=aN e;have hno:∀y∈ah [i] E++aD 0 Z (ao [i] O),y.r.k.root≠some i:=by
    rw[eV,<-az];exact kz ∅
   apply⟨⟨L',g.dropK λy hy j hj hr=>?_,eL⟩,λm r' hm=>?_,by rw[Iq];exact S1.len,λy hy j hj=>by rw[Iq];exact S1.hi y hy j hj⟩
   ·rw[ex]at hj;have:j=i:=by exists hj.symm
    subst this;have:y.e∈L'.map (·.e):=Gn.mpr ⟨y,hy,rfl⟩;rw[eL]at this;have hp:=(List.Perm.append_left (ah [j] E) p).trans GQ;exact hno y.e (hp.mem_iff.mpr (ymC _ this)) hr
   ·by_cases e:i=m
    ·subst e;rw[Hg (Gc.mp h).1]at hm;cases hm
    ·rw[GB e]at hm;exact S1.al m r' hm
abbrev fgts:List Nat->Rho->Rho
 | [],O=>O
 | i::ks,O=>fgts ks (fgt i O)
def Sim.fgts:∀{ks:List Nat} {O:Rho} {E:List En},Sim Γ H O Z E->Sim Γ H (L2.fgts ks O) Z (ah ks E)
 | [],O,E,S=>by rw[cf];exact S
 | i::ks,O,E,S=>by
  have:=Sim.fgts (ks:=ks) (S.fgt i);rw[ae]at this;exact this
private def bU(ks:List Nat)(s:MS):MS:=⟨λO=>match s.run O with
 | some (.nx,O1)=>some (.nx,fgts ks O1)
 | some (.ct,O1)=>some (.ct,fgts ks O1)
 | some (.rt t,O1)=>some (.rt t,O1)
 | some (.bk,O1)=>some (.bk,O1)
 | none=>none,s.mu++ks⟩
def zb{ks:List Nat}{ts:TS}{s:MS}(h:ee K ts s):ee K ts (bU ks s):=by
 intro Γ H O Z E D f O' hK hE hr S q;dsimp[bU]at hr q;split at hr
 ·delta O1 e1;cases hr;exact h Γ H O Z E D _ _ hK hE e1 S λZ' H' S'=>q Z' H' (by rw[<-ae];exact S'.fgts)
 ·delta O1 e1;cases hr;exact h Γ H O Z E D _ _ hK hE e1 S λZ' H' S'=>q Z' H' (by rw[<-ae];exact S'.fgts)
 ·delta t O1 e1;cases hr;exact h Γ H O Z E D _ _ hK hE e1 S q.weak
 ·delta O1 e1;cases hr;exact h Γ H O Z E D _ _ hK hE e1 S q.weak
 ·cases hr
def yV(ks:List Nat){st:List Stmt}{s:MS}(h:QSs C K st s):QSs C K st (bU ks s):=by
 obtain⟨t,p,r⟩:=h;exact⟨t,p,zb r⟩
end
structure W1{α:Type}(o:Option α)(Q : α->Prop):Prop where
 ex:∃x,o=some x/\Q x
structure W2{α β:Type}(o:Option (α × β))(Q : α->β->Prop):Prop where
 ex:∃x y,o=some (x,y)/\Q x y
structure WE(m:ME)(O:Rho)(Q:R->Rho->Prop):Prop where
 ex:∃x y,m.run O=some (x,y)/\Q x y
structure WT(m:MT)(O:Rho)(Q:Bool->Rho->Prop):Prop where
 ex:∃x y,m.run O=some (x,y)/\Q x y
structure WA(m:MA)(O:Rho)(Q:List R->Rho->Prop):Prop where
 ex:∃x y,m.run O=some (x,y)/\Q x y
structure WS(m:MS)(O:Rho)(Q:Fl->Rho->Prop):Prop where
 ex:∃x y,m.run O=some (x,y)/\Q x y
structure WG(m:MG)(r:R)(O:Rho)(Q:Rho->Prop):Prop where
 ex:∃x,m.run r O=some x/\Q x
structure WGs(m:MGs)(rs:List R)(O:Rho)(Q:Rho->Prop):Prop where
 ex:∃x,m.run rs O=some x/\Q x
structure WI(m:MI)(O:Rho)(Q:List R->List R->Rho->Prop):Prop where
 ex:∃r rs O',m.run O=some ((r,rs),O')/\Q r rs O'
structure WO(m:MO)(O:Rho)(Q:Option Int->Rho->Prop):Prop where
 ex:∃x y,m.run O=some (x,y)/\Q x y
structure Gu(b:Bool)(P:Prop):Prop where
 ex:b=true/\P
structure IsB(t:T)(Q:Bool->Prop):Prop where
 ex:∃b,t=.im (.bl b)/\Q b
structure IsN(t:T)(Q:Int->Prop):Prop where
 ex:∃n,t=.im (.int n)/\Q n
structure AtV(n:Nat)(O:Rho)(Q:R->Prop):Prop where
 ex:∃r,O[n]?=some (some r)/\Q r
structure AtC(k j:Nat)(rs:List R)(O:Rho)(Q:List Ac->Kd->T->Prop):Prop where
 ex:∃p t1 kd t0,rs[k]?=some ⟨.vw (some j) (some p),t1⟩/\((Gz rs.length).all λm=>decide (m=k)||ax [j] (rs.getD m ⟨.ow,.im .non⟩))=true/\O[j]?=some (some ⟨kd,t0⟩)/\kd.isOw=true/\Q p kd t0
structure AtT(k:Nat)(rs:List R)(P:Prop):Prop where
 ex:∃t1,rs[k]?=⇑t1/\P
structure AtM(l:Nat)(O:Rho)(Q:Kd->T->Prop):Prop where
 ex:∃k t,O[l]?=some (some ⟨k,t⟩)/\k.isOw=true/\Q k t
structure AtS(j:Nat)(r:R)(Q:List Ac->T->Prop):Prop where
 ex:∃p s,r=⟨.vw (some j) (some p),s⟩/\Q p s
structure Two(rs:List R)(Q:R->R->Prop):Prop where
 ex:∃r1 r2,rs=[r1,r2]/\Q r1 r2
structure Three(rs:List R)(Q:R->R->R->Prop):Prop where
 ex:∃r1 r2 r3,rs=[r1,r2,r3]/\Q r1 r2 r3
structure Lz(rs:List R)(Q:Int->Prop):Prop where
 ex:∃n,rs.map (·.t)=[.im (.int n)]/\Q n
structure LF(rs:List R)(Q:Int->Int->Prop):Prop where
 ex:∃m n,rs.map (·.t)=[.im (.int m),.im (.int n)]/\Q m n
def FP{b:Bool}{Q:Bool->Prop}(q:Q b):IsB (.im (.bl b)) Q:=⟨b,rfl,q⟩
def FQ{n:Int}{Q:Int->Prop}(q:Q n):IsN (.im (.int n)) Q:=⟨n,rfl,q⟩
def oX{n:Nat}{O:Rho}{r:R}{Q:R->Prop}(h : O[n]?=some (some r))(q:Q r):AtV n O Q:=⟨r,h,q⟩
def AD{k j:Nat}{rs:List R}{O:Rho}{p:List Ac}{t1 t0:T}{kd:Kd}{Q:List Ac->Kd->T->Prop}(h1:rs[k]?=some ⟨.vw (some j) (some p),t1⟩)(h2:((Gz rs.length).all λm=>decide (m=k)||ax [j] (rs.getD m ⟨.ow,.im .non⟩))=true)(h3 : O[j]?=some (some ⟨kd,t0⟩))(h4:kd.isOw=true)(q:Q p kd t0):AtC k j rs O Q:=⟨p,t1,kd,t0,h1,h2,h3,h4,q⟩
def AE{l:Nat}{O:Rho}{k:Kd}{t:T}{Q:Kd->T->Prop}(h : O[l]?=some (some ⟨k,t⟩))(ho:k.isOw=true)(q:Q k t):AtM l O Q:=⟨k,t,h,ho,q⟩
def FC{j:Nat}{p:List Ac}{s:T}{Q:List Ac->T->Prop}(q:Q p s):AtS j ⟨.vw (some j) (some p),s⟩ Q:=⟨p,s,rfl,q⟩
def CZ{r1 r2:R}{Q:R->R->Prop}(q:Q r1 r2):Two [r1,r2] Q:=⟨r1,r2,rfl,q⟩
def qG{rs:List R}{n:Int}{Q:Int->Prop}(h:rs.map (·.t)=[.im (.int n)])(q:Q n):Lz rs Q:=⟨n,h,q⟩
def xH{rs:List R}{m n:Int}{Q:Int->Int->Prop}(h:rs.map (·.t)=[.im (.int m),.im (.int n)])(q:Q m n):LF rs Q:=⟨m,n,h,q⟩
section
variable {α β:Type}{O:Rho}{a b c m:ME}{ms:MA}{ct ct':MT}{s1 s2:MS}{g:MG}{gs:MGs}{it:MI}{QE':R->Rho->Prop}{QT':Bool->Rho->Prop}{QA':List R->Rho->Prop}{Q:Fl->Rho->Prop}{QG':Rho->Prop}{P:Prop}{o:Option α}{x : α}{Q1 : α->Prop}
def W2.mono{o:Option (α × β)}{Q1 Q2 : α->β->Prop}(h:W2 o Q1)(k:∀x y,Q1 x y->Q2 x y):W2 o Q2:=by obtain⟨x,y,e,q⟩:=h;exact⟨x,y,e,k x y q⟩
def w1(h:o=some x)(q:Q1 x):W1 o Q1:=⟨x,h,q⟩
def gu{b:Bool}(h:b=true)(p:P):Gu b P:=⟨h,p⟩
def WS.mono{Q2:Fl->Rho->Prop}(h:WS s1 O Q)(k:∀f O,Q f O->Q2 f O):WS s1 O Q2:=by obtain⟨x,y,e,q⟩:=h;exact⟨x,y,e,k x y q⟩
def WG.mono{r:R}{Q1 Q2:Rho->Prop}(h:WG g r O Q1)(k:∀O,Q1 O->Q2 O):WG g r O Q2:=by obtain⟨x,e,q⟩:=h;exact⟨x,e,k x q⟩
def WA.mono{Q1 Q2:List R->Rho->Prop}(h:WA ms O Q1)(k:∀rs O,Q1 rs O->Q2 rs O):WA ms O Q2:=by obtain⟨x,y,e,q⟩:=h;exact⟨x,y,e,k x y q⟩
def WT.mono{Q1 Q2:Bool->Rho->Prop}(h:WT ct O Q1)(k:∀b O,Q1 b O->Q2 b O):WT ct O Q2:=by obtain⟨x,y,e,q⟩:=h;exact⟨x,y,e,k x y q⟩
def WE.mono{Q2:R->Rho->Prop}(h:WE m O QE')(k:∀f O,QE' f O->Q2 f O):WE m O Q2:=by obtain⟨x,y,e,q⟩:=h;exact⟨x,y,e,k x y q⟩
def w_C{i:I}(q:QE' ⟨.ow,.im i⟩ O):WE (mC i) O QE':=by unhygienic exact⟨_,_,rfl,q⟩
def fM{n:Nat}{r:R}(h : O[n]?=some (some r))(q:QE' (rdR n r) O):WE (af n) O QE':=⟨rdR n r,O,by dsimp[af,h],q⟩
def qg{f:T->T->Option T}(h:WE a O λra O1=>WE b O1 λrb O2=>Gu (ax b.mu ra) (W1 (f ra.t rb.t) λt=>QE' ⟨.ow,t⟩ O2)):WE (mOp f a b) O QE':=by
 obtain⟨ra,O1,e1,rb,O2,e2,al,t,e3,q⟩:=h;exact⟨⟨.ow,t⟩,O2,by dsimp[mOp,e1,e2,al,if_true,e3],q⟩
def Ga{f:T->Option T}(h:WE a O λra O1=>W1 (f ra.t) λt=>QE' ⟨.ow,t⟩ O1):WE (mUn f a) O QE':=by
 obtain⟨ra,O1,e1,t,e3,q⟩:=h;exact⟨⟨.ow,t⟩,O1,by dsimp[mUn,e1,e3],q⟩
def w_B{f:List T->Option T}(h:WA ms O λrs O1=>W1 (f (rs.map (·.t))) λt=>QE' ⟨.ow,t⟩ O1):WE (mB f ms) O QE':=by
 obtain⟨ra,O1,e1,t,e3,q⟩:=h;exact⟨⟨.ow,t⟩,O1,by dsimp[mB,e1,e3],q⟩
def w_M{f:T->List T->Option T}(h:WE a O λra O1=>WA ms O1 λrs O2=>Gu (ax ms.mu ra) (W1 (f ra.t (rs.map (·.t))) λt=>QE' ⟨.ow,t⟩ O2)):WE (mM f a ms) O QE':=by
 obtain⟨ra,O1,e1,rb,O2,e2,al,t,e3,q⟩:=h;exact⟨⟨.ow,t⟩,O2,by dsimp[mM,e1,e2,al,if_true,e3],q⟩
def w8(h:WE a O λra O1=>WE b O1 λrb O2=>Gu (ax b.mu ra) (W1 (ixR ra rb.t) λr=>QE' r O2)):WE (mIx a b) O QE':=by
 obtain⟨ra,O1,e1,rb,O2,e2,al,r,e3,q⟩:=h;exact⟨r,O2,by dsimp[mIx,e1,e2,al,if_true,e3],q⟩
def zM{QO':Option Int->Rho->Prop}(q:QO' none O):WO mNoPart O QO':=by unhygienic exact⟨_,_,rfl,q⟩
def zN{QO':Option Int->Rho->Prop}(h:WE a O λr O1=>IsN r.t λn=>QO' (some n) O1):WO (eC a) O QO':=by
 obtain⟨⟨k,t⟩,O1,e1,n,e2,q⟩:=h;cases e2;exact⟨some n,O1,by dsimp[eC,e1],q⟩
def F8{lo hi:MO}(h:WE a O λra O1=>WO lo O1 λl O2=>WO hi O2 λu O3=>Gu (ax (lo.mu++hi.mu) ra) (W1 (slR ra l u) λr=>QE' r O3)):WE (mSl a lo hi) O QE':=by
 obtain⟨ra,O1,e1,l,O2,e2,u,O3,e3,al,r,e4,q⟩:=h;exact⟨r,O3,by dsimp[mSl,e1,e2,e3,al,if_true,e4],q⟩
def Fp(h:WE a O λr O1=>IsB r.t λbb=>(bb=true->QE' ⟨.ow,.im (.bl true)⟩ O1)/\(bb=false->WE b O1 QE')):WE (pj a b) O QE':=by
 obtain⟨⟨k,t⟩,O1,e1,bb,e2,q1,q2⟩:=h;cases e2;cases bb with
 | false=>obtain⟨p,O2,e,q⟩:=q2 rfl;exact⟨p,O2,by dsimp[pj,e1,e],q⟩
 | true=>exact⟨_,_,by dsimp[pj,e1],q1 rfl⟩
def xb{mv:List Nat}(h:WA ms O λrs O1=>Gu (decide (rs.length<=1000)) (W2 (consL mv rs O1) λts O2=>QE' ⟨.ow,bF ts⟩ O2)):WE (aR mv ms) O QE':=by
 obtain⟨rs,O1,e1,hl,ts,O2,e2,q⟩:=h;exact⟨⟨.ow,bF ts⟩,O2,by dsimp[aR,e1,if_pos (of_decide_eq_true hl),e2],q⟩
def xf{mv:List Nat}(h:WA ms O λrs O1=>Gu (decide (rs.length<=1000)) (W2 (consL mv rs O1) λts O2=>QE' ⟨.ow,lG ts⟩ O2)):WE (ay mv ms) O QE':=by
 obtain⟨rs,O1,e1,hl,ts,O2,e2,q⟩:=h;exact⟨⟨.ow,lG ts⟩,O2,by dsimp[ay,e1,if_pos (of_decide_eq_true hl),e2],q⟩
def nj{k j:Nat}{run:List T->Option (T×T)}(h:WA ms O λrs O1=>AtC k j rs O1 λp kd t0=>W2 (run (rs.map (·.t))) λt s'=>QE' ⟨.ow,t⟩ ((ao [j] O1).set j (some ⟨kd,t0.put p s'⟩))):WE (ak k j run ms) O QE':=by
 obtain⟨rs,O1,e1,p,t1,kd,t0,e2,al,e3,ow,t,s',e4,q⟩:=h;apply⟨⟨.ow,t⟩,(ao [j] O1).set j (some ⟨kd,t0.put p s'⟩),?_,q⟩;dsimp[ak,e1];dsimp[e2];rw[if_pos (by rw[Gd];exact⟨rfl,al⟩)];dsimp[e4,e3,ow,if_true]
def xc{l:Nat}{mv:List Nat}{f:T->List T->Option (T×I)}(h:WE a O λra O1=>WA ms O1 λrs O2=>Gu (ax ms.mu ra) (W2 (mutR l mv f ra rs O2) QE')):WE (b7 l mv f a ms) O QE':=by
 obtain⟨ra,O1,e1,rs,O2,e2,al,p,O3,e3,q⟩:=h;exact⟨p,O3,by dsimp[b7,e1,e2,al,if_true,e3],q⟩
def Da{l:Nat}{f:T->List T->Option (T×I)}(h:WE a O λra O1=>W2 (mutR l [] f ra [] O1) QE'):WE (lE l f a) O QE':=by
 obtain⟨ra,O1,e1,p,O3,e3,q⟩:=h;exact⟨p,O3,by dsimp[lE,e1,e3],q⟩
def qf{l:Nat}{mv:List Nat}{f:T->List T->Option (T×I)}{p:List Ac}{s:T}{rs:List R}{QQ:R->Rho->Prop}(hm:mv.contains l=false)(h:W2 (consL mv rs O) λts O2=>AtM l O2 λk t=>W2 (f s ts) λs' res=>QQ ⟨.ow,.im res⟩ ((ao [l] O2).set l (some ⟨k,t.put p s'⟩))):W2 (mutR l mv f ⟨.vw (some l) (some p),s⟩ rs O) QQ:=by
 obtain⟨ts,O2,hc,k,t,ho,hk,s',res,e,q⟩:=h;apply⟨_,_,?_,q⟩;unfold mutR;dsimp[decide_true,hm,hc,e,ho,hk,Kv,IK,if_true]
def kS(q:QA' [] O):WA mNil O QA':=by unhygienic exact⟨_,_,rfl,q⟩
def nq(h:WE m O λr O1=>WA ms O1 λrs O2=>Gu (ax ms.mu r) (QA' (r::rs) O2)):WA (ac m ms) O QA':=by
 obtain⟨ra,O1,e1,rb,O2,e2,al,q⟩:=h;exact⟨ra::rb,O2,by dsimp[ac,e1,e2,al,if_true],q⟩
def dY{n:Nat}{r0:R}(h0 : O[n]?=some (some r0))(h:WA ms O λrs O2=>AtV n O2 λr=>QA' (rdR n r::rs) O2):WA (aa n ms) O QA':=by
 obtain⟨rs,O2,e1,r,e2,q⟩:=h;exact⟨rdR n r::rs,O2,by dsimp[aa,e1,e2,h0],q⟩
def zO(h:WE a O λr O1=>IsB r.t λbb=>QT' bb O1):WT (aJ a) O QT':=by
 obtain⟨⟨k,t⟩,O1,e1,bb,e2,q⟩:=h;cases e2;exact⟨bb,O1,by dsimp[aJ,e1],q⟩
def Dn(h:WE a O λr O1=>W1 (tru r.t) λbb=>QT' bb O1):WT (pw a) O QT':=by
 obtain⟨r,O1,e1,bb,e2,q⟩:=h;exact⟨bb,O1,by dsimp[pw,e1,e2],q⟩
def Dm(h:WT ct O λbb O1=>QT' (!bb) O1):WT (su ct) O QT':=by
 obtain⟨r,O1,e1,q⟩:=h;exact⟨_,_,by dsimp[su,e1],q⟩
def Dl(h:WT ct O λbb O1=>(bb=true->WT ct' O1 QT')/\(bb=false->QT' false O1)):WT (kr ct ct') O QT':=by
 obtain⟨bb,O1,e1,q1,q2⟩:=h;cases bb with
 | true=>obtain⟨p,O2,e,q⟩:=q1 rfl;exact⟨p,O2,by dsimp[kr,e1,e],q⟩
 | false=>exact⟨_,_,by dsimp[kr,e1],q2 rfl⟩
def Fx(h:WT ct O λbb O1=>(bb=true->QT' true O1)/\(bb=false->WT ct' O1 QT')):WT (mOr ct ct') O QT':=by
 obtain⟨bb,O1,e1,q1,q2⟩:=h;cases bb with
 | false=>obtain⟨p,O2,e,q⟩:=q2 rfl;exact⟨p,O2,by dsimp[mOr,e1,e],q⟩
 | true=>exact⟨_,_,by dsimp[mOr,e1],q1 rfl⟩
def jz(q:QT' true O):WT mYes O QT':=by unhygienic exact⟨_,_,rfl,q⟩
def zJ{i:Nat}{r:R}(h:(e8 O i&&ax [i] r)=true)(q:QG' ((ao [i] O).set i (some r))):WG (ag i) r O QG':=⟨(ao [i] O).set i (some r),by dsimp[ag,h,if_true],q⟩
def zK(q:QG' O):WGs mGNil [] O QG':=by unhygienic exact⟨_,rfl,q⟩
def xi{r:R}{rs:List R}(al:rs.all (ax g.mu)=true)(h:WG g r O λO1=>WGs gs rs O1 QG'):WGs (aW g gs) (r::rs) O QG':=by
 obtain⟨O1,e1,O2,e2,q⟩:=h;exact⟨O2,by dsimp[aW,al,if_true,e1,e2],q⟩
def Dk{r:R}{rs:List R}(hp:parts r=some rs)(h:WGs gs rs O QG'):WG (dr gs) r O QG':=by
 obtain⟨O2,e2,q⟩:=h;exact⟨O2,by dsimp[dr,hp,e2],q⟩
def Dj{j:Nat}{tv:T}(h:WE a O λra O1=>WE b O1 λrb O2=>AtS j ra λp s=>Gu (!b.mu.contains j) (AtM j O2 λk t=>W1 (wJ s rb.t tv) λs'=>QG' ((ao [j] O2).set j (some ⟨k,t.put p s'⟩)))):WG (pv j a b) ⟨.ow,tv⟩ O QG':=by
 obtain⟨ra,O1,e1,rb,O2,e2,p,s,rfl,hm,k,t,e3,ow,s',e4,q⟩:=h;apply⟨_,?_,q⟩;dsimp[pv,e1,e2,hm,decide_true,IK,if_true,e4,e3,ow]
def xh{j:Nat}{ys:List I}(h:WE a O λra O1=>WE b O1 λrb O2=>WE c O2 λrc O3=>∃p xs k t i n,ra=⟨.vw (some j) (some p),.li xs⟩/\rb.t=.im (.int i)/\rc.t=.im (.int n)/\(b.mu++c.mu).contains j=false/\(0<=i/\i<=n/\n<=xs.length/\xs.length+ys.length<=sizeLine)/\O3[j]?=some (some ⟨k,t⟩)/\k.isOw=true/\QG' ((ao [j] O3).set j (some ⟨k,t.put p (.li (xs.take i.toNat++ys++xs.drop n.toNat))⟩))):WG (g9 j a b c) ⟨.ow,.li ys⟩ O QG':=by
 obtain⟨ra,O1,e1,⟨_,_⟩,O2,e2,⟨_,_⟩,O3,e3,p,xs,k,t,i,n,rfl,rfl,rfl,hm,hz,e4,ow,q⟩:=h;apply⟨_,?_,q⟩;dsimp[g9,e1,e2,e3,hm,decide_true,Kv,JQ];rw[if_pos (decide_eq_true hz)];dsimp[e4,ow,if_true]
def Db(q:Q .nx O):WS mNext O Q:=by unhygienic exact⟨_,_,rfl,q⟩
@[irreducible] def AN(b:MS)(Q:Fl->Rho->Prop):Fl->Rho->Prop
 | .nx,O=>WS b O Q
 | .rt t,O=>Q (.rt t) O
 | .bk,O=>Q .bk O
 | .ct,O=>Q .ct O
def As(h:WS s1 O (AN s2 Q)):WS (am s1 s2) O Q:=by unhygienic
 obtain⟨f,O1,e1,q⟩:=h;cases f with
 | nx=>have q:WS s2 O1 Q:=q;obtain⟨p,O2,e,q⟩:=q;exact⟨p,O2,by dsimp[am,e1,e],q⟩
 | rt t=>exact⟨.rt t,O1,by dsimp[am,e1],q⟩
 | bk=>exact⟨.bk,O1,by dsimp[am,e1],q⟩
 | ct=>exact⟨.ct,O1,by dsimp[am,e1],q⟩
def bI(h:WT ct O λbb O1=>(bb=true->WS s1 O1 Q)/\(bb=false->WS s2 O1 Q)):WS (mIf ct s1 s2) O Q:=by
 obtain⟨bb,O1,e1,q1,q2⟩:=h;cases bb with
 | true=>obtain⟨p,O2,e,q⟩:=q1 rfl;exact⟨p,O2,by dsimp[mIf,e1,e],q⟩
 | false=>obtain⟨p,O2,e,q⟩:=q2 rfl;exact⟨p,O2,by dsimp[mIf,e1,e],q⟩
def qd(h:WE m O λ_ O1=>Q .nx O1):WS (be m) O Q:=by
 obtain⟨r,O1,e1,q⟩:=h;exact⟨.nx,O1,by dsimp[be,e1],q⟩
def Fh(h:WE m O λr O1=>WG g r O1 λO2=>Q .nx O2):WS (aB m g) O Q:=by
 obtain⟨r,O1,e1,O2,e2,q⟩:=h;exact⟨.nx,O2,by dsimp[aB,e1,e2],q⟩
def Fs(h:WE m O λr O1=>W2 (tq r O1) λt O2=>Q (.rt t) O2):WS (bd m) O Q:=by
 obtain⟨r,O1,e1,t,O2,e2,q⟩:=h;exact⟨.rt t,O2,by dsimp[bd,e1,e2],q⟩
def Fi{i:Nat}{f:Int->Int->Int}{k:Kd}{x:Int}(h0 : O[i]?=some (some ⟨k,.im (.int x)⟩))(h:WE m O λr O1=>IsN r.t λy=>Gu (e8 O1 i) (Q .nx ((ao [i] O1).set i (↥(.int (f x y)))))):WS (sr i f m) O Q:=by
 obtain⟨⟨k',t'⟩,O1,e1,y,e2,hn,q⟩:=h;cases e2;exact⟨_,_,by dsimp[sr,h0,e1,hn,if_true],q⟩
def Fq{i j:Nat}(h:WA ms O λrs O1=>Two rs λr1 r2=>Gu (kA r1&&kA r2) (Gu (e8 O1 i&&ax [i] r1&&ax [i] r2&&e8 O1 j&&ax [j] r2) (Q .nx ((ao [j] ((ao [i] O1).set i (some r1))).set j (some r2))))):WS (lF i j ms) O Q:=by
 obtain⟨rs,O1,e1,r1,r2,rfl,hb,hc,q⟩:=h;apply⟨.nx,(ao [j] ((ao [i] O1).set i (some r1))).set j (some r2),?_,q⟩;rw[Gd]at hb;dsimp[lF,xV,e1,Ht,Ix,hb.1,hb.2,IJ,IK,if_true,hc]
@[irreducible] def Du(ks:List Nat)(Q:Fl->Rho->Prop):Fl->Rho->Prop
 | .nx,O=>Q .nx (fgts ks O)
 | .ct,O=>Q .ct (fgts ks O)
 | .rt t,O=>Q (.rt t) O
 | .bk,O=>Q .bk O
def Fj{ks:List Nat}(h:WS s1 O (Du ks Q)):WS (bU ks s1) O Q:=by unhygienic
 obtain⟨f,O1,e1,q⟩:=h;cases f with
 | nx=>exact⟨_,_,by dsimp[bU,e1],q⟩
 | ct=>exact⟨_,_,by dsimp[bU,e1],q⟩
 | rt t=>exact⟨_,_,by dsimp[bU,e1],q⟩
 | bk=>exact⟨_,_,by dsimp[bU,e1],q⟩
abbrev rX(Inv:Nat->Rho->Prop)(i:Nat)(Q:Fl->Rho->Prop):Fl->Rho->Prop
 | .nx,O=>Inv (i+1) O
 | .ct,O=>Inv (i+1) O
 | .bk,O=>Q .nx O
 | .rt t,O=>Q (.rt t) O
def qC{items:List R}(Inv:Nat->Rho->Prop)(hs:∀i r O,items[i]?=some r->Inv i O->WG g r O λO1=>WS s1 O1 (rX Inv i Q))(he:∀O,Inv items.length O->Q .nx O):∀(l:List R) (i:Nat) (O:Rho),items.drop i=l->i<=items.length->Inv i O->W2 (fm g.run s1.run l O) Q
 | [],i,O,hl,hi,hI=>by
  have:i=items.length:=by have:=congrArg HN hl;simp at this;omega
  subst this;exact⟨_,_,rfl,he O hI⟩
 | r::l,i,O,hl,hi,hI=>by
  have hr:items[i]?=some r:=by rw[<-IP,hl];rfl
  have hlt:=(Gc.mp hr).1;have hl':items.drop (i+1)=l:=by rw[<-IY,hl];rfl
  obtain⟨O1,e1,f,O2,e2,q⟩:=hs i r O hr hI;have k:=qC Inv hs he l (i+1) O2 hl' hlt;dsimp[fm,e1,e2];cases f with
  | nx=>exact k q
  | ct=>exact k q
  | bk=>exact⟨_,_,rfl,q⟩
  | rt t=>exact⟨_,_,rfl,q⟩
def wY(h:WI it O λsrc items O1=>Gu (src.all (ax (g.mu++s1.mu))&&items.all (ax (g.mu++s1.mu))) (∃Inv:Nat->Rho->Prop,Inv 0 O1/\(∀i r O,items[i]?=some r->Inv i O->WG g r O λO1=>WS s1 O1 (rX Inv i Q))/\∀O,Inv items.length O->Q .nx O)):WS (bZ it g s1) O Q:=by
 obtain⟨src,items,O1,e1,al,Inv,h0,hs,he⟩:=h;obtain⟨p,O2,e,q⟩:=qC (Q:=Q) Inv hs he items 0 O1 rfl (GY _) h0;exact⟨p,O2,by dsimp[bZ,e1];rw[if_pos al];exact e,q⟩
def l5{M:List Nat}{items:List R}(h:∀r∈items,r.k=.ow):items.all (ax M)=true:=G9.mpr λr hr=>by unfold ax dq;rw[h r hr];rfl
def C6{i:Nat}(h:WA ms O λrs O1=>∃n:Int,rs.map (·.t)=[.im (.int n)]/\-(2^62)<=n/\n<2^62/\(∃Inv:Nat->Rho->Prop,Inv 0 O1/\(∀(j:Nat) O,(j:Int)<n->Inv j O->WG (ag i) (jN j) O λO1=>WS s1 O1 (rX Inv j Q))/\∀O,Inv n.toNat O->Q .nx O)):WS (bZ (bc ms) (ag i) s1) O Q:=by
 obtain⟨rs,O1,e1,n,e2,h1,h2,Inv,h0,hs,he⟩:=h;apply wY ⟨[pN],gi 0 n.toNat,O1,by dsimp[bc,e1,e2,l1,isI];rw[if_pos ⟨h1,h2⟩],?_,Inv,h0,λj r O hr hI=>?_,λO hI=>he O (by simpa[gi]using hI)⟩
 ·rw[Gd];exact⟨rfl,l5 λr hr=>by obtain⟨x,_,rfl⟩:=Gn.mp hr;rfl⟩
 ·obtain⟨x,hx,rfl⟩:=aC hr;obtain⟨a1,a2⟩:=Gc.mp hx;simp at a1 a2;subst a2;have:=hs j O ⋯ hI;rw[J1];exact this
def zG{i:Nat}(h:WA ms O λrs O1=>∃m n:Int,rs.map (·.t)=[.im (.int m),.im (.int n)]/\(-(2^62)<=m/\m<2^62/\-(2^62)<=n/\n<2^62)/\(∃Inv:Nat->Rho->Prop,Inv 0 O1/\(∀(j:Nat) O,m+(j:Int)<n->Inv j O->WG (ag i) (jN (m+j)) O λO1=>WS s1 O1 (rX Inv j Q))/\∀O,Inv (n-m).toNat O->Q .nx O)):WS (bZ (fL ms) (ag i) s1) O Q:=by
 obtain⟨rs,O1,e1,m,n,e2,h1,Inv,h0,hs,he⟩:=h;apply wY ⟨[pN],gi m (n-m).toNat,O1,by dsimp[fL,e1,e2,l2,l1,ii2,isI];rw[if_pos h1],?_,Inv,h0,λj r O hr hI=>?_,λO hI=>he O (by simpa[gi]using hI)⟩
 ·rw[Gd];exact⟨rfl,l5 λr hr=>by obtain⟨x,_,rfl⟩:=Gn.mp hr;rfl⟩
 ·obtain⟨x,hx,rfl⟩:=aC hr;obtain⟨a1,a2⟩:=Gc.mp hx;simp at a1 a2;subst a2;exact hs j O ⋯ hI
def C5(h:WE m O λr O1=>∃is:List I,eM r=some (is.map λi=>⟨.ow,.im i⟩)/\ax (g.mu++s1.mu) r=true/\(∃Inv:Nat->Rho->Prop,Inv 0 O1/\(∀j x O,is[j]?=some x->Inv j O->WG g ⟨.ow,.im x⟩ O λO1=>WS s1 O1 (rX Inv j Q))/\∀O,Inv is.length O->Q .nx O)):WS (bZ (mIt m) g s1) O Q:=by
 obtain⟨r,O1,e1,is,e2,al,Inv,h0,hs,he⟩:=h;apply wY ⟨[r],is.map (λi=>⟨.ow,.im i⟩),O1,by dsimp[mIt,e1,e2],?_,Inv,h0,λj r O hr hI=>?_,λO hI=>he O (by exists hI)⟩
 ·rw[Gd];exact⟨by rw[Ht,Ix,al];rfl,l5 λr hr=>by obtain⟨x,_,rfl⟩:=Gn.mp hr;rfl⟩
 ·obtain⟨x,hx,rfl⟩:=aC hr;exact hs j x O hx hI
def zH(Inv:Nat->Rho->Prop)(n:Nat)(h0:Inv n O) (hs:∀n O,Inv n O->WT ct O λbb O1=>(bb=false->Q .nx O1)/\(bb=true->WS s1 O1 λf O2=>match f with
  | .nx=>∃m,m<n/\Inv m O2
  | .ct=>∃m,m<n/\Inv m O2
  | .bk=>Q .nx O2
  | .rt t=>Q (.rt t) O2)):WS (dL ct s1) O Q:=by
 have key:∀n O,Inv n O->W2 (itW ct s1 (n+1) O) Q:=by
  intro n
  induction n using Nat.strongRecOn with
  | _ n ih=>
   intro O hI;obtain⟨bb,O1,e1,q1,q2⟩:=hs n O hI;cases bb with
   | false=>exact⟨.nx,O1,by dsimp[itW,e1],q1 rfl⟩
   | true=>
    obtain⟨f,O2,e2,q⟩:=q2 rfl;cases f with
    | nx=>
     obtain⟨m,hm,hI'⟩:=q;obtain⟨p,O3,e,q⟩:=ih m hm O2 hI';exact⟨p,O3,by dsimp[itW,e1,e2];exact eY e _ ⋯,q⟩
    | ct=>
     obtain⟨m,hm,hI'⟩:=q;obtain⟨p,O3,e,q⟩:=ih m hm O2 hI';exact⟨p,O3,by dsimp[itW,e1,e2];exact eY e _ ⋯,q⟩
    | bk=>exact⟨.nx,O2,by dsimp[itW,e1,e2],q⟩
    | rt t=>exact⟨.rt t,O2,by dsimp[itW,e1,e2],q⟩
 obtain⟨p,O3,e,q⟩:=key n O h0;exact⟨p,O3,tV e,q⟩
def iA{fr:List (Option Nat)}{M:List Nat}{items:List R}{QC:List T->Rho->Prop}(Inv:Nat->List T->Rho->Prop)
  (hs:∀i r acc O,items[i]?=some r->Inv i acc O->WG g (gf (piF fr) r) (inR fr O) λO1=>WT ct O1 λbb O2=>(bb=true->WE m O2 λr O3=>∃t,r=⟨.ow,t⟩/\Inv (i+1) (acc++[t]) (bK fr M O3 O))/\(bb=false->Inv (i+1) acc (bK fr M O2 O)))
  (he:∀acc O,Inv items.length acc O->QC acc O):∀(l:List R) (i:Nat) (acc:List T) (O:Rho),items.drop i=l->i<=items.length->Inv i acc O->W2 (bj fr M g ct m l O acc) QC
 | [],i,acc,O,hl,hi,hI=>by
  have:i=items.length:=by have:=congrArg HN hl;simp at this;omega
  subst this;exact⟨_,_,rfl,he acc O hI⟩
 | r::l,i,acc,O,hl,hi,hI=>by
  have hr:items[i]?=some r:=by rw[<-IP,hl];rfl
  have hlt:=(Gc.mp hr).1;have hl':items.drop (i+1)=l:=by rw[<-IY,hl];rfl
  obtain⟨O1,e1,bb,O2,e2,q1,q2⟩:=hs i r acc O hr hI;cases bb with
  | true=>
   obtain⟨r',O3,e3,t,rfl,q⟩:=q1 rfl;dsimp[bj,e1,e2,e3];exact iA Inv hs he l (i+1) _ _ hl' hlt q
  | false=>
   dsimp[bj,e1,e2];exact iA Inv hs he l (i+1) _ _ hl' hlt (q2 rfl)
def no{fr:List (Option Nat)} (h:WI it O λsrc items O1=>Gu (cm fr O1.length&&cr (g.mu++(ct.mu++m.mu)) fr.length&&src.all (ax (muF fr (g.mu++(ct.mu++m.mu))))) (items.length<sizeLine/\∃Inv:Nat->List T->Rho->Prop,Inv 0 [] O1 /\
  (∀i r acc O,items[i]?=some r->Inv i acc O->WG g (gf (piF fr) r) (inR fr O) λO1=>WT ct O1 λbb O2=>(bb=true->WE m O2 λr O3=>∃t,r=⟨.ow,t⟩/\Inv (i+1) (acc++[t]) (bK fr (g.mu++(ct.mu++m.mu)) O3 O))/\(bb=false->Inv (i+1) acc (bK fr (g.mu++(ct.mu++m.mu)) O2 O))) /\
  ∀acc O,Inv items.length acc O->QE' ⟨.ow,bF acc⟩ O)):WE (aU fr it g ct m) O QE':=by
 obtain⟨src,items,O1,e1,al,hl,Inv,h0,hs,he⟩:=h;obtain⟨ts,O2,e,q⟩:=iA (QC:=λacc O=>QE' ⟨.ow,bF acc⟩ O) Inv hs he items 0 [] O1 rfl (GY _) h0;apply⟨⟨.ow,bF ts⟩,O2,?_,q⟩;dsimp[aU,e1];rw[if_pos (by rw[Gd];exact⟨al,decide_eq_true hl⟩)];dsimp[e]
def rL{QI':List R->List R->Rho->Prop}(h:WA ms O λrs O1=>∃n:Int,rs.map (·.t)=[.im (.int n)]/\(-(2^62)<=n/\n<2^62)/\QI' [pN] (gi 0 n.toNat) O1):WI (bc ms) O QI':=by
 obtain⟨rs,O1,e1,n,e2,h1,q⟩:=h;exact⟨_,_,_,by dsimp[bc,e1,e2,l1,isI];rw[if_pos h1],q⟩
def zL{QI':List R->List R->Rho->Prop}(h:WA ms O λrs O1=>∃m n:Int,rs.map (·.t)=[.im (.int m),.im (.int n)]/\(-(2^62)<=m/\m<2^62/\-(2^62)<=n/\n<2^62)/\QI' [pN] (gi m (n-m).toNat) O1):WI (fL ms) O QI':=by
 obtain⟨rs,O1,e1,m,n,e2,h1,q⟩:=h;exact⟨_,_,_,by dsimp[fL,e1,e2,l2,l1,ii2,isI];rw[if_pos h1],q⟩
def nr{QI':List R->List R->Rho->Prop}(h:WE m O λr O1=>W1 (eM r) λrs=>QI' [r] rs O1):WI (mIt m) O QI':=by
 obtain⟨r,O1,e1,rs,e2,q⟩:=h;exact⟨[r],rs,O1,by dsimp[mIt,e1,e2],q⟩
end
section
variable {α β:Type}{O:Rho}{QT1:T->Prop}{QR:R->Prop}{QI1:T->I->Prop}{m:MS}{n k:Nat}{ts:List T}
@[irreducible] def fP(R:T->Prop):Fl->Rho->Prop
 | .rt t,_=>R t
 | .nx,_=>R (.im .non)
 | _,_=>False
@[irreducible] def fI(k:Nat)(R:T->T->Prop):Fl->Rho->Prop
 | .rt t,O=>∃s',O[k]?=some (some ⟨.io 0,s'⟩)/\R t s'
 | .nx,O=>∃s',O[k]?=some (some ⟨.io 0,s'⟩)/\R (.im .non) s'
 | _,_=>False
def q5{run:List T->Option T}{l:Nat}(hrun:run ts=if ts.length=l then cT m n ts else none)(hl:ts.length=l)(h:WS m (cR ts n) (fP QT1)):W1 (run ts) QT1:=by unhygienic
 rw[hrun,if_pos hl];obtain⟨f,O,e,q⟩:=h;cases f with
 | nx=>exact⟨_,by dsimp[cT,e],q⟩
 | rt t=>exact⟨_,by dsimp[cT,e],q⟩
 | bk=>cases q
 | ct=>cases q
def gG{run:List T->Option (T×T)}{l:Nat}{Q2:T->T->Prop}(hrun:run ts=if ts.length=l then fS m k n ts else none)(hl:ts.length=l)(h:WS m (fw k ts n) (fI k Q2)):W2 (run ts) Q2:=by unhygienic
 rw[hrun,if_pos hl];obtain⟨f,O,e,q⟩:=h;cases f with
 | nx=>have q:∃s',O[k]?=some (some ⟨.io 0,s'⟩)/\Q2 (.im .non) s':=q;obtain⟨s',e2,q⟩:=q;exact⟨_,_,by dsimp[fS,e,e2],q⟩
 | rt t=>have q:∃s',O[k]?=some (some ⟨.io 0,s'⟩)/\Q2 t s':=q;obtain⟨s',e2,q⟩:=q;exact⟨_,_,by dsimp[fS,e,e2],q⟩
 | bk=>cases q
 | ct=>cases q
variable {a b:Int}{s z:Str}{is js:List I}{i j:I}
def Bv(q:QT1 (.im (.int (a+b)))):W1 (bh (.im (.int a)) (.im (.int b))) QT1:=by unhygienic exact⟨_,rfl,q⟩
def mO(h:s.length+z.length<=sizeLine)(q:QT1 (.im (.str (s++z)))):W1 (bh (.im (.str s)) (.im (.str z))) QT1:=by unhygienic exact⟨_,if_pos h,q⟩
def Bw(h:is.length+js.length<=sizeLine)(q:QT1 (.im (.tup (is++js)))):W1 (bh (.im (.tup is)) (.im (.tup js))) QT1:=by unhygienic exact⟨_,if_pos h,q⟩
def pG(h:is.length+js.length<=sizeLine)(q:QT1 (.li (is++js))):W1 (bh (.li is) (.li js)) QT1:=by unhygienic exact⟨_,if_pos h,q⟩
def D7(q:QT1 (.im (.int (a-b)))):W1 (da (.im (.int a)) (.im (.int b))) QT1:=by unhygienic exact⟨_,rfl,q⟩
def DM(h1 : -(2^64)<a)(h2:a<2^64):jG a b=true:=by unfold jG;dsimp[h1,h2,decide_true,IK,KB]
def FT(h1 : -(2^64)<b)(h2:b<2^64):jG a b=true:=by unfold jG;dsimp[h1,h2,decide_true,IK,Bool.or_true]
def u6(h:jG a b=true)(q:QT1 (.im (.int (a*b)))):W1 (el (.im (.int a)) (.im (.int b))) QT1:=by unhygienic exact⟨_,if_pos h,q⟩
def u8(h:is≠[]/\is.length<=1000/\1<=b/\b<=1000)(q:QT1 (.im (.tup (Gh b.toNat is).flatten))):W1 (el (.im (.tup is)) (.im (.int b))) QT1:=by unhygienic exact⟨_,if_pos h,q⟩
def u7(h : -(2^63)<=b/\b<2^63/\is.length*b.toNat<=sizeLine)(q:QT1 (.li (Gh b.toNat is).flatten)):W1 (el (.li is) (.im (.int b))) QT1:=by unhygienic exact⟨_,if_pos h,q⟩
def Bx(h:0<b/\b<2^64)(q:QT1 (.im (.int (a / b)))):W1 (jC (.im (.int a)) (.im (.int b))) QT1:=by unhygienic exact⟨_,if_pos h,q⟩
def u5(h:0<b)(q:QT1 (.im (.int (a % b)))):W1 (f9 (.im (.int a)) (.im (.int b))) QT1:=by unhygienic exact⟨_,if_pos h,q⟩
def z9(h:0<=b/\b<=1000000/\a.natAbs<2^64)(q:QT1 (.im (.int (a^b.toNat)))):W1 (sK (.im (.int a)) (.im (.int b))) QT1:=by unhygienic exact⟨_,if_pos h,q⟩
def DT{p:Int->Int->Bool}(q:QT1 (.im (.bl (p a b)))):W1 (fU p (.im (.int a)) (.im (.int b))) QT1:=by unhygienic exact⟨_,rfl,q⟩
def DU(q:QT1 (.im (.bl (decide (a=b))))):W1 (eqT (.im (.int a)) (.im (.int b))) QT1:=by unhygienic exact⟨_,rfl,by simpa using q⟩
def D0(q:QT1 (.im (.bl (!decide (a=b))))):W1 (neT (.im (.int a)) (.im (.int b))) QT1:=by unhygienic exact⟨_,rfl,by simpa using q⟩
def DW(q:QT1 (.im (.bl (decide (s=z))))):W1 (eqT (.im (.str s)) (.im (.str z))) QT1:=by unhygienic exact⟨_,rfl,by simpa using q⟩
def DV(h:I.doks is=true/\I.doks js=true/\I.deps is<=50)(q:QT1 (.im (.bl (decide (is=js))))):W1 (eqT (.li is) (.li js)) QT1:=⟨_,by dsimp[eqT,eqB];rw[if_pos h];rfl,q⟩
def zV(h:i.dok=true/\I.doks is=true/\I.deps is<=50):inB (.im i) (.im (.tup is))=some (decide (i∈is)):=by cases i<;>exact if_pos h
def qQ(h:i.dok=true/\I.doks is=true/\I.deps is<=50)(q:QT1 (.im (.bl (decide (i∈is))))):W1 (inT (.im i) (.im (.tup is))) QT1:=⟨_,by unfold inT;rw[zV h];rfl,q⟩
def u9(h:i.dok=true/\I.doks is=true/\I.deps is<=50)(q:QT1 (.im (.bl (!decide (i∈is))))):W1 (iP (.im i) (.im (.tup is))) QT1:=⟨_,by unfold iP;rw[zV h];rfl,q⟩
def zU(h:i.dok=true/\I.doks is=true/\I.deps is<=50):inB (.im i) (.li is)=some (decide (i∈is)):=by cases i<;>exact if_pos h
def nR(h:i.dok=true/\I.doks is=true/\I.deps is<=50)(q:QT1 (.im (.bl (decide (i∈is))))):W1 (inT (.im i) (.li is)) QT1:=⟨_,by unfold inT;rw[zU h];rfl,q⟩
def kC(h:i.dok=true/\I.doks is=true/\I.deps is<=50)(q:QT1 (.im (.bl (!decide (i∈is))))):W1 (iP (.im i) (.li is)) QT1:=⟨_,by unfold iP;rw[zU h];rfl,q⟩
def BB(h:s.length<=sizeLine)(q:QT1 (.im (.int s.length))):W1 (cL [.im (.str s)]) QT1:=by unhygienic exact⟨_,if_pos h,q⟩
def BC(q:QT1 (.im (.int is.length))):W1 (cL [.im (.tup is)]) QT1:=by unhygienic exact⟨_,rfl,q⟩
def BA(q:QT1 (.im (.int is.length))):W1 (cL [.li is]) QT1:=by unhygienic exact⟨_,rfl,q⟩
def yl{us:List T}(q:QT1 (.im (.int us.length))):W1 (cL [.lst us]) QT1:=by unhygienic exact⟨_,rfl,q⟩
def DZ(q:QT1 (.im (.int (if b<a then b else a)))):W1 (pC [.im (.int a),.im (.int b)]) QT1:=by unhygienic exact⟨_,rfl,q⟩
def DY(q:QT1 (.im (.int (if b>a then b else a)))):W1 (pA [.im (.int a),.im (.int b)]) QT1:=by unhygienic exact⟨_,rfl,q⟩
def By{c:Bool}(q:QT1 (.im (.int (if c then 1 else 0)))):W1 (r8 [.im (.bl c)]) QT1:=by unhygienic exact⟨_,rfl,q⟩
def BK(q:QT1 (.im (.tup is))):W1 (gq [.li is]) QT1:=by unhygienic exact⟨_,rfl,q⟩
def BE(q:QT1 (.li is)):W1 (uM [.li is]) QT1:=by unhygienic exact⟨_,rfl,q⟩
def D3(q:QT1 (.im (.tup is.reverse))):W1 (wA (.im (.tup is))) QT1:=by unhygienic exact⟨_,rfl,q⟩
def AC{xs:List α}{x : α}{n:Nat}{i:Int}(hi:i=n)(h:xs[n]?=some x):atI xs i=some x:=by
 subst hi;have:=(Gc.mp h).1;unfold atI ixN;rw[if_pos ⋯,if_pos ⋯];exists h
def oV{xs:List α}{i:Int}(h0:0<=i)(h1:i<xs.length):∃x,atI xs i=some x/\xs[i.toNat]?=some x:=by
 have:i.toNat<xs.length:=by omega
 exact⟨xs[i.toNat],AC (n:=i.toNat) ⋯ (GD this),GD this⟩
def z8{kd:Kd}{x:I}(h:atI is a=some x)(q:QR ⟨.ow,.im x⟩):W1 (ixR ⟨kd,.im (.tup is)⟩ (.im (.int a))) QR:=⟨_,by dsimp[ixR,isI,ixX,ixI,h,HZ],q⟩
def z7{kd:Kd}{x:I}(h:atI is a=some x)(q:QR ⟨.ow,.im x⟩):W1 (ixR ⟨kd,.li is⟩ (.im (.int a))) QR:=⟨_,by dsimp[ixR,isI,ixX,ixI,h,HZ],q⟩
def u4{kd:Kd}(h0:0<=a)(h1:a<is.length)(q:∀x,is[a.toNat]?=some x->QR ⟨.ow,.im x⟩):W1 (ixR ⟨kd,.im (.tup is)⟩ (.im (.int a))) QR:=by
 obtain⟨x,h,h'⟩:=oV h0 h1;exact z8 h (q x h')
def uY{kd:Kd}(h0:0<=a)(h1:a<is.length)(q:∀x,is[a.toNat]?=some x->QR ⟨.ow,.im x⟩):W1 (ixR ⟨kd,.li is⟩ (.im (.int a))) QR:=by
 obtain⟨x,h,h'⟩:=oV h0 h1;exact z7 h (q x h')
def uZ{kd:Kd}(hz:s.length<=sizeLine)(h0:0<=a)(h1:a<(sL s).length)(q:∀c,(sL s)[a.toNat]?=some c->QR ⟨.ow,.im (.str ⟨#[c]⟩)⟩):W1 (ixR ⟨kd,.im (.str s)⟩ (.im (.int a))) QR:=by
 obtain⟨x,h,h'⟩:=oV h0 h1;exact⟨_,by dsimp[ixR,isI,ixX,ixI,if_pos hz,h,HZ],q x h'⟩
def pI{ro:Option Nat}{p:Option (List Ac)}{us:List T}{u:T}(h0:0<=a)(h1:us[a.toNat]?=some u)(hu:∀i,u ≠ .im i){kd:Kd}(hk:ixK (.vw ro p) (some (.ix a.toNat))=some kd)(q:QR ⟨kd,u⟩):W1 (ixR ⟨.vw ro p,.lst us⟩ (.im (.int a))) QR:=by
 have hl:=(Gc.mp h1).1;apply⟨⟨kd,u⟩,?_,q⟩;unfold ixR;have:ixN us.length a=some a.toNat:=by unfold ixN;rw[if_pos h0,if_pos ⋯]
 dsimp[isI,ixX,this,h1,Option.bind_some];cases u with
 | im i=>exact absurd rfl (hu i)
 | _=>dsimp[ixP,hk]
def va{n:Nat}(ha:a=n)(h:n<is.length)(q:QT1 (.li (is.set n i))):W1 (wJ (.li is) (.im (.int a)) (.im i)) QT1:=by
 subst ha;apply⟨_,?_,q⟩;unfold wJ;have:ixN is.length (n:Int)=some n:=by unfold ixN;rw[if_pos ⋯,if_pos ⋯];simp
 dsimp[this]
def bL(h:is.length<sizeLine)(q:QI1 (.li (is++[i])) .non):W2 (apT (.li is) [.im i]) QI1:=by unhygienic exact⟨_,_,if_pos h,q⟩
def pH(h:is.length+js.length<=sizeLine)(q:QI1 (.li (is++js)) .non):W2 (j7 (.li is) [.li js]) QI1:=by unhygienic exact⟨_,_,if_pos h,q⟩
def uW(h:is.length+js.length<=sizeLine)(q:QI1 (.li (is++js)) .non):W2 (j7 (.li is) [.im (.tup js)]) QI1:=by unhygienic exact⟨_,_,if_pos h,q⟩
def D1(q:QI1 (.li is) i):W2 (nT (.li (is++[i])) []) QI1:=⟨_,_,by simp[nT],q⟩
def zZ(h:0<=a/\a<=is.length/\is.length<sizeLine)(q:QI1 (.li (is.take a.toNat++i::is.drop a.toNat)) .non):W2 (mD (.li is) [.im (.int a),.im i]) QI1:=by unhygienic exact⟨_,_,if_pos h,q⟩
def D4{kd:Kd}{lo hi:Option Int}(q:QR ⟨.ow,.li (ci is lo hi)⟩):W1 (slR ⟨kd,.li is⟩ lo hi) QR:=⟨_,by dsimp[slR,slX,slI,slX],q⟩
def qR{kd:Kd}{lo hi:Option Int}(h:¬(HT.sIx is.length 0 lo=0/\HT.sIx is.length is.length hi=is.length))(q:QR ⟨.ow,.im (.tup (ci is lo hi))⟩):W1 (slR ⟨kd,.im (.tup is)⟩ lo hi) QR:=⟨_,by dsimp[slR,slX,slI,slX];rw[if_neg h],q⟩
def Aa{kd:Kd}{lo hi:Option Int}(h:s.length<=sizeLine)(q:QR ⟨.ow,.im (.str (oL (ci (sL s) lo hi)))⟩):W1 (slR ⟨kd,.im (.str s)⟩ lo hi) QR:=⟨_,by dsimp[slR,slX,slI,slX];rw[if_pos h],q⟩
def BH{t:T}{Q2:T->Rho->Prop}(q:Q2 t O):W2 (tq ⟨.ow,t⟩ O) Q2:=by unhygienic exact⟨_,_,rfl,q⟩
def BI{t t':T}{n:Nat}{Q2:T->Rho->Prop}(h : O[n]?=some (⇑t'))(q:Q2 t ((ao [n] O).set n none)):W2 (tq ⟨.vw (some n) (some []),t⟩ O) Q2:=⟨_,_,by dsimp[tq,h],q⟩
def o4{mv:List Nat}{Q2:List T->Rho->Prop}(q:Q2 [] O):W2 (consL mv [] O) Q2:=⟨_,_,rfl,q⟩
def qt{mv:List Nat}{t:T}{rs:List R}{Q2:List T->Rho->Prop}(h:W2 (consL mv rs O) λts O'=>Q2 (t::ts) O'):W2 (consL mv (⟨.ow,t⟩::rs) O) Q2:=by
 obtain⟨ts,O',e,q⟩:=h;exact⟨t::ts,O',by dsimp[consL,e],q⟩
def nN{is:List I}:bF (is.map T.im)=.li is:=by
 have:ims (is.map T.im)=some is:=by induction is with
  | nil=>rfl
  | cons i is ih=>dsimp[Gg,ims,ih,HZ]
 unfold bF;rw[this]
end
def dsp{p:Prop}[Decidable p]{A B:Prop}(h1:p->A)(h2:¬p->B):(decide p=true->A)/\(decide p=false->B):=⟨λh=>h1 (of_decide_eq_true h),λh=>h2 (of_decide_eq_false h)⟩
def FN{p:Prop}[Decidable p]{A B:Prop}(h1:¬p->A)(h2:p->B):((!decide p)=true->A)/\((!decide p)=false->B):=⟨λh=>h1 (by exists h),λh=>h2 (by exists h)⟩
def bsp{b:Bool}{A B:Prop}(h1:b=true->A)(h2:b=false->B):(b=true->A)/\(b=false->B):=⟨h1,h2⟩
def spT{A B:Prop}(h:A):(true=true->A)/\(true=false->B):=⟨λ_=>h,λz=>absurd z (by decide)⟩
def spF{A B:Prop}(h:B):(false=true->A)/\(false=false->B):=⟨λz=>absurd z (by decide),λ_=>h⟩
section
variable {O:Rho}{m:ME}{ms:MA}{g:MG}{ct:MT}{QE':R->Rho->Prop}
def rJ{i:Nat}{fr:List (Option Nat)} (h:WA ms O λrs O1=>∃n:Int,rs.map (·.t)=[.im (.int n)]/\(-(2^62)<=n/\n<16000000)/\Gu (cm fr O1.length&&cr ([i]++([]++m.mu)) fr.length) (∃Inv:Nat->List T->Rho->Prop,Inv 0 [] O1 /\
  (∀(j:Nat) acc O,(j:Int)<n->Inv j acc O->WG (ag i) (jN j) (inR fr O) λO1=>WE m O1 λr O3=>∃t,r=⟨.ow,t⟩/\Inv (j+1) (acc++[t]) (bK fr ([i]++([]++m.mu)) O3 O)) /\
  ∀acc O,Inv n.toNat acc O->QE' ⟨.ow,bF acc⟩ O)):WE (aU fr (bc ms) (ag i) mYes m) O QE':=by unhygienic
 obtain⟨rs,O1,e1,n,e2,h1,al,Inv,h0,hs,he⟩:=h;apply no (rL ⟨rs,O1,e1,n,e2,⟨h1.1,by omega⟩,?_,?_,Inv,h0,λj r acc O hr hI=>?_,λacc O hI=>he acc O (by simpa[gi]using hI)⟩)
 ·rw[Gd]at al|-;rw[Gd];exact⟨⟨al.1,al.2⟩,rfl⟩
 ·rw[LL];simp[gi];omega
 ·obtain⟨x,hx,rfl⟩:=aC hr;obtain⟨a1,a2⟩:=Gc.mp hx;simp at a1 a2;subst a2;have:=hs j acc O ⋯ hI;rw[J1];apply WG.mono this λO1 q=>jz ⟨λ_=>q,λz=>by cases z⟩
def wW{i:Nat}{fr:List (Option Nat)} (h:WA ms O λrs O1=>∃a n:Int,rs.map (·.t)=[.im (.int a),.im (.int n)]/\(-(2^62)<=a/\a<2^62/\-(2^62)<=n/\n<2^62/\n-a<16000000)/\Gu (cm fr O1.length&&cr ([i]++([]++m.mu)) fr.length) (∃Inv:Nat->List T->Rho->Prop,Inv 0 [] O1 /\
  (∀(j:Nat) acc O,a+(j:Int)<n->Inv j acc O->WG (ag i) (jN (a+j)) (inR fr O) λO1=>WE m O1 λr O3=>∃t,r=⟨.ow,t⟩/\Inv (j+1) (acc++[t]) (bK fr ([i]++([]++m.mu)) O3 O)) /\
  ∀acc O,Inv (n-a).toNat acc O->QE' ⟨.ow,bF acc⟩ O)):WE (aU fr (fL ms) (ag i) mYes m) O QE':=by unhygienic
 obtain⟨rs,O1,e1,a,n,e2,h1,al,Inv,h0,hs,he⟩:=h;apply no (zL ⟨rs,O1,e1,a,n,e2,⟨h1.1,h1.2.1,h1.2.2.1,h1.2.2.2.1⟩,?_,?_,Inv,h0,λj r acc O hr hI=>?_,λacc O hI=>he acc O (by simpa[gi]using hI)⟩)
 ·rw[Gd]at al|-;rw[Gd];exact⟨⟨al.1,al.2⟩,rfl⟩
 ·rw[LL];simp[gi];omega
 ·obtain⟨x,hx,rfl⟩:=aC hr;obtain⟨a1,a2⟩:=Gc.mp hx;simp at a1 a2;subst a2;have:=hs j acc O ⋯ hI;apply WG.mono this λO1 q=>jz ⟨λ_=>q,λz=>by cases z⟩
def rH{fr:List (Option Nat)}{ma:ME} (h:WE ma O λr O1=>∃is:List I,eM r=some (is.map λi=>⟨.ow,.im i⟩)/\is.length<sizeLine/\Gu (cm fr O1.length&&cr (g.mu++(ct.mu++m.mu)) fr.length&&ax (muF fr (g.mu++(ct.mu++m.mu))) r) (∃Inv:Nat->List T->Rho->Prop,Inv 0 [] O1 /\
  (∀(j:Nat) x acc O,is[j]?=some x->Inv j acc O->WG g ⟨.ow,.im x⟩ (inR fr O) λO1=>WT ct O1 λbb O2=>(bb=true->WE m O2 λr O3=>∃t,r=⟨.ow,t⟩/\Inv (j+1) (acc++[t]) (bK fr (g.mu++(ct.mu++m.mu)) O3 O))/\(bb=false->Inv (j+1) acc (bK fr (g.mu++(ct.mu++m.mu)) O2 O))) /\
  ∀acc O,Inv is.length acc O->QE' ⟨.ow,bF acc⟩ O)):WE (aU fr (mIt ma) g ct m) O QE':=by
 obtain⟨r,O1,e1,is,e2,hl,al,Inv,h0,hs,he⟩:=h;apply no (nr ⟨r,O1,e1,_,e2,(by rw[Ht,Ix,IJ];exact al),by simpa using hl,Inv,h0,λj r acc O hr hI=>?_,λacc O hI=>he acc O (by exists hI)⟩);obtain⟨x,hx,rfl⟩:=aC hr;exact hs j x acc O hx hI
end
def e7{α:Type}{f : α->I}{l:List α}:bF (l.map λx=>T.im (f x))=.li (l.map f):=by
 have:=nN (is:=l.map f);rwa [Hf]at this
section
variable {S α:Type}{O:Rho}{m:ME}{ms:MA}{g:MG}{ct:MT}{s1:MS}{QE':R->Rho->Prop}{Q:Fl->Rho->Prop}{fr:List (Option Nat)}{i:Nat}
def fj(st:S->Rho)(emb : α->I)(P:Nat->S->List α->Prop) (h:WA ms O λrs O1=>Lz rs λn=>(-(2^62)<=n/\n<16000000)/\(cm fr O1.length&&cr ([i]++([]++m.mu)) fr.length)=true/\∃s0,O1=st s0/\P 0 s0 [] /\
  (∀(j:Nat) s l,(j:Int)<n->P j s l->WG (ag i) (jN j) (inR fr (st s)) λO1=>WE m O1 λr O3=>∃x s',r=⟨.ow,.im (emb x)⟩/\bK fr ([i]++([]++m.mu)) O3 (st s)=st s'/\P (j+1) s' (l++[x])) /\
  ∀s l,P n.toNat s l->QE' ⟨.ow,.li (l.map emb)⟩ (st s)):WE (aU fr (bc ms) (ag i) mYes m) O QE':=by
 obtain⟨rs,O1,e1,n,e2,h1,al,s0,rfl,h0,hs,he⟩:=h;apply rJ ⟨rs,_,e1,n,e2,h1,al,λj acc O=>∃s l,acc=l.map (λx=>T.im (emb x))/\O=st s/\P j s l,⟨s0,[],rfl,rfl,h0⟩,?_,?_⟩
 ·rintro j acc O hj ⟨s,l,rfl,rfl,hP⟩;apply(hs j s l hj hP).mono λO1 q=>q.mono λr O3 ⟨x,s',e,e',hP'⟩=>⟨_,e,s',l++[x],by simp,e',hP'⟩
 ·rintro acc O ⟨s,l,rfl,rfl,hP⟩;rw[e7];exact he s l hP
def tR(st:S->Rho)(emb : α->I)(P:Nat->S->List α->Prop) (h:WA ms O λrs O1=>LF rs λa n=>(-(2^62)<=a/\a<2^62/\-(2^62)<=n/\n<2^62/\n-a<16000000)/\(cm fr O1.length&&cr ([i]++([]++m.mu)) fr.length)=true/\∃s0,O1=st s0/\P 0 s0 [] /\
  (∀(j:Nat) s l,a+(j:Int)<n->P j s l->WG (ag i) (jN (a+j)) (inR fr (st s)) λO1=>WE m O1 λr O3=>∃x s',r=⟨.ow,.im (emb x)⟩/\bK fr ([i]++([]++m.mu)) O3 (st s)=st s'/\P (j+1) s' (l++[x])) /\
  ∀s l,P (n-a).toNat s l->QE' ⟨.ow,.li (l.map emb)⟩ (st s)):WE (aU fr (fL ms) (ag i) mYes m) O QE':=by
 obtain⟨rs,O1,e1,a,n,e2,h1,al,s0,rfl,h0,hs,he⟩:=h;apply wW ⟨rs,_,e1,a,n,e2,h1,al,λj acc O=>∃s l,acc=l.map (λx=>T.im (emb x))/\O=st s/\P j s l,⟨s0,[],rfl,rfl,h0⟩,?_,?_⟩
 ·rintro j acc O hj ⟨s,l,rfl,rfl,hP⟩;apply(hs j s l hj hP).mono λO1 q=>q.mono λr O3 ⟨x,s',e,e',hP'⟩=>⟨_,e,s',l++[x],by simp,e',hP'⟩
 ·rintro acc O ⟨s,l,rfl,rfl,hP⟩;rw[e7];exact he s l hP
def dX(st:S->Rho)(emb : α->I)(P:Nat->S->List α->Prop){ma:ME} (h:WE ma O λr O1=>∃is:List I,eM r=some (is.map λi=>⟨.ow,.im i⟩)/\is.length<sizeLine/\(cm fr O1.length&&cr (g.mu++([]++m.mu)) fr.length&&ax (muF fr (g.mu++([]++m.mu))) r)=true/\∃s0,O1=st s0/\P 0 s0 [] /\
  (∀(j:Nat) x s l,is[j]?=some x->P j s l->WG g ⟨.ow,.im x⟩ (inR fr (st s)) λO1=>WE m O1 λr O3=>∃x s',r=⟨.ow,.im (emb x)⟩/\bK fr (g.mu++([]++m.mu)) O3 (st s)=st s'/\P (j+1) s' (l++[x])) /\
  ∀s l,P is.length s l->QE' ⟨.ow,.li (l.map emb)⟩ (st s)):WE (aU fr (mIt ma) g mYes m) O QE':=by unhygienic
 obtain⟨r,O1,e1,is,e2,hl,al,s0,rfl,h0,hs,he⟩:=h;apply rH ⟨r,_,e1,is,e2,hl,al,λj acc O=>∃s l,acc=l.map (λx=>T.im (emb x))/\O=st s/\P j s l,⟨s0,[],rfl,rfl,h0⟩,?_,?_⟩
 ·rintro j x acc O hj ⟨s,l,rfl,rfl,hP⟩;apply(hs j x s l hj hP).mono λO1 q=>jz ⟨λ_=>q.mono λr O3 ⟨x,s',e,e',hP'⟩=>⟨_,e,s',l++[x],by simp,e',hP'⟩,λz=>by cases z⟩
 ·rintro acc O ⟨s,l,rfl,rfl,hP⟩;rw[e7];exact he s l hP
def db(st:S->Rho)(emb : α->I)(P:Nat->S->List α->Prop){ma:ME} (h:WE ma O λr O1=>∃is:List I,eM r=some (is.map λi=>⟨.ow,.im i⟩)/\is.length<sizeLine/\(cm fr O1.length&&cr (g.mu++(ct.mu++m.mu)) fr.length&&ax (muF fr (g.mu++(ct.mu++m.mu))) r)=true/\∃s0,O1=st s0/\P 0 s0 [] /\
  (∀(j:Nat) x s l,is[j]?=some x->P j s l->WG g ⟨.ow,.im x⟩ (inR fr (st s)) λO1=>WT ct O1 λbb O2=>(bb=true->WE m O2 λr O3=>∃x s',r=⟨.ow,.im (emb x)⟩/\bK fr (g.mu++(ct.mu++m.mu)) O3 (st s)=st s'/\P (j+1) s' (l++[x]))/\(bb=false->∃s',bK fr (g.mu++(ct.mu++m.mu)) O2 (st s)=st s'/\P (j+1) s' l)) /\
  ∀s l,P is.length s l->QE' ⟨.ow,.li (l.map emb)⟩ (st s)):WE (aU fr (mIt ma) g ct m) O QE':=by
 obtain⟨r,O1,e1,is,e2,hl,al,s0,rfl,h0,hs,he⟩:=h;apply rH ⟨r,_,e1,is,e2,hl,al,λj acc O=>∃s l,acc=l.map (λx=>T.im (emb x))/\O=st s/\P j s l,⟨s0,[],rfl,rfl,h0⟩,?_,?_⟩
 ·rintro j x acc O hj ⟨s,l,rfl,rfl,hP⟩;apply(hs j x s l hj hP).mono λO1 q=>q.mono λbb O2 ⟨q1,q2⟩=>⟨λhb=>(q1 hb).mono λr O3 ⟨x,s',e,e',hP'⟩=>⟨_,e,s',l++[x],by simp,e',hP'⟩,λhb=>?_⟩;obtain⟨s',e',hP'⟩:=q2 hb;exact⟨s',l,rfl,e',hP'⟩
 ·rintro acc O ⟨s,l,rfl,rfl,hP⟩;rw[e7];exact he s l hP
@[irreducible] def fFs(st:S->Rho)(P:S->Prop)(Q:Fl->Rho->Prop):Fl->Rho->Prop
 | .nx,O=>∃s,O=st s/\P s
 | .ct,O=>∃s,O=st s/\P s
 | .bk,O=>Q .nx O
 | .rt t,O=>Q (.rt t) O
def mr{st:S->Rho}{P:Nat->S->Prop}{j:Nat}{f:Fl}{O:Rho}(h:fFs st (P (j+1)) Q f O):rX (λj O=>∃s,O=st s/\P j s) j Q f O:=by unhygienic cases f<;>exact h
def cW(st:S->Rho)(P:Nat->S->Prop) (h:WA ms O λrs O1=>Lz rs λn=>(-(2^62)<=n/\n<2^62)/\∃s0,O1=st s0/\P 0 s0 /\
  (∀(j:Nat) s,(j:Int)<n->P j s->WG (ag i) (jN j) (st s) λO1=>WS s1 O1 (fFs st (P (j+1)) Q))/\∀s,P n.toNat s->Q .nx (st s)):WS (bZ (bc ms) (ag i) s1) O Q:=by
 obtain⟨rs,O1,e1,n,e2,h1,s0,rfl,h0,hs,he⟩:=h;apply C6 ⟨rs,_,e1,n,e2,h1.1,h1.2,λj O=>∃s,O=st s/\P j s,⟨s0,rfl,h0⟩,?_,?_⟩
 ·rintro j O hj ⟨s,rfl,hP⟩;exact(hs j s hj hP).mono λO1 q=>q.mono λf O2 q=>mr q
 ·rintro O ⟨s,rfl,hP⟩;exact he s hP
def wZ(st:S->Rho)(P:Nat->S->Prop) (h:WA ms O λrs O1=>LF rs λa n=>(-(2^62)<=a/\a<2^62/\-(2^62)<=n/\n<2^62)/\∃s0,O1=st s0/\P 0 s0 /\
  (∀(j:Nat) s,a+(j:Int)<n->P j s->WG (ag i) (jN (a+j)) (st s) λO1=>WS s1 O1 (fFs st (P (j+1)) Q))/\∀s,P (n-a).toNat s->Q .nx (st s)):WS (bZ (fL ms) (ag i) s1) O Q:=by
 obtain⟨rs,O1,e1,a,n,e2,h1,s0,rfl,h0,hs,he⟩:=h;apply zG ⟨rs,_,e1,a,n,e2,h1,λj O=>∃s,O=st s/\P j s,⟨s0,rfl,h0⟩,?_,?_⟩
 ·rintro j O hj ⟨s,rfl,hP⟩;exact(hs j s hj hP).mono λO1 q=>q.mono λf O2 q=>mr q
 ·rintro O ⟨s,rfl,hP⟩;exact he s hP
def cK(st:S->Rho)(P:Nat->S->Prop) (h:WE m O λr O1=>∃is:List I,eM r=some (is.map λi=>⟨.ow,.im i⟩)/\ax (g.mu++s1.mu) r=true/\∃s0,O1=st s0/\P 0 s0 /\
  (∀(j:Nat) x s,is[j]?=some x->P j s->WG g ⟨.ow,.im x⟩ (st s) λO1=>WS s1 O1 (fFs st (P (j+1)) Q))/\∀s,P is.length s->Q .nx (st s)):WS (bZ (mIt m) g s1) O Q:=by
 obtain⟨r,O1,e1,is,e2,al,s0,rfl,h0,hs,he⟩:=h;apply C5 ⟨r,_,e1,is,e2,al,λj O=>∃s,O=st s/\P j s,⟨s0,rfl,h0⟩,?_,?_⟩
 ·rintro j x O hj ⟨s,rfl,hP⟩;exact(hs j x s hj hP).mono λO1 q=>q.mono λf O2 q=>mr q
 ·rintro O ⟨s,rfl,hP⟩;exact he s hP
def iX(st:S->Rho)(P:S->Prop)(μ : S->Nat)(s0:S)(e0 : O=st s0)(h0:P s0)(hs:∀s,P s->WT ct (st s) λbb O1=>(bb=true->WS s1 O1 (fFs st (λs'=>μ s' < μ s/\P s') Q))/\(bb=false->Q .nx O1)):WS (dL ct s1) O Q:=by unhygienic
 subst e0;apply zH (λn O=>∃s,O=st s/\P s/\μ s=n) (μ s0) ⟨s0,rfl,h0,rfl⟩ ?_;rintro n O ⟨s,rfl,hP,rfl⟩;apply(hs s hP).mono λbb O1 ⟨q1,q2⟩=>⟨q2,λhb=>(q1 hb).mono λf O2 q=>?_⟩;cases f with
 | nx=>have q:∃s',O2=st s'/\μ s' < μ s/\P s':=q;obtain⟨s',e,hl,hP'⟩:=q;exact⟨μ s',hl,s',e,hP',rfl⟩
 | ct=>have q:∃s',O2=st s'/\μ s' < μ s/\P s':=q;obtain⟨s',e,hl,hP'⟩:=q;exact⟨μ s',hl,s',e,hP',rfl⟩
 | bk=>exact q
 | rt t=>exact q
end
section
variable {S α:Type}{O:Rho}{m:ME}{ms:MA}{QE':R->Rho->Prop}{fr:List (Option Nat)}{i:Nat}
def uR{emb : α->T}(hne:∀x i,emb x ≠ .im i):∀{l:List α},l≠[]->bF (l.map emb)=.lst (l.map emb)
 | [],h=>absurd rfl h
 | x::l,_=>by
  unfold bF;have:ims ((x::l).map emb)=none:=by
   rw[Gg];cases h:emb x with
   | im i=>exact absurd h (hne x i)
   | _=>rfl
  rw[this]
def kR(st:S->Rho)(emb : α->T)(hne:∀x i,emb x ≠ .im i)(P:Nat->S->List α->Prop) (h:WA ms O λrs O1=>Lz rs λn=>(1<=n/\n<16000000)/\(cm fr O1.length&&cr ([i]++([]++m.mu)) fr.length)=true/\∃s0,O1=st s0/\P 0 s0 [] /\
  (∀(j:Nat) s l,(j:Int)<n->P j s l->WG (ag i) (jN j) (inR fr (st s)) λO1=>WE m O1 λr O3=>∃x s',r=⟨.ow,emb x⟩/\bK fr ([i]++([]++m.mu)) O3 (st s)=st s'/\P (j+1) s' (l++[x])) /\
  ∀s l,P n.toNat s l->l.length=n.toNat->QE' ⟨.ow,.lst (l.map emb)⟩ (st s)):WE (aU fr (bc ms) (ag i) mYes m) O QE':=by
 obtain⟨rs,O1,e1,n,e2,h1,al,s0,rfl,h0,hs,he⟩:=h;apply rJ ⟨rs,_,e1,n,e2,⟨by omega,h1.2⟩,al,λj acc O=>∃s l,acc=l.map emb/\l.length=j/\O=st s/\P j s l,⟨s0,[],rfl,rfl,rfl,h0⟩,?_,?_⟩
 ·rintro j acc O hj ⟨s,l,rfl,hl,rfl,hP⟩;apply(hs j s l hj hP).mono λO1 q=>q.mono λr O3 ⟨x,s',e,e',hP'⟩=>⟨_,e,s',l++[x],by simp,by simp[hl],e',hP'⟩
 ·rintro acc O ⟨s,l,rfl,hl,rfl,hP⟩;rw[uR hne (by intro z;rw[z]at hl;simp at hl;omega)];exact he s l hP hl
def vP{ts:List T}{n:Nat}{u s:T}(h:ts[n]?=some u):T.put (.lst ts) [.ix n] s=.lst (ts.set n s):=by dsimp[T.put,jw,h,B4]
end
section
variable {O:Rho}{b:MS}{Q:Fl->Rho->Prop}{t s':T}{k:Nat}{ks:List Nat}
def Dv{R:T->T->Prop}(h : O[k]?=some (some ⟨.io 0,s'⟩))(q:R t s'):fI k R (.rt t) O:=by unhygienic exact⟨s',h,q⟩
def Dx{R:T->Prop}(q:R t):fP R (.rt t) O:=by unhygienic exact q
def qD(h:WS b O Q):AN b Q .nx O:=by unhygienic exact h
def xB(h:Q (.rt t) O):AN b Q (.rt t) O:=by unhygienic exact h
def xz(h:Q .nx (fgts ks O)):Du ks Q .nx O:=by unhygienic exact h
variable {S:Type}{st:S->Rho}{P:S->Prop}
def AQ(h:∃s,O=st s/\P s):fFs st P Q .nx O:=by unhygienic exact h
end
section
variable {M:List Nat}{O:Rho}{t s:T}{n i:Nat}{p:Option (List Ac)}{k:Nat}{x:I}
def A4:ao M []=[]:=rfl
def DF:ao M (⇑t::O)=⇑t::ao M O:=rfl
def DE:ao M (some ⟨.io n,t⟩::O)=some ⟨.io n,t⟩::ao M O:=rfl
def xK:ao M (none::O)=none::ao M O:=rfl
def DG:ao M (some ⟨.vw none p,t⟩::O)=some ⟨.vw none p,t⟩::ao M O:=rfl
def mR:T.put t [] s=s:=by cases t<;>rfl
def y4{j:Int}:jN j=⟨.ow,.im (.int j)⟩:=rfl
def CB:rdR i ⟨.ow,.im x⟩=⟨.ow,.im x⟩:=rfl
def CD{a:Option Nat}:rdR i ⟨.vw a p,t⟩=⟨.vw a p,t⟩:=rfl
def CC{l:List I}:rdR i ⟨.ow,.li l⟩=⟨.vw (some i) (some []),.li l⟩:=rfl
def y8{l:List T}:rdR i ⟨.ow,.lst l⟩=⟨.vw (some i) (some []),.lst l⟩:=rfl
def uo:fgts [] O=O:=rfl
def rY{ks:List Nat}:fgts (i::ks) O=fgts ks ((ao [i] O).set i none):=rfl
def KZ{run:List T->Option T}{l:Nat}{m:MS}{ts:List T}{QT1:T->Prop}(O:Rho)(hrun:run ts=if ts.length=l then cT m n ts else none)(hl:ts.length=l)(he:cR ts n=O)(h:WS m O (fP QT1)):W1 (run ts) QT1:=q5 hrun hl (he▸h)
def Lh{run:List T->Option (T×T)}{l:Nat}{m:MS}{ts:List T}{Q2:T->T->Prop}(O:Rho)(hrun:run ts=if ts.length=l then fS m k n ts else none)(hl:ts.length=l)(he:fw k ts n=O)(h:WS m O (fI k Q2)):W2 (run ts) Q2:=gG hrun hl (he▸h)
end
end L2
namespace L2
open PySem PySem.Spec PyProof.Rows
section
variable {O:Rho}{g g2:MG}{ct:MT}{m:ME}{it it2:MI}{QE':R->Rho->Prop}{fr fr2:List (Option Nat)}
def lp{items:List R}{QC:List T->Rho->Prop}(Inv:Nat->List T->Rho->Prop)
  (hs:∀i r acc O,items[i]?=some r->Inv i acc O->WG g (gf (piF fr) r) (inR fr O) λO1=>WI it2 O1 λsrc2 items2 O2=>Gu (cm fr2 O2.length&&(decide (src2.length=1)&&src2.all (ax (muF fr2 (g2.mu++(ct.mu++m.mu)))))) (acc.length+items2.length<sizeLine/\W2 (bj fr2 (g2.mu++(ct.mu++m.mu)) g2 ct m items2 O2 acc) λts O3=>Inv (i+1) ts (bK fr (g.mu++(it2.mu++muF fr2 (g2.mu++(ct.mu++m.mu)))) O3 O)))
  (he:∀acc O,Inv items.length acc O->QC acc O):∀(l:List R) (i:Nat) (acc:List T) (O:Rho),items.drop i=l->i<=items.length->Inv i acc O->W2 (bY fr fr2 g it2 g2 ct m l O acc) QC
 | [],i,acc,O,hl,hi,hI=>by
  have:i=items.length:=by have:=congrArg HN hl;simp at this;omega
  subst this;exact⟨_,_,rfl,he acc O hI⟩
 | r::l,i,acc,O,hl,hi,hI=>by
  have hr:items[i]?=some r:=by rw[<-IP,hl];rfl
  have hlt:=(Gc.mp hr).1;have hl':items.drop (i+1)=l:=by rw[<-IY,hl];rfl
  obtain⟨O1,e1,src2,items2,O2,e2,al,hz,ts,O3,e3,q⟩:=hs i r acc O hr hI;dsimp[bY,e1,e2];rw[if_pos (by rw[Gd];exact⟨al,decide_eq_true hz⟩)];dsimp[e3];exact lp Inv hs he l (i+1) _ _ hl' hlt q
def zE(h:WI it O λsrc items O1=>Gu (cm fr O1.length&&cr (g.mu++(it2.mu++muF fr2 (g2.mu++(ct.mu++m.mu)))) fr.length&&cr (g2.mu++(ct.mu++m.mu)) fr2.length&&(decide (src.length=1)&&src.all (ax (muF fr (g.mu++(it2.mu++muF fr2 (g2.mu++(ct.mu++m.mu)))))))) (∃Inv:Nat->List T->Rho->Prop,Inv 0 [] O1 /\
  (∀i r acc O,items[i]?=some r->Inv i acc O->WG g (gf (piF fr) r) (inR fr O) λO1=>WI it2 O1 λsrc2 items2 O2=>Gu (cm fr2 O2.length&&(decide (src2.length=1)&&src2.all (ax (muF fr2 (g2.mu++(ct.mu++m.mu)))))) (acc.length+items2.length<sizeLine/\W2 (bj fr2 (g2.mu++(ct.mu++m.mu)) g2 ct m items2 O2 acc) λts O3=>Inv (i+1) ts (bK fr (g.mu++(it2.mu++muF fr2 (g2.mu++(ct.mu++m.mu)))) O3 O))) /\
  ∀acc O,Inv items.length acc O->acc.length<sizeLine/\QE' ⟨.ow,bF acc⟩ O)):WE (ji fr fr2 it g it2 g2 ct m) O QE':=by
 obtain⟨src,items,O1,e1,al,Inv,h0,hs,he⟩:=h;obtain⟨ts,O2,e,hz,q⟩:=lp (QC:=λacc O=>acc.length<sizeLine/\QE' ⟨.ow,bF acc⟩ O) Inv hs he items 0 [] O1 rfl (GY _) h0;apply⟨⟨.ow,bF ts⟩,O2,?_,q⟩;dsimp[ji,e1];rw[if_pos al];dsimp[e];rw[if_pos hz]
def rS{items:List I}{M:List Nat}{QC:List T->Rho->Prop}(st:Rho)(hst:∀x,WG g (gf (piF fr2) ⟨.ow,.im x⟩) (inR fr2 st) λO1=>WE m O1 λr O3=>r=⟨.ow,.im x⟩/\bK fr2 M O3 st=st)(acc:List T)(q:QC (acc++items.map T.im) st):W2 (bj fr2 M g mYes m (items.map λi=>⟨.ow,.im i⟩) st acc) QC:=by
 apply iA (items:=items.map λi=>⟨.ow,.im i⟩) (λi a O=>O=st/\a=acc++(items.take i).map T.im) (λi r a O hr hI=>?_) (λa O hI=>?_) _ 0 acc st rfl (GY _) ⟨rfl,by simp⟩
 ·obtain⟨rfl,rfl⟩:=hI;obtain⟨x,hx,rfl⟩:=aC hr;apply(hst x).mono λO1 w=>jz ⟨λ_=>w.mono λr O3 ⟨e,e'⟩=>⟨_,e,e',?_⟩,λz=>by cases z⟩;rw[JH,hx];simp
 ·obtain⟨rfl,rfl⟩:=hI;simp at *;exact q
end
abbrev less(K:yF) (a:Addr):yF:=K.filter λp=>!(p.1==a)
def iI:∀{K:yF} {a b:Addr},b≠a->(less K a).lookup b=K.lookup b
 | [],_,_,_=>rfl
 | (c,o)::K,a,b,h=>by
  have ih:=iI (K:=K) h;by_cases e:c=a
  ·subst e;have:less ((c,o)::K) c=less K c:=by simp[less]
   rw[this,ih];show _=match b==c with|true=>some o|false=>IL b K
   rw[beq_eq_false_iff_ne.mpr h]
  ·have:less ((c,o)::K) a=(c,o)::less K a:=by simp[less,e]
   rw[this];show(match b==c with|true=>some o|false=>IL b (less K a))=match b==c with|true=>some o|false=>IL b K
   rw[ih]
def jf:∀{K:yF} {a:Addr},(less K a).lookup a=none
 | [],_=>rfl
 | (c,o)::K,a=>by
  have ih:=jf (K:=K) (a:=a);by_cases e:c=a
  ·subst e;have:less ((c,o)::K) c=less K c:=by simp[less]
   rw[this,ih]
  ·have:less ((c,o)::K) a=(c,o)::less K a:=by simp[less,e]
   rw[this];show(match a==c with|true=>some o|false=>IL a (less K a))=none;rw[beq_eq_false_iff_ne.mpr (Mj e)];exact ih
def xR{K:yF}{a:Addr}{h:Heap}(X:K.In h):(less K a).In h:=λb o e=>by
 by_cases q:b=a;subst q;rw[jf]at e;cases e;rw[iI q]at e;exact X b o e
abbrev Lst(o:Obj):Prop:=∃vs:Array LH,o={cls:=.type "list",data:=.seq vs}
abbrev Ly(K:yF)(a:Addr):Prop:=∀o,K.lookup a=some o->Lst o
def Ly.get{K:yF}{a b:Addr}{o:Obj}(h:Ly K a)(e:K.lookup b=some o)(n:¬ Lst o):(less K a).lookup b=some o:=by
 rw[iI (a:=a) λq:b=a=>n (h o (by rw[<-q];exact e))];exact e
abbrev KW(K:yF)(mg:Str->Option LH)(name:Str)(st:Stmt)(ps:List Str):Prop:=
 ∃(f:Addr) (fd:M5),mg name=some (.ref f)/\Fun K name name st f fd/\(∀us:List LH,us.length=ps.length->Qm fd ⟨us,[]⟩=pure (ps.zip us))
def KW.to{K:yF}{mg:Str->Option LH}{name:Str}{st:Stmt}{ps:List Str}(d:KW K mg name st ps):Def K mg name st ps:=by
 obtain⟨f,fd,h1,h2,h3⟩:=d;exact⟨f,fd,h1,h2,.all h3⟩
def KW.less{K:yF}{mg:Str->Option LH}{name:Str}{st:Stmt}{ps:List Str}{a:Addr}(d:KW K mg name st ps)(h:Ly K a):KW (less K a) mg name st ps:=by
 obtain⟨f,fd,h1,F,h3⟩:=d;obtain⟨oc,od,kV,doc,pm,an,cdv,ct,osl,e,lk,hcd⟩:=F.ex;have lk':=h.get lk (by rintro⟨vs,z⟩;cases z);apply⟨f,fd,h1,⟨⟨oc,od,kV,doc,pm,an,cdv,ct,osl,e,lk',?_⟩,?_⟩,h3⟩
 ·unfold Ij at hcd|-;cases cdv with
  | ref c=>
   dsimp only at hcd|-;cases q:IL c K with
   | none=>rw[q]at hcd;cases hcd
   | some o=>
    by_cases w:c=a
    ·subst w;obtain⟨vs,rfl⟩:=h o q;rw[q]at hcd;cases hcd
    ·rw[iI w];exact hcd
  | _=>cases hcd
 ·unfold HJ;dsimp only;rw[lk']
def KW.mk'{K:yF}{h:Heap}{mg:Str->Option LH}{name:Str}{st:Stmt}{ps:List Str}(X:K.In h)(G:h.Ns Mq mg){f:Addr}{oc:LH}{od an:Option Addr}{osl:Array (Option LH)}{kV doc pm cdv ct:LH}
  (a:J3 K Mq name=some (some (.ref f))) (l:K.lookup f=some ⟨oc,od,.func (HC name name (dv st) (bA st) (ai st) .none kV doc pm an cdv ct),osl⟩) (c:Ij K cdv name=true) (k:HJ K (.ref f)=true)
  (hb:∀(kV doc pm:LH) (an:Option Addr) (cdv ct:LH) (us:List LH),us.length=ps.length->Qm (HC name name (dv st) (bA st) (ai st) .none kV doc pm an cdv ct) ⟨us,[]⟩=pure (ps.zip us)):KW K mg name st ps:=
 ⟨f,_,PySem.W.mg_of X G a,AS l c k,hb kV doc pm an cdv ct⟩
def walkP{l:PySem.W.OpenLaw}{k:Nat}{q:LR}{loose:List Str}{XP:(Str->Option LH)->Heap->Prop}{YP:Mb->Heap->Prop}{d:DefRec}{K:QV->yF}{x:Str}{st:Stmt}{run:List T->Option T}{A:(Str->Option LH)->yF->Prop}
  (hn:l.most=some 63) (hdf:d.params.defaults=[]) (hr:Lb k O8)
  (hY:∀(w:Mb) (h:Heap),YP w h->(K w.params).In h)
  (hA:∀(w:Mb) (mg:Str->Option LH) (h:Heap),(K w.params).In h->h.Ns Mq mg->A mg (K w.params))
  (hL:∀(mg:Str->Option LH) (K:yF) (a:Addr),A mg K->Ly K a->A mg (less K a))
  (hd:∀(mg:Str->Option LH) (K:yF),A mg K->Def K mg d.name st [x])
  (hb:∀(kV doc pm:LH) (an:Option Addr) (cdv ct:LH) (s:LI) (v:LH),O7 s (HC d.name d.name (dv st) (bA st) (ai st) .none kV doc pm an cdv ct) ⟨[v],[]⟩ [(x,v)])
  (F:∀(w:Mb) (mg:Str->Option LH) (K:yF) (base:Heap),A mg K->Has l.prog w K mg base k d.name [x] (spP K run))
  (law:∀ns:List Int,ns.length<=63->run [.li (ns.map .int)]=some (.im (.bl true))) :
  PySem.W.WalkO q loose XP YP l.row.toRowW d [] (λf vs=>PySem.call f vs):=by
 apply Att.attach_call hn hdf λw s₀ s₁ mg mb fa o pm cd doc a vs ns G Y ho hd' hcd hmg hobj hints hlen hg=>?_;have KX:=hY w _ Y;have a0:=hA w mg _ KX G.T.g;have la:Ly (K w.params) a:=λo e=>by
  have e2:=KX a o e;rw[hobj]at e2;cases e2;exact⟨_,rfl⟩
 have a1:=hL mg _ a a0 la;obtain⟨fd,hb',hF⟩:=uI hmg (hd mg _ a1) hb λbase _ _=>F w mg (less (K w.params) a) base a1;apply uH (xR KX) G.T.g G.T.b G.T.builtins G.T.nolimit hg hobj hints (GV hlen (by decide)) hr hF hb' (λH hO hS=>?_) (λ_ _ _ z=>z);rcases hS with hS|⟨o,its,n,e,_⟩
 ·apply⟨[.li (ns.map .int)],_,?_,law ns hlen,?_⟩
  ·apply⟨_,_,rfl,⟨[a],?_⟩,rfl⟩;exact⟨a,_,rfl,hS,KT.ints ns,rfl⟩
  ·intro v H' z;obtain⟨_,F,z,_⟩:=z;rw[Rp]at z;exact z.1
 ·rw[jf]at e;cases e
abbrev vs(x:String) (t:Tok):LH:=.str (Mg x) t
abbrev vi(n:Int):LH:=.int n 0
abbrev vr(a:Addr):LH:=.ref a
abbrev eO(p:QV) (x:String) (t:Tok) (v:LH):QJ:=⟨PyData.keyHash p (Mg x),.str (Mg x) t,v⟩
abbrev oC(vs:List LH):Obj:={cls:=.type "code",data:=.fields vs.toArray}
abbrev oD(es:List QJ) (n:Nat):Obj:={cls:=.type "dict",data:=.dict es.toArray n}
abbrev oF(x:String) (st:Stmt) (pm:LH) (c:Addr):Obj:={cls:=.type "function",data:=.func (HC (Mg x) (Mg x) (dv st) (bA st) (ai st) .none .none .none pm none (.ref c) .none)}
abbrev oc(x:String) (t l n r:Nat) (v:Option (Nat×Nat)) (d e:Nat):Obj:=oC [vs x t,vs x (t+1),vs "/claim/cut.py" (t+2),vi l,vi n,vi 0,vi 0,vi 3,vr r,.bool true,vi 181,vr (r+1),.none,(match v with|some p=>vr p.1|none=>.none),(match v with|some p=>vr p.2|none=>.none),vr d,vi e,vi l,vs "/claim/cut.py" (e+1)]
def KW.mkO{K:yF}{h:Heap}{mg:Str->Option LH}{x:String}{st:Stmt}{ps:List Str}(X:K.In h)(G:h.Ns Mq mg)(f:Addr)(pm:LH)(c:Addr)
  (hb:∀(kV doc pm:LH) (an:Option Addr) (cdv ct:LH) (us:List LH),us.length=ps.length->Qm (HC (Mg x) (Mg x) (dv st) (bA st) (ai st) .none kV doc pm an cdv ct) ⟨us,[]⟩=pure (ps.zip us))
  (a:J3 K Mq (Mg x)=some (some (.ref f)):=by rfl') (l:K.lookup f=some (oF x st pm c):=by rfl') (cd:Ij K (.ref c) (Mg x)=true:=by rfl'):KW K mg (Mg x) st ps:=
 KW.mk' X G a l cd (by unfold HJ;dsimp only;rw[l];rfl) hb
def bN{K:yF}{h:Heap}{mg:Str->Option LH}(X:K.In h)(G:h.Ns Mq mg){n:Str}(e:J3 K Mq n=some none:=by rfl'):mg n=none:=PySem.W.mg_none_of X G e
section
variable {α A B C D E F:Type}{f g:A->B->C->D->E->F->List LH->α}
def Lj{α:Type}{n:Nat}{l:List α}(h:l.length=n+1):∃a r,l=a::r/\r.length=n:=by
 cases l with
 | nil=>cases h
 | cons a r=>exact⟨a,r,rfl,Nat.succ.inj h⟩
def by1(h:∀x1 x2 x3 x4 x5 x6 a0,f x1 x2 x3 x4 x5 x6 [a0]=g x1 x2 x3 x4 x5 x6 [a0]):∀x1 x2 x3 x4 x5 x6 (us:List LH),us.length=1->f x1 x2 x3 x4 x5 x6 us=g x1 x2 x3 x4 x5 x6 us:=λx1 x2 x3 x4 x5 x6 us e=>by
 obtain⟨a0,u0,rfl,e0⟩:=Lj e;obtain rfl:=G4.mp e0;exact h x1 x2 x3 x4 x5 x6 a0
def by2(h:∀x1 x2 x3 x4 x5 x6 a0 a1,f x1 x2 x3 x4 x5 x6 [a0,a1]=g x1 x2 x3 x4 x5 x6 [a0,a1]):∀x1 x2 x3 x4 x5 x6 (us:List LH),us.length=2->f x1 x2 x3 x4 x5 x6 us=g x1 x2 x3 x4 x5 x6 us:=λx1 x2 x3 x4 x5 x6 us e=>by
 obtain⟨a0,u0,rfl,e0⟩:=Lj e;obtain⟨a1,u1,rfl,e1⟩:=Lj e0;obtain rfl:=G4.mp e1;exact h x1 x2 x3 x4 x5 x6 a0 a1
def by3(h:∀x1 x2 x3 x4 x5 x6 a0 a1 a2,f x1 x2 x3 x4 x5 x6 [a0,a1,a2]=g x1 x2 x3 x4 x5 x6 [a0,a1,a2]):∀x1 x2 x3 x4 x5 x6 (us:List LH),us.length=3->f x1 x2 x3 x4 x5 x6 us=g x1 x2 x3 x4 x5 x6 us:=λx1 x2 x3 x4 x5 x6 us e=>by
 obtain⟨a0,u0,rfl,e0⟩:=Lj e;obtain⟨a1,u1,rfl,e1⟩:=Lj e0;obtain⟨a2,u2,rfl,e2⟩:=Lj e1;obtain rfl:=G4.mp e2;exact h x1 x2 x3 x4 x5 x6 a0 a1 a2
def by4(h:∀x1 x2 x3 x4 x5 x6 a0 a1 a2 a3,f x1 x2 x3 x4 x5 x6 [a0,a1,a2,a3]=g x1 x2 x3 x4 x5 x6 [a0,a1,a2,a3]):∀x1 x2 x3 x4 x5 x6 (us:List LH),us.length=4->f x1 x2 x3 x4 x5 x6 us=g x1 x2 x3 x4 x5 x6 us:=λx1 x2 x3 x4 x5 x6 us e=>by
 obtain⟨a0,u0,rfl,e0⟩:=Lj e;obtain⟨a1,u1,rfl,e1⟩:=Lj e0;obtain⟨a2,u2,rfl,e2⟩:=Lj e1;obtain⟨a3,u3,rfl,e3⟩:=Lj e2;obtain rfl:=G4.mp e3;exact h x1 x2 x3 x4 x5 x6 a0 a1 a2 a3
end
end L2
namespace L2
open PySem
noncomputable section
abbrev ca:MS:=(am (mIf (aJ (mOp eqT (mIx (af 0) (mC (.int 0))) (mC (.str "op")))) (bd (mSl (af 0) (eC (mC (.int 2))) mNoPart)) mNext)
  (am (mIf (aJ (mOp eqT (mIx (af 0) (mC (.int 0))) (mC (.str "if")))) (bd (mSl (af 0) (eC (mC (.int 1))) mNoPart)) mNext)
  (bd (ay [] mNil))))
abbrev df(ts:List T):Option T:=if ts.length=1 then cT ca 1 ts else none
abbrev dA:MS:=(am (aB (aR [] mNil) (ag 1))
  (am (aB (aR [0] (aa 0 mNil)) (ag 2))
  (am (dL (pw (af 2))
  (bU [3] (am (aB (lE 2 nT (af 2)) (ag 3))
  (am (be (b7 1 [3] apT (af 1) (aa 3 mNil)))
  (be (b7 2 [] j7 (af 2) (ac (mUn wA (mB df (aa 3 mNil))) mNil)))))))
  (bd (af 1)))))
abbrev fz(ts:List T):Option T:=if ts.length=1 then cT dA 4 ts else none
abbrev gE:MS:=(bd (mB gq (ac (aU [none,none] (mIt (mB fz (aa 0 mNil))) (ag 1) (aJ (mOp eqT (mIx (af 1) (mC (.int 0))) (mC (.str "at")))) (ay [] (ac (mIx (af 1) (mC (.int 1))) (ac (mIx (af 1) (mC (.int 2))) mNil)))) mNil)))
abbrev jr(ts:List T):Option T:=if ts.length=1 then cT gE 1 ts else none
abbrev cz:MS:=(am (aB (aR [] mNil) (ag 2))
  (am (bZ (mIt (mB jr (aa 1 mNil))) (dr (aW (ag 3) (aW (ag 4) mGNil)))
  (bU [3,4,5] (am (aB (ay [0,3,4] (aa 0 (aa 3 (aa 4 mNil)))) (ag 5))
  (mIf (aJ (mOp iP (af 5) (af 2))) (be (b7 2 [5] apT (af 2) (aa 5 mNil))) mNext))))
  (bd (af 2))))
abbrev dR(ts:List T):Option T:=if ts.length=2 then cT cz 6 ts else none
abbrev dB:MS:=(bd (mB gq (ac (ji [none,none,none,none] [some 0,some 1,some 2,none] (mIt (mIx (af 0) (mC (.int 2)))) (dr (aW (ag 1) (aW (ag 2) mGNil))) (mIt (mB dR (aa 1 (aa 2 mNil)))) (ag 3) mYes (af 3)) mNil)))
abbrev fA(ts:List T):Option T:=if ts.length=1 then cT dB 1 ts else none
abbrev iK:MS:=(am (aB (mOp bh (mOp el (mC (.int 7901)) (af 1)) (mC (.int 24697))) (ag 2))
  (am (mIf (aJ (mOp (fU λi j=>decide (i<j)) (af 1) (mB cL (aa 0 mNil)))) (aB (mIx (af 0) (af 1)) (ag 2)) (mIf (aJ (mOp (fU λi j=>decide (j<i)) (mB cL (aa 0 mNil)) (mC (.int 0)))) (aB (mOp bh (mOp el (mOp f9 (mIx (af 0) (mOp f9 (af 1) (mB cL (aa 0 mNil)))) (mC (.int 2147483629))) (mC (.int 31))) (mOp el (mC (.int 7901)) (af 1))) (ag 2)) mNext))
  (am (aB (mC (.int 0)) (ag 3))
  (am (mIf (aJ (mOp (fU λi j=>decide (j<=i)) (af 2) (mOp sK (mC (.int 10)) (mC (.int 18))))) (aB (af 2) (ag 3)) mNext)
  (bd (aR [3] (aa 3 (ac (mOp bh (mOp f9 (mOp sK (mOp bh (mOp el (mOp f9 (af 2) (mC (.int 2147483629))) (mC (.int 48271))) (mOp el (mC (.int 40692)) (af 1))) (mC (.int 5))) (mC (.int 2147483629))) (mC (.int 1))) mNil))))))))
abbrev kH(ts:List T):Option T:=if ts.length=2 then cT iK 4 ts else none
abbrev iM:MS:=(am (mIf (aJ (mOp (fU λi j=>decide (j<i)) (mIx (af 0) (mC (.int 0))) (mC (.int 0)))) (am (aB (mOp f9 (mIx (af 0) (mC (.int 0))) (af 1)) (ag 2))
  (am (aB (mOp jC (mIx (af 0) (mC (.int 0))) (af 1)) (pv 0 (af 0) (mC (.int 0))))
  (bd (af 2)))) mNext)
  (am (aB (mOp f9 (mOp el (mIx (af 0) (mC (.int 1))) (mC (.int 48271))) (mC (.int 2147483647))) (ag 3))
  (am (aB (mOp bh (mOp f9 (mOp bh (mOp el (af 3) (mC (.int 40692))) (mC (.int 30103))) (mC (.int 2147483399))) (mC (.int 1))) (pv 0 (af 0) (mC (.int 1))))
  (bd (mOp f9 (mOp jC (mOp bh (mOp el (af 3) (mC (.int 2147483647))) (mIx (af 0) (mC (.int 1)))) (mC (.int 8191))) (af 1))))))
abbrev aj(ts:List T):Option (T×T):=if ts.length=2 then fS iM 0 4 ts else none
abbrev gB:MS:=(am (aB (mC (.str "abcdefghijklmnopqrstuvwxyz")) (ag 2))
  (am (aB (mM ki (mC (.str "")) (ac (aU [some 0,none,some 2,none,none,none,none,none,none] (bc (ac (ak 0 0 aj (aa 0 (ac (mC (.int 6)) mNil))) mNil)) (ag 7) mYes (mIx (af 2) (ak 0 0 aj (aa 0 (ac (mC (.int 26)) mNil))))) mNil)) (ag 3))
  (am (lF 4 5 (ac (ak 0 0 aj (aa 0 (ac (mC (.int 26)) mNil))) (ac (ak 0 0 aj (aa 0 (ac (mOp bh (mB cL (aa 3 mNil)) (mC (.int 1))) mNil))) mNil)))
  (am (aB (aR [] mNil) (ag 6))
  (am (bZ (bc (aa 1 mNil)) (ag 7)
  (bU [7,8] (am (aB (mOp bh (mOp bh (mSl (af 3) mNoPart (eC (af 5))) (mIx (af 2) (mOp f9 (mOp bh (af 4) (mOp el (mC (.int 5)) (af 7))) (mC (.int 26))))) (mSl (af 3) (eC (af 5)) mNoPart)) (ag 8))
  (am (mIf (aJ (mOp eqT (mOp f9 (af 7) (mC (.int 2))) (mC (.int 1)))) (aB (mOp bh (af 8) (mC (.str "q"))) (ag 8)) mNext)
  (am (mIf (aJ (mOp inT (af 8) (ay [] (ac (mC (.str "min")) (ac (mC (.str "max")) (ac (mC (.str "rest")) (ac (mC (.str "less")) (ac (mC (.str "if")) mNil)))))))) (aB (mOp bh (af 8) (mC (.str "w"))) (ag 8)) mNext)
  (be (b7 6 [8] apT (af 6) (aa 8 mNil))))))))
  (bd (af 6)))))))
abbrev jp(ts:List T):Option (T×T):=if ts.length=2 then fS gB 0 9 ts else none
abbrev jR:MS:=(am (mIf (aJ (mOp eqT (ak 0 0 aj (aa 0 (ac (mC (.int 4)) mNil))) (mC (.int 0)))) (bd (mOp el (ay [] (ac (mC (.int 0)) mNil)) (af 1))) mNext)
  (bd (mB gq (ac (aU [some 0,none,none] (bc (aa 1 mNil)) (ag 2) mYes (mIx (aR [] (ac (mC (.int 0)) (ac (mC (.int 1)) (ac (mOp da (mC (.int 0)) (mC (.int 1))) (ac (mC (.int 2)) (ac (mOp da (mC (.int 0)) (mC (.int 2))) mNil)))))) (ak 0 0 aj (aa 0 (ac (mC (.int 5)) mNil))))) mNil))))
abbrev jT(ts:List T):Option (T×T):=if ts.length=2 then fS jR 0 2 ts else none
abbrev dw:MS:=(am (aB (ak 0 0 aj (aa 0 (aa 1 mNil))) (ag 2))
  (am (aB (aU [some 0,none,none,none,none] (fL (ac (mOp bh (af 2) (mC (.int 1))) (aa 1 mNil))) (ag 4) mYes (mIx (aR [] (ac (mC (.int 0)) (ac (mC (.int 1)) (ac (mOp da (mC (.int 0)) (mC (.int 1))) (ac (mC (.int 2)) (ac (mOp da (mC (.int 0)) (mC (.int 2))) mNil)))))) (ak 0 0 aj (aa 0 (ac (mC (.int 5)) mNil))))) (ag 3))
  (bd (mB gq (ac (mOp bh (mOp bh (mOp el (aR [] (ac (mC (.int 0)) mNil)) (af 2)) (aR [] (ac (mOp da (mOp da (mC (.int 0)) (mC (.int 1))) (ak 0 0 aj (aa 0 (ac (mC (.int 2)) mNil)))) mNil))) (af 3)) mNil)))))
abbrev dE(ts:List T):Option (T×T):=if ts.length=2 then fS dw 0 4 ts else none
abbrev cu:MS:=(am (aB (aU [none,none,none,none,none,none] (bc (aa 2 mNil)) (ag 4) mYes (aR [] mNil)) (ag 3))
  (am (bZ (bc (aa 2 mNil)) (ag 4)
  (bU [4,5] (bZ (bc (ac (ak 0 0 aj (aa 0 (ac (mC (.int 4)) mNil))) mNil)) (ag 5)
  (bU [5] (be (b7 3 [] apT (mIx (af 3) (af 4)) (ac (ay [] (ac (ak 0 0 aj (aa 0 (aa 2 mNil))) (ac (ak 0 0 jT (aa 0 (aa 1 mNil))) mNil))) mNil)))))))
  (bd (af 3))))
abbrev dO(ts:List T):Option (T×T):=if ts.length=3 then fS cu 0 6 ts else none
abbrev cv:MS:=(am (aB (aU [none,none,none,none,none,none] (bc (aa 2 mNil)) (ag 4) mYes (aR [] mNil)) (ag 3))
  (am (bZ (bc (aa 2 mNil)) (ag 4)
  (bU [4,5] (bZ (bc (ac (mOp bh (mC (.int 1)) (ak 0 0 aj (aa 0 (ac (mC (.int 3)) mNil)))) mNil)) (ag 5)
  (bU [5] (mIf (kr (aJ (mOp (fU λi j=>decide (j<i)) (af 4) (mC (.int 0)))) (aJ (mOp eqT (ak 0 0 aj (aa 0 (ac (mC (.int 4)) mNil))) (mC (.int 0))))) (be (b7 3 [] apT (mIx (af 3) (af 4)) (ac (ay [] (ac (ak 0 0 aj (aa 0 (aa 4 mNil))) (ac (mOp el (ay [] (ac (mC (.int 0)) mNil)) (af 1)) mNil))) mNil))) (be (b7 3 [] apT (mIx (af 3) (af 4)) (ac (ay [] (ac (ak 0 0 aj (aa 0 (aa 2 mNil))) (ac (ak 0 0 dE (aa 0 (aa 1 mNil))) mNil))) mNil))))))))
  (bd (af 3))))
abbrev cB(ts:List T):Option (T×T):=if ts.length=3 then fS cv 0 6 ts else none
abbrev cy:MS:=(am (aB (aR [] mNil) (ag 3))
  (am (bZ (bc (ac (mB cL (aa 0 mNil)) mNil)) (ag 4)
  (bU [4] (be (b7 3 [] apT (af 3) (ac (mOp el (mIx (af 0) (mOp f9 (mOp bh (af 4) (af 1)) (mB cL (aa 0 mNil)))) (mIx (af 2) (af 4))) mNil)))))
  (bd (mB gq (aa 3 mNil)))))
abbrev cE(ts:List T):Option T:=if ts.length=3 then cT cy 5 ts else none
abbrev bH:MS:=(am (aB (mOp bh (mC (.int 1)) (ak 0 0 aj (aa 0 (ac (mC (.int 2)) mNil)))) (ag 3))
  (am (aB (aR [] (ac (ay [] (ac (mC (.int 0)) (ac (mC (.int 0)) (ac (ay [3] (ac (mC (.int 0)) (aa 3 mNil))) mNil)))) (ac (ay [] (ac (mC (.int 1)) (ac (mC (.int 1)) (ac (ay [] (ac (mC (.int 0)) (ac (mOp da (mOp da (mC (.int 0)) (mC (.int 1))) (ak 0 0 aj (aa 0 (ac (mC (.int 2)) mNil)))) mNil))) mNil)))) (ac (ay [] (ac (mC (.int 0)) (ac (mC (.int 1)) (ac (ay [] (ac (mOp da (mC (.int 0)) (mC (.int 1))) (ac (mOp da (ak 0 0 aj (aa 0 (ac (mC (.int 3)) mNil))) (mC (.int 1))) mNil))) mNil)))) mNil)))) (ag 4))
  (am (be (b7 4 [] apT (af 4) (ac (ay [] (ac (mC (.int 1)) (ac (mC (.int 0)) (ac (ay [] (ac (mOp da (mC (.int 0)) (ak 0 0 aj (aa 0 (ac (mC (.int 2)) mNil)))) (ac (mC (.int 0)) mNil))) mNil)))) mNil)))
  (am (mIf (aJ (mOp eqT (af 1) (mC (.int 3)))) (am (aB (aR [] (ac (ay [] (ac (mC (.int 0)) (ac (mC (.int 0)) (ac (ay [3] (ac (mC (.int 0)) (ac (mC (.int 0)) (aa 3 mNil)))) mNil)))) (ac (ay [] (ac (mC (.int 1)) (ac (mC (.int 1)) (ac (ay [] (ac (mC (.int 0)) (ac (mC (.int 0)) (ac (mOp da (mC (.int 0)) (mC (.int 1))) mNil)))) mNil)))) (ac (ay [] (ac (mC (.int 0)) (ac (mC (.int 1)) (ac (ay [] (ac (mC (.int 0)) (ac (mOp da (mC (.int 0)) (mC (.int 1))) (ac (mC (.int 0)) mNil)))) mNil)))) (ac (ay [] (ac (mC (.int 1)) (ac (mC (.int 0)) (ac (ay [] (ac (mC (.int 0)) (ac (mC (.int 0)) (ac (ak 0 0 aj (aa 0 (ac (mC (.int 2)) mNil))) mNil)))) mNil)))) mNil))))) (ag 4))
  (aB (mOp bh (af 4) (aR [] (ac (ay [] (ac (mC (.int 2)) (ac (mC (.int 2)) (ac (ay [] (ac (mC (.int 0)) (ac (mOp bh (mC (.int 1)) (ak 0 0 aj (aa 0 (ac (mC (.int 2)) mNil)))) (ac (mC (.int 0)) mNil)))) mNil)))) (ac (ay [] (ac (mC (.int 0)) (ac (mC (.int 2)) (ac (ay [] (ac (mOp da (mC (.int 0)) (mC (.int 1))) (ac (mC (.int 0)) (ac (mC (.int 1)) mNil)))) mNil)))) (ac (ay [] (ac (mC (.int 2)) (ac (mC (.int 0)) (ac (ay [] (ac (mC (.int 0)) (ac (mC (.int 0)) (ac (mC (.int 0)) mNil)))) mNil)))) mNil))))) (ag 4))) mNext)
  (am (lF 5 6 (ac (ak 0 0 aj (aa 0 (aa 1 mNil))) (ac (aU [some 0,none,none,none,none,none,none,none,none,none,none,none] (bc (aa 1 mNil)) (ag 11) mYes (mOp da (mC (.int 1)) (mOp el (mC (.int 2)) (ak 0 0 aj (aa 0 (ac (mC (.int 2)) mNil)))))) mNil)))
  (am (aB (aU [none,none,none,none,none,none,none,none,none,none,none] (bc (aa 2 mNil)) (ag 8) mYes (aR [] mNil)) (ag 7))
  (am (bZ (mIt (af 4)) (dr (aW (ag 8) (aW (ag 9) (aW (ag 10) mGNil))))
  (bU [8,9,10] (be (b7 7 [] apT (mIx (af 7) (af 8)) (ac (ay [9] (aa 9 (ac (mB cE (aa 10 (aa 5 (aa 6 mNil)))) mNil))) mNil)))))
  (am (bZ (fL (ac (mC (.int 3)) (aa 2 mNil))) (ag 8)
  (bU [8] (be (b7 7 [] apT (mIx (af 7) (af 8)) (ac (ay [] (ac (ak 0 0 aj (aa 0 (aa 8 mNil))) (ac (ak 0 0 jT (aa 0 (aa 1 mNil))) mNil))) mNil)))))
  (bd (af 7))))))))))
abbrev cC(ts:List T):Option (T×T):=if ts.length=3 then fS bH 0 11 ts else none
abbrev cw:MS:=(am (aB (ak 0 0 cB (aa 0 (aa 1 (aa 2 mNil)))) (ag 3))
  (am (aB (mOp bh (mC (.int 1)) (ak 0 0 aj (aa 0 (aa 2 mNil)))) (ag 4))
  (am (aB (mOp el (aR [] (ac (mC (.int 0)) mNil)) (af 1)) (ag 5))
  (am (bZ (bc (aa 4 mNil)) (ag 6)
  (bU [6,7] (am (aB (aU [some 0,none,none,none,none,none,none,none,none] (bc (aa 1 mNil)) (ag 8) mYes (mOp da (ak 0 0 aj (aa 0 (ac (mC (.int 3)) mNil))) (mC (.int 1)))) (ag 7))
  (am (aB (aU [none,none,none,none,none,some 5,none,some 7,none] (bc (aa 1 mNil)) (ag 8) mYes (mOp da (mB pA (ac (mOp da (mC (.int 0)) (mC (.int 2))) (ac (mB pC (ac (mC (.int 2)) (ac (mOp bh (mIx (af 5) (af 8)) (mIx (af 7) (af 8))) mNil))) mNil))) (mIx (af 5) (af 8)))) (ag 7))
  (am (mIf (aJ (mOp eqT (mOp bh (af 6) (mC (.int 1))) (af 4))) (aB (aU [none,none,none,none,none,none,none,none,none] (mIt (af 5)) (ag 8) mYes (mOp da (mC (.int 0)) (af 8))) (ag 7)) mNext)
  (am (aB (aU [none,none,none,none,none,some 5,none,some 7,none] (bc (aa 1 mNil)) (ag 8) mYes (mOp bh (mIx (af 5) (af 8)) (mIx (af 7) (af 8)))) (ag 5))
  (be (b7 3 [] mD (mIx (af 3) (af 6)) (ac (mC (.int 0)) (ac (ay [] (ac (mOp f9 (mOp bh (af 6) (mC (.int 1))) (af 4)) (ac (mB gq (aa 7 mNil)) mNil))) mNil))))))))))
  (bd (af 3))))))
abbrev dP(ts:List T):Option (T×T):=if ts.length=3 then fS cw 0 8 ts else none
abbrev gC:MS:=(am (lF 1 2 (ac (ak 0 0 aj (aa 0 (ac (mC (.int 8)) mNil))) (ac (ak 0 0 aj (aa 0 (ac (mC (.int 16)) mNil))) mNil)))
  (am (aB (mIx (aR [] (ac (mC (.int 1)) (ac (mC (.int 2)) (ac (mC (.int 2)) (ac (mC (.int 2)) (ac (mC (.int 2)) (ac (mC (.int 1)) (ac (mC (.int 2)) (ac (mC (.int 3)) mNil))))))))) (mOp f9 (af 2) (mC (.int 8)))) (ag 3))
  (am (aB (mOp bh (mC (.int 1)) (ak 0 0 aj (aa 0 (ac (mIx (aR [] (ac (mC (.int 3)) (ac (mC (.int 6)) mNil))) (mOp jC (af 2) (mC (.int 8)))) mNil)))) (ag 4))
  (am (mIf (aJ (mOp (fU λi j=>decide (i<j)) (af 1) (mC (.int 3)))) (bd (ay [3] (aa 3 (ac (ak 0 0 dO (aa 0 (aa 3 (aa 4 mNil)))) mNil)))) mNext)
  (am (mIf (aJ (mOp (fU λi j=>decide (i<j)) (af 1) (mC (.int 5)))) (bd (ay [3] (aa 3 (ac (ak 0 0 cB (aa 0 (aa 3 (aa 4 mNil)))) mNil)))) mNext)
  (am (mIf (aJ (mOp eqT (af 1) (mC (.int 5)))) (bd (ay [3] (aa 3 (ac (ak 0 0 dP (aa 0 (aa 3 (aa 4 mNil)))) mNil)))) mNext)
  (am (aB (mB pA (ac (mC (.int 2)) (aa 3 mNil))) (ag 3))
  (bd (ay [3] (aa 3 (ac (ak 0 0 cC (aa 0 (aa 3 (ac (mB pA (aa 3 (ac (mB pC (aa 4 (ac (mC (.int 5)) mNil))) mNil))) mNil)))) mNil)))))))))))
abbrev jq(ts:List T):Option (T×T):=if ts.length=1 then fS gC 0 5 ts else none
abbrev gz:MS:=(am (aB (mB uM (aa 1 mNil)) (ag 2))
  (am (dL (aJ (mOp (fU λi j=>decide (j<i)) (mB cL (aa 2 mNil)) (mC (.int 1))))
  (bU [3,4] (am (aB (ak 0 0 aj (aa 0 (ac (mOp da (mB cL (aa 2 mNil)) (mC (.int 1))) mNil))) (ag 3))
  (bU [3,4] (mIf (kr (aJ (mOp (fU λi j=>decide (j<i)) (mB cL (aa 2 mNil)) (mC (.int 2)))) (aJ (mOp eqT (ak 0 0 aj (aa 0 (ac (mC (.int 5)) mNil))) (mC (.int 0))))) (am (aB (mB pC (aa 3 (ac (mOp da (mB cL (aa 2 mNil)) (mC (.int 3))) mNil))) (ag 3))
  (aB (aR [] (ac (ay [] (ac (mC (.str "if")) (ac (mIx (af 2) (af 3)) (ac (mIx (af 2) (mOp bh (af 3) (mC (.int 1)))) (ac (mIx (af 2) (mOp bh (af 3) (mC (.int 2)))) mNil))))) mNil)) (g9 2 (af 2) (af 3) (mOp bh (af 3) (mC (.int 3)))))) (am (aB (mIx (aR [] (ac (mC (.str "+")) (ac (mC (.str "-")) (ac (mC (.str "*")) (ac (mC (.str "min")) (ac (mC (.str "max")) (ac (mC (.str "rest")) (ac (mC (.str "less")) mNil)))))))) (ak 0 0 aj (aa 0 (ac (mC (.int 7)) mNil)))) (ag 4))
  (aB (aR [] (ac (ay [4] (ac (mC (.str "op")) (aa 4 (ac (mIx (af 2) (af 3)) (ac (mIx (af 2) (mOp bh (af 3) (mC (.int 1)))) mNil))))) mNil)) (g9 2 (af 2) (af 3) (mOp bh (af 3) (mC (.int 2)))))))))))
  (bd (mIx (af 2) (mC (.int 0))))))
abbrev jn(ts:List T):Option (T×T):=if ts.length=2 then fS gz 0 5 ts else none
abbrev gA:MS:=(am (aB (ak 0 0 jq (aa 0 mNil)) (dr (aW (ag 1) (aW (ag 2) mGNil))))
  (am (aB (mIx (aR [] (ac (mOp bh (mC (.int 2)) (ak 0 0 aj (aa 0 (ac (mC (.int 9)) mNil)))) (ac (mOp bh (mC (.int 2)) (ak 0 0 aj (aa 0 (ac (mC (.int 998)) mNil)))) (ac (mOp da (mC (.int 1000000000)) (ak 0 0 aj (aa 0 (ac (mC (.int 9)) mNil)))) mNil)))) (ak 0 0 aj (aa 0 (ac (mC (.int 3)) mNil)))) (ag 3))
  (am (aB (ak 0 0 jp (aa 0 (ac (mB cL (aa 2 mNil)) mNil))) (ag 4))
  (am (aB (aR [] mNil) (ag 5))
  (am (bZ (bc (ac (mB cL (aa 2 mNil)) mNil)) (ag 6)
  (bU [6,7,8,9] (am (aB (aU [none,none,none,none,some 4,none,none,none,none,none,none,none] (mIt (mSl (mIx (af 2) (af 6)) mNoPart (eC (mOp jC (mC (.int 16)) (mB cL (aa 2 mNil)))))) (dr (aW (ag 10) (aW (ag 11) mGNil))) mYes (ay [11] (ac (mC (.str "at")) (ac (mIx (af 4) (af 10)) (aa 11 mNil))))) (ag 7))
  (am (bZ (bc (ac (mOp bh (ak 0 0 aj (aa 0 (ac (mC (.int 2)) mNil))) (mB r8 (ac (mOp eqT (af 7) (aR [] mNil)) mNil))) mNil)) (ag 8)
  (bU [8,9] (am (aB (ak 0 0 aj (aa 0 (ac (mIx (aR [] (ac (mC (.int 9)) (ac (mC (.int 1000000001)) mNil))) (ak 0 0 aj (aa 0 (ac (mC (.int 2)) mNil)))) mNil))) (ag 9))
  (be (b7 7 [] mD (af 7) (ac (ak 0 0 aj (aa 0 (ac (mOp bh (mB cL (aa 7 mNil)) (mC (.int 1))) mNil))) (ac (ay [9] (ac (mC (.str "num")) (aa 9 mNil))) mNil)))))))
  (be (b7 5 [] apT (af 5) (ac (ay [] (ac (mIx (af 4) (af 6)) (ac (ak 0 0 jn (aa 0 (aa 7 mNil))) mNil))) mNil)))))))
  (bd (ay [1,3] (aa 1 (aa 3 (ac (mB gq (aa 5 mNil)) mNil))))))))))
abbrev jo(ts:List T):Option (T×T):=if ts.length=1 then fS gA 0 10 ts else none
end
end L2
namespace L2
open PySem PySem.Spec PyProof.Rows
inductive TyB(K:yF) (H:Hp):V->String->Prop where
 | non:TyB K H .non "NoneType"
 | bl (x:Bool):TyB K H (.bl x) "bool"
 | int (i:Int):TyB K H (.int i) "int"
 | str (x:Str):TyB K H (.str x) "str"
 | tup {a:Addr} {xs:List V}:SqT K H a xs->TyB K H (.ref a) "tuple"
 | lst {a:Addr} {xs:List V}:SqL K H a xs->TyB K H (.ref a) "list"
 | dK {a:Addr} {kvs:List (Key×V)}:H a=some (.dK kvs)->TyB K H (.ref a) "dict"
structure ZAp(z TI TO i1 i2 l1 l2:Addr):Prop where
 ap:TI≠z/\TO≠z/\TI≠TO/\TI≠i1/\TI≠i2/\i1≠z/\i2≠z/\i1≠TO/\i2≠TO/\i1≠i2
 f1:z∉[i1,l1]/\TO∉[i1,l1]/\i2∉[i1,l1]
 f2:z∉[i2,l2]/\TO∉[i2,l2]/\i1∉[i2,l2]
 n1:l1≠i1
 n2:l2≠i2
end L2
namespace L2
open PySem
noncomputable section
end
end L2
namespace L2
open PySem PySem.Spec PyProof.Rows
section
variable {κ : Type}[DecidableEq κ]
abbrev oK(kvs:List (κ×V)) (k : κ):Option V:=(kvs.find? λkv=>decide (kv.1=k)).map (·.2)
def oN{p : κ×V}{r:List (κ×V)}{k : κ}(e:p.1=k):oK (p::r) k=some p.2:=by simp[oK,HF,e]
def oM{p : κ×V}{r:List (κ×V)}{k : κ}(e:¬ p.1=k):oK (p::r) k=oK r k:=by simp[oK,HF,e]
def KV.val{kvs:List (κ×V)}{vs:List (κ×LH)}(r:KV kvs vs)(k : κ):RelO (oK kvs k) (Pa vs k):=by
 unfold KV at r
 induction r with
 | nil=>exact Ri
 | @cons p q ps qs h t ih=>
  obtain⟨h1,h2⟩:=h;by_cases e:p.1=k
  ·have e':q.1=k:=h1.symm.trans e;have b:Pa (q::qs) k=some q.2:=by simp[Pa,HF,e']
   rw[oN e,b];exact h2
  ·have e':¬ q.1=k:=λz=>e (h1.trans z);have b:Pa (q::qs) k=Pa qs k:=by simp[Pa,HF,e']
   rw[oM e,b];exact ih
end
def zW{P:LR}{w:Mb}{k:Key}{u:LH}(r:RelV (kV k) u):(bC P w).is k u=true:=by
 cases k with
 | inl i=>obtain⟨t,e⟩:=(show∃t,u=O6 i t from r);subst e;exact nL P w i t
 | inr x=>obtain⟨t,e⟩:=(show∃t,u=PU x t from r);subst e;exact nM P w x t
section
variable {P:LR}{w:Mb}{H:Hp}{h:Heap}{a:Addr}
def EV{u:HO}(ok:HOk P w H h)(e:Rd H a u):K6 P w H h a u:=e.ok ok
def zP{kvs:List (Key×V)}(ok:HOk P w H h)(e:Rd H a (.dK kvs)):kvs.length<=sizeLine/\(a==NU)=false/\∃vs,KV kvs vs/\h.DictOf (bC P w) a vs:=
 show K6 P w H h a (.dK kvs)from EV ok e
end
abbrev LD(H:Hp)(a:Addr)(y:V)(r:Option V):Prop:=∃kvs k,Rd H a (.dK kvs)/\y=kV k/\r=oK kvs k
section
variable {X:Cx}{Uq:List (Addr×Obj)}{Z:St}{H:Hp}{s:LI}{a:Addr}{y v:V}{u r:LH}{o:Option V}{A:LX}{E:LH->LI->Prop}
def Inv.big(I:Inv X Uq Z H s):NU<s.heap.objs.size:=by
 have h:Mq<s.heap.objs.size:=(I.mod.glob.keeps I.bk).lt;exact Nat.lt_trans (by decide) h
def rV{Q:LH->LI->Prop}(hu:A.units+1<My)(I:Inv X Uq Z H s)(g:LD H a y (some v))(ry:RelV y u)(h:∀w' s',Inv X Uq Z H s'->RelV v w'->Q w' s') :
  LN (LO X.prog X.w) A (Nl (.ref a) u) Q E s:=by
 obtain⟨kvs,k,e,ey,l⟩:=g;subst ey;obtain⟨z,hd,vs,rel,dd⟩:=zP I.hok e;obtain⟨w',hw,rw'⟩:=RelO.some_of (v:=v) (o:=Pa vs k) (by rw[l];exact rel.val k);exact wpAny_getItem_of (zW ry) dd.mapOf hw (h w' _ (I.tok _) rw')
end
abbrev Ax(i:Expr):Prop:=∀ov iv,OR i false ov iv=operate [ov,iv] (Nl ov iv)
def zC{prog:LR}{w:Mb}{A:LX}{E:LH->LI->Prop}{s:LI}{env:Env}{value slice:Expr}{pos:Pos}{T id:String}{Q:LH->LI->Prop}
  (hl:Pq (.type T) "__getitem__" = pure (some (.builtin id))) (hs:Ax slice)
  (h:LN (LO prog w) A (eval value env) (λo s₁=>LN (LO prog w) A (eval slice env) (λi s₂=>s₂.TypeIs o T/\LN (LO prog w) A (Nl o i) Q E s₂) E s₁) E s) :
  LN (LO prog w) A (eval (.Subscript value slice pos) env) Q E s:=by
 apply Pr (LS h (λo s₁ h₁=>LS h₁ (λi s₂ h₂=>?_) λ_ _ x=>x) λ_ _ x=>x);obtain⟨hT,h₂⟩:=h₂;unfold Ol;apply LG ?_;rw[getitemInPython_of_ne hT.not_modules];apply LG (MP hT hl ?_);have fin:LN (LO prog w) A (OR slice false o i) (λr s₃=>LN (LO prog w) A (letTemporaryGo value o r >>= λ_=>pure r) Q E s₃) E s₂:=by
  rw[hs o i];exact wpAny_operating (LS h₂ (λr s₃ h₃=>LG (wpAny_letTemporaryGo (LJ h₃))) λ_ _ x=>x)
 first
  | exact LJ (LG fin)
  | exact LG (LJ (LG fin))
  | exact LG fin
def nB{X:Cx}{Uq:List (Addr×Obj)}{Z:St}{H:Hp}{s:LI}{a:Addr}{y:V}{o:Option V}(I:Inv X Uq Z H s)(g:LD H a y o):s.TypeIs (.ref a) "dict" :=by
 obtain⟨kvs,k,e,_,_⟩:=g;obtain⟨_,_,vs,_,dd⟩:=zP I.hok e;exact dd.typeIs
abbrev E3(td ty:TE):TE:=λZ H Q=>td Z H λx H1=>ty Z H1 λy H2=>∃a v,x=.ref a/\LD H2 a y (some v)/\Q v H2
section
variable {X:Cx}{o i e value:Expr}{pos pos' tpos:Pos}{td ty tv:TE}
def yq(hu:X.A.units+1<My)(ho:PE X o td)(hi:PE X i ty)(hs:Ax i):PE X (.Subscript o i pos) (E3 td ty):=by
 intro Uq s Z H Q I h;apply zC PySem.F.slot_dict_getitem.lookup hs (thn (ho Uq s Z H _ I h) λu s1 ⟨x,H1,I1,rx,q1⟩=>thn (hi Uq s1 Z H1 _ I1 q1) λiv s2 ⟨y,H2,I2,ry,a,v,ex,g,q2⟩=>?_);subst ex;obtain rfl:u=Nv a:=rx;exact⟨nB I2 g,rV hu I2 g ry λw' s3 I3 rw'=>⟨v,H2,I3,rw',q2⟩⟩
end
abbrev xM(i:I):Option Key:=match i with
 | .int n=>some (.inl n)
 | .str x=>some (.inr x)
 | _=>none
section
variable {K:yF}{H:Hp}
def xN{i:I}{q:Key}(e:xM i=some q):i=eg q:=by
 unfold xM at e;split at e<;>cases e<;>rfl
def qJ{i:I}{q:Key}{x:V}(e:xM i=some q)(r:RpI K H i x):x=kV q:=by
 rw[xN e]at r;cases q<;>(rw[eg,RpI]at r;exact r)
abbrev dgR:R2:=λx y H Q=>∃a v,x=.ref a/\LD H a y (some v)/\Q v H
def uC{a b:Key}(h:eg a=eg b):a=b:=by cases a<;>cases b<;>(unfold eg at h;cases h)<;>rfl
end
section
variable {X:Cx}{Uq:List (Addr×Obj)}{Z:St}{H:Hp}{s:LI}
def Inv.frz{a:Addr}{xs:List V}(I:Inv X Uq Z H s)(h:H a=some (.lst xs)):∃o,Inv X Uq Z (upd H a (.frz o (.lst xs))) s:=by
 obtain⟨z,its,n,r,e⟩:=(show K6 X.prog X.w H s.heap a (.lst xs)from I.hok a _ h);exact⟨_,I.write (t':=s.toks) (h':=s.heap) (by rw[h];exact Ri) (.inl rfl) (λb u _ q=>q) ⟨_,e⟩ ⟨e,z,its,n,r,e⟩⟩
end
end L2
namespace L2
open PySem
noncomputable section
abbrev dy(rec:List T->Option T):MS:=(am (mIf (aJ (mOp eqT (mIx (af 0) (mC (.int 0))) (mC (.str "num")))) (bd (aR [] mNil)) mNext)
  (am (mIf (aJ (mOp eqT (mIx (af 0) (mC (.int 0))) (mC (.str "at")))) (bd (aR [] (ac (ay [] (ac (mIx (af 0) (mC (.int 1))) (ac (mIx (af 0) (mC (.int 2))) mNil))) mNil))) mNext)
  (am (aB (aR [] mNil) (ag 1))
  (am (bZ (mIt (mSl (af 0) (eC (mOp bh (mC (.int 1)) (mB r8 (ac (mOp eqT (mIx (af 0) (mC (.int 0))) (mC (.str "op"))) mNil)))) mNoPart)) (ag 2)
  (bU [2] (be (b7 1 [] j7 (af 1) (ac (mB rec (aa 2 mNil)) mNil)))))
  (bd (af 1))))))
abbrev cD:Nat->List T->Option T
 | 0=>λts=>if ts.length=1 then cT mL 3 ts else none
 | n+1=>λts=>if ts.length=1 then cT (dy (cD n)) 3 ts else none
abbrev gD:MS:=(am (aB (aR [] mNil) (ag 1))
  (am (bZ (mIt (mIx (af 0) (mC (.int 2)))) (dr (aW (ag 2) (aW (ag 3) mGNil)))
  (bU [2,3,4,5] (bZ (mIt (mB (cD 24) (aa 3 mNil))) (dr (aW (ag 4) (aW (ag 5) mGNil)))
  (bU [4,5] (mIf (aJ (mOp iP (ay [2,4,5] (aa 2 (aa 4 (aa 5 mNil)))) (af 1))) (be (b7 1 [] apT (af 1) (ac (ay [2,4,5] (aa 2 (aa 4 (aa 5 mNil)))) mNil))) mNext)))))
  (bd (af 1))))
abbrev ff(ts:List T):Option T:=if ts.length=1 then cT gD 6 ts else none
end
end L2
namespace L2
open PySem PySem.Spec PyProof.Rows
section
variable {κ : Type}[DecidableEq κ]
abbrev gL{α:Type}:List (κ × α)->κ->α->List (κ × α)
 | [],k,v=>[(k,v)]
 | p::r,k,v=>if p.1=k then(p.1,v)::r else p::gL r k v
def qN{k : κ}{u:LH}:∀{vs:List (κ×LH)},k∉vs.map (·.1)->vs.map (λkv=>if kv.1=k then(kv.1,u)else kv)=vs
 | [],_=>rfl
 | p::r,h=>by
  rw[Gg,Hs,not_or]at h;rw[Gg,if_neg (λz=>h.1 z.symm),qN h.2]
def lP(k : κ)(u:LH):∀{vs:List (κ×LH)},(vs.map (·.1)).Nodup->stored vs k u=gL vs k u
 | [],_=>by simp[stored,gL]
 | p::r,h=>by
  rw[Gg,GA]at h;have ih:=lP k u h.2;obtain⟨k',t⟩:=p;unfold stored at ih|-;rw[gL];by_cases e:k'=k
  ·subst e;rw[if_pos ∅,if_pos rfl,Gg,if_pos rfl,qN h.1]
  ·rw[if_neg e,<-ih,Jd];dsimp[decide_eq_false e,JP,Gg,if_neg e,GL];split<;>rfl
def KV.put{k : κ}{y:V}{u:LH}(ry:RelV y u){kvs:List (κ×V)}{vs:List (κ×LH)}(h:KV kvs vs):KV (gL kvs k y) (gL vs k u):=by
 induction h with
 | nil=>exact .cons ⟨rfl,ry⟩ .nil
 | @cons p q _ _ h t ih=>
  obtain⟨k1,y1⟩:=p;obtain⟨k2,u2⟩:=q;have e:k1=k2:=h.1;subst e;rw[gL,gL];by_cases e:k1=k;rw[if_pos e,if_pos e];exact .cons ⟨rfl,ry⟩ t;rw[if_neg e,if_neg e];exact .cons h ih
end
section
variable {K:yF}{H:Hp}
def KT.erase:∀{is:List I} {xs:List V} (n:Nat),KT K H is xs->KT K H (is.eraseIdx n) (xs.eraseIdx n)
 | [],_,n,h=>by rw[KT]at h;subst h;rw[Ka,Ka,KT]
 | i::is,_,0,h=>by
  rw[KT]at h;obtain⟨x,r,rfl,_,h2⟩:=h;exact h2
 | i::is,_,n+1,h=>by
  rw[KT]at h;obtain⟨x,r,rfl,h1,h2⟩:=h;rw[HS,HS,KT];exact⟨x,_,rfl,h1,KT.erase n h2⟩
end
def fO{prog:LR}{w:Mb}{A:LX}{R:Og->LI->Prop}{s:LI}{kx vx target iter:Expr}{ifs:List Expr}{scope:ML}{pos:Pos}{it:LH}{D:Addr}{env:Env}(I:Nat->LI->Prop)
  (turn:∀n s,I n s->LN (LO prog w) A (NX it) (λr s₁=>match r with
   | none=>R (.ok .next) s₁
   | some v=>LN (LO prog w) A (Mz target it v) (λ_ s₁'=>LN (LO prog w) A (Nb target env v) (λ_ s₂=>
     LN (LO prog w) A (jU ifs env) (λok s₃=>
      if ok=true then LN (LO prog w) A (eval kx env) (λkv s₄=>LN (LO prog w) A (eval vx env) (λvv s₅=>
       LN (LO prog w) A (dictSet D kv vv) (λ_ s₆=>∃m,m<n/\I m s₆) (Nf (LO prog w) A env λe s'=>R (.error e) s') s₅) (Nf (LO prog w) A env λe s'=>R (.error e) s') s₄) (Nf (LO prog w) A env λe s'=>R (.error e) s') s₃
      else∃m,m<n/\I m s₃) (Nf (LO prog w) A env λe s'=>R (.error e) s') s₂) (Nf (LO prog w) A env λe s'=>R (.error e) s') s₁') (Nf (LO prog w) A env λe s'=>R (.error e) s') s₁) (Nf (LO prog w) A env λe s'=>R (.error e) s') s)
  (n:Nat) (h:I n s):Mv (LO prog w) A (.compLoop (.DictComp kx vx [⟨target,iter,ifs,0⟩] scope pos) 0 it (.ref D) env) R s:=by
 apply OE rfl I (λn s hI=>?_) n h;show LN _ A ((Ot (.DictComp kx vx [⟨target,iter,ifs,0⟩] scope pos) 0 it (.ref D) env).onRaise (λx=>do O9 x env;NJ x)) _ _ s;apply OW ?_;rw[compTurn_dict];apply LG (Mx (LG (LS (turn n s hI) (λr s₁ h₁=>?_) λ_ _ h'=>h')));cases r with
 | none=>exact LJ h₁
 | some v=>
  apply LG (LS h₁ (λ_ s₁' h₁'=>?_) λ_ _ h'=>h');apply LG (LS h₁' (λ_ s₂ h₂=>LG (LS h₂ (λok s₃ h₃=>?_) λ_ _ h'=>h')) λ_ _ h'=>h');cases ok with
  | false=>exact LJ ⟨rfl,h₃⟩
  | true=>
   exact LG (LG (LS h₃ (λkv s₄ h₄=>LG (Mi (LS h₄ (λvv s₅ h₅=>LG (Mx (Mi (LS h₅ (λ_ s₆ h₆=>LJ ⟨rfl,h₆⟩) λ_ _ h'=>h')))) λ_ _ h'=>h'))) λ_ _ h'=>h'))
abbrev wP(wi:TI)(fr:List (Option Nat))(g:TG)(tc:TT)(tk tv:TE):TE:=λZ H Q=>
 wi Z H λJ H1=>∃W:Nat->Nat->List (Key×V)->Hp->Prop,(∃m,W 0 m [] H1)/\∀i m acc H,W i m acc H->acc.length<sizeLine /\
  ((J.stop i H/\∀d,H d=none->Q (.ref d) (upd H d (.dK acc))) \/
  (J.go i H/\∃N:List (Key×V)->Hp->Prop,(∀acc' H',N acc' H'->∃m',m'<m/\W (i+1) m' acc' H') /\
   ∀x H',J.yld i H x H'->g x (aM fr Z) H' λZ2 H2=>tc Z2 H2 λb H3=>if b=true then tk Z2 H3 λy H4=>∃q,y=kV q/\tv Z2 H4 λv H5=>N (gL acc q v) H5 else N acc H3))
section
variable {X:Cx}{kx vx tg iter:Expr}{ifs:List Expr}{scope:ML}{pos:Pos}{N':List Str}{fr:List (Option Nat)}{wi:TI}{g:TG}{tc:TT}{tk tv:TE}
def nz(hc:X.calm=true)(B:Blk X.env.scope scope X.N N' fr)
  (hg:∀b,PG (cxB X scope N' b) tg g) (hgk:cj fr g) (ht:∀b,PTs (cxB X scope N' b) ifs tc) (hek:∀b,PE (cxB X scope N' b) kx tk) (hev:∀b,PE (cxB X scope N' b) vx tv)
  {Uq:List (Addr×Obj)} {Z:St} {Q:VK} {itv:LH} {s2:LI} {E:LH->LI->Prop} {RR:LH->Addr->Og->LI->Prop}
  (h2:PIE X Uq Z tg (λJ H1=>∃W:Nat->Nat->List (Key×V)->Hp->Prop,(∃m,W 0 m [] H1)/\∀i m acc H,W i m acc H->acc.length<sizeLine /\
   ((J.stop i H/\∀d,H d=none->Q (.ref d) (upd H d (.dK acc))) \/
   (J.go i H/\∃N:List (Key×V)->Hp->Prop,(∀acc' H',N acc' H'->∃m',m'<m/\W (i+1) m' acc' H') /\
    ∀x H',J.yld i H x H'->g x (aM fr Z) H' λZ2 H2=>tc Z2 H2 λb H3=>if b=true then tk Z2 H3 λy H4=>∃q,y=kV q/\tv Z2 H4 λv H5=>N (gL acc q v) H5 else N acc H3))) itv s2)
  (hRR:∀(d C:Addr) (v:V) (H':Hp) (s':LI) m',Inv X Uq Z H' s'->v=.ref d->Q v H'->s'.heap.Ns C m'->ed X Uq H' C->C≠d->RR (.ref d) C (.ok .next) s') :
  LN (LO X.prog X.w) X.A newDict (λacc s₃=>LN (LO X.prog X.w) X.A (Np scope X.env.globals (bx X.env scope.names []) [] X.env.qual none .none (some X.env)) (λcenv s₄=>
   Mv (LO X.prog X.w) X.A (.compStart (.DictComp kx vx [⟨tg,iter,ifs,0⟩] scope pos) 0 itv acc {cenv with scope:=OD scope X.env}) (RR acc cenv.locals) s₄) E s₃) E s2:=by
 obtain⟨it,fp,tn,J,H2,rfl,I2,T,st2,f2,W,⟨m0,w0⟩,turn⟩:=h2;apply LU ?_;have hnew:(s2.heap.push {cls:=.type "dict",dict:=none,data:=.dict #[]}).DictOf (bC X.prog X.w) s2.heap.objs.size []:=Rn s2.heap;have hbig:(s2.heap.objs.size==NU)=false:=beq_eq_false_iff_ne.mpr (Mj (GO I2.big));generalize hd:s2.heap.objs.size=d at hnew hbig;have I3:Inv X Uq Z H2 {s2 with heap:=s2.heap.push {cls:=.type "dict",dict:=none,data:=.dict #[]}}:=I2.kept (t':=s2.toks) λb o e=>LK _ e;have fd:ed X Uq H2 d:=I2.fpOk (by rw[hd];exact Gj _) (I2.hok.fresh (by rw[hd];exact Gj _));have od:(s2.heap.push {cls:=.type "dict",dict:=none,data:=.dict #[]}).get? d=some {cls:=.type "dict",dict:=none,data:=.dict #[]}:=by rw[<-hd];exact LQ _ rfl
 have st3:tn 0 (s2.heap.push {cls:=.type "dict",dict:=none,data:=.dict #[]}):=T.keep _ _ _ st2 λb _ o e=>LK _ e;have ne_d:∀b∈fp,b≠d:=λb hb=>by
  obtain⟨o,e,_⟩:=T.obj _ _ st2 b hb;rw[<-hd];exact GO (LP e)
 have hd0:X.s₀.heap.objs.size<=d:=by rw[<-hd];exact I2.sz
 generalize hs3:({s2 with heap:=s2.heap.push {cls:=.type "dict",dict:=none,data:=.dict #[]}}:LI)=s3 at I3;have od3:s3.heap.get? d=some {cls:=.type "dict",dict:=none,data:=.dict #[]}:=by rw[<-hs3];exact od
 have hnew3:s3.heap.DictOf (bC X.prog X.w) d []:=by rw[<-hs3];exact hnew
 have st3':tn 0 s3.heap:=by rw[<-hs3];exact st3
 have hex:∀b∈d::fp,ed X Uq H2 b/\∃o,s3.heap.get? b=some o:=λb hb=>by
  rcases ycM hb with e|hb;subst e;exact⟨fd,_,od3⟩
  ·obtain⟨o,e,_⟩:=T.obj _ _ st3' b hb;exact⟨f2 b hb,o,e⟩
 apply dZ λh4 hns hk hcl=>?_;have J0:=I3.enter (ex:=d::fp) (xe:=λ_ _=>False) B hex hns hk hcl;generalize hCs:Mc (s3.heap.objs.size+1) scope.names (bx X.env scope.names [])=cells at J0;have hCd:s3.heap.objs.size≠d:=λz=>by have:=LP od3;rw[z]at this;exact Hc _ this
 let bk:Bk:=⟨cells,s3.heap.objs.size,s3,H2,d::fp,X.pn++Uq⟩
 have J0':Inv (cxB X scope N' bk) [] (aM fr Z) H2 {s3 with heap:=h4}:=J0;show Mv (LO X.prog X.w) X.A (.compStart (.DictComp kx vx [⟨tg,iter,ifs,0⟩] scope pos) 0 (.ref it) (.ref d) (cxB X scope N' bk).env) (RR (.ref d) s3.heap.objs.size) {s3 with heap:=h4};have ne_pn:∀p∈X.pn++Uq,p.1≠d/\∀b∈fp,p.1≠b:=λp hp=>⟨fd.2.2.2.2.2 p hp,λb hb=>(f2 b hb).2.2.2.2.2 p hp⟩;have fpk:∀{Hx:Hp} {o:Obj},(∀b∈fp,Hx b=none)->∀b∈fp,ed (cxB X scope N' bk) [(d,o)] Hx b:=λ{Hx o} hn b hb=>by
  have hb':b∈d::fp:=ymC _ hb;apply⟨hn b hb,(J0'.ok.exf b hb').1,J0'.ok.exfs b hb',.inl hb',λx c e=>(J0'.ok.exf b hb').2 x c e,λp hp=>?_⟩;have hp':p∈(X.pn++Uq)++[(d,o)]:=hp;rcases yaM hp' with z|z;exact(ne_pn p z).2 b hb
  ·have:p=(d,o):=by exists z
   rw[this];exact Mj (ne_d b hb)
 have dat:∀{h:Heap} {vs:List (Key×LH)},h.DictOf (bC X.prog X.w) d vs->∃o,h.get? d=some o/\∀v,o.data ≠ .cell v:=λx=>by
  obtain⟨o,es,ep,e1,e2,e3,_⟩:=x;exact⟨o,e1,λv z=>by rw[e3]at z;cases z⟩
 have loop:∀s4:LI,Inv (cxB X scope N' bk) [] (aM fr Z) H2 s4->tn 0 s4.heap->s4.heap.DictOf (bC X.prog X.w) d [] ->
   Mv (LO X.prog X.w) X.A (.compLoop (.DictComp kx vx [⟨tg,iter,ifs,0⟩] scope pos) 0 (.ref it) (.ref d) (cxB X scope N' bk).env) (RR (.ref d) s3.heap.objs.size) s4:=by
  intro s4 J4 st4 pl4;apply fO (λn s'=>∃i acc vs H' Z',Inv (cxB X scope N' bk) [] Z' H' s'/\Kp fr (aM fr Z) Z'/\tn i s'.heap/\(∀b∈fp,H' b=none)/\H' d=none/\s'.heap.DictOf (bC X.prog X.w) d vs/\KV acc vs/\W i n acc H') ?_ m0
   ⟨0,[],[],H2,aM fr Z,J4,Kp.refl _ _,st4,λb hb=>(f2 b hb).1,fd.1,pl4,.nil,w0⟩
  rintro n s5 ⟨i,acc,vs,H5,Z5,J5,kp5,st5,fr5,hd5,dd5,va5,w5⟩;obtain⟨hz,cs⟩:=turn i n acc H5 w5;obtain⟨ob,pl5,ncell⟩:=dat dd5;have J5p:Inv (cxB X scope N' bk) [(d,ob)] Z5 H5 s5:=J5.pins_of λp hp=>by
   have:p=(d,ob):=by exists hp
   subst this;exact⟨pl5,hd5,(J0'.ok.exf d ymS).1,J0'.ok.exfs d ymS,ncell⟩
  have same:∀{h:Heap},h.get? d=some ob->h.DictOf (bC X.prog X.w) d vs:=λe=>dd5.at λo eo=>by rw[pl5]at eo;cases eo;exact e
  rcases cs with⟨stop,q⟩|⟨go,N,hN,step⟩
  ·apply thn (T.done (cxB X scope N' bk) rfl rfl rfl hc i _ s5 Z5 H5 _ J5p (fpk fr5) st5 stop) λr s6 ⟨hr,J6⟩=>?_;subst hr;obtain⟨e6,n6,_⟩:=J6.pin (d,ob) (yaR _ ∅);have I6:Inv X Uq Z H5 s6:=I3.leave (λb hb=>(hex b hb).1) J6;have I6t:Inv X Uq Z (upd H5 d (.dK acc)) s6:=I6.track ⟨hd5,fd.2⟩ (.inr hd0) hd0 ⟨by omega,hbig,vs,va5,same e6⟩;obtain⟨m6,hn6,_⟩:=J6.loc;apply hRR d s3.heap.objs.size (.ref d) _ s6 m6 I6t rfl (q d hd5) hn6 ?_ hCd;exact I3.fpOk (Gj _) (by rw[aT hCd];exact J6.free)
  ·apply thn (T.item (cxB X scope N' bk) rfl rfl rfl hc i _ s5 Z5 H5 _ J5p (fpk fr5) st5 go) λr s6 ⟨u,hr,h6⟩=>?_;subst hr;apply thn h6 λ_ s7 ⟨x,H7,J7,r7,y7,st7,fr7⟩=>?_;have J7w:Inv (cxB X scope N' bk) [(d,ob)] (aM fr Z) H7 s7:=J7.weak kp5.1.symm λk v e=>by
    cases q:fr[k]? with
    | none=>
     unfold aM at e;rw[Go,q]at e;cases e
    | some o=>
     cases o with
     | none=>
      unfold aM at e;rw[Go,q]at e;simp at e
     | some j=>rw[kp5.2 k j q];exact e
   have J7p:=J7w.pinned (fpk fr7) (T.obj _ _ st7);have never:∀{α:Type} {t:Sem α} {QQ : α->LI->Prop} {EE:LH->LI->Prop} {ss:LI},LN (LO X.prog X.w) X.A t QQ (λ_ _=>False) ss->LN (LO X.prog X.w) X.A t QQ EE ss:=λhh=>LS hh (λ_ _ z=>z) λ_ _ z=>z.elim;have G:=hgk x (aM fr Z) H7 _ (λZ2 H2=>(tc Z2 H2 λb H3=>if b=true then tk Z2 H3 λy H4=>∃q,y=kV q/\tv Z2 H4 λv H5=>N (gL acc q v) H5 else N acc H3)/\Kp fr (aM fr Z) Z2) (λZ' H' a b=>⟨a,b⟩) (step x H7 y7);apply never (thn (hg bk _ s7 (aM fr Z) H7 x u _ J7p r7 G) λ_ s8 ⟨Z8,H8,J8,q8,kp8⟩=>?_);apply never (thn (ht bk _ s8 Z8 H8 _ J8 q8) λok s9 ⟨H9,J9,q9⟩=>?_);have keepT:∀{Zx:St} {Hx:Hp} {sx:LI},Inv (cxB X scope N' bk) ([(d,ob)]++bu fp s7.heap) Zx Hx sx->(∀b∈fp,∀o,s7.heap.get? b=some o->sx.heap.get? b=some o)/\(∀b∈fp,Hx b=none)/\sx.heap.get? d=some ob/\Hx d=none:=λ{Zx Hx sx} Jx=>by
    apply⟨λb hb o e=>(Jx.pin (b,o) (yaR _ (yaR _ (bq hb e)))).1,λb hb=>?_,?_⟩
    ·obtain⟨o,e,_⟩:=T.obj _ _ st7 b hb;exact(Jx.pin (b,o) (yaR _ (yaR _ (bq hb e)))).2.1
    ·have:=Jx.pin (d,ob) (yaR _ (yaL _ ∅));exact⟨this.1,this.2.1⟩
   cases ok with
   | false=>
    rw[if_neg (by decide)]at q9|-;obtain⟨m',hm,w9⟩:=hN _ _ q9;obtain⟨k1,k2,k3,k4⟩:=keepT J9;exact⟨m',hm,i+1,acc,vs,H9,Z8,J9.pins_of (λp hp=>by simp at hp),kp8,T.keep _ _ _ st7 k1,k2,k4,same k3,va5,w9⟩
   | true=>
    rw[if_pos rfl]at q9|-;apply never (thn (hek bk _ s9 Z8 H9 _ J9 q9) λkv s10 ⟨y,H10,J10,r10,q,ey,q10⟩=>?_);subst ey;apply never (thn (hev bk _ s10 Z8 H10 _ J10 q10) λvv s11 ⟨v,H11,J11,r11,q11⟩=>?_);obtain⟨m',hm,w11⟩:=hN _ _ q11;obtain⟨k1,k2,k3,k4⟩:=keepT J11;have hlen:acc.length=vs.length:=Paired.length va5;have dd11:=same k3;apply wpAny_dictSet_pairs (knd:=bC X.prog X.w) (hsz:=by omega) (zW r10) dd11 λh12 dd12 sb12=>?_;have J11':Inv (cxB X scope N' bk) [] Z8 H11 s11:=J11.pins_of (λp hp=>by simp at hp);have J12:Inv (cxB X scope N' bk) [] Z8 H11 {s11 with heap:=h12,toks:=s11.toks+1}:=J11'.turned (it:=d) (t':=s11.toks+1) (λb o hb e=>(sb12.2 b hb).trans e) k4 (J0'.ok.exf d ymS).1 (.inl ymS) (λx c e=>(J0'.ok.exf d ymS).2 x c e) λp hp=>by
     have hp':p∈(X.pn++Uq)++[]:=hp;rw[Gy]at hp';exact(ne_pn p hp').1
    apply⟨m',hm,i+1,gL acc q v,gL vs q vv,H11,Z8,J12,kp8,T.keep _ _ _ st7 (λb hb o e=>(sb12.2 b (ne_d b hb)).trans (k1 b hb o e)),k2,k4,?_,KV.put r11 va5,w11⟩;rw[lP q vv (let ⟨_,_,_,_,_,_,_,_,hn⟩:=dd11;hn)]at dd12;exact dd12
 have st4:tn 0 h4:=T.keep _ _ _ st3' λb _ o e=>hk b o e;have pl4:h4.DictOf (bC X.prog X.w) d []:=hnew3.at λo e=>hk d o e;have L4:=loop {s3 with heap:=h4} J0' st4 pl4;exact codeAny_compStart_dict L4 (T.self X.A 0 _ _ _ st4 L4)
def vg(hc:X.calm=true)(B:Blk X.env.scope scope X.N N' fr)(hi:PI X tg iter wi)
  (hg:∀b,PG (cxB X scope N' b) tg g) (hgk:cj fr g) (ht:∀b,PTs (cxB X scope N' b) ifs tc) (hek:∀b,PE (cxB X scope N' b) kx tk) (hev:∀b,PE (cxB X scope N' b) vx tv)
  (hs:∀x,LY iter X.env x=pure x:=by intro _;rfl):PE X (.DictComp kx vx [⟨tg,iter,ifs,0⟩] scope pos) (wP wi fr g tc tk tv):=by
 intro Uq s Z H Q I h;rw[arm_eval_DictComp];apply MX (use:=none) rfl hs (cU (I.freeCells B)) B.kind B.locl (thn (hi Uq s Z H _ I h) λv s1 h1=>thn h1 λitv s2 h2=>?_);apply nz (RR:=λacc C=>Qr (LO X.prog X.w) X.A X.xe none (EP X Uq Z Q) acc C) hc B hg hgk ht hek hev h2 ?_;intro d C v H' s' m' I' hv q hn fC hCd;apply⟨m',hn,λh'' sb=>?_⟩;obtain⟨c0,c1,c2,c3,c4,c5⟩:=fC;exact⟨v,H',I'.turned (it:=C) (t':=s'.toks) (λb o hb e=>(sb.2 b hb).trans e) c0 c1 c3 c4 c5,by rw[hv];rfl,q⟩
end
abbrev mI(r:R):Option Key:=match r.t with
 | .im i=>xM i
 | _=>none
abbrev AW(ks:List Key) (q:Key):Bool:=ks.any λk=>decide (k=q)
def hasK_iff{ks:List Key}{q:Key}:AW ks q=true↔q∈ks:=by
 unfold AW;rw[Kj];exact⟨fun⟨k,h1,h2⟩=>of_decide_eq_true h2▸h1,λh=>⟨q,h,decide_eq_true rfl⟩⟩
abbrev bJ(fr:List (Option Nat)) (M:List Nat) (g:MG) (c:MT) (ek ev:ME):List R->Rho->List Key->List T->Option ((List Key×List T)×Rho)
 | [],O,ks,ts=>some ((ks,ts),O)
 | r::rs,O,ks,ts=>match g.run (gf (piF fr) r) (inR fr O)with
  | some O1=>(match c.run O1 with
   | some (true,O2)=>(match ek.run O2 with
    | some (rk,O3)=>(match mI rk with
     | some q=>(match ev.run O3 with
      | some (⟨.ow,t⟩,O4)=>if AW ks q=true then none else bJ fr M g c ek ev rs (bK fr M O4 O) (ks++[q]) (ts++[t])
      | _=>none)
     | none=>none)
    | none=>none)
   | some (false,O2)=>bJ fr M g c ek ev rs (bK fr M O2 O) ks ts
   | none=>none)
  | none=>none
abbrev kZ(ks:List Key) (ts:List T):T:=.dc (Kb (λk t=>(eg k,t)) ks ts)
private def g8(fr:List (Option Nat))(it:MI)(g:MG)(c:MT)(ek ev:ME):ME:=⟨λO=>match it.run O with
 | some ((srcs,items),O1)=>if(cm fr O1.length&&cr (g.mu++(c.mu++(ek.mu++ev.mu))) fr.length&&srcs.all (ax (muF fr (g.mu++(c.mu++(ek.mu++ev.mu)))))&&decide (items.length<sizeLine))=true then(match bJ fr (g.mu++(c.mu++(ek.mu++ev.mu))) g c ek ev items O1 [] []with
  | some ((ks,ts),O2)=>some (⟨.ow,kZ ks ts⟩,O2)
  | none=>none)else none
 | none=>none,it.mu++muF fr (g.mu++(c.mu++(ek.mu++ev.mu)))⟩
def nX{α:Type}{q:Key}{v : α}:∀{acc:List (Key × α)},q∉acc.map (·.1)->gL acc q v=acc++[(q,v)]
 | [],_=>rfl
 | p::r,h=>by
  rw[Gg,Hs,not_or]at h;rw[gL,if_neg (λz=>h.1 z.symm),nX h.2];rfl
section
variable {Γ:Gm}{H H':Hp}{O:Rho}{Z:St}{E X:List En}{v x y:V}{t:T}{K:yF}{Q:VK}
def wF:∀{acc:List (Key×V)} {ts:List T} {F:List Addr},Rps K H ts (acc.map (·.2)) F->Rpk K H (Kb (λk t=>(eg k,t)) (acc.map (·.1)) ts) (acc.map λp=>(eg p.1,p.2)) F
 | [],[],F,h=>by rw[Rps]at h;rw[He,List.zipWith_nil_left,Rpk];exact⟨rfl,h.2⟩
 | p::acc,[],F,h=>by rw[Rps]at h;cases h.1
 | [],t::ts,F,h=>by rw[Rps]at h;obtain⟨_,_,_,_,e,_⟩:=h;cases e
 | p::acc,t::ts,F,h=>by
  rw[Rps]at h;obtain⟨x,r,F1,F2,e,h1,h2,rfl⟩:=h;rw[Gg,HD.injEq]at e;obtain⟨rfl,rfl⟩:=e;rw[Gg,Jv,Gg,Rpk];exact⟨p.2,_,F1,F2,rfl,h1,wF h2,rfl⟩
def Sim.mkD{acc:List (Key×V)}{ts:List T}{p:Addr}(S:Sim Γ H O Z (au (acc.map (·.2)) ts++E))(hl:acc.length=ts.length)(hp:H p=none):Sim Γ (upd H p (.dK acc)) O Z (⟨none,.ref p,⟨.ow,kZ (acc.map (·.1)) ts⟩⟩::E):=by
 obtain⟨F,h1,h2,h3,h4⟩:=S.use (by rw[Ge];exact hl);have sm:=Le.laid (o:=.dK acc) hp;have np:p∉F:=λz=>by obtain⟨o,e,_⟩:=h3 p z;rw[hp]at e;cases e
 apply h4 _ (.ref p) (kZ (acc.map (·.1)) ts) (p::F) (sm.offM _) (λa ha=>let ⟨o,e,_⟩:=h3 a ha;⟨o,sm a o e⟩) (GA.mpr ⟨np,h2⟩) (λa ha=>?_) ?_
 ·rcases ycM ha with rfl|ha;exact⟨.inr hp,_,aI,rfl⟩;exact⟨.inl ha,let ⟨o,e,m⟩:=h3 a ha;⟨o,sm a o e,m⟩⟩
 ·unfold kZ;rw[Rp];exact⟨p,_,F,rfl,⟨acc,aI,rfl⟩,wF (h1.same sm),rfl⟩
def o6{J:It}{fr:List (Option Nat)}{g:TG}{tc:TT}{tk tv:TE}{mg:MG}{c:MT}{ek ev:ME}{M:List Nat}{vs:List V}{srcs:List R}{items:List R}(hK : Γ.K=K)(wk:gT Γ J vs srcs items)(hgk:cj fr g)(hg:ir K g mg)(hc:ef K tc c)(hek:aV K tk ek)(hev:aV K tv ev)(hM:M=mg.mu++(c.mu++(ek.mu++ev.mu)))
  (hmu:∀j∈M,j<fr.length) (ks:∀e∈ens vs srcs,aE (muF fr M) e=true) {E2:List En} (kE:ah (muF fr M) E2=E2) {ksF:List Key} {tsF:List T} {OF:Rho} (hz:items.length<sizeLine)
  (hf:cm fr O.length=true) (S:Sim Γ H O Z (ens vs srcs++E2)) (hr:bJ fr M mg c ek ev items O [] []=some ((ksF,tsF),OF))
  (q:∀(acc:List (Key×V)) H',acc.map (·.1)=ksF->acc.length=tsF.length->Sim Γ H' OF Z (ens vs srcs++(au (acc.map (·.2)) tsF++E2))->∀d,H' d=none->Q (.ref d) (upd H' d (.dK acc))) :
  ∃W:Nat->Nat->List (Key×V)->Hp->Prop,(∃m,W 0 m [] H)/\∀i m acc H,W i m acc H->acc.length<sizeLine /\
   ((J.stop i H/\∀d,H d=none->Q (.ref d) (upd H d (.dK acc))) \/
   (J.go i H/\∃N:List (Key×V)->Hp->Prop,(∀acc' H',N acc' H'->∃m',m'<m/\W (i+1) m' acc' H') /\
    ∀x H',J.yld i H x H'->g x (aM fr Z) H' λZ2 H2=>tc Z2 H2 λb H3=>if b=true then tk Z2 H3 λy H4=>∃q,y=kV q/\tv Z2 H4 λv H5=>N (gL acc q v) H5 else N acc H3)):=by
 have kE2:∀acc ts,ah (muF fr M) (ens vs srcs++(au acc ts++E2))=ens vs srcs++(au acc ts++E2):=λacc ts=>by rw[az,ce ks,az,cN,kE]
 apply⟨λi m acc H=>m=items.length-i/\i<=items.length/\acc.length<=i/\∃O1 ts,bJ fr M mg c ek ev (items.drop i) O1 (acc.map (·.1)) ts=some ((ksF,tsF),OF)/\acc.length=ts.length/\O1.length=O.length/\Sim Γ H O1 Z (ens vs srcs++(au (acc.map (·.2)) ts++E2)),⟨items.length,by simp,GY _,Gj _,O,[],by simpa using hr,rfl,rfl,S⟩,?_⟩;rintro i m acc H1 ⟨rfl,hil,hal,O1,ts,h1,hl,hO,S1⟩;apply⟨by omega,?_⟩;obtain⟨w1,w2⟩:=wk H1 O1 Z _ S1;by_cases hlt:i<items.length
 ·have hx:items[i]?=some items[i]:=by simp[hlt]
  obtain⟨w3,w4⟩:=w2 i _ hx;rw[Hz hlt,bJ]at h1;apply .inr ⟨w3,λacc' H'=>acc'.length<=i+1/\∃O1 ts,bJ fr M mg c ek ev (items.drop (i+1)) O1 (acc'.map (·.1)) ts=some ((ksF,tsF),OF)/\acc'.length=ts.length/\O1.length=O.length/\Sim Γ H' O1 Z (ens vs srcs++(au (acc'.map (·.2)) ts++E2)),λacc' H' ⟨ha,O3,ts3,h3,hl3,hO3,S3⟩=>⟨items.length-(i+1),by omega,rfl,hlt,ha,O3,ts3,h3,hl3,hO3,S3⟩,λx H2 y=>?_⟩;have S2:=w4 x H2 y;have hf1:cm fr O1.length=true:=by rw[hO];exact hf
  have S3:=S2.inn hf1;rw[cP]at S3;split at h1
  ·delta O2 e2;apply hgk x (aM fr Z) H2 (λZ2 H3=>Kp fr (aM fr Z) Z2->_) _ (λZ2 H3 z kp=>z kp) ?_;apply hg Γ H2 (inR fr O1) (aM fr Z) _ _ x _ O2 hK e2 S3 λZ2 H3 S4 kp=>?_;split at h1
   ·delta O3 e3;apply hc Γ H3 O2 Z2 _ _ true O3 hK e3 S4 λH4 S5=>pc ?_;split at h1
    ·delta rk O4 e4;split at h1
     ·delta q0 e5;apply hek Γ H4 O3 Z2 _ _ _ O4 hK e4 S5 λy0 H5 S6=>?_;have ry:=S6.rd ymS;have ey:y0=kV q0:=by
       obtain⟨kk,tt⟩:=rk;unfold mI at e5;dsimp only at e5;split at e5
       ·delta ii;have ry':∃F,Rp Γ.K H5 (.im ii) y0 F:=ry;exact qJ e5 (dt ry')
       ·cases e5
      apply⟨q0,ey,?_⟩;split at h1
      ·delta t O5 e6;split at h1;cases h1
       ·delta hnew;apply hev Γ H5 O4 Z2 _ _ _ O5 hK e6 (S6.drop rfl) λw H6 S7=>?_;rw[ae,ae,ae]at S7;have hM':mg.mu++c.mu++ek.mu++ev.mu=M:=by rw[hM,Gx,Gx]
        rw[show mg.mu++(c.mu++(ek.mu++ev.mu))=M from hM.symm]at S7;have S8:Sim Γ H6 O5 Z2 (ah M (cO fr Z O1 (⟨none,w,⟨.ow,t⟩⟩::(ens vs srcs++(au (acc.map (·.2)) ts++E2))))):=by
         rw[cP,ar (show aE M (br (piF fr) ⟨none,w,⟨.ow,t⟩⟩)=true from rfl)];exact S7
        have hl4 : O5.length=fr.length:=by rw[<-S7.len,kp.1,bD]
        have S9:=S8.outt hf1 hmu hl4 kp S1.al S1.len (λe' he' j hj=>by
         rcases ycM he' with rfl|he';cases hj;exact S1.hi e' he' j hj)
        rw[ar (show aE (muF fr M) ⟨none,w,⟨.ow,t⟩⟩=true from rfl),kE2]at S9;rw[nX (λz=>hnew (hasK_iff.mpr z))];apply⟨by simp;omega,_,_,by rw[Gq];exact h1,by simp[hl],by rw[gb,hO],?_⟩;rw[Gq,show KR (λx=>x.2) [(q0,w)]=[w]from rfl,jx (by rw[Ge];exact hl),Gx];apply S9.perm ?_;have pp:∀(A B C:List En) (x:En),(x::(A++(B++C))).Perm (A++(B++(x::C))):=λA B C x=>by
         rw[<-Gx,<-Gx];exact GQ.symm
        exact pp _ _ _ _
      ·cases h1
     ·cases h1
    ·cases h1
   ·delta O3 e3;apply hc Γ H3 O2 Z2 _ _ false O3 hK e3 S4 λH4 S5=>pb ?_;have S6:=S5.weak (ek.mu++ev.mu);rw[ae,ae]at S6;rw[<-hM]at S6;have hl4 : O3.length=fr.length:=by rw[<-S6.len,kp.1,bD]
    have S8:=S6.outt hf1 hmu hl4 kp S1.al S1.len S1.hi;rw[kE2]at S8;exact⟨by omega,_,_,h1,hl,by rw[gb,hO],S8⟩
   ·cases h1
  ·cases h1
 ·have ei:i=items.length:=by omega
  subst ei;rw[IF,bJ]at h1;cases h1;exact .inl ⟨w1 _ (Gj _),q acc H1 rfl hl S1⟩
def sZ{wi:TI}{fr:List (Option Nat)}{g:TG}{tc:TT}{tk tv:TE}{it:MI}{mg:MG}{c:MT}{ek ev:ME}(hi:jX K wi it)(hgk:cj fr g)(hg:ir K g mg)(hc:ef K tc c)(hek:aV K tk ek)(hev:aV K tv ev):aV K (wP wi fr g tc tk tv) (g8 fr it mg c ek ev):=by
 intro Γ H O Z E Q r O' hK hr S q;dsimp[g8]at hr q;split at hr
 ·delta srcs items O1 e1;split at hr
  ·delta hb;dsimp[Gd,decide_eq_true_eq]at hb;obtain⟨⟨⟨b1,b2⟩,b3⟩,b5⟩:=hb;split at hr
   ·delta ksF ts O2 e2;cases hr;apply hi Γ H O Z E _ srcs items O1 hK e1 S λΓ hK2 bk J vs H1 hlv S1 wk=>?_;replace hK:=hK2.trans hK;replace q:=λv H' S=>q v H' (bk _ _ _ _ S);rw[<-ae]at q;generalize ah it.mu E=E1 at q S1;have ks:∀e'∈ens vs srcs,aE (muF fr (mg.mu++(c.mu++(ek.mu++ev.mu)))) e'=true:=iC b3;have S2:=S1.weak (muF fr (mg.mu++(c.mu++(ek.mu++ev.mu))));rw[az,ce ks]at S2;have kE:=cg (M:=muF fr (mg.mu++(c.mu++(ek.mu++ev.mu)))) (N:=muF fr (mg.mu++(c.mu++(ek.mu++ev.mu)))) (λj hj=>hj) E1;generalize ah (muF fr (mg.mu++(c.mu++(ek.mu++ev.mu)))) E1=E2 at q S2 kE;apply o6 hK wk hgk hg hc hek hev rfl (iJ b2) ks kE b5 b1 S2 e2 λacc H' hk hl S3 d hd=>?_;subst hk;exact q _ _ (S3.drops.mkD hl hd)
   ·cases hr
  ·cases hr
 ·cases hr
end
section
variable {ι : Type}{C:ι->Cx}{P:LR}{W:Mb}{K:yF}{mg:Str->Option LH}{base:Heap}{k:Nat}{kx vx tg iter:Expr}{ifs:List Expr}{scope:ML}{pos:Pos}{it:MI}{g:MG}{mt:MT}{mk mv:ME}
def yN{N':List Str}{f:List (Option Nat)}(ck:CK C P W K mg base k)(hB:∀i,Blk (C i).env.scope scope (C i).N N' f)(hi:QI C K tg iter it)(hg:QG (gJ C scope N') K (some f) tg g)(ht:QTs (gJ C scope N') K ifs mt)(hek:QE (gJ C scope N') K kx mk)(hev:QE (gJ C scope N') K vx mv)(hs:∀i x,LY iter (C i).env x=pure x:=by intro _ _;rfl) :
  QE C K (.DictComp kx vx [⟨tg,iter,ifs,0⟩] scope pos) (g8 f it g mt mk mv):=by
 obtain⟨wi,p0,r0⟩:=hi;obtain⟨gg,p1,r1,kk⟩:=hg;obtain⟨tt,p2,r2⟩:=ht;obtain⟨te,p3,r3⟩:=hek;obtain⟨te',p4,r4⟩:=hev;exact⟨_,λi=>vg (ck.calm i) (hB i) (p0 i) (λb=>p1 (i,b)) (kk f rfl) (λb=>p2 (i,b)) (λb=>p3 (i,b)) (λb=>p4 (i,b)) (hs i),sZ r0 (kk f rfl) r1 r2 r3 r4⟩
end
section
variable {O:Rho}{it:MI}{g:MG}{ct:MT}{ek ev:ME}{QE':R->Rho->Prop}
def i8{fr:List (Option Nat)}{M:List Nat}{items:List R}{QC:List Key×List T->Rho->Prop}(Inv:Nat->List Key->List T->Rho->Prop)
  (hs:∀i r ks ts O,items[i]?=some r->Inv i ks ts O->WG g (gf (piF fr) r) (inR fr O) λO1=>WT ct O1 λbb O2=>(bb=true->WE ek O2 λrk O3=>∃q,mI rk=some q/\q∉ks/\WE ev O3 λr O4=>∃t,r=⟨.ow,t⟩/\Inv (i+1) (ks++[q]) (ts++[t]) (bK fr M O4 O))/\(bb=false->Inv (i+1) ks ts (bK fr M O2 O)))
  (he:∀ks ts O,Inv items.length ks ts O->QC (ks,ts) O):∀(l:List R) (i:Nat) (ks:List Key) (ts:List T) (O:Rho),items.drop i=l->i<=items.length->Inv i ks ts O->W2 (bJ fr M g ct ek ev l O ks ts) QC
 | [],i,ks,ts,O,hl,hi,hI=>by
  have:i=items.length:=by have:=congrArg HN hl;simp at this;omega
  subst this;exact⟨_,_,rfl,he ks ts O hI⟩
 | r::l,i,ks,ts,O,hl,hi,hI=>by
  have hr:items[i]?=some r:=by rw[<-IP,hl];rfl
  have hlt:=(Gc.mp hr).1;have hl':items.drop (i+1)=l:=by rw[<-IY,hl];rfl
  obtain⟨O1,e1,bb,O2,e2,q1,q2⟩:=hs i r ks ts O hr hI;cases bb with
  | true=>
   obtain⟨rk,O3,e3,q0,ek0,hn,r',O4,e4,t,rfl,q⟩:=q1 rfl;dsimp[bJ,e1,e2,e3,ek0,e4];rw[if_neg (λz=>hn (hasK_iff.mp z))];exact i8 Inv hs he l (i+1) _ _ _ hl' hlt q
  | false=>
   dsimp[bJ,e1,e2];exact i8 Inv hs he l (i+1) _ _ _ hl' hlt (q2 rfl)
def zF{fr:List (Option Nat)} (h:WI it O λsrc items O1=>Gu (cm fr O1.length&&cr (g.mu++(ct.mu++(ek.mu++ev.mu))) fr.length&&src.all (ax (muF fr (g.mu++(ct.mu++(ek.mu++ev.mu)))))) (items.length<sizeLine/\∃Inv:Nat->List Key->List T->Rho->Prop,Inv 0 [] [] O1 /\
  (∀i r ks ts O,items[i]?=some r->Inv i ks ts O->WG g (gf (piF fr) r) (inR fr O) λO1=>WT ct O1 λbb O2=>(bb=true->WE ek O2 λrk O3=>∃q,mI rk=some q/\q∉ks/\WE ev O3 λr O4=>∃t,r=⟨.ow,t⟩/\Inv (i+1) (ks++[q]) (ts++[t]) (bK fr (g.mu++(ct.mu++(ek.mu++ev.mu))) O4 O))/\(bb=false->Inv (i+1) ks ts (bK fr (g.mu++(ct.mu++(ek.mu++ev.mu))) O2 O))) /\
  ∀ks ts O,Inv items.length ks ts O->QE' ⟨.ow,kZ ks ts⟩ O)):WE (g8 fr it g ct ek ev) O QE':=by
 obtain⟨src,items,O1,e1,al,hl,Inv,h0,hs,he⟩:=h;obtain⟨⟨ks,ts⟩,O2,e,q⟩:=i8 (QC:=λp O=>QE' ⟨.ow,kZ p.1 p.2⟩ O) Inv hs he items 0 [] [] O1 rfl (GY _) h0;apply⟨⟨.ow,kZ ks ts⟩,O2,?_,q⟩;dsimp[g8,e1];rw[if_pos (by rw[Gd];exact⟨al,decide_eq_true hl⟩)];dsimp[e]
end
abbrev ixD(ra:R) (q:Key):Option R:=match ra.t with
 | .dc kvs=>(match cY kvs (eg q)with
  | some s=>ixP ra.k (some (.ky (eg q))) s
  | none=>none)
 | _=>none
private def ku(a b:ME):ME:=⟨λO=>match a.run O with
 | some (ra,O1)=>match b.run O1 with
  | some (rb,O2)=>if ax b.mu ra=true then(match mI rb with
   | some q=>(match ixD ra q with
    | some r=>some (r,O2)
    | none=>none)
   | none=>none)else none
  | none=>none
 | none=>none,a.mu++b.mu⟩
section
variable {Γ:Gm}{H H':Hp}{O:Rho}{Z:St}{E:List En}{v x y:V}{t:T}{K:yF}{Q:VK}
def xO{rk:R}{q:Key}{y:V}(e:mI rk=some q)(h:∃F,Rp K H rk.t y F):y=kV q:=by
 obtain⟨kk,tt⟩:=rk;unfold mI at e;dsimp only at e h;split at e;exact qJ e (dt h);cases e
def kq{q:Key}{w:V}:∀{zs:List (Key×V)},cY (zs.map λp=>(eg p.1,p.2)) (eg q)=some w->oK zs q=some w
 | [],e=>by cases e
 | z::zs,e=>by
  rw[Gg,cY]at e;split at e
  ·delta h;cases e;exact oN (uC h)
  ·delta h;rw[oM λz=>h (by rw[z])];exact kq e
def Sim.ixD{k:Kd}{kvs:List (I×T)}{s:T}{q:Key}{r:R}(S:Sim Γ H O Z (⟨none,x,⟨k,.dc kvs⟩⟩::E))(hj:cY kvs (eg q)=some s)(hr:L2.ixP k (some (.ky (eg q))) s=some r) :
  ∃w,(∀Q:VK,Q w H->dgR x (kV q) H Q)/\Sim Γ H O Z (⟨none,w,r⟩::E):=by
 have gen:∀F,Rp Γ.K H (.dc kvs) x F->∃w A G B,(∀Q:VK,Q w H->dgR x (kV q) H Q)/\Rp Γ.K H s w G/\F=A++G++B:=λF rp=>by
  rw[Rp]at rp;obtain⟨a,ys,F',rfl,⟨zs,hz,rfl⟩,h3,rfl⟩:=rp;obtain⟨w,A,G,B,h4,h5,h6,_⟩:=h3.at hj;exact⟨w,a::A,G,B,λQ q'=>⟨a,w,rfl,⟨zs,q,.inl hz,rfl,(kq h4).symm⟩,q'⟩,h5,by rw[h6];simp⟩
 have hview:∀ro p,k=.vw ro p->∃w,(∀Q:VK,Q w H->dgR x (kV q) H Q)/\Sim Γ H O Z (⟨none,w,⟨.vw ro none,s⟩⟩::E):=λro p hk=>by
  obtain⟨w,h1,S2⟩:=S.part (e:=⟨none,x,⟨k,.dc kvs⟩⟩) ymS hk (P:=λw=>∀Q:VK,Q w H->dgR x (kV q) H Q) (s:=s) (λF rp=>by
   obtain⟨w,A,G,B,h1,h2,h3⟩:=gen F rp;exact⟨w,G,h1,h2,λa ha=>by rw[h3];exact yaL _ (yaR _ ha)⟩)
  exact⟨w,h1,S2.swap.drop rfl⟩
 have main:∀k',ixK k (some (.ky (eg q)))=some k'->∃w,(∀Q:VK,Q w H->dgR x (kV q) H Q)/\Sim Γ H O Z (⟨none,w,⟨k',s⟩⟩::E):=λk' hk'=>by
  cases k with
  | ow=>
   cases hk';exact S.takeO gen
  | io m=>cases hk'
  | vw ro p=>
   cases ro with
   | none=>
    cases hk';exact hview none p rfl
   | some i=>
    cases p with
    | none=>cases hk';exact hview (some i) none rfl
    | some p=>
     cases hk';obtain⟨w,h1,S2⟩:=S.partP (e:=⟨none,x,⟨.vw (some i) (some p),.dc kvs⟩⟩) ymS rfl (a:=.ky (eg q)) (s:=s) hj;apply⟨w,λQ q'=>?_,S2.swap.drop rfl⟩;obtain⟨a,ys,ex,⟨zs,hz,rfl⟩,g2⟩:=h1;exact⟨a,w,ex,⟨zs,q,.inl hz,rfl,(kq g2).symm⟩,q'⟩
 cases s with
 | im i=>
  cases hr;obtain⟨F,rp⟩:=S.rd ymS;obtain⟨w,A,G,B,h1,h2,_⟩:=gen F rp;exact⟨w,h1,(S.drop rfl).imm (aZ h2).1⟩
 | _=>
  dsimp[L2.ixP]at hr;split at hr;delta k' e;cases hr;exact main k' e;cases hr
def wo{ta tb:TE}{a b:ME}(ha:aV K ta a)(hb:aV K tb b):aV K (tOp dgR ta tb) (ku a b):=by unhygienic
 intro Γ H O Z E Q r O' hK hr S q;dsimp[ku]at hr;split at hr
 ·delta ra O1 e1;split at hr
  ·delta rb O2 e2;split at hr
   ·delta al;split at hr
    ·delta q0 e4;split at hr
     ·delta r0 e3;cases hr;apply ha Γ H O Z E _ ra O1 hK e1 S λx H1 S1=>?_;apply hb Γ H1 O1 Z _ _ rb _ hK e2 S1 λy H2 S2=>?_;rw[ar (bp al),ae]at S2;have ey:=xO e4 (S2.rd ymS);have S3:=S2.drop rfl;obtain⟨k0,t0⟩:=ra;unfold L2.ixD at e3;dsimp only at e3;split at e3
      ·split at e3
       ·delta kvs s e5;obtain⟨w,h1,S4⟩:=Sim.ixD S3 e5 e3;have ey':y=kV q0:=ey;subst ey';exact h1 Q (q w _ S4)
       ·cases e3
      ·cases e3
     ·cases hr
    ·cases hr
   ·cases hr
  ·cases hr
 ·cases hr
end
section
variable {ι : Type}{C:ι->Cx}{P:LR}{W:Mb}{K:yF}{mg:Str->Option LH}{base:Heap}{k:Nat}{a b e o:Expr}{ma mb mo mi:ME}{pos:Pos}
def B7(ck:CK C P W K mg base k)(ha:QE C K a ma)(hb:QE C K b mb)(hs:Ax b:=by intro _ _;rfl):QE C K (.Subscript a b pos) (ku ma mb):=by
 obtain⟨ta,p,r⟩:=ha;obtain⟨tb,p',r'⟩:=hb;exact⟨_,λi=>yq (Dz (ck.room i)) (p i) (p' i) hs,wo r r'⟩
end
open AutoSeq1 (wpAny_loadPart')
open MeetsSeq MeetsSeq2 MeetsSeq3 SeqRoads2
def k6(l:Addr)(items:Array LH)(n:Nat)(x:LH)(e:LH->Bool)(j:Nat)(hj:j<items.size)(hit:e items[j]=true)(k:Nat)(hs1:items.size<=sizeLine) :
  ∀i:Nat,j-i=k->i<=j->(∀m (hm:m<items.size),i<=m->m<j->e items[m]=false)->QL (LM.«list.remove.loop» ⟨[.ref l,x,NY i],[]⟩)
   (λA R s=>s.heap.get? l=some {cls:=.type "list",dict:=none,data:=.seq items n,slots:=#[]}/\(∀y,y∈items->Me A.in1 s y x (e y))/\R (.ok (.ret .none)) {s with heap:=s.heap.update l (Md λxs=>xs.eraseIdxIfInBounds j)}):=by
 induction k with
 | zero=>
  intro i hk hij hno prog w A R s h;obtain⟨hp,g,d,tk,os⟩:=s;obtain⟨hl,he,h⟩:=h;have hij':i=j:=by omega
  subst hij';wp_walk using NK hl
  have hi:items[((i:Nat):Int).toNat]?=some items[i]:=by simp[hj]
  rw[hi];apply LG (he _ (Kc hj) prog w _ _ ?_);rw[hit];have hz':(items.eraseIdxIfInBounds i).size<=sizeLine+1:=GV (size_erased items _) (Nat.le_succ_of_le hs1);wp_walk using(M7 hl rfl (hz:=hs1) (_hz':=hz')),NK hl
  exists h
 | succ k ih=>
  intro i hk hij hno prog w A R s h;obtain⟨hp,g,d,tk,os⟩:=s;obtain⟨hl,he,h⟩:=h;have hlt:i<items.size:=by omega
  wp_walk using NK hl
  have hi:items[((i:Nat):Int).toNat]?=some items[i]:=by simp[hlt]
  have hc:((i:Int)+1)=((i+1:Nat):Int):=by push_cast;rfl
  rw[hi];apply LG (he _ (Kc hlt) prog w _ _ ?_);rw[hno i hlt (Gj _) ⋯];wp_walk
  rw[hc];exact⟨Ni Nr _,M8 PN (by
   rw[MF Nr _];exact ih (i+1) ⋯ ⋯ (λm hm h1 h2=>hno m hm ⋯ h2) prog w A R _ ⟨hl,he,h⟩)⟩
def kY(l:Addr)(items:Array LH)(n:Nat)(x:LH)(e:LH->Bool)(j:Nat)(hj:j<items.size)
  (hit:e items[j]=true) (hno:∀m (hm:m<items.size),m<j->e items[m]=false) (hs1:items.size<=sizeLine) :
  QL (LM.«list.remove» ⟨[.ref l,x],[]⟩)
   (λA R s=>s.heap.get? l=some {cls:=.type "list",dict:=none,data:=.seq items n,slots:=#[]}/\(∀y,y∈items->Me A.in1 s y x (e y))/\R (.ok (.ret .none)) {s with heap:=s.heap.update l (Md λxs=>xs.eraseIdxIfInBounds j)}):=by
 intro prog w A R s h;obtain⟨hp,g,d,tk,os⟩:=s;obtain⟨hl,he,h⟩:=h;wp_walk using NK hl
 exact⟨Ni Nr _,M8 PN (by
  rw[MF Nr _];exact k6 l items n x e j hj hit _ hs1 0 rfl (GY _) (λm hm _ h2=>hno m hm h2) prog w A R _ ⟨hl,he,h⟩)⟩
section
variable {X:Cx}
abbrev wd(K:yF):V->List V->Hp->VK->Prop:=λx vs H Q=>∃l xs y d ds k,x=.ref l/\vs=[y]/\H l=some (.lst xs)/\Rep K H d y/\K2 K H ds xs/\aF ds<=50/\ds[k]?=some d/\d∉ds.take k/\Q .non (upd H l (.lst (xs.eraseIdx k)))
def ka{Uq:List (Addr×Obj)}{Z:St}{H:Hp}{s:LI}(I:Inv X Uq Z H s){d:D}:∀{ds:List D} {xs:List V} {us:List LH} {k:Nat} {e:D} {u:LH},K2 X.K H ds xs->Vals xs us->ds[k]?=some e->us[k]?=some u->(isD X.K H d u=true↔d=e)
 | [],xs,us,k,e,u,h,r,he,hu=>by cases he
 | e0::ds,xs,us,k,e,u,h,r,he,hu=>by
  rw[K2]at h;obtain⟨x,q,rfl,h2,h3⟩:=h;cases r with
  | @cons _ u0 _ us0 r1 r2=>
   cases k with
   | zero=>
    cases he;cases hu;rw[mE];constructor
    ·rintro⟨v,rv,hv⟩;rw[rv.inj r1]at hv;exact Rep.inj I hv h2
    ·intro z;subst z;exact⟨x,r1,h2⟩
   | succ k=>exact ka I h3 r2 (by exists he) (by exists hu)
def x9(hu:X.A.units+64<My):MtR X "list.remove" (wd X.K):=by
 intro Uq s Z H x vs v us Q I rx rv h;obtain⟨l,xs,y,d,ds,k,rfl,rfl,hH,hd,hds,hdp,hk,hno,q⟩:=h;cases rx;obtain⟨u,rfl,ru⟩:=rv.one;obtain⟨z,its,n,r,hl,e⟩:=I.lstM hH;have hu':X.A.in1.units+aF ds<My:=by show X.A.units+1+aF ds<My;omega
 have ll:its.length=ds.length:=by rw[<-r.length,hds.length]
 have hkl:k<ds.length:=(Gc.mp hk).1;apply MC F.slot_list_remove ⟨_,e,rfl⟩ F.entry_list_remove (F.args_list_remove_2 _ _)
  (kY l its.toArray n u (isD X.K H d) k (by rw[Gf];omega) ?_ ?_ (by rw[Gf];omega)) ⟨e,λy' hy=>dI I hd ru hu' (λ_ z=>z) hds r y' (by exists hy),?_⟩
 ·exact(ka I hds r hk ∅).mpr rfl
 ·intro m hm hmk;have hm':m<ds.length:=by rw[Gf]at hm;omega
  rw[<-ID];intro t;have:=(ka I hds r (k:=m) (e:=ds[m]) ∅ ∅).mp t;apply hno ?_;rw[this];exact HL.mpr ⟨m,by omega,rfl⟩
 ·apply⟨.non,_,I.lset (its':=its.eraseIdx k) hH e ?_ (r.eraseIdx k) ?_,rfl,q⟩
  ·show its.toArray.eraseIdxIfInBounds k=(its.eraseIdx k).toArray;rw[Iz]
  ·have:=lB xs k;omega
end
def gM{prog:LR}{w:Mb}{A:LX}{E:LH->LI->Prop}{s:LI}{Q:List LH->LI->Prop}{r:Addr}{a b c:Int}{t u v:Tok}{n:Nat}(hh:A.handled=none)(hr:Py s.heap r a b c t u v)(hsmall:NP a b c=true)
  (hn:MZ a b c=n) (hlen:n<=2^24)
  (hQ:∀h' tk (acc:Array LH),(∀b o,s.heap.get? b=some o->h'.get? b=some o)->Od (λi v=>∃t,v=.int (a+i*c) t) acc n->Q acc.toList {s with heap:=h',toks:=tk}) :
  LN (LO prog w) A (QZ (.ref r)) Q E s:=by
 have key:∀R:Og->LI->Prop,(∀h' tk (acc':Array LH) c',(∀b o,s.heap.get? b=some o->h'.get? b=some o)->h'.get? s.heap.objs.size=some {cls:=.type "list",dict:=none,data:=.seq acc' c',slots:=#[]}->Od (λi v=>∃t,v=.int (a+i*c) t) acc' n->R (.ok (.ret (.ref s.heap.objs.size))) {s with heap:=h',toks:=tk}) ->
   Mv (LO prog w) A (.builtin "proto.collect" ⟨[.ref r],[]⟩) R s:=λR hR=>by
  apply M8 ON ?_;rw[MF OO _];show LN _ A.in1 (Qe [] >>= λl=>again (.builtin "list.__iadd__" ⟨[l,.ref r],[]⟩)) _ _ s;apply LG (LU ?_);apply LJ ⟨Ni Nt _,M8 PP ?_⟩;rw[MF Nt _];have hS₁ : (s.heap.push {cls:=.type "list",data:=.seq ([]:List LH).toArray}).get? s.heap.objs.size=some {cls:=.type "list",data:=.seq ([]:List LH).toArray}:=LQ _ rfl;show LN _ A.in1 (Mw (.ref s.heap.objs.size) (.ref r) (.ref s.heap.objs.size)) _ _ _;exact @wpAny_extend_range prog w A {s with heap:=s.heap.push {cls:=.type "list",data:=.seq ([]:List LH).toArray}} R r a b c t u v n hh (LK _ hr) hsmall hn hlen s.heap.objs.size (.ref s.heap.objs.size) 0 hS₁ λh' tk acc' c' hk hS' hacc=>hR h' tk acc' c' (λb o e=>hk b o (GO (LP e)) (LK _ e)) hS' hacc
 unfold QZ;apply LG (Qu (key _ λh' tk acc' c' hk hS' hacc=>?_));show LN _ A (load s.heap.objs.size >>= _) _ _ _;apply LG (Qk hS' ?_);exact LJ (hQ h' tk acc' hk hacc)
def fR(r:Addr){a b c:Int}{t u v:Tok}{n:Nat}(hsmall:NP a b c=true)(hn:MZ a b c=n)(hlen:n<=2^24)(hsz:n<=sizeLine) :
  QL (LM.«tuple.__new__» ⟨[.type "tuple",.ref r],[]⟩)
   (λA R s=>A.handled=none/\Py s.heap r a b c t u v/\∀(h':Heap) (tk:Nat) (acc:Array LH),(∀b o,s.heap.get? b=some o->h'.get? b=some o)->Od (λi v=>∃t,v=.int (a+i*c) t) acc n ->
    R (.ok (.ret (.ref h'.objs.size))) {s with heap:=h'.push {cls:=.type "tuple",data:=.seq acc},toks:=tk}):=
 .of_wp λprog w A R s h=>by
  obtain⟨hh,hr,h⟩:=h;have hsub:=sub_tuple_self;have hinit:=init_tuple_lookup;have hmh:=madeHere_tuple;have hT:s.TypeIs (.ref r) "range" :=⟨_,hr,rfl⟩;have hh1:A.in1.handled=none:=hh;wp_walk using M4 hT,gM hh1 hr hsmall hn hlen
  intro h' tk acc hk hacc;show LN _ _ (LW acc.toList.toArray >>= λv=>ret v) _ _ _;unfold LW;apply LG (LU ?_ (show acc.toList.toArray.size<=sizeLine by dsimp[Ik];rw[hacc.1];exact hsz));apply LJ ⟨_,rfl,?_⟩;have e:acc.toList.toArray=acc:=by simp
  rw[e];exact h h' tk acc hk hacc
def iY{prog:LR}{w:Mb}{A:LX}{E:LH->LI->Prop}{s:LI}{Q:LH->LI->Prop}{r:Addr}{a b c:Int}{t u v:Tok}{n:Nat}(hh:A.handled=none)(hr:Py s.heap r a b c t u v)(hsmall:NP a b c=true)
  (hn:MZ a b c=n) (hlen:n<=2^24) (hsz:n<=sizeLine)
  (h:∀(h':Heap) (tk:Nat) (acc:Array LH),(∀b o,s.heap.get? b=some o->h'.get? b=some o)->Od (λi v=>∃t,v=.int (a+i*c) t) acc n->Q (.ref h'.objs.size) {s with heap:=h'.push {cls:=.type "tuple",data:=.seq acc},toks:=tk}) :
  LN (LO prog w) A (call (.type "tuple") [.ref r]) Q E s:=
 callType_new F.called_tuple (by decide) (F.typeCall_tuple_1 _) (F.newCall_tuple_1 _) (λobj=>OY obj _) F.entry_tuple_new
  (fR r hsmall hn hlen hsz) ⟨hh,hr,λh' tk acc hk hacc=>⟨⟨_,LQ _ rfl,rfl⟩,h h' tk acc hk hacc⟩⟩
abbrev k7(n:Nat):List V:=(Gz n).map λi:Nat=>V.int (i:Int)
def oh{n:Nat}{acc:Array LH}(h:Od (λi v=>∃t,v=.int (0+i*1) t) acc n):Vals (k7 n) acc.toList:=by
 have key:∀(us:List LH) (k:Nat),(∀i v,us[i]?=some v->∃t,v=O6 (((k+i:Nat):Int)) t)->Vals ((Gz us.length).map λi:Nat=>V.int ((k+i:Nat):Int)) us:=by
  intro us
  induction us with
  | nil=>intro k _;exact .nil
  | cons u us ih=>
   intro k hk;rw[Gp,Js,Gg,Hf];apply .cons ?_ ?_
   ·obtain⟨t,e⟩:=hk 0 u rfl;rw[e];exact⟨t,rfl⟩
   ·have:=ih (k+1) λi v e=>by
     obtain⟨t,e'⟩:=hk (i+1) v (by exists e);exact⟨t,by rw[e'];congr 1;omega⟩
    have e2:((λi:Nat=>V.int ((k+i:Nat):Int))∘Nat.succ)=λi:Nat=>V.int ((k+1+i:Nat):Int):=by funext i;show V.int _=V.int _;congr 2;omega
    rw[e2];exact this
 have:=key acc.toList 0 λi v e=>by
  obtain⟨t,e'⟩:=h.2 i v (by rw[<-IB];exact e);exact⟨t,by rw[e'];congr 1;simp⟩
 have hl:acc.toList.length=n:=by rw[G5];exact h.1
 rw[hl]at this;have e:(λi:Nat=>V.int ((0+i:Nat):Int))=λi:Nat=>V.int (i:Int):=by funext i;rw[Hb]
 rw[e]at this;exact this
section
variable {X:Cx}
abbrev y6:List V->Hp->VK->Prop:=λxs H Q=>∃n:Nat,xs=[.int (n:Int)]/\∀r,H r=none->Q (.ref r) (upd H r (.rng 0 n))
def ud:La X (.type "range") y6:=by
 intro Uq s Z H xs us Q I rv h;obtain⟨n,rfl,q⟩:=h;obtain⟨u,rfl,ru⟩:=fh rv;obtain⟨t,rfl⟩:=ru;apply call_range_1 ?_;exact⟨.ref s.heap.objs.size,_,I.laid (t':=s.toks+1+1) (o:=.rng 0 n) (λb o q=>LK _ q) (Gj _) (show K6 X.prog X.w _ _ _ (.rng 0 n)from⟨_,_,_,LQ _ rfl⟩),rfl,q _ (I.hok.fresh (Gj _))⟩
abbrev Ag:List V->Hp->VK->Prop:=λxs H Q=>∃(a:Addr) (n:Nat),xs=[.ref a]/\H a=some (.rng 0 n)/\n<=1000000/\∀l,H l=none->Q (.ref l) (upd H l (.lst (k7 n)))
def call_lrng(hc:X.calm=true):La X (.type "list") Ag:=by
 intro Uq s Z H xs us Q I rv h;obtain⟨a,n,rfl,ha,hn,q⟩:=h;obtain⟨u,rfl,ru⟩:=fh rv;cases ru;obtain⟨t,u,v,e⟩:=(show K6 X.prog X.w H s.heap a (.rng 0 n)from I.hok a _ ha);have hz:(1000000:Nat)<=sizeLine:=by rw[LL];decide
 apply call_list_range (n:=n) (I.ok.hd hc) (show Py s.heap a 0 n 1 t u v from e) (QD ⋯ ⋯ ⋯ ⋯) (by rw[Pg];split<;>omega) ⋯ λh' tk acc' c' hk hS ia=>?_;have hl:(k7 n).length=n:=by simp[k7]
 exact⟨.ref s.heap.objs.size,_,I.laid (t':=tk) hk (Gj _) (show K6 X.prog X.w _ h' _ (.lst (k7 n))from⟨by rw[hl];omega,acc'.toList,c',oh ia,by rw[Ik];exact hS⟩),rfl,q _ (I.hok.fresh (Gj _))⟩
abbrev we:List V->Hp->VK->Prop:=λxs H Q=>∃(a:Addr) (n:Nat),xs=[.ref a]/\H a=some (.rng 0 n)/\n<=1000000/\∀l,H l=none->Q (.ref l) (upd H l (.tup (k7 n)))
def rR(hc:X.calm=true):La X (.type "tuple") we:=by
 intro Uq s Z H xs us Q I rv h;obtain⟨a,n,rfl,ha,hn,q⟩:=h;obtain⟨u,rfl,ru⟩:=fh rv;cases ru;obtain⟨t,u,v,e⟩:=(show K6 X.prog X.w H s.heap a (.rng 0 n)from I.hok a _ ha);have hz:(1000000:Nat)<=sizeLine:=by rw[LL];decide
 apply iY (n:=n) (I.ok.hd hc) (show Py s.heap a 0 n 1 t u v from e) (QD ⋯ ⋯ ⋯ ⋯) (by rw[Pg];split<;>omega) ⋯ ⋯ λh' tk acc hk ia=>?_;have hl:(k7 n).length=n:=by simp[k7]
 have I1:Inv X Uq Z H {s with heap:=h',toks:=tk}:=I.kept (t':=tk) hk;exact⟨.ref h'.objs.size,_,I1.laid (t':=tk) (λb o q=>LK _ q) (Gj _) (show K6 X.prog X.w _ _ _ (.tup (k7 n))from⟨by rw[hl];omega,acc.toList,oh ia,by rw[Ik];exact Ld.new _ _⟩),rfl,q _ (I1.hok.fresh (Gj _))⟩
end
abbrev EX(is:List I) (i:I):Option (T×I):=if i.dok=true/\I.doks is=true/\I.deps is<=50/\i∈is then some (.li (is.eraseIdx (is.findIdx λj=>decide (j=i))),.non)else none
abbrev EW(is:List I) (t:T):Option (T×I):=match t with
 | .im i=>EX is i
 | _=>none
private def pS(s:T)(ts:List T):Option (T×I):=match s with
 | .li is=>l1 (EW is) ts
 | _=>none
abbrev jK(n:Nat):List I:=(Gz n).map λi:Nat=>I.int (i:Int)
private def zX:List T->Option T:=l1 λt=>match isI t with
 | some n=>if 0<=n/\n<=1000000 then some (.li (jK n.toNat))else none
 | none=>none
private def lT:List T->Option T:=l1 λt=>match isI t with
 | some n=>if 0<=n/\n<=1000000 then some (.im (.tup (jK n.toNat)))else none
 | none=>none
section
variable {K:yF}{H:Hp}
def kP{i:I}:∀{is:List I} {k:Nat},is[k]?=some i->(I.toDs is)[k]?=some i.toD
 | [],k,h=>by cases h
 | x::xs,0,h=>by cases h;rfl
 | x::xs,k+1,h=>by rw[I.toDs];simpa using kP (by exists h)
def jy:∀(is:List I) (k:Nat),(I.toDs is).take k=I.toDs (is.take k)
 | [],k=>by rw[I.toDs,JR,JR,I.toDs]
 | x::xs,0=>by rw[IV,IV,I.toDs]
 | x::xs,k+1=>by rw[I.toDs,IQ,IQ,I.toDs,jy xs k]
def i9:∀{is:List I} (k:Nat),I.doks is=true->I.doks (is.take k)=true
 | [],k,_=>by rw[JR];rfl
 | x::xs,0,_=>rfl
 | x::xs,k+1,h=>by
  rw[I.doks,Gd]at h;rw[IQ,I.doks,h.1,i9 k h.2];rfl
def nH{is:List I}{i:I}(h:i∈is):is[is.findIdx λj=>decide (j=i)]?=some i/\i∉is.take (is.findIdx λj=>decide (j=i)):=by
 have hl:is.findIdx (λj=>decide (j=i))<is.length:=Iy ⟨i,h,decide_eq_true rfl⟩;constructor
 ·have:=JI (w:=hl);rw[GD hl];exact congrArg some (of_decide_eq_true this)
 ·intro hm;obtain⟨m,hm1,hm2⟩:=HL.mp hm;have hlt:m<is.findIdx (λj=>decide (j=i)):=by omega
  have:=List.not_of_lt_findIdx hlt;exact absurd (decide_eq_true hm2) (by exists this)
def vH:du K (wd K) pS:=by
 intro H w vs s ts s' i G F Q rw0 rs nd mu e q;unfold pS at e;split at e
 ·delta is;have e0:=bX e;clear e;obtain⟨t,rfl,e⟩:=e0;unfold EW at e;split at e
  ·delta x;unfold EX at e;split at e
   ·delta hb;cases e;obtain⟨b1,b2,b3,b4⟩:=hb;obtain⟨a,xs,rfl,h1,h2,rfl⟩:=jF rw0 λa ha=>mu a (yaL _ ha);obtain⟨z,rfl,g⟩:=tu rs;obtain⟨g1,rfl⟩:=aZ g;obtain⟨f1,f2⟩:=nH b4;apply⟨a,xs,z,x.toD,I.toDs is,is.findIdx λj=>decide (j=x),rfl,rfl,h1,hV b1 g1,eH b2 h2,by rw[eB];exact b3,kP f1,?_,gt h1 (h2.erase _) (by rw[RpI]) q⟩;rw[jy,f8 b1 (i9 _ b2)];exact f2
   ·cases e
  ·cases e
 ·cases e
def C3(H:Hp)(x:V)(tx:T)(ts:List T)(r:T×I)(h:Rpx K H tx x)(e:pS tx ts=some r):tyV K "list" x H:=by
 unfold pS at e;split at e;exact lX h;cases e
def wD{n:Nat}:KT K H (jK n) (k7 n):=by
 have key:∀l:List Nat,KT K H (l.map λi:Nat=>I.int (i:Int)) (l.map λi:Nat=>V.int (i:Int)):=by
  intro l
  induction l with
  | nil=>rw[He,He,KT]
  | cons a l ih=>rw[Gg,Gg,KT];exact⟨_,_,rfl,by rw[RpI],ih⟩
 exact key _
def prim_lrng:eA K (λvs H Q=>y6 vs H λx H2=>Ag [x] H2 Q) zX:=by
 intro H vs ts t Q r e q;unfold zX at e;have e0:=bX e;clear e;obtain⟨x,rfl,e⟩:=e0;obtain⟨v,rfl,r1⟩:=iT r;split at e
 ·delta n hn;cases cn hn;split at e
  ·delta hb;cases e;have ev:=aO r1;subst ev;apply⟨n.toNat,by rw[JM hb.1],λa ha=>⟨a,n.toNat,rfl,by rw[aI],by omega,λl hl=>q _ _ ?_⟩⟩;have hal:l≠a:=λz=>by subst z;rw[aI]at hl;cases hl
   have s1:=Le.laid (o:=.rng 0 n.toNat) ha;obtain⟨sm,F,h1,h2,h3⟩:=New.li (K:=K) hl (wD (n:=n.toNat));apply⟨λb o hb=>sm b o (s1 b o hb),F,h1,h2,λb hb=>⟨?_,(h3 b hb).2⟩⟩;have:=(h3 b hb).1;cases e:H b with
   | none=>rfl
   | some o=>rw[s1 b o e]at this;cases this
  ·cases e
 ·cases e
def sQ:eA K (λvs H Q=>y6 vs H λx H2=>we [x] H2 Q) lT:=by
 intro H vs ts t Q r e q;unfold lT at e;have e0:=bX e;clear e;obtain⟨x,rfl,e⟩:=e0;obtain⟨v,rfl,r1⟩:=iT r;split at e
 ·delta n hn;cases cn hn;split at e
  ·delta hb;cases e;have ev:=aO r1;subst ev;apply⟨n.toNat,by rw[JM hb.1],λa ha=>⟨a,n.toNat,rfl,by rw[aI],by omega,λl hl=>q _ _ ?_⟩⟩;have s1:=Le.laid (o:=.rng 0 n.toNat) ha;obtain⟨sm,F,h1,h2,h3⟩:=New.tup (K:=K) hl (wD (n:=n.toNat));apply⟨λb o hb=>sm b o (s1 b o hb),F,h1,h2,λb hb=>⟨?_,(h3 b hb).2⟩⟩;have:=(h3 b hb).1;cases e:H b with
   | none=>rfl
   | some o=>rw[s1 b o e]at this;cases this
  ·cases e
 ·cases e
end
section
variable {ι : Type}{C:ι->Cx}{P:LR}{W:Mb}{K:yF}{mg:Str->Option LH}{base:Heap}{k:Nat}{a e o:Expr}{es:List Expr}{ms:MA}{pos:Pos}
def Ex(l:Nat)(mv:List Nat){apos:Pos}{mo:ME}(ck:CK C P W K mg base k)(ho:QE C K o mo)(ha:QA C K (e::es) ms)(hlen:decide ((e::es).length<30)=true:=by rfl)
  (hbase:∀i,MD o "remove" (C i).env (eval o (C i).env)=eval o (C i).env:=by intro _;rfl) (hline:(apos.endLine==pos.line)=true:=by rfl):QE C K (.Call (.Attribute o "remove" apos) (e::es) [] pos) (b7 l mv pS mo ms):=by
 obtain⟨to,q,r⟩:=ho;obtain⟨ta,q',n,r'⟩:=ha;exact⟨_,λi=>xq (r:=wd K) (ck.kk i) PySem.F.plainAttrs_list PySem.F.slot_list_remove PySem.F.type_list_remove (by have:=x9 (X:=C i) ((ck.room i).units);rw[ck.kk i]at this;exact this) (q i) (q' i) n hlen (hbase i) hline,qT vH C3 r r'⟩
def Cc{p p2 pos2:Pos}(ck:CK C P W K mg base k)(T:Bi mg)(ha:QA C K [a] ms)(hg:∀i,Gl (C i) "tuple" :=by intro _;rfl)(hg2:∀i,Gl (C i) "range" :=by intro _;rfl):QE C K (.Call (.Name "tuple" p) [.Call (.Name "range" p2) [a] [] pos2] [] pos) (mB lT ms):=by
 obtain⟨ta,q,n,r⟩:=ha;exact⟨_,λi=>hC (rR (ck.calm i)) (hg i) (by rw[ck.mg i];exact T.b_tuple) Jo (kD (hC ud (hg2 i) (by rw[ck.mg i];exact T.b_range) Ky (q i) n (by decide) (by decide)) vc rfl) rfl (by decide) (by decide),(show aV K (tCB (λvs H Q=>y6 vs H λx H2=>we [x] H2 Q) ta) (mB lT ms)from n8 sQ r)⟩
end
section
variable {Q:T->Prop}{QI1:T->I->Prop}{is:List I}{i:I}
def D2(h:i.dok=true/\I.doks is=true/\I.deps is<=50/\i∈is)(q:QI1 (.li (is.eraseIdx (is.findIdx λj=>decide (j=i)))) .non):W2 (pS (.li is) [.im i]) QI1:=by unhygienic exact⟨_,_,if_pos h,q⟩
def BJ{n:Int}(h:0<=n/\n<=1000000)(q:Q (.im (.tup (jK n.toNat)))):W1 (lT [.im (.int n)]) Q:=by unhygienic exact⟨_,if_pos h,q⟩
end
end L2
namespace L2
open PySem
noncomputable section
abbrev cV:MS:=(am (aB (mB fA (aa 0 mNil)) (ag 2))
  (bd (aU [none,none,some 2,none] (mIt (af 1)) (ag 3) mYes (ay [] (ac (mIx (mIx (af 2) (af 3)) (mC (.int 0))) (ac (mIx (mIx (af 2) (af 3)) (mC (.int 1))) mNil))))))
abbrev eQ(ts:List T):Option T:=if ts.length=2 then cT cV 3 ts else none
abbrev bV:MS:=(am (aB (aR [0] (aa 0 mNil)) (ag 2))
  (am (aB (mC (.int 0)) (ag 3))
  (am (dL (aJ (mOp (fU λi j=>decide (i<j)) (af 3) (mB cL (aa 2 mNil))))
  (bU [4,5] (am (bZ (mIt (af 1)) (dr (aW (ag 4) (aW (ag 5) mGNil)))
  (bU [4,5] (mIf (kr (aJ (mOp eqT (af 4) (mIx (af 2) (af 3)))) (aJ (mOp iP (af 5) (af 2)))) (be (b7 2 [5] apT (af 2) (aa 5 mNil))) mNext)))
  (sr 3 (· + ·) (mC (.int 1))))))
  (bd (af 2)))))
abbrev cS(ts:List T):Option T:=if ts.length=2 then cT bV 6 ts else none
abbrev cb:MS:=(am (aB (g8 [none,some 1,none,none,none,none] (mIt (af 0)) (ag 4) mYes (af 4) (mB cS (aa 4 (aa 1 mNil)))) (ag 2))
  (am (aB (aR [] mNil) (ag 3))
  (am (bZ (mIt (af 0)) (ag 4)
  (bU [4,5] (am (aB (mB gq (ac (aU [none,none,some 2,none,some 4,none,none] (mIt (af 0)) (ag 6) (kr (aJ (mOp inT (af 6) (ku (af 2) (af 4)))) (aJ (mOp inT (af 4) (ku (af 2) (af 6))))) (af 6)) mNil)) (ag 5))
  (mIf (aJ (mOp iP (af 5) (af 3))) (be (b7 3 [5] apT (af 3) (aa 5 mNil))) mNext))))
  (bd (af 3)))))
abbrev dg(ts:List T):Option T:=if ts.length=2 then cT cb 6 ts else none
abbrev fu:MS:=(bd (mB rM (ac (aU [some 0,some 1,none,none,none] (mIt (af 2)) (dr (aW (ag 3) (aW (ag 4) mGNil))) (aJ (mOp inT (af 3) (af 0))) (pj (mOp inT (af 4) (af 0)) (mOp inT (af 4) (af 1)))) mNil)))
abbrev hU(ts:List T):Option T:=if ts.length=3 then cT fu 3 ts else none
abbrev dz:MS:=(am (aB (mB eQ (aa 0 (aa 1 mNil))) (ag 2))
  (am (aB (mB dg (ac (aU [none,none,none,none,none,none,none,none,none] (mIt (mIx (af 0) (mC (.int 2)))) (dr (aW (ag 7) (aW (ag 8) mGNil))) mYes (af 7)) (aa 2 mNil))) (ag 3))
  (am (aB (aR [] mNil) (ag 4))
  (am (aB (aR [] mNil) (ag 5))
  (am (dL (pw (af 3))
  (bU [6] (am (aB (mIx (aU [none,none,some 2,none,none,some 5,none,none] (mIt (af 3)) (ag 7) (aJ (mB hU (aa 7 (aa 5 (aa 2 mNil))))) (af 7)) (mC (.int 0))) (ag 6))
  (am (be (b7 3 [6] pS (af 3) (aa 6 mNil)))
  (am (be (b7 4 [6] apT (af 4) (aa 6 mNil)))
  (be (b7 5 [6] j7 (af 5) (aa 6 mNil))))))))
  (bd (mB gq (aa 4 mNil))))))))
abbrev bo(ts:List T):Option T:=if ts.length=2 then cT dz 7 ts else none
end
end L2
namespace L2
open PySem PySem.Spec PyProof.Rows
section
variable {X:Cx}
abbrev vY(K:yF):V->List V->Hp->VK->Prop:=λx vs H Q=>∃l xs y d ds k,x=.ref l/\vs=[y]/\SqL K H l xs/\Rep K H d y/\K2 K H ds xs/\aF ds<=50/\ds[k]?=some d/\d∉ds.take k/\Q (.int (k:Int)) H
def x0(hu:X.A.units+64<My):MtR X "list.index" (vY X.K):=by
 intro Uq s Z H x vs v us Q I rx rv h;obtain⟨l,xs,y,d,ds,k,rfl,rfl,hH,hd,hds,hdp,hk,hno,q⟩:=h;cases rx;obtain⟨u,rfl,ru⟩:=rv.one;obtain⟨its,r,⟨⟨cls,dict,data,slots⟩,n,e,c1,c2,c3⟩,hz⟩:=I.list hH;dsimp only at c1 c2 c3;subst c1 c2 c3;have hu':X.A.in1.units+aF ds<My:=by show X.A.units+1+aF ds<My;omega
 have ll:its.length=ds.length:=by rw[<-r.length,hds.length]
 have hkl:k<ds.length:=(Gc.mp hk).1;have hz':ds.length<=sizeLine:=by rw[<-hds.length];exact hz
 apply MC F.slot_list_index ⟨_,e,rfl⟩ F.entry_list_index (F.args_list_index_2 _ _)
  (SeqAt.list_indexAt l its.toArray n _ _ u (isD X.K H d) k (by rw[Gf];omega) (by have:=LL;omega) ?_ ?_) ⟨e,λy' hy=>dI I hd ru hu' (λ_ z=>z) hds r y' (by exists hy),?_⟩
 ·exact(ka I hds r hk ∅).mpr rfl
 ·intro m hm hmk;have hm':m<ds.length:=by rw[Gf]at hm;omega
  rw[<-ID];intro t;have:=(ka I hds r (k:=m) (e:=ds[m]) ∅ ∅).mp t;apply hno ?_;rw[this];exact HL.mpr ⟨m,by omega,rfl⟩
 ·exact⟨.int k,_,I.kept (t':=s.toks+1) λb o e=>e,⟨_,rfl⟩,q⟩
end
abbrev DC(is:List I) (i:I):Option T:=if i.dok=true/\I.doks is=true/\I.deps is<=50/\i∈is then some (.im (.int ((is.findIdx λj=>decide (j=i)):Nat)))else none
abbrev DB(is:List I) (t:T):Option T:=match t with
 | .im i=>DC is i
 | _=>none
private def o8(s:T)(ts:List T):Option T:=match s with
 | .li is=>l1 (DB is) ts
 | _=>none
section
variable {K:yF}
def vq:qk K "list" (vY K) o8:=by
 intro H x vs tx ts t Q rx rs e q;unfold o8 at e;split at e
 ·delta is;have e0:=bX e;clear e;obtain⟨t',rfl,e⟩:=e0;obtain⟨v,rfl,r1⟩:=iT rs;unfold DB at e;split at e
  ·delta i;unfold DC at e;split at e
   ·delta hb;cases e;obtain⟨b1,b2,b3,b4⟩:=hb;obtain⟨a,xs,rfl,h1,h2⟩:=cM rx;obtain⟨f1,f2⟩:=nH b4;apply⟨a,xs,v,i.toD,I.toDs is,is.findIdx λj=>decide (j=i),rfl,rfl,.inl h1,hV b1 (dt r1),eH b2 h2,by rw[eB];exact b3,kP f1,?_,q _ _ (New.im (by rw[RpI]))⟩;rw[jy,f8 b1 (i9 _ b2)];exact f2
   ·cases e
  ·cases e
 ·cases e
def C0(H:Hp)(x:V)(tx:T)(ts:List T)(t:T)(h:Rpx K H tx x)(e:o8 tx ts=some t):tyV K "list" x H:=by
 unfold o8 at e;split at e;exact lX h;cases e
end
section
variable {ι : Type}{C:ι->Cx}{P:LR}{W:Mb}{K:yF}{mg:Str->Option LH}{base:Heap}{k:Nat}{a e o:Expr}{es:List Expr}{ms:MA}{pos:Pos}
def Eo{apos:Pos}{mo:ME}(ck:CK C P W K mg base k)(ho:QE C K o mo)(ha:QA C K (e::es) ms)(hlen:decide ((e::es).length<30)=true:=by rfl)
  (hbase:∀i,MD o "index" (C i).env (eval o (C i).env)=eval o (C i).env:=by intro _;rfl) (hline:(apos.endLine==pos.line)=true:=by rfl):QE C K (.Call (.Attribute o "index" apos) (e::es) [] pos) (mM o8 mo ms):=by
 obtain⟨to,q,r⟩:=ho;obtain⟨ta,q',n,r'⟩:=ha;exact⟨_,λi=>xq (r:=vY K) (ck.kk i) PySem.F.plainAttrs_list PySem.F.slot_list_index PySem.F.type_list_index (by have:=x0 (X:=C i) ((ck.room i).units);rw[ck.kk i]at this;exact this) (q i) (q' i) n hlen (hbase i) hline,Al vq C0 r r'⟩
end
def DX{Q:T->Prop}{is:List I}{i:I}(h:i.dok=true/\I.doks is=true/\I.deps is<=50/\i∈is)(q:Q (.im (.int ((is.findIdx λj=>decide (j=i)):Nat)))):W1 (o8 (.li is) [.im i]) Q:=by unhygienic exact⟨_,if_pos h,q⟩
section
variable {prog:LR}{w:Mb}{A:LX}{E:LH->LI->Prop}{s:LI}
def kW{Q:List LH->LI->Prop}(t:Addr){o:Obj}{its:Array LH}{n:Nat}{T:String}(hT:T = "list" \/ T = "tuple")(ho:s.heap.get? t=some o)(hc:o.cls=.type T)(hd:o.data=.seq its n)(hz:its.size<=sizeLine)
  (q:∀g:Heap,(∀b u,s.heap.get? b=some u->g.get? b=some u)->s.heap.objs.size<=g.objs.size->Q its.toList {s with heap:=g}):LN (LO prog w) A (QZ (.ref t)) Q E s:=by
 generalize hN:({cls:=.type "list",data:=.seq ([]:List LH).toArray}:Obj)=N;have new:(s.heap.push N).get? s.heap.objs.size=some {cls:=.type "list",data:=.seq #[] 0}:=by rw[<-hN];exact LQ _ rfl
 have full:=Mr (Md (·++its)) new rfl;have kp:∀b u,s.heap.get? b=some u->((s.heap.push N).update s.heap.objs.size (Md (·++its))).get? b=some u:=λb u e=>
  (Mh _ _ (IR (LP e))).trans (LK _ e)
 have gr:s.heap.objs.size<=((s.heap.push N).update s.heap.objs.size (Md (·++its))).objs.size:=by rw[Heap.size_update,Qv];exact I8 _
 unfold QZ;apply LG (Qu (M8 ON ?_));rw[MF OO _];apply LG (m:=Qe []) (LU ?_);rw[hN];apply LJ ⟨Ni Nt _,M8 PP ?_⟩;rw[MF Nt _];have last:=q _ kp gr;generalize hg:(s.heap.push N).update s.heap.objs.size (Md (·++its))=g at last full;apply LS (wpAny_extend_seq (hsz:=hz) (A:=A) (R:=λr z=>r=.ok (.ret (.ref s.heap.objs.size))/\z={s with heap:=g}) (s:={s with heap:=s.heap.push N}) s.heap.objs.size t (.ref s.heap.objs.size) 0 hT new (LK _ ho) hc hd ⟨rfl,by rw[hg]⟩) (λf z h=>?_) λe z h=>absurd h.1 ∅;have out:∀{z},z={s with heap:=g}->LN (LO prog w) A (load s.heap.objs.size >>= λx=>match x.data with
   | Data.seq xs _=>pure xs.toList
   | _=>unsupported "internal:collect") Q E z:=λhz'=>by
  rw[hz'];apply LG (Qk full (LJ ?_));have:((#[]:Array LH)++its).toList=its.toList:=by simp
  rw[this];exact last
 cases f with
 | done f=>
  obtain⟨e,hz'⟩:=h;cases e;exact out hz'
 | again c=>exact⟨h.1,NQ h.2 λr z' hr=>by obtain⟨rfl,hz'⟩:=hr;exact out hz'⟩
end
abbrev iU:List I->Option (List Str)
 | []=>some []
 | .str z::is=>match iU is with
  | some ss=>some (z::ss)
  | none=>none
 | _=>none
def jv:∀(ss:List Str),iU (ss.map .str)=some ss
 | []=>rfl
 | z::ss=>by rw[Gg,iU,jv ss]
def ju:∀{is:List I} {ss:List Str},iU is=some ss->is=ss.map .str
 | [],ss,h=>by cases h;rfl
 | i::is,ss,h=>by
  cases i with
  | str z=>
   rw[iU]at h;cases e:iU is with
   | none=>rw[e]at h;cases h
   | some us=>rw[e]at h;cases h;rw[ju e];rfl
  | _=>simp[iU]at h
def rq{K:yF}{H:Hp}:∀{ss:List Str},KT K H (ss.map .str) (ss.map V.str)
 | []=>by rw[He,He,KT]
 | z::ss=>by rw[Gg,Gg,KT];exact⟨_,_,rfl,by rw[RpI],rq⟩
def gp{K:yF}{H:Hp}:∀{ss:List Str} {xs:List V},KT K H (ss.map .str) xs->xs=ss.map V.str
 | [],xs,h=>by rw[He,KT]at h;exact h
 | z::ss,xs,h=>by
  rw[Gg,KT]at h;obtain⟨v,vs,rfl,h1,h2⟩:=h;rw[RpI]at h1;rw[h1,gp h2];rfl
def zu:Slot "reversed" "__init__" "object.__init__" :=
 .of (owner:="object") (n:="__init__") (by rw[M9,MB];rfl') (by decide +kernel) (by decide +kernel) (by decide +kernel) (by first|exact .inl (by decide +kernel)|exact .inr (by decide +kernel)) (by rw[Nu];rfl')
def rv_next:Slot "reversed" "__next__" "reversed.__next__" :=
 .of (owner:="reversed") (n:="__next__") (by rw[M9,MB];rfl') (by decide +kernel) (by decide +kernel) (by decide +kernel) (by first|exact .inl (by decide +kernel)|exact .inr (by decide +kernel)) (by rw[Nu];rfl')
def re:Slot "reversed" "__iter__" "reversed.__iter__" :=
 .of (owner:="reversed") (n:="__iter__") (by rw[M9,MB];rfl') (by decide +kernel) (by decide +kernel) (by decide +kernel) (by first|exact .inl (by decide +kernel)|exact .inr (by decide +kernel)) (by rw[Nu];rfl')
def rv_hint:Slot "reversed" "__length_hint__" "reversed.__length_hint__" :=
 .of (owner:="reversed") (n:="__length_hint__") (by rw[M9,MB];rfl') (by decide +kernel) (by decide +kernel) (by decide +kernel) (by first|exact .inl (by decide +kernel)|exact .inr (by decide +kernel)) (by rw[Nu];rfl')
def tw:TypeCalled "reversed" "reversed.__new__" "object.__init__" :=
 ⟨by decide +kernel,F.create_reversed,⟨_,_,F.mro_reversed⟩,F.made_reversed,F.plain_reversed_new,Pd,zu⟩
def kJ:Manifest.owners.lookup (String.ofList ['d','e','s','r','e','v','e','r'].reverse)=some Manifest.sig_reversed:=by rfl'
def gR:Q8 table "reversed.__next__" = some LM.«reversed.__next__»:=P2 (by rfl')
def k8:Q8 table "reversed.__length_hint__" = some LM.«reversed.__length_hint__»:=P2 (by rfl')
def k9:Q8 table "reversed.__iter__" = some LM.«dict_keyiterator.__iter__»:=
 entryFor_alias (id':="dict_keyiterator.__iter__") (by rfl') (by first|rfl|decide +kernel|(unfold String.splitOn;simp +decide [String.splitOnAux])) (by decide +kernel) (by rfl')
def iS(a:LH):Qw "reversed.__next__" ⟨[a],[]⟩:=by
 unfold Qw;rw[Pj (id:="reversed.__next__") (n:=['_','_','t','x','e','n','_','_']) (o:=['d','e','s','r','e','v','e','r']) (by rfl') kJ];rfl'
def m8(a:LH):Qw "reversed.__iter__" ⟨[a],[]⟩:=by
 unfold Qw;rw[Pj (id:="reversed.__iter__") (n:=['_','_','r','e','t','i','_','_']) (o:=['d','e','s','r','e','v','e','r']) (by rfl') kJ];rfl'
def m7(a:LH):Qw "reversed.__length_hint__" ⟨[a],[]⟩:=by
 unfold Qw;rw[Pj (id:="reversed.__length_hint__") (n:=['_','_','t','n','i','h','_','h','t','g','n','e','l','_','_']) (o:=['d','e','s','r','e','v','e','r']) (by rfl') kJ];rfl'
def tF:Pq (.type "reversed") "__len__" = pure none:=by rw[M9,MB];rfl'
def p7:Pq (.type "tuple") "__reversed__" = pure none:=by rw[M9,MB];rfl'
def oJ:isSubtype (.type "tuple") (.type "dict")=pure false:=by rw[Nu];rfl'
section
variable {prog:LR}{w:Mb}{A:LX}{E:LH->LI->Prop}{s:LI}
abbrev gQ(t:Addr) (i:Int):Obj:={cls:=.type "reversed",data:=.fields #[.ref t,NY i]}
abbrev Ln(h:Heap)(a t:Addr)(i:Int):Prop:=h.get? a=some (gQ t i)
def Ln.ty{a t:Addr}{i:Int}(x:Ln s.heap a t i):s.TypeIs (.ref a) "reversed" :=⟨_,x,rfl⟩
def CO{t:Addr}{items:Array LH}(hz:(items.size:Int)<2^63) :
  QL (LM.«reversed.__new__» ⟨[.type "reversed",.ref t],[]⟩) (λ_ R s=>NM s.heap t items/\R (.ok (.ret (.ref s.heap.objs.size))) {s with heap:=s.heap.push (gQ t ((items.size:Int)-1)),toks:=s.toks+1+1}):=
 .of_wp λprog w A R s h=>by
  obtain⟨ht,h⟩:=h;unfold LM.«reversed.__new__»;apply LG (MV (newClass_reversed _) ?_);try dsimp only
  apply LG (MV (a:=()) (by first|rfl|rfl') ?_);apply LG (MV (a:=()) (by first|rfl|rfl') ?_);try dsimp only
  apply LG (MP ht.typeIs p7 ?_);try dsimp only
  apply LG ?_;wp_delta;apply LG (Ow (T:="tuple") (b:=false) ht.typeIs oJ ?_);rw[if_neg (by decide)];apply LG (MP ht.typeIs N3.lookup ?_);try dsimp only
  rw[if_pos (by decide)];apply LJ ?_;rw[if_neg (by decide)];apply LG (QH ht hz ?_);apply LG (m:=asInt? _) (LJ ?_);try dsimp only
  apply LG (m:=NL _ _) ?_;unfold NL;try dsimp only
  exact LU (LJ ⟨_,rfl,h⟩)
def xr{t:Addr}{items:Array LH}{Q:LH->LI->Prop}(hz:(items.size:Int)<2^63)(ht:NM s.heap t items)(h:Q (.ref s.heap.objs.size) {s with heap:=s.heap.push (gQ t ((items.size:Int)-1)),toks:=s.toks+1+1}) :
  LN (LO prog w) A (call (.type "reversed") [.ref t]) Q E s:=
 callType_new tw (by decide) (F.typeCall_reversed_1 _) (F.newCall_reversed_1 _) (λobj=>OY obj _) F.entry_reversed_new (CO hz) ⟨ht,⟨⟨_,LQ _ rfl,rfl⟩,h⟩⟩
def zw{it t:Addr}{i:Nat}{items:Array LH}{x:LH}{Q:Option LH->LI->Prop}(hz:(items.size:Int)<2^63)(hit:Ln s.heap it t (i:Int))(ht:NM s.heap t items)(hx:items[i]?=some x)
  (hQ:∀h',Ln h' it t ((i:Int)-1)->Oz it s.heap h'->Q (some x) {s with heap:=h',toks:=s.toks+1}):LN (LO prog w) A (NX (.ref it)) Q E s:=by
 have hit0:s.heap.get? it=some (gQ t i):=hit;unfold NX;apply LG (Om (Mt (name:=Mg "__next__") hit.ty rv_next
  (Mo rv_next hit.ty gR ?_ (iS _))))
 unfold LM.«reversed.__next__»;apply LG (MV (a:=(Nv it,[])) rfl ?_);try dsimp only
 apply LG (Mn hit0 rfl (x:=.ref t) rfl ?_);apply LG (Mn hit0 rfl (x:=NY (i:Int)) rfl ?_);show LN _ _ (if(i:Int)<0 then _ else _) _ _ s;rw[if_neg ⋯];apply LG (MP ht.typeIs N3.lookup ?_);rw[if_neg (by decide)];apply LG (wpAny_mkInt ?_);have hi:i<items.size:=(IX.mp hx).1;apply LG (Om (getItem_tuple (s:={s with toks:=s.toks+1}) ht ⋯ ⋯ (j:=i) (by unfold QF;simp;omega) hx ?_));try dsimp only
 apply LG (Mn (s:={s with toks:=s.toks+1}) hit0 rfl (x:=NY (i:Int)) rfl ?_);show LN _ _ (setField (.ref it) 1 (NY ((i:Int)-1)) >>= λ_=>ret x) _ _ _;apply LG (OZ (s:={s with toks:=s.toks+1}) hit0 rfl ∅ ?_);apply LJ ⟨x,rfl,LJ (hQ _ ?_ (Re ..))⟩;exact Mr _ hit0 rfl
def CN{it t:Addr}{Q:Option LH->LI->Prop}(hh:A.handled=none)(hit:Ln s.heap it t (-1))
  (hQ:∀h',Q9 it s.heap h'->Q none {s with heap:=h'}):LN (LO prog w) A (NX (.ref it)) Q E s:=by
 have hit0:s.heap.get? it=some (gQ t (-1)):=hit;unfold NX;apply LG (Om (Mt (name:=Mg "__next__") hit.ty rv_next
  (Mo rv_next hit.ty gR ?_ (iS _))))
 unfold LM.«reversed.__next__»;apply LG (MV (a:=(Nv it,[])) rfl ?_);try dsimp only
 apply LG (Mn hit0 rfl (x:=.ref t) rfl ?_);apply LG (Mn hit0 rfl (x:=NY (-1)) rfl ?_);show LN _ _ (if(-1:Int)<0 then _ else _) _ _ s;rw[if_pos (by decide)];apply LG (Nx ?_);apply LG ?_;wp_delta;apply LG (OZ hit0 rfl ∅ ?_);have hit1:=Mr (h:=s.heap) (a:=it) (ND λx=>x.setIfInBounds 1 (NY (-1))) hit0 rfl;apply OZ hit1 rfl ∅ ?_;have ext:Q9 it s.heap ((s.heap.update it (ND λx=>x.setIfInBounds 1 (NY (-1)))).update it (ND λx=>x.setIfInBounds 0 Mm)):=λb o hb e=>(Mh _ _ (Mj hb)).trans ((Mh _ _ (Mj hb)).trans e);generalize (s.heap.update it (ND λx=>x.setIfInBounds 1 (NY (-1)))).update it (ND λx=>x.setIfInBounds 0 Mm)=g at ext;apply LG (m:=PQ) ?_;show LN _ _ (newExc (.type "StopIteration") [] >>= _) _ _ _;apply LG ?_;dsimp[newExc,newTuple];apply LG (LU ?_ (by size_fits));apply LG (m:=Qx _ _) (MV (a:=Mm) (by first|rfl|(dsimp[Qx];rfl)) ?_);apply LU ?_ (by size_fits);dsimp[raiseNew];apply LG (wpAny_handled ?_);rw[show A.in1.handled=none from hh];apply LG (LJ (wpAny_throw ?_));apply LG (Ow (T:="StopIteration") (b:=true) ⟨_,LQ _ rfl,rfl⟩ isSubtype_stop ?_);exact LJ (hQ _ ((ext.push _).push _))
def rf{it t:Addr}{i:Int}{Q:LH->LI->Prop}(hit:Ln s.heap it t i)(h:Q (.ref it) s):LN (LO prog w) A (Po (.ref it)) Q E s:=by
 apply wpAny_pyIter_slot hit.ty re (Mo re hit.ty k9 ?_ (m8 _));show LN _ _ (ret (.ref it)) _ _ s;exact LJ ⟨_,rfl,"reversed",_,hit.ty,rv_next.lookup,h⟩
def wH(hh:A.handled=none)(I t:Addr)(hne:t≠I)(items:Array LH)(hz:(items.size:Int)<2^63) :
  Q4 prog w A I [I,t] [I] items.size (λi v=>items[items.size-1-i]?=some v) (λi h=>i<=items.size/\Ln h I t ((items.size:Int)-1-(i:Int))/\NM h t items) where
 sub:=λb hb=>by simp at hb;simp[hb]
 frame:=λ_ _ _ x hk=>⟨x.1,hk I ∅ _ x.2.1,let ⟨o,ho,r⟩:=x.2.2;⟨o,hk t ∅ _ ho,r⟩⟩
 item:=λi s Q E hi x hQ=>by
  have e:(items.size:Int)-1-(i:Int)=((items.size-1-i:Nat):Int):=by omega
  have hit:=x.2.1;rw[e]at hit;have hx:items[items.size-1-i]?=some (items[items.size-1-i]'⋯):=Array.getElem?_eq_getElem ⋯;apply zw hz hit x.2.2 hx λh' hit' hs'=>?_;rw[show((items.size-1-i:Nat):Int)-1=(items.size:Int)-1-((i+1:Nat):Int) by omega]at hit';exact hQ _ h' _ hx ⟨hi,hit',let ⟨o,ho,r⟩:=x.2.2;⟨o,(hs'.2 t hne).trans ho,r⟩⟩ λb o hb eo=>hs'.extBut b o (λh=>hb (by simp[h])) eo
 done:=λs Q E x hQ=>by
  have hit:=x.2.1;rw[show(items.size:Int)-1-(items.size:Int) = -1 by omega]at hit;exact CN hh hit λh' he'=>hQ h' s.toks λb o hb eo=>he' b o (λh=>hb (by simp[h])) eo
 self:=λ_ _ _ _ x hQ=>rf x.2.1 hQ
def tE{it t:Addr}{items:Array LH}{Q:LH->LI->Prop}(hz:(items.size:Int)<2^63)(hit:Ln s.heap it t ((items.size:Int)-1))(ht:NM s.heap t items)
  (h:∀k tk,Q (.int (items.size:Int) k) {s with toks:=tk}):LN (LO prog w) A (call (.builtin "reversed.__length_hint__") [.ref it]) Q E s:=by
 have hit0:s.heap.get? it=some (gQ t ((items.size:Int)-1)):=hit;apply Mo rv_hint hit.ty k8 ?_ (m7 _);unfold LM.«reversed.__length_hint__»;apply LG (MV (a:=Nv it) rfl ?_);apply LG (Mn hit0 rfl (x:=.ref t) rfl ?_);rw[if_neg (show ¬ ((Nv t==Mm)=true)from Gv)];apply LG (QH ht hz ?_);apply LG (m:=asInt? _) (LJ ?_);try dsimp only
 apply LG (Mn (s:={s with toks:=s.toks+1+1}) hit0 rfl (x:=NY ((items.size:Int)-1)) rfl ?_);show LN _ _ (if(items.size:Int)<(items.size:Int)-1+1 then _ else _) _ _ _;rw[if_neg ⋯];rw[show(items.size:Int)-1+1=items.size by omega];exact LG (wpAny_mkInt (LJ ⟨_,rfl,h _ _⟩))
def tD{it t:Addr}{items:Array LH}{Q:Bool->LI->Prop}(hz:items.size<=1000000)(hit:Ln s.heap it t ((items.size:Int)-1))(ht:NM s.heap t items)
  (h:∀b tk,Q b {s with toks:=tk}):LN (LO prog w) A (NS (.ref it)) Q E s:=by
 unfold NS;apply LG (MP hit.ty tF ?_);show LN _ _ (specialOf (Nv it) (Mg "__length_hint__") >>= _) _ _ _;apply LG (MP hit.ty rv_hint.lookup ?_);generalize hid:("reversed.__length_hint__" : String)=id0;wp_delta;rw[show splitId id0=some ("reversed","__length_hint__")from by subst hid;decide +kernel];subst hid;apply LG (Ow (T:="reversed") (b:=true) hit.ty Pd ?_);apply Na (λhab=>absurd hab (by decide)) (λ_=>?_);apply Na (λhab=>absurd hab (by decide +kernel)) (λ_=>?_);apply LG (Nx ?_);apply LG (MV (rv_hint.bind _) ?_);try dsimp only
 apply LG (Om (tE ⋯ hit ht λk tk=>?_));dsimp only;generalize hn:(items.size:Int)=n;have hn0:0<=n/\n<=1000000:=by omega
 clear hn hz hit ht;have e:asInt? (O6 n k)=pure (some n):=rfl;rw[e,pure_bind];dsimp only;have htl:LZ n.toNat=false:=by simp[LZ,sizeLine];omega
 apply Na (λhab=>absurd hab (by rw[show N6 n=true by unfold N6;rw[Gd,decide_eq_true_eq,decide_eq_true_eq];omega];decide)) (λ_=>?_);apply Na (λhab=>absurd hab ⋯) (λ_=>?_);exact Na (λhab=>absurd hab (by rw[htl];decide)) (λ_=>LJ (h _ _))
def tz{R:Og->LI->Prop}{it t:Addr}{items:Array LH}(hh:A.handled=none)(hz:items.size<=1000000)(hne:t≠it)(hit:Ln s.heap it t ((items.size:Int)-1))(ht:NM s.heap t items)(S:Addr)(hSt:S≠t)(hSi:S≠it)(res:LH)(c₀ : Nat)
  (hS:s.heap.get? S=some {cls:=.type "list",data:=.seq #[] c₀})
  (hR:∀h' tk acc' c',(∀b o,b≠S->b≠it->s.heap.get? b=some o->h'.get? b=some o)->h'.get? S=some {cls:=.type "list",dict:=none,data:=.seq acc' c',slots:=#[]} ->
   Od (λi v=>items[items.size-1-i]?=some v) acc' items.size->R (.ok (.ret res)) {s with heap:=h',toks:=tk}) :
  LN (LO prog w) A.in1 (Mw (.ref S) (.ref it) res)
   (λfin s'=>match fin with|.done f=>R (.ok f) s'|.again c'=>c'.quiet=true/\Mv (LO prog w) A c' R s') (λe s'=>R (.error e) s') s:=by
 have W:=(wH (prog:=prog) (w:=w) (A:=A.in1) hh it t hne items ⋯).toS;have hSf:S∉[it,t]:=by simp[hSt,hSi]
 have key:∀(h:Heap) (c₁ tk:Nat),Ln h it t ((items.size:Int)-1)->NM h t items->(∀b o,b≠S->s.heap.get? b=some o->h.get? b=some o) ->
   h.get? S=some {cls:=.type "list",data:=.seq #[] c₁}->Mv (LO prog w) A (.builtin "list.extend.loop" ⟨[.ref S,.ref it,res],[]⟩) R {s with heap:=h,toks:=tk}:=by
  intro h c₁ tk hi1 ht1 hk hS₁;apply codeAny_extend_loopS W (by rw[LL];omega) S hSf res items.size 0 _ #[] c₁ rfl (GY _) ⟨GY _,by simpa using hi1,ht1⟩ hS₁ (Od.nil _) λs' acc' c' hm hS' hacc=>?_;rw[Moved.eq_with hm];apply hR s'.heap s'.toks acc' c' (λb o hb hb2 e=>hm.heap b o (λhmem=>?_) (hk b o hb e)) hS' hacc;rcases ycM hmem with e'|hmem;exact hb e';exact hb2 (ysM hmem)
 unfold Mw;apply LG (M4 hit.ty ?_);have h1:MW (.ref S) (.ref it)=false:=by simp[MW,hSi]
 have h2:(Nw "reversed" == Nw "list")=false:=by decide
 have h3:(Nw "reversed" == Nw "tuple")=false:=by decide
 dsimp[h1,h2,h3,Kw,HA,if_false];apply LG (rf hit ?_);apply LG (Mi (tD hz hit ht λb tk=>?_));apply Na (λ_=>?_) (λ_=>LJ ⟨Ni Pe _,key _ c₀ _ hit ht (λb o _ e=>e) hS⟩);apply LG (Nx ?_);apply LG ?_;show LN _ _ (P0 S (·.push .none) >>= λ_=>P0 S (·.pop)) _ _ _;apply LG (M7 hS rfl ?_);have hS₂:=Mr (Md (·.push Mm)) hS rfl;apply M7 (hz:=by seq_fits) hS₂ rfl ?_;have hS₃:=Mr (Md (·.pop)) hS₂ rfl;have oth:∀b o,b≠S->s.heap.get? b=some o->((s.heap.update S (Md (·.push Mm))).update S (Md (·.pop))).get? b=some o:=
  λb o hb e=>(Mh _ _ (Mj hb)).trans ((Mh _ _ (Mj hb)).trans e)
 exact LJ ⟨Ni Pe _,key _ _ _ (oth _ _ (Mj hSi) hit) (let ⟨o,ho,r⟩:=ht;⟨o,oth _ _ (Mj hSt) ho,r⟩) oth hS₃⟩
def xS{Q:LH->LI->Prop}{it t:Addr}{items:Array LH}(hh:A.handled=none)(hz:items.size<=1000000)(hne:t≠it)(hit:Ln s.heap it t ((items.size:Int)-1))(ht:NM s.heap t items)
  (hQ:∀h' tk acc' c',(∀b o,b≠it->s.heap.get? b=some o->h'.get? b=some o) ->
   h'.get? s.heap.objs.size=some {cls:=.type "list",dict:=none,data:=.seq acc' c',slots:=#[]}->Od (λi v=>items[items.size-1-i]?=some v) acc' items.size->Q (.ref s.heap.objs.size) {s with heap:=h',toks:=tk}) :
  LN (LO prog w) A (call (.type "list") [.ref it]) Q E s:=by
 have lt1:it<s.heap.objs.size:=LP hit;have lt2:t<s.heap.objs.size:=ht.lt;apply callType_codes (Q₁:=λobj s₁=>obj=.ref s.heap.objs.size/\s₁={s with heap:=s.heap.push {cls:=.type "list",data:=.seq #[]}}) F.called_list (F.typeCall_list_1 _) F.entry_list_init
  (code_list_new _ ⟨rfl,rfl⟩) λobj s₁ h₁=>?_
 obtain⟨rfl,rfl⟩:=h₁;have hS:(s.heap.push {cls:=.type "list",data:=.seq #[]}).get? s.heap.objs.size=some {cls:=.type "list",data:=.seq #[]}:=LQ _ rfl;apply⟨⟨_,hS,rfl⟩,F.args_list_init_2 _ _,?_⟩;show LN _ _ (do let old <-No (.ref s.heap.objs.size);QP (.ref s.heap.objs.size) (λ_=>#[]);letGo old.toList.reverse;Mw (.ref s.heap.objs.size) (.ref it) .none) _ _ _;apply LG ?_;unfold No;apply LG (OU hS rfl (LJ ?_));show LN _ _ (P0 s.heap.objs.size (λ_=>#[]) >>= λ_=>letGo (#[]:Array LH).toList.reverse >>= λ_=>Mw (.ref s.heap.objs.size) (.ref it) .none) _ _ _;apply LG (M7 hS rfl ?_);have hS₂:=Mr (Md (λ_=>(#[]:Array LH))) hS rfl;have oth:∀b o,s.heap.get? b=some o->((s.heap.push {cls:=.type "list",data:=.seq #[]}).update s.heap.objs.size (Md (λ_=>(#[]:Array LH)))).get? b=some o:=
  λb o e=>(Mh _ _ (IR (LP e))).trans (LK _ e)
 apply LG (wpAny_letGo ?_);apply tz (A:=A.in1) hh hz hne (s:={s with heap:=(s.heap.push {cls:=.type "list",data:=.seq #[]}).update s.heap.objs.size (Md (λ_=>(#[]:Array LH)))}) (oth _ _ hit) (let ⟨o,ho,r⟩:=ht;⟨o,oth _ _ ho,r⟩) _ (IR lt2) (IR lt1) .none _ hS₂ λh' tk acc' c' hk hS' hacc=>?_;exact⟨rfl,hQ h' tk acc' c' (λb o hb e=>hk b o (GO (LP e)) hb (oth b o e)) hS' hacc⟩
end
open PySem.W (KasT kas_sort)
abbrev kN{α:Type} (f:Nat->Nat->Bool):KasT α->α
 | .ret a=>a
 | .ask i j k=>kN f (k (f i j))
abbrev xk{α:Type}(f:Nat->Nat->Bool)(P:Nat->Prop):KasT α->Prop
 | .ret _=>True
 | .ask i j k=>P i/\P j/\xk f P (k (f i j))
def qm{α:Type}{f:Nat->Nat->Bool}{P:Nat->Prop}{cmp:Nat->Nat->(Bool->LI->Prop)->LI->Prop}{s:LI}(hc:∀i j C,P i->P j->C (f i j) s->cmp i j C s){Q : α->LI->Prop}:∀{t:KasT α},xk f P t->Q (kN f t) s->t.kasWp cmp Q s
 | .ret _,_,q=>q
 | .ask i j k,h,q=>hc i j _ h.1 h.2.1 (qm hc (t:=k (f i j)) h.2.2 q)
structure Ord(f:Nat->Nat->Bool):Prop where
 as:∀{i j},f i j=true->f j i=false
 tr:∀{i j k},f j i=false->f k j=false->f k i=false
abbrev lnk(L:List (Nat×Nat)):Nat->Nat->Nat->Bool
 | 0,_,_=>false
 | n+1,a,b=>L.any λe=>e.1==a&&(e.2==b||lnk L n e.2 b)
abbrev zt(L:List (Nat×Nat)):List Nat->Bool
 | []=>true
 | a::l=>(match l with
  | []=>true
  | b::_=>lnk L 5 a b)&&zt L l
abbrev chk(n:Nat):KasT (Array Nat)->List (Nat×Nat)->Bool
 | .ret p,L=>p.toList.isPerm (Gz n)&&zt L p.toList
 | .ask i j k,L=>(Nat.blt i n&&Nat.blt j n)&&(chk n (k true) ((i,j)::L)&&chk n (k false) ((j,i)::L))
section
variable {f:Nat->Nat->Bool}{L:List (Nat×Nat)}
def uK(o:Ord f)(hL:∀e∈L,f e.2 e.1=false):∀{n a b:Nat},lnk L n a b=true->f b a=false
 | 0,_,_,h=>by cases h
 | n+1,a,b,h=>by
  rw[lnk,Kj]at h;obtain⟨e,he,h⟩:=h;rw[Gd,beq_iff_eq,Hl,beq_iff_eq]at h;have h0:=hL e he;rw[h.1]at h0;rcases h.2 with h2|h2;rw[<-h2];exact h0;exact o.tr h0 (uK o hL h2)
def qV(o:Ord f)(hL:∀e∈L,f e.2 e.1=false):∀{l:List Nat},zt L l=true->l.Pairwise λi j=>f j i=false
 | [],_=>.nil
 | a::l,h=>by
  unfold zt at h;rw[Gd]at h;have ih:=qV o hL h.2;apply JT.mpr ⟨λx hx=>?_,ih⟩;cases l with
  | nil=>cases hx
  | cons b l=>
   have hb:=uK o hL h.1;rcases ycM hx with rfl|hx;exact hb;exact o.tr hb ((JT.mp ih).1 x hx)
def o0(o:Ord f){n:Nat}:∀{t:KasT (Array Nat)} {L:List (Nat×Nat)},chk n t L=true->(∀e∈L,f e.2 e.1=false) ->
  xk f (λi=>i<n) t/\(kN f t).toList.Perm (Gz n)/\(kN f t).toList.Pairwise λi j=>f j i=false
 | .ret p,L,h,hL=>by
  rw[chk,Gd]at h;exact⟨trivial,List.isPerm_iff.mp h.1,qV o hL h.2⟩
 | .ask i j k,L,h,hL=>by
  rw[chk,Gd,Gd,Gd]at h;have hij:i<n/\j<n:=⟨Ie h.1.1,Ie h.1.2⟩;cases e:f i j with
  | true=>
   obtain⟨h1,h2⟩:=o0 o h.2.1 λx hx=>by
    rcases ycM hx with rfl|hx;exact o.as e;exact hL x hx
   exact⟨⟨hij.1,hij.2,by rw[e];exact h1⟩,by rw[kN,e];exact h2⟩
  | false=>
   obtain⟨h1,h2⟩:=o0 o h.2.2 λx hx=>by
    rcases ycM hx with rfl|hx;exact e;exact hL x hx
   exact⟨⟨hij.1,hij.2,by rw[e];exact h1⟩,by rw[kN,e];exact h2⟩
def FK{n:Nat}(h2:2<=n)(h6:n<=6):chk n (Ox n) []=true:=by
 have:n=2\/n=3\/n=4\/n=5\/n=6:=by omega
 rcases this with rfl|rfl|rfl|rfl|rfl<;>rfl'
def zy(o:Ord f){n:Nat}(h2:2<=n)(h6:n<=6):xk f (λi=>i<n) (Ox n)/\(kN f (Ox n)).toList.Perm (Gz n)/\(kN f (Ox n)).toList.Pairwise λi j=>f j i=false:=
 o0 o (FK h2 h6) λe he=>by cases he
end
open PySem.W (KasT kas_sort kas_ask kat_run kat_snds KatLex kat_lt kat_cons kat_nil kat_one kat_yes kat_no kat_kind KatTups)
section
variable {prog:LR}{w:Mb}{A:LX}{E:LH->LI->Prop}{s:LI}
def tI{vs:List LH}(h:vs.length<2):(KR (λi=>vs.getD i Mm) (Gz vs.length)).toArray=Array.map (·.2) (vs.toArray.zip vs.toArray)/\(Gz vs.length).Pairwise λi j=>False:=by
 cases vs with
 | nil=>exact⟨by simp,by simp⟩
 | cons v t=>
  cases t with
  | nil=>exact⟨by simp,by simp⟩
  | cons _ _=>rw[Gp,Gp]at h;omega
def ko{a:Addr}{vs:List LH}{n:Nat}{P:PySem.Fin->LI->Prop}{κ : PR}{f:Nat->Nat->Bool}(o:Ord f)(ho:s.heap.get? a=some (OH "list" vs.toArray n))(h6:vs.length<=6)
  (hk:∀h':Heap,(∀b u,b≠a->s.heap.get? b=some u->h'.get? b=some u)->2<=vs.length->∀Q:PR->LI->Prop,Q κ {s with heap:=h'}->LN (LO prog w) A (Ra vs.toArray) Q E {s with heap:=h'})
  (hc:∀h':Heap,(∀b u,b≠a->s.heap.get? b=some u->h'.get? b=some u)->∀i j C,i<vs.length->j<vs.length->C (f i j) {s with heap:=h'}->kas_ask prog w A κ vs i j C {s with heap:=h'})
  (h:∀p:List Nat,p.Perm (Gz vs.length)->(p.Pairwise λi j=>f j i=false)->P (.done (.ret .none)) {s with heap:=sortedHeap s.heap a vs (p.map λi=>vs.getD i Mm).toArray}) :
  LN (LO prog w) A (LM.«list.sort» ⟨[.ref a],[]⟩) P E s:=by
 have ha:a<s.heap.objs.size:=LP ho;have hsz:vs.toArray.size=vs.length:=by simp
 rw[list_sort_plain];apply LG (listItems_at ho rfl (LG (Pk ho rfl ?_ (by rw[hsz,LL];omega) (GY _))));obtain⟨e1,ho1⟩:∃e1,(s.heap.update a (Md λ_=>#[])).get? a=some (OH "list" #[] e1):=⟨_,get?_update_seq ho (λ_=>#[])⟩;apply LG (P5 ho1 rfl (LG (wpAny_newTuple ?_ (by show vs.length<=_;rw[LL];omega))));apply LG (wpAny_newList (Mi ?_) (GY _));show LN (LO prog w) A _ P E {s with heap:=((s.heap.update a (Md λ_=>#[])).push (OH "tuple" vs.toArray 0)).push (OH "list" #[] 0)};generalize hh:((s.heap.update a (Md λ_=>#[])).push (OH "tuple" vs.toArray 0)).push (OH "list" #[] 0)=g;have old:∀b u,b≠a->s.heap.get? b=some u->g.get? b=some u:=λb u hb e=>by
  rw[<-hh];exact LK _ (LK _ ((Mh _ _ (Mj hb)).trans e))
 have ho6:g.get? a=some (OH "list" #[] e1):=by
  rw[<-hh];exact LK _ (LK _ ho1)
 have fin:∀(out:Array LH),P (.done (.ret .none)) {s with heap:=sortedHeap s.heap a vs out}->P (.done (.ret .none)) {s with heap:=g.update a (Md λ_=>out)}:=λout q=>by rw[<-hh];exact q
 dsimp only;by_cases h2:vs.toArray.size<2
 ·rw[if_pos h2,if_pos h2];apply LG (LJ ?_);rw[StateT.run_pure];apply LG (LJ ?_);dsimp only;apply LG (P5 ho6 rfl ?_);apply LG (Pk ho6 rfl ?_ (GY _) (by rw[Array.size_map];show(pairsOf vs).size<=_;rw[pairsOf_size,LL];omega));dsimp[bne_self_eq_false,HA,if_false];apply LJ (fin _ ?_);obtain⟨e1,e2⟩:=tI (by rw[<-hsz];exact h2);have q:=h (Gz vs.length) (List.Perm.refl _) (e2.imp λz=>z.elim);rw[e1]at q;exact q
 ·rw[if_neg h2,if_neg h2];rw[hsz]at h2;apply LG (hk g old ⋯ _ ?_);obtain⟨s0,s1,s2⟩:=zy o (n:=vs.length) ⋯ h6;have run:=qm (s:={s with heap:=g}) (cmp:=kas_ask prog w A κ vs) (hc g old) (Q:=λp s'=>p=kN f (Ox vs.length)/\s'={s with heap:=g}) s0 ⟨rfl,rfl⟩;apply LG (LS (kat_run (Q:=λst' s'=>∃p:Array Nat,arrOf st'=p.map (PySem.W.kas_item (vs.toArray.zip vs.toArray))/\failedOf st'=none/\p=kN f (Ox vs.length)/\s'={s with heap:=g})
   rfl ⋯ ⋯ (λp st' s' a1 a2 a3 a4=>⟨p,a2,a3,a4.1,a4.2⟩) run) ?_ λ_ _ e=>e)
  rintro⟨⟨⟩,st'⟩ s' ⟨p,har,hf,rfl,rfl⟩;have hp:=kat_snds (ks:=vs) rfl har;generalize kN f (Ox vs.length)=p at s1 s2 hp;have hpz:p.size=vs.length:=by have:=s1.length_eq;exists this
  dsimp only;apply LG (P5 ho6 rfl ?_);rw[hp];apply LG (Pk ho6 rfl ?_ (GY _) (by rw[Gf,Ge,G5,hpz,LL];omega));rw[hf];dsimp[bne_self_eq_false,HA,if_false];exact LJ (fin _ (h p.toList s1 s2))
end
open PySem.W (KasT kas_sort kas_ask kat_run kat_snds KatLex KatGo kat_lt kat_cons kat_nil kat_one kat_yes kat_no kat_kind KatTups)
abbrev ltL:List Str->List Str->Bool
 | [],[]=>false
 | [],_::_=>true
 | _::_,[]=>false
 | a::l,b::m=>if a=b then ltL l m else decide (a.cps.toList<b.cps.toList)
def rn{a b:Str}(h:a.cps.toList=b.cps.toList):a=b:=by
 obtain⟨⟨a⟩⟩:=a;obtain⟨⟨b⟩⟩:=b;dsimp only at h;rw[h]
def ph:∀{l m:List Str},ltL l m=true->ltL m l=false
 | [],[],h=>by cases h
 | [],_::_,_=>rfl
 | _::_,[],h=>by cases h
 | a::l,b::m,h=>by
  rw[ltL]at h|-;by_cases c:a=b
  ·rw[if_pos c]at h;rw[if_pos c.symm];exact ph h
  ·rw[if_neg c,decide_eq_true_eq]at h;rw[if_neg (Mj c),decide_eq_false_iff_not];exact List.lt_asymm h
def nK:∀{l m:List Str},ltL l m=false->ltL m l=false->l=m
 | [],[],_,_=>rfl
 | [],_::_,h,_=>by cases h
 | _::_,[],_,h=>by cases h
 | a::l,b::m,h,g=>by
  rw[ltL]at h g;by_cases c:a=b
  ·rw[if_pos c]at h;rw[if_pos c.symm]at g;rw[c,nK h g]
  ·rw[if_neg c,decide_eq_false_iff_not,IM]at h;rw[if_neg (Mj c),decide_eq_false_iff_not,IM]at g;exact absurd (rn (Kk g h)) c
def pi:∀{l m n:List Str},ltL m l=false->ltL n m=false->ltL n l=false
 | [],_,[],_,_=>rfl
 | [],_,_::_,_,_=>rfl
 | _::_,[],_,h,_=>by cases h
 | _::_,_::_,[],_,g=>by cases g
 | a::l,b::m,c::n,h,g=>by
  rw[ltL]at h g|-;by_cases e:b=a
  ·subst e;rw[if_pos rfl]at h;by_cases e2:c=b
   ·rw[if_pos e2]at g|-;exact pi h g
   ·rw[if_neg e2]at g|-;exact g
  ·rw[if_neg e,decide_eq_false_iff_not,IM]at h;by_cases e2:c=b
   ·subst e2;rw[if_neg e,decide_eq_false_iff_not,IM];exact h
   ·rw[if_neg e2,decide_eq_false_iff_not,IM]at g;have:=List.le_trans h g;by_cases e3:c=a
    ·subst e3;exact absurd (rn (Kk h g)) e2
    ·rw[if_neg e3,decide_eq_false_iff_not,IM];exact this
def xT(L:List (List Str)):Ord λi j=>ltL (L.getD i []) (L.getD j []):=⟨ph,pi⟩
abbrev leL(a b:List Str):Bool:=!ltL b a
abbrev gS(L:List (List Str)):List (List Str):=L.mergeSort leL
def Lf{a b:List Str}:leL a b=true↔ltL b a=false:=by unfold leL;rw[GJ]
def so(a b c:List Str)(h:leL a b=true)(g:leL b c=true):leL a c=true:=Lf.mpr (pi (Lf.mp h) (Lf.mp g))
def sn(a b:List Str):(leL a b||leL b a)=true:=by
 rw[Hl,Lf,Lf];cases e:ltL b a with
 | false=>exact .inl rfl
 | true=>exact .inr (ph e)
def ik(l:List (List Str)):(gS l).Perm l:=List.mergeSort_perm l _
def on(l:List (List Str)):(gS l).Pairwise λa b=>leL a b=true:=List.pairwise_mergeSort so sn l
def kM{l m:List (List Str)}(hp:m.Perm l)(h:m.Pairwise λa b=>leL a b=true):m=gS l:=
 List.Perm.eq_of_pairwise (λa b _ _ h g=>nK (Lf.mp g) (Lf.mp h)) h (on l) (hp.trans (ik l).symm)
def il{l m:List (List Str)}(h:l.Perm m):gS l=gS m:=kM ((ik l).trans h) (on l)
def jJ{L:List (List Str)}{p:List Nat}(hp:p.Perm (Gz L.length))(h:p.Pairwise λi j=>ltL (L.getD j []) (L.getD i [])=false):p.map (λi=>L.getD i [])=gS L:=by
 apply kM ?_ (List.pairwise_map.mpr (h.imp λ{i j} e=>Lf.mpr e));have e:(Gz L.length).map (λi=>L.getD i [])=L:=by
  apply Jp ∅ λi h1 h2=>?_;simp[h2]
 have:=hp.map λi=>L.getD i [];rw[e]at this;exact this
section
variable {prog:LR}{w:Mb}{A:LX}{E:LH->LI->Prop}{s:LI}{b fin:Bool}{Q:Bool->LI->Prop}
def yf{c:Bool}{x y:Str}{t u:Tok}(h:Q (decide (x.cps.toList<y.cps.toList)) s):LN (LO prog w) A (oneLt' c (.str x t) (.str y u)) Q E s:=by
 cases c with
 | true=>exact oneLt_str h
 | false=>exact kat_one _ _ (lt_str h)
def uJ{us ws:List LH}{ss ts:List Str}{i:Nat}(h:PK us ss)(g:PK ws ts)(hf:fin=decide (ss.length<ts.length))(q:Q (ltL ss ts) s):KatLex prog w A b fin Q (us.zip ws) i s:=by
 induction h generalizing ws ts i with
 | nil=>
  apply kat_nil ?_;rw[hf];cases g with
  | nil=>exact q
  | cons y t r=>rw[decide_eq_true ∅];exact q
 | cons x t r ih=>
  cases g with
  | nil=>
   apply kat_nil ?_;rw[hf,decide_eq_false ∅];exact q
  | cons y u r'=>
   rw[ltL]at q;rw[List.zip_cons_cons];apply kat_cons (PV ?_);by_cases c:x=y
   ·rw[if_pos c]at q;rw[decide_eq_true c];apply kat_yes (ih r' ?_ q);rw[hf,Gp,Gp];exact decide_eq_decide.mpr Nat.succ_lt_succ_iff
   ·rw[if_neg c]at q;rw[decide_eq_false c];exact kat_no (yf q)
abbrev l3(h:Heap)(v:LH)(ss:List Str):Prop:=∃a o xs n,v=.ref a/\h.get? a=some o/\o.cls=.type "tuple" /\ o.data=.seq xs n/\PK xs.toList ss
def oI{h:Heap}{vs:List LH}{L:List (List Str)}{i:Nat}(r:Paired (l3 h) vs L)(hi:i<vs.length):l3 h (vs.getD i Mm) (L.getD i []):=by
 induction r generalizing i with
 | nil=>cases hi
 | cons x _ ih=>
  cases i with
  | zero=>exact x
  | succ i=>exact ih (Jw hi)
def tL{h h':Heap}{vs:List LH}{L:List (List Str)}(k:∀b u,h.get? b=some u->h'.get? b=some u)(r:Paired (l3 h) vs L):Paired (l3 h') vs L:=by
 induction r with
 | nil=>exact .nil
 | cons x _ ih=>
  obtain⟨a,o,xs,n,h1,h2,h3⟩:=x;exact .cons ⟨a,o,xs,n,h1,k _ _ h2,h3⟩ ih
def xU{x y:LH}{ss ts:List Str}(hx:l3 s.heap x ss)(hy:l3 s.heap y ts)(q:Q (ltL ss ts) s):LN (LO prog w) A (keyLt' (tuples' b) x y) Q E s:=by
 obtain⟨a,o,xs,n,rfl,h1,h2,h3,h4⟩:=hx;obtain⟨a',o',xs',n',rfl,g1,g2,g3,g4⟩:=hy;apply kat_lt h1 h3 g1 g3 (uJ h4 g4 ?_ q);rw[<-h4.length,<-g4.length,G5,G5]
def oH{h:Heap}{vs:List LH}{L:List (List Str)}(r:Paired (l3 h) vs L)(hne:∀ss∈L,ss≠[]):∃fs,KatTups h vs fs/\fs.length=vs.length/\∀v∈fs,∃x t,v=PU x t:=by
 induction r with
 | nil=>exact⟨[],KatTups.nil,rfl,λv hv=>by cases hv⟩
 | cons x _ ih=>
  obtain⟨fs,f1,f2,f3⟩:=ih λss hs=>hne ss (ymC _ hs);obtain⟨a,o,xs,n,rfl,h1,h2,h3,h4⟩:=x;have h0:=hne _ ymS;obtain⟨us⟩:=xs;cases h4 with
  | nil=>exact absurd rfl h0
  | cons y t h5=>
   apply⟨.str y t::fs,KatTups.cons h1 h2 h3 rfl f1,by rw[Gp,Gp,f2],λv hv=>?_⟩;rcases ycM hv with rfl|hv;exact⟨y,t,rfl⟩;exact f3 v hv
def sk{vs:List LH}{L:List (List Str)}{Q:PR->LI->Prop}(r:Paired (l3 s.heap) vs L)(hne:∀ss∈L,ss≠[])(h2:2<=vs.length)(q:Q (tuples' true) s):LN (LO prog w) A (Ra vs.toArray) Q E s:=by
 obtain⟨fs,f1,f2,f3⟩:=oH r hne;apply kat_kind (T:=.type "str") f1 ⋯ (λv hv=>?_) (by decide) ?_
 ·obtain⟨x,t,rfl⟩:=f3 v hv;exact PySem.W.Looks.of_pure rfl
 ·rw[show(Nw "str" != Nw "tuple")=true from by decide];exact q
end
def oP{xs:List V}{us:List LH}(r:Vals xs us){i:Nat}(hi:i<xs.length):RelV (xs.getD i .non) (us.getD i Mm):=by
 have hx:xs[i]?=some (xs.getD i .non):=by simp[hi]
 obtain⟨u,h1,h2⟩:=r.get hx;rw[GC,GC,h1]at *;simpa[hi]using h2
def oO{xs:List V}{us:List LH}(r:Vals xs us):∀{p:List Nat},(∀i∈p,i<xs.length)->Vals (p.map λi=>xs.getD i .non) (p.map λi=>us.getD i Mm)
 | [],_=>.nil
 | i::p,h=>.cons (oP r (h i ymS)) (oO r λj hj=>h j (ymC _ hj))
abbrev AA(K:yF)(H:Hp)(y:V)(ss:List Str):Prop:=∃b,y=.ref b/\SqT K H b (ss.map V.str)
abbrev one(z:Str):List Str:=[z]
abbrev CA(K:yF):List V->Hp->VK->Prop:=λxs H Q=>∃(a:Addr) (ys:List V) (L:List (List Str)),xs=[.ref a]/\((SqT K H a ys/\∃ss:List Str,ys=ss.map V.str/\L=ss.map one)\/SqL K H a ys/\Paired (AA K H) ys L/\∀ss∈L,ss≠[])/\ys.length<=6 /\
 ∀(l:Addr) (p:List Nat),p.Perm (Gz ys.length)->(p.Pairwise λi j=>ltL (L.getD j []) (L.getD i [])=false)->H l=none->Q (.ref l) (upd H l (.lst (p.map λi=>ys.getD i .non)))
section
variable {X:Cx}{Uq:List (Addr×Obj)}{Z:List (Option V)}{H:Hp}{s:LI}
def CY(I:Inv X Uq Z H s){ys:List V}{L:List (List Str)}{us:List LH}(h:Paired (AA X.K H) ys L)(r:Vals ys us):Paired (l3 s.heap) us L:=by
 induction h generalizing us with
 | nil=>cases r;exact .nil
 | cons x _ ih=>
  cases r with
  | cons r rs=>
   apply .cons ?_ (ih rs);obtain⟨b,rfl,hb⟩:=x;cases r;obtain⟨its,r2,⟨o,ho,hc,n,hd⟩,hz⟩:=I.tuple hb;exact⟨b,o,_,n,rfl,ho,hc,hd,iq r2⟩
def rj(I:Inv X Uq Z H s){a:Addr}{ys:List V}{its:List LH}{L:List (List Str)}{κ : PR}{Q:VK}{T:String}(hT:T = "list" \/ T = "tuple"){o:Obj}{n:Nat}(ho:s.heap.get? a=some o)(hc:o.cls=.type T)(hd:o.data=.seq its.toArray n)(r:Vals ys its)(hn:ys.length<=6)
  (hk:∀h':Heap,(∀b u,s.heap.get? b=some u->h'.get? b=some u)->2<=its.length->∀(A:LX) (E:LH->LI->Prop) (Q:PR->LI->Prop),Q κ {s with heap:=h'}->LN (LO X.prog X.w) A (Ra its.toArray) Q E {s with heap:=h'})
  (hl:∀h':Heap,(∀b u,s.heap.get? b=some u->h'.get? b=some u)->∀(A:LX) (E:LH->LI->Prop) i j (C:Bool->LI->Prop),i<its.length->j<its.length->C (ltL (L.getD i []) (L.getD j [])) {s with heap:=h'}->LN (LO X.prog X.w) A (keyLt' κ (its.getD i Mm) (its.getD j Mm)) C E {s with heap:=h'})
  (q:∀(l:Addr) (p:List Nat),p.Perm (Gz ys.length)->(p.Pairwise λi j=>ltL (L.getD j []) (L.getD i [])=false)->H l=none->Q (.ref l) (upd H l (.lst (p.map λi=>ys.getD i .non)))) :
  LN (LO X.prog X.w) X.A (call (.builtin "sorted") [.ref a]) (EP X Uq Z Q) X.xe s:=by
 have hlen:=r.length;apply Calls.call_function_entry kind_sorted plain_sorted entry_sorted (args_sorted1 _) ?_;unfold LM.«sorted»;apply LG (m:=checkCount "sorted" 1 1 _) (LJ ?_);apply LG (kW a hT ho hc hd (by rw[Gf,LL];omega) λg keep hg=>LG (wpAny_newList ?_));have at0:(g.push (OH "list" its.toArray 0)).get? g.objs.size=some (OH "list" its.toArray 0):=LQ _ rfl;have old:∀h':Heap,(∀b u,b≠g.objs.size->(g.push (OH "list" its.toArray 0)).get? b=some u->h'.get? b=some u)->∀b u,s.heap.get? b=some u->h'.get? b=some u:=λh' k b u e=>k b u (GO (LP (keep _ _ e))) (LK _ (keep _ _ e));apply LG (Mi (Mo slot_list_sort ⟨_,at0,rfl⟩ entry_list_sort (ko (κ:=κ) (xT L) at0 ⋯ (λh' k h2 Q' q'=>hk h' (old h' k) h2 _ _ Q' q') (λh' k i j C hi hj q'=>hl h' (old h' k) _ _ i j C hi hj q') λp p1 p2=>⟨_,rfl,LJ ⟨_,rfl,?_⟩⟩) (args_list_sort _)));obtain⟨e,he⟩:=sortedHeap_at (out:=(p.map λi=>its.getD i Mm).toArray) at0;rw[<-hlen]at p1;have hp:∀i∈p,i<ys.length:=λi hi=>GU.mp (p1.mem_iff.mp hi);apply⟨.ref g.objs.size,upd H g.objs.size (.lst (p.map λi=>ys.getD i .non)),I.laid (t':=s.toks) (λb o' z=>?_) hg ?_,rfl,q _ _ p1 p2 (I.hok.fresh hg)⟩
 ·have hb:=LP (keep _ _ z);rw[sortedHeap_old (GO hb) (by rw[Qv];exact I9 hb)];exact LK _ (keep _ _ z)
 ·exact⟨by rw[Ge,p1.length_eq,Ih,LL];omega,_,e,oO r hp,he⟩
end
def oA{us:List LH}{ss:List Str}(h:PK us ss){i:Nat}(hi:i<us.length):∃z t,us.getD i Mm=.str z t/\(ss.map one).getD i []=[z]:=by
 induction h generalizing i with
 | nil=>cases hi
 | cons z t _ ih=>
  cases i with
  | zero=>exact⟨z,t,rfl,rfl⟩
  | succ i=>exact ih (Jw hi)
def ue{X:Cx}:La X (.builtin "sorted") (CA X.K):=by
 intro Uq s Z H xs us Q I rv h;obtain⟨a,ys,L,rfl,hq,hn,q⟩:=h;obtain⟨u,rfl,ru⟩:=fh rv;cases ru;rcases hq with⟨hq,ss,rfl,rfl⟩|⟨hq,hL,hne⟩
 ·obtain⟨its,r,⟨o,ho,hc,n,hd⟩,_⟩:=I.tuple hq;have hS:PK its ss:=iq r;apply rj I (κ:=oneType') (.inr rfl) ho hc hd r hn (λh' _ h2 A E Q q=>?_) (λh' _ A E i j C hi hj q=>?_) q
  ·cases its with
   | nil=>cases h2
   | cons v t=>
    cases t with
    | nil=>exact absurd h2 (Hc 1)
    | cons v2 t=>rw[keyKind_strs hS];exact LJ q
  ·obtain⟨z,t,e1,e2⟩:=oA hS hi;obtain⟨z',t',e3,e4⟩:=oA hS hj;rw[e2,e4,ltL,ltL]at q;rw[e1,e3,keyLt'_oneType];apply oneLt_str ?_;by_cases c:z=z'
   ·rw[if_pos c]at q;rw[c,decide_eq_false (List.lt_irrefl _)];exact q
   ·rw[if_neg c]at q;exact q
 ·obtain⟨its,r,⟨o,n,ho,hc,hd0,hd⟩,_⟩:=I.list hq;have hS:=λh' k=>tL (h':=h') k (CY I hL r);exact rj I (κ:=tuples' true) (.inl rfl) ho hc hd r hn (λh' k h2 A E Q q=>sk (hS h' k) hne h2 q) (λh' k A E i j C hi hj q=>xU (oI (hS h' k) hi) (oI (hS h' k) hj) q) q
abbrev eJ(l:List Str):List Str:=(gS (l.map one)).map λk=>k.headD ""
def ut(l:List Str):(l.map one).map (λk=>k.headD "")=l:=by
 rw[Hf];exact(HH λz _=>rfl).trans (KP l)
def ip(l:List Str):(eJ l).Perm l:=by
 have:=(ik (l.map one)).map λk=>k.headD "";rw[ut]at this;exact this
def Lm{l m:List Str}:eJ l=eJ m↔l.Perm m:=
 ⟨λh=>(ip l).symm.trans (h▸ip m),λh=>by unfold eJ;rw[il (h.map one)]⟩
def se{its:List LH}{acc:Array LH}(h:Od (λi v=>its.toArray[its.toArray.size-1-i]?=some v) acc its.toArray.size):acc.toList=its.reverse:=by
 have hz:acc.toList.length=its.length:=by rw[G5,h.1];simp
 apply Jp (by rw[hz,Il]) λi h1 h2=>?_;have:=h.2 i acc.toList[i] (by rw[<-IB];exact GD h1);rw[List.getElem_reverse];have hi:i<its.length:=by omega
 dsimp[Gf,List.getElem?_toArray]at this;rw[GD ⋯]at this;exact(GK.inj this).symm
abbrev vZ(K:yF):List V->Hp->VK->Prop:=λxs H Q=>∃(t:Addr) (ys:List V),xs=[.ref t]/\SqT K H t ys/\ys.length<=1000000/\∀l,H l=none->Q (.ref l) (upd H l (.lst ys.reverse))
def yr{X:Cx}{a:Expr}{ta:TA}{p p2 pos pos2:Pos}(hc:X.calm=true)(hg:Gl X "list")(hm:X.mg "list" = none)(hg2:Gl X "reversed")(hm2:X.mg "reversed" = none)(ha:PA X [a] ta)(hs:bg [a]=true) :
  PE X (.Call (.Name "list" p) [.Call (.Name "reversed" p2) [a] [] pos2] [] pos) (tCB (vZ X.K) ta):=by
 rw[bg,Gd]at hs;intro Uq s Z H Q I h;apply M3 (jd I hg hm boot_list ?_);apply Hr ?_ rfl rfl;rw[show Ma [.Call (.Name "reversed" p2) [a] [] pos2] X.env=[(false,eval (.Call (.Name "reversed" p2) [a] [] pos2) X.env)]from rfl];show LN _ _ (spliced ((false,eval (.Call (.Name "reversed" p2) [a] [] pos2) X.env)::[])) _ _ s;apply Pp ?_;apply M3 (jd I hg2 hm2 boot_reversed (Hr (thn (ha pos2 Uq s Z H _ I h) λus s1 ⟨vs,H1,I1,r1,q1⟩=>?_) (bi (by exists hs.1)) rfl));obtain⟨t,ys,rfl,hq,hz,q⟩:=q1;obtain⟨u,rfl,ru⟩:=fh r1;cases ru;obtain⟨its,rv,p',hz'⟩:=I1.tuple hq;have hl:=rv.length;have hz1:its.toArray.size<=1000000:=by rw[Gf];omega
 apply xr ⋯ p' ?_;apply Pz ?_;have lt:t<s1.heap.objs.size:=p'.lt;apply xS (s:={s1 with heap:=s1.heap.push (gQ t ((its.toArray.size:Int)-1)),toks:=s1.toks+1+1}) (it:=s1.heap.objs.size) (t:=t) (items:=its.toArray) (I1.ok.hd hc) hz1 (GO lt) (LQ _ rfl) (let ⟨o,ho,r⟩:=p';⟨o,LK _ ho,r⟩) λh' tk acc' c' hk hS ia=>?_;have hsz:(s1.heap.push (gQ t ((its.toArray.size:Int)-1))).objs.size=s1.heap.objs.size+1:=Qv ..;have hle:s1.heap.objs.size<=(s1.heap.push (gQ t ((its.toArray.size:Int)-1))).objs.size:=by rw[hsz];exact I8 _
 apply⟨.ref (s1.heap.push (gQ t ((its.toArray.size:Int)-1))).objs.size,_,I1.laid (t':=tk) (λb o e=>hk b o (GO (LP e)) (LK _ e)) hle (show K6 X.prog X.w _ h' _ (.lst ys.reverse)from⟨by rw[Il];exact hz',acc'.toList,c',?_,by rw[Ik];exact hS⟩),rfl,q _ (I1.hok.fresh hle)⟩;rw[se ia];exact rv.reverse
abbrev kQ(ss:List Str):I:=.tup (ss.map .str)
abbrev lU:List I->Option (List (List Str))
 | []=>some []
 | .tup (.str z::is)::js=>match iU is,lU js with
  | some ss,some L=>some ((z::ss)::L)
  | _,_=>none
 | _=>none
def lW:∀(L:List (List Str)),(∀ss∈L,ss≠[])->lU (L.map kQ)=some L
 | [],_=>rfl
 | []::L,h=>absurd rfl (h [] ymS)
 | (z::ss)::L,h=>by
  rw[Gg,kQ,Gg,lU,jv,lW L λx hx=>h x (ymC _ hx)]
def lV:∀{is:List I} {L:List (List Str)},lU is=some L->is=L.map kQ/\∀ss∈L,ss≠[]
 | [],L,h=>by cases h;exact⟨rfl,λ_ hx=>by cases hx⟩
 | i::js,L,h=>by
  unfold lU at h;split at h;delta e;cases e
  ·delta z is js' e;cases e;split at h
   ·delta ss L' e1 e2;cases h;obtain⟨h1,h2⟩:=lV e2;apply⟨by rw[Gg,<-h1,kQ,Gg,<-ju e1],λx hx=>?_⟩;rcases ycM hx with rfl|hx;exact λz=>by cases z
    ·exact h2 x hx
   ·cases h
  ·cases h
abbrev oo(t:T):Option T:=match t with
 | .li is=>if is.length<=6 then(match lU is with
  | some L=>some (.li ((gS L).map kQ))
  | none=>none)else none
 | .im (.tup is)=>if is.length<=6 then(match iU is with
  | some ss=>some (.li ((eJ ss).map .str))
  | none=>none)else none
 | _=>none
private def nh:List T->Option T:=l1 oo
def qZ{K:yF}{H:Hp}:∀{L:List (List Str)} {ys:List V},KT K H (L.map kQ) ys->Paired (AA K H) ys L
 | [],ys,h=>by rw[He,KT]at h;subst h;exact .nil
 | ss::L,ys,h=>by
  rw[Gg,KT]at h;obtain⟨v,vs,rfl,h1,h2⟩:=h;rw[kQ,RpI]at h1;obtain⟨a,xs,rfl,h3,h4⟩:=h1;cases gp h4;exact .cons ⟨a,rfl,h3⟩ (qZ h2)
def oi{K:yF}{H:Hp}:∀{is:List I} {ys:List V} {i:Nat},KT K H is ys->i<is.length->RpI K H (is.getD i .non) (ys.getD i .non)
 | j::is,ys,i,h,hi=>by
  rw[KT]at h;obtain⟨v,vs,rfl,h1,h2⟩:=h;cases i with
  | zero=>exact h1
  | succ i=>exact oi (i:=i) h2 (by exists hi)
def ol{K:yF}{H:Hp}{is:List I}{ys:List V}(h:KT K H is ys):∀{p:List Nat},(∀i∈p,i<is.length)->KT K H (p.map λi=>is.getD i .non) (p.map λi=>ys.getD i .non)
 | [],_=>by rw[He,He,KT]
 | i::p,hp=>by
  rw[Gg,Gg,KT];exact⟨_,_,rfl,oi h (hp i ymS),ol h λj hj=>hp j (ymC _ hj)⟩
def oj{K:yF}{H:Hp}:∀{is:List I} {ys:List V},KT K H is ys->ys.length=is.length
 | [],ys,h=>by rw[KT]at h;rw[h];rfl
 | j::is,ys,h=>by
  rw[KT]at h;obtain⟨v,vs,rfl,h1,h2⟩:=h;rw[Gp,Gp,oj h2]
def pJ{α β:Type}{F : α->β->Prop}{l:List α}{m:List β}(h:Paired F l m):l.length=m.length:=by
 induction h with
 | nil=>rfl
 | cons _ _ ih=>rw[Gp,Gp,ih]
def vI{K:yF}:eA K (CA K) nh:=by
 intro H vs ts t Q r e q;unfold nh at e;have e0:=bX e;clear e;obtain⟨x,rfl,e⟩:=e0;unfold oo at e;split at e
 ·delta is;split at e
  ·delta hb;split at e
   ·delta L hL;cases e;obtain⟨rfl,hne⟩:=lV hL;obtain⟨v,rfl,r1⟩:=iT r;obtain⟨F,r1⟩:=r1;obtain⟨a,xs,rfl,h1,h2,_⟩:=r1;have hp:=qZ h2;have hxl:=pJ hp;rw[Ge]at hb;apply⟨a,xs,L,rfl,.inr ⟨.inl h1,hp,hne⟩,by omega,λl p p1 p2 hl=>q _ _ (New.li hl ?_)⟩;rw[hxl]at p1;have hi:∀i∈p,i<L.length:=λi hi=>GU.mp (p1.mem_iff.mp hi);rw[<-jJ p1 p2,Hf];have:=ol h2 (p:=p) λi hi'=>by rw[Ge];exact hi i hi'
    have e2:p.map (λi=>(L.map kQ).getD i I.non)=p.map (kQ∘λi=>L.getD i []):=HH λi hi'=>by
     have:=hi i hi';simp[this]
    rw[e2]at this;exact this
   ·cases e
  ·cases e
 ·delta is;split at e
  ·delta hb;split at e
   ·delta ss hs;cases e;cases ju hs;obtain⟨v,rfl,r1⟩:=iT r;obtain⟨a,xs,rfl,h1,h2⟩:=bO r1;cases gp h2;rw[Ge]at hb;apply⟨a,ss.map V.str,ss.map one,rfl,.inl ⟨h1,ss,rfl,rfl⟩,by rw[Ge];exact hb,λl p p1 p2 hl=>q _ _ (New.li hl ?_)⟩;rw[Ge]at p1;have hi:∀i∈p,i<ss.length:=λi hi=>GU.mp (p1.mem_iff.mp hi);have e2:p.map (λi=>(ss.map V.str).getD i .non)=(eJ ss).map V.str:=by
     unfold eJ;rw[<-jJ (L:=ss.map one) (by rw[Ge];exact p1) p2,Hf,Hf];apply HH λi hi'=>?_;have:=hi i hi';simp[this,one]
    rw[e2];exact rq
   ·cases e
  ·cases e
 ·cases e
def b_sorted:lf "sorted" nh:=⟨_,CA,Kx,λ_ _=>ue,λ_=>vI⟩
def D6{Q:T->Prop}{ss:List Str}(h:ss.length<=6)(q:Q (.li ((eJ ss).map .str))):W1 (nh [.im (.tup (ss.map .str))]) Q:=by
 apply⟨_,?_,q⟩;unfold nh;rw[show∀t,l1 oo [t]=oo t from λ_=>by unhygienic rfl];unfold oo;dsimp only;rw[Ge,if_pos h,jv]
def D5{Q:T->Prop}{L:List (List Str)}(h:L.length<=6)(hn:∀ss∈L,ss≠[])(q:Q (.li ((gS L).map kQ))):W1 (nh [.li (L.map kQ)]) Q:=by
 apply⟨_,?_,q⟩;unfold nh;rw[show∀t,l1 oo [t]=oo t from λ_=>by unhygienic rfl];unfold oo;dsimp only;rw[Ge,if_pos h,lW L hn]
private def lD:List T->Option T:=l1 λt=>match t with
 | .im (.tup is)=>if is.length<=1000000 then some (.li is.reverse)else none
 | _=>none
def sP{K:yF}:eA K (vZ K) lD:=by
 intro H vs ts t Q r e q;unfold lD at e;have e0:=bX e;clear e;obtain⟨x,rfl,e⟩:=e0;obtain⟨v,rfl,r1⟩:=iT r;split at e
 ·delta is;split at e
  ·delta hb;cases e;obtain⟨a,xs,rfl,h1,h2⟩:=bO r1;exact⟨a,xs,rfl,h1,by rw[oj h2];exact hb,λl hl=>q _ _ (New.li hl h2.reverse)⟩
  ·cases e
 ·cases e
section
variable {ι : Type}{C:ι->Cx}{P:LR}{W:Mb}{K:yF}{mg:Str->Option LH}{base:Heap}{k:Nat}{a:Expr}{ms:MA}{pos:Pos}
def B9{p p2 pos2:Pos}(ck:CK C P W K mg base k)(T:Bi mg)(ha:QA C K [a] ms)(hg:∀i,Gl (C i) "list" :=by intro _;rfl)(hg2:∀i,Gl (C i) "reversed" :=by intro _;rfl):QE C K (.Call (.Name "list" p) [.Call (.Name "reversed" p2) [a] [] pos2] [] pos) (mB lD ms):=by
 obtain⟨ta,q,n,r⟩:=ha;exact⟨_,λi=>(ck.kk i)▸yr (ck.calm i) (hg i) (by rw[ck.mg i];exact T.b_list) (hg2 i) (by rw[ck.mg i];exact T.b_reversed) (q i) n,(show aV K (tCB (vZ K) ta) (mB lD ms)from n8 sP r)⟩
end
def BD{Q:T->Prop}{is:List I}(h:is.length<=1000000)(q:Q (.li is.reverse)):W1 (lD [.im (.tup is)]) Q:=by unhygienic exact⟨_,if_pos h,q⟩
def gK{prog:LR}{w:Mb}{A:LX}{E:LH->LI->Prop}{s:LI}{t sl:Addr}{items:Array LH}{vl vu:LH}{lo hi:Option Int}{Q:LH->LI->Prop}(ht:NM s.heap t items)(hs:s.heap.IsSliceOf sl vl vu .none)(pl:NH vl lo)(pu:NH vu hi)
  (hw:HT.sIx items.size 0 lo=0/\HT.sIx items.size items.size hi=items.size) (h:Q (.ref t) s):LN (LO prog w) A (Nl (.ref t) (.ref sl)) Q E s:=by
 obtain⟨os,hos,hcs,hds⟩:=id hs;have hTs:s.TypeIs (.ref sl) "slice" :=⟨os,hos,hcs⟩;unfold Nl;try with_reducible refine Mi ?_
 first|refine LG (LJ ?_)|skip
 apply LG (Nm ht.typeIs (by decide) ?_);apply LG (Mt (name:=Mg "__getitem__") ht.typeIs GI
  (Mo GI ht.typeIs NN ?_ (N0 _ _)))
 show LN _ _ (Nc (.ref t) >>= _) _ _ s;apply LG (Oh ht (LG (M4 hTs ?_)));rw[if_pos (by decide)];apply LG (HT.sliceApplied_gen hs pl pu ?_);rw[hw.1,hw.2];show LN _ _ (if((((0:Nat):Int)==0&&(1:Int)==1&&(items.size-0)==items.size)=true)then _ else _) _ _ s;rw[if_pos ∅];apply LG (m:=N7 (.ref t)) ?_;unfold N7;apply LG (M4 ht.typeIs (LJ ?_));rw[if_pos (by decide)];apply LG (Nx ?_);exact LJ ⟨_,rfl,LJ h⟩
abbrev EU(K:yF):V->Option Int->Option Int->Hp->VK->Prop:=λx lo hi H Q=>∃a xs,x=.ref a/\SqT K H a xs/\(HT.sIx xs.length 0 lo=0/\HT.sIx xs.length xs.length hi=xs.length)/\Q (.ref a) H
def wL{X:Cx}:SlR X (EU X.K):=by
 intro Uq s Z H x v vl vu lo hi sl Q I rx hs pl pu h;obtain⟨a,xs,rfl,hx,hw,q⟩:=h;cases rx;obtain⟨its,r,ht,hz⟩:=I.tuple hx;have hlen:its.toArray.size=xs.length:=by rw[Gf];exact r.length.symm
 exact⟨"tuple",_,GI.lookup,ht.typeIs,gK ht hs pl pu (by rw[hlen];exact hw) ⟨.ref a,H,I,rfl,q⟩⟩
abbrev ES(K:yF):V->Option Int->Option Int->Hp->VK->Prop:=λx lo hi H Q=>Cz K x lo hi H Q\/EU K x lo hi H Q
abbrev slT(t:T) (lo hi:Option Int):Option R:=match t with
 | .im (.tup is)=>↥(.tup (ci is lo hi))
 | _=>none
private def pk(a:ME)(lo hi:MO):ME:=⟨λO=>match a.run O with
 | some (ra,O1)=>match lo.run O1 with
  | some (l,O2)=>match hi.run O2 with
   | some (h,O3)=>if ax (lo.mu++hi.mu) ra=true then(match slT ra.t l h with
    | some r=>some (r,O3)
    | none=>none)else none
   | none=>none
  | none=>none
 | none=>none,a.mu++(lo.mu++hi.mu)⟩
section
variable {K:yF}
def o5{α:Type}{is:List α}{lo hi:Option Int}(h:HT.sIx is.length 0 lo=0/\HT.sIx is.length is.length hi=is.length):ci is lo hi=is:=by
 unfold ci;rw[h.1,h.2,JF,KG,GN]
def zm{ta:TE}{tl th:TO}{a:ME}{lo hi:MO}(ha:aV K ta a)(hl:oU K tl lo)(hh:oU K th hi):aV K (tSl (ES K) ta tl th) (pk a lo hi):=by unhygienic
 intro Γ H O Z E Q r O' hK hr S q;dsimp[pk]at hr;split at hr
 ·delta ra O1 e1;split at hr
  ·delta l O2 e2;split at hr
   ·delta h O3 e3;split at hr
    ·delta al;split at hr
     ·delta r0 e4;cases hr;apply ha Γ H O Z E _ ra O1 hK e1 S λx H1 S1=>?_;apply hl Γ H1 O1 Z _ _ l _ hK e2 S1 λH2 S2=>?_;apply hh Γ H2 O2 Z _ _ h _ hK e3 S2 λH3 S3=>?_;rw[ae,ar (bp al),ae]at S3;have r1:=S3.rd ymS;obtain⟨k0,t0⟩:=ra;replace r1:Rpx Γ.K H3 t0 x:=r1;unfold slT at e4;dsimp only at e4;split at e4
      ·delta is;cases e4;have r2:=r1;obtain⟨p,xs,ex,g1,g2⟩:=bO r1;by_cases hw:HT.sIx is.length 0 l=0/\HT.sIx is.length is.length h=is.length
       ·apply .inr ⟨p,xs,ex,by rw[hK]at g1;exact g1,by rw[g2.length];exact hw,?_⟩;rw[<-ex];apply q _ _ ((S3.drop rfl).imm ?_);rw[o5 hw,ex,RpI];exact⟨p,xs,rfl,g1,g2⟩
       ·rw[hK]at g1;exact .inl ⟨p,xs,ex,g1,by rw[g2.length];exact hw,λp hp=>q _ _ ((S3.drop rfl).fresh (.tup hp (g2.cut l h)))⟩
      ·cases e4
     ·cases hr
    ·cases hr
   ·cases hr
  ·cases hr
 ·cases hr
end
section
variable {ι : Type}{C:ι->Cx}{P:LR}{W:Mb}{K:yF}{mg:Str->Option LH}{base:Heap}{k:Nat}{a:Expr}{ma:ME}{pos:Pos}
def Ez{lo hi:Option Expr}{ml mh:MO}{p2:Pos}(ck:CK C P W K mg base k)(ha:QE C K a ma)(hl:QO C K lo ml)(hh:QO C K hi mh):QE C K (.Subscript a (.Slice lo hi none p2) pos) (pk ma ml mh):=by
 obtain⟨ta,p,r⟩:=ha;obtain⟨tl,p',r'⟩:=hl;obtain⟨th,p'',r''⟩:=hh;exact⟨_,λi=>nS (r:=ES K) (by have:=SlR.or (sl_tup (X:=C i)) wL;rw[ck.kk i]at this;exact this) (p i) (p' i) (p'' i),zm r r' r''⟩
end
section
variable {O:Rho}{a:ME}{QE':R->Rho->Prop}
def At{lo hi:MO}(h:WE a O λra O1=>WO lo O1 λl O2=>WO hi O2 λu O3=>Gu (ax (lo.mu++hi.mu) ra) (∃is,ra.t=.im (.tup is)/\QE' ⟨.ow,.im (.tup (ci is l u))⟩ O3)):WE (pk a lo hi) O QE':=by
 obtain⟨ra,O1,e1,l,O2,e2,u,O3,e3,al,is,e4,q⟩:=h;exact⟨_,O3,by dsimp[pk,e1,e2,e3,al,if_true,e4,slT],q⟩
end
end L2
namespace L2
open PySem
noncomputable section
abbrev gy:MS:=(am (aB (aR [1] (aa 1 mNil)) (ag 3))
  (am (bZ (bc (ac (mB cL (aa 0 mNil)) mNil)) (ag 4)
  (bU [4] (be (b7 3 [] j7 (af 3) (ac (mSl (aU [none,none,none,some 3,none,none] (mIt (af 0)) (ag 5) (kr (aJ (mOp inT (mIx (af 5) (mC (.int 0))) (af 3))) (aJ (mOp iP (mIx (af 5) (mC (.int 1))) (af 3)))) (mIx (af 5) (mC (.int 1)))) mNoPart (eC (mC (.int 1)))) mNil)))))
  (bd (mOp inT (af 2) (af 3)))))
abbrev jm(ts:List T):Option T:=if ts.length=3 then cT gy 5 ts else none
abbrev iL:MS:=(bd (mB nh (ac (aU [none,none] (mIt (af 0)) (ag 1) mYes (mB gq (ac (mB nh (aa 1 mNil)) mNil))) mNil)))
abbrev fe(ts:List T):Option T:=if ts.length=1 then cT iL 1 ts else none
abbrev cx:MS:=(am (aB (mB ff (aa 0 mNil)) (ag 2))
  (bd (mB gq (ac (aU [none,none,some 2,none] (mIt (mB ff (aa 1 mNil))) (ag 3) mYes (mM o8 (af 2) (aa 3 mNil))) mNil))))
abbrev dQ(ts:List T):Option T:=if ts.length=2 then cT cx 3 ts else none
abbrev b9:MS:=(am (aB (mB gq (ac (aU [none,none,some 2,none,none,none,none,none,none,none,none,none] (bc (ac (mB cL (aa 1 mNil)) mNil)) (ag 11) (aJ (mOp neT (af 11) (af 2))) (af 11)) mNil)) (ag 4))
  (am (aB (mB bo (aa 0 (aa 4 mNil))) (ag 5))
  (am (bZ (mIt (af 5)) (ag 6)
  (bU [6] (mIf (aJ (mOp eqT (aU [none,none,none,none,none,none,some 6,none,none,none,none,none] (mIt (af 3)) (ag 11) (aJ (mOp eqT (aU [none,none,none,none,none,none,none,none,none,none,none,some 11] (mIt (af 6)) (ag 7) (aJ (mOp iP (af 7) (af 11))) (af 7)) (aR [] mNil))) (af 11)) (aR [] mNil))) (bd (mC (.bl false))) mNext)))
  (am (aB (mIx (af 1) (af 2)) (dr (aW (ag 7) (aW (ag 8) (aW (ag 9) mGNil)))))
  (am (aB (aU [none,none,none,none,none,none,none,some 7,none,none,none] (mIt (af 3)) (ag 6) (aJ (mOp inT (af 7) (af 6))) (af 6)) (ag 10))
  (am (mIf (mOr (aJ (mOp iP (af 8) (mIx (af 10) (mC (.int 0))))) (aJ (mB jm (ac (aU [none,some 1,none,none,none,none,none,none,none,none,none,none] (mIt (af 4)) (ag 11) mYes (mIx (af 1) (af 11))) (aa 7 (aa 8 mNil)))))) (bd (mOp eqT (mB fe (aa 5 mNil)) (mB fe (aa 3 mNil)))) mNext)
  (bd (mOp (fU λi j=>decide (j<i)) (mB cL (aa 5 mNil)) (mB cL (aa 3 mNil))))))))))
abbrev de(ts:List T):Option T:=if ts.length=4 then cT b9 11 ts else none
abbrev ft:MS:=(am (aB (mB kH (aa 0 (ac (mC (.int 0)) mNil))) (ag 1))
  (am (aB (ak 0 1 jo (aa 1 mNil)) (ag 2))
  (am (aB (mB ff (aa 2 mNil)) (ag 3))
  (am (aB (mB lT (ac (mB cL (aa 3 mNil)) mNil)) (ag 4))
  (am (aB (mB bo (aa 2 (aa 4 mNil))) (ag 5))
  (am (aB (ak 0 1 aj (aa 1 (ac (mB cL (ac (mIx (af 2) (mC (.int 2))) mNil)) mNil))) (ag 6))
  (am (aB (mOp bh (pk (mIx (af 2) (mC (.int 2))) (eC (af 6)) mNoPart) (pk (mIx (af 2) (mC (.int 2))) mNoPart (eC (af 6)))) (ag 7))
  (am (bZ (mIt (ay [] (ac (ay [7] (ac (mIx (af 2) (mC (.int 0))) (ac (mIx (af 2) (mC (.int 1))) (aa 7 mNil)))) (ac (ay [] (ac (mIx (af 2) (mC (.int 0))) (ac (mIx (af 2) (mC (.int 1))) (ac (mB gq (ac (mB lD (aa 7 mNil)) mNil)) mNil)))) mNil)))) (ag 8)
  (bU [8] (mIf (aJ (mOp neT (mB fe (ac (mB bo (aa 8 (ac (mB dQ (aa 8 (aa 2 mNil))) mNil))) mNil)) (mB fe (aa 5 mNil)))) (bd (mC (.bl false))) mNext)))
  (am (bZ (mIt (af 4)) (ag 9)
  (bU [9] (mIf (mOr (su (aJ (mB de (aa 2 (aa 3 (aa 9 (aa 5 mNil))))))) (aJ (mOp neT (mB bo (aa 2 (aa 4 mNil))) (af 5)))) (bd (mC (.bl false))) mNext)))
  (bd (mC (.bl true))))))))))))
abbrev r_l_law_v8(ts:List T):Option T:=if ts.length=1 then cT ft 10 ts else none
end
end L2
namespace K17
open PySem PySem.Spec PyProof.Rows L2
abbrev top(i:Nat):Stmt:=PySem.Challenge.pw_clockhouse_k17_knots_with_a_step_fewer.main.body.getD i (.Pass ⟨0,0,0,0⟩)
noncomputable abbrev eS:Stmt:=top 1
noncomputable abbrev ig:Stmt:=top 2
noncomputable abbrev nc:Stmt:=top 3
noncomputable abbrev fJ:Stmt:=top 5
noncomputable abbrev ij:Stmt:=top 6
noncomputable abbrev gm:Stmt:=top 8
noncomputable abbrev dW:Stmt:=top 9
noncomputable abbrev eT:Stmt:=top 10
noncomputable abbrev kL:Stmt:=top 11
noncomputable abbrev ie:Stmt:=top 12
noncomputable abbrev gj:Stmt:=top 14
noncomputable abbrev gl:Stmt:=top 15
noncomputable abbrev fF:Stmt:=top 16
noncomputable abbrev ic:Stmt:=top 17
noncomputable abbrev dm:Stmt:=top 18
noncomputable abbrev cF:Stmt:=top 19
noncomputable abbrev cG:Stmt:=top 20
noncomputable abbrev cJ:Stmt:=top 21
noncomputable abbrev bP:Stmt:=top 22
noncomputable abbrev cH:Stmt:=top 23
noncomputable abbrev fG:Stmt:=top 24
noncomputable abbrev fD:Stmt:=top 25
noncomputable abbrev fE:Stmt:=top 26
noncomputable abbrev dn:Stmt:=top 27
noncomputable abbrev fH:Stmt:=top 28
noncomputable abbrev fB:Stmt:=top 29
noncomputable abbrev gk:Stmt:=top 30
noncomputable abbrev cI:Stmt:=top 31
noncomputable abbrev cc:Stmt:=top 32
noncomputable abbrev s_law:Stmt:=top 33
structure GT(K:yF)(mg:Str->Option LH):Prop where
 triv:True
end K17
namespace L2
open PySem PySem.Spec PyProof.Rows
section
variable {O:Rho}{a b m:ME}{ms:MA}{QE':R->Rho->Prop}{QA':List R->Rho->Prop}
def ua{M:List Nat}{t:T}:ax M ⟨.ow,t⟩=true:=by unhygienic rfl
def bR{r:R}:ax [] r=true:=by
 obtain⟨k,t⟩:=r;cases k with
 | vw o p=>cases o<;>unhygienic rfl
 | _=>unhygienic rfl
def Fu{i:I}(h:WA ms O λrs O2=>QA' (⟨.ow,.im i⟩::rs) O2):WA (ac (mC i) ms) O QA':=nq (w_C (WA.mono h λ_ _ q=>gu ua q))
def Gb(h:WE m O λr O1=>QA' [r] O1):WA (ac m mNil) O QA':=nq (WE.mono h λ_ _ q=>kS (gu (by unhygienic exact bR) q))
def Fn{f:T->T->Option T}{i:I}(h:WE a O λra O1=>W1 (f ra.t (.im i)) λt=>QE' ⟨.ow,t⟩ O1):WE (mOp f a (mC i)) O QE':=qg (WE.mono h λ_ _ q=>w_C (gu (by unhygienic exact bR) q))
def Fo{f:T->T->Option T}{n:Nat}(h:WE a O λra O1=>WE (af n) O1 λrb O2=>W1 (f ra.t rb.t) λt=>QE' ⟨.ow,t⟩ O2):WE (mOp f a (af n)) O QE':=qg (WE.mono h λ_ _ h=>WE.mono h λ_ _ q=>gu (by unhygienic exact bR) q)
abbrev owL:Nat->List R->Option (List T)
 | _,[]=>some []
 | n+1,⟨.ow,t⟩::rs=>match owL n rs with
  | some ts=>some (t::ts)
  | none=>none
 | _,_=>none
def kB{mv:List Nat}{O:Rho}:∀{n:Nat} {rs:List R} {ts:List T},owL n rs=some ts->rs.length<=n/\consL mv rs O=some (ts,O)
 | _,[],ts,h=>by rw[owL]at h;cases h;exact⟨GY _,rfl⟩
 | 0,_::_,ts,h=>by simp[owL]at h
 | n+1,⟨k,t⟩::rs,ts,h=>by
  cases k with
  | ow=>
   rw[owL]at h;cases e:owL n rs with
   | none=>rw[e]at h;cases h
   | some us=>
    rw[e]at h;cases h;obtain⟨h1,h2⟩:=kB (mv:=mv) (O:=O) e;exact⟨Jk h1,by rw[consL,h2]⟩
  | _=>simp[owL]at h
abbrev OwT(rs:List R)(Q:List T->Prop):Prop:=∃ts,owL 1000 rs=some ts/\Q ts
def DR{rs:List R}{ts:List T}{Q:List T->Prop}(h:owL 1000 rs=some ts)(q:Q ts):OwT rs Q:=⟨ts,h,q⟩
def Dg(h:WA ms O λrs O1=>OwT rs λts=>QE' ⟨.ow,lG ts⟩ O1):WE (ay [] ms) O QE':=xf (WA.mono h λ_ _ ⟨_,e,q⟩=>gu (decide_eq_true (kB (mv:=[]) (O:=O) e).1) ⟨_,_,(kB e).2,q⟩)
def C9(h:WA ms O λrs O1=>OwT rs λts=>QE' ⟨.ow,bF ts⟩ O1):WE (aR [] ms) O QE':=xb (WA.mono h λ_ _ ⟨_,e,q⟩=>gu (decide_eq_true (kB (mv:=[]) (O:=O) e).1) ⟨_,_,(kB e).2,q⟩)
def F9{run:List T->Option (T×T)}{k0:Nat}{t:T}{i:I}(h:W2 (run [t,.im i]) λx s=>QE' ⟨.ow,x⟩ (some ⟨.io k0,s⟩::ao [0] O)):WE (ak 0 0 run (aa 0 (ac (mC i) mNil))) (some ⟨.io k0,t⟩::O) QE':=
 nj (dY rfl (Fu (kS (oX rfl (AD rfl (by unhygienic rfl) rfl rfl (W2.mono h λx s q=>by rw[mR];exact q))))))
def Ft{run:List T->Option (T×T)}{k0 n:Nat}{t:T}{r0:R}(h0 : O[n]?=some (some r0))(ha:ax [0] (rdR (n+1) r0)=true)(h:W2 (run [t,(rdR (n+1) r0).t]) λx s=>QE' ⟨.ow,x⟩ (some ⟨.io k0,s⟩::ao [0] O)):WE (ak 0 0 run (aa 0 (aa (n+1) mNil))) (some ⟨.io k0,t⟩::O) QE':=
 nj (dY rfl (dY (r0:=r0) h0 (kS (oX (r:=r0) h0 (oX rfl (AD rfl (by show(true&&_)=true;simp[Gz,Gz.loop,ha]) rfl rfl (W2.mono h λx s q=>by rw[mR];exact q)))))))
def xg{n:Nat}{r0:R}(h0 : O[n]?=some (some r0))(q:QA' [rdR n r0] O):WA (aa n mNil) O QA':=dY (r0:=r0) h0 (kS (oX (r:=r0) h0 q))
def Fw{n:Nat}{r0:R}{k:Int}{Q:Int->Rho->Prop}(h0 : O[n]?=some (some r0))(hk:(rdR n r0).t=.im (.int k))(q:Q k O):WA (aa n mNil) O (λrs O1=>Lz rs λk=>Q k O1):=xg h0 (qG (by rw[Gg,hk];rfl) q)
def C7{n:Nat}{r0:R}{i:I}(h0 : O[n]?=some (some r0))(h:W1 (ixR (rdR n r0) (.im i)) λr=>QE' r O):WE (mIx (af n) (mC i)) O QE':=w8 (fM h0 (w_C (gu (by unhygienic exact bR) h)))
def C8{n m:Nat}{r0 r1:R}(h0 : O[n]?=some (some r0))(h1 : O[m]?=some (some r1))(h:W1 (ixR (rdR n r0) (rdR m r1).t) λr=>QE' r O):WE (mIx (af n) (af m)) O QE':=w8 (fM h0 (fM h1 (gu (by unhygienic exact bR) h)))
def Df{f:T->T->Option T}{n m:Nat}{r0 r1:R}(h0 : O[n]?=some (some r0))(h1 : O[m]?=some (some r1))(h:W1 (f (rdR n r0).t (rdR m r1).t) λt=>QE' ⟨.ow,t⟩ O):WE (mOp f (af n) (af m)) O QE':=qg (fM h0 (fM h1 (gu (by unhygienic exact bR) h)))
def De{f:T->T->Option T}{n:Nat}{r0:R}{i:I}(h0 : O[n]?=some (some r0))(h:W1 (f (rdR n r0).t (.im i)) λt=>QE' ⟨.ow,t⟩ O):WE (mOp f (af n) (mC i)) O QE':=qg (fM h0 (w_C (gu (by unhygienic exact bR) h)))
def Dd{f:T->T->Option T}{n:Nat}{r0:R}{i:I}(h0 : O[n]?=some (some r0))(h:W1 (f (.im i) (rdR n r0).t) λt=>QE' ⟨.ow,t⟩ O):WE (mOp f (mC i) (af n)) O QE':=qg (w_C (fM h0 (gu (by unhygienic exact bR) h)))
def Dc{f:T->T->Option T}{i j:I}(h:W1 (f (.im i) (.im j)) λt=>QE' ⟨.ow,t⟩ O):WE (mOp f (mC i) (mC j)) O QE':=qg (w_C (w_C (gu (by unhygienic exact bR) h)))
def Au{n m:Nat}{r0 r1:R}(h0 : O[n]?=some (some r0))(h1 : O[m]?=some (some r1))(q:QA' [rdR n r0,rdR m r1] O):WA (aa n (aa m mNil)) O QA':=dY (r0:=r0) h0 (xg h1 (oX (r:=r0) h0 q))
def Fv{n m k:Nat}{r0 r1 r2:R}(h0 : O[n]?=some (some r0))(h1 : O[m]?=some (some r1))(h2 : O[k]?=some (some r2))(q:QA' [rdR n r0,rdR m r1,rdR k r2] O):WA (aa n (aa m (aa k mNil))) O QA':=dY (r0:=r0) h0 (Au h1 h2 (oX (r:=r0) h0 q))
end
inductive Rch(E:List (Str×Str)) (a:Str):Str->Prop
 | refl:Rch E a a
 | tail {b c:Str}:Rch E a b->(b,c)∈E->Rch E a c
def Rch.trans{E:List (Str×Str)}{a b c:Str}(h:Rch E a b)(g:Rch E b c):Rch E a c:=by
 induction g with
 | refl=>exact h
 | tail _ e ih=>exact ih.tail e
abbrev Clo(E:List (Str×Str))(L:List Str):Prop:=∀e∈E,e.1∈L->e.2∈L
def Rch.clo{E:List (Str×Str)}{L:List Str}{a b:Str}(h:Rch E a b)(c:Clo E L)(ha:a∈L):b∈L:=by
 induction h with
 | refl=>exact ha
 | tail _ e ih=>exact c _ e ih
abbrev fN(L:List Str) (e:Str×Str):List Str:=if e.1∈L/\e.2∉L then L++[e.2]else L
abbrev rlx(E:List (Str×Str)) (L:List Str):List Str:=E.foldl fN L
abbrev hW(E:List (Str×Str)):Nat->List Str->List Str
 | 0,L=>L
 | n+1,L=>rlx E (hW E n L)
def t4{L:List Str}{e:Str×Str}:∀x∈L,x∈fN L e:=λx h=>by
 unfold fN;split;exact yaL _ h;exact h
def t3{L:List Str}{e:Str×Str}:L.length<=(fN L e).length:=by
 unfold fN;split;simp;exact Gj _
def qY:∀{E:List (Str×Str)} {L:List Str},∀x∈L,x∈rlx E L
 | [],L,x,h=>h
 | e::E,L,x,h=>qY (E:=E) x (t4 x h)
def qX:∀{E:List (Str×Str)} {L:List Str},L.length<=(rlx E L).length
 | [],L=>Gj _
 | e::E,L=>GV t3 (qX (E:=E))
def qW{Q:Str->Prop}:∀{E:List (Str×Str)} {L:List Str},(∀e∈E,Q e.1->Q e.2)->(∀x∈L,Q x)->∀x∈rlx E L,Q x
 | [],L,_,h=>h
 | e::E,L,hE,h=>by
  apply qW (E:=E) (λe' he'=>hE e' (ymC _ he')) λx hx=>?_;unfold fN at hx;split at hx
  ·delta hc;rcases yaM hx with hx|hx;exact h x hx;rw[ysM hx];exact hE e ymS (h _ hc.1)
  ·exact h x hx
def wC:∀{E:List (Str×Str)} {L:List Str},L.Nodup->(rlx E L).Nodup
 | [],L,h=>h
 | e::E,L,h=>by
  apply wC (E:=E) ?_;unfold fN;split
  ·delta hc;exact Gi.mpr ⟨h,by simp,λa ha b hb e'=>hc.2 (by rw[ysM hb]at e';rw[<-e'];exact ha)⟩
  ·exact h
def og:∀{E:List (Str×Str)} {L:List Str},L.length<(rlx E L).length\/(rlx E L=L/\Clo E L)
 | [],L=>.inr ⟨rfl,λe he=>by cases he⟩
 | e::E,L=>by
  by_cases hc:e.1∈L/\e.2∉L
  ·left;have h1:(fN L e).length=L.length+1:=by unfold fN;rw[if_pos hc];simp
   have:=qX (E:=E) (L:=fN L e);show L.length<(rlx E (fN L e)).length;omega
  ·have h1:fN L e=L:=by unfold fN;rw[if_neg hc]
   show L.length<(rlx E (fN L e)).length\/(rlx E (fN L e)=L/\_);rw[h1];rcases og (E:=E) (L:=L)with h|⟨h,c⟩;exact .inl h
   ·apply .inr ⟨h,λe' he'=>?_⟩;rcases ycM he' with rfl|he'
    ·intro ha;by_cases hb:e'.2∈L;exact hb;exact absurd ⟨ha,hb⟩ hc
    ·exact c e' he'
def oe{E:List (Str×Str)}{z:Str}:∀n:Nat,(hW E n [z]).Nodup/\z∈hW E n [z]/\(∀x∈hW E n [z],Rch E z x)/\(n+1<=(hW E n [z]).length\/Clo E (hW E n [z]))
 | 0=>⟨by simp[hW],by simp[hW],λx hx=>by rw[ysM hx];exact .refl,.inl (by simp[hW])⟩
 | n+1=>by
  obtain⟨h1,h2,h3,h4⟩:=oe (E:=E) (z:=z) n;apply⟨wC h1,qY _ h2,qW (λe he hx=>hx.tail he) h3,?_⟩;show n+1+1<=(rlx E (hW E n [z])).length\/Clo E (rlx E (hW E n [z]));rcases og (E:=E) (L:=hW E n [z])with h|⟨h,c⟩
  ·rcases h4 with h4|h4;exact .inl ⋯
   ·exfalso;have:rlx E (hW E n [z])=hW E n [z]:=by
     have:∀{E':List (Str×Str)} {L:List Str},(∀e∈E',e.1∈L->e.2∈L)->rlx E' L=L:=by
      intro E'
      induction E' with
      | nil=>intro L _;rfl
      | cons e E' ih=>
       intro L hc;have h1:fN L e=L:=by unfold fN;rw[if_neg (λz=>z.2 (hc e ymS z.1))]
       show rlx E' (fN L e)=L;rw[h1];exact ih λe' he'=>hc e' (ymC _ he')
     exact this h4
    rw[this]at h;exact Hc _ h
  ·right;rw[h];exact c
def iQ{l m:List Str}(h:l.Nodup)(hs:∀x∈l,x∈m):l.length<=m.length:=by
 induction l generalizing m with
 | nil=>exact GY _
 | cons a l ih=>
  rw[GA]at h;have ha:=hs a ymS;have:=ih (m:=m.erase a) h.2 λx hx=>(JJ (a:=x) (b:=a) (λe=>h.1 (by rw[<-e];exact hx))).mpr (hs x (ymC _ hx));rw[Je ha]at this;have hp:0<m.length:=HX ha;rw[Gp];omega
abbrev EIn(N:List Str)(E:List (Str×Str)):Prop:=∀e∈E,e.1∈N/\e.2∈N
def Rch.within{N:List Str}{E:List (Str×Str)}(h:EIn N E){a b:Str}(r:Rch E a b)(ha:a∈N):b∈N:=r.clo (λe he _=>(h e he).2) ha
abbrev rl(N:List Str) (E:List (Str×Str)) (z:Str):List Str:=hW E N.length [z]
def eN{N:List Str}{E:List (Str×Str)}(h:EIn N E){z x:Str}(hz:z∈N):x∈rl N E z↔Rch E z x:=by
 obtain⟨h1,h2,h3,h4⟩:=oe (E:=E) (z:=z) N.length;apply⟨h3 x,λr=>r.clo (h4.resolve_left λhl=>?_) h2⟩;have:=iQ h1 λy hy=>(h3 y hy).within h hz;omega
abbrev rb(N:List Str) (E:List (Str×Str)) (a b:Str):Bool:=decide (b∈rl N E a)
abbrev kn(N:List Str) (E:List (Str×Str)) (z:Str):List Str:=N.filter λo=>rb N E z o&&rb N E o z
section
variable {N:List Str}{E:List (Str×Str)}
def bM(h:EIn N E){a b:Str}(ha:a∈N):rb N E a b=true↔Rch E a b:=by unfold rb;rw[decide_eq_true_eq,eN h ha]
def bt(h:EIn N E){z x:Str}(hz:z∈N):x∈kn N E z↔x∈N/\Rch E z x/\Rch E x z:=by
 unfold kn;rw[Gk,Gd];constructor;rintro⟨h1,h2,h3⟩;exact⟨h1,(bM h hz).mp h2,(bM h h1).mp h3⟩;rintro⟨h1,h2,h3⟩;exact⟨h1,(bM h hz).mpr h2,(bM h h1).mpr h3⟩
def b8(h:EIn N E){z:Str}(hz:z∈N):z∈kn N E z:=(bt h hz).mpr ⟨hz,.refl,.refl⟩
def gO(h:EIn N E){z y:Str}(hz:z∈N)(hy:y∈N):kn N E y=kn N E z↔y∈kn N E z:=by
 constructor;intro e;rw[<-e];exact b8 h hy
 ·intro hm;obtain⟨_,r1,r2⟩:=(bt h hz).mp hm;unfold kn;apply HQ λo ho=>?_;rw[GR,Gd,Gd,bM h hy,bM h ho,bM h hz,bM h ho];exact⟨fun⟨a,b⟩=>⟨r1.trans a,b.trans r2⟩,fun⟨a,b⟩=>⟨r2.trans a,b.trans r1⟩⟩
abbrev gW(N:List Str) (E:List (Str×Str)) (left:List Str) (z:Str):Bool:=(rl N E z).all λo=>!(decide (o∈left))||decide (o∈kn N E z)
abbrev fv(N:List Str) (E:List (Str×Str)):Nat->List Str->List (List Str)
 | 0,_=>[]
 | n+1,left=>match left.find? (gW N E left)with
  | none=>[]
  | some z=>kn N E z::fv N E n (left.filter λo=>!decide (o∈kn N E z))
def je(h:EIn N E){left:List Str}{z:Str}(hz:z∈left)(hN:z∈N):(left.filter λo=>!decide (o∈kn N E z)).length<left.length:=by
 apply Ii.mpr ⟨z,hz,?_⟩;simp[b8 h hN]
def lI(h:EIn N E):∀(n m:Nat) (left:List Str),(∀x∈left,x∈N)->left.length<=n->left.length<=m->fv N E n left=fv N E m left
 | 0,0,_,_,_,_=>rfl
 | 0,m+1,left,_,hn,_=>by
  have:left=[]:=G4.mp (Kn.mp hn);subst this;rfl
 | n+1,0,left,_,_,hm=>by
  have:left=[]:=G4.mp (Kn.mp hm);subst this;rfl
 | n+1,m+1,left,hs,hn,hm=>by
  rw[fv,fv];cases e:left.find? (gW N E left)with
  | none=>rfl
  | some z=>
   have hz:=HM e;have hl:=je h hz (hs z hz);show kn N E z::_=kn N E z::_;rw[lI h n m _ (λx hx=>hs x (Gk.mp hx).1) ⋯ ⋯]
def nD(h:EIn N E){left:List Str}(hs:∀x∈left,x∈N)(hn:left≠[]):∃z∈left,gW N E left z=true:=by
 have key:∀(n:Nat) (z:Str),z∈left->(left.filter λo=>decide (o∈rl N E z)).length<=n->∃y∈left,gW N E left y=true:=by
  intro n
  induction n with
  | zero=>
   intro z hz hl;have:z∈left.filter λo=>decide (o∈rl N E z):=Gk.mpr ⟨hz,decide_eq_true ((eN h (hs z hz)).mpr .refl)⟩;have:=HX this;omega
  | succ n ih=>
   intro z hz hl;by_cases hd:gW N E left z=true;exact⟨z,hz,hd⟩
   ·have hzN:=hs z hz;unfold gW at hd;rw[G9]at hd;obtain⟨o,hd⟩:=Classical.not_forall.mp hd;obtain⟨ho,hc⟩:=Classical.not_imp.mp hd;rw[Hl,GJ,decide_eq_false_iff_not,decide_eq_true_eq,not_or]at hc;have hol:o∈left:=by exists hc.1
    have hoN:=hs o hol;have r1:=(eN h hzN).mp ho;apply ih o hol ?_;have hsub:(left.filter λx=>decide (x∈rl N E o)).length<(left.filter λx=>decide (x∈rl N E z)).length:=by
     have e1:(left.filter λx=>decide (x∈rl N E o))=(left.filter λx=>decide (x∈rl N E z)).filter λx=>decide (x∈rl N E o):=by
      rw[Iv];apply HQ λx hx=>?_;rw[GR,Gd,decide_eq_true_eq,decide_eq_true_eq];constructor
      ·intro hx';exact⟨hx',(eN h hzN).mpr (r1.trans ((eN h hoN).mp hx'))⟩
      ·exact λhx'=>hx'.1
     rw[e1];apply Ii.mpr ⟨z,Gk.mpr ⟨hz,decide_eq_true ((eN h hzN).mpr .refl)⟩,?_⟩;rw[decide_eq_true_eq];intro hzo;exact hc.2 ((bt h hzN).mpr ⟨hoN,r1,(eN h hoN).mp hzo⟩)
    omega
 obtain⟨z,hz⟩:=List.exists_mem_of_ne_nil left hn;exact key _ z hz (Gj _)
end
abbrev fQ(acc:List (List Str)) (k:List Str):List (List Str):=if k∈acc then acc else acc++[k]
section
variable {p:List Str->Bool}
def lr:∀{l acc:List (List Str)},(l.foldl fQ acc).find? p=(acc++l).find? p
 | [],acc=>by rw[Gy];rfl
 | k::l,acc=>by
  rw[Hk,lr (l:=l)];unfold fQ;split
  ·delta hm;rw[Ke,Ke,HF];cases e:p k with
   | false=>rfl
   | true=>
    have:(acc.find? p).isSome=true:=Ja.mpr ⟨k,hm,e⟩;obtain⟨y,hy⟩:=Hi.mp this;rw[hy];rfl
  ·rw[Gx];rfl
def jB:∀{l acc:List (List Str)},(l.foldl fQ acc).filter p=(l.filter p).foldl fQ (acc.filter p)
 | [],acc=>rfl
 | k::l,acc=>by
  rw[Hk,jB (l:=l),GM];cases e:p k with
  | false=>
   congr 1;unfold fQ;split;rfl;rw[G3,GM,e];simp
  | true=>
   rw[if_pos rfl,Hk];congr 1;unfold fQ;by_cases hm:k∈acc;rw[if_pos hm,if_pos (Gk.mpr ⟨hm,e⟩)];rw[if_neg hm,if_neg (λz=>hm (Gk.mp z).1),G3,GM,e];rfl
end
def qx:∀{l acc:List (List Str)},acc.Nodup->(l.foldl fQ acc).Nodup
 | [],acc,h=>h
 | k::l,acc,h=>by
  rw[Hk];apply qx (l:=l) ?_;unfold fQ;split;exact h
  ·delta hm;exact Gi.mpr ⟨h,by simp,λa ha b hb e=>hm (by rw[ysM hb]at e;rw[<-e];exact ha)⟩
def ded2_mem{x:List Str}:∀{l acc:List (List Str)},x∈l.foldl fQ acc↔x∈acc\/x∈l
 | [],acc=>by simp
 | k::l,acc=>by
  rw[Hk,ded2_mem (l:=l),Hs];unfold fQ;split
  ·delta hm;constructor;exact λh=>h.imp id .inr
   ·rintro(h|h|h);exact .inl h;subst h;exact .inl hm;exact .inr h
  ·rw[Ip,IS,or_assoc]
abbrev dk(N:List Str) (E:List (Str×Str)) (l:List Str):List (List Str):=(l.map (kn N E)).foldl fQ []
abbrev ja(E:List (Str×Str)) (k told:List Str):Bool:=(E.filter λe=>decide (e.1∈k)).all λe=>decide (e.2∈k)||decide (e.2∈told)
structure Lq(N:List Str)(E:List (Str×Str))(left told:List Str):Prop where
 sub:∀x∈left,x∈N
 knc:∀z∈left,∀y∈kn N E z,y∈left
 tld:∀x∈N,x∈told↔x∉left
 tin:∀x∈told,x∈N
 clo:∀e∈E,e.1∉left->e.2∉left
section
variable {N:List Str}{E:List (Str×Str)}{left told:List Str}{z:Str}
def dueN_iff:gW N E left z=true ↔ ∀o∈rl N E z,o∈left->o∈kn N E z:=by
 unfold gW;rw[G9];apply forall_congr' λo=>imp_congr_right λ_=>?_;rw[Hl,GJ,decide_eq_false_iff_not,decide_eq_true_eq];constructor
 ·rintro(h|h) hl;exact absurd hl h;exact h
 ·intro h;by_cases hl:o∈left;exact .inr (h hl);exact .inl hl
def ui{k:List Str}:ja E k told=true ↔ ∀e∈E,e.1∈k->e.2∈k\/e.2∈told:=by
 unfold ja;rw[G9];constructor
 ·intro h e he hk;have:=h e (Gk.mpr ⟨he,decide_eq_true hk⟩);rwa [Hl,decide_eq_true_eq,decide_eq_true_eq]at this
 ·intro h e he;obtain⟨h1,h2⟩:=Gk.mp he;rw[Hl,decide_eq_true_eq,decide_eq_true_eq];exact h e h1 (of_decide_eq_true h2)
def Lq.due(i:Lq N E left told)(h:EIn N E)(hz:z∈left):ja E (kn N E z) told=gW N E left z:=by
 have hzN:=i.sub z hz;rw[GR,ui,dueN_iff];constructor
 ·intro hd o ho hl;have r:=(eN h hzN).mp ho;have key:∀{x:Str},Rch E z x->x∈kn N E z\/x∉left:=by
   intro x rx
   induction rx with
   | refl=>exact .inl (b8 h hzN)
   | tail _ e ih=>
    rcases ih with ih|ih
    ·rcases hd _ e ih with h1|h1;exact .inl h1;exact .inr ((i.tld _ (h _ e).2).mp h1)
    ·exact .inr (i.clo _ e ih)
  exact(key r).resolve_right λn=>n hl
 ·intro hd e he hk;obtain⟨_,r1,_⟩:=(bt h hzN).mp hk;have ho:=(eN h hzN).mpr (r1.tail he);by_cases hl:e.2∈left;exact .inl (hd _ ho hl);exact .inr ((i.tld _ (h e he).2).mpr hl)
def Lq.step(i:Lq N E left told)(h:EIn N E)(hz:z∈left)(hd:gW N E left z=true):Lq N E (left.filter λo=>!decide (o∈kn N E z)) (told++kn N E z):=by
 have hzN:=i.sub z hz;have mem:∀x,x∈(left.filter λo=>!decide (o∈kn N E z))↔x∈left/\x∉kn N E z:=λx=>by rw[Gk,GJ,decide_eq_false_iff_not]
 apply⟨λx hx=>i.sub x ((mem x).mp hx).1,λy hy x hx=>?_,λx hx=>?_,λx hx=>?_,λe he hn=>?_⟩
 ·obtain⟨h1,h2⟩:=(mem y).mp hy;apply(mem x).mpr ⟨i.knc y h1 x hx,λhx'=>h2 ?_⟩;obtain⟨hxN,a1,a2⟩:=(bt h (i.sub y h1)).mp hx;obtain⟨_,b1,b2⟩:=(bt h hzN).mp hx';exact(bt h hzN).mpr ⟨i.sub y h1,b1.trans a2,a1.trans b2⟩
 ·rw[Ip,i.tld x hx,mem x,Classical.not_and_iff_not_or_not,Classical.not_not]
 ·rcases yaM hx with hx|hx;exact i.tin x hx;exact((bt h hzN).mp hx).1
 ·rw[mem];rintro⟨h1,h2⟩;by_cases hl:e.1∈left
  ·have hk:e.1∈kn N E z:=Nh λhk=>hn ((mem _).mpr ⟨hl,hk⟩);obtain⟨_,r1,_⟩:=(bt h hzN).mp hk;exact h2 (dueN_iff.mp hd _ ((eN h hzN).mpr (r1.tail he)) h1)
  ·exact i.clo e he hl h1
def Lq.first(h:EIn N E):Lq N E N []:=⟨λ_ h=>h,λz hz y hy=>((bt h hz).mp hy).1,λx hx=>by simp[hx],by simp,λe he hn=>absurd (h e he).1 hn⟩
def Lq.find(i:Lq N E left told)(h:EIn N E):(dk N E left).find? (λk=>ja E k told)=(left.find? (gW N E left)).map (kn N E):=by
 unfold dk;rw[lr,Hy,List.find?_map];congr 1;have:∀l:List Str,(∀x∈l,x∈left)->l.find? ((λk=>ja E k told)∘kn N E)=l.find? (gW N E left):=by
  intro l
  induction l with
  | nil=>intro _;rfl
  | cons a l ih=>
   intro hs;rw[HF,HF,ih λx hx=>hs x (ymC _ hx)];show(match ja E (kn N E a) told with|true=>_|false=>_)=_;rw[i.due h (hs a ymS)];cases gW N E left a<;>rfl
 exact this left λx hx=>hx
def xv(h:EIn N E)(hs:∀x∈left,x∈N)(hz:z∈left):(dk N E left).filter (λk=>!decide (k=kn N E z))=dk N E (left.filter λo=>!decide (o∈kn N E z)):=by
 unfold dk;rw[jB,Kq,Ir];congr 2;apply HQ λy hy=>?_;show(!decide (kn N E y=kn N E z))=_;congr 1;rw[GR,decide_eq_true_eq,decide_eq_true_eq];exact gO h (hs z hz) (hs y hy)
end
abbrev tKn(k:List Str):I:=.tup (k.map .str)
def oB:∀{a b:List Str},a.map I.str=b.map I.str->a=b
 | [],[],_=>rfl
 | [],_::_,h=>by cases h
 | _::_,[],h=>by cases h
 | x::a,y::b,h=>by
  rw[Gg,Gg,HD.injEq]at h;rw[I.str.inj h.1,oB h.2]
def rC{a b:List Str}(h:tKn a=tKn b):a=b:=oB (I.tup.inj h)
def Lw{k:List Str}{l:List (List Str)}:tKn k∈l.map tKn↔k∈l:=by
 rw[Gn];exact⟨fun⟨x,h1,h2⟩=>rC h2▸h1,λh=>⟨k,h,rfl⟩⟩
def K0{x:Str}{l:List Str}:I.str x∈l.map I.str↔x∈l:=by
 rw[Gn];exact⟨fun⟨y,h1,h2⟩=>I.str.inj h2▸h1,λh=>⟨x,h,rfl⟩⟩
def nF{k:List Str}:∀{l:List (List Str)},l.Nodup->k∈l->(l.map tKn).eraseIdx ((l.map tKn).findIdx λj=>decide (j=tKn k))=(l.filter λx=>!decide (x=k)).map tKn
 | [],_,h=>by cases h
 | a::l,hn,hm=>by
  rw[GA]at hn;rw[Gg,List.findIdx_cons];by_cases e:a=k
  ·subst e;rw[decide_eq_true rfl];show l.map tKn=_;rw[GM,decide_eq_true rfl];show _=(l.filter _).map tKn;rw[Hw.mpr λx hx=>by
    rw[GJ,decide_eq_false_iff_not];intro z;exact hn.1 (z▸hx)]
  ·have hm':k∈l:=(ycM hm).resolve_left λz=>e z.symm;rw[decide_eq_false (λz=>e (rC z))];show(tKn a::l.map tKn).eraseIdx ((l.map tKn).findIdx _+1)=_;rw[HS,nF hn.2 hm',GM,decide_eq_false e];rfl
section
variable {N:List Str}{E:List (Str×Str)}
def lJ(h:EIn N E):∀(n:Nat) (left:List Str),left.length<=n->(∀x∈left,x∈N)->(∀z∈left,∀y∈kn N E z,y∈left) ->
  (∀k∈fv N E n left,∃z∈left,k=kn N E z)/\(∀z∈left,kn N E z∈fv N E n left)/\(fv N E n left).Nodup
 | 0,left,hl,_,_=>by
  have:left=[]:=G4.mp (Kn.mp hl);subst this;exact⟨λk hk=>(by cases hk),λz hz=>(by cases hz),Hj⟩
 | n+1,left,hl,hs,hc=>by
  by_cases hne:left=[]
  ·subst hne;exact⟨λk hk=>(by cases hk),λz hz=>(by cases hz),Hj⟩
  ·obtain⟨z0,hz0,hd0⟩:=nD h hs hne;obtain⟨z,hz⟩:=Hi.mp (Ja.mpr ⟨z0,hz0,hd0⟩);have hzl:=HM hz;have hzN:=hs z hzl;have hlt:=je h hzl hzN;have mem:∀x,x∈(left.filter λo=>!decide (o∈kn N E z))↔x∈left/\x∉kn N E z:=λx=>by rw[Gk,GJ,decide_eq_false_iff_not]
   have e:fv N E (n+1) left=kn N E z::fv N E n (left.filter λo=>!decide (o∈kn N E z)):=by rw[fv,hz]
   obtain⟨i1,i2,i3⟩:=lJ h n (left.filter λo=>!decide (o∈kn N E z)) ⋯ (λx hx=>hs x ((mem x).mp hx).1) (λy hy x hx=>by
    obtain⟨h1,h2⟩:=(mem y).mp hy;apply(mem x).mpr ⟨hc y h1 x hx,λhx'=>h2 ?_⟩;obtain⟨_,a1,a2⟩:=(bt h (hs y h1)).mp hx;obtain⟨_,b1,b2⟩:=(bt h hzN).mp hx';exact(bt h hzN).mpr ⟨hs y h1,b1.trans a2,a1.trans b2⟩)
   rw[e];apply⟨λk hk=>?_,λy hy=>?_,GA.mpr ⟨λhm=>?_,i3⟩⟩
   ·rcases ycM hk with rfl|hk;exact⟨z,hzl,rfl⟩
    ·obtain⟨y,hy,e'⟩:=i1 k hk;exact⟨y,((mem y).mp hy).1,e'⟩
   ·by_cases hyk:y∈kn N E z;rw[(gO h hzN (hs y hy)).mpr hyk];exact ymS;exact ymC _ (i2 y ((mem y).mpr ⟨hy,hyk⟩))
   ·obtain⟨y,hy,e'⟩:=i1 _ hm;obtain⟨h1,h2⟩:=(mem y).mp hy;exact h2 (by rw[e'];exact b8 h (hs y h1))
abbrev kns(N:List Str) (E:List (Str×Str)):List (List Str):=fv N E N.length N
def bE(h:EIn N E):(∀k∈kns N E,∃z∈N,k=kn N E z)/\(∀z∈N,kn N E z∈kns N E)/\(kns N E).Nodup:=
 lJ h N.length N (Gj _) (λ_ h=>h) λz hz y hy=>((bt h hz).mp hy).1
end
section
variable {N:List Str}{E E':List (Str×Str)}
def Rch.more(hs:∀e∈E',e∈E){a b:Str}(r:Rch E' a b):Rch E a b:=by
 induction r with
 | refl=>exact .refl
 | tail _ e ih=>exact ih.tail (hs _ e)
def EIn.less(h:EIn N E)(hs:∀e∈E',e∈E):EIn N E':=λe he=>h e (hs e he)
def mJ(h:EIn N E)(hs:∀e∈E',e∈E){z:Str}(hz:z∈N):∀y∈kn N E' z,y∈kn N E z:=λy hy=>by
 obtain⟨h1,h2,h3⟩:=(bt (h.less hs) hz).mp hy;exact(bt h hz).mpr ⟨h1,h2.more hs,h3.more hs⟩
def qL(h:EIn N E)(hs:∀e∈E',e∈E){a b:Str}(hab:∀e∈E,e∈E'\/e=(a,b))(ha:a∈N)(hc:b∉kn N E a\/Rch E' a b){z:Str}(hz:z∈N):kn N E' z=kn N E z:=by
 have key:∀{x y:Str},Rch E x y->Rch E y x->Rch E' x y:=by
  intro x y r
  induction r with
  | refl=>intro _;exact .refl
  | @tail u v r0 e ih=>
   intro hr;have hu:=ih ((Rch.tail .refl e).trans hr);rcases hab _ e with h1|h1;exact hu.tail h1
   ·rw[Prod.mk.injEq]at h1;obtain⟨rfl,rfl⟩:=h1;rcases hc with hc|hc;exact absurd ((bt h ha).mpr ⟨(h _ e).2,.tail .refl e,hr.trans r0⟩) hc;exact hu.trans hc
 unfold kn;apply HQ λo ho=>?_;rw[GR,Gd,Gd,bM (h.less hs) hz,bM (h.less hs) ho,bM h hz,bM h ho];exact⟨fun⟨x,y⟩=>⟨x.more hs,y.more hs⟩,fun⟨x,y⟩=>⟨key x y,key y x⟩⟩
def iN{l m:List (List Str)}(h1:l.Nodup)(h2:m.Nodup)(h:∀x,x∈l↔x∈m):l.Perm m:=by
 induction l generalizing m with
 | nil=>
  have:m=[]:=IE.mpr λx hx=>by have:=(h x).mpr hx;cases this
  rw[this]
 | cons a l ih=>
  rw[GA]at h1;have ha:a∈m:=(h a).mp ymS;have hp:=List.perm_cons_erase ha;apply(List.Perm.cons a (ih h1.2 (h2.erase a) λx=>?_)).trans hp.symm;rw[h2.mem_erase_iff];constructor;exact λhx=>⟨λe=>h1.1 (e▸hx),(h x).mp (ymC _ hx)⟩
  ·rintro⟨n,hx⟩;exact(ycM ((h x).mpr hx)).resolve_left n
def uG(h:EIn N E)(hs:∀e∈E',e∈E){a b:Str}(hab:∀e∈E,e∈E'\/e=(a,b))(ha:a∈N)(hc:b∉kn N E a\/Rch E' a b):(kns N E').Perm (kns N E):=by
 obtain⟨i1,i2,i3⟩:=bE (h.less hs);obtain⟨j1,j2,j3⟩:=bE h;apply iN i3 j3 λk=>⟨λhk=>?_,λhk=>?_⟩
 ·obtain⟨z,hz,rfl⟩:=i1 k hk;rw[qL h hs hab ha hc hz];exact j2 z hz
 ·obtain⟨z,hz,rfl⟩:=j1 k hk;rw[<-qL h hs hab ha hc hz];exact i2 z hz
def sy{l m:List (List Str)}(h:l.Nodup)(hs:∀x∈l,x∈m):l.length<=m.length:=by
 induction l generalizing m with
 | nil=>exact GY _
 | cons a l ih=>
  rw[GA]at h;have ha:=hs a ymS;have:=ih (m:=m.erase a) h.2 λx hx=>(JJ (a:=x) (b:=a) (λe=>h.1 (by rw[<-e];exact hx))).mpr (hs x (ymC _ hx));rw[Je ha]at this;have hp:0<m.length:=HX ha;rw[Gp];omega
def uF(h:EIn N E)(hs:∀e∈E',e∈E){a b:Str}(ha:a∈N)(hb:b∈kn N E a)(hn:¬Rch E' a b):(kns N E).length<(kns N E').length:=by
 have h':=h.less hs;obtain⟨i1,i2,i3⟩:=bE h';obtain⟨j1,j2,j3⟩:=bE h;have hbN:=((bt h ha).mp hb).1;have hne:kn N E' a≠kn N E' b:=λe=>by
  have:b∈kn N E' a:=by rw[e];exact b8 h' hbN
  exact hn ((bt h' ha).mp this).2.1
 let g:List Str->List Str:=λk=>kn N E' (k.headD "")
 have hg:∀k∈kns N E,k.headD "" ∈ N/\k=kn N E (k.headD "")/\k.headD "" ∈ k:=λk hk=>by
  obtain⟨z,hz,rfl⟩:=j1 k hk;have hzk:=b8 h hz;have:(kn N E z).headD "" ∈ kn N E z:=by
   cases e:kn N E z with
   | nil=>rw[e]at hzk;cases hzk
   | cons x r=>exact ymS
  have hN:=((bt h hz).mp this).1;exact⟨hN,((gO h hz hN).mpr this).symm,this⟩
 have ginj:∀k∈kns N E,∀k2∈kns N E,g k=g k2->k=k2:=λk hk k2 hk2 e=>by
  obtain⟨a1,a2,a3⟩:=hg k hk;obtain⟨b1,b2,b3⟩:=hg k2 hk2;have hm:k.headD "" ∈ kn N E' (k2.headD ""):=by have:kn N E' (k.headD "")=kn N E' (k2.headD ""):=e;rw[<-this];exact b8 h' a1
  have:=mJ h hs b1 _ hm;rw[a2,b2];exact(gO h b1 a1).mpr this
 have hgm:∀x∈(kns N E).map g,x∈kns N E':=λx hx=>by
  obtain⟨k,hk,rfl⟩:=Gn.mp hx;exact i2 _ (hg k hk).1
 have gnd:((kns N E).map g).Nodup:=by
  have:∀l:List (List Str),l.Nodup->(∀x∈l,x∈kns N E)->(l.map g).Nodup:=by
   intro l
   induction l with
   | nil=>intro _ _;exact Hj
   | cons x l ih=>
    intro hl hsub;rw[GA]at hl;rw[Gg,GA];apply⟨λhm=>?_,ih hl.2 λy hy=>hsub y (ymC _ hy)⟩;obtain⟨y,hy,e⟩:=Gn.mp hm;exact hl.1 (ginj _ (hsub y (ymC _ hy)) _ (hsub x ymS) e▸hy)
  exact this _ j3 λx hx=>hx
 obtain⟨c,hcN,hcK,hcn⟩:∃c,c∈N/\kn N E c=kn N E a/\kn N E' c∉(kns N E).map g:=by
  by_cases e:g (kn N E a)=kn N E' a
  ·apply⟨b,hbN,(gO h ha hbN).mpr hb,λhm=>?_⟩;obtain⟨k,hk,e2⟩:=Gn.mp hm;obtain⟨a1,a2,a3⟩:=hg k hk;have hm2:k.headD "" ∈ kn N E' b:=by rw[<-e2];exact b8 h' a1
   have h3:=mJ h hs hbN _ hm2;have hk2:k=kn N E a:=by rw[a2,(gO h hbN a1).mpr h3];exact(gO h ha hbN).mpr hb
   subst hk2;exact hne (e.symm.trans e2)
  ·apply⟨a,ha,rfl,λhm=>?_⟩;obtain⟨k,hk,e2⟩:=Gn.mp hm;obtain⟨a1,a2,a3⟩:=hg k hk;have hm2:k.headD "" ∈ kn N E' a:=by rw[<-e2];exact b8 h' a1
   have h3:=mJ h hs ha _ hm2;have hk2:k=kn N E a:=by rw[a2];exact(gO h ha a1).mpr h3
   subst hk2;exact e e2
 have:=sy (l:=kn N E' c::(kns N E).map g) (m:=kns N E') (GA.mpr ⟨hcn,gnd⟩) (λx hx=>by
  rcases ycM hx with rfl|hx;exact i2 c hcN;exact hgm x hx)
 rw[Gp,Ge]at this;omega
end
abbrev nxt(E:List (Str×Str)) (L:List Str):List Str:=((E.filter λe=>decide (e.1∈L)&&decide (e.2∉L)).map (·.2)).take 1
abbrev cms(E:List (Str×Str)):Nat->List Str->List Str
 | 0,L=>L
 | n+1,L=>cms E n L++nxt E (cms E n L)
def sB(E:List (Str×Str))(L:List Str):(nxt E L=[]/\Clo E L) \/ ∃e∈E,e.1∈L/\e.2∉L/\nxt E L=[e.2]:=by
 unfold nxt;cases h:E.filter λe=>decide (e.1∈L)&&decide (e.2∉L)with
 | nil=>
  apply .inl ⟨rfl,λe he h1=>Nh λh2=>?_⟩;have:e∈E.filter λe=>decide (e.1∈L)&&decide (e.2∉L):=Gk.mpr ⟨he,by simp[h1,h2]⟩;rw[h]at this;cases this
 | cons e l=>
  have:e∈E.filter λe=>decide (e.1∈L)&&decide (e.2∉L):=by rw[h];exact ymS
  obtain⟨h1,h2⟩:=Gk.mp this;dsimp[Gd,decide_eq_true_eq]at h2;exact .inr ⟨e,h1,h2.1,h2.2,by simp⟩
def fV(E:List (Str×Str))(a:Str):∀n,(∀x∈cms E n [a],Rch E a x)/\a∈cms E n [a]/\(cms E n [a]).Nodup/\(cms E n [a]).length<=n+1 /\
  (Clo E (cms E n [a]) \/ ∃t,cms E n [a]=a::t/\t.length=n/\∀x∈t,x∈E.map (·.2))
 | 0=>by
  apply⟨λx hx=>?_,by simp[cms],by simp[cms],by simp[cms],.inr ⟨[],rfl,rfl,by simp⟩⟩;rw[cms,IS]at hx;rw[hx];exact .refl
 | n+1=>by
  obtain⟨h1,h2,h3,h4,h5⟩:=fV E a n;rw[cms];rcases sB E (cms E n [a])with⟨e1,e2⟩|⟨e,he,g1,g2,e1⟩
  ·rw[e1,Gy];exact⟨h1,h2,h3,by omega,.inl e2⟩
  ·rw[e1];apply⟨λx hx=>?_,yaL _ h2,Gi.mpr ⟨h3,by simp,λx hx y hy z=>g2 (by rw[ysM hy]at z;rw[<-z];exact hx)⟩,by rw[Gr];simp;omega,?_⟩
   ·rcases yaM hx with hx|hx;exact h1 x hx;rw[ysM hx];exact(h1 _ g1).tail he
   ·rcases h5 with h5|⟨t,et,tl,th⟩;exact absurd (h5 e he g1) g2
    ·apply .inr ⟨t++[e.2],by rw[et];rfl,by simp[tl],λx hx=>?_⟩;rcases yaM hx with hx|hx;exact th x hx;rw[ysM hx];exact Gn.mpr ⟨e,he,rfl⟩
def xt(E:List (Str×Str))(a:Str):Clo E (cms E E.length [a]):=by
 obtain⟨h1,h2,h3,h4,h5⟩:=fV E a E.length;rcases h5 with h5|⟨t,et,tl,th⟩;exact h5
 ·intro e he _;apply Nh λhc=>?_;rw[et]at h3 hc;have hd:(e.2::t).Nodup:=GA.mpr ⟨λz=>hc (ymC _ z),(GA.mp h3).2⟩;have:=iQ hd (m:=E.map (·.2)) λx hx=>by
   rcases ycM hx with rfl|hx;exact Gn.mpr ⟨e,he,rfl⟩;exact th x hx
  rw[Gp,Ge]at this;omega
def xu{E:List (Str×Str)}{a b:Str}:b∈cms E E.length [a]↔Rch E a b:=
 ⟨(fV E a E.length).1 b,λr=>r.clo (xt E a) (fV E a E.length).2.1⟩
local macro_rules|`(tactic| ac_nf)=>`(tactic| try dsimp[A4,DF,DE,xK,DG,List.set_cons_zero,JS,mR,y4,CB,CD,CC,y8,uo,rY])
local macro_rules|`(tactic| infer_instance)=>`(tactic| first
 | refine qD ?_|refine xB ?_|(refine xz ?_;try ac_nf)|refine AQ ?_|refine Dv rfl ?_|refine Dx ?_
 | refine As ?_|refine Fh ?_|refine Fs ?_|refine qd ?_|refine Db ?_|refine Fj ?_|refine Fq ?_
 | refine w_C ?_|refine fM rfl ?_|refine Df rfl rfl ?_|refine De rfl ?_|refine Dd rfl ?_|refine Dc ?_|refine Fn ?_|refine Fo ?_|refine qg ?_|refine Ga ?_|refine w_B ?_|refine w_M ?_|refine C7 rfl ?_|refine C8 rfl rfl ?_|refine w8 ?_|refine F8 ?_|refine Dg ?_|refine C9 ?_|refine DR (by unhygienic rfl) ?_|refine xb ?_|refine xf ?_|refine Fp ?_|refine F9 ?_|refine Ft rfl (by unhygienic rfl) ?_|refine nj ?_|refine xc ?_|refine Da ?_
 | refine zM ?_|refine zN ?_
 | refine kS ?_|refine Fu ?_|refine Gb ?_|refine Fw rfl rfl ?_|refine xg rfl ?_|refine Au rfl rfl ?_|refine Fv rfl rfl rfl ?_|refine nq ?_|refine dY rfl ?_
 | refine zO ?_|refine Dn ?_|refine Dm ?_|refine Dl ?_|refine Fx ?_|refine jz ?_
 | (refine zJ (by unhygienic rfl) ?_;try ac_nf)|refine Dk rfl ?_|refine xi (by unhygienic rfl) ?_|refine zK ?_|refine Dj ?_|refine xh ?_
 | refine gu (by unhygienic rfl) ?_
 | refine Bv ?_|refine D7 ?_|refine DT ?_|refine DU ?_|refine D0 ?_|refine DW ?_|refine BC ?_|refine BA ?_|refine yl ?_|refine DZ ?_|refine DY ?_|refine By ?_|refine BK ?_|refine BE ?_|refine D3 ?_|refine D4 ?_|refine BH ?_|refine BI rfl ?_
 | refine z7 rfl ?_|refine z8 rfl ?_|refine va (n:=0) rfl (Ie rfl) ?_|refine va (n:=1) rfl (Ie rfl) ?_
 | refine u6 (FT (by decide) (by decide)) ?_|refine u6 (DM (by decide) (by decide)) ?_|refine u5 ⋯ ?_|refine Bx ⋯ ?_
 | refine qf (by rfl) ?_|refine o4 ?_|refine qt ?_
 | refine FP ?_|refine FQ ?_|refine oX rfl ?_|refine AD rfl (by unhygienic rfl) rfl rfl ?_|refine AE rfl rfl ?_|refine FC ?_|refine CZ ?_|refine qG rfl ?_|refine xH rfl ?_)
local macro_rules|`(tactic| omega)=>`(tactic| decide)
local macro_rules|`(tactic| lia)=>`(tactic| repeat infer_instance)
local macro_rules|`(tactic| cbv)=>`(tactic| unhygienic rfl)
local macro_rules|`(tactic| clear_value $h:ident)=>`(tactic| first|refine dsp (fun $h=>?_) (fun $h=>?_)|refine FN (fun $h=>?_) (fun $h=>?_)|refine bsp (fun $h=>?_) (fun $h=>?_))
def bn{ns:List Int}{kd:Kd}{a:Int}{QR:R->Prop}(h0:0<=a)(h1:a<ns.length)(q:∀y,y∈ns->ns[a.toNat]?=some y->QR ⟨.ow,.im (.int y)⟩):W1 (ixR ⟨kd,.li (ns.map .int)⟩ (.im (.int a))) QR:=by
 apply uY h0 (by exists h1) λx hx=>?_;rw[Go]at hx;cases e:ns[a.toNat]? with
 | none=>rw[e]at hx;cases hx
 | some y=>rw[e]at hx;cases hx;exact q y (ymG e) e
def sF{ns:List Int}{kd:Kd}{a:Int}{QR:R->Prop}(h0:0<=a)(h1:a<ns.length)(q:∀y,y∈ns->ns[a.toNat]?=some y->QR ⟨.ow,.im (.int y)⟩):W1 (ixR ⟨kd,.im (.tup (ns.map .int))⟩ (.im (.int a))) QR:=by
 apply u4 h0 (by exists h1) λx hx=>?_;rw[Go]at hx;cases e:ns[a.toNat]? with
 | none=>rw[e]at hx;cases hx
 | some y=>rw[e]at hx;cases hx;exact q y (ymG e) e
def ba{α:Type}{P : α->Prop}{l:List α}{y : α}(h:∀x∈l,P x)(hy:P y):∀x∈l++[y],P x:=λx hx=>(yaM hx).elim (h x) λz=>by rw[ysM z];exact hy
abbrev fT(f:Int×Int):T:=.li [.int f.1,.int f.2]
def aq{f:Int×Int}{n:Int}(h1:0<n)(h2:n<2^64){Q:T->T->Prop}(q:∀d f',0<=d->d<n->Q (.im (.int d)) (fT f')):W2 (aj [fT f,.im (.int n)]) Q:=by
 apply gG rfl rfl ?_;unfold iM
 lia
 (refine bI ?_;lia;clear_value h)
 ·lia
  exact q _ (f.1 / n,f.2) (Ia _ ⋯) (HK _ h1)
 ·lia
  exact q _ (f.1,(f.2*48271 % 2147483647*40692+30103) % 2147483399+1) (Ia _ ⋯) (HK _ h1)
abbrev pX(is:List Int):T:=.im (.tup (is.map .int))
def wE{f:Int×Int}{n:Int}(h1:1<=n)(h2:n<=3){Q:T->T->Prop}(q:∀is f',is.length=n.toNat->(∀x∈is,-2<=x/\x<=2)->Q (pX is) (fT f')):W2 (jT [fT f,.im (.int n)]) Q:=by
 apply gG rfl rfl ?_;unfold jR
 lia
 apply bI ?_
 lia
 apply aq ⋯ ⋯ λd f hd0 hd1=>?_;ac_nf
 lia
 clear_value h
 ·lia
  apply u8 (is:=[.int 0]) ⟨by simp,by decide,by omega,by omega⟩ ?_
  lia
  have:(Gh n.toNat [I.int 0]).flatten=(Gh n.toNat (0:Int)).map .int:=by simp
  rw[this];exact q _ f ∅ (by intro x hx;rw[(HY.mp hx).2];decide)
 ·lia
  apply fj (λf:Int×Int=>[some ⟨.io 0,fT f⟩,↥(.int n)]) I.int (λj _ is=>is.length=j/\∀x∈is,-2<=x/\x<=2) ?_
  lia
  apply⟨⟨by omega,by omega⟩,by cbv,f,by cbv,⟨rfl,by simp⟩,λj f is hj ⟨hl,hx⟩=>?_,λf is ⟨hl,hx⟩=>?_⟩
  ·lia
   apply aq ⋯ ⋯ λd f hd0 hd1=>?_;ac_nf
   lia
   apply bn (ns:=[0,1,0-1,2,0-2]) hd0 hd1 λy hy _=>⟨y,f,rfl,by cbv,by simp[hl],ba hx (by simp at hy;omega)⟩
  ·lia
   exact q is f hl hx
def xp{f:Int×Int}{n:Int}(h1:1<=n)(h2:n<=3){Q:T->T->Prop}(q:∀is f',is.length=n.toNat->(∀x∈is,-2<=x/\x<=2)->(∃(k:Nat) (y:Int) (m:List Int),is=Gh k 0++y::m/\y<0)->Q (pX is) (fT f')):W2 (dE [fT f,.im (.int n)]) Q:=by
 apply gG rfl rfl ?_;unfold dw
 lia
 apply aq ⋯ ⋯ λd f hd0 hd1=>?_;ac_nf
 lia
 apply tR (λf:Int×Int=>[some ⟨.io 0,fT f⟩,↥(.int n),↥(.int d),none]) I.int (λj _ is=>is.length=j/\∀x∈is,-2<=x/\x<=2) ?_
 lia
 apply⟨⟨by omega,by omega,by omega,by omega,by omega⟩,by cbv,f,by cbv,⟨rfl,by simp⟩,λj f is hj ⟨hl,hx⟩=>?_,λf is ⟨hl,hx⟩=>?_⟩
 ·lia
  apply aq ⋯ ⋯ λd f hd0 hd1=>?_;ac_nf
  lia
  apply bn (ns:=[0,1,0-1,2,0-2]) hd0 hd1 λy hy _=>⟨y,f,rfl,by cbv,by simp[hl],ba hx (by simp at hy;omega)⟩
 ·lia
  apply u7 (is:=[.int 0]) ⟨by omega,by omega,by simp;rw[LL];omega⟩ ?_
  lia
  apply aq ⋯ ⋯ λd2 f hd20 hd21=>?_;ac_nf
  lia
  apply pG (is:=(Gh d.toNat [I.int 0]).flatten) (js:=[.int (0-1-d2)]) (by simp;rw[LL];omega) ?_
  lia
  apply pG (is:=(Gh d.toNat [I.int 0]).flatten++[.int (0-1-d2)]) (js:=is.map I.int) (by simp;rw[LL];omega) ?_
  lia
  have:(Gh d.toNat [I.int 0]).flatten++[.int (0-1-d2)]++is.map I.int=(Gh d.toNat 0++(0-1-d2)::is).map I.int:=by simp
  rw[this];exact q _ f (by simp;omega) (λx hx'=>by
   rcases yaM hx' with hx'|hx';rw[(HY.mp hx').2];decide
   ·rcases ycM hx' with rfl|hx';omega;exact hx x hx') ⟨d.toNat,_,is,rfl,by omega⟩
def tN{row signs:List Int}{way:Int}(h1:1<=row.length)(h2:row.length<=1000)(hw:0<=way)(hs:signs.length=row.length)(hm:∀x∈row,-(2^64)<x/\x<2^64){Q:T->Prop}(q:∀is:List Int,is.length=row.length->(∀(k:Nat) x s,row[(k+way.toNat) % row.length]?=some x->signs[k]?=some s->is[k]?=some (x*s))->Q (pX is)):W1 (cE [pX row,.im (.int way),.li (signs.map .int)]) Q:=by
 apply q5 rfl rfl ?_;unfold cy
 lia
 apply cW (λp:List Int=>[⇑(pX row),↥(.int way),some ⟨.vw none none,.li (signs.map .int)⟩,⇑(.li (p.map .int)),none]) (λj p=>p.length=j/\∀(k:Nat),k<j->∀x s,row[(k+way.toNat) % row.length]?=some x->signs[k]?=some s->p[k]?=some (x*s)) ?_
 lia
 rw[Ge];apply⟨⟨by omega,by omega⟩,[],by cbv,⟨rfl,λk hk=>absurd hk (Kr _)⟩,λj is hj ⟨hl,hx⟩=>?_,λis ⟨hl,hx⟩=>?_⟩
 ·lia
  apply u5 (by simp;omega) ?_
  lia
  rw[Ge];have e1:((j:Int)+way) % (row.length:Int)=(((j+way.toNat) % row.length:Nat):Int):=by
   rw[Int.natCast_emod,Int.natCast_add];congr 1;omega
  rw[e1];have hlt:(j+way.toNat) % row.length<row.length:=IZ _ ⋯;apply sF (ns:=row) ⋯ ⋯ λy hy ey=>?_
  lia
  apply bn (ns:=signs) ⋯ ⋯ λz hz ez=>?_
  lia
  apply u6 (DM (hm y hy).1 (hm y hy).2) ?_
  lia
  apply bL (by simp[hl];rw[LL];omega) ?_
  lia
  apply⟨is++[y*z],?_,by simp[hl],λk hk x s h1 h2=>?_⟩
  ·show _=[_,_,_,_,_];rw[Gq]
   cbv
  ·rcases Nat.lt_succ_iff_lt_or_eq.mp hk with hk|rfl;rw[G7 ⋯];exact hx k hk x s h1 h2
   ·rw[GP]at ey ez;rw[ey]at h1;rw[ez]at h2;cases h1;cases h2;rw[Hu ⋯,hl];simp
 ·lia
  exact q is ⋯ λk x s h1 h2=>hx k (by have:=(Gc.mp h2).1;omega) x s h1 h2
inductive Ru where
 | num (n:Int)|rd (x:Str) (row:List Int)|op (s:Str) (a b:Ru)|cond (a b c:Ru)
abbrev tRu:Ru->I
 | .num n=>.tup [.str "num",.int n]
 | .rd x row=>.tup [.str "at",.str x,.tup (row.map .int)]
 | .op s a b=>.tup [.str "op",.str s,tRu a,tRu b]
 | .cond a b c=>.tup [.str "if",tRu a,tRu b,tRu c]
abbrev Ru.leaves:Ru->List Ru
 | .op _ a b=>a.leaves++b.leaves
 | .cond a b c=>a.leaves++(b.leaves++c.leaves)
 | r=>[r]
abbrev Ru.depth:Ru->Nat
 | .op _ a b=>max a.depth b.depth+1
 | .cond a b c=>max a.depth (max b.depth c.depth)+1
 | _=>0
abbrev pV:List Str:=["+","-","*","min","max","rest","less"]
abbrev Ru.ok:Ru->Prop
 | .op s a b=>s∈pV/\a.ok/\b.ok
 | .cond a b c=>a.ok/\b.ok/\c.ok
 | _=>True
def Ru.depth_lt:∀r:Ru,r.depth<r.leaves.length
 | .num _=>Ks
 | .rd _ _=>Ks
 | .op _ a b=>by have:=a.depth_lt;have:=b.depth_lt;dsimp[Ru.depth,Ru.leaves,Gr];omega
 | .cond a b c=>by have:=a.depth_lt;have:=b.depth_lt;have:=c.depth_lt;dsimp[Ru.depth,Ru.leaves,Gr];omega
def fc{α:Type}{emb : α->I}{ns:List α}{kd:Kd}{a:Int}{QR:R->Prop}(h0:0<=a)(h1:a<ns.length)(q:∀y,ns[a.toNat]?=some y->QR ⟨.ow,.im (emb y)⟩):W1 (ixR ⟨kd,.li (ns.map emb)⟩ (.im (.int a))) QR:=by
 apply uY h0 (by exists h1) λx hx=>?_;rw[Go]at hx;cases e:ns[a.toNat]? with
 | none=>rw[e]at hx;cases hx
 | some y=>rw[e]at hx;cases hx;exact q y e
def uX{α:Type}{emb : α->I}{ns:List α}{kd:Kd}{a:Int}{QR:R->Prop}(h0:0<=a)(h1:a<ns.length)(q:∀y,ns[a.toNat]?=some y->QR ⟨.ow,.im (emb y)⟩):W1 (ixR ⟨kd,.im (.tup (ns.map emb))⟩ (.im (.int a))) QR:=by
 apply u4 h0 (by exists h1) λx hx=>?_;rw[Go]at hx;cases e:ns[a.toNat]? with
 | none=>rw[e]at hx;cases hx
 | some y=>rw[e]at hx;cases hx;exact q y e
def Fk{ct:MT}{s1 s2:MS}{O:Rho}{Q:Fl->Rho->Prop}(M:Bool->Rho->Prop)(h:WT ct O M)(h1:∀O,M true O->WS s1 O Q)(h2:∀O,M false O->WS s2 O Q):WS (mIf ct s1 s2) O Q:=bI (WT.mono h λb O m=>⟨λe=>h1 O (e▸m),λe=>h2 O (e▸m)⟩)
def FL{α:Type}{l:List α}{n:Nat}{a b : α}(ha:l[n]?=some a)(hb:l[n+1]?=some b):l=l.take n++a::b::l.drop (n+2):=by
 obtain⟨h1,e1⟩:=Gc.mp ha;obtain⟨h2,e2⟩:=Gc.mp hb;rw[<-e1,<-e2,HI,HI,Ic]
def FM{α:Type}{l:List α}{n:Nat}{a b c : α}(ha:l[n]?=some a)(hb:l[n+1]?=some b)(hc:l[n+2]?=some c):l=l.take n++a::b::c::l.drop (n+3):=by
 obtain⟨h1,e1⟩:=Gc.mp ha;obtain⟨h2,e2⟩:=Gc.mp hb;obtain⟨h3,e3⟩:=Gc.mp hc;rw[<-e1,<-e2,<-e3,HI,HI,HI,Ic]
def ur{f:Int×Int}{rs:List Ru}(hne:rs≠[])(hl:rs.length<=1000)(hok:∀r∈rs,r.ok){Q:T->T->Prop}(q:∀r f',r.leaves=rs.flatMap Ru.leaves->r.ok->Q (.im (tRu r)) (fT f')):W2 (jn [fT f,.li (rs.map tRu)]) Q:=by
 apply Lh [some ⟨.io 0,fT f⟩,some ⟨.vw none none,.li (rs.map tRu)⟩,none,none,none] rfl rfl rfl ?_;unfold gz
 lia
 apply iX (λs:(Int×Int)×List Ru=>[some ⟨.io 0,fT s.1⟩,some ⟨.vw none none,.li (rs.map tRu)⟩,⇑(.li (s.2.map tRu)),none,none]) (λs=>s.2≠[]/\s.2.length<=1000/\(∀r∈s.2,r.ok)/\s.2.flatMap Ru.leaves=rs.flatMap Ru.leaves) (λs=>s.2.length) (f,rs) (by cbv) ⟨hne,hl,hok,rfl⟩ λs ⟨hne,hl,hok,hfl⟩=>?_;obtain⟨f,cs⟩:=s;dsimp only at hne hl hok hfl|-
 lia
 rw[Ge];clear_value hlen
 ·lia
  rw[Ge];apply aq ⋯ ⋯ λat0 f ha0 ha1=>?_;ac_nf
  lia
  apply Fk (λb O=>∃f:Int×Int,O=[some ⟨.io 0,fT f⟩,some ⟨.vw none none,.li (rs.map tRu)⟩,⇑(.li (cs.map tRu)),↥(.int at0),none]/\(b=true->2<cs.length)) ?_ ?_ ?_
  ·lia
   rw[Ge];clear_value h2
   ·lia
    apply aq ⋯ ⋯ λd f hd0 hd1=>?_;ac_nf
    lia
    exact⟨f,rfl,λ_=>by omega⟩
   ·exact⟨f,rfl,λz=>absurd z (by decide)⟩
  ·rintro O ⟨f,rfl,h2⟩;have h2:=h2 rfl
   lia
   rw[Ge];generalize hat:(if(cs.length:Int)-3<at0 then(cs.length:Int)-3 else at0)=at1;have ha:0<=at1/\at1+3<=cs.length:=by subst hat;split<;>omega
   apply fc (ns:=cs) ha.1 ⋯ λa ea=>?_
   lia
   apply fc (ns:=cs) ⋯ ⋯ λb eb=>?_
   lia
   apply fc (ns:=cs) ⋯ ⋯ λc ec=>?_
   lia
   rw[show(at1+1).toNat=at1.toNat+1 by omega]at eb;rw[show(at1+2).toNat=at1.toNat+2 by omega]at ec;have ecut:=FM ea eb ec;apply⟨[],cs.map tRu,_,_,at1,at1+3,rfl,rfl,rfl,by cbv,⟨ha.1,by omega,by simp;omega,by simp;rw[LL];omega⟩,rfl,rfl,?_⟩;ac_nf
   lia
   apply⟨(f,cs.take at1.toNat++Ru.cond a b c::cs.drop (at1.toNat+3)),?_,?_,by simp,?_,?_,?_⟩
   ·rw[Gq,Gg,Io,Jf,show(at1+3).toNat=at1.toNat+3 by omega,Gx]
    cbv
   ·simp;omega
   ·simp;omega
   ·intro r hr;rcases yaM hr with hr|hr;exact hok r (Hq hr)
    ·rcases ycM hr with rfl|hr;exact⟨hok a (ymG ea),hok b (ymG eb),hok c (ymG ec)⟩;exact hok r (HR hr)
   ·rw[<-hfl]
    conv=>rhs;rw[ecut]
    simp[Ru.leaves]
  ·rintro O ⟨f,rfl,_⟩
   lia
   apply aq ⋯ ⋯ λd f hd0 hd1=>?_;ac_nf
   lia
   apply fc (emb:=I.str) (ns:=pV) hd0 (by simpa[pV]using hd1) λsg esg=>?_
   lia
   apply fc (ns:=cs) ha0 ⋯ λa ea=>?_
   lia
   apply fc (ns:=cs) ⋯ ⋯ λb eb=>?_
   lia
   rw[show(at0+1).toNat=at0.toNat+1 by omega]at eb;have ecut:=FL ea eb;apply⟨[],cs.map tRu,_,_,at0,at0+2,rfl,rfl,rfl,by cbv,⟨ha0,by omega,by simp;omega,by simp;rw[LL];omega⟩,rfl,rfl,?_⟩;ac_nf
   lia
   apply⟨(f,cs.take at0.toNat++Ru.op sg a b::cs.drop (at0.toNat+2)),?_,?_,by simp,?_,?_,?_⟩
   ·rw[Gq,Gg,Io,Jf,show(at0+2).toNat=at0.toNat+2 by omega,Gx]
    cbv
   ·simp;omega
   ·simp;omega
   ·intro r hr;rcases yaM hr with hr|hr;exact hok r (Hq hr)
    ·rcases ycM hr with rfl|hr;exact⟨ymG esg,hok a (ymG ea),hok b (ymG eb)⟩;exact hok r (HR hr)
   ·rw[<-hfl]
    conv=>rhs;rw[ecut]
    simp[Ru.leaves]
 ·lia
  obtain⟨r,rfl⟩:∃r,cs=[r]:=by
   match cs,hne,hlen with
   | [r],_,_=>exact⟨r,rfl⟩
   | _::_::_,_,h=>simp at h;omega
  lia
  exact q r f (by exists hfl) (hok r ∅)
abbrev Ru.kids:Ru->List Ru
 | .op _ a b=>[a,b]
 | .cond a b c=>[a,b,c]
 | _=>[]
abbrev Ru.pre:Ru->List Ru
 | .num n=>[.num n]
 | .rd x row=>[.rd x row]
 | .op s a b=>.op s a b::(a.pre++b.pre)
 | .cond a b c=>.cond a b c::(a.pre++(b.pre++c.pre))
def pK(r:Ru):r.pre=r::r.kids.flatMap Ru.pre:=by cases r<;>simp[Ru.pre,Ru.kids]
def yA(r:Ru):1<=r.pre.length:=by rw[pK];simp
def hJ:∀r:Ru,r.pre.length<2*r.leaves.length
 | .num _=>by simp[Ru.pre,Ru.leaves]
 | .rd _ _=>by simp[Ru.pre,Ru.leaves]
 | .op _ a b=>by have:=hJ a;have:=hJ b;dsimp[Ru.pre,Ru.leaves,Gp,Gr];omega
 | .cond a b c=>by have:=hJ a;have:=hJ b;have:=hJ c;dsimp[Ru.pre,Ru.leaves,Gp,Gr];omega
def uD(r:Ru):r.kids.length<=3:=by cases r<;>simp[Ru.kids]
def ux{r:Ru}{Q:T->Prop}(q:Q (.im (.tup (r.kids.map tRu)))):W1 (df [.im (tRu r)]) Q:=by
 apply KZ [↥(tRu r)] rfl rfl rfl ?_;unfold ca;cases r with
 | num k=>
  rw[tRu]
  lia
  (refine bI ?_;lia;clear_value h)
  ·exact absurd h (by decide +kernel)
  lia
  (refine bI ?_;lia;clear_value h')
  ·exact absurd h' (by decide +kernel)
  lia
  exact q
 | rd x row=>
  rw[tRu]
  lia
  (refine bI ?_;lia;clear_value h)
  ·exact absurd h (by decide +kernel)
  lia
  (refine bI ?_;lia;clear_value h')
  ·exact absurd h' (by decide +kernel)
  lia
  exact q
 | op s a b=>
  rw[tRu]
  lia
  (refine bI ?_;lia;clear_value h)
  ·lia
   apply qR (is:=[.str "op",.str s,tRu a,tRu b]) (show ¬((2:Nat)=0/\4=4) by decide) ?_
   lia
   exact q
  ·exact absurd rfl h
 | cond a b c=>
  rw[tRu]
  lia
  (refine bI ?_;lia;clear_value h)
  ·exact absurd h (by decide +kernel)
  lia
  (refine bI ?_;lia;clear_value h')
  ·lia
   apply qR (is:=[.str "if",tRu a,tRu b,tRu c]) (show ¬((1:Nat)=0/\4=4) by decide) ?_
   lia
   exact q
  ·exact absurd rfl h'
def vb{is:List I}{Q:Bool->Prop}(q:Q (!is.isEmpty)):W1 (tru (.li is)) Q:=w1 rfl q
def vd{r:Ru}(hl:r.leaves.length<=1000){Q:T->Prop}(q:Q (.li (r.pre.map tRu))):W1 (fz [.im (tRu r)]) Q:=by
 have hpre:=hJ r;apply KZ [↥(tRu r),none,none,none] rfl rfl rfl ?_;unfold dA
 lia
 apply iX (λs:List Ru×List Ru=>[↥(tRu r),⇑(.li (s.1.map tRu)),⇑(.li (s.2.map tRu)),none]) (λs=>s.1++s.2.reverse.flatMap Ru.pre=r.pre) (λs=>(s.2.flatMap Ru.pre).length) ([],[r]) (by cbv) ∅ λs hs=>?_;obtain⟨ps,st⟩:=s;dsimp only at hs|-
 lia
 apply vb ?_;apply bsp (λhne=>?_) (λhe=>?_)
 ·obtain⟨st',p,rfl⟩:∃st' p,st=st'++[p]:=by
   rcases List.eq_nil_or_concat st with z|⟨a,b,z⟩;rw[z]at hne;cases hne;exact⟨a,b,by simpa using z⟩
  rw[Gq]at *
  lia
  apply D1 ?_;ac_nf
  lia
  have hlen:=congrArg HN hs;dsimp[JN,Ig,List.reverse_nil,Hy,Gw,Gs,IG,Gy,Gr,GL]at hlen hs;have hk:(st'.reverse.flatMap Ru.pre).length=(st'.flatMap Ru.pre).length:=by simp[JO,IH,Kl]
  have hst:st'.length<=(st'.flatMap Ru.pre).length:=by
   clear hs hne hlen hk
   induction st' with
   | nil=>simp
   | cons a l ih=>rw[Gs,Gp,Gr];have:=yA a;omega
  apply bL (is:=ps.map tRu) (by simp;rw[LL];omega) ?_;ac_nf
  lia
  apply ux ?_
  lia
  have hkid:=uD p;apply uW (is:=st'.map tRu) (js:=(p.kids.map tRu).reverse) (by simp;rw[LL];omega) ?_;ac_nf
  lia
  apply⟨(ps++[p],st'++p.kids.reverse),?_,?_,?_⟩
  ·rw[Gq,Gq,IH]
   cbv
  ·rw[Gw,Gw,Gr,Gr,Gs,IG,Gy,pK p,Gp];have:(p.kids.reverse.flatMap Ru.pre).length=(p.kids.flatMap Ru.pre).length:=by simp[JO,IH,Kl]
   omega
  ·rw[<-hs,JN,List.reverse_reverse,Gw,pK p];simp
 ·have:st=[]:=by cases st<;>first|rfl|cases he
  subst this
  lia
  simp at hs;subst hs;exact q
abbrev tRd(p:Int×List Int):I:=.tup [.int p.1,.tup (p.2.map .int)]
abbrev aH(l:List (Int×List Int)):T:=.li (l.map tRd)
def fg(l:List (Int×List Int))(i:I):aH l ≠ .im i:=by unfold aH;intro z;cases z
def vQ{ls:List (List (Int×List Int))}{n:Nat}{l:List (Int×List Int)}{p:Int×List Int}(h:ls[n]?=some l):T.put (.lst (ls.map aH)) [.ix n] (.li (l.map tRd++[tRd p]))=.lst ((ls.set n (l++[p])).map aH):=by
 rw[vP (u:=aH l) (by rw[Go,h];rfl),Ju];simp[aH]
def xa{O:Rho}{Q:Fl->Rho->Prop}{L X:Nat}{args:MA}{ls:List (List (Int×List Int))}{i:Int}(n:Nat){l:List (Int×List Int)}(hL : O[L]?=some (⇑(.lst (ls.map aH))))(hX : O[X]?=some (↥(.int i)))(hi:i=(n:Int))(hl:ls[n]?=some l)(hz:l.length<1000)(hm:args.mu.contains L=false)
  (ha:WA args O λrs O1=>∃p,rs=[⟨.ow,.im (tRd p)⟩]/\O1[L]?=some (⇑(.lst (ls.map aH)))/\Q .nx ((ao [L] O1).set L (⇑(.lst ((ls.set n (l++[p])).map aH))))):WS (be (b7 L [] apT (mIx (af L) (af X)) args)) O Q:=by
 subst hi;apply qd (xc (w8 (fM hL (fM hX (gu (by cbv) ?_)))));have hl':(ls.map aH)[(n:Int).toNat]?=some (aH l):=by rw[GP,Go,hl];rfl
 apply pI (u:=aH l) (kd:=.vw (some L) (some [.ix (n:Int).toNat])) ⋯ hl' (fg l) rfl ?_;rw[GP];apply WA.mono ha λrs O1 ⟨p,e,hL',q⟩=>?_;subst e;apply gu ?_ (qf rfl (qt (o4 (AE hL' rfl ?_))))
 ·show dq args.mu ⟨.vw (some L) (some [.ix n]),aH l⟩=true;unfold dq;dsimp[Kd.root];rw[hm];rfl
 ·apply bL (is:=l.map tRd) (by simp;rw[LL];omega) ?_;rw[vQ hl];exact q
abbrev Looks(P:Nat->Int×List Int->Prop)(c:Nat)(m:Nat)(ls:List (List (Int×List Int))):Prop:=ls.length=m/\∀x l,ls[x]?=some l->l.length<=c/\∀p∈l,P x p
def Looks.get{P:Nat->Int×List Int->Prop}{c m:Nat}{ls:List (List (Int×List Int))}(h:Looks P c m ls){n:Nat}(hn:n<m):∃l,ls[n]?=some l/\l.length<=c/\∀p∈l,P n p:=by
 have:n<ls.length:=by rw[h.1];exact hn
 exact⟨ls[n],GD this,h.2 n _ (GD this)⟩
def eI{α:Type}{l:List α}{n x:Nat}{a b : α}(h:(l.set n a)[x]?=some b):(n=x/\b=a)\/(n≠x/\l[x]?=some b):=by
 by_cases e:n=x
 ·subst e;have:=(Gc.mp h).1;rw[Hg (by exists this)]at h;cases h;exact .inl ⟨rfl,rfl⟩
 ·rw[GB e]at h;exact .inr ⟨e,h⟩
def Looks.set{P:Nat->Int×List Int->Prop}{c m:Nat}{ls:List (List (Int×List Int))}{n:Nat}{l l':List (Int×List Int)}(h:Looks P c m ls)(hl:ls[n]?=some l)(hn:l'.length<=c)(hp:∀p∈l',P n p):Looks P c m (ls.set n l'):=by
 apply⟨by rw[Iq];exact h.1,λx l' hx=>?_⟩;rcases eI hx with⟨rfl,rfl⟩|⟨_,hx⟩;exact⟨hn,hp⟩;exact h.2 x l' hx
abbrev kT(w m:Int)(p:Int×List Int):Prop:=0<=p.1/\p.1<m/\p.2.length=w.toNat/\∀x∈p.2,-2<=x/\x<=2
def xA{f:Int×Int}{w m:Int}(h1:1<=w)(h2:w<=3)(h3:1<=m)(h4:m<=6){Q:T->T->Prop}(q:∀ls f',Looks (λ_ p=>kT w m p) 3 m.toNat ls->Q (.lst (ls.map aH)) (fT f')):W2 (dO [fT f,.im (.int w),.im (.int m)]) Q:=by
 apply gG rfl rfl ?_;unfold cu
 lia
 apply kR (λ_:Unit=>[some ⟨.io 0,fT f⟩,↥(.int w),↥(.int m),none,none,none]) aH fg (λ_ _ l=>∀x∈l,x=[]) ?_
 lia
 apply⟨⟨by omega,by omega⟩,by cbv,(),by cbv,by simp,λj _ l hj hl=>?_,λ_ l hl hn=>?_⟩
 ·lia
  exact⟨[],(),rfl,by cbv,ba hl rfl⟩
 lia
 apply cW (λs:(Int×Int)×List (List (Int×List Int))=>[some ⟨.io 0,fT s.1⟩,↥(.int w),↥(.int m),⇑(.lst (s.2.map aH)),none,none]) (λj s=>Looks (λ_ p=>kT w m p) 3 m.toNat s.2/\∀y l,j<=y->s.2[y]?=some l->l=[]) ?_
 lia
 apply⟨⟨by omega,by omega⟩,(f,l),by cbv,⟨⟨hn,λx l' hx=>by rw[hl l' (ymG hx)];simp⟩,λy l' _ hx=>hl l' (ymG hx)⟩,λx s hx ⟨hL,hE⟩=>?_,λs ⟨hL,_⟩=>?_⟩
 ·lia
  apply cW (λt:(Int×Int)×List (List (Int×List Int))=>[some ⟨.io 0,fT t.1⟩,↥(.int w),↥(.int m),⇑(.lst (t.2.map aH)),↥(.int x),none]) (λj t=>Looks (λ_ p=>kT w m p) 3 m.toNat t.2/\(∀l,t.2[x]?=some l->l.length<=j)/\∀y l,x+1<=y->t.2[y]?=some l->l=[]) ?_
  lia
  apply aq ⋯ ⋯ λd f hd0 hd1=>?_;ac_nf
  lia
  apply⟨⟨by omega,by omega⟩,(f,s.2),by cbv,⟨hL,λl hl=>by rw[hE x l (Gj _) hl];simp,λy l hy hl=>hE y l ⋯ hl⟩,λj t hj ⟨hL,hc,hE⟩=>?_,λt ⟨hL,_,hE⟩=>by lia;exact⟨t,by cbv,hL,hE⟩⟩;obtain⟨l,hl,hl3,hlP⟩:=hL.get (n:=x) ⋯;iterate 2 infer_instance
  apply xa (ls:=t.2) x rfl rfl rfl hl ⋯ (by cbv) ?_
  lia
  apply aq ⋯ ⋯ λe f he0 he1=>?_;ac_nf
  lia
  apply wE h1 h2 λis f hil hib=>?_;ac_nf
  lia
  have:=hc l hl;apply⟨(e,is),rfl,rfl,?_⟩
  lia
  apply⟨(f,t.2.set x (l++[(e,is)])),by cbv,hL.set hl (by simp;omega) (ba hlP ⟨he0,he1,hil,hib⟩),λl' hl'=>?_,λy l' hy hl'=>?_⟩
  ·rcases eI hl' with⟨_,rfl⟩|⟨z,_⟩;simp;omega;exact absurd rfl z
  ·rcases eI hl' with⟨z,_⟩|⟨_,hl'⟩;omega;exact hE y l' hy hl'
 ·lia
  exact q s.2 s.1 hL
abbrev oS(w m:Int)(x:Nat)(p:Int×List Int):Prop:=kT w m p/\((p.1<x/\∀e∈p.2,e=0) \/ ∃(k:Nat) (y:Int) (r:List Int),p.2=Gh k 0++y::r/\y<0)
def qM{f:Int×Int}{w m:Int}(h1:1<=w)(h2:w<=3)(h3:1<=m)(h4:m<=6){Q:T->T->Prop}(q:∀ls f',Looks (oS w m) 3 m.toNat ls->Q (.lst (ls.map aH)) (fT f')):W2 (cB [fT f,.im (.int w),.im (.int m)]) Q:=by
 apply gG rfl rfl ?_;unfold cv
 lia
 apply kR (λ_:Unit=>[some ⟨.io 0,fT f⟩,↥(.int w),↥(.int m),none,none,none]) aH fg (λ_ _ l=>∀x∈l,x=[]) ?_
 lia
 apply⟨⟨by omega,by omega⟩,by cbv,(),by cbv,by simp,λj _ l hj hl=>?_,λ_ l hl hn=>?_⟩
 ·lia
  exact⟨[],(),rfl,by cbv,ba hl rfl⟩
 lia
 apply cW (λs:(Int×Int)×List (List (Int×List Int))=>[some ⟨.io 0,fT s.1⟩,↥(.int w),↥(.int m),⇑(.lst (s.2.map aH)),none,none]) (λj s=>Looks (oS w m) 3 m.toNat s.2/\∀y l,j<=y->s.2[y]?=some l->l=[]) ?_
 lia
 apply⟨⟨by omega,by omega⟩,(f,l),by cbv,⟨⟨hn,λx l' hx=>by rw[hl l' (ymG hx)];simp⟩,λy l' _ hx=>hl l' (ymG hx)⟩,λx s hx ⟨hL,hE⟩=>?_,λs ⟨hL,_⟩=>?_⟩
 ·lia
  apply cW (λt:(Int×Int)×List (List (Int×List Int))=>[some ⟨.io 0,fT t.1⟩,↥(.int w),↥(.int m),⇑(.lst (t.2.map aH)),↥(.int x),none]) (λj t=>Looks (oS w m) 3 m.toNat t.2/\(∀l,t.2[x]?=some l->l.length<=j)/\∀y l,x+1<=y->t.2[y]?=some l->l=[]) ?_
  lia
  apply aq ⋯ ⋯ λd f hd0 hd1=>?_;ac_nf
  lia
  apply⟨⟨by omega,by omega⟩,(f,s.2),by cbv,⟨hL,λl hl=>by rw[hE x l (Gj _) hl];simp,λy l hy hl=>hE y l ⋯ hl⟩,λj t hj ⟨hL,hc,hE⟩=>?_,λt ⟨hL,_,hE⟩=>by lia;exact⟨t,by cbv,hL,hE⟩⟩;obtain⟨l,hl,hl3,hlP⟩:=hL.get (n:=x) ⋯;have hcl:=hc l hl;have fin:∀(e:Int) (is:List Int) (f:Int×Int),oS w m x (e,is)->Looks (oS w m) 3 m.toNat (t.2.set x (l++[(e,is)]))/\(∀l',(t.2.set x (l++[(e,is)]))[x]?=some l'->l'.length<=j+1)/\∀y l',x+1<=y->(t.2.set x (l++[(e,is)]))[y]?=some l'->l'=[]:=λe is f hP=>by
   apply⟨hL.set hl (by simp;omega) (ba hlP hP),λl' hl'=>?_,λy l' hy hl'=>?_⟩
   ·rcases eI hl' with⟨_,rfl⟩|⟨z,_⟩;simp;omega;exact absurd rfl z
   ·rcases eI hl' with⟨z,_⟩|⟨_,hl'⟩;omega;exact hE y l' hy hl'
  have hback:∀f,WS (be (b7 3 [] apT (mIx (af 3) (af 4)) (ac (ay [] (ac (ak 0 0 aj (aa 0 (aa 2 mNil))) (ac (ak 0 0 dE (aa 0 (aa 1 mNil))) mNil))) mNil))) [some ⟨.io 0,fT f⟩,↥(.int w),↥(.int m),⇑(.lst (t.2.map aH)),↥(.int x),↥(.int j)] λfl O=>fl=.nx/\∃e is f,O=[some ⟨.io 0,fT f⟩,↥(.int w),↥(.int m),⇑(.lst ((t.2.set x (l++[(e,is)])).map aH)),↥(.int x),↥(.int j)]/\oS w m x (e,is):=λf=>by
   apply xa (ls:=t.2) x rfl rfl rfl hl ⋯ (by cbv) ?_
   lia
   apply aq ⋯ ⋯ λe f he0 he1=>?_;ac_nf
   lia
   apply xp h1 h2 λis f hil hib hb=>?_;ac_nf
   lia
   exact⟨(e,is),rfl,rfl,by trivial,e,is,f,by cbv,⟨he0,he1,hil,hib⟩,.inr hb⟩
  have hzero:∀f,(0:Int)<x->WS (be (b7 3 [] apT (mIx (af 3) (af 4)) (ac (ay [] (ac (ak 0 0 aj (aa 0 (aa 4 mNil))) (ac (mOp el (ay [] (ac (mC (.int 0)) mNil)) (af 1)) mNil))) mNil))) [some ⟨.io 0,fT f⟩,↥(.int w),↥(.int m),⇑(.lst (t.2.map aH)),↥(.int x),↥(.int j)] λfl O=>fl=.nx/\∃e is f,O=[some ⟨.io 0,fT f⟩,↥(.int w),↥(.int m),⇑(.lst ((t.2.set x (l++[(e,is)])).map aH)),↥(.int x),↥(.int j)]/\oS w m x (e,is):=λf hx0=>by
   apply xa (ls:=t.2) x rfl rfl rfl hl ⋯ (by cbv) ?_
   lia
   apply aq ⋯ ⋯ λe f he0 he1=>?_;ac_nf
   lia
   apply u8 (is:=[.int 0]) ⟨by simp,by decide,by omega,by omega⟩ ?_;have er:(Gh w.toNat [I.int 0]).flatten=(Gh w.toNat (0:Int)).map .int:=by simp
   rw[er]
   lia
   apply⟨(e,Gh w.toNat 0),rfl,rfl,by trivial,e,_,f,by cbv,⟨he0,by omega,by simp,λy hy=>?_⟩,.inl ⟨he1,λy hy=>(HY.mp hy).2⟩⟩;rw[(HY.mp hy).2];decide
  lia
  (refine bI ?_;lia;clear_value hx0)
  ·lia
   apply aq ⋯ ⋯ λz f hz0 hz1=>?_;ac_nf
   lia
   clear_value hz
   ·apply WS.mono (hzero f hx0) ?_;rintro fl O ⟨rfl,e,is,f,rfl,hP⟩
    lia
    exact⟨(f,_),by cbv,fin e is f hP⟩
   ·apply WS.mono (hback f) ?_;rintro fl O ⟨rfl,e,is,f,rfl,hP⟩
    lia
    exact⟨(f,_),by cbv,fin e is f hP⟩
  ·apply⟨λz=>absurd z (by decide),λ_=>?_⟩;apply WS.mono (hback _) ?_;rintro fl O ⟨rfl,e,is,f,rfl,hP⟩
   lia
   exact⟨(f,_),by cbv,fin e is f hP⟩
 ·lia
  exact q s.2 s.1 hL
def Looks.mono{P:Nat->Int×List Int->Prop}{c c' m:Nat}{ls:List (List (Int×List Int))}(h:Looks P c m ls)(hc:c<=c'):Looks P c' m ls:=⟨h.1,λx l hx=>⟨GV (h.2 x l hx).1 hc,(h.2 x l hx).2⟩⟩
abbrev tTr(p:Int×Int×List Int):I:=.tup [.int p.1,.int p.2.1,.tup (p.2.2.map .int)]
abbrev Fz(w:Int)(p:Int×Int×List Int):Prop:=0<=p.1/\p.1<w/\0<=p.2.1/\p.2.1<w/\p.2.2.length=w.toNat/\∀x∈p.2.2,-2<=x/\x<=2
def qc{row signs:List Int}{way:Int}(h1:1<=row.length)(h2:row.length<=1000)(hw:0<=way)(hs:signs.length=row.length)(hr:∀x∈row,-2<=x/\x<=2)(hg:∀x∈signs,x=1\/x = -1){Q:T->Prop}(q:∀is:List Int,is.length=row.length->(∀x∈is,-2<=x/\x<=2)->(∀(k:Nat) x s,row[(k+way.toNat) % row.length]?=some x->signs[k]?=some s->is[k]?=some (x*s))->Q (pX is)):W1 (cE [pX row,.im (.int way),.li (signs.map .int)]) Q:=by
 apply tN h1 h2 hw hs (λx hx=>by have:=hr x hx;omega) λis hl hi=>q is hl (λy hy=>?_) hi;obtain⟨k,hk⟩:=Ib.mp hy;have hkl:=(Gc.mp hk).1;have hm:(k+way.toNat) % row.length<row.length:=IZ _ ⋯;have e1:row[(k+way.toNat) % row.length]?=some row[(k+way.toNat) % row.length]:=GD hm;have e2:signs[k]?=some signs[k]:=GD ⋯;have e3:=hi k _ _ e1 e2;rw[hk]at e3;have b1:=hr _ (ymG e1);have b2:=hg _ (ymG e2);have:y=row[(k+way.toNat) % row.length]*signs[k]:=by exists e3
 rw[this];rcases b2 with z|z<;>rw[z]<;>omega
def Bu{f:Int×Int}{w m:Int}(h1:2<=w)(h2:w<=3)(h3:w<=m)(h4:m<=6){Q:T->T->Prop}(q:∀ls f',Looks (λ_ p=>kT w m p) 7 m.toNat ls->Q (.lst (ls.map aH)) (fT f')):W2 (cC [fT f,.im (.int w),.im (.int m)]) Q:=by
 apply Lh [some ⟨.io 0,fT f⟩,↥(.int w),↥(.int m),none,none,none,none,none,none,none,none] rfl rfl rfl ?_;unfold bH
 lia
 apply aq ⋯ ⋯ λd1 f a1 b1=>?_;ac_nf
 lia
 apply aq ⋯ ⋯ λd2 f a2 b2=>?_;ac_nf
 lia
 apply aq ⋯ ⋯ λd3 f a3 b3=>?_;ac_nf
 lia
 apply aq ⋯ ⋯ λd4 f a4 b4=>?_;ac_nf
 lia
 apply bL (by simp;rw[LL];omega) ?_;apply qD (As ?_);apply WS.mono (Q:=λfl O=>fl=.nx/\∃(f:Int×Int) (es:List (Int×Int×List Int)),O=[some ⟨.io 0,fT f⟩,↥(.int w),↥(.int m),↥(.int (1+d1)),⇑(.li (es.map tTr)),none,none,none,none,none,none]/\(∀p∈es,Fz w p)/\es.length<=7) ?_ ?_
 ·lia
  (refine bI ?_;lia;clear_value hw)
  ·subst hw
   lia
   apply aq ⋯ ⋯ λd5 f a5 b5=>?_;ac_nf
   lia
   apply aq ⋯ ⋯ λd6 f a6 b6=>?_;ac_nf
   lia
   apply pG (by simp;rw[LL];omega) ?_
   lia
   apply⟨by trivial,f,[(0,0,[0,0,1+d1]),(1,1,[0,0,0-1]),(0,1,[0,0-1,0]),(1,0,[0,0,d5]),(2,2,[0,1+d6,0]),(0,2,[0-1,0,1]),(2,0,[0,0,0])],by cbv,?_,by simp⟩;dsimp[Hs,II,or_false];rintro p (rfl|rfl|rfl|rfl|rfl|rfl|rfl)<;>(refine⟨by simp,by simp,by simp,by simp,rfl,?_⟩;dsimp[Hs,II,or_false];omega)
  ·have hw2:w=2:=by omega
   subst hw2
   lia
   apply⟨by trivial,f,[(0,0,[0,1+d1]),(1,1,[0,0-1-d2]),(0,1,[0-1,d3-1]),(1,0,[0-d4,0])],by cbv,?_,by simp⟩;dsimp[Hs,II,or_false];rintro p (rfl|rfl|rfl|rfl)<;>(refine⟨by simp,by simp,by simp,by simp,rfl,?_⟩;dsimp[Hs,II,or_false];omega)
 rintro fl O ⟨rfl,f,es,rfl,hes,hel⟩
 lia
 apply aq ⋯ ⋯ λway f aw bw=>?_;ac_nf
 lia
 apply fj (λf:Int×Int=>[some ⟨.io 0,fT f⟩,↥(.int w),↥(.int m),↥(.int (1+d1)),⇑(.li (es.map tTr)),none,none,none,none,none,none]) I.int (λj _ l=>l.length=j/\∀x∈l,x=1\/x = -1) ?_
 lia
 apply⟨⟨by omega,by omega⟩,by cbv,f,by cbv,⟨rfl,by simp⟩,λj f l hj ⟨hl,hx⟩=>?_,λf signs ⟨hsl,hsx⟩=>?_⟩
 ·lia
  apply aq ⋯ ⋯ λd f hd0 hd1=>?_;ac_nf
  lia
  exact⟨1-2*d,f,rfl,by cbv,by simp[hl],ba hx ⋯⟩
 lia
 apply kR (λ_:Unit=>[some ⟨.io 0,fT f⟩,↥(.int w),↥(.int m),↥(.int (1+d1)),⇑(.li (es.map tTr)),↥(.int way),⇑(.li (signs.map .int)),none,none,none,none]) aH fg (λ_ _ l=>∀x∈l,x=[]) ?_
 lia
 apply⟨⟨by omega,by omega⟩,by cbv,(),by cbv,by simp,λj _ l hj hl=>?_,λ_ l hl hn=>?_⟩
 ·lia
  exact⟨[],(),rfl,by cbv,ba hl rfl⟩
 lia
 apply cK (λt:List (List (Int×List Int))=>[some ⟨.io 0,fT f⟩,↥(.int w),↥(.int m),↥(.int (1+d1)),⇑(.li (es.map tTr)),↥(.int way),⇑(.li (signs.map .int)),⇑(.lst (t.map aH)),none,none,none]) (λj t=>Looks (λ_ p=>kT w m p) j m.toNat t/\∀y l,3<=y->t[y]?=some l->l=[]) ?_
 lia
 apply⟨_,(show eM _=some ((es.map tTr).map _)from rfl),by cbv,l,by cbv,⟨⟨hn,λx l' hx=>by rw[hl l' (ymG hx)];simp⟩,λy l' _ hx=>hl l' (ymG hx)⟩,λj x t hx ⟨hL,hE⟩=>?_,λt ⟨hL,hE⟩=>?_⟩
 ·rw[Go]at hx;cases e:es[j]? with
  | none=>rw[e]at hx;cases hx
  | some p=>
   rw[e]at hx;cases hx;obtain⟨x,o,row⟩:=p;have hp:=hes _ (ymG e);obtain⟨p1,p2,p3,p4,p5,p6⟩:=hp;simp only at p1 p2 p3 p4 p5 p6;have hj:=(Gc.mp e).1;obtain⟨l,hl,hl3,hlP⟩:=hL.get (n:=x.toNat) ⋯;iterate 9 infer_instance
   apply xa (ls:=t) x.toNat rfl rfl ⋯ hl ⋯ (by cbv) ?_
   lia
   apply qc (row:=row) (signs:=signs) ⋯ ⋯ aw ⋯ p6 hsx λis hil hib _=>?_
   lia
   apply⟨(o,is),rfl,rfl,?_⟩
   lia
   apply⟨t.set x.toNat (l++[(o,is)]),by cbv,(hL.mono (I8 j)).set hl (by simp;omega) (ba hlP ⟨p3,(by omega:o<m),hil.trans p5,hib⟩),λy l' hy hl'=>?_⟩;rcases eI hl' with⟨z,_⟩|⟨_,hl'⟩;omega;exact hE y l' hy hl'
 ·lia
  apply wZ (λs:(Int×Int)×List (List (Int×List Int))=>[some ⟨.io 0,fT s.1⟩,↥(.int w),↥(.int m),↥(.int (1+d1)),⇑(.li (es.map tTr)),↥(.int way),⇑(.li (signs.map .int)),⇑(.lst (s.2.map aH)),none,none,none]) (λj s=>Looks (λ_ p=>kT w m p) 7 m.toNat s.2/\∀y l,3+j<=y->s.2[y]?=some l->l=[]) ?_
  lia
  rw[Ge]at hL;apply⟨⟨by omega,by omega,by omega,by omega⟩,(f,t),by cbv,⟨hL.mono hel,λy l' hy hl'=>hE y l' ⋯ hl'⟩,λj s hj ⟨hL,hE⟩=>?_,λs ⟨hL,_⟩=>?_⟩
  ·obtain⟨l,hl,hl3,hlP⟩:=hL.get (n:=3+j) ⋯;have hl0:=hE _ l (Gj _) hl;iterate 2 infer_instance
   apply xa (ls:=s.2) (3+j) rfl rfl ⋯ hl ⋯ (by cbv) ?_
   lia
   apply aq ⋯ ⋯ λe f he0 he1=>?_;ac_nf
   lia
   apply wE ⋯ h2 λis f hil hib=>?_;ac_nf
   lia
   apply⟨(e,is),rfl,rfl,?_⟩
   lia
   apply⟨(f,s.2.set (3+j) (l++[(e,is)])),by cbv,hL.set hl (by simp[hl0]) (ba hlP ⟨he0,(by omega:e<m),hil,hib⟩),λy l' hy hl'=>?_⟩;rcases eI hl' with⟨z,_⟩|⟨_,hl'⟩;omega;exact hE y l' ⋯ hl'
  ·lia
   exact q s.2 s.1 hL
def sR{ls:List (List (Int×List Int))}{n:Nat}{l:List (Int×List Int)}{p:Int×List Int}(h:ls[n]?=some l):T.put (.lst (ls.map aH)) [.ix n] (.li (tRd p::l.map tRd))=.lst ((ls.set n (p::l)).map aH):=by
 rw[vP (u:=aH l) (by rw[Go,h];rfl),Ju];simp[aH]
def Fm{O:Rho}{Q:Fl->Rho->Prop}{L X:Nat}{args:MA}{ls:List (List (Int×List Int))}{i:Int}(n:Nat){l:List (Int×List Int)}(hL : O[L]?=some (⇑(.lst (ls.map aH))))(hX : O[X]?=some (↥(.int i)))(hi:i=(n:Int))(hl:ls[n]?=some l)(hz:l.length<1000)(hm:args.mu.contains L=false)
  (ha:WA args O λrs O1=>∃p,rs=[⟨.ow,.im (.int 0)⟩,⟨.ow,.im (tRd p)⟩]/\O1[L]?=some (⇑(.lst (ls.map aH)))/\Q .nx ((ao [L] O1).set L (⇑(.lst ((ls.set n (p::l)).map aH))))):WS (be (b7 L [] mD (mIx (af L) (af X)) args)) O Q:=by
 subst hi;apply qd (xc (w8 (fM hL (fM hX (gu (by cbv) ?_)))));have hl':(ls.map aH)[(n:Int).toNat]?=some (aH l):=by rw[GP,Go,hl];rfl
 apply pI (u:=aH l) (kd:=.vw (some L) (some [.ix (n:Int).toNat])) ⋯ hl' (fg l) rfl ?_;rw[GP];apply WA.mono ha λrs O1 ⟨p,e,hL',q⟩=>?_;subst e;apply gu ?_ (qf rfl (qt (qt (o4 (AE hL' rfl ?_)))))
 ·show dq args.mu ⟨.vw (some L) (some [.ix n]),aH l⟩=true;unfold dq;dsimp[Kd.root];rw[hm];rfl
 ·apply zZ (is:=l.map tRd) ⟨by omega,by simp,by simp;rw[LL];omega⟩ ?_;show Q _ (List.set _ _ (some ⟨_,T.put _ _ (.li (tRd p::l.map tRd))⟩));rw[sR hl];exact q
abbrev RR(rest row:List Int):Prop:=row.length=rest.length/\∀(i:Nat) y r,row[i]?=some y->rest[i]?=some r->-2<=y/\y<=2/\-2<=r+y/\r+y<=2
def zr{f:Int×Int}{w m:Int}(h1:1<=w)(h2:w<=3)(h3:1<=m)(h4:m<=6){Q:T->T->Prop}(q:∀ls f',Looks (λ_ p=>kT w m p) 4 m.toNat ls->Q (.lst (ls.map aH)) (fT f')):W2 (dP [fT f,.im (.int w),.im (.int m)]) Q:=by
 apply Lh [some ⟨.io 0,fT f⟩,↥(.int w),↥(.int m),none,none,none,none,none] rfl rfl rfl ?_;unfold cw
 lia
 apply qM h1 h2 h3 h4 λls f hLs=>?_;ac_nf
 lia
 apply aq ⋯ ⋯ λd f hd0 hd1=>?_;ac_nf
 lia
 apply u7 (is:=[.int 0]) ⟨by omega,by omega,by simp;rw[LL];omega⟩ ?_;have er:(Gh w.toNat [I.int 0]).flatten=(Gh w.toNat (0:Int)).map .int:=by simp
 rw[er]
 lia
 apply cW (λs:(Int×Int)×List (List (Int×List Int))×List Int=>[some ⟨.io 0,fT s.1⟩,↥(.int w),↥(.int m),⇑(.lst (s.2.1.map aH)),↥(.int (1+d)),⇑(.li (s.2.2.map .int)),none,none]) (λj s=>Looks (λ_ p=>kT w m p) 4 m.toNat s.2.1/\(∀y l,j<=y->s.2.1[y]?=some l->l.length<=3)/\s.2.2.length=w.toNat/\∀x∈s.2.2,-2<=x/\x<=2) ?_
 lia
 apply⟨⟨by omega,by omega⟩,(f,ls,Gh w.toNat 0),by cbv,⟨⟨hLs.1,λx l hx=>⟨by have:=(hLs.2 x l hx).1;omega,λp hp=>((hLs.2 x l hx).2 p hp).1⟩⟩,λy l _ hx=>(hLs.2 y l hx).1,by simp,λx hx=>by rw[(HY.mp hx).2];decide⟩,λk s hk ⟨hL,hE,hrl,hrb⟩=>?_,λs ⟨hL,_⟩=>?_⟩
 ·obtain⟨f,ls,rest⟩:=s;simp only at hL hE hrl hrb;obtain⟨l,hl,hl4,hlP⟩:=hL.get (n:=k) ⋯;have hl3:=hE k l (Gj _) hl
  lia
  apply fj (λf:Int×Int=>[some ⟨.io 0,fT f⟩,↥(.int w),↥(.int m),⇑(.lst (ls.map aH)),↥(.int (1+d)),⇑(.li (rest.map .int)),↥(.int k),none]) I.int (λj _ l=>l.length=j/\∀x∈l,-1<=x/\x<=1) ?_
  lia
  apply⟨⟨by omega,by omega⟩,by cbv,f,by cbv,⟨rfl,by simp⟩,λj f l hj ⟨hl,hx⟩=>?_,λf r1 ⟨hl1,hx1⟩=>?_⟩
  ·lia
   apply aq ⋯ ⋯ λd f hd0 hd1=>?_;ac_nf
   lia
   exact⟨d-1,f,rfl,by cbv,by simp[hl],ba hx ⋯⟩
  lia
  apply fj (λ_:Unit=>[some ⟨.io 0,fT f⟩,↥(.int w),↥(.int m),⇑(.lst (ls.map aH)),↥(.int (1+d)),⇑(.li (rest.map .int)),↥(.int k),⇑(.li (r1.map .int))]) I.int (λj _ l=>l.length=j/\∀(i:Nat) y r,l[i]?=some y->rest[i]?=some r->-2<=y/\y<=2/\-2<=r+y/\r+y<=2) ?_
  lia
  apply⟨⟨by omega,by omega⟩,by cbv,(),by cbv,⟨rfl,by simp⟩,λj _ l hj ⟨hl,hx⟩=>?_,λ_ r2 ⟨hl2,hx2⟩=>?_⟩
  ·lia
   apply bn (ns:=rest) ⋯ ⋯ λr hr er=>?_
   lia
   apply bn (ns:=r1) ⋯ ⋯ λy hy ey=>?_
   lia
   apply bn (ns:=rest) ⋯ ⋯ λr' hr' er'=>?_;rw[er]at er';cases er'
   lia
   have b1:=hrb r hr;have b2:=hx1 y hy;apply⟨_,(),rfl,by cbv,by simp[hl],λi y' r' hy' hr'=>?_⟩;by_cases hij:i<l.length
   ·rw[G7 hij]at hy';exact hx i y' r' hy' hr'
   ·have:=(Gc.mp hy').1;simp at this;have hie:i=j:=by omega
    subst hie;rw[Hu ⋯]at hy';simp[hl]at hy';rw[GP]at er;rw[er]at hr';cases hr';subst hy';split<;>split<;>omega
  lia
  apply WS.mono (Q:=λfl O=>fl=.nx/\∃r3:List Int,O=[some ⟨.io 0,fT f⟩,↥(.int w),↥(.int m),⇑(.lst (ls.map aH)),↥(.int (1+d)),⇑(.li (rest.map .int)),↥(.int k),⇑(.li (KR .int r3))]/\RR rest r3) ?_ ?_
  ·(refine bI ?_;lia;clear_value hlast)
   ·lia
    apply dX (λ_:Unit=>[some ⟨.io 0,fT f⟩,↥(.int w),↥(.int m),⇑(.lst (ls.map aH)),↥(.int (1+d)),⇑(.li (rest.map .int)),↥(.int k),⇑(.li (r2.map .int))]) I.int (λj _ l=>l.length=j/\∀(i:Nat) y r,l[i]?=some y->rest[i]?=some r->y = -r) ?_
    lia
    apply⟨rest.map .int,rfl,by simp;rw[LL];omega,by cbv,(),by cbv,⟨rfl,by simp⟩,λj x _ l hx ⟨hl,hq⟩=>?_,λ_ r3 ⟨hl3',hq3⟩=>?_⟩
    ·rw[Go]at hx;cases e:rest[j]? with
     | none=>rw[e]at hx;cases hx
     | some r=>
      rw[e]at hx;cases hx
      lia
      apply⟨0-r,(),rfl,by cbv,by simp[hl],λi y' r' hy' hr'=>?_⟩;by_cases hij:i<l.length
      ·rw[G7 hij]at hy';exact hq i y' r' hy' hr'
      ·have:=(Gc.mp hy').1;simp at this;have hie:i=j:=by omega
       subst hie;rw[Hu ⋯]at hy';simp[hl]at hy';rw[e]at hr';cases hr';omega
    ·lia
     apply⟨by trivial,r3,by cbv,by simpa using hl3',λi y r hy hr=>?_⟩;have:=hq3 i y r hy hr;have:=hrb r (ymG hr);omega
   ·lia
    exact⟨by trivial,r2,by cbv,by omega,hx2⟩
  ·rintro fl O ⟨rfl,r3,rfl,hr3l,hr3⟩
   lia
   apply fj (λ_:Unit=>[some ⟨.io 0,fT f⟩,↥(.int w),↥(.int m),⇑(.lst (ls.map aH)),↥(.int (1+d)),⇑(.li (rest.map .int)),↥(.int k),⇑(.li (r3.map .int))]) I.int (λj _ l=>l.length=j/\∀x∈l,-2<=x/\x<=2) ?_
   lia
   apply⟨⟨by omega,by omega⟩,by cbv,(),by cbv,⟨rfl,by simp⟩,λj _ l hj ⟨hl,hx⟩=>?_,λ_ r4 ⟨hl4,hx4⟩=>?_⟩
   ·lia
    apply bn (ns:=rest) ⋯ ⋯ λr hr er=>?_
    lia
    apply bn (ns:=r3) ⋯ ⋯ λy hy ey=>?_
    lia
    have:=hr3 _ y r ey er;exact⟨r+y,(),rfl,by cbv,by simp[hl],ba hx ⋯⟩
   iterate 2 infer_instance
   apply Fm (ls:=ls) k rfl rfl rfl hl ⋯ (by cbv) ?_
   lia
   have hkm:((k:Int)+1) % (1+d)<m:=by have:=HK ((k:Int)+1) (show 0<1+d by omega);omega
   have hk0:0<=((k:Int)+1) % (1+d):=Ia _ ⋯;apply⟨(((k:Int)+1) % (1+d),r3),rfl,rfl,?_⟩
   lia
   apply⟨(f,ls.set k ((((k:Int)+1) % (1+d),r3)::l),r4),by cbv,hL.set hl (by simp;omega) (λp hp=>?_),λy l' hy hl'=>?_,by omega,hx4⟩
   ·rcases ycM hp with rfl|hp
    ·apply⟨hk0,hkm,by simpa[hrl]using hr3l,λx hx=>?_⟩;obtain⟨i,hi⟩:=Ib.mp hx;have hil:=(Gc.mp hi).1;have:i<rest.length:=by simp only at hil;omega
     have:=hr3 i x _ hi (GD this);omega
    ·exact hlP p hp
   ·rcases eI hl' with⟨z,_⟩|⟨_,hl'⟩;omega;exact hE y l' ⋯ hl'
 ·lia
  exact q s.2.1 s.1 hL
def Looks.imp{P P':Nat->Int×List Int->Prop}{c c' m:Nat}{ls:List (List (Int×List Int))}(h:Looks P c m ls)(hc:c<=c')(hp:∀x p,P x p->P' x p):Looks P' c' m ls:=⟨h.1,λx l hx=>⟨GV (h.2 x l hx).1 hc,λp hm=>hp x p ((h.2 x l hx).2 p hm)⟩⟩
def wl{f:Int×Int}{Q:T->T->Prop}(q:∀(w m:Int) ls f',1<=w->w<=3->1<=m->m<=6->Looks (λ_ p=>kT w m p) 7 m.toNat ls->Q (.tup [.im (.int w),.lst (ls.map aH)]) (fT f')):W2 (jq [fT f]) Q:=by
 apply Lh [some ⟨.io 0,fT f⟩,none,none,none,none] rfl rfl rfl ?_;unfold gC
 lia
 apply aq ⋯ ⋯ λform f hf0 hf1=>?_;ac_nf
 lia
 apply aq ⋯ ⋯ λwide f hw0 hw1=>?_;ac_nf
 lia
 try ac_nf
 apply bn (ns:=[1,2,2,2,2,1,2,3]) (Ia _ ⋯) (by have:=HK wide (show(0:Int)<8 by omega);exists this) λw hw _=>?_;have hw13:1<=w/\w<=3:=by simp at hw;omega
 lia
 apply bn (ns:=[3,6]) ⋯ (by simp;omega) λmm hmm _=>?_;have hmm':3<=mm/\mm<=6:=by simp at hmm;omega
 lia
 apply aq ⋯ ⋯ λd f hd0 hd1=>?_;ac_nf
 lia
 (refine bI ?_;lia;clear_value h1)
 ·lia
  apply xA hw13.1 hw13.2 ⋯ ⋯ λls f hL=>?_;ac_nf
  lia
  exact q w (1+d) ls f hw13.1 hw13.2 ⋯ ⋯ (hL.mono ⋯)
 lia
 (refine bI ?_;lia;clear_value h2)
 ·lia
  apply qM hw13.1 hw13.2 ⋯ ⋯ λls f hL=>?_;ac_nf
  lia
  exact q w (1+d) ls f hw13.1 hw13.2 ⋯ ⋯ (hL.imp ⋯ λx p hp=>hp.1)
 lia
 (refine bI ?_;lia;clear_value h3)
 ·lia
  apply zr hw13.1 hw13.2 ⋯ ⋯ λls f hL=>?_;ac_nf
  lia
  exact q w (1+d) ls f hw13.1 hw13.2 ⋯ ⋯ (hL.mono ⋯)
 lia
 try ac_nf
 apply Bu (by split<;>omega) (by split<;>omega) (by split<;>split<;>split<;>omega) (by split<;>split<;>split<;>omega) λls f hL=>?_;ac_nf
 lia
 exact q _ _ ls f (by split<;>omega) (by split<;>omega) (by split<;>split<;>split<;>omega) (by split<;>split<;>split<;>omega) hL
abbrev Lr:List Str:=["min","max","rest","less","if"]
abbrev nmB(S:List Nat) (a:Nat) (ch k:Nat):List Nat:=S.take a++ch::S.drop a++(if k % 2=1 then [113]else [])
abbrev nmS(S:List Nat) (a:Nat) (ch k:Nat):Str:=if oL (nmB S a ch k)∈Lr then oL (nmB S a ch k++[119])else oL (nmB S a ch k)
def FV:113∈sL LET:=by decide +kernel
def F7:119∈sL LET:=by decide +kernel
def xl:∀i<26,∀j<26,(sL LET).getD i 0=(sL LET).getD j 0->i=j:=by decide +kernel
def AR:∀z∈Lr,oL (sL z++[119])∉Lr:=by decide +kernel
def eG{S:List Nat}{a ch k:Nat}:(nmB S a ch k).length=S.length+1+k % 2:=by
 unfold nmB;have h:k % 2=0\/k % 2=1:=by omega
 rw[Gr,Gr,Gp,GZ,Hm];rcases h with h|h<;>simp[h]<;>omega
def Be{S:List Nat}{a ch k:Nat}(hS:∀c∈S,c∈sL LET)(hc:ch∈sL LET):∀c∈nmB S a ch k,c∈sL LET:=λc h=>by
 unfold nmB at h;rcases yaM h with h|h
 ·rcases yaM h with h|h;exact hS c (Hq h)
  ·rcases ycM h with rfl|h;exact hc;exact hS c (HR h)
 ·split at h;rw[ysM h];exact FV;cases h
def qP{S:List Nat}{a ch ch' k k':Nat}(h:nmB S a ch k=nmB S a ch' k'):ch=ch'/\k % 2=k' % 2:=by
 have hl:=congrArg HN h;rw[eG,eG]at hl;have hk:k % 2=k' % 2:=by omega
 apply⟨?_,hk⟩;unfold nmB at h;rw[hk]at h;have h2:=Jg h;have h3:=List.append_cancel_left h2;exact(HD.inj h3).1
def nO{S:List Nat}{a ch k:Nat}(hk:k % 2=1):(nmB S a ch k).getLast?=some 113:=by
 unfold nmB;rw[if_pos hk,IN];rfl
def mN{x y:List Nat}(h:oL x=oL y):x=y:=congrArg sL h
def yd{S:List Nat}{a ch ch' k k':Nat}(h:nmS S a ch k=nmS S a ch' k'):ch=ch'/\k % 2=k' % 2:=by
 unfold nmS at h;split at h<;>split at h;exact qP (Jg (mN h))
 ·have h':=mN h;have hl:=congrArg HN h';rw[Gr,eG,eG]at hl;have hk:k' % 2=1:=by simp at hl;omega
  have:=nO (S:=S) (a:=a) (ch:=ch') hk;rw[<-h',IN]at this;cases this
 ·have h':=mN h;have hl:=congrArg HN h';rw[Gr,eG,eG]at hl;have hk:k % 2=1:=by simp at hl;omega
  have:=nO (S:=S) (a:=a) (ch:=ch) hk;rw[h',IN]at this;cases this
 ·exact qP (mN h)
abbrev jW(z:Str):Prop:=1<=z.length/\z.length<=8/\z∉Lr/\∀c∈sL z,c∈sL LET
def Bf{S:List Nat}{a ch k:Nat}(hS:∀c∈S,c∈sL LET)(hc:ch∈sL LET)(hl:S.length<=5):jW (nmS S a ch k):=by
 have hb:=Be (a:=a) (k:=k) hS hc;have hlen:=eG (S:=S) (a:=a) (ch:=ch) (k:=k);unfold jW nmS;split
 ·delta c;have h1:(oL (nmB S a ch k++[119])).length=S.length+1+k % 2+1:=by rw[eR,dU,Gr,hlen];rfl
  apply⟨by omega,by omega,AR _ c,λx hx=>?_⟩;rw[dU]at hx;rcases yaM hx with h|h;exact hb x h;rw[ysM h];exact F7
 ·delta c;have h1:(oL (nmB S a ch k)).length=S.length+1+k % 2:=by rw[eR,dU,hlen]
  exact⟨by omega,by omega,c,λx hx=>hb x (by rwa [dU]at hx)⟩
def ug{α:Type}{xs:List α}{n:Nat}(h:n<=xs.length):ci xs none (some (n:Int))=xs.take n:=by
 unfold ci;rw[HT.sIx_none,HT.sIx_nat,JA h];simp
def ny{α:Type}{xs:List α}{n:Nat}(h:n<=xs.length):ci xs (some (n:Int)) none=xs.drop n:=by
 unfold ci;rw[HT.sIx_none,HT.sIx_nat,JA h];exact GE (by rw[Hm];exact Gj _)
def lQ:∀{zs:List Str},oE (zs.map I.str)=some zs
 | []=>rfl
 | z::zs=>by rw[Gg,oE,lQ];rfl
def Bz{z:Str}{zs:List Str}{QT1:T->Prop}(h:(zs.map (·.length)).sum+zs.length*z.length<=16777216)(q:QT1 (.im (.str (Nq z zs)))):W1 (ki (.im (.str z)) [.li (zs.map .str)]) QT1:=w1 (by dsimp[ki,lQ];rw[if_pos h]) q
def pF{β:Type}{g:Nat->β}{n:Nat}(hf:∀x<n,∀y<n,g x=g y->x=y):((Gz n).map g).Nodup:=jj List.nodup_range λx hx y hy e=>hf x (GU.mp hx) y (GU.mp hy) e
abbrev ga(S:List Nat) (a fn m:Nat):List Str:=(Gz m).map λk=>nmS S a ((sL LET).getD ((fn+5*k) % 26) 0) k
def qh{i:Nat}(h:i<26):(sL LET)[i]?=some ((sL LET).getD i 0):=by
 rw[GC,GD (by rw[l0];exact h)];rfl
def uT{S:List Nat}{a fn m:Nat}(hS:∀c∈S,c∈sL LET)(hl:S.length<=5)(hm:m<=6):(ga S a fn m).length=m/\(ga S a fn m).Nodup/\∀z∈ga S a fn m,jW z:=by
 apply⟨by simp[ga],pF λx hx y hy e=>?_,λz hz=>?_⟩
 ·have:=xl _ (IZ _ (by decide)) _ (IZ _ (by decide)) (yd e).1;omega
 ·obtain⟨k,hk,rfl⟩:=Gn.mp hz;exact Bf hS (ymG (qh (IZ _ (by decide)))) hl
def uS{f:Int×Int}{m:Int}(h1:0<=m)(h2:m<=6){Q:T->T->Prop}(q:∀(zs:List Str) f',zs.length=m.toNat->zs.Nodup->(∀z∈zs,jW z)->Q (.li (zs.map .str)) (fT f')):W2 (jp [fT f,.im (.int m)]) Q:=by
 apply Lh [some ⟨.io 0,fT f⟩,↥(.int m),none,none,none,none,none,none,none] rfl rfl rfl ?_;unfold gB
 lia
 apply fj (λf:Int×Int=>[some ⟨.io 0,fT f⟩,↥(.int m),↥(.str LET),none,none,none,none,none,none]) I.str (λj _ l=>l.length=j/\∀z∈l,∃ch,ch∈sL LET/\z=⟨#[ch]⟩) ?_
 lia
 apply aq ⋯ ⋯ λd f hd0 hd1=>?_;ac_nf
 lia
 apply⟨⟨by omega,by omega⟩,by cbv,f,by cbv,⟨rfl,by simp⟩,λj f l hj ⟨hl,hx⟩=>?_,λf zs ⟨hl,hx⟩=>?_⟩
 ·lia
  apply aq ⋯ ⋯ λd f hd0 hd1=>?_;ac_nf
  lia
  apply uZ (s:=LET) (by rw[LET_len',LL];omega) hd0 (by rw[l0];exact hd1) λc hc=>?_;exact⟨⟨#[c]⟩,f,rfl,by cbv,by simp[hl],ba hx ⟨c,ymG hc,rfl⟩⟩
 lia
 have sum1:∀zs:List Str,(∀z∈zs,∃ch,ch∈sL LET/\z=⟨#[ch]⟩)->(zs.map (·.length)).sum=zs.length:=λzs h=>by
  induction zs with
  | nil=>rfl
  | cons z zs ih=>
   obtain⟨ch,_,e⟩:=h z ymS;rw[Gg,List.sum_cons,ih λy hy=>h y (ymC _ hy),Gp,e];show 1+zs.length=_;omega
 have e0:("" : Str)=oL []:=by decide +kernel
 have e1:(("" : Str)).length=0:=by decide +kernel
 apply Bz (zs:=zs) (by rw[sum1 zs hx,e1];omega) ?_;have hst:sL (Nq "" zs)=(zs.map sL).flatten:=by rw[e0];exact rZ zs
 have hSl:(sL (Nq "" zs)).length<=5:=by
  rw[hst,List.length_flatten,Hf];have:(zs.map (HN∘sL)).sum=zs.length:=by rw[<-sum1 zs hx];congr 1
  omega
 have hS:∀c∈sL (Nq "" zs),c∈sL LET:=λc hc=>by
  rw[hst]at hc;obtain⟨l,hl',hc⟩:=Kh.mp hc;obtain⟨z,hz,rfl⟩:=Gn.mp hl';obtain⟨ch,hch,rfl⟩:=hx z hz;have:c=ch:=by exists hc
  rw[this];exact hch
 generalize Nq "" zs=stem at *;have hst5:stem.length<=5:=by rw[eR];exact hSl
 have hlc:∀l:List Nat,(oL l).length=l.length:=λl=>by rw[eR,dU]
 lia
 apply aq ⋯ ⋯ λfi f hf0 hf1=>?_;ac_nf
 lia
 apply BB (by rw[LL];omega) ?_
 lia
 apply aq ⋯ ⋯ λat0 f ha0 ha1=>?_;ac_nf
 lia
 obtain⟨a,rfl⟩:∃a:Nat,at0=(a:Int):=⟨at0.toNat,by omega⟩;obtain⟨fn,rfl⟩:∃a:Nat,fi=(a:Int):=⟨fi.toNat,by omega⟩;have ha5:a<=(sL stem).length:=by rw[<-eR];omega
 try ac_nf
 lia
 apply cW (λk:Nat=>[some ⟨.io 0,fT f⟩,↥(.int m),↥(.str LET),↥(.str stem),↥(.int fn),↥(.int a),⇑(.li ((ga (sL stem) a fn k).map .str)),none,none]) (λj k=>k=j) ?_
 lia
 apply⟨⟨by omega,by omega⟩,0,by cbv,rfl,λi k hi hk=>?_,λk hk=>?_⟩
 ·subst hk;have hidx:((fn:Int)+5*(k:Int)) % 26=(((fn+5*k) % 26:Nat):Int):=by omega
  have hilt:(fn+5*k) % 26<26:=IZ _ (by decide);have hche:=qh hilt;have hne:ga (sL stem) a fn (k+1)=ga (sL stem) a fn k++[nmS (sL stem) a ((sL LET).getD ((fn+5*k) % 26) 0) k]:=by simp[ga,Kt]
  generalize (sL LET).getD ((fn+5*k) % 26) 0=ch at hche hne
  lia
  apply Aa (by rw[LL];omega) ?_;rw[ug ha5]
  lia
  rw[hidx];apply uZ (s:=LET) (by rw[LET_len',LL];omega) ⋯ (by rw[l0];omega) λc hc=>?_;rw[GP,hche]at hc;cases hc
  lia
  apply mO (by rw[hlc,GZ,LL];show _+1<=_;omega) ?_
  lia
  apply Aa (by rw[LL];omega) ?_;rw[ny ha5]
  lia
  apply mO (by rw[eR,kK,dU,hlc,LL,Gr,GZ,Hm];show _+1+_<=_;omega) ?_;have en:(oL ((sL stem).take a)++(⟨#[ch]⟩:Str))++oL ((sL stem).drop a)=oL ((sL stem).take a++ch::(sL stem).drop a):=by
   apply m9;rw[kK,kK,dU,dU,dU];simp
  rw[en]
  lia
  apply WS.mono (Q:=λfl O=>fl=.nx/\O=[some ⟨.io 0,fT f⟩,↥(.int m),↥(.str LET),↥(.str stem),↥(.int fn),↥(.int a),⇑(.li ((ga (sL stem) a fn k).map .str)),↥(.int k),↥(.str (oL (nmB (sL stem) a ch k)))]) ?_ ?_
  ·(refine bI ?_;lia;clear_value hk2)
   ·lia
    apply mO (by rw[hlc,Gr,Gp,GZ,Hm,LL];show _+1<=_;omega) ?_;have eq:oL ((sL stem).take a++ch::(sL stem).drop a)++("q" : Str)=oL (nmB (sL stem) a ch k):=by
     apply m9;rw[kK,dU,dU];unfold nmB;rw[if_pos ⋯];rfl
    rw[eq]
    lia
    exact⟨by trivial,by first|trivial|cbv⟩
   ·lia
    have eq:(sL stem).take a++ch::(sL stem).drop a=nmB (sL stem) a ch k:=by
     unfold nmB;rw[if_neg ⋯];simp
    rw[eq];exact⟨by trivial,by first|trivial|cbv⟩
  rintro fl O ⟨rfl,rfl⟩;have hnl:(oL (nmB (sL stem) a ch k)).length<=7:=by rw[hlc,eG];omega
  lia
  apply WS.mono (Q:=λfl O=>fl=.nx/\O=[some ⟨.io 0,fT f⟩,↥(.int m),↥(.str LET),↥(.str stem),↥(.int fn),↥(.int a),⇑(.li ((ga (sL stem) a fn k).map .str)),↥(.int k),↥(.str (nmS (sL stem) a ch k))]) ?_ ?_
  ·apply bI ?_
   lia
   apply qQ (is:=Lr.map .str) ⟨rfl,by decide +kernel,by decide +kernel⟩ ?_
   lia
   clear_value hw
   ·have hw':oL (nmB (sL stem) a ch k)∈Lr:=by exists hw
    lia
    have hw1:(("w" : Str)).length=1:=by decide +kernel
    apply mO (by rw[LL];omega) ?_;have eq:oL (nmB (sL stem) a ch k)++("w" : Str)=nmS (sL stem) a ch k:=by
     unfold nmS;rw[if_pos hw'];apply m9;rw[kK,dU,dU];rfl
    rw[eq]
    lia
    exact⟨by trivial,by first|trivial|cbv⟩
   ·have hw':oL (nmB (sL stem) a ch k)∉Lr:=by exists hw
    have eq:oL (nmB (sL stem) a ch k)=nmS (sL stem) a ch k:=by unfold nmS;rw[if_neg hw']
    rw[eq]
    lia
    exact⟨by trivial,by first|trivial|cbv⟩
  rintro fl O ⟨rfl,rfl⟩
  lia
  apply bL (by simp[ga];rw[LL];omega) ?_;ac_nf
  lia
  apply⟨k+1,?_,rfl⟩;rw[hne,Gq]
  cbv
 ·subst hk
  lia
  obtain⟨n1,n2,n3⟩:=uT (S:=sL stem) (a:=a) (fn:=fn) (m:=m.toNat) hS hSl ⋯;exact q _ f n1 n2 n3
abbrev eK(p:Str×Ru):I:=.tup [.str p.1,tRu p.2]
abbrev aL(w wh:Int) (ds:List (Str×Ru)):I:=.tup [.int w,.int wh,.tup (ds.map eK)]
abbrev mF:Ru->Prop
 | .num _=>True
 | .rd _ _=>True
 | _=>False
def sq{r:Ru}(h:mF r):r.leaves=[r]:=by cases r<;>first|rfl|cases h
def lA:∀{rs:List Ru},(∀r∈rs,mF r)->rs.flatMap Ru.leaves=rs
 | [],_=>rfl
 | r::rs,h=>by rw[Gs,sq (h r ymS),lA λx hx=>h x (ymC _ hx)];rfl
abbrev Lv(ns:List Str)(w:Int):Ru->Prop
 | .num n=>0<=n/\n<=1000000000
 | .rd x row=>x∈ns/\row.length=w.toNat
 | _=>False
def Lv.leaf{ns:List Str}{w:Int}{r:Ru}(h:Lv ns w r):mF r:=by cases r<;>first|trivial|cases h
def xQ{r:Ru}(h:mF r):r.ok:=by cases r<;>first|trivial|cases h
abbrev Cov(n:Nat)(rs:List Ru):Prop:=∃L:List (Str×List Int),L.length<=n/\∀x row,Ru.rd x row∈rs->(x,row)∈L
abbrev tY(c:Nat)(ns:List Str)(w:Int)(n:Nat)(r:Ru):Prop:=r.ok/\r.leaves.length<=c/\(∀l∈r.leaves,Lv ns w l)/\Cov n r.leaves
abbrev lZ(c:Nat)(w wh:Int)(ds:List (Str×Ru)):Prop:=1<=w/\w<=3/\2<=wh/\wh<=1000000000/\1<=ds.length/\ds.length<=6/\(ds.map (·.1)).Nodup/\(∀z∈ds.map (·.1),jW z)/\∃n,n*ds.length<=16/\∀p∈ds,tY c (ds.map (·.1)) w n p.2
def mV:∀{l:List (Str×List Int)},I.doks (l.map λp=>tRu (.rd p.1 p.2))=true/\I.deps (l.map λp=>tRu (.rd p.1 p.2))<=50
 | []=>⟨rfl,by decide⟩
 | p::l=>by
  have ih:=mV (l:=l);have hi:∀row:List Int,I.doks (row.map I.int)=true/\I.deps (row.map I.int)=0:=λrow=>by
   induction row with
   | nil=>exact⟨rfl,rfl⟩
   | cons x row ih=>exact⟨by rw[Gg,I.doks,ih.1];rfl,by rw[Gg,I.deps,ih.2];rfl⟩
  apply⟨?_,?_⟩
  ·rw[Gg,I.doks,ih.1];dsimp[tRu,I.dok,I.doks,(hi p.2).1];rfl
  ·rw[Gg,I.deps];have h1:I.dep (tRu (.rd p.1 p.2))<=50:=by dsimp[tRu,I.dep,I.deps,(hi p.2).2];decide
   have:=ih.2;omega
def i7{α:Type}{xs:List α}{v:Int}(h:0<=v):ci xs none (some v)=xs.take v.toNat:=by
 obtain⟨n,rfl⟩:∃n:Nat,v=n:=⟨v.toNat,by omega⟩;unfold ci;rw[HT.sIx_none,HT.sIx_nat,GP,JF,KG];rcases Nat.le_total n xs.length with h|h;rw[JA h];rw[Nat.min_eq_right h,GE h,GE (Gj _)]
def uv{f:Int×Int}{Q:T->T->Prop}(q:∀w wh ds f',lZ 10 w wh ds->Q (.im (aL w wh ds)) (fT f')):W2 (jo [fT f]) Q:=by
 apply Lh [some ⟨.io 0,fT f⟩,none,none,none,none,none,none,none,none,none] rfl rfl rfl ?_;unfold gA
 lia
 apply wl λw m ls f hw1 hw2 hm1 hm2 hL=>?_;ac_nf
 lia
 apply aq ⋯ ⋯ λd1 f a1 b1=>?_;ac_nf
 lia
 apply aq ⋯ ⋯ λd2 f a2 b2=>?_;ac_nf
 lia
 apply aq ⋯ ⋯ λd3 f a3 b3=>?_;ac_nf
 lia
 apply aq ⋯ ⋯ λd4 f a4 b4=>?_;ac_nf
 lia
 apply bn (ns:=[2+d1,2+d2,1000000000-d3]) a4 (by exists b4) λwh hwh _=>?_;have hwh':2<=wh/\wh<=1000000000:=by simp at hwh;omega
 lia
 have hlm:((ls.map aH).length:Int)=m:=by rw[Ge,hL.1];omega
 rw[hlm];apply uS ⋯ hm2 λzs f hzl hzn hzo=>?_;ac_nf
 lia
 apply cW (λs:(Int×Int)×List (Str×Ru)=>[some ⟨.io 0,fT s.1⟩,↥(.int w),⇑(.lst (ls.map aH)),↥(.int wh),⇑(.li (zs.map .str)),⇑(.li (s.2.map eK)),none,none,none,none]) (λj s=>s.2.map (·.1)=zs.take j/\∀p∈s.2,tY 10 zs w (16 / m.toNat) p.2) ?_
 lia
 rw[hlm];apply⟨⟨by omega,by omega⟩,(f,[]),by cbv,⟨rfl,by simp⟩,λx s hx ⟨hd1,hd2⟩=>?_,λs ⟨hd1,hd2⟩=>?_⟩
 ·obtain⟨f,ds⟩:=s;dsimp only at hd1 hd2|-;obtain⟨l,hl,hl7,hlP⟩:=hL.get (n:=x) ⋯
  lia
  apply dX (λ_:Unit=>[some ⟨.io 0,fT f⟩,↥(.int w),⇑(.lst (ls.map aH)),↥(.int wh),⇑(.li (zs.map .str)),⇑(.li (ds.map eK)),↥(.int x),none,none,none]) (λp:Str×List Int=>tRu (.rd p.1 p.2)) (λj _ L=>L.length=j/\∀p∈L,p.1∈zs/\p.2.length=w.toNat) ?_
  lia
  apply pI (u:=aH l) (kd:=.vw (some 2) (some [.ix x])) ⋯ (by rw[GP,Go,hl];rfl) (fg l) rfl ?_
  lia
  rw[hlm];rw[i7 (Int.ediv_nonneg ⋯ ⋯),<-Io];apply⟨(l.take (16 / m).toNat).map tRd,rfl,by simp;rw[LL];omega,by cbv,(),by cbv,⟨rfl,by simp⟩,λj x' _ L hx' ⟨hLl,hLx⟩=>?_,λ_ L ⟨hLl,hLx⟩=>?_⟩
  ·rw[Go]at hx';cases e:(l.take (16 / m).toNat)[j]? with
   | none=>rw[e]at hx';cases hx'
   | some p=>
    rw[e]at hx';cases hx';have hp:=hlP p (Hq (ymG e));obtain⟨p0,p1,p2,p3⟩:=hp
    lia
    apply fc (emb:=I.str) (ns:=zs) p0 ⋯ λz hz=>?_
    lia
    exact⟨(z,p.2),(),rfl,by cbv,by simp[hLl],ba hLx ⟨ymG hz,p2⟩⟩
  rw[Ge]at hLl;have hLn:L.length<=16 / m.toNat:=by
   rw[hLl,GZ];have:(16 / m).toNat=16 / m.toNat:=by
    obtain⟨n,rfl⟩:∃n:Nat,m=n:=⟨m.toNat,by omega⟩;rw[GP];exact congrArg Int.toNat (Int.natCast_ediv 16 n).symm
   omega
  have hL7:L.length<=7:=by rw[hLl,GZ];omega
  lia
  apply cW (λs:(Int×Int)×List Ru=>[some ⟨.io 0,fT s.1⟩,↥(.int w),⇑(.lst (ls.map aH)),↥(.int wh),⇑(.li (zs.map .str)),⇑(.li (ds.map eK)),↥(.int x),⇑(.li (s.2.map tRu)),none,none]) (λj s=>s.2.length=L.length+j/\(∀r∈s.2,Lv zs w r)/\∀y row,Ru.rd y row∈s.2->(y,row)∈L) ?_
  lia
  apply aq ⋯ ⋯ λd f hd0 hd1'=>?_;ac_nf
  lia
  apply DV (js:=[]) ⟨mV.1,rfl,mV.2⟩ ?_
  lia
  have hk:∀b:Bool,0<=(if b then 1 else 0:Int)/\(if b then 1 else 0:Int)<=1:=λb=>by cases b<;>decide
  have hk':=hk (decide (L.map (λp=>tRu (.rd p.1 p.2))=[]));have hk0:L=[]->(if(decide (L.map (λp=>tRu (.rd p.1 p.2))=[]))=true then 1 else 0:Int)=1:=λz=>by rw[z];rfl
  generalize (if(decide (L.map (λp=>tRu (.rd p.1 p.2))=[]))=true then 1 else 0:Int)=kk at *;apply⟨⟨by omega,by omega⟩,(f,L.map λp=>.rd p.1 p.2),by rw[Hf];cbv,⟨by simp,λr hr=>?_,λy row hr=>?_⟩,λj s hj ⟨hs1,hs2,hs3⟩=>?_,λs ⟨hs1,hs2,hs3⟩=>?_⟩
  ·obtain⟨p,hp,rfl⟩:=Gn.mp hr;exact hLx p hp
  ·obtain⟨p,hp,e⟩:=Gn.mp hr;cases e;exact hp
  ·obtain⟨f,rs⟩:=s;dsimp only at hs1 hs2 hs3|-
   lia
   apply aq ⋯ ⋯ λe1 f he0 he1=>?_;ac_nf
   lia
   apply bn (ns:=[9,1000000001]) he0 (by exists he1) λtop htop _=>?_;have htop':1<=top/\top<=1000000001:=by simp at htop;omega
   lia
   apply aq ⋯ ⋯ λnum f hn0 hn1=>?_;ac_nf
   lia
   rw[Ge];apply aq ⋯ ⋯ λat0 f ha0 ha1=>?_;ac_nf
   lia
   apply zZ (is:=rs.map tRu) ⟨ha0,by simp;omega,by simp;rw[LL];omega⟩ ?_;ac_nf
   lia
   apply⟨(f,rs.take at0.toNat++Ru.num num::rs.drop at0.toNat),?_,by clear hLl hLn hL7 hk' hj hd0 hd1';simp;omega,λr hr=>?_,λy row hr=>?_⟩
   ·rw[Gq,Gg,Io,Jf]
    cbv
   ·rcases yaM hr with hr|hr;exact hs2 r (Hq hr)
    ·rcases ycM hr with rfl|hr;exact⟨hn0,by omega⟩;exact hs2 r (HR hr)
   ·rcases yaM hr with hr|hr;exact hs3 y row (Hq hr)
    ·rcases ycM hr with hr|hr;cases hr;exact hs3 y row (HR hr)
  ·obtain⟨f,rs⟩:=s;dsimp only at hs1 hs2 hs3|-
   lia
   apply fc (emb:=I.str) (ns:=zs) ⋯ ⋯ λz hz=>?_
   lia
   apply ur (rs:=rs) (λh0=>?_) ⋯ (λr hr=>xQ (hs2 r hr).leaf) λr f hrl hro=>?_
   ·rw[h0]at hs1;have hL0:L=[]:=HV (Nat.add_eq_zero_iff.mp hs1.symm).1;have:=hk0 hL0;simp at hs1;omega
   rw[lA λr hr=>(hs2 r hr).leaf]at hrl;ac_nf
   lia
   apply bL (is:=ds.map eK) (by
    have:ds.length<=zs.length:=by rw[<-Ge (f:=λp:Str×Ru=>p.1),hd1];simp;omega
    simp;rw[LL];omega) ?_
   ac_nf
   lia
   apply⟨(f,ds++[(z,r)]),?_,?_,ba hd2 ⟨hro,by rw[hrl];omega,by rw[hrl];exact hs2,L,hLn,by rw[hrl];exact hs3⟩⟩
   ·rw[Gq]
    cbv
   ·rw[Gq,hd1,JH];rw[GP]at hz;rw[hz];rfl
 ·obtain⟨f,ds⟩:=s;dsimp only at hd1 hd2|-
  lia
  rw[GE ⋯]at hd1;have hlen:ds.length=m.toNat:=by rw[<-hzl,<-hd1,Ge]
  apply q w wh ds f ⟨hw1,hw2,hwh'.1,hwh'.2,by omega,by omega,by rw[hd1];exact hzn,by rw[hd1];exact hzo,16 / m.toNat,?_,by rw[hd1];exact hd2⟩;rw[hlen];exact Nat.div_mul_le_self 16 m.toNat
abbrev tR2(p:Str×List Int):I:=.tup [.str p.1,.tup (p.2.map .int)]
def ub:∀{bs:List Bool},bls (bs.map I.bl)=some bs
 | []=>rfl
 | b::bs=>by rw[Gg,bls,ub];rfl
def DS{bs:List Bool}{Q:T->Prop}(q:Q (.im (.bl (bs.all id)))):W1 (rM [.li (bs.map I.bl)]) Q:=w1 (by dsimp[rM,ub,HZ]) q
abbrev aA(z:Str) (p:Str×List Int):I:=.tup [.str z,.str p.1,.tup (p.2.map .int)]
def dH{z:Str}:∀{L:List (Str×List Int)},I.doks (L.map (aA z))=true/\I.deps (L.map (aA z))<=50
 | []=>⟨rfl,GY _⟩
 | p::l=>by
  have ih:=dH (z:=z) (L:=l);have hi:∀row:List Int,I.doks (row.map I.int)=true/\I.deps (row.map I.int)=0:=λrow=>by
   induction row with
   | nil=>exact⟨rfl,rfl⟩
   | cons x row ih=>exact⟨by rw[Gg,I.doks,ih.1];rfl,by rw[Gg,I.deps,ih.2];rfl⟩
  apply⟨?_,?_⟩
  ·rw[Gg,I.doks,ih.1];dsimp[aA,I.dok,I.doks,(hi p.2).1];rfl
  ·rw[Gg,I.deps];have h1:I.dep (aA z p)<=50:=by dsimp[aA,I.dep,I.deps,(hi p.2).2];decide
   have:=ih.2;omega
def oy{z:Str}{p:Str×List Int}:(aA z p).dok=true:=by
 have:=(dH (z:=z) (L:=[p])).1;rw[Gg,He,I.doks,Gd]at this;exact this.1
abbrev wg:Ru->Option (Str×List Int)
 | .rd x row=>some (x,row)
 | _=>none
abbrev rds(r:Ru):List (Str×List Int):=r.leaves.filterMap wg
def gF:∀r:Ru,r.pre.filterMap wg=rds r
 | .num _=>rfl
 | .rd _ _=>rfl
 | .op s a b=>by
  have h1:=gF a;have h2:=gF b;unfold rds at h1 h2|-;rw[Ru.pre,Ru.leaves,Jh rfl,GH,GH,h1,h2]
 | .cond a b c=>by
  have h1:=gF a;have h2:=gF b;have h3:=gF c;unfold rds at h1 h2 h3|-;rw[Ru.pre,Ru.leaves,Jh rfl,GH,GH,GH,GH,h1,h2,h3]
def dF(r:Ru):(rds r).length<=r.leaves.length:=List.length_filterMap_le _ _
abbrev iB(acc:List (Str×List Int)) (p:Str×List Int):List (Str×List Int):=if p∈acc then acc else acc++[p]
abbrev ded(L:List (Str×List Int)):List (Str×List Int):=L.foldl iB []
def nA(L:List (Str×List Int))(p:Str×List Int):ded (L++[p])=iB (ded L) p:=by unfold ded;rw[Jb];rfl
def qy:∀(L acc:List (Str×List Int)),(L.foldl iB acc).length<=acc.length+L.length
 | [],acc=>by simp
 | p::L,acc=>by
  have h:=qy L (iB acc p);have h2:(iB acc p).length<=acc.length+1:=by unfold iB;split<;>simp
  dsimp[Hk,Gp]at h|-;omega
def mf(L:List (Str×List Int)):(ded L).length<=L.length:=by have:=qy L [];unfold ded;exists this
def av{α:Type}{L:List α}{j:Nat}{x : α}(e:L[j]?=some x):L.take (j+1)=L.take j++[x]:=by rw[JH,e];rfl
def sM{r:Ru}(hl:r.leaves.length<=1000){Q:T->Prop}(q:Q (.im (.tup ((rds r).map tR2)))):W1 (jr [.im (tRu r)]) Q:=by
 have hpre:=hJ r;apply KZ [↥(tRu r)] rfl rfl rfl ?_;unfold gE
 lia
 apply db (λ_:Unit=>[↥(tRu r)]) tR2 (λj _ L=>L=(r.pre.take j).filterMap wg) ?_
 lia
 apply vd hl ?_;apply⟨r.pre.map tRu,rfl,by simp;rw[LL];omega,by cbv,(),by cbv,rfl,λj x' _ L hx' hL=>?_,λ_ L hL=>?_⟩
 ·rw[Go]at hx';cases e:r.pre[j]? with
  | none=>rw[e]at hx';cases hx'
  | some y=>
   rw[e]at hx';cases hx';have ht:(r.pre.take (j+1)).filterMap wg=L++(wg y).toList:=by
    rw[av e,GH,<-hL];cases y<;>rfl
   cases y with
   | num k=>
    rw[tRu]
    lia
    clear_value h
    ·exact absurd h (by decide +kernel)
    ·exact⟨(),by cbv,by rw[ht];exact(Gy _).symm⟩
   | rd x row=>
    rw[tRu]
    lia
    clear_value h
    ·lia
     exact⟨(x,row),(),rfl,by cbv,by rw[ht];rfl⟩
    ·exact absurd rfl h
   | op s a b=>
    rw[tRu]
    lia
    clear_value h
    ·exact absurd h (by decide +kernel)
    ·exact⟨(),by cbv,by rw[ht];exact(Gy _).symm⟩
   | cond a b c=>
    rw[tRu]
    lia
    clear_value h
    ·exact absurd h (by decide +kernel)
    ·exact⟨(),by cbv,by rw[ht];exact(Gy _).symm⟩
 ·rw[Ge,GE (Gj _),gF]at hL;subst hL
  lia
  exact q
def rW{z:Str}{r:Ru}(hl:r.leaves.length<=1000){Q:T->Prop}(q:Q (.li ((ded (rds r)).map (aA z)))):W1 (dR [.im (.str z),.im (tRu r)]) Q:=by
 have hrl:=dF r;apply KZ [↥(.str z),↥(tRu r),none,none,none,none] rfl rfl rfl ?_;unfold cz
 lia
 apply cK (λL:List (Str×List Int)=>[↥(.str z),↥(tRu r),⇑(.li (L.map (aA z))),none,none,none]) (λj L=>L=ded ((rds r).take j)) ?_
 lia
 apply sM hl ?_;apply⟨(rds r).map tR2,rfl,by cbv,[],by cbv,rfl,λj x' L hx' hL=>?_,λL hL=>?_⟩
 ·rw[Go]at hx';cases e:(rds r)[j]? with
  | none=>rw[e]at hx';cases hx'
  | some p=>
   rw[e]at hx';cases hx';have hj:=(Gc.mp e).1;have hLl:L.length<=1000:=by rw[hL];have:=mf ((rds r).take j);rw[GZ]at this;omega
   have hs:ded ((rds r).take (j+1))=iB L p:=by rw[av e,nA,hL]
   lia
   apply bI ?_
   lia
   apply kC (i:=aA z p) (is:=L.map (aA z)) ⟨oy,dH.1,dH.2⟩ ?_
   lia
   clear_value h
   ·lia
    apply bL (is:=L.map (aA z)) (i:=aA z p) (by simp;rw[LL];omega) ?_;ac_nf
    lia
    have hp:p∉L:=λm=>h (Gn.mpr ⟨_,m,rfl⟩);apply⟨L++[p],?_,?_⟩
    ·rw[Gq]
     cbv
    ·rw[hs,iB,if_neg hp]
   ·lia
    have hp:p∈L:=by
     obtain⟨p',m,e'⟩:=Gn.mp h;have:p'=p:=by
      unfold aA at e';dsimp[I.tup.injEq,HD.injEq,I.str.injEq,and_true,true_and]at e';obtain⟨e1,e2⟩:=e';exact KO e1 (JU (λa b h=>by cases h;rfl) |>.mp e2)
     exact this▸m
    exact⟨L,by cbv,by rw[hs,iB,if_pos hp]⟩
 ·rw[Ge,GE (Gj _)]at hL;subst hL
  lia
  exact q
abbrev aK(ds:List (Str×Ru)):List I:=ds.flatMap λd=>(ded (rds d.2)).map (aA d.1)
def pW{w wh:Int}{ds:List (Str×Ru)}(hd:ds.length<=6)(h:∀p∈ds,p.2.leaves.length<=40){Q:T->Prop}(q:Q (.im (.tup (aK ds)))):W1 (fA [.im (aL w wh ds)]) Q:=by
 apply KZ [↥(aL w wh ds)] rfl rfl rfl ?_;unfold dB
 lia
 apply zE (nr ?_);rw[aL]
 lia
 apply w1 (x:=(ds.map eK).map λi=>⟨.ow,.im i⟩) rfl (gu (by cbv) ⟨λj acc O=>O=[↥(aL w wh ds)]/\acc=(aK (ds.take j)).map T.im/\(aK (ds.take j)).length<=40*j,⟨rfl,rfl,GY _⟩,?_,?_⟩)
 ·rintro j r acc O hr ⟨rfl,rfl,hil⟩;obtain⟨x,hx,rfl⟩:=aC hr;obtain⟨p,hp,rfl⟩:=aC hx;have hj:=(Gc.mp hp).1;have hpl:=h p (ymG hp);have hL:(ded (rds p.2)).length<=40:=by have:=mf (rds p.2);have:=dF p.2;omega
  have ht:aK (ds.take (j+1))=aK (ds.take j)++(ded (rds p.2)).map (aA p.1):=by unfold aK;rw[av hp,Gw];simp
  lia
  apply nr ?_
  lia
  apply rW ⋯ ?_;apply w1 (x:=((ded (rds p.2)).map (aA p.1)).map λi=>⟨.ow,.im i⟩) rfl (gu (by cbv) ⟨by simp;rw[LL];omega,?_⟩);apply rS _ (λx=>?_) _ ⟨by cbv,by rw[ht,Gq],by rw[ht];simp;omega⟩
  lia
  exact⟨rfl,by cbv⟩
 ·rintro acc O ⟨rfl,rfl,hil⟩;dsimp[Ge,GN]at hil|-;apply⟨by rw[LL];omega,?_⟩;rw[nN]
  lia
  exact q
def CF{s:Str}{a b:Ru}:rds (.op s a b)=rds a++rds b:=by simp[rds,Ru.leaves,GH]
def wj{a b c:Ru}:rds (.cond a b c)=rds a++(rds b++rds c):=by simp[rds,Ru.leaves,GH]
def jg:∀(n:Nat) (r:Ru),r.depth<n->r.leaves.length<=1000->∀{Q:T->Prop},Q (.li ((rds r).map tR2))->W1 (cD n [.im (tRu r)]) Q
 | 0,r,hd,_,Q,q=>absurd hd (Kr _)
 | n+1,r,hd,hl,Q,q=>by
  apply KZ [↥(tRu r),none,none] rfl rfl rfl ?_;unfold dy;cases r with
  | num k=>
   rw[tRu]
   lia
   (refine bI ?_;lia;clear_value h)
   ·lia
    exact q
   ·exact absurd rfl h
  | rd x row=>
   rw[tRu]
   lia
   (refine bI ?_;lia;clear_value h)
   ·exact absurd h (by decide +kernel)
   lia
   (refine bI ?_;lia;clear_value h')
   ·lia
    exact q
   ·exact absurd rfl h'
  | op s a b=>
   have ha:a.depth<n/\b.depth<n:=by dsimp[Ru.depth]at hd;omega
   have hal:a.leaves.length+b.leaves.length<=1000:=by simpa[Ru.leaves]using hl
   have ra:=dF a;have rb:=dF b;rw[tRu]
   lia
   (refine bI ?_;lia;clear_value h)
   ·exact absurd h (by decide +kernel)
   lia
   (refine bI ?_;lia;clear_value h')
   ·exact absurd h' (by decide +kernel)
   lia
   apply cK (λL:List (Str×List Int)=>[↥(.tup [.str "op",.str s,tRu a,tRu b]),⇑(.li (L.map tR2)),none]) (λj L=>L=([a,b].take j).flatMap rds) ?_
   lia
   dsimp[decide_true,if_true,Int.reduceAdd];apply qR (is:=[.str "op",.str s,tRu a,tRu b]) (show ¬((2:Nat)=0/\4=4) by decide) ?_;apply⟨[a,b].map tRu,rfl,by cbv,[],by cbv,rfl,λj x' L hx' hL=>?_,λL hL=>?_⟩
   ·rw[Go]at hx';cases e:([a,b]:List Ru)[j]? with
    | none=>rw[e]at hx';cases hx'
    | some y=>
     rw[e]at hx';cases hx';have hy:y=a\/y=b:=by have:=ymG e;exists this
     have hyl:(rds y).length<=1000:=by rcases hy with rfl|rfl<;>omega
     have hLl:L.length<=1000:=by
      rw[hL]
      match j with
      | 0=>simp
      | 1=>simp;omega
      | _+2=>simp;omega
     lia
     apply jg n y (by rcases hy with rfl|rfl<;>omega) (by rcases hy with rfl|rfl<;>omega) ?_
     lia
     apply pH (is:=L.map tR2) (js:=(rds y).map tR2) (by simp;rw[LL];omega) ?_;ac_nf
     lia
     apply⟨L++rds y,?_,by rw[hL,av e,Gw];simp⟩;rw[Gq];try cbv
   ·rw[Ge,GE (Gj _)]at hL;subst hL
    lia
    rw[CF]at q;exists q
  | cond a b c=>
   have ha:a.depth<n/\b.depth<n/\c.depth<n:=by dsimp[Ru.depth]at hd;omega
   have hal:a.leaves.length+(b.leaves.length+c.leaves.length)<=1000:=by simpa[Ru.leaves]using hl
   have ra:=dF a;have rb:=dF b;have rc:=dF c;rw[tRu]
   lia
   (refine bI ?_;lia;clear_value h)
   ·exact absurd h (by decide +kernel)
   lia
   (refine bI ?_;lia;clear_value h')
   ·exact absurd h' (by decide +kernel)
   lia
   apply cK (λL:List (Str×List Int)=>[↥(.tup [.str "if",tRu a,tRu b,tRu c]),⇑(.li (L.map tR2)),none]) (λj L=>L=([a,b,c].take j).flatMap rds) ?_
   lia
   rw[show(1+if decide (("if" : Str) = "op")=true then 1 else 0:Int)=1 by decide +kernel];apply qR (is:=[.str "if",tRu a,tRu b,tRu c]) (show ¬((1:Nat)=0/\4=4) by decide) ?_;apply⟨[a,b,c].map tRu,rfl,by cbv,[],by cbv,rfl,λj x' L hx' hL=>?_,λL hL=>?_⟩
   ·rw[Go]at hx';cases e:([a,b,c]:List Ru)[j]? with
    | none=>rw[e]at hx';cases hx'
    | some y=>
     rw[e]at hx';cases hx';have hy:y=a\/y=b\/y=c:=by have:=ymG e;exists this
     have hyl:(rds y).length<=1000:=by rcases hy with rfl|rfl|rfl<;>omega
     have hLl:L.length<=1000:=by
      rw[hL]
      match j with
      | 0=>simp
      | 1=>simp;omega
      | 2=>simp;omega
      | _+3=>simp;omega
     lia
     apply jg n y (by rcases hy with rfl|rfl|rfl<;>omega) (by rcases hy with rfl|rfl|rfl<;>omega) ?_
     lia
     apply pH (is:=L.map tR2) (js:=(rds y).map tR2) (by simp;rw[LL];omega) ?_;ac_nf
     lia
     apply⟨L++rds y,?_,by rw[hL,av e,Gw];simp⟩;rw[Gq];try cbv
   ·rw[Ge,GE (Gj _)]at hL;subst hL
    lia
    rw[wj]at q;exists q
def tK{z:Str}{p p':Str×List Int}(e':aA z p'=aA z p):p'=p:=by
 unfold aA at e';dsimp[I.tup.injEq,HD.injEq,I.str.injEq,and_true,true_and]at e';obtain⟨e1,e2⟩:=e';exact KO e1 (JU (λa b h=>by cases h;rfl) |>.mp e2)
def pY{z z':Str}{p p':Str×List Int}(e:aA z p=aA z' p'):z=z':=by
 unfold aA at e;dsimp[I.tup.injEq,HD.injEq,I.str.injEq]at e;exact e.1
def qz{a b:List I}(ha:I.doks a=true/\I.deps a<=50)(hb:I.doks b=true/\I.deps b<=50):I.doks (a++b)=true/\I.deps (a++b)<=50:=by
 induction a with
 | nil=>exact hb
 | cons x a ih=>
  rw[I.doks,Gd,I.deps]at ha;have:=ih ⟨ha.1.2,by omega⟩;rw[GL,I.doks,I.deps,ha.1.1,this.1];exact⟨rfl,by omega⟩
def dJ:∀{ds:List (Str×Ru)},I.doks (aK ds)=true/\I.deps (aK ds)<=50
 | []=>⟨rfl,by decide⟩
 | d::ds=>by
  have ih:=dJ (ds:=ds);unfold aK at ih|-;rw[Gs];exact qz dH ih
def pB{ds:List (Str×Ru)}{i:I}(h:i∈aK ds):∃d∈ds,∃p∈ded (rds d.2),i=aA d.1 p:=by
 unfold aK at h;obtain⟨d,hd,h⟩:=Ha.mp h;obtain⟨p,hp,rfl⟩:=Gn.mp h;exact⟨d,hd,p,hp,rfl⟩
def fo:∀{ds:List (Str×Ru)},(∀p∈ds,p.2.leaves.length<=22)->(aK ds).length<=22*ds.length
 | [],_=>by simp[aK]
 | d::ds,h=>by
  have ih:=fo (ds:=ds) λp hp=>h p (ymC _ hp);have h1:=h d ymS;have h2:=mf (rds d.2);have h3:=dF d.2;unfold aK at ih|-;rw[Gs,Gr,Ge,Gp];omega
def jh{w wh:Int}{ds:List (Str×Ru)}(hd:ds.length<=6)(hn:(ds.map (·.1)).Nodup)(h:∀p∈ds,p.2.leaves.length<=22){Q:T->Prop}(q:Q (.li (aK ds))):W1 (ff [.im (aL w wh ds)]) Q:=by
 apply KZ [↥(aL w wh ds),none,none,none,none,none] rfl rfl rfl ?_;unfold gD
 lia
 apply cK (λL:List I=>[↥(aL w wh ds),⇑(.li L),none,none,none,none]) (λj L=>L=aK (ds.take j)) ?_;rw[aL]
 lia
 apply⟨ds.map eK,rfl,by cbv,[],by cbv,rfl,λj x' L hx' hL=>?_,λL hL=>?_⟩
 ·rw[Go]at hx';cases e:ds[j]? with
  | none=>rw[e]at hx';cases hx'
  | some p=>
   rw[e]at hx';cases hx';have hp:=h p (ymG e);have hj:=(Gc.mp e).1;have hdp:=Ru.depth_lt p.2;have hrl:=dF p.2;have hLl:L.length<=22*6:=by
    rw[hL];have:=fo (ds:=ds.take j) λp hp=>h p (Hq hp);rw[GZ]at this;omega
   have hLd:I.doks L=true/\I.deps L<=50:=by rw[hL];exact dJ
   have hLz:∀pr,aA p.1 pr∉L:=by
    intro pr hm;rw[hL]at hm;obtain⟨d,hdm,pr',_,e2⟩:=pB hm;obtain⟨k,hk⟩:=Ib.mp hdm;have hkj:k<j:=by have:=(Gc.mp hk).1;simp at this;omega
    rw[Jc hkj]at hk;have h2:(ds.map (·.1))[j]?=some p.1:=by rw[Go,e];rfl
    have h1:(ds.map (·.1))[k]?=some d.1:=by rw[Go,hk];rfl
    have h3:=Gc.mp h1;have h4:=Gc.mp h2;exact(List.pairwise_iff_getElem.mp hn k j h3.1 h4.1 hkj) (h3.2.trans ((pY e2).symm.trans h4.2.symm))
   rw[eK]
   lia
   apply cK (λL2:List (Str×List Int)=>[↥(aL w wh ds),⇑(.li (L++L2.map (aA p.1))),↥(.str p.1),↥(tRu p.2),none,none]) (λi L2=>L2=ded ((rds p.2).take i)) ?_
   lia
   apply jg 24 p.2 ⋯ ⋯ ?_;apply⟨(rds p.2).map tR2,rfl,by cbv,[],by dsimp[He,Gy];cbv,rfl,λi y' L2 hy' hL2=>?_,λL2 hL2=>?_⟩
   ·rw[Go]at hy';cases e2:(rds p.2)[i]? with
    | none=>rw[e2]at hy';cases hy'
    | some pr=>
     rw[e2]at hy';cases hy';have hs:ded ((rds p.2).take (i+1))=iB L2 pr:=by rw[av e2,nA,hL2]
     have hL2l:L2.length<=1000:=by rw[hL2];have:=mf ((rds p.2).take i);rw[GZ]at this;omega
     have hdk:I.doks (L++L2.map (aA p.1))=true/\I.deps (L++L2.map (aA p.1))<=50:=qz hLd dH;rw[tR2]
     lia
     apply bI ?_
     lia
     apply kC (i:=aA p.1 pr) (is:=L++L2.map (aA p.1)) ⟨oy,hdk.1,hdk.2⟩ ?_
     lia
     clear_value c
     ·lia
      apply bL (is:=L++L2.map (aA p.1)) (i:=aA p.1 pr) (by simp;rw[LL];omega) ?_;ac_nf
      lia
      have hp':pr∉L2:=λm=>c (yaR _ (Gn.mpr ⟨_,m,rfl⟩));apply⟨L2++[pr],?_,by rw[hs,iB,if_neg hp']⟩;rw[Gq,<-Gx]
      cbv
     ·lia
      have hp':pr∈L2:=by
       rcases yaM c with m|m;exact absurd m (hLz pr)
       ·obtain⟨p',m,e'⟩:=Gn.mp m;exact tK e'▸m
      exact⟨L2,by cbv,by rw[hs,iB,if_pos hp']⟩
   ·rw[Ge,GE (Gj _)]at hL2;subst hL2
    lia
    apply⟨L++(ded (rds p.2)).map (aA p.1),by cbv,?_⟩;rw[hL,av e];unfold aK;rw[Gw];simp
 ·rw[Ge,GE (Gj _)]at hL;subst hL
  lia
  exact q
def xW{L:List (Str×List Int)}{p:Str×List Int}(h:p∈ded L):p∈L:=by
 have:∀(L acc:List (Str×List Int)),p∈L.foldl iB acc->p∈acc\/p∈L:=by
  intro L
  induction L with
  | nil=>intro acc h;exact .inl h
  | cons x L ih=>
   intro acc h;rcases ih _ h with h|h
   ·unfold iB at h;split at h;exact .inl h
    ·rcases yaM h with h|h;exact .inl h;exact .inr (ysM h▸ymS)
   ·exact .inr (ymC _ h)
 rcases this L [] h with h|h;cases h;exact h
def xX{r:Ru}{p:Str×List Int}(h:p∈rds r):Ru.rd p.1 p.2∈r.leaves:=by
 obtain⟨l,hl,e⟩:=GX.mp h;cases l with
 | rd x row=>cases e;exact hl
 | _=>cases e
abbrev RuL(r:Ru):Prop:=r.leaves.length<=22/\∀x row,Ru.rd x row∈r.leaves->row.length<=1000
abbrev H6(ds:List (Str×Ru)):Prop:=ds.length<=6/\(ds.map (·.1)).Nodup/\∀p∈ds,RuL p.2
abbrev SL(ds:List (Str×Ru)):List (Str×Str×List Int):=ds.flatMap λd=>(ded (rds d.2)).map λp=>(d.1,p)
def jY(ds:List (Str×Ru)):aK ds=(SL ds).map λq=>aA q.1 q.2:=by
 unfold aK SL;rw[List.map_flatMap];congr 1;funext d;rw[Hf];rfl
abbrev tEd(e:Str×Str):I:=.tup [.str e.1,.str e.2]
def bz(l:List Str):I.doks (l.map I.str)=true/\I.deps (l.map I.str)<=50:=by
 induction l with
 | nil=>exact⟨rfl,by decide⟩
 | cons a l ih=>
  rw[Gg,I.doks,I.deps,ih.1];apply⟨rfl,?_⟩;show max 0 _<=50;have:=ih.2;omega
def pP{N:List Str}{E:List (Str×Str)}{z:Str}(h:EIn N E)(hz:z∈N)(hN:N.length<=1000){Q:T->Prop}(q:∀L:List Str,L.Nodup->(∀x,x∈L↔Rch E z x)->Q (.li (L.map .str))):W1 (cS [.im (.str z),.li (E.map tEd)]) Q:=by
 apply KZ [↥(.str z),some ⟨.vw none none,.li (E.map tEd)⟩,none,none,none,none] rfl rfl rfl ?_;unfold bV
 lia
 apply iX (λs:List Str×Nat=>[↥(.str z),some ⟨.vw none none,.li (E.map tEd)⟩,⇑(.li (s.1.map .str)),↥(.int s.2),none,none]) (λs=>s.1.Nodup/\z∈s.1/\(∀x∈s.1,Rch E z x)/\s.2<=s.1.length/\∀e∈E,e.1∈s.1.take s.2->e.2∈s.1) (λs=>N.length-s.2) ([z],0) (by cbv) ⟨by simp,by simp,λx hx=>by rw[ysM hx];exact .refl,by simp,by simp⟩ λs hs=>?_;obtain⟨L,at0⟩:=s;obtain⟨h1,h2,h3,h4,h5⟩:=hs;dsimp only at h1 h2 h3 h4 h5|-;have hle:L.length<=N.length:=iQ h1 λx hx=>(h3 x hx).within h hz
 lia
 clear_value hc
 ·have hc':at0<L.length:=by rw[Ge]at hc;omega
  have hla:L[at0]?=some L[at0]:=by simp[hc']
  lia
  apply cK (λM:List Str=>[↥(.str z),some ⟨.vw none none,.li (E.map tEd)⟩,⇑(.li ((L++M).map .str)),↥(.int at0),none,none]) (λj M=>(L++M).Nodup/\(∀x∈L++M,Rch E z x)/\∀e∈E.take j,e.1=L[at0]->e.2∈L++M) ?_
  lia
  apply⟨E.map tEd,rfl,by cbv,[],by rw[Gy],⟨by simpa using h1,by simpa using h3,by simp⟩,λj x M hx hP=>?_,λM hP=>?_⟩
  ·obtain⟨e,he,rfl⟩:=aC hx;have hem:=ymG he;obtain⟨p1,p2,p3⟩:=hP;have hl2:(L++M).length<=N.length:=iQ p1 λx hx=>(p2 x hx).within h hz;have hat:(L++M)[at0]?=some L[at0]:=by rw[G7 hc'];exact hla
   have sd:=bz (L++M);rw[tEd]
   lia
   apply bI ?_
   lia
   apply fc (emb:=I.str) (ns:=L++M) ⋯ (by simp;omega) λy hy=>?_;have ey:y=L[at0]:=by
    have hy':(L++M)[at0]?=some y:=by exists hy
    rw[hat]at hy';cases hy';rfl
   subst ey
   lia
   have snoc:∀M',(∀x∈L++M,x∈L++M')->(e.1=L[at0]->e.2∈L++M')->∀e'∈E.take (j+1),e'.1=L[at0]->e'.2∈L++M':=λM' hs hh e' he'=>by
    rw[av he]at he';rcases yaM he' with he'|he';exact λz=>hs _ (p3 e' he' z);rw[ysM he'];exact hh
   clear_value c1
   ·lia
    apply kC ⟨rfl,sd.1,sd.2⟩ ?_
    lia
    clear_value c2
    ·lia
     have c2':e.2∉L++M:=λz=>c2 (K0.mpr z);apply bL (is:=(L++M).map .str) (i:=.str e.2) (by simp;rw[LL];simp at hl2;omega) ?_;ac_nf
     lia
     apply⟨M++[e.2],?_,?_,?_,snoc _ (λx hx=>by rw[<-Gx];exact yaL _ hx) λ_=>by simp⟩
     ·rw[show(L++(M++[e.2])).map I.str=(L++M).map I.str++[I.str e.2] by simp];try cbv
     ·rw[<-Gx];exact Gi.mpr ⟨p1,by simp,λa ha b hb e'=>c2' (by rw[ysM hb]at e';rw[<-e'];exact ha)⟩
     ·rw[<-Gx];apply ba p2 ?_;apply(h3 _ (Km hc')).tail ?_;rw[<-c1];exact hem
    ·lia
     have c2':e.2∈L++M:=K0.mp c2;exact⟨M,by cbv,p1,p2,snoc M (λ_ hx=>hx) λ_=>c2'⟩
   ·lia
    apply spF ?_
    lia
    exact⟨M,by cbv,p1,p2,snoc M (λ_ hx=>hx) λz=>absurd z c1⟩
  ·obtain⟨p1,p2,p3⟩:=hP;rw[Ge,GN]at p3
   lia
   apply Fi rfl ?_
   lia
   apply⟨(L++M,at0+1),by cbv,by omega,p1,yaL _ h2,p2,by simp;omega,λe he hm=>?_⟩;rw[List.take_append_of_le_length ⋯,av hla]at hm;rcases yaM hm with hm|hm;exact yaL _ (h5 e he hm);exact p3 e he (ysM hm)
 ·have e:at0=L.length:=by rw[Ge]at hc;omega
  lia
  apply q L h1 λx=>⟨h3 x,λr=>r.clo (λe' he' hm=>h5 e' he' ?_) h2⟩;rw[e,GN];exact hm
section
variable {O:Rho}{S:Type}{fr:List (Option Nat)}{g:MG}{a b ek cbv:ME}{QE':R->Rho->Prop}
def tU(st:S->Rho)(P:Nat->S->List Key->List T->Prop){ma:ME} (h:WE ma O λr O1=>∃is:List I,eM r=some (is.map λi=>⟨.ow,.im i⟩)/\is.length<sizeLine/\(cm fr O1.length&&cr (g.mu++([]++(ek.mu++cbv.mu))) fr.length&&ax (muF fr (g.mu++([]++(ek.mu++cbv.mu)))) r)=true/\∃s0,O1=st s0/\P 0 s0 [] [] /\
  (∀(j:Nat) x s ks ts,is[j]?=some x->P j s ks ts->WG g ⟨.ow,.im x⟩ (inR fr (st s)) λO1=>WE ek O1 λrk O3=>∃q,mI rk=some q/\q∉ks/\WE cbv O3 λr O4=>∃t s',r=⟨.ow,t⟩/\bK fr (g.mu++([]++(ek.mu++cbv.mu))) O4 (st s)=st s'/\P (j+1) s' (ks++[q]) (ts++[t])) /\
  ∀s ks ts,P is.length s ks ts->QE' ⟨.ow,kZ ks ts⟩ (st s)):WE (g8 fr (mIt ma) g mYes ek cbv) O QE':=by unhygienic
 obtain⟨r,O1,e1,is,e2,hl,al,s0,rfl,h0,hs,he⟩:=h;apply zF (nr ⟨r,_,e1,_,e2,(by rw[Ht,Ix,IJ];exact al),by simpa using hl,λj ks ts O=>∃s,O=st s/\P j s ks ts,⟨s0,rfl,h0⟩,λj r ks ts O hr hI=>?_,λks ts O hI=>?_⟩)
 ·obtain⟨x,hx,rfl⟩:=aC hr;obtain⟨s,rfl,hP⟩:=hI;apply(hs j x s ks ts hx hP).mono λO1 q=>jz ⟨λ_=>q.mono λrk O3 ⟨q0,h1,h2,q2⟩=>⟨q0,h1,h2,q2.mono λr O4 ⟨t,s',e,e',hP'⟩=>⟨t,e,s',e',hP'⟩⟩,λz=>by cases z⟩
 ·obtain⟨s,rfl,hP⟩:=hI;exact he s ks ts (by exists hP)
def wX(h:WE a O λra O1=>WE b O1 λrb O2=>Gu (ax b.mu ra) (∃q,mI rb=some q/\W1 (ixD ra q) λr=>QE' r O2)):WE (ku a b) O QE':=by
 obtain⟨ra,O1,e1,rb,O2,e2,al,q,e3,r,e4,k⟩:=h;exact⟨r,O2,by dsimp[ku,e1,e2,al,if_true,e3,e4],k⟩
def z6{k k':Kd}{q:Key}{kvs:List (I×T)}{L:List I}{Q:R->Prop}(h:cY kvs (eg q)=some (.li L))(hk:ixK k (some (.ky (eg q)))=some k')(qq:Q ⟨k',.li L⟩):W1 (ixD ⟨k,.dc kvs⟩ q) Q:=by
 apply⟨⟨k',.li L⟩,?_,qq⟩;unfold ixD;dsimp only;rw[h];dsimp only;unfold ixP;dsimp only;rw[hk]
end
abbrev tDc(f:Str->List Str) (N:List Str):T:=.dc (N.map λz=>(.str z,.li ((f z).map .str)))
def mK{f:Str->List Str}{z:Str}:∀{N:List Str},z∈N->cY (N.map λz=>((.str z,.li ((f z).map .str)):I×T)) (eg (.inr z))=some (.li ((f z).map .str))
 | a::N,h=>by
  rw[Gg,cY];by_cases e:a=z;subst e;exact if_pos rfl
  ·rw[if_neg (show ¬ I.str a=eg (.inr z)from λz'=>e (I.str.inj z'))];exact mK ((ycM h).resolve_left λz'=>e z'.symm)
def xY{f:Str->List Str}:∀N:List Str,kZ (N.map .inr) (N.map λz=>.li ((f z).map .str))=tDc f N:=by
 have key:∀N:List Str,Kb (λ(k:Key) (t:T)=>(eg k,t)) (N.map .inr) (N.map λz=>T.li ((f z).map .str))=N.map λz=>((.str z,.li ((f z).map .str)):I×T):=by
  intro N
  induction N with
  | nil=>rfl
  | cons a N ih=>rw[Gg,Gg,Jv,ih];rfl
 intro N;unfold kZ tDc;rw[key]
def qO{N:List Str}(hn:N.Nodup){j:Nat}{z:Str}(hz:N[j]?=some z):z∉N.take j:=λhm=>by
 obtain⟨i,hi,e⟩:=HL.mp hm;have hj:=(Gc.mp hz).1;have:=(List.getElem?_inj (i:=i) (j:=j) ⋯ hn).mp (by rw[hz,GD ⋯,e]);omega
def j6:∀{l acc:List (List Str)},(l.foldl fQ acc).length<=acc.length+l.length
 | [],acc=>Gj _
 | k::l,acc=>by
  rw[Hk];apply GV (j6 (l:=l)) ?_;unfold fQ;split<;>simp<;>omega
def ni(k:List Str):(tKn k).dok=true:=(bz k).1
def aY(l:List (List Str)):I.doks (l.map tKn)=true/\I.deps (l.map tKn)<=50:=by
 induction l with
 | nil=>exact⟨rfl,by decide⟩
 | cons a l ih=>
  have h0:I.deps (a.map I.str)=0:=by
   induction a with
   | nil=>rfl
   | cons b a iha=>rw[Gg,I.deps,iha];rfl
  rw[Gg,I.doks,I.deps,ni,ih.1];apply⟨rfl,?_⟩;have e1:(tKn a).dep=1:=by show I.deps (a.map I.str)+1=1;rw[h0]
  have:=ih.2;rw[e1];omega
def uL{N:List Str}{E:List (Str×Str)}(h:EIn N E)(hn:N.Nodup)(hN:N.length<=1000){Q:T->Prop}(q:Q (.li ((dk N E N).map tKn))):W1 (dg [.li (N.map .str),.li (E.map tEd)]) Q:=by
 apply KZ [some ⟨.vw none none,.li (N.map .str)⟩,some ⟨.vw none none,.li (E.map tEd)⟩,none,none,none,none] rfl rfl rfl ?_;unfold cb
 lia
 apply tU (λ_:Unit=>[some ⟨.vw none none,.li (N.map .str)⟩,some ⟨.vw none none,.li (E.map tEd)⟩,none,none,none,none]) (λj _ ks ts=>ks=(N.take j).map .inr/\∃f:Str->List Str,ts=(N.take j).map (λz=>.li ((f z).map .str))/\∀z∈N.take j,∀x,x∈f z↔Rch E z x) ?_
 lia
 apply⟨N.map .str,rfl,by simp;rw[LL];omega,by cbv,(),by cbv,⟨rfl,λ_=>[],rfl,by simp⟩,λj x _ ks ts hx hP=>?_,λ_ ks ts hP=>?_⟩
 ·obtain⟨z,hz,rfl⟩:=aC hx;have hzN:=ymG hz;obtain⟨rfl,f,rfl,hf⟩:=hP
  lia
  apply⟨.inr z,rfl,?_,?_⟩
  ·intro hm;obtain⟨y,hy,e⟩:=Gn.mp hm;exact qO hn hz (Q3 e▸hy)
  ·lia
   apply pP h hzN hN λL hL1 hL2=>?_;apply⟨.li (L.map .str),(),rfl,by cbv,by rw[av hz,Gq];rfl,λy=>if y=z then L else f y,?_,λy hy=>?_⟩
   ·rw[av hz,Gq];congr 1
    ·apply HH λy hy=>?_;show T.li _=T.li ((if y=z then L else f y).map .str);rw[if_neg (λ(e:y=z)=>qO hn hz (e▸hy))]
    ·show [T.li (L.map .str)]=[T.li ((if z=z then L else f z).map .str)];rw[if_pos rfl]
   ·rw[av hz]at hy;show∀x,x∈(if y=z then L else f y)↔_;by_cases e:y=z;subst e;intro x;rw[if_pos rfl];exact hL2 x
    ·rw[if_neg e];exact hf y ((yaM hy).resolve_right λz'=>e (ysM z'))
 obtain⟨rfl,f,rfl,hf⟩:=hP;rw[Ge,GN]at hf|-;have fb:∀z∈N,∀x,decide (I.str x∈(f z).map I.str)=rb N E z x:=λz hz x=>by
  rw[GR,decide_eq_true_eq,K0,hf z hz,bM h hz]
 rw[xY]
 lia
 apply cK (λL:List (List Str)=>[some ⟨.vw none none,.li (N.map .str)⟩,some ⟨.vw none none,.li (E.map tEd)⟩,⇑(tDc f N),⇑(.li (L.map tKn)),none,none]) (λj L=>L=((N.take j).map (kn N E)).foldl fQ []) ?_
 lia
 apply⟨N.map .str,rfl,by cbv,[],by cbv,rfl,λj x L hx hP=>?_,λL hP=>?_⟩
 ·obtain⟨z,hz,rfl⟩:=aC hx;have hzN:=ymG hz
  lia
  apply db (λ_:Unit=>[some ⟨.vw none none,.li (N.map .str)⟩,some ⟨.vw none none,.li (E.map tEd)⟩,⇑(tDc f N),⇑(.li (L.map tKn)),↥(.str z),none]) I.str (λk _ l=>l=(N.take k).filter λo=>rb N E z o&&rb N E o z) ?_
  lia
  apply⟨N.map .str,rfl,by simp;rw[LL];omega,by cbv,(),by cbv,rfl,λk y _ l hy hl=>?_,λ_ l hl=>?_⟩
  ·obtain⟨o,ho,rfl⟩:=aC hy;have hoN:=ymG ho
   lia
   have snoc:(N.take (k+1)).filter (λo=>rb N E z o&&rb N E o z)=(N.take k).filter (λo=>rb N E z o&&rb N E o z)++if(rb N E z o&&rb N E o z)=true then [o]else []:=by
    rw[av ho,G3,GM];rfl
   apply wX ?_
   lia
   apply⟨.inr z,rfl,z6 (mK hzN) rfl ?_⟩
   lia
   apply nR ⟨rfl,(bz _).1,(bz _).2⟩ ?_;rw[fb z hzN o]
   lia
   clear_value c1
   ·lia
    apply wX ?_
    lia
    apply⟨.inr o,rfl,z6 (mK hoN) rfl ?_⟩
    lia
    apply nR ⟨rfl,(bz _).1,(bz _).2⟩ ?_;rw[fb o hoN z]
    lia
    clear_value c2
    ·lia
     exact⟨o,(),rfl,by cbv,by rw[hl,snoc,show rb N E z o=true from decide_eq_true c1,show rb N E o z=true from decide_eq_true c2];rfl⟩
    ·lia
     exact⟨(),by cbv,by rw[hl,snoc,show rb N E z o=true from decide_eq_true c1,show rb N E o z=false from decide_eq_false c2];simp⟩
   ·lia
    apply spF ?_
    lia
    exact⟨(),by cbv,by rw[hl,snoc,show rb N E z o=false from decide_eq_false c1];simp⟩
  rw[Ge,GN]at hl;have hl':l=kn N E z:=hl;subst hl'
  lia
  apply bI ?_
  lia
  have hLd:L.length<=j:=by rw[hP];exact GV j6 (by simp;omega)
  apply kC (i:=tKn (kn N E z)) (is:=L.map tKn) ⟨ni _,aY _⟩ ?_
  lia
  clear_value c1
  ·lia
   apply bL (is:=L.map tKn) (i:=tKn (kn N E z)) (by simp;rw[LL];have:=(Gc.mp hz).1;omega) ?_;ac_nf
   lia
   apply⟨L++[kn N E z],?_,?_⟩;rw[Gq];try cbv
   ·rw[av hz,Gq,Jb,<-hP];show _=fQ L _;unfold fQ;rw[if_neg (λz'=>c1 (Lw.mpr z'))]
  ·lia
   apply⟨L,by cbv,?_⟩;rw[av hz,Gq,Jb,<-hP];show _=fQ L _;unfold fQ;rw[if_pos (Lw.mp c1)]
 ·rw[Ge,GN]at hP;subst hP
  lia
  exact q
def uz{E:List (Str×Str)}{k told:List Str}(hE:E.length<=1000){Q:T->Prop}(q:Q (.im (.bl (ja E k told)))):W1 (hU [.im (tKn k),.li (told.map .str),.li (E.map tEd)]) Q:=by
 apply KZ [↥(tKn k),some ⟨.vw none none,.li (told.map .str)⟩,some ⟨.vw none none,.li (E.map tEd)⟩] rfl rfl rfl ?_;unfold fu
 lia
 apply db (λ_:Unit=>[↥(tKn k),some ⟨.vw none none,.li (told.map .str)⟩,some ⟨.vw none none,.li (E.map tEd)⟩]) I.bl (λj _ l=>l=((E.take j).filter λe=>decide (e.1∈k)).map λe=>decide (e.2∈k)||decide (e.2∈told)) ?_
 lia
 apply⟨E.map tEd,rfl,by simp;rw[LL];omega,by cbv,(),by cbv,rfl,λj y _ l hy hl=>?_,λ_ l hl=>?_⟩
 ·obtain⟨e,he,rfl⟩:=aC hy;rw[tEd]
  lia
  apply qQ (i:=.str e.1) (is:=k.map .str) ⟨rfl,(bz _).1,(bz _).2⟩ ?_
  lia
  have snoc:((E.take (j+1)).filter λe=>decide (e.1∈k)).map (λe=>decide (e.2∈k)||decide (e.2∈told))=((E.take j).filter λe=>decide (e.1∈k)).map (λe=>decide (e.2∈k)||decide (e.2∈told))++if e.1∈k then [decide (e.2∈k)||decide (e.2∈told)]else []:=by
   rw[av he,G3,Gq,GM];congr 1;by_cases c:e.1∈k;rw[if_pos c,if_pos (decide_eq_true c)];rfl;rw[if_neg c,if_neg (by rw[decide_eq_false c];decide)];rfl
  clear_value c1
  ·have c1':=K0.mp c1
   lia
   apply qQ (i:=.str e.2) (is:=k.map .str) ⟨rfl,(bz _).1,(bz _).2⟩ ?_
   lia
   clear_value c2
   ·exact⟨true,(),rfl,by cbv,by rw[hl,snoc,if_pos c1',decide_eq_true (K0.mp c2)];rfl⟩
   ·lia
    apply nR (i:=.str e.2) (is:=told.map .str) ⟨rfl,(bz _).1,(bz _).2⟩ ?_
    lia
    apply⟨decide (e.2∈told),(),?_,by cbv,by rw[hl,snoc,if_pos c1',decide_eq_false (λz=>c2 (K0.mpr z))];rfl⟩;congr 3;rw[GR,decide_eq_true_eq,decide_eq_true_eq,K0]
  ·lia
   exact⟨(),by cbv,by rw[hl,snoc,if_neg (λz=>c1 (K0.mpr z)),Gy]⟩
 ·rw[Ge,GN]at hl;subst hl
  lia
  apply DS ?_
  lia
  have e:ja E k told=(((E.filter λe=>decide (e.1∈k)).map λe=>decide (e.2∈k)||decide (e.2∈told))).all id:=by
   unfold ja;rw[JZ];rfl
  rw[<-e];exact q
abbrev tS3(p:(Str×Str)×List Int):I:=aA p.1.1 (p.1.2,p.2)
def uf{S:List ((Str×Str)×List Int)}{a b:Str}(hS:S.length<=1000){Q:T->Prop}(q:∀c:Bool,(c=true↔Rch (S.map (·.1)) a b)->Q (.im (.bl c))):W1 (jm [.li (S.map tS3),.im (.str a),.im (.str b)]) Q:=by
 apply KZ [some ⟨.vw none none,.li (S.map tS3)⟩,↥(.str a),↥(.str b),none,none] rfl rfl rfl ?_;unfold gy
 lia
 apply cW (λL:List Str=>[some ⟨.vw none none,.li (S.map tS3)⟩,↥(.str a),↥(.str b),⇑(.li (L.map .str)),none]) (λj L=>L=cms (S.map (·.1)) j [a]) ?_
 lia
 rw[Ge];apply⟨⟨by omega,by omega⟩,[a],by cbv,rfl,λj L hj hL=>?_,λL hL=>?_⟩
 ·have hl:=(fV (S.map (·.1)) a j).2.2.2.1;rw[<-hL]at hl
  lia
  apply db (λ_:Unit=>[some ⟨.vw none none,.li (S.map tS3)⟩,↥(.str a),↥(.str b),⇑(.li (L.map .str)),↥(.int j)]) I.str (λi _ l=>l=(((S.map (·.1)).take i).filter λe=>decide (e.1∈L)&&decide (e.2∉L)).map (·.2)) ?_
  lia
  apply⟨S.map tS3,rfl,by simp;rw[LL];omega,by cbv,(),by cbv,rfl,λi y _ l hy hl'=>?_,λ_ l hl'=>?_⟩
  ·obtain⟨p,hp,rfl⟩:=aC hy;have he:(S.map (·.1))[i]?=some p.1:=by rw[Go,hp];rfl
   have snoc:(((S.map (·.1)).take (i+1)).filter λe=>decide (e.1∈L)&&decide (e.2∉L)).map (·.2)=l++if p.1.1∈L/\p.1.2∉L then [p.1.2]else []:=by
    rw[av he,G3,Gq,<-hl',GM];congr 1;by_cases c1:p.1.1∈L<;>by_cases c2:p.1.2∈L<;>simp[c1,c2]
   rw[tS3,aA]
   lia
   apply nR (i:=.str p.1.1) (is:=L.map .str) ⟨rfl,(bz _).1,(bz _).2⟩ ?_
   lia
   clear_value c1
   ·have c1':=K0.mp c1
    lia
    apply kC (i:=.str p.1.2) (is:=L.map .str) ⟨rfl,(bz _).1,(bz _).2⟩ ?_
    lia
    clear_value c2
    ·lia
     exact⟨p.1.2,(),rfl,by cbv,by rw[snoc,if_pos ⟨c1',λz=>c2 (K0.mpr z)⟩]⟩
    ·lia
     exact⟨(),by cbv,by rw[snoc,if_neg (λz=>z.2 (K0.mp c2)),Gy]⟩
   ·lia
    exact⟨(λz=>by cases z),λ_=>⟨(),by cbv,by rw[snoc,if_neg (λz=>c1 (K0.mpr z.1)),Gy]⟩⟩
  rw[Ge,<-Ge (f:=(·.1)) (as:=S),GN]at hl'
  lia
  rw[i7 ⋯];apply pH (by simp;rw[LL];omega) ?_;ac_nf
  lia
  apply⟨L++nxt (S.map (·.1)) L,?_,by rw[cms,<-hL]⟩;rw[Gq,nxt,<-hl',Io];try cbv
 lia
 apply nR (i:=.str b) (is:=L.map .str) ⟨rfl,(bz _).1,(bz _).2⟩ ?_
 lia
 apply q _ ?_;rw[decide_eq_true_eq,K0,hL,<-xu,Ge];try rfl
abbrev CT(S:List I) (s:I):I:=.int ((S.findIdx λj=>decide (j=s)):Nat)
def nC:∀{is:List I} {i:I},I.doks is=true->i∈is->i.dok=true
 | j::is,i,h,hm=>by
  rw[I.doks,Gd]at h;rcases ycM hm with rfl|hm;exact h.1;exact nC h.2 hm
def lb{w wh w' wh':Int}{ds es:List (Str×Ru)}(hd:ds.length<=6)(hn:(ds.map (·.1)).Nodup)(hl:∀p∈ds,p.2.leaves.length<=22)(hd':es.length<=6)(hn':(es.map (·.1)).Nodup)(hl':∀p∈es,p.2.leaves.length<=22)
  (hs:∀s∈aK es,s∈aK ds) {Q:T->Prop} (q:Q (.im (.tup ((aK es).map (CT (aK ds)))))):W1 (dQ [.im (aL w wh ds),.im (aL w' wh' es)]) Q:=by
 have hle:=fo hl';apply KZ [↥(aL w wh ds),↥(aL w' wh' es),none] rfl rfl rfl ?_;unfold cx
 lia
 apply jh hd hn hl ?_
 lia
 apply dX (λ_:Unit=>[↥(aL w wh ds),↥(aL w' wh' es),⇑(.li (aK ds))]) (CT (aK ds)) (λj _ L=>L=(aK es).take j) ?_
 lia
 apply jh hd' hn' hl' ?_;apply⟨aK es,rfl,by rw[LL];omega,by cbv,(),by cbv,rfl,λj x _ l hx hL=>?_,λ_ l hL=>?_⟩
 ·have hm:=hs x (ymG hx)
  lia
  apply DX (is:=aK ds) (i:=x) ⟨nC dJ.1 hm,dJ.1,dJ.2,hm⟩ ?_
  lia
  exact⟨x,(),rfl,by cbv,by rw[hL,av hx]⟩
 rw[GN]at hL;subst hL
 lia
 exact q
abbrev eAt(ds:List (Str×Ru)) (j:Nat):Str×Str:=match (SL ds)[j]? with
 | some q=>(q.1,q.2.1)
 | none=>("","")
abbrev eds(ds:List (Str×Ru)) (js:List Nat):List (Str×Str):=js.map (eAt ds)
abbrev tNs(js:List Nat):I:=.tup (js.map λj:Nat=>I.int (j:Int))
def xw{w wh:Int}{ds:List (Str×Ru)}{js:List Nat}(hd:ds.length<=6)(hl:∀p∈ds,p.2.leaves.length<=40)(hj:∀j∈js,j<(SL ds).length)(hjs:js.length<=1000){Q:T->Prop}(q:Q (.li ((eds ds js).map tEd))):W1 (eQ [.im (aL w wh ds),.im (tNs js)]) Q:=by
 apply KZ [↥(aL w wh ds),↥(tNs js),none] rfl rfl rfl ?_;unfold cV
 lia
 apply pW hd hl ?_;rw[jY]
 lia
 apply dX (λ_:Unit=>[↥(aL w wh ds),↥(tNs js),↥(.tup ((SL ds).map λq=>aA q.1 q.2))]) tEd (λk _ l=>l=eds ds (js.take k)) ?_
 lia
 apply⟨js.map λj:Nat=>I.int (j:Int),rfl,by simp;rw[LL];omega,by cbv,(),by cbv,rfl,λk x _ l hx hP=>?_,λ_ l hP=>?_⟩
 ·obtain⟨j,hj',rfl⟩:=aC hx;have hlt:=hj j (ymG hj');have hg:(SL ds)[j]?=some (SL ds)[j]:=by simp[hlt]
  have he:eAt ds j=((SL ds)[j].1,(SL ds)[j].2.1):=by unfold eAt;rw[hg]
  lia
  apply uX (emb:=λq:Str×Str×List Int=>aA q.1 q.2) (ns:=SL ds) ⋯ ⋯ λy hy=>?_;have ey:y=(SL ds)[j]:=by
   have hy':(SL ds)[j]?=some y:=by exists hy
   rw[hg]at hy';cases hy';rfl
  subst ey
  lia
  apply uX (emb:=λq:Str×Str×List Int=>aA q.1 q.2) (ns:=SL ds) ⋯ ⋯ λy hy=>?_;have ey:y=(SL ds)[j]:=by
   have hy':(SL ds)[j]?=some y:=by exists hy
   rw[hg]at hy';cases hy';rfl
  subst ey
  lia
  apply⟨eAt ds j,(),?_,by cbv,by rw[hP,av hj'];unfold eds;rw[Gq];rfl⟩;rw[he];rfl
 ·rw[Ge,GN]at hP;subst hP
  lia
  exact q
def jD{α:Type}{p : α->Bool}:∀{l:List α} {x : α},l.find? p=some x->∃r,l.filter p=x::r
 | [],_,h=>by cases h
 | a::l,x,h=>by
  rw[HF]at h;rw[GM];cases e:p a with
  | true=>rw[e]at h;cases h;exact⟨l.filter p,rfl⟩
  | false=>rw[e]at h;exact jD h
def AJ{N:List Str}{E:List (Str×Str)}{left:List Str}(h:dk N E left=[]):left=[]:=by
 cases left with
 | nil=>rfl
 | cons a l=>
  have:kn N E a∈dk N E (a::l):=ded2_mem.mpr (.inr (by rw[Gg];exact ymS));rw[h]at this;cases this
def uE{w wh:Int}{ds:List (Str×Ru)}{js:List Nat}(hd:ds.length<=6)(hn:(ds.map (·.1)).Nodup)(hl:∀p∈ds,p.2.leaves.length<=40)(hj:∀j∈js,j<(SL ds).length)(hjs:js.length<=1000)(h:EIn (ds.map (·.1)) (eds ds js)){Q:T->Prop}
  (q:Q (.im (.tup ((fv (ds.map (·.1)) (eds ds js) ds.length (ds.map (·.1))).map tKn)))):W1 (bo [.im (aL w wh ds),.im (tNs js)]) Q:=by
 have hE:(eds ds js).length<=1000:=by unfold eds;rw[Ge];exact hjs
 generalize hEe:eds ds js=E at h hE q;generalize hNe:ds.map (·.1)=N at h hn q;have hNl:N.length=ds.length:=by rw[<-hNe,Ge]
 apply KZ [↥(aL w wh ds),↥(tNs js),none,none,none,none,none] rfl rfl rfl ?_;unfold dz
 lia
 apply xw hd hl hj hjs ?_;rw[hEe]
 lia
 apply dX (λ_:Unit=>[↥(aL w wh ds),↥(tNs js),⇑(.li (E.map tEd)),none,none,none,none]) I.str (λk _ l=>l=(ds.take k).map (·.1)) ?_;rw[aL]
 lia
 apply⟨ds.map eK,rfl,by simp;rw[LL];omega,by cbv,(),by cbv,rfl,λk x _ l hx hP=>?_,λ_ l hP=>?_⟩
 ·obtain⟨d,hd',rfl⟩:=aC hx;rw[eK]
  lia
  exact⟨d.1,(),rfl,by cbv,by rw[hP,av hd',Gq];rfl⟩
 rw[Ge,GN,hNe]at hP;subst hP
 lia
 apply uL h hn ⋯ ?_
 lia
 apply iX (λs:List Str×List (List Str)×List Str=>[↥(aL w wh ds),↥(tNs js),⇑(.li (E.map tEd)),⇑(.li ((dk l E s.1).map tKn)),⇑(.li (s.2.1.map tKn)),⇑(.li (s.2.2.map .str)),none]) (λs=>Lq l E s.1 s.2.2/\s.2.1++fv l E s.1.length s.1=fv l E ds.length l/\s.2.1.length+s.1.length<=l.length/\s.2.2.length<=s.2.1.length*l.length) (λs=>s.1.length) (l,[],[]) (by cbv) ⟨Lq.first h,by rw[hNl];rfl,by simp,by simp⟩ λs hs=>?_;obtain⟨left,knots,told⟩:=s;obtain⟨i1,i2,i3,i4⟩:=hs;dsimp only at i1 i2 i3 i4|-
 lia
 apply vb ?_
 lia
 clear_value hc
 ·have hne:left≠[]:=λz=>by subst z;simp[dk]at hc
  obtain⟨z0,hz0,hdz0⟩:=nD h i1.sub hne;obtain⟨z,hz⟩:∃z,left.find? (gW l E left)=some z:=by
   have:=Ja.mpr ⟨z0,hz0,hdz0⟩;exact Hi.mp this
  have hzl:=HM hz;have hzd:gW l E left z=true:=List.find?_some hz;have hf:=i1.find h;rw[hz]at hf;obtain⟨r,hr⟩:=jD hf;have hkm:kn l E z∈dk l E left:=HM hf;have hknl:(kn l E z).length<=l.length:=by unfold kn;exact IC _ _
  have hdkl:(dk l E left).length<=left.length:=by have:=j6 (l:=left.map (kn l E)) (acc:=[]);simpa[dk]using this
  have hlt:=je h hzl (i1.sub z hzl)
  lia
  apply db (λ_:Unit=>[↥(aL w wh ds),↥(tNs js),⇑(.li (E.map tEd)),⇑(.li ((dk l E left).map tKn)),⇑(.li (knots.map tKn)),⇑(.li (told.map .str)),none]) tKn (λk _ L=>L=((dk l E left).take k).filter λk=>ja E k told) ?_
  lia
  apply⟨(dk l E left).map tKn,rfl,by simp;rw[LL];omega,by cbv,(),by cbv,rfl,λk y _ L hy hL=>?_,λ_ L hL=>?_⟩
  ·obtain⟨x,hx,rfl⟩:=aC hy
   lia
   apply uz hE ?_
   lia
   have snoc:((dk l E left).take (k+1)).filter (λk=>ja E k told)=((dk l E left).take k).filter (λk=>ja E k told)++if ja E x told=true then [x]else []:=by
    rw[av hx,G3,GM];rfl
   clear_value c1
   ·lia
    exact⟨x,(),rfl,by cbv,by rw[hL,snoc,if_pos c1]⟩
   ·lia
    exact⟨(),by cbv,by rw[hL,snoc,if_neg (by rw[c1];decide),Gy]⟩
  rw[Ge,GN,hr]at hL;subst hL
  lia
  apply fc (emb:=tKn) (ns:=kn l E z::r) ⋯ ∅ λy hy=>?_;have ey:y=kn l E z:=by
   have hy':(kn l E z::r)[0]?=some y:=hy;cases hy';rfl
  subst ey
  lia
  apply D2 (i:=tKn (kn l E z)) (is:=(dk l E left).map tKn) ⟨ni _,(aY _).1,(aY _).2,Lw.mpr hkm⟩ ?_;have hnd:(dk l E left).Nodup:=qx Hj;rw[nF hnd hkm,xv h i1.sub hzl];ac_nf
  lia
  apply bL (is:=knots.map tKn) (i:=tKn (kn l E z)) (by simp;rw[LL];omega) ?_;ac_nf
  lia
  have hb:told.length<=1000:=by
   have h1:knots.length<=6:=by omega
   have h2:knots.length*l.length<=6*6:=IU h1 ⋯;omega
  apply uW (is:=told.map .str) (js:=(kn l E z).map .str) (by simp;rw[LL];omega) ?_;ac_nf
  lia
  apply⟨(left.filter λo=>!decide (o∈kn l E z),knots++[kn l E z],told++kn l E z),?_,hlt,i1.step h hzl hzd,?_,?_,?_⟩
  ·dsimp only;rw[Gq,Gq];try cbv
  ·dsimp only;rw[<-i2,Gx];congr 1;obtain⟨n,hn'⟩:∃n,left.length=n+1:=⟨left.length-1,by omega⟩;rw[hn',fv,hz];show kn l E z::_=kn l E z::_;congr 1;exact lI h _ _ _ (λx hx=>i1.sub x (Gk.mp hx).1) (Gj _) ⋯
  ·dsimp[Gr,IA];omega
  ·show(told++kn l E z).length<=(knots++[kn l E z]).length*l.length;rw[Gr,Gr,IA,Nat.add_mul,Nat.one_mul];omega
 ·have hem:left=[]:=AJ (N:=l) (E:=E) (by
   have:((dk l E left).map tKn).isEmpty=true:=by exists hc
   exact Im.mp (List.isEmpty_iff.mp this))
  subst hem
  lia
  have e:knots=fv l E ds.length l:=by rw[<-i2];exact(Gy _).symm
  rw[e];exact q
def BF{is js:List I}{Q:T->Prop}(h:I.doks is=true/\I.doks js=true/\I.deps is<=50)(q:Q (.im (.bl (!decide (is=js))))):W1 (neT (.li is) (.li js)) Q:=⟨_,by dsimp[neT,eqB];rw[if_pos h];rfl,q⟩
def mP{is js:List I}{Q:T->Prop}(h:I.doks is=true/\I.doks js=true/\I.deps is<=50)(q:Q (.im (.bl (decide (is=js))))):W1 (eqT (.li is) (.li js)) Q:=⟨_,by dsimp[eqT,eqB];rw[if_pos h];rfl,q⟩
section
variable {S α:Type}{O:Rho}{m:ME}{ms:MA}{ct:MT}{QE':R->Rho->Prop}{fr:List (Option Nat)}{i:Nat}
def tT(st:S->Rho)(emb : α->I)(P:Nat->S->List α->Prop) (h:WA ms O λrs O1=>Lz rs λn=>(-(2^62)<=n/\n<16000000)/\(cm fr O1.length&&cr ([i]++(ct.mu++m.mu)) fr.length)=true/\∃s0,O1=st s0/\P 0 s0 [] /\
  (∀(j:Nat) s l,(j:Int)<n->P j s l->WG (ag i) (jN j) (inR fr (st s)) λO1=>WT ct O1 λbb O2=>(bb=true->WE m O2 λr O3=>∃x s',r=⟨.ow,.im (emb x)⟩/\bK fr ([i]++(ct.mu++m.mu)) O3 (st s)=st s'/\P (j+1) s' (l++[x]))/\(bb=false->∃s',bK fr ([i]++(ct.mu++m.mu)) O2 (st s)=st s'/\P (j+1) s' l)) /\
  ∀s l,P n.toNat s l->QE' ⟨.ow,.li (l.map emb)⟩ (st s)):WE (aU fr (bc ms) (ag i) ct m) O QE':=by unhygienic
 obtain⟨rs,O1,e1,n,e2,h1,al,s0,rfl,h0,hs,he⟩:=h;apply no (rL ⟨rs,_,e1,n,e2,⟨h1.1,by omega⟩,?_,?_,λj acc O=>∃s l,acc=l.map (λx=>T.im (emb x))/\O=st s/\P j s l,⟨s0,[],rfl,rfl,h0⟩,?_,?_⟩)
 ·rw[Gd]at al|-;rw[Gd];exact⟨⟨al.1,al.2⟩,rfl⟩
 ·rw[LL];simp[gi];omega
 ·rintro j r acc O hr ⟨s,l,rfl,rfl,hP⟩;obtain⟨x,hx,rfl⟩:=aC hr;obtain⟨a1,a2⟩:=Gc.mp hx;simp at a1 a2;subst a2;rw[J1];apply(hs j s l ⋯ hP).mono λO1 q=>q.mono λbb O2 ⟨q1,q2⟩=>⟨λhb=>(q1 hb).mono λr O3 ⟨x,s',e,e',hP'⟩=>⟨_,e,s',l++[x],by simp,e',hP'⟩,λhb=>?_⟩;obtain⟨s',e',hP'⟩:=q2 hb;exact⟨s',l,rfl,e',hP'⟩
 ·rintro acc O ⟨s,l,rfl,rfl,hP⟩;rw[e7];exact he s l (by simpa[gi]using hP)
end
abbrev pT(KS:List (List Str)):List (List Str):=gS (KS.map eJ)
def gH{KS:List (List Str)}(hk:KS.length<=6)(hs:∀k∈KS,k≠[]/\k.length<=6){Q:T->Prop}(q:Q (.li ((pT KS).map tKn))):W1 (fe [.im (.tup (KS.map tKn))]) Q:=by
 apply KZ [↥(.tup (KS.map tKn))] rfl rfl rfl ?_;unfold iL
 lia
 apply dX (λ_:Unit=>[↥(.tup (KS.map tKn))]) tKn (λj _ l=>l=(KS.take j).map eJ) ?_
 lia
 apply⟨KS.map tKn,rfl,by simp;rw[LL];omega,by cbv,(),by cbv,rfl,λj x _ l hx hP=>?_,λ_ l hP=>?_⟩
 ·obtain⟨k,hk',rfl⟩:=aC hx;have hkm:=hs k (ymG hk');rw[tKn]
  lia
  apply D6 hkm.2 ?_
  lia
  exact⟨eJ k,(),rfl,by cbv,by rw[hP,av hk',Gq];rfl⟩
 rw[Ge,GN]at hP;subst hP
 lia
 apply D5 (L:=KS.map eJ) (by rw[Ge];exact hk) (λss hss=>?_) ?_
 ·obtain⟨k,hkm,rfl⟩:=Gn.mp hss;intro e;have:=(ip k).length_eq;rw[e]at this;exact(hs k hkm).1 (G4.mp this.symm)
 ·lia
  exact q
def tH{KS KS':List (List Str)}(h:KS.Perm KS'):pT KS=pT KS':=il (h.map eJ)
def xy{ns:List Int}{k:Int}(hn:ns.length<=1000)(h1:0<=k)(h2:k<=1000000){Q:T->Prop}(q:∀f,Q (fT f)):W1 (kH [.li (ns.map .int),.im (.int k)]) Q:=by
 apply KZ [some ⟨.vw none none,.li (ns.map .int)⟩,↥(.int k),none,none] rfl rfl rfl ?_;unfold iK
 lia
 apply WS.mono (Q:=λfl O=>fl=.nx/\∃cell:Int,O=[some ⟨.vw none none,.li (ns.map .int)⟩,↥(.int k),↥(.int cell),none]) ?_ ?_
 ·(refine bI ?_;lia;clear_value hk)
  ·rw[Ge]at hk
   lia
   apply bn (ns:=ns) h1 hk λy hy _=>?_
   lia
   exact⟨by trivial,y,by first|trivial|cbv⟩
  ·(refine bI ?_;lia;clear_value hl)
   ·rw[Ge]at hl
    lia
    rw[Ge];apply u5 ⋯ ?_
    lia
    apply bn (ns:=ns) (Ia _ ⋯) (HK _ ⋯) λy hy _=>?_
    lia
    exact⟨by trivial,_,by first|trivial|cbv⟩
   ·lia
    exact⟨by trivial,_,by first|trivial|cbv⟩
 rintro fl O ⟨rfl,cell,rfl⟩
 lia
 apply WS.mono (Q:=λfl O=>fl=.nx/\∃own:Int,O=[some ⟨.vw none none,.li (ns.map .int)⟩,↥(.int k),↥(.int cell),↥(.int own)]) ?_ ?_
 ·apply bI ?_
  lia
  apply z9 ⟨by omega,by omega,by decide⟩ ?_
  lia
  clear_value hc
  ·lia
   exact⟨by trivial,_,by first|trivial|cbv⟩
  ·lia
   exact⟨by trivial,_,by first|trivial|cbv⟩
 rintro fl O ⟨rfl,own,rfl⟩
 lia
 have m0:=Ia cell (show(2147483629:Int)≠0 by omega);have m1:=HK cell (show(0:Int)<2147483629 by omega);apply z9 ⟨by omega,by omega,by omega⟩ ?_
 lia
 exact q (own,_)
def mj{w wh:Int}{ds:List (Str×Ru)}(h:lZ 10 w wh ds){js:List Nat}(hj:∀j∈js,j<(SL ds).length):EIn (ds.map (·.1)) (eds ds js):=by
 obtain⟨a1,a2,a3,a4,a5,a6,a7,a8,n,a9,a10⟩:=h;intro e he;obtain⟨j,hjm,rfl⟩:=Gn.mp he;have hlt:=hj j hjm;have hg:(SL ds)[j]?=some (SL ds)[j]:=by simp[hlt]
 have hm:(SL ds)[j]∈SL ds:=Km hlt;have he':eAt ds j=((SL ds)[j].1,(SL ds)[j].2.1):=by unfold eAt;rw[hg]
 rw[he'];generalize (SL ds)[j]=x at hm;unfold SL at hm;obtain⟨d,hd,hx⟩:=Ha.mp hm;obtain⟨p,hp,rfl⟩:=Gn.mp hx;exact⟨Gn.mpr ⟨d,hd,rfl⟩,((a10 d hd).2.2.1 _ (xX (xW hp))).1⟩
def Ay{ds:List (Str×Ru)}(hd:ds.length<=6)(hl:∀p∈ds,p.2.leaves.length<=22):(SL ds).length<=132:=by
 have h1:=fo hl;rw[jY,Ge]at h1;omega
def nQ{N:List Str}{E:List (Str×Str)}:∀{n:Nat} {left:List Str},(fv N E n left).length<=n
 | 0,_=>Gj _
 | n+1,left=>by
  rw[fv];split;exact GY _;rw[Gp];exact Jk nQ
abbrev s3(q:Str×Str×List Int):(Str×Str)×List Int:=((q.1,q.2.1),q.2.2)
abbrev jsB(m i:Nat):List Nat:=(Gz m).filter λj=>decide (j≠i)
abbrev ndz(ds:List (Str×Ru)):List Str:=ds.map (·.1)
def mH{m i j:Nat}(h:j∈jsB m i):j<m:=GU.mp (Gk.mp h).1
def qI{m i:Nat}:(jsB m i).length<=m:=by
 have:=IC (λj=>decide (j≠i)) (Gz m);rw[Ih]at this;exact this
abbrev Aw(KS:List (List Str)):Prop:=KS.length<=6/\∀k∈KS,k≠[]/\k.length<=6
def jQ{N:List Str}{E:List (Str×Str)}(hN:N.length<=6)(hE:EIn N E):Aw (kns N E):=by
 apply⟨?_,λk hk=>?_⟩
 ·have:=nQ (N:=N) (E:=E) (n:=N.length) (left:=N);unfold kns;omega
 ·obtain⟨z,hz,rfl⟩:=(bE hE).1 k hk;have hz':=b8 hE hz;have hl:(kn N E z).length<=N.length:=by unfold kn;exact IC _ _
  exact⟨λe=>(by rw[e]at hz';cases hz'),by omega⟩
structure Few(ds:List (Str×Ru))(js:List Nat)(a b:Str)(KS KS':List (List Str))(k0:List Str):Prop where
 f1:Aw KS
 f2:Aw KS'
 f3:∀k∈KS',∃o∈KS,∀y∈k,y∈o
 f4:k0∈KS/\a∈k0/\∀k∈KS,a∈k->k=k0
 f5:b∉k0\/Rch (eds ds js) a b->pT KS'=pT KS
 f6:b∈k0->¬Rch (eds ds js) a b->KS.length<KS'.length
def AO{w wh:Int}{ds:List (Str×Ru)}{i:Nat}(h:lZ 10 w wh ds){x:Str×Str×List Int}(hi:(SL ds)[i]?=some x) :
  Few ds (jsB (SL ds).length i) x.1 x.2.1 (kns (ndz ds) (eds ds (Gz (SL ds).length))) (kns (ndz ds) (eds ds (jsB (SL ds).length i))) (kn (ndz ds) (eds ds (Gz (SL ds).length)) x.1):=by
 have hN:(ndz ds).length<=6:=by unfold ndz;rw[Ge];exact h.2.2.2.2.2.1
 have hlt:i<(SL ds).length:=(Gc.mp hi).1;have hin:EIn (ndz ds) (eds ds (Gz (SL ds).length)):=mj h λj hj=>GU.mp hj;have hin':EIn (ndz ds) (eds ds (jsB (SL ds).length i)):=mj h λj hj=>mH hj;have he:eAt ds i=(x.1,x.2.1):=by unfold eAt;rw[hi]
 have hs:∀e∈eds ds (jsB (SL ds).length i),e∈eds ds (Gz (SL ds).length):=λe he=>by
  obtain⟨j,hj,rfl⟩:=Gn.mp he;exact Gn.mpr ⟨j,(Gk.mp hj).1,rfl⟩
 have hab:∀e∈eds ds (Gz (SL ds).length),e∈eds ds (jsB (SL ds).length i)\/e=(x.1,x.2.1):=λe he'=>by
  obtain⟨j,hj,rfl⟩:=Gn.mp he';by_cases c:j=i;subst c;exact .inr he;exact .inl (Gn.mpr ⟨j,Gk.mpr ⟨hj,by simpa using c⟩,rfl⟩)
 have ha:x.1∈ndz ds:=by
  have:=(hin (eAt ds i) (Gn.mpr ⟨i,GU.mpr hlt,rfl⟩)).1;rw[he]at this;exact this
 apply⟨jQ hN hin,jQ hN hin',λk hk=>?_,⟨(bE hin).2.1 _ ha,b8 hin ha,λk hk hm=>?_⟩,λhc=>tH (uG hin hs hab ha hc),uF hin hs ha⟩
 ·obtain⟨z,hz,rfl⟩:=(bE hin').1 k hk;exact⟨_,(bE hin).2.1 z hz,mJ hin hs hz⟩
 ·obtain⟨z,hz,rfl⟩:=(bE hin).1 k hk;exact((gO hin hz ha).mpr hm).symm
def um{w wh:Int}{ds:List (Str×Ru)}{i:Nat}{KS KS':List (List Str)}{k0:List Str}{x:Str×Str×List Int}(hS:(SL ds).length<=1000)(hi:(SL ds)[i]?=some x)(F:Few ds (jsB (SL ds).length i) x.1 x.2.1 KS KS' k0)
  (hk:∀{Q:T->Prop},Q (.im (.tup (KS'.map tKn)))->W1 (bo [.im (aL w wh ds),.im (tNs (jsB (SL ds).length i))]) Q) {Q:T->Prop} (q:Q (.im (.bl true))) :
  W1 (de [.im (aL w wh ds),.li ((SL ds).map λq=>aA q.1 q.2),.im (.int i),.im (.tup (KS.map tKn))]) Q:=by
 have hlt:i<(SL ds).length:=(Gc.mp hi).1;have hK:=F.f1.1;have hK':=F.f2.1;apply KZ [↥(aL w wh ds),some ⟨.vw none none,.li ((SL ds).map λq=>aA q.1 q.2)⟩,↥(.int i),↥(.tup (KS.map tKn)),none,none,none,none,none,none,none] rfl rfl rfl ?_;unfold b9
 lia
 apply tT (λ_:Unit=>[↥(aL w wh ds),some ⟨.vw none none,.li ((SL ds).map λq=>aA q.1 q.2)⟩,↥(.int i),↥(.tup (KS.map tKn)),none,none,none,none,none,none,none]) (λj:Nat=>I.int (j:Int)) (λk _ l=>l=jsB k i) ?_
 lia
 rw[Ge];apply⟨⟨by omega,by omega⟩,by cbv,(),by cbv,rfl,λj _ l hj hP=>?_,λ_ l hP=>?_⟩
 ·have snoc:jsB (j+1) i=l++if j≠i then [j]else []:=by
   rw[hP];unfold jsB;rw[Kt,G3];congr 1;by_cases c:j=i<;>simp[c]
  lia
  clear_value c1
  ·lia
   apply⟨j,(),rfl,by cbv,?_⟩;rw[snoc,if_pos (λe=>c1 (by rw[e]))]
  ·lia
   apply⟨(),by cbv,?_⟩;rw[snoc,if_neg (λe=>e ⋯),Gy]
 rw[GP]at hP;subst hP
 lia
 apply hk ?_
 lia
 apply cK (λ_:Unit=>[↥(aL w wh ds),some ⟨.vw none none,.li ((SL ds).map λq=>aA q.1 q.2)⟩,↥(.int i),↥(.tup (KS.map tKn)),↥(tNs (jsB (SL ds).length i)),↥(.tup (KS'.map tKn)),none,none,none,none,none]) (λj _=>True) ?_
 lia
 apply⟨KS'.map tKn,rfl,by cbv,(),by cbv,trivial,λj y _ hy _=>?_,λ_ _=>?_⟩
 ·obtain⟨k,hk',rfl⟩:=aC hy;have hkm:=ymG hk';have hkl:=(F.f2.2 k hkm).2
  lia
  apply bI ?_
  lia
  apply db (λ_:Unit=>[↥(aL w wh ds),some ⟨.vw none none,.li ((SL ds).map λq=>aA q.1 q.2)⟩,↥(.int i),↥(.tup (KS.map tKn)),↥(tNs (jsB (SL ds).length i)),↥(.tup (KS'.map tKn)),↥(tKn k),none,none,none,none]) tKn (λj _ l=>l=(KS.take j).filter λo=>decide ((k.filter λy=>decide (y∉o))=[])) ?_
  lia
  apply⟨KS.map tKn,rfl,by simp;rw[LL];omega,by cbv,(),by cbv,rfl,λj y _ l hy hP=>?_,λ_ l hP=>?_⟩
  ·obtain⟨o,ho,rfl⟩:=aC hy
   lia
   apply db (λ_:Unit=>[none,none,none,none,none,none,↥(tKn k),none,none,none,none,↥(tKn o)]) I.str (λj _ l=>l=(k.take j).filter λy=>decide (y∉o)) ?_
   lia
   apply⟨k.map .str,rfl,by simp;rw[LL];omega,by cbv,(),by cbv,rfl,λj' y' _ l' hy' hP'=>?_,λ_ l' hP'=>?_⟩
   ·obtain⟨z,hz,rfl⟩:=aC hy';have snoc:(k.take (j'+1)).filter (λy=>decide (y∉o))=l'++if z∉o then [z]else []:=by
     rw[av hz,G3,<-hP'];by_cases c:z∈o<;>simp[c]
    lia
    apply u9 (i:=.str z) (is:=o.map .str) ⟨rfl,(bz _).1,(bz _).2⟩ ?_
    lia
    clear_value c1
    ·lia
     exact⟨z,(),rfl,by cbv,by rw[snoc,if_pos λe=>c1 (K0.mpr e)]⟩
    ·lia
     exact⟨(),by cbv,by rw[snoc,if_neg λe=>e (K0.mp c1),Gy]⟩
   rw[Ge,GN]at hP';have snoc:(KS.take (j+1)).filter (λo=>decide ((k.filter λy=>decide (y∉o))=[]))=l++if l'=[]then [o]else []:=by
    rw[av ho,G3,<-hP,hP'];congr 1;by_cases c:(k.filter λy=>decide (y∉o))=[]<;>dsimp[c,GM,Kq,decide_true,decide_false,if_true,if_false,HA]
   lia
   apply mP ⟨(bz _).1,rfl,(bz _).2⟩ ?_
   lia
   clear_value c1
   ·lia
    exact⟨o,(),rfl,by cbv,by rw[snoc,if_pos (Im.mp c1)]⟩
   ·lia
    exact⟨(),by cbv,by rw[snoc,if_neg λe=>c1 (by rw[e];rfl),Gy]⟩
  rw[Ge,GN]at hP;have hne:l≠[]:=λe=>by
   obtain⟨o,h1,h2⟩:=F.f3 k hkm;rw[e]at hP;have:o∈([]:List (List Str)):=by
    rw[hP];apply Gk.mpr ⟨h1,decide_eq_true (List.filter_eq_nil_iff.mpr λy hy=>?_)⟩;simpa using h2 y hy
   cases this
  lia
  apply mP ⟨(aY _).1,rfl,(aY _).2⟩ ?_;rw[decide_eq_false λe=>hne (Im.mp e)]
  lia
  apply spF ?_
  lia
  exact⟨(),by cbv,trivial⟩
 lia
 apply fc (emb:=λq:Str×Str×List Int=>aA q.1 q.2) (ns:=SL ds) ⋯ ⋯ λy hy=>?_;have ey:y=x:=by
  have hy':(SL ds)[i]?=some y:=by exists hy
  rw[hi]at hy';cases hy';rfl
 subst ey;rw[aA]
 lia
 apply db (λ_:Unit=>[↥(aL w wh ds),some ⟨.vw none none,.li ((SL ds).map λq=>aA q.1 q.2)⟩,↥(.int i),↥(.tup (KS.map tKn)),↥(tNs (jsB (SL ds).length i)),↥(.tup (KS'.map tKn)),none,↥(.str y.1),↥(.str y.2.1),↥(.tup (y.2.2.map .int)),none]) tKn (λj _ l=>l=(KS.take j).filter λo=>decide (y.1∈o)) ?_
 lia
 apply⟨KS.map tKn,rfl,by simp;rw[LL];omega,by cbv,(),by cbv,rfl,λj z _ l hz hP=>?_,λ_ l hP=>?_⟩
 ·obtain⟨o,ho,rfl⟩:=aC hz;have snoc:(KS.take (j+1)).filter (λo=>decide (y.1∈o))=l++if y.1∈o then [o]else []:=by
   rw[av ho,G3,<-hP];by_cases c:y.1∈o<;>simp[c]
  lia
  apply qQ (i:=.str y.1) (is:=o.map .str) ⟨rfl,(bz _).1,(bz _).2⟩ ?_
  lia
  clear_value c1
  ·lia
   exact⟨o,(),rfl,by cbv,by rw[snoc,if_pos (K0.mp c1)]⟩
  ·lia
   exact⟨(),by cbv,by rw[snoc,if_neg λe=>c1 (K0.mpr e),Gy]⟩
 rw[Ge,GN]at hP;obtain⟨f1,f2,f3⟩:=F.f4;have hl0:0<l.length:=by
  have:k0∈l:=by rw[hP];exact Gk.mpr ⟨f1,decide_eq_true f2⟩
  exact HX this
 lia
 apply bI ?_
 lia
 apply fc (emb:=tKn) (ns:=l) ⋯ ⋯ λz hz=>?_;have ez:z=k0:=by
  have hm:=ymG hz;rw[hP]at hm;obtain⟨m1,m2⟩:=Gk.mp hm;exact f3 z m1 (of_decide_eq_true m2)
 subst ez
 lia
 apply u9 (i:=.str y.2.1) (is:=z.map .str) ⟨rfl,(bz _).1,(bz _).2⟩ ?_
 lia
 clear_value c1
 ·have c1':y.2.1∉z:=λe=>c1 (K0.mpr e)
  lia
  apply spT ?_
  lia
  apply gH F.f2.1 F.f2.2 ?_
  lia
  apply gH F.f1.1 F.f1.2 ?_
  lia
  apply mP ⟨(aY _).1,(aY _).1,(aY _).2⟩ ?_;rw[F.f5 (.inl c1'),decide_eq_true rfl]
  lia
  exact q
 ·have c1':y.2.1∈z:=K0.mp c1
  lia
  apply dX (λ_:Unit=>[↥(aL w wh ds),some ⟨.vw none none,.li ((SL ds).map λq=>aA q.1 q.2)⟩,↥(.int i),↥(.tup (KS.map tKn)),↥(tNs (jsB (SL ds).length i)),↥(.tup (KS'.map tKn)),none,↥(.str y.1),↥(.str y.2.1),↥(.tup (y.2.2.map .int)),⇑(.li (l.map tKn))]) tS3 (λk _ S=>S.map (·.1)=eds ds ((jsB (SL ds).length i).take k)/\S.length=k) ?_;have hjl:=qI (m:=(SL ds).length) (i:=i)
  lia
  apply⟨(jsB (SL ds).length i).map λj:Nat=>I.int (j:Int),rfl,by simp;rw[LL];omega,by cbv,(),by cbv,⟨rfl,rfl⟩,λk v _ S hv hP=>?_,λ_ S hP=>?_⟩
  ·obtain⟨j,hj,rfl⟩:=aC hv;have hjm:=mH (ymG hj)
   lia
   apply fc (emb:=λq:Str×Str×List Int=>aA q.1 q.2) (ns:=SL ds) ⋯ ⋯ λu hu=>?_;have hu':(SL ds)[j]?=some u:=by exists hu
   lia
   apply⟨s3 u,(),rfl,by cbv,?_,by rw[Gr,hP.2];rfl⟩;rw[Gq,hP.1,av hj];unfold eds;rw[Gq];congr 1;show [(u.1,u.2.1)]=[eAt ds j];unfold eAt;rw[hu']
  rw[Ge,GN]at hP
  lia
  apply uf ⋯ λc hc=>?_;rw[hP.1]at hc;cases c with
  | true=>
   lia
   apply spT ?_
   lia
   apply gH F.f2.1 F.f2.2 ?_
   lia
   apply gH F.f1.1 F.f1.2 ?_
   lia
   apply mP ⟨(aY _).1,(aY _).1,(aY _).2⟩ ?_;rw[F.f5 (.inr (hc.mp rfl)),decide_eq_true rfl]
   lia
   exact q
  | false=>
   have hm:=F.f6 c1' λe=>(by have:=hc.mpr e;cases this)
   lia
   apply spF ?_
   lia
   rw[Ge,Ge,decide_eq_true ⋯]
   lia
   exact q
abbrev edg(ds:List (Str×Ru)):List (Str×Str):=(SL ds).map λq=>(q.1,q.2.1)
def jP(ds:List (Str×Ru)):eds ds (Gz (SL ds).length)=edg ds:=by
 unfold eds edg;apply Jp ∅ λi h1 h2=>?_;simp at h1 h2;simp[eAt,h2]
def ql{ds es:List (Str×Ru)}(hp:es.Perm ds){q:Str×Str×List Int}:q∈SL es↔q∈SL ds:=by
 unfold SL;rw[Ha,Ha];exact⟨fun⟨d,h1,h2⟩=>⟨d,hp.mem_iff.mp h1,h2⟩,fun⟨d,h1,h2⟩=>⟨d,hp.mem_iff.mpr h1,h2⟩⟩
def nI:∀{a b:List Int},a.map I.int=b.map I.int->a=b
 | [],[],_=>rfl
 | [],_::_,h=>by cases h
 | _::_,[],h=>by cases h
 | x::a,y::b,h=>by
  rw[Gg,Gg,HD.injEq]at h;rw[I.int.inj h.1,nI h.2]
def wR{p q:Str×Str×List Int}(h:aA p.1 p.2=aA q.1 q.2):p=q:=by
 obtain⟨a,b,c⟩:=p;obtain⟨a',b',c'⟩:=q;unfold aA at h;dsimp[I.tup.injEq,HD.injEq,I.str.injEq,and_true]at h;rw[h.1,h.2.1,nI h.2.2]
abbrev jsO(ds es:List (Str×Ru)):List Nat:=(SL ds).map λq=>(aK es).findIdx λj=>decide (j=aA q.1 q.2)
def uA{ds es:List (Str×Ru)}(hp:es.Perm ds){q:Str×Str×List Int}(hq:q∈SL ds):(SL es)[(aK es).findIdx λj=>decide (j=aA q.1 q.2)]?=some q:=by
 have hm:aA q.1 q.2∈aK es:=by rw[jY];exact Gn.mpr ⟨q,(ql hp).mpr hq,rfl⟩
 have hlt:(aK es).findIdx (λj=>decide (j=aA q.1 q.2))<(aK es).length:=Iy ⟨_,hm,by simp⟩;have hat:=JI (w:=hlt);rw[decide_eq_true_eq]at hat
 generalize (aK es).findIdx (λj=>decide (j=aA q.1 q.2))=n at hlt hat
 have h1:(aK es)[n]?=some (aA q.1 q.2):=by rw[GD hlt,hat]
 rw[jY,Go]at h1;cases e:(SL es)[n]? with
 | none=>rw[e]at h1;cases h1
 | some u=>
  rw[e]at h1;rw[wR (GK.inj h1)]
def A3{ds es:List (Str×Ru)}(hp:es.Perm ds):∀j∈jsO ds es,j<(SL es).length:=λj hj=>by
 obtain⟨q,hq,rfl⟩:=Gn.mp hj;exact(Gc.mp (uA hp hq)).1
def xJ{ds es:List (Str×Ru)}(hp:es.Perm ds):eds es (jsO ds es)=edg ds:=by
 unfold eds jsO edg;rw[Hf];apply HH λq hq=>?_;show eAt es _=_;unfold eAt;rw[uA hp hq]
def EIn.perm{N N':List Str}{E:List (Str×Str)}(h:EIn N E)(hp:N'.Perm N):EIn N' E:=λe he=>⟨hp.mem_iff.mpr (h e he).1,hp.mem_iff.mpr (h e he).2⟩
def qK{N N':List Str}{E:List (Str×Str)}(h:EIn N E)(hp:N'.Perm N){z:Str}(hz:z∈N):(kn N' E z).Perm (kn N E z):=by
 have h':=h.perm hp;unfold kn;apply(hp.filter _).trans ?_;rw[HQ λo ho=>?_];rw[GR,Gd,Gd,bM h' (hp.mem_iff.mpr hz),bM h' (hp.mem_iff.mpr ho),bM h hz,bM h ho]
def jI{f:List Str->List Str}:∀{l:List (List Str)},l.Nodup->(∀a∈l,∀b∈l,f a=f b->a=b)->(l.map f).Nodup
 | [],_,_=>Hj
 | x::l,hn,hi=>by
  rw[GA]at hn;rw[Gg,GA];apply⟨λhm=>?_,jI hn.2 λa ha b hb=>hi a (ymC _ ha) b (ymC _ hb)⟩;obtain⟨y,hy,e⟩:=Gn.mp hm;exact hn.1 (hi y (ymC _ hy) x ymS e▸hy)
def kj{N:List Str}{E:List (Str×Str)}(h:EIn N E):((kns N E).map eJ).Nodup:=by
 obtain⟨i1,i2,i3⟩:=bE h;apply jI i3 λa ha b hb e=>?_;obtain⟨z,hz,rfl⟩:=i1 a ha;obtain⟨y,hy,rfl⟩:=i1 b hb;exact(gO h hy hz).mpr ((Lm.mp e).mem_iff.mp (b8 h hz))
def pU{N N':List Str}{E:List (Str×Str)}(h:EIn N E)(hp:N'.Perm N):pT (kns N' E)=pT (kns N E):=by
 have h':=h.perm hp;obtain⟨i1,i2,i3⟩:=bE h;obtain⟨j1,j2,j3⟩:=bE h';apply il (iN (kj h') (kj h) λk=>⟨λhk=>?_,λhk=>?_⟩)
 ·obtain⟨x,hx,rfl⟩:=Gn.mp hk;obtain⟨z,hz,rfl⟩:=j1 x hx;have hz':=hp.mem_iff.mp hz;exact Gn.mpr ⟨_,i2 z hz',Lm.mpr (qK h hp hz').symm⟩
 ·obtain⟨x,hx,rfl⟩:=Gn.mp hk;obtain⟨z,hz,rfl⟩:=i1 x hx;exact Gn.mpr ⟨_,j2 z (hp.mem_iff.mpr hz),Lm.mpr (qK h hp hz)⟩
def rT{α:Type}{xs:List α}{v:Int}(h:0<=v)(h2:v.toNat<=xs.length):ci xs (some v) none=xs.drop v.toNat:=by
 obtain⟨n,rfl⟩:∃n:Nat,v=(n:Int):=⟨v.toNat,by omega⟩;exact ny (by exists h2)
def iG{w wh:Int}{ds:List (Str×Ru)}{js:List Nat}(hd:ds.length<=6)(hn:(ndz ds).Nodup)(hl:∀p∈ds,p.2.leaves.length<=40)(hj:∀j∈js,j<(SL ds).length)(hjs:js.length<=1000){E:List (Str×Str)}(he:eds ds js=E)(h:EIn (ndz ds) E){Q:T->Prop}
  (q:Q (.im (.tup ((kns (ndz ds) E).map tKn)))):W1 (bo [.im (aL w wh ds),.im (tNs js)]) Q:=by
 subst he;apply uE hd hn hl hj hjs h ?_;unfold kns ndz at q;rw[Ge]at q;exact q
def BG{is js:List I}{Q:T->Prop}(h:I.doks is=true/\I.doks js=true/\I.deps is<=50)(q:Q (.im (.bl (!decide (is=js))))):W1 (neT (.im (.tup is)) (.im (.tup js))) Q:=⟨_,by dsimp[neT,eqB,eqI];rw[if_pos h];rfl,q⟩
def k17_law{ns:List Int}(hn:ns.length<=63):W1 (r_l_law_v8 [.li (ns.map .int)]) λt=>t=.im (.bl true):=by
 apply KZ [some ⟨.vw none none,.li (ns.map .int)⟩,none,none,none,none,none,none,none,none,none] rfl rfl rfl ?_;unfold ft
 lia
 apply xy (ns:=ns) ⋯ ⋯ ⋯ λf=>?_
 lia
 apply uv λw wh ds f hH=>?_;obtain⟨a1,a2,a3,a4,a5,a6,a7,a8,n,a9,a10⟩:=id hH;have hlv:∀p∈ds,p.2.leaves.length<=10:=λp hp=>(a10 p hp).2.1;have hSl:=Ay a6 (λp hp=>by have:=hlv p hp;omega);have hin:EIn (ndz ds) (edg ds):=by rw[<-jP];exact mj hH λj hj=>GU.mp hj
 have hrl:∀j∈Gz (SL ds).length,j<(SL ds).length:=λj hj=>GU.mp hj;ac_nf
 lia
 apply jh (w:=w) (wh:=wh) a6 a7 (λp hp=>by have:=hlv p hp;omega) ?_;rw[jY]
 lia
 rw[Ge];apply BJ ⋯ ?_;rw[GP]
 lia
 apply iG (w:=w) (wh:=wh) (js:=Gz (SL ds).length) a6 a7 (λp hp=>by have:=hlv p hp;omega) hrl (by rw[Ih];omega) (jP ds) hin ?_
 lia
 rw[Ge];apply aq ⋯ ⋯ λd f d0 d1=>?_;ac_nf
 lia
 apply At ?_
 lia
 apply⟨ds.map eK,rfl,?_⟩;rw[rT d0 (by rw[Ge];omega),<-Jf]
 lia
 apply At ?_
 lia
 apply⟨ds.map eK,rfl,?_⟩;rw[i7 d0,<-Io]
 lia
 have hp1:(ds.drop d.toNat++ds.take d.toNat).Perm ds:=JD.trans (by rw[Ic]);apply Bw (by rw[<-Gr,<-Gq,Ge,hp1.length_eq,LL];omega) ?_;rw[<-Gq];generalize ds.drop d.toNat++ds.take d.toNat=ds1 at hp1;have hl1:=hp1.length_eq;have kf0:=jQ (by unfold ndz;rw[Ge];omega) hin
 lia
 apply cK (λ_:Unit=>[some ⟨.vw none none,.li (ns.map .int)⟩,⇑(fT f),↥(aL w wh ds),⇑(.li ((SL ds).map λq=>aA q.1 q.2)),↥(.tup (jK (SL ds).length)),↥(.tup ((kns (ndz ds) (edg ds)).map tKn)),↥(.int d),↥(.tup (ds1.map eK)),none,none]) (λ_ _=>True) ?_
 lia
 apply BD (by rw[Ge];omega) ?_;rw[<-IH]
 lia
 apply⟨[ds1,ds1.reverse].map (aL w wh),rfl,by cbv,(),by cbv,trivial,λj x _ hx _=>?_,λ_ _=>?_⟩
 ·obtain⟨es,hes,rfl⟩:=aC hx;have hpe:es.Perm ds:=by
   have:=ymG hes;rcases ycM this with rfl|this;exact hp1;rw[ysM this];exact(List.reverse_perm _).trans hp1
  have hel:=hpe.length_eq;have hnp:(ndz es).Perm (ndz ds):=hpe.map _;have hlve:∀p∈es,p.2.leaves.length<=10:=λp hp=>hlv p (hpe.mem_iff.mp hp);have hne:(ndz es).Nodup:=hnp.nodup_iff.mpr a7
  lia
  apply bI ?_
  lia
  apply lb ⋯ hne (λp hp=>by have:=hlve p hp;omega) a6 a7 (λp hp=>by have:=hlv p hp;omega) (λs hs=>?_) ?_
  ·rw[jY]at hs|-;obtain⟨q,hq,rfl⟩:=Gn.mp hs;exact Gn.mpr ⟨q,(ql hpe).mpr hq,rfl⟩
  rw[show I.tup ((aK ds).map (CT (aK es)))=tNs (jsO ds es)from by unfold tNs jsO;rw[jY ds,Hf,Hf];rfl]
  lia
  apply iG (js:=jsO ds es) ⋯ hne (λp hp=>by have:=hlve p hp;omega) (A3 hpe) (by unfold jsO;rw[Ge];omega) (xJ hpe) (hin.perm hnp) ?_;have kf:=jQ (by unfold ndz;rw[Ge];omega) (hin.perm hnp)
  lia
  apply gH kf.1 kf.2 ?_
  lia
  apply gH kf0.1 kf0.2 ?_
  lia
  apply BF ⟨(aY _).1,(aY _).1,(aY _).2⟩ ?_;rw[pU hin hnp,decide_eq_true rfl]
  lia
  apply spF ?_
  lia
  exact⟨(),by cbv,trivial⟩
 lia
 apply cK (λ_:Unit=>[some ⟨.vw none none,.li (ns.map .int)⟩,⇑(fT f),↥(aL w wh ds),⇑(.li ((SL ds).map λq=>aA q.1 q.2)),↥(.tup (jK (SL ds).length)),↥(.tup ((kns (ndz ds) (edg ds)).map tKn)),↥(.int d),↥(.tup (ds1.map eK)),none,none]) (λ_ _=>True) ?_
 lia
 apply⟨jK (SL ds).length,rfl,by cbv,(),by cbv,trivial,λj x _ hx _=>?_,λ_ _=>?_⟩
 ·unfold jK at hx;obtain⟨i,hi,rfl⟩:=aC hx;have hlt:=GU.mp (ymG hi);have hg:(SL ds)[i]?=some (SL ds)[i]:=by simp[hlt]
  have F:=AO hH hg;rw[jP]at F;have hjl:=qI (m:=(SL ds).length) (i:=i)
  lia
  apply bI ?_
  lia
  apply um ⋯ hg F (λ{Q} q=>iG a6 a7 (λp hp=>by have:=hlv p hp;omega) (λj hj=>mH hj) ⋯ rfl (mj hH λj hj=>mH hj) q) ?_
  lia
  apply spF ?_
  lia
  apply iG (w:=w) (wh:=wh) (js:=Gz (SL ds).length) a6 a7 (λp hp=>by have:=hlv p hp;omega) hrl (by rw[Ih];omega) (jP ds) hin ?_
  lia
  apply BG ⟨(aY _).1,(aY _).1,(aY _).2⟩ ?_;rw[decide_eq_true rfl]
  lia
  apply spF ?_
  lia
  exact⟨(),by cbv,trivial⟩
 lia
 try rfl
end L2
namespace K17
open PySem PySem.Spec PyProof.Rows L2
local macro_rules|`(tactic| exfalso)=>`(tactic| exact⟨rfl,rfl,rfl,by decide +kernel,rfl,by decide +kernel,by decide +kernel⟩)
structure Adr(mg:Str->Option LH)(K:yF):Prop where
 d0:KW K mg "_law_feed" gj ["_law_script","_law_k"]
 d1:KW K mg "_law_take" gl ["_law_feed_here","_law_many"]
 d2:KW K mg "_law_turned_row" cJ ["_law_row_here","_law_way","_law_signs"]
 d3:KW K mg "_law_row" ic ["_law_feed_here","_law_ways"]
 d4:KW K mg "_law_opposed_reads" bP ["_law_feed_here","_law_ways","_law_many"]
 d5:KW K mg "_law_free_reads" cF ["_law_feed_here","_law_ways","_law_many"]
 d6:KW K mg "_law_back_row" dm ["_law_feed_here","_law_ways"]
 d7:KW K mg "_law_late_reads" cG ["_law_feed_here","_law_ways","_law_many"]
 d8:KW K mg "_law_ring_reads" cH ["_law_feed_here","_law_ways","_law_many"]
 d9:KW K mg "_law_reads" fG ["_law_feed_here"]
 d10:KW K mg "_law_names" fF ["_law_feed_here","_law_many"]
 d11:KW K mg "_law_grown" fD ["_law_feed_here","_law_leaves"]
 d12:KW K mg "_law_house" fE ["_law_feed_here"]
 d13:KW K mg "_law_reads_of" dn ["_law_rule"]
 d14:KW K mg "_law_steps" fH ["_law_house_here"]
 d15:KW K mg "inner_parts" eS ["part"]
 d16:KW K mg "parts_of" ig ["rule"]
 d17:KW K mg "reads" nc ["rule"]
 d18:KW K mg "desk_steps" fJ ["name","rule"]
 d19:KW K mg "steps_of" ij ["house"]
 d20:KW K mg "step_ends" gm ["house","some"]
 d21:KW K mg "reached_from" dW ["name","ends"]
 d22:KW K mg "loose_knots" eT ["names","ends"]
 d23:KW K mg "is_due" kL ["knot","told","ends"]
 d24:KW K mg "knots_of" ie ["house","some"]
 d25:KW K mg "_law_sets" gk ["_law_knots"]
 d26:KW K mg "_law_comes" fB ["_law_steps_here","_law_one","_law_other"]
 d27:KW K mg "_law_fewer_right" cc ["_law_house_here","_law_steps_here","_law_number","_law_knots"]
 d28:KW K mg "_law_same_steps" cI ["_law_house_here","_law_other"]
 d29:KW K mg "law" s_law ["_law_script"]
 T:Bi mg
 G:GT K mg
def adr_less(mg:Str->Option LH)(K:yF)(a:Addr)(A:Adr mg K)(l:Ly K a):Adr mg (less K a):=
 ⟨A.d0.less l,A.d1.less l,A.d2.less l,A.d3.less l,A.d4.less l,A.d5.less l,A.d6.less l,A.d7.less l,A.d8.less l,A.d9.less l,A.d10.less l,A.d11.less l,A.d12.less l,A.d13.less l,A.d14.less l,A.d15.less l,A.d16.less l,A.d17.less l,A.d18.less l,A.d19.less l,A.d20.less l,A.d21.less l,A.d22.less l,A.d23.less l,A.d24.less l,A.d25.less l,A.d26.less l,A.d27.less l,A.d28.less l,A.d29.less l,A.T,⟨trivial⟩⟩
noncomputable abbrev pm0:LH:=(vs "law_clockhouse_k17_knots_with_a_step_fewer" 270)
noncomputable abbrev pm1:LH:=(vs "clockhouse.rules" 187)
noncomputable abbrev pm2:LH:=(vs "clockhouse.houses" 212)
noncomputable abbrev pm3:LH:=(vs "clockhouse.knots" 232)
abbrev KF(P:QV):yF:=[(3,oD [(eO P "__name__" 165 (vs "law_clockhouse_k17_knots_with_a_step_fewer" 270)),(eO P "__doc__" 166 .none),(eO P "__package__" 167 .none),(eO P "__loader__" 168 (LH.builtin "__main__.__loader__#opaque")),(eO P "__spec__" 169 .none),(eO P "__annotations__" 170 (vr 6)),(eO P "__builtins__" 171 (vr 4)),(eO P "__file__" 173 (vs "/claim/cut.py" 172)),(eO P "__cached__" 174 .none),(eO P "inner_parts" 195 (vr 21)),(eO P "parts_of" 205 (vr 28)),(eO P "reads" 211 (vr 33)),(eO P "desk_steps" 225 (vr 40)),(eO P "steps_of" 231 (vr 45)),(eO P "step_ends" 239 (vr 50)),(eO P "reached_from" 251 (vr 57)),(eO P "loose_knots" 257 (vr 62)),(eO P "is_due" 263 (vr 67)),(eO P "knots_of" 269 (vr 72)),(eO P "_law_feed" 281 (vr 79)),(eO P "_law_take" 291 (vr 86)),(eO P "_law_names" 297 (vr 91)),(eO P "_law_row" 303 (vr 96)),(eO P "_law_back_row" 309 (vr 101)),(eO P "_law_free_reads" 315 (vr 106)),(eO P "_law_late_reads" 321 (vr 111)),(eO P "_law_turned_row" 332 (vr 118)),(eO P "_law_opposed_reads" 338 (vr 123)),(eO P "_law_ring_reads" 344 (vr 128)),(eO P "_law_reads" 355 (vr 135)),(eO P "_law_grown" 366 (vr 142)),(eO P "_law_house" 372 (vr 147)),(eO P "_law_reads_of" 381 (vr 154)),(eO P "_law_steps" 393 (vr 161)),(eO P "_law_comes" 399 (vr 166)),(eO P "_law_sets" 405 (vr 171)),(eO P "_law_same_steps" 411 (vr 176)),(eO P "_law_fewer_right" 417 (vr 181)),(eO P "law" 433 (vr 188))] 39),
 (79,oF "_law_feed" gj pm0 78),
 (78,oc "_law_feed" 272 63 2 73 (some (75,76)) 77 279),
 (86,oF "_law_take" gl pm0 85),
 (85,oc "_law_take" 282 73 2 80 (some (82,83)) 84 289),
 (118,oF "_law_turned_row" cJ pm0 117),
 (117,oc "_law_turned_row" 322 117 3 112 (some (114,115)) 116 330),
 (96,oF "_law_row" ic pm0 95),
 (95,oc "_law_row" 298 94 2 92 none 94 301),
 (123,oF "_law_opposed_reads" bP pm0 122),
 (122,oc "_law_opposed_reads" 333 122 3 119 none 121 336),
 (106,oF "_law_free_reads" cF pm0 105),
 (105,oc "_law_free_reads" 310 102 3 102 none 104 313),
 (101,oF "_law_back_row" dm pm0 100),
 (100,oc "_law_back_row" 304 98 2 97 none 99 307),
 (111,oF "_law_late_reads" cG pm0 110),
 (110,oc "_law_late_reads" 316 108 3 107 none 109 319),
 (128,oF "_law_ring_reads" cH pm0 127),
 (127,oc "_law_ring_reads" 339 136 3 124 none 126 342),
 (135,oF "_law_reads" fG pm0 134),
 (134,oc "_law_reads" 345 148 1 129 (some (131,132)) 133 353),
 (91,oF "_law_names" fF pm0 90),
 (90,oc "_law_names" 292 81 2 87 none 89 295),
 (142,oF "_law_grown" fD pm0 141),
 (141,oc "_law_grown" 356 160 2 136 (some (138,139)) 140 364),
 (147,oF "_law_house" fE pm0 146),
 (146,oc "_law_house" 367 171 1 143 none 145 370),
 (154,oF "_law_reads_of" dn pm0 153),
 (153,oc "_law_reads_of" 373 183 1 148 (some (150,151)) 152 379),
 (161,oF "_law_steps" fH pm0 160),
 (160,oc "_law_steps" 382 192 1 155 (some (157,158)) 159 391),
 (21,oF "inner_parts" eS pm1 20),
 (20,oc "inner_parts" 189 2 1 15 (some (17,18)) 19 193),
 (28,oF "parts_of" ig pm1 27),
 (27,oc "parts_of" 196 8 1 22 (some (24,25)) 26 203),
 (33,oF "reads" nc pm1 32),
 (32,oc "reads" 206 16 1 29 none 31 209),
 (40,oF "desk_steps" fJ pm2 39),
 (39,oc "desk_steps" 214 19 2 34 (some (36,37)) 38 223),
 (45,oF "steps_of" ij pm2 44),
 (44,oc "steps_of" 226 26 1 41 none 43 229),
 (50,oF "step_ends" gm pm3 49),
 (49,oc "step_ends" 234 29 2 46 none 48 237),
 (57,oF "reached_from" dW pm3 56),
 (56,oc "reached_from" 240 32 2 51 (some (53,54)) 55 249),
 (62,oF "loose_knots" eT pm3 61),
 (61,oc "loose_knots" 252 41 2 58 none 60 255),
 (67,oF "is_due" kL pm3 66),
 (66,oc "is_due" 258 49 3 63 none 65 261),
 (72,oF "knots_of" ie pm3 71),
 (71,oc "knots_of" 264 51 2 68 none 70 267),
 (171,oF "_law_sets" gk pm0 170),
 (170,oc "_law_sets" 400 204 1 167 none 169 403),
 (166,oF "_law_comes" fB pm0 165),
 (165,oc "_law_comes" 394 199 3 162 none 164 397),
 (181,oF "_law_fewer_right" cc pm0 180),
 (180,oc "_law_fewer_right" 412 209 4 177 none 179 415),
 (176,oF "_law_same_steps" cI pm0 175),
 (175,oc "_law_same_steps" 406 206 2 172 none 174 409),
 (188,oF "law" s_law pm0 187),
 (187,oc "law" 418 220 1 182 (some (184,185)) 186 431)]
abbrev KL:List Str:=["inner_parts","parts_of","reads","desk_steps","steps_of","step_ends","reached_from","loose_knots","is_due","knots_of","_law_feed","_law_take","_law_names","_law_row","_law_back_row","_law_free_reads","_law_late_reads","_law_turned_row","_law_opposed_reads","_law_ring_reads","_law_reads","_law_grown","_law_house","_law_reads_of","_law_steps","_law_comes","_law_sets","_law_same_steps","_law_fewer_right"].map Mg
abbrev KH:PySem.W.Hook:=PySem.W.kHook KF [3,79,78,86,85,118,117,96,95,123,122,106,105,101,100,111,110,128,127,135,134,91,90,142,141,147,146,154,153,161,160,21,20,28,27,33,32,40,39,45,44,50,49,57,56,62,61,67,66,72,71,171,170,166,165,181,180,176,175,188,187] (λ_=>rfl)
abbrev KQ:LR:=PySem.W.view PySem.Challenge.pw_clockhouse_k17_knots_with_a_step_fewer [33]
def left:PySem.W.LeftO PySem.Challenge.pw_clockhouse_k17_knots_with_a_step_fewer KQ KL (λs=>PySem.W.xlAt KQ [] s&&PySem.W.recOk [] s) KH.obs KH.val 4000:=λw=>by rfl'
def adr0(w:Mb)(mg:Str->Option LH)(h:Heap)(X:(KF w.params).In h)(G:h.Ns Mq mg):Adr mg (KF w.params):=
 ⟨KW.mkO X G 79 pm0 78 (by2 λ_ _ _ _ _ _ _ _=>rfl),
   KW.mkO X G 86 pm0 85 (by2 λ_ _ _ _ _ _ _ _=>rfl),
   KW.mkO X G 118 pm0 117 (by3 λ_ _ _ _ _ _ _ _ _=>rfl),
   KW.mkO X G 96 pm0 95 (by2 λ_ _ _ _ _ _ _ _=>rfl),
   KW.mkO X G 123 pm0 122 (by3 λ_ _ _ _ _ _ _ _ _=>rfl),
   KW.mkO X G 106 pm0 105 (by3 λ_ _ _ _ _ _ _ _ _=>rfl),
   KW.mkO X G 101 pm0 100 (by2 λ_ _ _ _ _ _ _ _=>rfl),
   KW.mkO X G 111 pm0 110 (by3 λ_ _ _ _ _ _ _ _ _=>rfl),
   KW.mkO X G 128 pm0 127 (by3 λ_ _ _ _ _ _ _ _ _=>rfl),
   KW.mkO X G 135 pm0 134 (by1 λ_ _ _ _ _ _ _=>rfl),
   KW.mkO X G 91 pm0 90 (by2 λ_ _ _ _ _ _ _ _=>rfl),
   KW.mkO X G 142 pm0 141 (by2 λ_ _ _ _ _ _ _ _=>rfl),
   KW.mkO X G 147 pm0 146 (by1 λ_ _ _ _ _ _ _=>rfl),
   KW.mkO X G 154 pm0 153 (by1 λ_ _ _ _ _ _ _=>rfl),
   KW.mkO X G 161 pm0 160 (by1 λ_ _ _ _ _ _ _=>rfl),
   KW.mkO X G 21 pm1 20 (by1 λ_ _ _ _ _ _ _=>rfl),
   KW.mkO X G 28 pm1 27 (by1 λ_ _ _ _ _ _ _=>rfl),
   KW.mkO X G 33 pm1 32 (by1 λ_ _ _ _ _ _ _=>rfl),
   KW.mkO X G 40 pm2 39 (by2 λ_ _ _ _ _ _ _ _=>rfl),
   KW.mkO X G 45 pm2 44 (by1 λ_ _ _ _ _ _ _=>rfl),
   KW.mkO X G 50 pm3 49 (by2 λ_ _ _ _ _ _ _ _=>rfl),
   KW.mkO X G 57 pm3 56 (by2 λ_ _ _ _ _ _ _ _=>rfl),
   KW.mkO X G 62 pm3 61 (by2 λ_ _ _ _ _ _ _ _=>rfl),
   KW.mkO X G 67 pm3 66 (by3 λ_ _ _ _ _ _ _ _ _=>rfl),
   KW.mkO X G 72 pm3 71 (by2 λ_ _ _ _ _ _ _ _=>rfl),
   KW.mkO X G 171 pm0 170 (by1 λ_ _ _ _ _ _ _=>rfl),
   KW.mkO X G 166 pm0 165 (by3 λ_ _ _ _ _ _ _ _ _=>rfl),
   KW.mkO X G 181 pm0 180 (by4 λ_ _ _ _ _ _ _ _ _ _=>rfl),
   KW.mkO X G 176 pm0 175 (by2 λ_ _ _ _ _ _ _ _=>rfl),
   KW.mkO X G 188 pm0 187 (by1 λ_ _ _ _ _ _ _=>rfl),
   ⟨bN X G,bN X G,bN X G,bN X G,bN X G,bN X G,bN X G,bN X G,bN X G,bN X G,bN X G,bN X G,bN X G,bN X G,bN X G,bN X G,bN X G,bN X G,bN X G,bN X G,bN X G⟩,⟨trivial⟩⟩
def c0:KU ["_law_script","_law_k","_law_cell","_law_own"] ["_law_script","_law_k"] (ai gj):=by exfalso
def c1:KU ["_law_feed_here","_law_many","_law_digit","_law_one"] ["_law_feed_here","_law_many"] (ai gl):=by exfalso
def c2:KU ["_law_row_here","_law_way","_law_signs","_law_found","_law_k"] ["_law_row_here","_law_way","_law_signs"] (ai cJ):=by exfalso
def c3:KU ["_law_feed_here","_law_ways"] ["_law_feed_here","_law_ways"] (ai ic):=by exfalso
def c4:KU ["_law_feed_here","_law_ways","_law_many","_law_far","_law_some","_law_way","_law_signs","_law_looks","_law_x","_law_other","_law_row_here"] ["_law_feed_here","_law_ways","_law_many"] (ai bP):=by exfalso
def c5:KU ["_law_feed_here","_law_ways","_law_many","_law_looks","_law_x","_law_k"] ["_law_feed_here","_law_ways","_law_many"] (ai cF):=by exfalso
def c6:KU ["_law_feed_here","_law_ways","_law_at","_law_more"] ["_law_feed_here","_law_ways"] (ai dm):=by exfalso
def c7:KU ["_law_feed_here","_law_ways","_law_many","_law_looks","_law_x","_law_k"] ["_law_feed_here","_law_ways","_law_many"] (ai cG):=by exfalso
def c8:KU ["_law_feed_here","_law_ways","_law_many","_law_looks","_law_long","_law_rest","_law_k","_law_row_here"] ["_law_feed_here","_law_ways","_law_many"] (ai cH):=by exfalso
def c9:KU ["_law_feed_here","_law_form","_law_wide","_law_ways","_law_many"] ["_law_feed_here"] (ai fG):=by exfalso
def c10:KU ["_law_feed_here","_law_many","_law_letters","_law_stem","_law_first","_law_at","_law_found","_law_k","_law_name"] ["_law_feed_here","_law_many"] (ai fF):=by exfalso
def c11:KU ["_law_feed_here","_law_leaves","_law_found","_law_at","_law_sign"] ["_law_feed_here","_law_leaves"] (ai fD):=by exfalso
def c12:KU ["_law_feed_here","_law_ways","_law_looks","_law_wheel","_law_names_here","_law_desks","_law_x","_law_leaves","_law_k","_law_number"] ["_law_feed_here"] (ai fE):=by exfalso
def c13:KU ["_law_rule","_law_found","_law_part"] ["_law_rule"] (ai dn):=by exfalso
def c14:KU ["_law_house_here","_law_found","_law_name","_law_rule","_law_other","_law_row_here"] ["_law_house_here"] (ai fH):=by exfalso
def c15:KU ["part"] ["part"] (ai eS):=by exfalso
def c16:KU ["rule","parts","due","part"] ["rule"] (ai ig):=by exfalso
def c17:KU ["rule"] ["rule"] (ai nc):=by exfalso
def c18:KU ["name","rule","steps","other","row","step"] ["name","rule"] (ai fJ):=by exfalso
def c19:KU ["house"] ["house"] (ai ij):=by exfalso
def c20:KU ["house","some","steps"] ["house","some"] (ai gm):=by exfalso
def c21:KU ["name","ends","reached","at","own","other"] ["name","ends"] (ai dW):=by exfalso
def c22:KU ["names","ends","reached","knots","name","knot"] ["names","ends"] (ai eT):=by exfalso
def c23:KU ["knot","told","ends"] ["knot","told","ends"] (ai kL):=by exfalso
def c24:KU ["house","some","ends","left","knots","told","knot"] ["house","some"] (ai ie):=by exfalso
def c25:KU ["_law_knots"] ["_law_knots"] (ai gk):=by exfalso
def c26:KU ["_law_steps_here","_law_one","_law_other","_law_met","_law_turn"] ["_law_steps_here","_law_one","_law_other"] (ai fB):=by exfalso
def c27:KU ["_law_house_here","_law_steps_here","_law_number","_law_knots","_law_some","_law_found","_law_knot","_law_name","_law_other","_law_row_here","_law_own"] ["_law_house_here","_law_steps_here","_law_number","_law_knots"] (ai cc):=by exfalso
def c28:KU ["_law_house_here","_law_other","_law_steps_here"] ["_law_house_here","_law_other"] (ai cI):=by exfalso
def c29:KU ["_law_script","_law_feed_here","_law_house_here","_law_steps_here","_law_every","_law_knots","_law_turn","_law_desks","_law_other","_law_number"] ["_law_script"] (ai s_law):=by exfalso
local macro_rules|`(tactic| ac_nf)=>`(tactic| first|exact o3|exact CK.blk o3|exact CK.blk (CK.blk o3))
local macro_rules|`(tactic| infer_instance)=>`(tactic| first
 | ((with_reducible show QE _ _ _ _);first|exact Ep|exact ED _|exact EA|exact FU|refine FW (by ac_nf) ?_ ?_|refine EC _ ?_|refine Er _ ?_|refine Ei (by ac_nf) ?_ ?_|refine EB (by ac_nf) ?_ ?_|refine Et (by ac_nf) ?_ ?_|refine Es (by ac_nf) ?_ ?_|refine B8 (by ac_nf) ?_ ?_|refine Ew (by ac_nf) ?_ ?_|refine El _ (by ac_nf) (by with_reducible assumption) ?_|refine Ej (by ac_nf) (by with_reducible first|exact b_len|exact b_max|exact b_min|exact b_all|exact b_sorted) ?_ ?_|refine FZ (by ac_nf) (by with_reducible first|exact b_tuple|exact b_int|exact b_list) ?_ ?_|refine Em (by ac_nf) (by with_reducible assumption) ?_|refine FY (by ac_nf) ?_ ?_ ?_|refine Ez (by ac_nf) ?_ ?_ ?_|refine Ey (by ac_nf) ?_|refine Eu _ _ (by ac_nf) (by with_reducible first|exact uO|exact uP|exact uQ) ?_ ?_|refine Cb _ (by ac_nf) DK ?_|refine Ca (by ac_nf) Bb ?_ ?_|refine Ek (by ac_nf) ?_ ?_ ?_ (by unhygienic rfl)|refine B7 (by ac_nf) ?_ ?_|refine Ex _ _ (by ac_nf) ?_ ?_|refine B9 (by ac_nf) ?_ ?_|refine Eo (by ac_nf) ?_ ?_|refine Cc (by ac_nf) ?_ ?_|refine FX ?_ ?_|refine Ev ?_)
 | ((with_reducible show QA _ _ _ _);first|exact Cd|refine vR _ ?_|refine yO ?_ ?_)
 | ((with_reducible show QSs _ _ _ _);first|exact Ci|exact lM|refine yV _ ?_|refine yT ?_ ?_|refine Cj ?_)
 | ((with_reducible show QS _ _ _ _);first|refine Cn _ ?_ ?_|refine yS _ ?_ ?_|refine Cm ?_|refine yU ?_|refine Cg ?_ ?_|refine Ck _ _ (by ac_nf) ?_ ?_|refine EF ?_ ?_ ?_|refine Ch (by ac_nf) (λ_=>Qb) ?_ ?_ ?_|refine vU (λ_=>Qb) ?_ ?_|refine qs_fgt _ ?_)
 | ((with_reducible show QT _ _ _ _);first|refine Co (by ac_nf) ?_ ?_ ?_ (by unhygienic rfl)|refine Cp ?_|refine Cq (by ac_nf) ?_|refine Cr ?_|refine QW.t ?_)
 | ((with_reducible show QW _ _ _ _);first|refine Cs ?_ ?_|refine EG ?_ ?_|refine yY ?_|refine Ct ?_)
 | ((with_reducible show QG _ _ _ _ _);first|refine yP _ ?_|refine vT (by ac_nf) (ge ?_ (ge ?_ qS))|refine vT (by ac_nf) (ge ?_ (ge ?_ (ge ?_ qS)))|refine Ce _ ?_ ?_|refine vS _ ?_ ?_ ?_)
 | ((with_reducible show QI _ _ _ _ _);first|refine sT (by ac_nf) ?_ ?_|refine sU (by ac_nf) ?_ ?_|refine Cf (by ac_nf) ?_)
 | ((with_reducible show QO _ _ _ _);first|exact yQ|refine yR ?_)
 | ((with_reducible show QTs _ _ _ _);first|exact yW|refine yX ?_)
 | ((with_reducible show gN _ _);first|exact FE|exact FF|exact FG|exact FH|exact FI|exact FJ|exact Dt)
 | ((with_reducible show∀_,List.Nodup _);intro _;first|assumption|exact kw (by rfl'))
 | with_reducible first|assumption|exact Bi.b_all (by assumption)|exact Bi.b_int (by assumption)|exact Bi.b_len (by assumption)|exact Bi.b_list (by assumption)|exact Bi.b_max (by assumption)|exact Bi.b_min (by assumption)|exact Bi.b_sorted (by assumption)|exact Bi.b_tuple (by assumption))
local macro_rules|`(tactic| lia)=>`(tactic| repeat' (first|infer_instance|fail))
section
variable {P:LR}{W:Mb}{K:yF}{mg:Str->Option LH}{base:Heap}(A:Adr mg K)
include A
def v0:Has P W K mg base 1 "_law_feed" ["_law_script","_law_k"] (spP K kH):=by
 have:=c0.nd;have:=A.T;apply Def.qp A.d0.to c0 (m:=iK) ?_ (λ_=>rfl);unfold iK
 lia
def v1:Has P W K mg base 1 "_law_take" ["_law_feed_here","_law_many"] (spI K 0 aj):=by
 have:=c1.nd;have:=A.T;apply Def.qi A.d1.to c1 (m:=iM) ?_ (λ_=>rfl);unfold iM
 lia
def v2:Has P W K mg base 1 "_law_turned_row" ["_law_row_here","_law_way","_law_signs"] (spP K cE):=by
 have:=c2.nd;have:=A.T;apply Def.qp A.d2.to c2 (m:=cy) ?_ (λ_=>rfl);unfold cy
 lia
def v3:Has P W K mg base 2 "_law_row" ["_law_feed_here","_law_ways"] (spI K 0 jT):=by
 have:=@v1 P W K mg base A;have:=c3.nd;have:=A.T;apply Def.qi A.d3.to c3 (m:=jR) ?_ (λ_=>rfl);unfold jR
 lia
 ·apply bv (N':=["_law_feed_here","_law_ways","_law_k"]) (by ac_nf) (λ_=>Blk.of (by rfl')) ?_ ?_ ?_ ?_<;>lia
def v4:Has P W K mg base 3 "_law_opposed_reads" ["_law_feed_here","_law_ways","_law_many"] (spI K 0 cC):=by
 have:=@v1 P W K mg base A;have:=@v2 P W K mg base A;have:=@v3 P W K mg base A;have:=c4.nd;have:=A.T;apply Def.qi A.d4.to c4 (m:=bH) ?_ (λ_=>rfl);unfold bH
 lia
 ·apply bv (N':=["_law_feed_here","_law_ways","_law_many","_law_far","_law_some","_law_way","_law_signs","_law_looks","_law_x","_law_other","_law_row_here","_law_k"]) (by ac_nf) (λ_=>Blk.of (by rfl')) ?_ ?_ ?_ ?_<;>lia
 ·apply cQ _ (N':=["_law_feed_here","_law_ways","_law_many","_law_far","_law_some","_law_way","_law_signs","_law_looks","_law_x","_law_other","_law_row_here"]) (by ac_nf) (λ_=>(by first|assumption|exact kw (by rfl'))) (λ_=>Blk.of (by rfl')) ?_ ?_ ?_ ?_<;>lia
def v5:Has P W K mg base 3 "_law_free_reads" ["_law_feed_here","_law_ways","_law_many"] (spI K 0 dO):=by
 have:=@v1 P W K mg base A;have:=@v3 P W K mg base A;have:=c5.nd;have:=A.T;apply Def.qi A.d5.to c5 (m:=cu) ?_ (λ_=>rfl);unfold cu
 lia
 ·apply cQ _ (N':=["_law_feed_here","_law_ways","_law_many","_law_looks","_law_x","_law_k"]) (by ac_nf) (λ_=>(by first|assumption|exact kw (by rfl'))) (λ_=>Blk.of (by rfl')) ?_ ?_ ?_ ?_<;>lia
def v6:Has P W K mg base 2 "_law_back_row" ["_law_feed_here","_law_ways"] (spI K 0 dE):=by
 have:=@v1 P W K mg base A;have:=c6.nd;have:=A.T;apply Def.qi A.d6.to c6 (m:=dw) ?_ (λ_=>rfl);unfold dw
 lia
 ·apply cQ _ (N':=["_law_feed_here","_law_ways","_law_at","_law_more","_law_k"]) (by ac_nf) (λ_=>(by first|assumption|exact kw (by rfl'))) (λ_=>Blk.of (by rfl')) ?_ ?_ ?_ ?_<;>lia
def v7:Has P W K mg base 3 "_law_late_reads" ["_law_feed_here","_law_ways","_law_many"] (spI K 0 cB):=by
 have:=@v1 P W K mg base A;have:=@v6 P W K mg base A;have:=c7.nd;have:=A.T;apply Def.qi A.d7.to c7 (m:=cv) ?_ (λ_=>rfl);unfold cv
 lia
 ·apply cQ _ (N':=["_law_feed_here","_law_ways","_law_many","_law_looks","_law_x","_law_k"]) (by ac_nf) (λ_=>(by first|assumption|exact kw (by rfl'))) (λ_=>Blk.of (by rfl')) ?_ ?_ ?_ ?_<;>lia
def v8:Has P W K mg base 4 "_law_ring_reads" ["_law_feed_here","_law_ways","_law_many"] (spI K 0 dP):=by
 have:=@v7 P W K mg base A;have:=@v1 P W K mg base A;have:=c8.nd;have:=A.T;apply Def.qi A.d8.to c8 (m:=cw) ?_ (λ_=>rfl);unfold cw
 lia
 ·apply bv (N':=["_law_feed_here","_law_ways","_law_many","_law_looks","_law_long","_law_rest","_law_k","_law_row_here","_law_j"]) (by ac_nf) (λ_=>Blk.of (by rfl')) ?_ ?_ ?_ ?_<;>lia
 ·apply bv (N':=["_law_feed_here","_law_ways","_law_many","_law_looks","_law_long","_law_rest","_law_k","_law_row_here","_law_j"]) (by ac_nf) (λ_=>Blk.of (by rfl')) ?_ ?_ ?_ ?_<;>lia
 ·apply bv (N':=["_law_feed_here","_law_ways","_law_many","_law_looks","_law_long","_law_rest","_law_k","_law_row_here","_law_number"]) (by ac_nf) (λ_=>Blk.of (by rfl')) ?_ ?_ ?_ ?_<;>lia
 ·apply bv (N':=["_law_feed_here","_law_ways","_law_many","_law_looks","_law_long","_law_rest","_law_k","_law_row_here","_law_j"]) (by ac_nf) (λ_=>Blk.of (by rfl')) ?_ ?_ ?_ ?_<;>lia
def v9:Has P W K mg base 5 "_law_reads" ["_law_feed_here"] (spI K 0 jq):=by
 have:=@v1 P W K mg base A;have:=@v5 P W K mg base A;have:=@v7 P W K mg base A;have:=@v8 P W K mg base A;have:=@v4 P W K mg base A;have:=c9.nd;have:=A.T;apply Def.qi A.d9.to c9 (m:=gC) ?_ (λ_=>rfl);unfold gC
 lia
def v10:Has P W K mg base 2 "_law_names" ["_law_feed_here","_law_many"] (spI K 0 jp):=by
 have:=@v1 P W K mg base A;have:=c10.nd;have:=A.T;apply Def.qi A.d10.to c10 (m:=gB) ?_ (λ_=>rfl);unfold gB
 lia
 ·apply bv (N':=["_law_feed_here","_law_many","_law_letters","_law_stem","_law_first","_law_at","_law_found","_law_k","_law_name"]) (by ac_nf) (λ_=>Blk.of (by rfl')) ?_ ?_ ?_ ?_<;>lia
def v11:Has P W K mg base 2 "_law_grown" ["_law_feed_here","_law_leaves"] (spI K 0 jn):=by
 have:=@v1 P W K mg base A;have:=c11.nd;have:=A.T;apply Def.qi A.d11.to c11 (m:=gz) ?_ (λ_=>rfl);unfold gz
 lia
def v12:Has P W K mg base 6 "_law_house" ["_law_feed_here"] (spI K 0 jo):=by
 have:=@v9 P W K mg base A;have:=@v1 P W K mg base A;have:=@v10 P W K mg base A;have:=@v11 P W K mg base A;have:=c12.nd;have:=A.T;apply Def.qi A.d12.to c12 (m:=gA) ?_ (λ_=>rfl);unfold gA
 lia
 ·apply cQ _ (N':=["_law_feed_here","_law_ways","_law_looks","_law_wheel","_law_names_here","_law_desks","_law_x","_law_leaves","_law_k","_law_number","_law_other","_law_row_here"]) (by ac_nf) (λ_=>(by first|assumption|exact kw (by rfl'))) (λ_=>Blk.of (by rfl')) ?_ ?_ ?_ ?_<;>lia
def v13:∀n,Has P W K mg base (1+n) "_law_reads_of" ["_law_rule"] (spP K (cD n))
 | 0=>Def.qp A.d13.to c13 (m:=mL) lM (λ_=>rfl)
 | n+1=>by
  have h_l_reads_of:=v13 n;have:=c13.nd;have:=A.T;apply Def.qp (k:=1+n) A.d13.to c13 (m:=dy (cD n)) ?_ (λ_=>rfl);unfold dy
  lia
def v14:Has P W K mg base 26 "_law_steps" ["_law_house_here"] (spP K ff):=by
 have:=@v13 P W K mg base A 24;have:=c14.nd;have:=A.T;apply Def.qp A.d14.to c14 (m:=gD) ?_ (λ_=>rfl);unfold gD
 lia
def v15:Has P W K mg base 1 "inner_parts" ["part"] (spP K df):=by
 have:=c15.nd;have:=A.T;apply Def.qp A.d15.to c15 (m:=ca) ?_ (λ_=>rfl);unfold ca
 lia
def v16:Has P W K mg base 2 "parts_of" ["rule"] (spP K fz):=by
 have:=@v15 P W K mg base A;have:=c16.nd;have:=A.T;apply Def.qp A.d16.to c16 (m:=dA) ?_ (λ_=>rfl);unfold dA
 lia
def v17:Has P W K mg base 3 "reads" ["rule"] (spP K jr):=by
 have:=@v16 P W K mg base A;have:=c17.nd;have:=A.T;apply Def.qp A.d17.to c17 (m:=gE) ?_ (λ_=>rfl);unfold gE
 lia
 ·apply bv (N':=["rule","part"]) (by ac_nf) (λ_=>Blk.of (by rfl')) ?_ ?_ ?_ ?_<;>lia
def v18:Has P W K mg base 4 "desk_steps" ["name","rule"] (spP K dR):=by
 have:=@v17 P W K mg base A;have:=c18.nd;have:=A.T;apply Def.qp A.d18.to c18 (m:=cz) ?_ (λ_=>rfl);unfold cz
 lia
def v19:Has P W K mg base 5 "steps_of" ["house"] (spP K fA):=by
 have:=@v18 P W K mg base A;have:=c19.nd;have:=A.T;apply Def.qp A.d19.to c19 (m:=dB) ?_ (λ_=>rfl);unfold dB
 lia
 ·apply yM (N':=["house","name","rule","step"]) (by ac_nf) (λ_=>Blk.of (by rfl')) rfl ?_ ?_ ?_ ?_ ?_ ?_<;>lia
def v20:Has P W K mg base 6 "step_ends" ["house","some"] (spP K eQ):=by
 have:=@v19 P W K mg base A;have:=c20.nd;have:=A.T;apply Def.qp A.d20.to c20 (m:=cV) ?_ (λ_=>rfl);unfold cV
 lia
 ·apply bv (N':=["house","some","steps","number"]) (by ac_nf) (λ_=>Blk.of (by rfl')) ?_ ?_ ?_ ?_<;>lia
def v21:Has P W K mg base 1 "reached_from" ["name","ends"] (spP K cS):=by
 have:=c21.nd;have:=A.T;apply Def.qp A.d21.to c21 (m:=bV) ?_ (λ_=>rfl);unfold bV
 lia
def v22:Has P W K mg base 2 "loose_knots" ["names","ends"] (spP K dg):=by
 have:=@v21 P W K mg base A;have:=c22.nd;have:=A.T;apply Def.qp A.d22.to c22 (m:=cb) ?_ (λ_=>rfl);unfold cb
 lia
 ·apply yN (N':=["names","ends","reached","knots","name","knot"]) (by ac_nf) (λ_=>Blk.of (by rfl')) ?_ ?_ ?_ ?_ ?_<;>lia
 ·apply bv (N':=["names","ends","reached","knots","name","knot","other"]) (by ac_nf) (λ_=>Blk.of (by rfl')) ?_ ?_ ?_ ?_<;>lia
def v23:Has P W K mg base 1 "is_due" ["knot","told","ends"] (spP K hU):=by
 have:=c23.nd;have:=A.T;apply Def.qp A.d23.to c23 (m:=fu) ?_ (λ_=>rfl);unfold fu
 lia
 ·apply bv (N':=["knot","told","ends","name","other"]) (by ac_nf) (λ_=>Blk.of (by rfl')) ?_ ?_ ?_ ?_<;>lia
def v24:Has P W K mg base 7 "knots_of" ["house","some"] (spP K bo):=by
 have:=@v20 P W K mg base A;have:=@v22 P W K mg base A;have:=@v23 P W K mg base A;have:=c24.nd;have:=A.T;apply Def.qp A.d24.to c24 (m:=dz) ?_ (λ_=>rfl);unfold dz
 lia
 ·apply bv (N':=["house","some","ends","left","knots","told","knot","name","rule"]) (by ac_nf) (λ_=>Blk.of (by rfl')) ?_ ?_ ?_ ?_<;>lia
 ·apply bv (N':=["house","some","ends","left","knots","told","knot","one"]) (by ac_nf) (λ_=>Blk.of (by rfl')) ?_ ?_ ?_ ?_<;>lia
def v25:Has P W K mg base 1 "_law_sets" ["_law_knots"] (spP K fe):=by
 have:=c25.nd;have:=A.T;apply Def.qp A.d25.to c25 (m:=iL) ?_ (λ_=>rfl);unfold iL
 lia
 ·apply bv (N':=["_law_knots","_law_knot"]) (by ac_nf) (λ_=>Blk.of (by rfl')) ?_ ?_ ?_ ?_<;>lia
def v26:Has P W K mg base 1 "_law_comes" ["_law_steps_here","_law_one","_law_other"] (spP K jm):=by
 have:=c26.nd;have:=A.T;apply Def.qp A.d26.to c26 (m:=gy) ?_ (λ_=>rfl);unfold gy
 lia
 ·apply bv (N':=["_law_steps_here","_law_one","_law_other","_law_met","_law_turn","_law_step"]) (by ac_nf) (λ_=>Blk.of (by rfl')) ?_ ?_ ?_ ?_<;>lia
def v27:Has P W K mg base 8 "_law_fewer_right" ["_law_house_here","_law_steps_here","_law_number","_law_knots"] (spP K de):=by
 have:=@v24 P W K mg base A;have:=@v26 P W K mg base A;have:=@v25 P W K mg base A;have:=c27.nd;have:=A.T;apply Def.qp A.d27.to c27 (m:=b9) ?_ (λ_=>rfl);unfold b9
 lia
 ·apply bv (N':=["_law_house_here","_law_steps_here","_law_number","_law_knots","_law_some","_law_found","_law_knot","_law_name","_law_other","_law_row_here","_law_own","_law_one"]) (by ac_nf) (λ_=>Blk.of (by rfl')) ?_ ?_ ?_ ?_<;>lia
 ·apply bv (N':=["_law_house_here","_law_steps_here","_law_number","_law_knots","_law_some","_law_found","_law_knot","_law_name","_law_other","_law_row_here","_law_own","_law_one"]) (by ac_nf) (λ_=>Blk.of (by rfl')) ?_ ?_ ?_ ?_<;>lia;apply bv (N':=["_law_house_here","_law_steps_here","_law_number","_law_knots","_law_some","_law_found","_law_knot","_law_name","_law_other","_law_row_here","_law_own","_law_one"]) (by ac_nf) (λ_=>Blk.of (by rfl')) ?_ ?_ ?_ ?_<;>lia
 ·apply cQ _ (N':=["_law_house_here","_law_steps_here","_law_number","_law_knots","_law_some","_law_found","_law_knot","_law_name","_law_other","_law_row_here","_law_own"]) (by ac_nf) (λ_=>(by first|assumption|exact kw (by rfl'))) (λ_=>Blk.of (by rfl')) ?_ ?_ ?_ ?_<;>lia
 ·apply bv (N':=["_law_house_here","_law_steps_here","_law_number","_law_knots","_law_some","_law_found","_law_knot","_law_name","_law_other","_law_row_here","_law_own","_law_one"]) (by ac_nf) (λ_=>Blk.of (by rfl')) ?_ ?_ ?_ ?_<;>lia
def v28:Has P W K mg base 27 "_law_same_steps" ["_law_house_here","_law_other"] (spP K dQ):=by
 have:=@v14 P W K mg base A;have:=c28.nd;have:=A.T;apply Def.qp A.d28.to c28 (m:=cx) ?_ (λ_=>rfl);unfold cx
 lia
 ·apply bv (N':=["_law_house_here","_law_other","_law_steps_here","_law_step"]) (by ac_nf) (λ_=>Blk.of (by rfl')) ?_ ?_ ?_ ?_<;>lia
def v29:Has P W K mg base 28 "law" ["_law_script"] (spP K r_l_law_v8):=by
 have:=@v0 P W K mg base A;have:=@v12 P W K mg base A;have:=@v14 P W K mg base A;have:=@v24 P W K mg base A;have:=@v1 P W K mg base A;have:=@v25 P W K mg base A;have:=@v28 P W K mg base A;have:=@v27 P W K mg base A;have:=c29.nd;have:=A.T;apply Def.qp A.d29.to c29 (m:=ft) ?_ (λ_=>rfl);unfold ft
 lia
end
end K17
open PySem PySem.W PyProof.Rows
set_option maxRecDepth 100000 in
set_option maxHeartbeats 0 in
theorem PySem.Challenge.cw_clockhouse_k17_knots_with_a_step_fewer_holds : PySem.Challenge.rw_clockhouse_k17_knots_with_a_step_fewer.Holds := by
 apply holds_law K17.ws λsaid=>?_;apply holds_open (q:=K17.KQ) (loose:=K17.KL) (XP:=XL K17.KQ []) (YP:=K17.KH.says) K17.left K17.KH.of K17.KH.keeps (λs e=>xl_of s (JK.mp e).1) XL.keeps (by rfl) (by rfl) (by rfl) (λs e=>recFacts_of (JK.mp e).2) (by rfl) said (by rfl') ⟨rfl,rfl,rfl,rfl,rfl,by decide +kernel⟩ ?hw ?hc
 case hw=>w_witness2
 exact L2.walkP (l:=PySem.Challenge.rw_clockhouse_k17_knots_with_a_step_fewer) (k:=28) (x:="_law_script") (st:=K17.s_law) (run:=L2.r_l_law_v8) (A:=K17.Adr) (K:=K17.KF) rfl rfl ⟨rfl,rfl,by decide,by decide⟩ (λw h Y=>Y) K17.adr0 K17.adr_less (λmg K A=>A.d29.to) (λ_ _ _ _ _ _ s v=>.of_eq rfl) (λw mg K base A=>K17.v29 A) (λns hn=>by obtain⟨t,h1,h2⟩:=L2.k17_law (ns:=ns) hn;rw[h1,h2])
