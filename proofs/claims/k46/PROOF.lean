import PyProof.Rows.All
import Wide.All
import OpenK.AllK
import Wide.FinOn
import Lean
import PyProof.EqAt
import PyProof.EqKinds
import PyProof.TupleCall
import PyProof.CompFree
import PyProof.ConsumeWalk
import PyProof.StrWalks
import PyProof.SliceStr2
import PyProof.Rows.StrJoin2
import PyProof.StrOps2
import PyProof.ListMulRoad
import PyProof.TupleOps
import PyProof.NeKinds
import KE.KRevIter
import PyProof.Rows.SortWalk
import PyProof.Draws
import PyProof.EnumMake
import PyProof.AutoListH
import PyProof.ZipIter
import KE.KDictOf
import PyProof.AttrMissHeap
import KE.KDictList
import PyProof.SumWalkG
import PyProof.ReprRoads
import KE.KEqDict
import PyProof.DictItems
import KE.KPairComp
import PySem.Challenge.RW_clockhouse_k46_houses_moved
set_option Elab.async false
set_option linter.all false
set_option maxRecDepth 100000
set_option maxHeartbeats 4000000
set_option genSizeOf false
set_option compiler.extract_closed false
set_option hygiene false
open PySem renaming wpAny_bind->LA,Value->LB,Shared->LD,wpAny_pure->LF,sizeLine_eq->LG,wpAny->LH,Builtin->LJ,model->LL,Program->LM,NameKind->LN,wpAny_newObj_type->LP,Around->LQ,World->LU,starEach->LV,compareOp->LZ,wpAny_field->L0,cellsFrom->L7,wpAny_callSpecial?_slot->Ma,mainGlobals->Md,binaryOp->Me,wpAny_seqItems->Mf,bootBuiltins->Mh,wpAny_call_entry->Mi,wpAny_holding->Mj,attributeBase->Mk,cLine->Mm,holding->Mo,wpAny_mono->Mr,call_meets->Ms,wpAny_truthy_bool->Mt,assignEach->Mw,wpAny_passesOwn->MC,foldedSetIterable->MD,sliceBounds->MF,wpAny_setField->ML,IsPair->MM,FuncData->MP,wpAny_typeOf->MV,Scope->MW,wpAny_binaryOp_repeat_ref->MX,wpAny_standAt->MZ,swapsWithSole->M0,swappedStores->M1,wpAny_rule->M4,getattributeRaised->M7,backTo->M9,bindName->Na,wpAny_bindName->Nb,wpAny_pyIter_list->Nc,assign->Nh,typeIs_int->Nj,PlainAttrs->Nk,behindInMarks->Nn,assignInOrder->No,codeAny->Np,evalPart_none->Nq,wpAny_updateSeq_pair->Nu,wpAny_execs_nil->Nw,letOwnedTupleGo->Nx,rawInt->Ny,standAt->NE,getItem->NF,sysModules->NI,wpAny_pyIter_tuple->NK,wpAny_Call_Name_kw->NL,setItem->NW,wpAny_sequenceKey->NY,slot_list_getitem->NZ,valueAt->N1,IsPart->N4,wpAny_getItem_list_slice->N5,wpAny_comprehension_free->N7,wpAny_onRaise->N9,swapsWith->Oa,PassesOwn->Ob,wpAny_pyNext_tuple_item->Oc,noFill_tuple_add->Od,wpAny_Call_method0_late->Oe,seqItems?->Oj,wpAny_pyNext_list_item->Oo,wpAny_pyNext_tuple_end->Op,pushCells_keeps->Ow,wpAny_isTrue_Compare1->Ox,wpAny_pyNext_list_end->Oy,int___rmul___int_list->Oz,wpAny_loadName_local->OA,pyNext->OB,wpAny_Slice->OD,subscripted->OE,fitsIndex_both->OG,wpAny_listPart->OH,wpAny_letGo->OI,newFunctionEnv->OJ,wpAny_pyIter_revIter->OL,Draws->OM,stored->OO,BindsTo->OQ,callerA->OR,wpAny_loadName_cell->OS,seq_tuple_add->OW,evalPart_some->OY,builtinsNs->O6,isTrue->O7,typeLookup->Pa,typeOf->Pc,sub_AttributeError->Pf,wpAny_assign_Name->Ph,codeAny_mono->Pj,concat_meets->Pk,slot_list_setitem->Pm,relabel->Pn,notedBy->Po,wpAny_execs_cons->Px,slicePick->Pz,DictEntry->PF,wpAny_pyIter_zip->PJ,seqIndex_of->PK,exec_Assign_arm->PL,wpAny_loadPart'->PM,noFill_list_mul->PQ,wpAny_specialOf->PU,wpAny_updateSeq->PV,post_val_or_str->PX,am_miss_of_fast->P0,codeAny_builtin->P3,release->P5,Keyword->P6,wpAny_Name->P7,truthy->P8,Operator->P9,recursionLimit->Qa,bindArgs->Qb,bindL->Qc,bindC->Qd,typeIs_str->Qf,sliceRange_one->Qg,field->Qj,firstArgMember->Qk,IsZip->Ql,getAttr?->Qm,storeName->Qp,CmpOp->Qq,pyIter->Qu,Params->Qw,pick_run->QD,compEnvC->QH,Result->QM,Model->QV,Walks->QX,Meets->QY
open PySem.Heap renaming get?_push_of_some->LC,lt_size->LI,get?_push_size->LK,SameBut->LY,size_push->Mg,get?_update_self->Mp,get?_update_other->Ot,ExtBut->QJ,push->Q4
open Ne renaming symm->LO
open PySem.Builtin.Tuple renaming tupleExact->LR,tupleItemsOf->NN,tupleTooMany->NP,tupleCompareSizes->Pu
open PySem.NameKind renaming cell->LS,free->Mx
open PySem.Str renaming ofString->LW,length->QN
open PySem.SeqAt renaming EqAt->LX,notIn_tupleAt->OU,notIn_listAt->Pb,RcNeAt->Pp,in_tupleAt->PB,in_listAt->PP,RcAt->Qh
open PySem.Builtin.Slice renaming slicePlaces->L5,sliceAdjust->Mc,sliceApplied->Mz,sliceFields->NS,slicePartIndex->PN
open PySem.Builtin.SmallTypes renaming nextOf->L6,ownedTupleIsFree->M2,ownedTupleHandOut->OV
open PySem.Builtin.List renaming listTooLong->L8,listSubscript?->NG,listAllItems->NT,listSameRef->N6,listItems->Qv
open PySem.Builtin.Str renaming strSliceIndices->L9,occurrences->Mv,tooLong->QL
open PySem.Obj renaming mapFields->Mb,mapSeq->Ni,data_mapFields->Pe
open PySem.Heap.SameBut renaming update->Ml
open Sum renaming inr->Mn,inl->Om
open PySem.Value renaming ref->Mq,none->MH,bool->MJ,ellipsis->MR,builtin->N8,type->On,notImplemented->OC,int->Pv,str->Pw,isStrOf->Qn,isInt->Qz
open PyProof.Rows renaming assignInOrder_cons->My,IntsAre->MU,subscriptTail->Nr,envOfC->Nz,slicePart_none->NM,AllBare->NV,assignInOrder_nil->NX,Subscript_->Oq,subscriptTail_builtinR->Os,entry_tuple_getitem->OT,tupleItemsOf_->OX,args_tuple_getitem->O9,IsTup->Pg,unpackItems_tuple->Pi,boot_isinstance->PY,tail_any->Qe,range_getD->Qt
open PySem.F renaming slot_tuple_iterator_next->MB,slot_int_rmul->MQ,slot_tuple_getattribute->MY,slot_list_getattribute->M3,slot_tuple_mul->Nl,args_list_extend_2->Nt,slot_dict_itemiterator_iter->Nv,args_tuple_iterator_next_1->NB,slot_zip_next->NC,entry_list_extend->ND,entry_tuple_iterator_next->NH,slot_list_extend->NO,args_int_rmul_2->N0,slot_int_index->Of,entry_int_rmul->Og,fills_int_mul->Ov,args_tuple_mul_2->Pd,args_list_mul_2->Pl,slot_tuple_rmul->Pq,entry_tuple_mul->Pr,args_zip_next_1->Ps,slot_dict_items->Pt,entry_list_mul->PD,entry_zip_next->PH,slot_list_mul->PR
open PySem.AutoSeq1 renaming wpAny_loadPart'->MK,list_extend_list_list_0->Nf,sub_tuple_tuple->N3,idx_int->Oh
open False renaming elim->MN
open PySem.Heap.IsSliceOf renaming new->M5
open True renaming intro->M6
open PySem.AutoListH renaming list___mul___list_int_3->M8
open PySem.Calls renaming callWith_builtin->Nd,Name_function_global->NJ
open PySem.Txt renaming join->Ng,slice->Qs
open Classical renaming choose->Nm
open ForInStep renaming yield->NA
open Or renaming inr->NQ,inl->ON
open PySem.Code renaming quiet_builtin->NR
open Sum.inr renaming inj->NU
open PySem.Builtin.Dict renaming updateFrom->Ol,pairItems->Ou,selfAndRest->Qo
open PySem.Around renaming under_plainId->OP
open PySem.SeqAt.EqAt renaming int_str->OZ,str_int->O5,int_int->O8
open PySem.Flow renaming next->Py
open PySem.Heap.DictOf renaming new->PZ
open PySem.PassesOwn renaming never->P4
open PySem.SeqAt.RcNeAt renaming lists_lengths->Qi,tuples->QK,lists->QU
open PySem.Builtin.Range renaming rangeSize->Qr
open PySem.W renaming OpenLaw->Qx,WShape->Qy,WData->QZ
open PySem.Data renaming fields->QB
open PySem.W.WShape renaming has->QP
open PyProof.Rows.IsTup renaming new->Q0
open PySem.W.WData renaming int->Q3
open List renaming getElem?_eq_some_iff->Gr,map_cons->Gs,length_map->Gv,size_toArray->Gw,replicate->Gx,nodup_append->Gy,map_append->GA,mem_map->GB,length_append->GD,getElem?_map->GE,mem_filter->GF,flatMap_cons->GH,length_cons->GI,flatMap_append->GJ,append_assoc->GK,take_of_length_le->GL,getD_eq_getElem?_getD->GM,getElem?_set_ne->GO,map_map->GQ,getElem?_eq_getElem->GR,filterMap_cons->GS,filterMap_append->GV,length_take->GY,append_nil->GZ,nodup_cons->G3,mem_cons->G4,mem_filterMap->G5,reverse_cons->G6,cons_append->G7,mem_map_of_mem->G8,range->G9,perm_middle->Ha,not_mem_nil->Hb,replicate_succ->Hc,lookup_cons->He,getElem?_append_left->Hi,take_length->Hl,getElem?_append_right->Hm,nil_append->Hn,getElem?_set_self->Ho,length_drop->Hr,mem_flatMap->Hs,filter_sublist->Ht,foldlM_append->Hu,all_eq_true->Hw,filter_cons->Hy,contains_eq_mem->Hz,getElem?_cons_succ->HA,flatten_cons->HC,cons->HE,length->HG,all_cons->HL,nodup_nil->HN,mem_of_mem_take->HP,getElem?_cons_zero->HQ,find?_cons->HR,filter_eq_self->HU,getElem_cons_drop->HV,mem_range->HW,take_append_drop->HY,getElem?_zip_eq_some->HZ,drop_eq_getElem_cons->Ia,map_nil->Ic,ext_getElem?->Ig,mem_of_mem_drop->Ih,length_reverse->Ij,reverse_append->Ik,length_eq_zero_iff->Il,eq_nil_of_length_eq_zero->Ip,filterMap_map->Ir,zipWith->Iu,zipWith_cons_cons->Iv,mem_replicate->Iw,foldl_cons->Ix,mem_iff_getElem?->Iz,map_reverse->IB,length_zipWith->IC,length_set->IE,forIn_cons->IF,append_of_mem->IG,take_succ->II,getElem?_eq_none->IK,flatMap_nil->IM,any_cons->IP,map_take->IQ,lookup->IR,getLast?_append->IS,of_mem_zip->IT,length_nil->IU,filter_map->IV,map_congr_left->IX,all_nil->IZ,filter_append->I9,filter_filter->Ja,perm_ext_iff_of_nodup->Jb,set_comm->Je,getElem?_take_of_lt->Jf,map_drop->Jg,append_cancel_right->Jh,filterMap_cons_none->Ji,getElem?_replicate->Jj,drop_length->Jn,flatMap_eq_nil_iff->Jo,foldl->Jr,sublist_cons_self->Jt,map_set->Ju,mem_append->Jy,length_zip->JB,getElem?_reverse->JC,dropLast_eq_take->JD,perm_append_comm->JE,getElem?_zipWith->JF,set_append_left->JK,length_flatMap->JQ,zipWith_append->JR,zip_cons_cons->JW,set_cons_succ->JX,take_sublist->JZ,take_zipWith->Kf,mem_flatten->Kj,sum_reverse->Kl,head?_drop->Ko,range_succ->Ks,forIn_nil->Ku,drop_zero->Kv,take_zero->Kw,drop_drop->Ky,all_map->KC,map_id->KO
open Bool renaming and_eq_true->Gz,false_ne_true->GG,not_eq_true'->Hf,eq_iff_iff->HF,and_self->ID,false_eq_true->I8,or_eq_true->Jz,and_false->JH,and_eq_true_iff->JN,false_or->JS,true_and->JT,and_true->JU,not_eq_true->Ki,false_and->Kt,not_false->Kx,true_or->KB
open Nat renaming le_refl->GC,ne_of_lt->GN,lt_of_lt_of_le->GP,le_trans->Hj,zero_add->Hk,le_add_right->Hv,lt_of_le_of_lt->HH,lt_irrefl->HJ,zero_le->Ie,zero_lt_succ->Io,ne_of_gt->Iq,min_eq_left->IW,mod_lt->Jc,le_max_right->Jm,succ_le_succ->Jp,le_of_lt->Jq,min_self->Js,lt_of_succ_lt_succ->Jw,le_max_left->JA,le_of_ble_eq_true->JG,le_succ->JI,mul_le_mul->JJ,add_le_add_left->JP,add_assoc->JV,mul_comm->J3,lt_succ_of_lt->Kb,lt_trans->Ke,lt_succ_self->Kh,le_antisymm->Kn,not_lt_zero->Kq,zero_lt_one->Kr,max_lt->Kz,succ->KP
open Int renaming toNat_natCast->GU,emod_lt_of_pos->HI,emod_nonneg->Ib,eq_ofNat_of_zero_le->Jl,ediv_one->J1,zero_add->KD,neg_neg->KN
open Option renaming some->GX,map_eq_some_iff->Hg,isSome_iff_exists->Ii,map_some->Iy,bind_some->IN,bind_eq_bind->IY,getD_none->Jk
open PyProof.Rows renaming slot_tuple_getitem->Hh,callWith_type1->HB,boot_tuple->Im,boot_list->Is,boot_bool->IJ,boot_str->IL,boot_dict->Jv,callWith_builtin1->Kg,boot_min->KG,boot_max->KI,boot_all->KJ,boot_int->KM,lt_int->KR
open Array renaming length_toList->HD,size_append->Ka,toList->KA
open PySem.W renaming fnOf->HK,keepIn->HX,codeIn->IA,cellsFrom_some->IH,findIn->I0,methodObj->Jd,kitOne->JL,kitAny->JM,specialIn->JY,nsIn->Kc,instObj->Km
open PySem renaming mem_of_lookup->HS,evalArgs_none->JO,seqSlot_of->Kk
local macro_rules|`(tactic| unhygienic $t)=>`(tactic| with_unfolding_all $t)
local macro_rules|`(tactic| rfl')=>`(tactic| kernel_rfl)
theorem K46.ws:PySem.Challenge.rw_clockhouse_k46_houses_moved.wellSaid=true:=by rfl'
theorem yaR{α:Type}{b : α}(x:List α){y:List α}(h:b∈y):b∈x++y:=List.mem_append_right x h
theorem yaL{α:Type}{b : α}{x:List α}(y:List α)(h:b∈x):b∈x++y:=List.mem_append_left y h
theorem ymS{α:Type}{b : α}{x:List α}:b∈b::x:=List.mem_cons_self
theorem ymC{α:Type}{b : α}(y : α){x:List α}(h:b∈x):b∈y::x:=List.mem_cons_of_mem y h
theorem yaM{α:Type}{b : α}{x y:List α}(h:b∈x++y):b∈x\/b∈y:=Jy.mp h
theorem ycM{α:Type}{b a : α}{x:List α}(h:b∈a::x):b=a\/b∈x:=G4.mp h
theorem ysM{α:Type}{b a : α}(h:b∈[a]):b=a:=List.mem_singleton.mp h
theorem ymG{α:Type}{x:List α}{i:Nat}{a : α}(h:x[i]?=some a):a∈x:=List.mem_of_getElem? h
abbrev yF:=PySem.W.Frag
namespace L2
open PySem PySem.Spec PyProof.Rows
abbrev Key:=Sum Int Str
noncomputable def lx:Key->LB->Bool
 | .inl k,v=>Qz k v
 | .inr x,v=>Qn x v
noncomputable def F6(w:LU):Key->Int
 | .inl k=>hashInt k
 | .inr x=>hashStr w x
theorem bh:∀{k:Key} {v:LB},lx k v=true->(∃i t,k=Om i/\v=Pv i t)\/(∃x t,k=Mn x/\v=Pw x t)
 | .inl i,v,h=>by
  obtain⟨t,e⟩:=LB.isInt_shape (k:=i) (v:=v) h;exact .inl ⟨i,t,rfl,e⟩
 | .inr x,v,h=>by
  obtain⟨t,e⟩:=LB.isStrOf_shape (x:=x) (v:=v) h;exact .inr ⟨x,t,rfl,e⟩
theorem r9(i:Int)(t:Tok):lx (.inl i) (.int i t)=true:=by simp[lx,Qz]
theorem sd(x:Str)(t:Tok):lx (.inr x) (.str x t)=true:=by simp[lx,Qn]
theorem AS(a b:Int):decide ((Om a:Key)=Om b)=(a==b):=by
 by_cases e:a=b;subst e;simp
 ·have h:¬ (Om a:Key)=Om b:=λq=>e (Om.inj q);rw[decide_eq_false h];exact(beq_eq_false_iff_ne.mpr e).symm
theorem AV(a b:Str):decide ((Mn a:Key)=Mn b)=decide (a=b):=by
 by_cases e:a=b;subst e;simp
 ·have h:¬ (Mn a:Key)=Mn b:=λq=>e (NU q);rw[decide_eq_false h,decide_eq_false e]
theorem AT(a:Int)(b:Str):decide ((Om a:Key)=Mn b)=false:=decide_eq_false (λq=>nomatch q)
theorem AU(a:Str)(b:Int):decide ((Mn a:Key)=Om b)=false:=decide_eq_false (λq=>nomatch q)
noncomputable def bD(prog:LM) (w:LU):PySem.KeyKind prog w Key where
 is:=lx
 hash:=F6 w
 inj:=λv a b ha hb=>by
  rcases bh ha with⟨i,t,rfl,rfl⟩|⟨x,t,rfl,rfl⟩
  ·rcases bh hb with⟨j,u,rfl,e⟩|⟨y,u,rfl,e⟩;injection e with e1 _;rw[e1];exact nomatch e
  ·rcases bh hb with⟨j,u,rfl,e⟩|⟨y,u,rfl,e⟩;exact nomatch e;injection e with e1 _;rw[e1]
 byValue:=λk v h=>by
  rcases bh h with⟨i,t,rfl,rfl⟩|⟨x,t,rfl,rfl⟩<;>rfl
 pyHash:=λhv h=>by
  rcases bh hv with⟨i,t,rfl,rfl⟩|⟨x,t,rfl,rfl⟩;exact wpAny_pyHash_int h;exact wpAny_pyHash_str h
 eqBool:=λhu hv h=>by
  rcases bh hu with⟨i,t,rfl,rfl⟩|⟨x,t,rfl,rfl⟩
  ·rcases bh hv with⟨j,u,rfl,rfl⟩|⟨y,u,rfl,rfl⟩;rw[AS]at h;exact wpAny_eqBool_int h;rw[AT]at h;exact OZ i t y u _ _ _ _ h
  ·rcases bh hv with⟨j,u,rfl,rfl⟩|⟨y,u,rfl,rfl⟩;rw[AU]at h;exact O5 x t j u _ _ _ _ h;rw[AV]at h;exact wpAny_eqBool_str h
 «strs»:=λk x t v h=>by
  rcases bh h with⟨i,u,rfl,e⟩|⟨y,u,rfl,e⟩;exact nomatch e
  ·injection e with e1 _;subst e1;cases v<;>rfl
theorem og(prog:LM)(w:LU)(i:Int)(t:Tok):(bD prog w).is (.inl i) (.int i t)=true:=r9 i t
theorem oh(prog:LM)(w:LU)(x:Str)(t:Tok):(bD prog w).is (.inr x) (.str x t)=true:=sd x t
inductive V where
 | non|bl (b:Bool)|int (i:Int)|str (x:Str)|byt (b:Array UInt8)|flt (b:UInt64)|ref (a:Addr)|ty (n:String)
 deriving DecidableEq
def RelV:V->LB->Prop
 | .non,u=>u=MH
 | .bl b,u=>u=MJ b
 | .int i,u=>∃t,u=Pv i t
 | .str x,u=>∃t,u=Pw x t
 | .byt b,u=>∃t,u=LB.bytes b t
 | .flt b,u=>∃t,u=LB.float b t
 | .ref a,u=>u=Mq a
 | .ty n,u=>u=On n
abbrev Vals:List V->List LB->Prop:=Paired RelV
theorem Vals.length{xs:List V}{us:List LB}(r:Vals xs us):xs.length=us.length:=Paired.length r
theorem Vals.get:∀{xs:List V} {us:List LB} {i:Nat} {x:V},Vals xs us->xs[i]?=some x->∃u,us[i]?=some u/\RelV x u
 | _,_,_,_,.nil,e=>by simp at e
 | _,_,0,_,.cons r _,e=>by simp at e;subst e;exact⟨_,rfl,r⟩
 | _,_,i+1,x,.cons _ t,e=>by
  obtain⟨u,h1,h2⟩:=Vals.get (i:=i) (x:=x) t (by simpa using e);exact⟨u,by simpa using h1,h2⟩
theorem Vals.set{x:V}{u:LB}(r:RelV x u):∀{xs:List V} {us:List LB} (i:Nat),Vals xs us->Vals (xs.set i x) (us.set i u)
 | _,_,_,.nil=>.nil
 | _,_,0,.cons _ t=>.cons r t
 | _,_,i+1,.cons q t=>.cons q (Vals.set r i t)
theorem Vals.append{xs ys:List V}{us ws:List LB}(h:Vals xs us)(s:Vals ys ws):Vals (xs++ys) (us++ws):=by
 induction h with
 | nil=>exact s
 | cons r t ih=>exact .cons r ih
theorem Vals.take:∀{xs:List V} {us:List LB} (n:Nat),Vals xs us->Vals (xs.take n) (us.take n)
 | _,_,0,_=>.nil
 | _,_,_+1,.nil=>.nil
 | _,_,n+1,.cons r t=>.cons r (Vals.take n t)
theorem Vals.drop:∀{xs:List V} {us:List LB} (n:Nat),Vals xs us->Vals (xs.drop n) (us.drop n)
 | _,_,0,r=>r
 | _,_,_+1,.nil=>.nil
 | _,_,n+1,.cons _ t=>Vals.drop n t
def RelO:Option V->Option LB->Prop
 | some v,some u=>RelV v u
 | none,none=>True
 | _,_=>False
def KV{κ : Type}:List (κ×V)->List (κ×LB)->Prop:=Paired λ(p : κ×V) (q : κ×LB)=>p.1=q.1/\RelV p.2 q.2
noncomputable def kV:Key->V
 | .inl i=>.int i
 | .inr x=>.str x
inductive HO where
 | lst (xs:List V)
 | tup (xs:List V)
 | dK (kvs:List (Key×V))|dT (kvs:List (List Key×V))
 | set (S:Int->Bool) (n:Nat)
 | ins (C dx:Addr) (fs:List (Str×V))
 | own (x:Addr)
 | xd (fs:List (Str×V))
 | met (f x:Addr)
 | rng (lo hi:Int)
 | frz (o:Obj) (u:HO)
 | tbl (ps:Array LB)
 | ext (φ : Heap->Prop)
abbrev Hp:=Addr->Option HO
noncomputable def upd(H:Hp) (a:Addr) (o:HO):Hp:=λb=>if b=a then some o else H b
theorem av{H:Hp}{a:Addr}{o:HO}:upd H a o a=some o:=by unfold upd;rw[if_pos rfl]
theorem upd_ne{H:Hp}{a b:Addr}{o:HO}(h:b≠a):upd H a o b=H b:=by unfold upd;rw[if_neg h]
theorem be{H:Hp}{a b:Addr}{o:HO}(h:H a=some o)(h':H b=none):a≠b:=by
 intro e;subst e;rw[h]at h';cases h'
def La(h:Heap)(a:Addr)(items:Array LB):Prop:=∃o,h.get? a=some o/\(o.cls=.type "tuple" /\ o.dict=none)/\∃n,o.data=.seq items n
theorem La.to{h:Heap}{a:Addr}{items:Array LB}(x:La h a items):Pg h a items:=let ⟨o,e,c,d⟩:=x;⟨o,e,c.1,d⟩
theorem La.new(h:Heap)(items:Array LB):La (h.push {cls:=.type "tuple",data:=.seq items}) h.objs.size items:=⟨_,LK _ rfl,⟨rfl,rfl⟩,_,rfl⟩
section
variable (P:LM)(w:LU)
def K0(H:Hp)(h:Heap)(a:Addr):HO->Prop
 | .lst xs=>xs.length<=sizeLine/\∃(its:List LB) (n:Nat),Vals xs its/\h.get? a=some {cls:=.type "list",data:=.seq its.toArray n}
 | .tup xs=>xs.length<=sizeLine/\∃its:List LB,Vals xs its/\La h a its.toArray
 | .dK kvs=>kvs.length<=sizeLine/\(a==NI)=false/\∃vs,KV kvs vs/\h.DictOf (bD P w) a vs
 | .dT kvs=>kvs.length<=sizeLine/\(a==NI)=false/\∃xs:List (List Key×Addr×LB),
   Paired (λ(p:List Key×V) (q:List Key×Addr×LB)=>p.1=q.1/\H q.2.1=some (.tup (p.1.map kV))/\RelV p.2 q.2.2) kvs xs /\
   ∃o es ep,h.get? a=some o/\o.ExactDict/\o.data=.dict es ep/\es.toList=xs.map (entryOfKey (tupleKind (bD P w)))/\(xs.map (·.1)).Nodup
 | .set S n=>h.SetOf (intKind P w) a S n
 | .ins C dx fs=>H dx=some (.own a)/\fs.length<=1000/\dx≠a/\h.get? a=some (Km C dx) /\
   ∃mA,h.Ns1 dx mA/\(∀f,RelO (fs.lookup f) (mA f))/\PySem.Within mA (fs.map (·.1))
 | .own _=>∃o,h.get? a=some o
 | .xd fs=>∃mA,h.Ns1 a mA/\∀f,RelO (fs.lookup f) (mA f)
 | .rng lo hi=>∃t u v,h.get? a=some {cls:=.type "range",data:=.fields #[.int lo t,.int hi u,.int 1 v]}
 | .frz o u=>h.get? a=some o/\K0 H h a u
 | .tbl ps=>h.get? a=some {cls:=.none,data:=.fields ps}
 | .met f x=>h.get? a=some (Jd (.ref f) (.ref x))
 | .ext φ=>φ h/\(∃o,h.get? a=some o)/\∀h1 h2:Heap,φ h1->(∀o,h1.get? a=some o->h2.get? a=some o)->φ h2
def HOk(H:Hp)(h:Heap):Prop:=∀a o,H a=some o->K0 P w H h a o
end
section
variable {P:LM}{w:LU}{H H':Hp}{h h':Heap}{a:Addr}{o:HO}
theorem K0.lt(x:K0 P w H h a o):a<h.objs.size:=by
 cases o with
 | lst xs=>obtain⟨_,_,_,_,e⟩:=x;exact LI e
 | tup xs=>obtain⟨_,_,_,p⟩:=x;exact p.to.lt
 | dK kvs=>obtain⟨_,_,_,_,o,_,_,e,_⟩:=x;exact LI e
 | dT kvs=>obtain⟨_,_,_,_,o,_,_,e,_⟩:=x;exact LI e
 | set S n=>obtain⟨o,_,_,_,e,_⟩:=x;exact LI e
 | ins C dx fs=>obtain⟨_,_,_,e,_⟩:=x;exact LI e
 | own y=>obtain⟨_,e⟩:=x;exact LI e
 | xd fs=>obtain⟨_,⟨_,_,_,e,_⟩,_⟩:=x;exact LI e
 | rng lo hi=>obtain⟨_,_,_,e⟩:=x;exact LI e
 | frz ob u=>obtain⟨e,_⟩:=x;exact LI e
 | tbl ps=>exact LI (show h.get? a=some _ from x)
 | met f y=>exact LI (show h.get? a=some _ from x)
 | ext φ=>obtain⟨_,⟨_,e⟩,_⟩:=x;exact LI e
theorem Paired.mapP{α β:Type}{F G : α->β->Prop}{l₁ : List α}{l₂ : List β}(h:Paired F l₁ l₂)(f:∀a b,F a b->G a b):Paired G l₁ l₂:=by
 induction h with
 | nil=>exact .nil
 | cons r t ih=>exact .cons (f _ _ r) ih
theorem K0.stay(x:K0 P w H h a o)(k:∀b u,(b=a\/H b=some (.own a))->h.get? b=some u->h'.get? b=some u)
  (ho:∀b,H b=some (.own a)->H' b=some (.own a)) (ht:∀b xs,H b=some (.tup xs)->H' b=some (.tup xs)):K0 P w H' h' a o:=by
 induction o with
 | lst xs=>obtain⟨z,its,n,r,e⟩:=x;exact⟨z,its,n,r,k _ _ (.inl rfl) e⟩
 | tup xs=>obtain⟨z,its,r,ob,e,c⟩:=x;exact⟨z,its,r,ob,k _ _ (.inl rfl) e,c⟩
 | dK kvs=>obtain⟨z,y,vs,r,ob,es,ep,e,c⟩:=x;exact⟨z,y,vs,r,ob,es,ep,k _ _ (.inl rfl) e,c⟩
 | dT kvs=>
  obtain⟨z,y,xs,r,ob,es,ep,e,c⟩:=x;exact⟨z,y,xs,Paired.mapP r λp q z=>⟨z.1,ht _ _ z.2.1,z.2.2⟩,ob,es,ep,k _ _ (.inl rfl) e,c⟩
 | set S n=>obtain⟨ob,es,ep,t,e,c⟩:=x;exact⟨ob,es,ep,t,k _ _ (.inl rfl) e,c⟩
 | ins C dx fs=>
  obtain⟨d,z,ne,e,mA,⟨od,es,ep,e2,c⟩,r⟩:=x;exact⟨ho _ d,z,ne,k _ _ (.inl rfl) e,mA,⟨od,es,ep,k _ _ (.inr d) e2,c⟩,r⟩
 | own y=>obtain⟨ob,e⟩:=x;exact⟨ob,k _ _ (.inl rfl) e⟩
 | xd fs=>obtain⟨mA,⟨od,es,ep,e,c⟩,r⟩:=x;exact⟨mA,⟨od,es,ep,k _ _ (.inl rfl) e,c⟩,r⟩
 | rng lo hi=>obtain⟨t,u,v,e⟩:=x;exact⟨t,u,v,k _ _ (.inl rfl) e⟩
 | frz ob u ih=>obtain⟨e,q⟩:=x;exact⟨k _ _ (.inl rfl) e,ih q⟩
 | tbl ps=>
  have e:h.get? a=some {cls:=.none,data:=.fields ps}:=x;show h'.get? a=some {cls:=.none,data:=.fields ps};exact k a _ (.inl rfl) e
 | met f y=>
  have e:h.get? a=some (Jd (.ref f) (.ref y)):=x;show h'.get? a=some (Jd (.ref f) (.ref y));exact k a _ (.inl rfl) e
 | ext φ=>obtain⟨p,⟨o,e⟩,st⟩:=x;exact⟨st _ _ p λo q=>k _ _ (.inl rfl) q,⟨o,k _ _ (.inl rfl) e⟩,st⟩
theorem HOk.lt(x:HOk P w H h)(e:H a=some o):a<h.objs.size:=(x a o e).lt
theorem HOk.fresh(x:HOk P w H h)(e:h.objs.size<=a):H a=none:=by
 cases q:H a with
 | none=>rfl
 | some u=>exact absurd (GP (x.lt q) e) (HJ _)
theorem HOk.kept(x:HOk P w H h)(k:∀b u,h.get? b=some u->h'.get? b=some u):HOk P w H h':=λa o e=>
 (x a o e).stay (λb u _ q=>k b u q) (λ_ q=>q) λ_ _ q=>q
theorem HOk.laid(x:HOk P w H h)(k:∀b u,h.get? b=some u->h'.get? b=some u)(hp:h.objs.size<=a)(new:K0 P w (upd H a o) h' a o):HOk P w (upd H a o) h':=λb u e=>by
 have hn:=x.fresh hp;by_cases hb:b=a;subst hb;rw[av]at e;cases e;exact new
 ·rw[upd_ne hb]at e;exact(x b u e).stay (λc v _ q=>k c v q) (λc q=>by rw[upd_ne (be q hn)];exact q) λc xs q=>by rw[upd_ne (be q hn)];exact q
end
def Rd(H:Hp)(a:Addr)(u:HO):Prop:=H a=some u \/ ∃o,H a=some (.frz o u)
theorem Rd.ok{P:LM}{w:LU}{H:Hp}{h:Heap}{a:Addr}{u:HO}(r:Rd H a u)(x:HOk P w H h):K0 P w H h a u:=by
 rcases r with r|⟨o,r⟩;exact x a u r
 ·obtain⟨_,q⟩:=x a _ r;exact q
def Mut:Option HO->Prop
 | some (.lst _)=>True
 | some (.dK _)=>True
 | some (.dT _)=>True
 | some (.set _ _)=>True
 | some (.ins _ _ _)=>True
 | some (.ext _)=>True
 | _=>False
section
variable {P:LM}{w:LU}{H:Hp}{h h':Heap}{x e:Addr}{o':HO}
theorem HOk.write(ok:HOk P w H h)(mu:Mut (H x))(he:e=x\/H e=some (.own x))(k:∀b u,b≠e->h.get? b=some u->h'.get? b=some u)(heo:∃u,h'.get? e=some u)
  (new:K0 P w (upd H x o') h' x o'):HOk P w (upd H x o') h':=λb u q=>by
 have nown:∀c y,H c=some (.own y)->c≠x:=λc y r z=>by subst z;rw[r]at mu;exact mu
 have ntup:∀c xs,H c=some (.tup xs)->c≠x:=λc xs r z=>by subst z;rw[r]at mu;exact mu
 by_cases hb:b=x;subst hb;rw[av]at q;cases q;exact new
 ·rw[upd_ne hb]at q;by_cases hbe:b=e
  ·have q':H b=some (.own x):=by
    rcases he with z|z;exact absurd (hbe.trans z) hb;rw[hbe];exact z
   rw[q]at q';cases q';obtain⟨v,hv⟩:=heo;exact⟨v,by rw[hbe];exact hv⟩
  ·refine(ok b u q).stay (λc v hc r=>k c v ?_ r) (λc r=>by rw[upd_ne (nown c b r)];exact r) λc xs r=>by rw[upd_ne (ntup c xs r)];exact r
   rcases hc with rfl|hc;exact hbe
   ·rintro rfl;rcases he with z|z;exact nown c b hc z;rw[hc]at z;cases z;exact hb rfl
end
structure Un(fs ex:List Addr)(H H':Hp)(h h':Heap):Prop where
 keep:∀b o,h.get? b=some o->H b=none->b∉fs->b∉ex->h'.get? b=some o
 slot:∀b o,h.get? b=some o->H b=none->b∈fs->b∉ex->∃sl,h'.get? b=some {o with slots:=sl}
 free:∀b o,h.get? b=some o->H b=none->b∉ex->H' b=none
 there:∀b o,h.get? b=some o->b∉ex->∃o',h'.get? b=some o'
 tups:∀b xs,H b=some (.tup xs)->H' b=some (.tup xs)
 frzs:∀b o u,H b=some (.frz o u)->H' b=some (.frz o u)
 tbls:∀b ps,H b=some (.tbl ps)->∃more,H' b=some (.tbl (ps++more))
section
variable {fs fs' ex ex':List Addr}{H H1 H2:Hp}{h h1 h2 h':Heap}{a x e:Addr}{o:HO}
theorem Un.any(u:Un fs ex H H1 h h1){b:Addr}{ob:Obj}(q:h.get? b=some ob)(n:H b=none)(hx:b∉ex):∃sl,h1.get? b=some {ob with slots:=sl}:=by
 by_cases hb:b∈fs;exact u.slot b ob q n hb hx;exact⟨ob.slots,u.keep b ob q n hb hx⟩
theorem Un.kept(k:∀b u,h.get? b=some u->h'.get? b=some u):Un fs ex H H h h':=
 ⟨λb ob q _ _ _=>k b ob q,λb ob q _ _ _=>⟨ob.slots,k b ob q⟩,λ_ _ _ n _=>n,λb ob q _=>⟨ob,k b ob q⟩,λ_ _ q=>q,λ_ _ _ q=>q,λ_ ps q=>⟨#[],by rw[q];simp⟩⟩
theorem Un.refl:Un fs ex H H h h:=Un.kept λ_ _ q=>q
theorem Un.laid(k:∀b u,h.get? b=some u->h'.get? b=some u)(hp:h.objs.size<=a)(hn:H a=none):Un fs ex H (upd H a o) h h' where
 keep:=λb u q _ _ _=>k b u q
 slot:=λb u q _ _ _=>⟨u.slots,k b u q⟩
 free:=λb u q n _=>by rw[upd_ne (GN (GP (LI q) hp))];exact n
 there:=λb u q _=>⟨u,k b u q⟩
 tups:=λb xs q=>by rw[upd_ne (be q hn)];exact q
 frzs:=λb u xs q=>by rw[upd_ne (be q hn)];exact q
 tbls:=λb ps q=>⟨#[],by rw[upd_ne (be q hn),q];simp⟩
theorem Un.write(mu:Mut (H x))(he:e=x\/H e=some (.own x))(k:∀b u,b≠e->h.get? b=some u->h'.get? b=some u)(heo:∃u,h'.get? e=some u):Un fs ex H (upd H x o) h h':=by
 have hx:∀b,H b=none->b≠x:=λb n z=>by subst z;rw[n]at mu;exact mu
 have hb:∀b,H b=none->b≠e:=λb n z=>by
  subst z;rcases he with r|r;exact hx b n r;rw[n]at r;cases r
 have hm:∀b u,H b=some u->¬ Mut (some u)->b≠x:=λb u q nm z=>by subst z;rw[q]at mu;exact nm mu
 refine⟨λb u q n _ _=>k b u (hb b n) q,λb u q n _ _=>⟨u.slots,k b u (hb b n) q⟩,λb u q n _=>by rw[upd_ne (hx b n)];exact n,λb u q _=>?_,
  λb xs q=>by rw[upd_ne (hm b _ q λz=>z)];exact q,λb u xs q=>by rw[upd_ne (hm b _ q λz=>z)];exact q,λb ps q=>⟨#[],by rw[upd_ne (hm b _ q λz=>z),q];simp⟩⟩
 by_cases hbe:b=e;subst hbe;exact heo;exact⟨u,k b u hbe q⟩
end
noncomputable def trk(h:Heap) (H:Hp):List Addr:=(G9 h.objs.size).filter λa=>(H a).isSome
noncomputable def mI(h:Heap) (H:Hp):Heap:=PySem.W.hideAll h (trk h H)
theorem rW(h:Heap)(H:Hp):(mI h H).objs.size=h.objs.size:=PySem.W.hideAll_size _ _
theorem uc{h:Heap}{H:Hp}{b:Addr}{o:Obj}(e:h.get? b=some o)(n:H b=none):(mI h H).get? b=some o:=
 PySem.W.hideAll_get _ e λhm=>by
  have q:(H b).isSome=true:=(GF.mp hm).2;rw[n]at q;simp at q
theorem xK{h:Heap}{H:Hp}{b:Addr}{o:Obj}(e:(mI h H).get? b=some o):h.get? b=some o/\H b=none:=by
 have e':h.get? b=some o:=PySem.W.of_hideAll (trk h H) e;refine⟨e',?_⟩;cases q:H b with
 | none=>rfl
 | some x=>
  have hm:b∈trk h H:=GF.mpr ⟨HW.mpr (LI e'),by simp[q]⟩;have z:(mI h H).get? b=none:=PySem.W.hideAll_none (trk h H) hm;rw[z]at e;cases e
noncomputable def xg(g h:Heap) (L:Addr):List (Addr×Obj):=(G9 h.objs.size).filterMap λa=>if a=L\/(g.get? a).isSome=true then none else(h.get? a).map λo=>(a,o)
noncomputable def rest(g h:Heap) (L d:Addr):List (Addr×Obj):=(xg g h L).filter λp=>decide (p.1≠d)
structure Mod(K:yF)(mg:Str->Option LB)(base:Heap):Prop where
 kin:K.In base
 glob:base.Ns Md mg
 blt:∃mb,base.Ns O6 mb/\∀x:Str,x ≠ "__name__" -> mb x=Mh x
 nolimit:base.NoLimit
structure Cx where
 prog:LM
 w:LU
 K:yF
 mg:Str->Option LB
 base:Heap
 A:LQ
 N:List Str
 s₀ : LD
 H₀ : Hp
 env:Env
 outer:List Env
 stack:List Env
 ex:List Addr
 fn:Str->Bool
 calm:Bool
 pn:List (Addr×Obj)
 xe:LB->LD->Prop
def frs(l:List Env):List Addr:=l.filterMap (·.frame)
noncomputable abbrev Cx.fs(X:Cx):List Addr:=frs X.outer
def Vis(sc:MW)(x:Str):Prop:=sc.names.lookup x=some .local\/sc.names.lookup x=some .cell\/sc.names.lookup x=some .free
def Loc(sc:MW)(x:Str):Prop:=sc.names.lookup x=some .local\/sc.names.lookup x=some .cell
def FL(env:Env)(h:Heap)(m:Str->Option LB)(x:Str)(u:LB):Prop:=
 (env.kindOf x=some .local/\m x=some u)\/((env.kindOf x=some .cell\/env.kindOf x=some .free)/\∃c,env.cells.lookup x=some c/\h.IsCell c (some u))
structure Cx.Ok(X:Cx):Prop where
 mod:Mod X.K X.mg X.base
 kind:X.env.scope.kind=.function
 glob:X.env.globals=Md
 blt:X.env.builtins=O6
 above:X.s₀.heap.objs.size<=X.env.locals
 inj:∀x y c,X.env.cells.lookup x=some c->X.env.cells.lookup y=some c->x=y
 has:∀x,(X.env.kindOf x=some .cell\/X.env.kindOf x=some .free)->∃c,X.env.cells.lookup x=some c
 cab:∀x c,X.fn x=true->X.env.cells.lookup x=some c->X.s₀.heap.objs.size<=c
 hd:X.calm=true->X.A.handled=none
 gd:X.calm=true->X.A.guards=some []
 frames:X.A.frames=some X.stack
 stk:X.stack=X.outer\/(X.stack=X.env::X.outer/\X.env.frame=some X.env.locals)
 exf:∀b∈X.ex,b≠X.env.locals/\∀x c,X.env.cells.lookup x=some c->c≠b
 bs:∀b o,X.base.get? b=some o->X.s₀.heap.get? b=some o/\X.H₀ b=none
 bsz:X.base.objs.size<=X.s₀.heap.objs.size
 noex:∀b o,X.base.get? b=some o->b∉X.ex
 exfs:∀b∈X.ex,b∉X.fs
 funs:X.s₀.heap.FunFrames X.base X.outer
 frf:∀b∈X.fs,X.H₀ b=none
structure Inv(X:Cx)(Uq:List (Addr×Obj))(Z:List (Option V))(H:Hp)(s:LD):Prop where
 ok:X.Ok
 os:s.os=X.s₀.os
 bare:NV s.gens
 base:Un X.fs X.ex X.H₀ H X.s₀.heap s.heap
 loc:∃m,s.heap.Ns X.env.locals m/\∀(i:Nat) (x:Str) (v:V),X.N[i]?=some x->Z[i]?=some (some v)->Vis X.env.scope x->∃u,RelV v u/\FL X.env s.heap m x u
 cell:∀x c,X.env.cells.lookup x=some c->∃v,s.heap.IsCell c v
 free:H X.env.locals=none
 freeC:∀x c,X.env.cells.lookup x=some c->H c=none
 pin:∀p∈X.pn++Uq,s.heap.get? p.1=some p.2/\H p.1=none/\p.1≠X.env.locals/\p.1∉X.fs/\∀v,p.2.data ≠ .cell v
 hok:HOk X.prog X.w H s.heap
 len:Z.length=X.N.length
section
variable {X:Cx}{Uq:List (Addr×Obj)}{Z:List (Option V)}{H H':Hp}{s:LD}{h':Heap}
theorem Cx.Ok.nofr(ok:X.Ok){b:Addr}{o:Obj}(e:X.base.get? b=some o):b∉X.fs:=λhb=>by
 have:=(ok.funs.mem hb).1;rw[e]at this;cases this
theorem Inv.bs(I:Inv X Uq Z H s):∀b o,X.base.get? b=some o->s.heap.get? b=some o/\H b=none:=λb o e=>
 ⟨I.base.keep b o (I.ok.bs b o e).1 (I.ok.bs b o e).2 (I.ok.nofr e) (I.ok.noex b o e),I.base.free b o (I.ok.bs b o e).1 (I.ok.bs b o e).2 (I.ok.noex b o e)⟩
theorem Inv.bk(I:Inv X Uq Z H s):∀b o,X.base.get? b=some o->s.heap.get? b=some o:=λb o e=>(I.bs b o e).1
theorem Inv.mod(I:Inv X Uq Z H s):Mod X.K X.mg X.base:=I.ok.mod
theorem Inv.kIn(I:Inv X Uq Z H s):X.K.In s.heap:=I.ok.mod.kin.keeps I.bk
theorem Inv.fr(I:Inv X Uq Z H s):∃m,Fr X.base X.env.locals s.heap m:=
 let ⟨m,hn,_⟩:=I.loc
 ⟨m,hn,I.bk,Hj I.ok.bsz I.ok.above⟩
theorem Inv.lt(I:Inv X Uq Z H s):X.env.locals<s.heap.objs.size:=let ⟨_,hn,_⟩:=I.loc;hn.lt
theorem Inv.sz(I:Inv X Uq Z H s):X.s₀.heap.objs.size<=s.heap.objs.size:=Hj I.ok.above (Jq I.lt)
theorem Inv.nofs(I:Inv X Uq Z H s){a:Addr}(h:s.heap.objs.size<=a):a∉X.fs:=λhb=>by
 obtain⟨_,o,ho,_⟩:=I.ok.funs.mem hb;exact absurd (GP (LI ho) (Hj I.sz h)) (HJ _)
theorem Inv.cne(I:Inv X Uq Z H s):∀x c,X.env.cells.lookup x=some c->c≠X.env.locals:=λx c e z=>by
 obtain⟨v,o,ho,hd⟩:=I.cell x c e;obtain⟨m,⟨o',es,ep,ho',hd',_⟩,_⟩:=I.loc;rw[z,ho']at ho;cases ho;rw[hd']at hd;cases hd
theorem Inv.funs(I:Inv X Uq Z H s):s.heap.FunFrames X.base X.outer:=by
 have all:∀(l:List Env),(∀b∈frs l,b∈X.fs)->X.s₀.heap.FunFrames X.base l->s.heap.FunFrames X.base l:=by
  intro l
  induction l with
  | nil=>intro _ _;trivial
  | cons env r ih=>
   intro hs hl;obtain⟨hk,⟨L,o,hf,hn,ho,hd⟩,hr⟩:=hl;have hL:L∈X.fs:=hs L (by unfold frs;rw[GS,hf];exact ymS);obtain⟨sl,e⟩:=I.base.slot L o ho (I.ok.frf L hL) hL λz=>I.ok.exfs L z hL;exact⟨hk,⟨L,_,hf,hn,e,hd⟩,ih (λb hb=>hs b (by unfold frs;rw[GS,hf];exact ymC _ hb)) hr⟩
 exact all X.outer (λ_ hb=>hb) I.ok.funs
theorem Inv.stack(I:Inv X Uq Z H s):s.heap.FunFrames X.base X.stack:=by
 rcases I.ok.stk with e|⟨e,hf⟩;rw[e];exact I.funs
 ·rw[e];obtain⟨m,hn,_⟩:=I.loc;refine .cons (by rw[I.ok.kind];decide) hf hn ?_ I.funs;exact Heap.get?_none_of_le (Hj I.ok.bsz I.ok.above)
theorem Inv.stkSub(I:Inv X Uq Z H s):∀b∈frs X.stack,b∈X.env.locals::X.fs:=λb hb=>by
 rcases I.ok.stk with e|⟨e,hf⟩;rw[e]at hb;exact ymC _ hb
 ·rw[e]at hb;unfold frs at hb;rw[GS,hf]at hb;exact hb
theorem Inv.stkFree(I:Inv X Uq Z H s):∀b∈frs X.stack,H b=none:=λb hb=>by
 rcases ycM (I.stkSub b hb)with e|hb;rw[e];exact I.free
 ·obtain⟨_,o,ho,_⟩:=I.ok.funs.mem hb;exact I.base.free b o ho (I.ok.frf b hb) λz=>I.ok.exfs b z hb
theorem Inv.step{g':Array GenState}{t':Nat}{d':Drawn}{ch:List Addr}(I:Inv X Uq Z H s)
  (hch:∀b∈ch,(b∈X.ex\/X.s₀.heap.objs.size<=b)/\b≠X.env.locals/\(∀x c,X.env.cells.lookup x=some c->c≠b)/\∀p∈X.pn++Uq,p.1≠b)
  (keep:∀b o,b≠X.env.locals->b∉X.fs->b∉ch->s.heap.get? b=some o->H b=none->h'.get? b=some o)
  (slot:∀b o,b≠X.env.locals->b∈X.fs->b∉ch->s.heap.get? b=some o->H b=none->∃sl,h'.get? b=some {o with slots:=sl}) (free:∀b o,b∉ch->s.heap.get? b=some o->H b=none->H' b=none)
  (there:∀b o,b∉ch->s.heap.get? b=some o->∃o',h'.get? b=some o')
  (tups:∀b xs,H b=some (.tup xs)->H' b=some (.tup xs)) (frzs:∀b o u,H b=some (.frz o u)->H' b=some (.frz o u)) (tbls:∀b ps,H b=some (.tbl ps)->∃more,H' b=some (.tbl (ps++more)))
  (ns:∀m,s.heap.Ns X.env.locals m->h'.Ns X.env.locals m) (hok:HOk X.prog X.w H' h') (hg:NV g') :
  Inv X Uq Z H' {s with heap:=h',gens:=g',drawn:=d',toks:=t'}:=by
 have neL:∀b o,X.s₀.heap.get? b=some o->b≠X.env.locals:=λb o e=>GN (GP (LI e) I.ok.above);have neC:∀b o,X.s₀.heap.get? b=some o->b∉X.ex->b∉ch:=λb o e hx hb=>by
  rcases(hch b hb).1 with z|z;exact hx z;exact absurd (GP (LI e) z) (HJ _)
 have cellK:∀x c,X.env.cells.lookup x=some c->∀v,s.heap.IsCell c v->h'.IsCell c v:=λx c e v ⟨o,ho,hd⟩=>by
  have nch:c∉ch:=λz=>(hch c z).2.2.1 x c e rfl;by_cases hc:c∈X.fs
  ·obtain⟨sl,q⟩:=slot c o (I.cne x c e) hc nch ho (I.freeC x c e);exact⟨_,q,hd⟩
  ·exact⟨o,keep c o (I.cne x c e) hc nch ho (I.freeC x c e),hd⟩
 refine⟨I.ok,I.os,hg,⟨λb o e n hb hx=>?_,λb o e n hb hx=>?_,λb o e n hx=>?_,λb o e hx=>?_,λb xs e=>tups b xs (I.base.tups b xs e),λb o xs e=>frzs b o xs (I.base.frzs b o xs e),λb ps e=>?_⟩,?_,λx c e=>?_,?_,λx c e=>?_,λp hp=>?_,hok,I.len⟩;exact keep b o (neL b o e) hb (neC b o e hx) (I.base.keep b o e n hb hx) (I.base.free b o e n hx)
 ·obtain⟨sl,e1⟩:=I.base.slot b o e n hb hx;obtain⟨sl',e2⟩:=slot b _ (neL b o e) hb (neC b o e hx) e1 (I.base.free b o e n hx);exact⟨sl',e2⟩
 ·obtain⟨o',e1⟩:=I.base.there b o e hx;exact free b o' (neC b o e hx) e1 (I.base.free b o e n hx)
 ·obtain⟨o',e1⟩:=I.base.there b o e hx;exact there b o' (neC b o e hx) e1
 ·obtain⟨m1,e1⟩:=I.base.tbls b ps e;obtain⟨m2,e2⟩:=tbls b _ e1;exact⟨m1++m2,by rw[e2,Array.append_assoc]⟩
 ·obtain⟨m,hn,hl⟩:=I.loc;refine⟨m,ns m hn,λi x v e1 e2 e3=>?_⟩;obtain⟨u,r,l⟩:=hl i x v e1 e2 e3;refine⟨u,r,?_⟩;rcases l with l|⟨k,c,e,z⟩;exact .inl l;exact .inr ⟨k,c,e,cellK x c e _ z⟩
 ·obtain⟨v,z⟩:=I.cell x c e;exact⟨v,cellK x c e v z⟩
 ·obtain⟨m,⟨o,_,_,ho,_⟩,_⟩:=I.loc;exact free _ o (λz=>(hch _ z).2.1 rfl) ho I.free
 ·obtain⟨v,o,ho,hd⟩:=I.cell x c e;exact free c o (λz=>(hch c z).2.2.1 x c e rfl) ho (I.freeC x c e)
 ·obtain⟨e,n,ne,nf,d⟩:=I.pin p hp;have nch:p.1∉ch:=λz=>(hch p.1 z).2.2.2 p hp rfl;exact⟨keep p.1 p.2 ne nf nch e n,free p.1 p.2 nch e n,ne,nf,d⟩
theorem Inv.un{t':Nat}(I:Inv X Uq Z H s)(u:Un X.fs [] H H' s.heap h')(hok:HOk X.prog X.w H' h'):Inv X Uq Z H' {s with heap:=h',toks:=t'}:=by
 obtain⟨m,⟨o,es,ep,ho,r⟩,_⟩:=id I.loc;obtain⟨sl,hL⟩:=u.any ho I.free (by simp);exact I.step (g':=s.gens) (d':=s.drawn) (ch:=[]) (λ_ z=>nomatch z) (λb o _ hb _ e n=>u.keep b o e n hb (by simp)) (λb o _ hb _ e n=>u.slot b o e n hb (by simp)) (λb o _ e n=>u.free b o e n (by simp)) (λb o _ e=>u.there b o e (by simp)) u.tups u.frzs u.tbls (λm' hm=>by
  obtain⟨o',es',ep',ho',r'⟩:=hm;rw[ho]at ho';cases ho';exact⟨_,es',ep',hL,r'⟩) hok I.bare
theorem Inv.call{g':Array GenState}{t':Nat}{d':Drawn}{ch:List Addr}(I:Inv X Uq Z H s)(u:Un (frs X.stack) ch H H' s.heap h')(hok:HOk X.prog X.w H' h')(hg:NV g')
  (hch:∀b∈ch,(b∈X.ex\/X.s₀.heap.objs.size<=b)/\b≠X.env.locals/\(∀x c,X.env.cells.lookup x=some c->c≠b)/\∀p∈X.pn++Uq,p.1≠b) :
  Inv X Uq Z H' {s with heap:=h',gens:=g',drawn:=d',toks:=t'}:=by
 obtain⟨m,⟨o,es,ep,ho,r⟩,_⟩:=id I.loc;obtain⟨sl,hL⟩:=u.any ho I.free λz=>(hch _ z).2.1 rfl;exact I.step (ch:=ch) hch (λb o hL hb hc e n=>u.keep b o e n (λz=>(ycM (I.stkSub b z)).elim hL hb) hc) (λb o _ _ hc e n=>u.any e n hc) (λb o hc e n=>u.free b o e n hc) (λb o hc e=>u.there b o e hc) u.tups u.frzs u.tbls (λm' hm=>by
  obtain⟨o',es',ep',ho',r'⟩:=hm;rw[ho]at ho';cases ho';exact⟨_,es',ep',hL,r'⟩) hok hg
theorem Inv.turned{t':Nat}{it:Addr}(I:Inv X Uq Z H s)(k:∀b o,b≠it->s.heap.get? b=some o->h'.get? b=some o)(hn:H it=none)(hL:it≠X.env.locals)
  (h1:it∈X.ex\/X.s₀.heap.objs.size<=it) (h2:∀x c,X.env.cells.lookup x=some c->c≠it) (h3:∀p∈X.pn++Uq,p.1≠it):Inv X Uq Z H {s with heap:=h',toks:=t'}:=by
 have nit:∀b u,H b=some u->b≠it:=λb u e z=>by rw[z,hn]at e;cases e
 refine I.step (g':=s.gens) (d':=s.drawn) (ch:=[it]) (λb hb=>?_) (λb o _ _ hc e _=>k b o (λz=>hc (by simp[z])) e) (λb o _ _ hc e _=>⟨o.slots,k b o (λz=>hc (by simp[z])) e⟩) (λ_ _ _ _ n=>n)
  (λb o hc e=>⟨o,k b o (λz=>hc (by simp[z])) e⟩) (λ_ _ e=>e) (λ_ _ _ e=>e) (λb ps e=>⟨#[],by rw[e];simp⟩) (λm hm=>?_) (λb u e=>?_) I.bare
 ·have e:b=it:=by simpa using hb
  subst e;exact⟨h1,hL,h2,h3⟩
 ·obtain⟨o,es,ep,ho,r⟩:=hm;exact⟨o,es,ep,k _ o (LO hL) ho,r⟩
 ·refine(I.hok b u e).stay (λc v hc q=>k c v ?_ q) (λ_ q=>q) λ_ _ q=>q;rcases hc with z|z;rw[z];exact nit b u e;exact nit c _ z
theorem Inv.tok(I:Inv X Uq Z H s)(t:Nat):Inv X Uq Z H {s with toks:=t}:=I.un (h':=s.heap) (t':=t) Un.refl I.hok
theorem Inv.kept{t':Nat}(I:Inv X Uq Z H s)(k:∀b u,s.heap.get? b=some u->h'.get? b=some u):Inv X Uq Z H {s with heap:=h',toks:=t'}:=I.un (Un.kept k) (I.hok.kept k)
theorem Inv.laid{a:Addr}{o:HO}{t':Nat}(I:Inv X Uq Z H s)(k:∀b u,s.heap.get? b=some u->h'.get? b=some u)(hp:s.heap.objs.size<=a)(new:K0 X.prog X.w (upd H a o) h' a o) :
  Inv X Uq Z (upd H a o) {s with heap:=h',toks:=t'}:=I.un (Un.laid k hp (I.hok.fresh hp)) (I.hok.laid k hp new)
theorem Inv.write{x e:Addr}{o:HO}{t':Nat}(I:Inv X Uq Z H s)(mu:Mut (H x))(he:e=x\/H e=some (.own x))(k:∀b u,b≠e->s.heap.get? b=some u->h'.get? b=some u)(heo:∃u,h'.get? e=some u)
  (new:K0 X.prog X.w (upd H x o) h' x o):Inv X Uq Z (upd H x o) {s with heap:=h',toks:=t'}:=I.un (Un.write mu he k heo) (I.hok.write mu he k heo new)
theorem Inv.weak{Z':List (Option V)}(I:Inv X Uq Z H s)(hl:Z'.length=Z.length)(w:∀(i:Nat) v,Z'[i]?=some (some v)->Z[i]?=some (some v)):Inv X Uq Z' H s:=
 ⟨I.ok,I.os,I.bare,I.base,let ⟨m,hn,hl'⟩:=I.loc;⟨m,hn,λi x v e1 e2 e3=>hl' i x v e1 (w i v e2) e3⟩,I.cell,I.free,I.freeC,I.pin,I.hok,hl.trans I.len⟩
theorem Inv.pins_of{pins':List (Addr×Obj)}(I:Inv X Uq Z H s)(h:∀p∈pins',s.heap.get? p.1=some p.2/\H p.1=none/\p.1≠X.env.locals/\p.1∉X.fs/\∀v,p.2.data ≠ .cell v):Inv X pins' Z H s:=
 ⟨I.ok,I.os,I.bare,I.base,I.loc,I.cell,I.free,I.freeC,λp hp=>(yaM hp).elim (λz=>I.pin p (yaL _ z)) (h p),I.hok,I.len⟩
theorem oo{N:List Str}(hN:N.Nodup){i j:Nat}{x:Str}(a:N[i]?=some x)(b:N[j]?=some x):i=j:=by
 obtain⟨h1,e1⟩:=Gr.mp a;obtain⟨h2,e2⟩:=Gr.mp b;exact(List.getElem_inj hN).mp (e1.trans e2.symm)
theorem lX{M:QV}{A:LQ}{E:LB->LD->Prop}{i:Nat}{x:Str}{v:V}{u:LB}{Q:Unit->LD->Prop}(I:Inv X Uq Z H s)(hN:X.N.Nodup)(hi:X.N[i]?=some x)(hx:Loc X.env.scope x)(r:RelV v u)
  (h:∀s',Inv X Uq (Z.set i (some v)) H s'->(∃a,LY a s.heap s'.heap/\(a=X.env.locals\/X.env.cells.lookup x=some a))->Q () s') (hf:X.fn x=true\/X.env.scope.names.lookup x=some .local:=by first|exact .inl rfl|exact .inr rfl|assumption):LH M A (Qp X.env x u) Q E s:=by
 obtain⟨m,hn,hl⟩:=id I.loc;have hcls:(X.env.scope.kind == .class||(X.env.scope.kind == .module&&X.env.locals != X.env.globals))=false:=by rw[I.ok.kind];rfl
 have hiZ:i<Z.length:=by rw[I.len];exact(Gr.mp hi).1
 have cne:=I.cne;have tracked:∀{a:Addr} {h':Heap},(∃o,s.heap.get? a=some o/\H a=none)->LY a s.heap h'->HOk X.prog X.w H h':=λ{a h'} ha hs b ob e=>by
  obtain⟨_,_,hfree⟩:=ha;refine(I.hok b ob e).stay (λc w' hc q=>(hs.2 c ?_).trans q) (λ_ q=>q) λ_ _ q=>q;rintro rfl;rcases hc with rfl|hc;rw[hfree]at e;cases e;rw[hfree]at hc;cases hc
 rcases hx with hk|hk
 ·refine wpAny_storeName_local hk hn (λh' hn' hs=>?_) hcls;obtain⟨oL,_,_,hoL,_⟩:=id hn;refine h _ ⟨I.ok,I.os,I.bare,⟨λb o e n hb hx=>?_,λb o e n hb hx=>?_,I.base.free,λb o e hx=>?_,I.base.tups,I.base.frzs,I.base.tbls⟩,⟨_,hn',λj y v' e1 e2 e3=>?_⟩,λy c e=>?_,I.free,I.freeC,λp hp=>?_,tracked ⟨oL,hoL,I.free⟩ hs,by simpa using I.len⟩ ⟨_,hs,.inl rfl⟩;exact(hs.2 b (GN (GP (LI e) I.ok.above))).trans (I.base.keep b o e n hb hx)
  ·obtain⟨sl,e1⟩:=I.base.slot b o e n hb hx;exact⟨sl,(hs.2 b (GN (GP (LI e) I.ok.above))).trans e1⟩
  ·obtain⟨o',e1⟩:=I.base.there b o e hx;exact⟨o',(hs.2 b (GN (GP (LI e) I.ok.above))).trans e1⟩
  ·by_cases hj:j=i
   ·subst hj;rw[hi]at e1;cases e1;rw[Ho hiZ]at e2;cases e2;exact⟨u,r,.inl ⟨hk,by simp⟩⟩
   ·rw[GO (LO hj)]at e2;obtain⟨u',r',q⟩:=hl j y v' e1 e2 e3;refine⟨u',r',?_⟩;rcases q with⟨k,e⟩|⟨k,c,e,z⟩
    ·refine .inl ⟨k,?_⟩;have:y≠x:=λe=>hj (oo hN e1 (e▸hi));simp[this,e]
    ·exact .inr ⟨k,c,e,z.sameBut hs (cne y c e)⟩
  ·obtain⟨w',z⟩:=I.cell y c e;exact⟨w',z.sameBut hs (cne y c e)⟩
  ·obtain⟨e,n,ne,nf,d⟩:=I.pin p hp;exact⟨(hs.2 p.1 ne).trans e,n,ne,nf,d⟩
 ·have hfn:X.fn x=true:=by
   rcases hf with z|z;exact z;rw[z]at hk;cases hk
  obtain⟨c,hc⟩:=I.ok.has x (.inl hk);obtain⟨w',z⟩:=I.cell x c hc;refine wpAny_storeName_cell I.ok.kind hk hc z (λh' hc' hs=>?_);obtain⟨oc,hoc,hocd⟩:=id z;refine h {s with heap:=h'} ⟨I.ok,I.os,I.bare,⟨λb o e n hb hx=>?_,λb o e n hb hx=>?_,I.base.free,λb o e hx=>?_,I.base.tups,I.base.frzs,I.base.tbls⟩,⟨m,hn.sameBut hs (LO (cne x c hc)),λj y v' e1 e2 e3=>?_⟩,λy c' e=>?_,I.free,I.freeC,λp hp=>?_,tracked ⟨oc,hoc,I.freeC x c hc⟩ hs,by simpa using I.len⟩ ⟨c,hs,.inr hc⟩;exact(hs.2 b (GN (GP (LI e) (I.ok.cab x c hfn hc)))).trans (I.base.keep b o e n hb hx)
  ·obtain⟨sl,e1⟩:=I.base.slot b o e n hb hx;exact⟨sl,(hs.2 b (GN (GP (LI e) (I.ok.cab x c hfn hc)))).trans e1⟩
  ·obtain⟨o',e1⟩:=I.base.there b o e hx;exact⟨o',(hs.2 b (GN (GP (LI e) (I.ok.cab x c hfn hc)))).trans e1⟩
  ·by_cases hj:j=i
   ·subst hj;rw[hi]at e1;cases e1;rw[Ho hiZ]at e2;cases e2;exact⟨u,r,.inr ⟨.inl hk,c,hc,hc'⟩⟩
   ·rw[GO (LO hj)]at e2;obtain⟨u',r',q⟩:=hl j y v' e1 e2 e3;refine⟨u',r',?_⟩;rcases q with q|⟨k,c',e,z'⟩;exact .inl q
    ·refine .inr ⟨k,c',e,z'.sameBut hs ?_⟩;rintro rfl;exact hj (oo hN e1 (I.ok.inj _ _ _ e hc▸hi))
  ·by_cases hcc:c'=c;subst hcc;exact⟨_,hc'⟩
   ·obtain⟨w2,z2⟩:=I.cell y c' e;exact⟨w2,z2.sameBut hs hcc⟩
  ·obtain⟨e,n,ne,nf,d⟩:=I.pin p hp;refine⟨(hs.2 p.1 ?_).trans e,n,ne,nf,d⟩;intro q;rw[q,hoc]at e;have q':oc=p.2:=GX.inj e;exact d w' (by rw[<-q'];exact hocd)
theorem cV{M:QV}{A:LQ}{E:LB->LD->Prop}{i:Nat}{x:Str}{v:V}{u:LB}{Q:Unit->LD->Prop}(I:Inv X Uq Z H s)(hN:X.N.Nodup)(hi:X.N[i]?=some x)(hx:Loc X.env.scope x)(r:RelV v u)
  (h:∀s',Inv X Uq (Z.set i (some v)) H s'->Q () s') (hf:X.fn x=true\/X.env.scope.names.lookup x=some .local:=by first|exact .inl rfl|exact .inr rfl|assumption):LH M A (Qp X.env x u) Q E s:=
 lX I hN hi hx r (λs' I' _=>h s' I') hf
theorem Inv.call'{s':LD}{ch:List Addr}(I:Inv X Uq Z H s)(ho:s'.os=s.os)(u:Un (frs X.stack) ch H H' s.heap s'.heap)(hok:HOk X.prog X.w H' s'.heap)(hg:NV s'.gens)
  (hch:∀b∈ch,(b∈X.ex\/X.s₀.heap.objs.size<=b)/\b≠X.env.locals/\(∀x c,X.env.cells.lookup x=some c->c≠b)/\∀p∈X.pn++Uq,p.1≠b):Inv X Uq Z H' s':=by
 obtain⟨h',g',d',t',o'⟩:=s';have e:o'=s.os:=ho;subst e;exact I.call (g':=g') (t':=t') (d':=d') u hok hg hch
end
abbrev XK:=LB->Option Addr->Hp->Prop
abbrev St:=List (Option V)
abbrev VK:=V->Hp->Prop
abbrev TE:=St->Hp->VK->Prop
abbrev TT:=St->Hp->(Bool->Hp->Prop)->Prop
abbrev TA:=St->Hp->(List V->Hp->Prop)->Prop
structure Ll where
 nx:St->Hp->Prop
 rt:VK
 bk:St->Hp->Prop:=λ_ _=>False
 ct:St->Hp->Prop:=λ_ _=>False
abbrev TS:=Ll->St->Hp->Prop
def EP(X:Cx)(Uq:List (Addr×Obj))(Z:St)(Q:VK)(u:LB)(s':LD):Prop:=∃v H',Inv X Uq Z H' s'/\RelV v u/\Q v H'
def TP(X:Cx)(Uq:List (Addr×Obj))(Z:St)(Q:Bool->Hp->Prop)(b:Bool)(s':LD):Prop:=∃H',Inv X Uq Z H' s'/\Q b H'
def AP(X:Cx)(Uq:List (Addr×Obj))(Z:St)(Q:List V->Hp->Prop)(us:List LB)(s':LD):Prop:=∃vs H',Inv X Uq Z H' s'/\Vals vs us/\Q vs H'
def SP(X:Cx)(Uq:List (Addr×Obj))(D:Ll)(f:Flow)(s':LD):Prop:=
 match f with
 | .next=>∃Z' H',Inv X Uq Z' H' s'/\D.nx Z' H'
 | .brk=>∃Z' H',Inv X Uq Z' H' s'/\D.bk Z' H'
 | .cont=>∃Z' H',Inv X Uq Z' H' s'/\D.ct Z' H'
 | .ret u=>∃v Z' H',Inv X Uq Z' H' s'/\RelV v u/\D.rt v H'
def PE(X:Cx)(e:Expr)(t:TE):Prop:=
 ∀(Uq:List (Addr×Obj)) (s:LD) (Z:St) (H:Hp) (Q:VK),Inv X Uq Z H s->t Z H Q->LH (LL X.prog X.w) X.A (eval e X.env) (EP X Uq Z Q) X.xe s
def PT(X:Cx)(e:Expr)(t:TT):Prop:=
 ∀(Uq:List (Addr×Obj)) (s:LD) (Z:St) (H:Hp) (Q:Bool->Hp->Prop),Inv X Uq Z H s->t Z H Q->LH (LL X.prog X.w) X.A (O7 e X.env (eval e X.env)) (TP X Uq Z Q) X.xe s
def PW(X:Cx)(e:Expr)(t:TT):Prop:=
 ∀(whole:Sem LB) (Uq:List (Addr×Obj)) (s:LD) (Z:St) (H:Hp) (Q:Bool->Hp->Prop),Inv X Uq Z H s->t Z H Q->LH (LL X.prog X.w) X.A (O7 e X.env whole) (TP X Uq Z Q) X.xe s
theorem PW.pt{X:Cx}{e:Expr}{t:TT}(h:PW X e t):PT X e t:=h _
def PA(X:Cx)(es:List Expr)(t:TA):Prop:=
 ∀(pos:Pos) (Uq:List (Addr×Obj)) (s:LD) (Z:St) (H:Hp) (Q:List V->Hp->Prop),Inv X Uq Z H s->t Z H Q->LH (LL X.prog X.w) X.A (spliced (M9 pos (LV es X.env))) (AP X Uq Z Q) X.xe s
def PS(X:Cx)(st:Stmt)(t:TS):Prop:=
 ∀(Uq:List (Addr×Obj)) (s:LD) (Z:St) (H:Hp) (D:Ll),Inv X Uq Z H s->t D Z H->LH (LL X.prog X.w) X.A (exec st X.env) (SP X Uq D) X.xe s
def PSs(X:Cx)(st:List Stmt)(t:TS):Prop:=
 ∀(Uq:List (Addr×Obj)) (s:LD) (Z:St) (H:Hp) (D:Ll),Inv X Uq Z H s->t D Z H->LH (LL X.prog X.w) X.A (execs st X.env) (SP X Uq D) X.xe s
theorem thn{α:Type}{t:Sem α}{Q Q' : α->LD->Prop}{M:QV}{A:LQ}{E:LB->LD->Prop}{s:LD}(h:LH M A t Q E s)(hQ:∀a s,Q a s->Q' a s):LH M A t Q' E s:=Mr h hQ λ_ _ x=>x
section
variable {X:Cx}
theorem bin{a b:Expr}{ta tb:TE}(ha:PE X a ta)(hb:PE X b tb){Uq:List (Addr×Obj)}{s:LD}{Z:St}{H:Hp}{R:V->V->Hp->Prop}(I:Inv X Uq Z H s)(h:ta Z H λx H1=>tb Z H1 λy H2=>R x y H2)
  {α:Type} {Q : α->LD->Prop} {f:LB->LB->Sem α}
  (hf:∀v u s2 x y H2,Inv X Uq Z H2 s2->RelV x v->RelV y u->R x y H2->LH (LL X.prog X.w) X.A (f v u) Q X.xe s2) :
  LH (LL X.prog X.w) X.A (eval a X.env) (λv s₁=>LH (LL X.prog X.w) X.A (eval b X.env) (λu s₂=>LH (LL X.prog X.w) X.A (f v u) Q X.xe s₂) X.xe s₁) X.xe s:=by
 refine thn (ha Uq s Z H _ I h) λv s1 ⟨x,H1,I1,r1,q1⟩=>?_;refine thn (hb Uq s1 Z H1 _ I1 q1) λu s2 ⟨y,H2,I2,r2,q2⟩=>?_;exact hf v u s2 x y H2 I2 r1 r2 q2
def zm(i:Nat):TE:=λZ H Q=>∃v,Z[i]?=some (some v)/\Q v H
def tC(v:V):TE:=λ_ H Q=>Q v H
theorem pM{i:Nat}{x:Str}{pos:Pos}(hN:X.N[i]?=some x)(hv:Vis X.env.scope x)(hd:(x==("__debug__" : Str))=false:=by decide)(hcd:(x==("__classdict__" : Str))=false:=by decide):PE X (.Name x pos) (zm i):=by
 intro Uq s Z H Q I h;obtain⟨v,e,h⟩:=h;obtain⟨m,hn,hl⟩:=I.loc;obtain⟨u,r,l⟩:=hl i x v hN e hv;have fin:EP X Uq Z Q u s:=⟨v,H,I,r,h⟩;rcases l with⟨hk,hm⟩|⟨hk,c,hc,hcell⟩;exact P7 (OA I.ok.kind hk hn hm fin) hd
 ·rcases hk with hk|hk;exact P7 (OS I.ok.kind hk hc hcell fin) hd;exact P7 (wpAny_loadName_free I.ok.kind hk hc hcell fin hcd) hd
theorem pK{i j pos}:PE X (.Constant (.int i) j pos) (tC (.int i)):=λ_ _ _ H _ I h=>wpAny_Constant_int ⟨.int i,H,I.tok _,⟨_,rfl⟩,h⟩
theorem Eo{b j pos}:PE X (.Constant (.bool b) j pos) (tC (.bl b)):=λ_ _ _ H _ I h=>Constant_bool ⟨.bl b,H,I,rfl,h⟩
theorem BP{x j pos}:PE X (.Constant (.str x) j pos) (tC (.str x)):=λ_ _ _ H _ I h=>Calls.Constant_str ⟨.str x,H,I.tok _,⟨_,rfl⟩,h⟩
def Gl(X:Cx)(x:Str):Prop:=X.env.kindOf x=some .globalImplicit
theorem xB{E:LB->LD->Prop}{Uq:List (Addr×Obj)}{s:LD}{Z:St}{H:Hp}{x:Str}{u:LB}{pos:Pos}{Q:LB->LD->Prop}(I:Inv X Uq Z H s)(hg:Gl X x)(hm:X.mg x=some u)(h:Q u s)
  (hd:(x==("__debug__" : Str))=false:=by decide):LH (LL X.prog X.w) X.A (eval (.Name x pos) X.env) Q E s:=
 NJ I.ok.kind hg (Calls.loadGlobal_global (by rw[I.ok.glob];exact I.mod.glob.keeps I.bk) hm h) hd
theorem ic{E:LB->LD->Prop}{Uq:List (Addr×Obj)}{s:LD}{Z:St}{H:Hp}{x:Str}{u:LB}{pos:Pos}{Q:LB->LD->Prop}(I:Inv X Uq Z H s)(hg:Gl X x)(hm:X.mg x=none)(hv:Mh x=some u)(h:Q u s)
  (hn:x ≠ "__name__" :=by decide) (hd:(x==("__debug__" : Str))=false:=by decide):LH (LL X.prog X.w) X.A (eval (.Name x pos) X.env) Q E s:=by
 obtain⟨mb,h1,h2⟩:=I.mod.blt;exact NJ I.ok.kind hg (Calls.loadGlobal_builtin (by rw[I.ok.glob];exact I.mod.glob.keeps I.bk) hm (by rw[I.ok.blt];exact h1.keeps I.bk) ((h2 x hn).trans hv) h) hd
theorem mY{x:Str}{v:V}{u:LB}{pos:Pos}(hg:Gl X x)(hm:X.mg x=none)(hv:Mh x=some u)(r:RelV v u)(hn:x ≠ "__name__" :=by decide)(hd:(x==("__debug__" : Str))=false:=by decide):PE X (.Name x pos) (tC v):=
 λ_ _ _ H _ I h=>ic I hg hm hv ⟨v,H,I,r,h⟩ hn hd
variable {a b:Expr}{ta tb:TE}{pos:Pos}
def PC(X:Cx)(op:Qq)(a b:Expr)(t:TE):Prop:=
 ∀(Uq:List (Addr×Obj)) (s:LD) (Z:St) (H:Hp) (Q:VK),Inv X Uq Z H s->t Z H Q ->
  LH (LL X.prog X.w) X.A (eval a X.env) (λv s₁=>LH (LL X.prog X.w) X.A (eval b X.env) (λu s₂=>LH (LL X.prog X.w) X.A (LZ op v u) (EP X Uq Z Q) X.xe s₂) X.xe s₁) X.xe s
def tB(t:TE):TT:=λZ H Q=>t Z H λx H1=>∃c,x=.bl c/\Q c H1
theorem pt_cmp{op:Qq}{t:TE}(h:PC X op a b t)(h1:Nn op b=false:=by first|exact nobehind _ (by decide) (by decide)|rfl):PT X (.Compare a [op] [b] pos) (tB t):=by
 intro Uq s Z H Q I hw;refine Ox (thn (h Uq s Z H _ I hw) λv s1 h1=>thn h1 λu s2 h2=>thn h2 λc s3 ⟨x,H1,I1,r1,q1⟩=>?_) h1;obtain⟨d,rfl,q⟩:=q1;cases r1;exact Mt ⟨H1,I1,q⟩
theorem B5{e:Expr}{t:TE}(h:PE X e t)(he:∀whole,O7 e X.env whole=(do let v <-whole;NE e.pos;Mo [v] (P8 v)):=by intro _;rfl):PT X e (tB t):=by
 intro Uq s Z H Q I hw;refine isTrue_plain (thn (h Uq s Z H _ I hw) λv s1 ⟨x,H1,I1,r1,q1⟩=>?_) (he _);obtain⟨d,rfl,q⟩:=q1;cases r1;exact Mt ⟨H1,I1,q⟩
variable {tA tB':TT}{rest:List Expr}
def Fg(t u:TT):TT:=λZ H Q=>t Z H λc H1=>if c=true then u Z H1 Q else Q false H1
def tOr(t u:TT):TT:=λZ H Q=>t Z H λc H1=>if c=true then Q true H1 else u Z H1 Q
def Fo(t:TT):TT:=λZ H Q=>t Z H λc H1=>Q (!c) H1
theorem yu(ha:PT X a tA):PW X (.BoolOp .And [a] pos) tA:=by
 intro wh Uq s Z H Q I h;refine isTrue_and (thn (ha Uq s Z H Q I h) λc s1 e=>?_);cases c with
 | true=>exact isTrue_and_nil e
 | false=>exact e
theorem B8(ha:PT X a tA):PW X (.BoolOp .Or [a] pos) tA:=by
 intro wh Uq s Z H Q I h;refine isTrue_or (thn (ha Uq s Z H Q I h) λc s1 e=>?_);cases c with
 | false=>exact isTrue_or_nil e
 | true=>exact e
theorem B7(ha:PT X a tA)(hb:PW X (.BoolOp .And (b::rest) pos) tB'):PW X (.BoolOp .And (a::b::rest) pos) (Fg tA tB'):=by
 intro wh Uq s Z H Q I h;refine isTrue_and (thn (ha Uq s Z H _ I h) λc s1 ⟨H1,I1,q1⟩=>?_);cases c with
 | true=>exact hb wh Uq s1 Z H1 Q I1 q1
 | false=>exact⟨H1,I1,q1⟩
theorem Ev(ha:PT X a tA)(hb:PW X (.BoolOp .Or (b::rest) pos) tB'):PW X (.BoolOp .Or (a::b::rest) pos) (tOr tA tB'):=by
 intro wh Uq s Z H Q I h;refine isTrue_or (thn (ha Uq s Z H _ I h) λc s1 ⟨H1,I1,q1⟩=>?_);cases c with
 | true=>exact⟨H1,I1,q1⟩
 | false=>exact hb wh Uq s1 Z H1 Q I1 q1
theorem B4(ha:PT X a tA):PT X (.UnaryOp .Not a pos) (Fo tA):=by
 intro Uq s Z H Q I h;exact isTrue_not (ha Uq s Z H (λc H1=>Q (!c) H1) I h)
def Ae(ta tb:TE):TE:=λZ H Q=>ta Z H λx H1=>∃c,x=.bl c/\if c=true then tb Z H1 Q else Q (.bl false) H1
def Ai(ta:TE):TE:=λZ H Q=>ta Z H λx H1=>∃c,x=.bl c/\Q (.bl (!c)) H1
theorem BO{op}{t:TE}(h:PE X a t):PE X (.BoolOp op [a] pos) t:=λUq s Z H Q I hw=>BoolOp_one (h Uq s Z H Q I hw)
theorem BK(ha:PE X a ta)(hb:PE X (.BoolOp .And (b::rest) pos) tb):PE X (.BoolOp .And (a::b::rest) pos) (Ae ta tb):=by
 intro Uq s Z H Q I h;refine BoolOp_and (thn (ha Uq s Z H _ I h) λv s1 ⟨x,H1,I1,r1,q1⟩=>?_);obtain⟨c,rfl,q1⟩:=q1;cases r1;refine Mt ?_;cases c with
 | true=>exact hb Uq s1 Z H1 Q I1 q1
 | false=>exact⟨.bl false,H1,I1,rfl,q1⟩
theorem BN(ha:PE X a ta):PE X (.UnaryOp .Not a pos) (Ai ta):=by
 intro Uq s Z H Q I h;refine UnaryOp_ (thn (ha Uq s Z H _ I h) λv s1 ⟨x,H1,I1,r1,q1⟩=>?_);obtain⟨c,rfl,q1⟩:=q1;cases r1;exact not_of (Mt ⟨.bl (!c),H1,I1,rfl,q1⟩)
end
def SqL(K:yF)(H:Hp)(a:Addr)(xs:List V):Prop:=
 Rd H a (.lst xs) \/
  ∃(o:Obj) (its:Array LB) (n:Nat),K.lookup a=some o/\o.cls=.type "list" /\ o.dict=none/\o.data=.seq its n/\its.size<=sizeLine/\Vals xs its.toList
def SqT(K:yF)(H:Hp)(a:Addr)(xs:List V):Prop:=
 Rd H a (.tup xs) \/
  ∃(o:Obj) (its:Array LB) (n:Nat),K.lookup a=some o/\(o.cls=.type "tuple" /\ o.dict=none)/\o.data=.seq its n/\its.size<=sizeLine/\Vals xs its.toList
noncomputable def FO:LB->Option V
 | .none=>some .non
 | .bool b=>some (.bl b)
 | .int i _=>some (.int i)
 | .str x _=>some (.str x)
 | .bytes b _=>some (.byt b)
 | .float b _=>some (.flt b)
 | .ref a=>some (.ref a)
 | .type n=>some (.ty n)
 | _=>none
theorem RelV.abs{x:V}{u:LB}(r:RelV x u):FO u=some x:=by
 cases x with
 | non=>cases r;rfl
 | bl _=>cases r;rfl
 | int _=>obtain⟨t,rfl⟩:=r;rfl
 | str _=>obtain⟨t,rfl⟩:=r;rfl
 | byt _=>obtain⟨t,rfl⟩:=r;rfl
 | flt _=>obtain⟨t,rfl⟩:=r;rfl
 | ref _=>cases r;rfl
 | ty _=>cases r;rfl
theorem RelV.inj{x y:V}{u:LB}(r:RelV x u)(q:RelV y u):x=y:=GX.inj (r.abs.symm.trans q.abs)
theorem Vals.inj{xs ys:List V}{us:List LB}(h:Vals xs us)(k:Vals ys us):xs=ys:=by
 induction h generalizing ys with
 | nil=>cases k;rfl
 | cons r t ih=>
  cases k with
  | cons r' t'=>rw[r.inj r',ih t']
section
variable {X:Cx}{Uq:List (Addr×Obj)}{Z:St}{H:Hp}{s:LD}{a:Addr}{xs ys:List V}
theorem SqL.of{K:yF}(h:H a=some (.lst xs)):SqL K H a xs:=.inl (.inl h)
theorem SqT.of{K:yF}(h:H a=some (.tup xs)):SqT K H a xs:=.inl (.inl h)
theorem Inv.list(I:Inv X Uq Z H s)(h:SqL X.K H a xs):∃its:List LB,Vals xs its/\PlainL s.heap a its.toArray/\xs.length<=sizeLine:=by
 rcases h with h|⟨o,its,n,hk,hc,hd,hs,hz,r⟩
 ·obtain⟨z,its,n,r,e⟩:=h.ok I.hok;exact⟨its,r,⟨_,n,e,rfl,rfl,rfl⟩,z⟩
 ·refine⟨its.toList,r,⟨o,n,I.kIn a o hk,hc,hd,by simpa using hs⟩,?_⟩;have e:=r.length;simp only[HD]at e;omega
theorem Inv.tuple(I:Inv X Uq Z H s)(h:SqT X.K H a xs):∃its:List LB,Vals xs its/\Pg s.heap a its.toArray/\xs.length<=sizeLine:=by
 rcases h with h|⟨o,its,n,hk,hc,hs,hz,r⟩
 ·obtain⟨z,its,r,p⟩:=h.ok I.hok;exact⟨its,r,p.to,z⟩
 ·refine⟨its.toList,r,⟨o,I.kIn a o hk,hc.1,n,by simpa using hs⟩,?_⟩;have e:=r.length;simp only[HD]at e;omega
theorem Inv.list_inj(I:Inv X Uq Z H s)(h:SqL X.K H a xs)(h':SqL X.K H a ys):xs=ys:=by
 obtain⟨its,r,⟨o,n,e,_,_,d⟩,_⟩:=I.list h;obtain⟨its',r',⟨o',n',e',_,_,d'⟩,_⟩:=I.list h';rw[e]at e';cases e';rw[d]at d';injection d' with d1 _;have:its=its':=by simpa using congrArg KA d1
 subst this;exact r.inj r'
theorem Inv.tuple_inj(I:Inv X Uq Z H s)(h:SqT X.K H a xs)(h':SqT X.K H a ys):xs=ys:=by
 obtain⟨its,r,⟨o,e,_,n,d⟩,_⟩:=I.tuple h;obtain⟨its',r',⟨o',e',_,n',d'⟩,_⟩:=I.tuple h';rw[e]at e';cases e';rw[d]at d';injection d' with d1 _;have:its=its':=by simpa using congrArg KA d1
 subst this;exact r.inj r'
end
noncomputable abbrev Cx.wish(X:Cx) (E:LB->LD->Prop):Cx:={X with xe:=E}
noncomputable abbrev Cx.nox(X:Cx):Cx:=X.wish λ_ _=>False
theorem Cx.Ok.wish{X:Cx}(ok:X.Ok)(E:LB->LD->Prop):(X.wish E).Ok:=
 ⟨ok.mod,ok.kind,ok.glob,ok.blt,ok.above,ok.inj,ok.has,ok.cab,ok.hd,ok.gd,ok.frames,ok.stk,ok.exf,ok.bs,ok.bsz,ok.noex,ok.exfs,ok.funs,ok.frf⟩
theorem Cx.Ok.unwish{X:Cx}{E:LB->LD->Prop}(ok:(X.wish E).Ok):X.Ok:=
 ⟨ok.mod,ok.kind,ok.glob,ok.blt,ok.above,ok.inj,ok.has,ok.cab,ok.hd,ok.gd,ok.frames,ok.stk,ok.exf,ok.bs,ok.bsz,ok.noex,ok.exfs,ok.funs,ok.frf⟩
section
variable {X:Cx}{Uq:List (Addr×Obj)}{Z:St}{H:Hp}{s:LD}{E:LB->LD->Prop}
theorem Inv.wish(I:Inv X Uq Z H s)(E:LB->LD->Prop):Inv (X.wish E) Uq Z H s:=⟨I.ok.wish E,I.os,I.bare,I.base,I.loc,I.cell,I.free,I.freeC,I.pin,I.hok,I.len⟩
theorem Inv.unwish(I:Inv (X.wish E) Uq Z H s):Inv X Uq Z H s:=⟨I.ok.unwish,I.os,I.bare,I.base,I.loc,I.cell,I.free,I.freeC,I.pin,I.hok,I.len⟩
theorem SP.unwish{D:Ll}{f:Flow}{s':LD}(h:SP (X.wish E) Uq D f s'):SP X Uq D f s':=by
 cases f with
 | next=>obtain⟨Z',H',I,q⟩:=h;exact⟨Z',H',I.unwish,q⟩
 | brk=>obtain⟨Z',H',I,q⟩:=h;exact⟨Z',H',I.unwish,q⟩
 | cont=>obtain⟨Z',H',I,q⟩:=h;exact⟨Z',H',I.unwish,q⟩
 | ret u=>obtain⟨v,Z',H',I,r,q⟩:=h;exact⟨v,Z',H',I.unwish,r,q⟩
theorem PSs.nox{st:List Stmt}{t:TS}(h:PSs X.nox st t):PSs X st t:=λUq s Z H D I hw=>
 Mr (h Uq s Z H D (I.wish _) hw) (λ_ _ q=>q.unwish) λ_ _ z=>MN z
end
section
variable {X:Cx}{st:Stmt}{rest:List Stmt}{t u:TS}{e:Expr}{te:TE}{pos:Pos}
def Ah:TS:=λD Z H=>D.nx Z H
def Fs(t u:TS):TS:=λD Z H=>t {D with nx:=u D} Z H
theorem yo:PSs X [] Ah:=λ_ _ Z H _ I h=>Nw ⟨Z,H,I,h⟩
theorem vt(h1:PS X st t)(h2:PSs X rest u):PSs X (st::rest) (Fs t u):=by
 intro Uq s Z H D I h;refine Px (thn (h1 Uq s Z H {D with nx:=u D} I h) λf s1 q=>?_);cases f with
 | next=>
  obtain⟨Z',H',I',q⟩:=q;exact h2 Uq s1 Z' H' D I' q
 | ret v=>exact q
 | brk=>exact q
 | cont=>exact q
theorem yp(h1:PS X st t):PSs X [st] t:=by
 intro Uq s Z H D I h;refine Px (thn (h1 Uq s Z H D I h) λf s1 q=>?_);cases f with
 | next=>exact Nw q
 | ret v=>exact q
 | brk=>exact q
 | cont=>exact q
theorem Inv.quiet{Uq:List (Addr×Obj)}{Z:St}{H:Hp}{s:LD}(I:Inv X Uq Z H s):interactive X.env=false:=by simp[interactive,I.ok.kind]
def Af(te:TE):TS:=λD Z H=>te Z H λ_ H1=>D.nx Z H1
theorem ym(he:PE X e te)(hs:Oa e none pos.line X.env=pure false:=by rfl):PS X (.Expr e pos) (Af te):=by
 intro Uq s Z H D I h;exact wpAny_Expr_any (thn (he Uq s Z H _ I h) λv s1 ⟨x,H1,I1,r1,q1⟩=>⟨Z,H1,I1,q1⟩) I.quiet hs
def Fq(te:TE):TS:=λD Z H=>te Z H D.rt
theorem B2(he:PE X e te):PS X (.Return (some e) pos) (Fq te):=by
 intro Uq s Z H D I h;exact wpAny_Return_some (thn (he Uq s Z H _ I h) λv s1 ⟨x,H1,I1,r1,q1⟩=>⟨x,Z,H1,I1,r1,q1⟩)
def Fk(c:TT)(t u:TS):TS:=λD Z H=>c Z H λb H1=>if b=true then t D Z H1 else u D Z H1
theorem Eu{c:Expr}{a b:List Stmt}{tc:TT}(hc:PT X c tc)(ha:PSs X a t)(hb:PSs X b u):PS X (.If c a b pos) (Fk tc t u):=by
 intro Uq s Z H D I h;refine wpAny_If (thn (hc Uq s Z H _ I h) λd s1 ⟨H1,I1,q1⟩=>?_);cases d with
 | true=>exact ha Uq s1 Z H1 D I1 q1
 | false=>exact hb Uq s1 Z H1 D I1 q1
end
abbrev TG:=V->St->Hp->(St->Hp->Prop)->Prop
abbrev TGs:=List V->St->Hp->(St->Hp->Prop)->Prop
def PG(X:Cx)(target:Expr)(t:TG):Prop:=
 ∀(Uq:List (Addr×Obj)) (s:LD) (Z:St) (H:Hp) (v:V) (u:LB) (Q:St->Hp->Prop),Inv X Uq Z H s->RelV v u->t v Z H Q ->
  LH (LL X.prog X.w) X.A (Nh target X.env u) (λ_ s'=>∃Z' H',Inv X Uq Z' H' s'/\Q Z' H') X.xe s
def PGs(X:Cx)(ts:List Expr)(t:TGs):Prop:=
 ∀(Uq:List (Addr×Obj)) (s:LD) (Z:St) (H:Hp) (vs:List V) (us:List LB) (Q:St->Hp->Prop),Inv X Uq Z H s->Vals vs us->t vs Z H Q ->
  LH (LL X.prog X.w) X.A (No ((Mw ts X.env).map (·.2)) us) (λ_ s'=>∃Z' H',Inv X Uq Z' H' s'/\Q Z' H') X.xe s
abbrev xc:=V->V->V->Hp->(Hp->Prop)->Prop
def Ao(X:Cx)(t:xc):Prop:=
 ∀(Uq:List (Addr×Obj)) (s:LD) (Z:St) (H:Hp) (o i v:V) (ov iv u:LB) (Q:Hp->Prop),Inv X Uq Z H s->RelV o ov->RelV i iv->RelV v u->t o i v H Q ->
  LH (LL X.prog X.w) X.A (NW ov iv u) (λ_ s'=>∃H',Inv X Uq Z H' s'/\Q H') X.xe s
abbrev TIp:=V->V->Hp->VK->Prop
def PIp(X:Cx)(op:P9)(t:TIp):Prop:=
 ∀(Uq:List (Addr×Obj)) (s:LD) (Z:St) (H:Hp) (x y:V) (v u:LB) (Q:VK),Inv X Uq Z H s->RelV x v->RelV y u->t x y H Q ->
  LH (LL X.prog X.w) X.A (inplaceOp op v u) (EP X Uq Z Q) X.xe s
section
variable {X:Cx}{pos:Pos}
def lu(i:Nat):TG:=λv Z H Q=>Q (Z.set i (some v)) H
theorem x8{i:Nat}{x:Str}(hN:X.N.Nodup)(hi:X.N[i]?=some x)(hx:Loc X.env.scope x)(hf:X.fn x=true\/X.env.scope.names.lookup x=some .local:=by first|exact .inl rfl|exact .inr rfl|assumption):PG X (.Name x pos) (lu i):=by
 intro Uq s Z H v u Q I r h;exact Ph (cV I hN hi hx r (λs' I'=>⟨_,H,I',h⟩) hf)
def AG:TGs:=λvs Z H Q=>vs=[]/\Q Z H
def ua(t:TG)(u:TGs):TGs:=λvs Z H Q=>∃v r,vs=v::r/\t v Z H λZ' H'=>u r Z' H' Q
theorem x9:PGs X [] AG:=by
 intro Uq s Z H vs us Q I r h;obtain⟨e,h⟩:=h;subst e;cases r;exact NX ⟨Z,H,I,h⟩
theorem uS{e:Expr}{es:List Expr}{t:TG}{u:TGs}(h1:PG X e t)(h2:PGs X es u)
  (hs:(Mw (e::es) X.env).map (·.2)=Nh e X.env::(Mw es X.env).map (·.2):=by rfl):PGs X (e::es) (ua t u):=by
 intro Uq s Z H vs us Q I r h;obtain⟨v,vr,e1,h⟩:=h;subst e1;cases r with
 | cons r rr=>
  rw[hs];refine My (thn (h1 Uq s Z H _ _ _ I r h) λ_ s1 ⟨Z1,H1,I1,q1⟩=>?_);exact h2 Uq s1 Z1 H1 _ _ Q I1 rr q1
def xp(K:yF)(n:Nat)(t:TGs):TG:=λv Z H Q=>∃a xs,v=.ref a/\SqT K H a xs/\xs.length=n/\t xs Z H Q
theorem BQ{es:List Expr}{k:Nat}{t:TGs}{n:Nat}(hc:X.calm=true)(h:PGs X es t)
  (hn:(Mw es X.env).length=n:=by rfl) (hst:(Mw es X.env).findIdx? (·.1)=none:=by rfl):PG X (.Tuple es k pos) (xp X.K n t):=by
 intro Uq s Z H v u Q I r hw;obtain⟨a,xs,e1,hq,hl,hw⟩:=hw;subst e1;cases r;obtain⟨its,rv,ht,hz⟩:=I.tuple hq;refine assign_Tuple_tuple (I.ok.hd hc) ht (by simp[hn,<-hl,rv.length]) hst λh' hx=>?_;have I1:Inv X Uq Z H {s with heap:=h'}:=I.kept (t':=s.toks) λb o e=>hx b o (GN (LI e)) e;exact h Uq _ Z H xs _ Q I1 (by simpa using rv) hw
def AH(to ti:TE)(t:xc):TG:=λv Z H Q=>to Z H λo H1=>ti Z H1 λi H2=>t o i v H2 λH3=>Q Z H3
theorem uQ{o i:Expr}{to ti:TE}{t:xc}(ho:PE X o to)(hi:PE X i ti)(hs:Ao X t)
  (ha:∀v,Nh (.Subscript o i pos) X.env v=(do
   let ov <-Mo [v] (eval o X.env)
   let iv <-Mo [v,ov] (eval i X.env)
   NE pos
   Mo [v,ov,iv] (NW ov iv v)
   P5 [v,ov,iv] []):=by intro _;rfl):PG X (.Subscript o i pos) (AH to ti t):=by
 intro Uq s Z H v u Q I r h;rw[ha];refine LA (Mj (thn (ho Uq s Z H _ I h) λov s1 ⟨x,H1,I1,r1,q1⟩=>?_));refine LA (Mj (thn (hi Uq s1 Z H1 _ I1 q1) λiv s2 ⟨y,H2,I2,r2,q2⟩=>?_));refine LA (MZ (LA (Mj (thn (hs Uq s2 Z H2 x y v ov iv u _ I2 r1 r2 r q2) λ_ s3 ⟨H3,I3,q3⟩=>?_))));exact wpAny_release ⟨Z,H3,I3,q3⟩
def zj(te:TE)(g:TG):TS:=λD Z H=>te Z H λx H1=>g x Z H1 D.nx
theorem BX{tg e:Expr}{te:TE}{g:TG}(he:PE X e te)(hg:PG X tg g)(hs:M0 [tg] e pos.line X.env=pure false:=by rfl)(hw:M1 [tg] e X.env=pure none:=by rfl)
  (h1:(Mw [tg] X.env).map (·.2)=[Nh tg X.env]:=by rfl):PS X (.Assign [tg] e pos) (zj te g):=by
 intro Uq s Z H D I h;refine wpAny_Assign_stores (thn (he Uq s Z H _ I h) λv s1 ⟨x,H1,I1,r1,q1⟩=>?_) hs hw;rw[h1];exact thn (hg Uq s1 Z H1 x v _ I1 r1 q1) λ_ s2 q=>q
theorem B3{i:Nat}{x:Str}{e:Expr}{te:TE}{pos':Pos}(hN:X.N.Nodup)(hi:X.N[i]?=some x)(hx:Loc X.env.scope x)(he:PE X e te)(hs:Oa e (some (.Name x pos')) pos.line X.env=pure false:=by rfl)(hf:X.fn x=true\/X.env.scope.names.lookup x=some .local:=by first|exact .inl rfl|exact .inr rfl|assumption) :
  PS X (.Assign [.Name x pos'] e pos) (zj te (lu i)):=by
 intro Uq s Z H D I h;refine wpAny_Assign_Name (thn (he Uq s Z H _ I h) λv s1 ⟨y,H1,I1,r1,q1⟩=>?_) hs;exact cV I1 hN hi hx r1 (λs2 I2=>⟨_,H1,I2,q1⟩) hf
def Fp(i j:Nat)(ta:TA):TS:=λD Z H=>ta Z H λvs H1=>∃v w,vs=[v,w]/\D.nx ((Z.set i (some v)).set j (some w)) H1
theorem B1{i j:Nat}{x y:Str}{a b:Expr}{ta:TA}{px py pt:Pos}{kt k2 pt2}(hc:X.calm=true)(hN:X.N.Nodup)(hi:X.N[i]?=some x)(hj:X.N[j]?=some y)(hij:i≠j)
  (hx:X.env.scope.names.lookup x=some .local) (hy:X.env.scope.names.lookup y=some .local) (ha:PA X [a,b] ta)
  (hw:M1 [.Tuple [.Name x px,.Name y py] kt pt] (.Tuple [a,b] k2 pt2) X.env=pure (some [x,y]))
  (hs:M0 [.Tuple [.Name x px,.Name y py] kt pt] (.Tuple [a,b] k2 pt2) pos.line X.env=pure false:=by rfl) :
  PS X (.Assign [.Tuple [.Name x px,.Name y py] kt pt] (.Tuple [a,b] k2 pt2) pos) (Fp i j ta):=by
 intro Uq s Z H D I h;rw[PL];refine LA (MZ ?_);rw[hs];refine LA (LF ?_);rw[if_neg (by decide)];refine LA (Tuple_ (thn (ha _ Uq s Z H _ I h) λus s1 ⟨vs,H1,I1,r1,q1⟩=>?_));obtain⟨v,w,e1,q1⟩:=q1;subst e1;obtain⟨u1,u2,rfl,rv,rw'⟩:∃u1 u2,us=[u1,u2]/\RelV v u1/\RelV w u2:=by
  cases r1 with
  | cons p q=>
   cases q with
   | cons p' q'=>
    cases q';exact⟨_,_,rfl,p,p'⟩
 refine LP ?_ (by show 2<=sizeLine;decide);have I2:Inv X Uq Z H1 {s1 with heap:=s1.heap.push {cls:=.type "tuple",data:=.seq [u1,u2].toArray}}:=I1.kept (t':=s1.toks) λb o e=>LC _ e;rw[hw];refine LA (LF ?_);show LH (LL X.prog X.w) X.A (do rule "assign.swapped-stores";let items <-unpackItems (.ref s1.heap.objs.size) 2 none;No [λv=>Na X.env y v,λv=>Na X.env x v] items.reverse;pure Py) _ _ _;refine LA (M4 (LA (Pi (items:=#[u1,u2]) (I.ok.hd hc) (Q0 s1.heap _) λh' hx'=>?_)));have I3:=I2.kept (h':=h') (t':=s1.toks) λb o e=>hx' b o (GN (LI e)) e;show LH _ _ (No [λv=>Na X.env y v,λv=>Na X.env x v] [u2,u1] >>= λ_=>pure Py) _ _ _;refine LA (My (Nb (cV I3 hN hj (.inl hy) rw' (λs2 I4=>?_) (.inr hy))));refine My (Nb (cV I4 hN hi (.inl hx) rv (λs3 I5=>NX (LF ?_)) (.inr hx)));rw[Je _ _ (LO hij)]at I5;exact⟨_,H1,I5,q1⟩
def Fh(i:Nat)(te:TE)(ti:TIp):TS:=λD Z H=>∃x,Z[i]?=some (some x)/\te Z H λy H1=>ti x y H1 λz H2=>D.nx (Z.set i (some z)) H2
theorem BY{i:Nat}{x:Str}{e:Expr}{te:TE}{op:P9}{ti:TIp}{pos':Pos}(hN:X.N.Nodup)(hi:X.N[i]?=some x)(hx:Loc X.env.scope x)(he:PE X e te)(ho:PIp X op ti)(hf:X.fn x=true\/X.env.scope.names.lookup x=some .local:=by first|exact .inl rfl|exact .inr rfl|assumption) :
  PS X (.AugAssign (.Name x pos') op e pos) (Fh i te ti):=by
 intro Uq s Z H D I h;obtain⟨v,e1,h⟩:=h;obtain⟨m,hn,hl⟩:=I.loc;have vis:Vis X.env.scope x:=by rcases hx with k|k;exact .inl k;exact .inr (.inl k)
 obtain⟨u,r,l⟩:=hl i x v hi e1 vis;refine wpAny_AugAssign_Name ?_;have go:LH (LL X.prog X.w) X.A (eval e X.env) (λw s₂=>LH (LL X.prog X.w) X.A (inplaceOp op u w) (λr s₃=>LH (LL X.prog X.w) X.A (Qp X.env x r) (λ_=>SP X Uq D .next) X.xe s₃) X.xe s₂) X.xe s:=by
  refine thn (he Uq s Z H _ I h) λw s1 ⟨y,H1,I1,r1,q1⟩=>?_;refine thn (ho Uq s1 Z H1 v y u w _ I1 r r1 q1) λz s2 ⟨zv,H2,I2,r2,q2⟩=>?_;exact cV I2 hN hi hx r2 (λs3 I3=>⟨_,H2,I3,q2⟩) hf
 rcases l with⟨hk,hm⟩|⟨hk,c,hc,hcell⟩;exact OA I.ok.kind hk hn hm go
 ·rcases hk with hk|hk;exact OS I.ok.kind hk hc hcell go
  ·rcases hx with k|k
   ·have:X.env.scope.names.lookup x=some .free:=hk;rw[k]at this;cases this
   ·have:X.env.scope.names.lookup x=some .free:=hk;rw[k]at this;cases this
def ipI(f:Int->Int->Int):TIp:=λx y H Q=>∃i j,x=.int i/\y=.int j/\Q (.int (f i j)) H
theorem AM:PIp X .Sub (ipI λi j=>i-j):=by
 intro Uq s Z H x y v u Q I r1 r2 h;obtain⟨i,j,e1,e2,q⟩:=h;subst e1;subst e2;obtain⟨t,rfl⟩:=r1;obtain⟨t',rfl⟩:=r2;exact isub_int ⟨.int _,H,I.tok _,⟨_,rfl⟩,q⟩
end
section
variable {X:Cx}{pos:Pos}
def wC(c:TT)(tb:TS):TS:=λD Z H=>∃W:Nat->St->Hp->Prop,(∃m,W m Z H)/\∀m Z H,W m Z H ->
 c Z H λb H1=>if b=true then∃N:St->Hp->Prop,(∀Z' H',N Z' H'->∃m',m'<m/\W m' Z' H')/\tb {D with nx:=N,ct:=N,bk:=D.nx} Z H1 else D.nx Z H1
theorem vq{c:Expr}{body:List Stmt}{tc:TT}{tb:TS}(hp:Ob (LL X.prog X.w) X.A X.env X.xe)(hc:PT X c tc)(hb:PSs X body tb):PS X (.While c body [] pos) (wC tc tb):=by
 intro Uq s Z H D I h;obtain⟨W,⟨m0,w0⟩,turn⟩:=h;refine wpAny_While (codeAny_whileLoop (λn s'=>∃Z' H',Inv X Uq Z' H' s'/\W n Z' H') ?_ m0 ⟨Z,H,I,w0⟩);rintro n s1 ⟨Z1,H1,I1,w1⟩;refine MC hp (thn (hc Uq s1 Z1 H1 _ I1 (turn n Z1 H1 w1)) λb s2 ⟨H2,I2,q2⟩=>?_);cases b with
 | true=>
  obtain⟨N,hN,q2⟩:=q2;rw[if_pos rfl];refine MC hp (thn (hb Uq s2 Z1 H2 _ I2 q2) λf s3 q3=>?_);cases f with
  | next=>
   obtain⟨Z3,H3,I3,n3⟩:=q3;obtain⟨m',hm,w3⟩:=hN Z3 H3 n3;exact⟨m',hm,Z3,H3,I3,w3⟩
  | cont=>
   obtain⟨Z3,H3,I3,n3⟩:=q3;obtain⟨m',hm,w3⟩:=hN Z3 H3 n3;exact⟨m',hm,Z3,H3,I3,w3⟩
  | brk=>exact q3
  | ret v=>exact q3
 | false=>
  rw[if_neg GG];exact Nw ⟨Z1,H2,I2,q2⟩
end
structure It where
 go:Nat->Hp->Prop
 yld:Nat->Hp->V->Hp->Prop
 stop:Nat->Hp->Prop
def gX(X:Cx)(Uq:List (Addr×Obj))(H:Hp)(b:Addr):Prop:=
 H b=none/\b≠X.env.locals/\b∉X.fs/\(b∈X.ex\/X.s₀.heap.objs.size<=b)/\(∀x c,X.env.cells.lookup x=some c->c≠b)/\∀p∈X.pn++Uq,p.1≠b
theorem Inv.fpOk{X:Cx}{Uq:List (Addr×Obj)}{Z:St}{H H':Hp}{s:LD}{b:Addr}(I:Inv X Uq Z H s)(hb:s.heap.objs.size<=b)(hn:H' b=none):gX X Uq H' b:=by
 refine⟨hn,Iq (GP I.lt hb),I.nofs hb,.inr (Hj I.sz hb),λx c e z=>?_,λp hp z=>?_⟩
 ·obtain⟨v,q⟩:=I.cell x c e;exact absurd (GP q.lt (by rw[z];exact hb)) (HJ _)
 ·exact absurd (GP (LI (I.pin p hp).1) (by rw[z];exact hb)) (HJ _)
structure Lq(P:LM)(w:LU)(K:yF)(tg:Expr)(J:It)(fp:List Addr)(it:Addr)(tn:Nat->Heap->Prop):Prop where
 mem:it∈fp
 obj:∀i h,tn i h->∀b∈fp,∃o,h.get? b=some o/\∀v,o.data ≠ .cell v
 keep:∀i h h',tn i h->(∀b∈fp,∀o,h.get? b=some o->h'.get? b=some o)->tn i h'
 item:∀(X:Cx),X.prog=P->X.w=w->X.K=K->X.calm=true->∀(i:Nat) (Uq:List (Addr×Obj)) (s:LD) (Z:St) (H:Hp) (E:LB->LD->Prop),Inv X Uq Z H s->(∀b∈fp,gX X Uq H b)->tn i s.heap->J.go i H ->
  LH (LL P w) X.A (OB (.ref it)) (λr s1=>∃u,r=some u /\
   LH (LL P w) X.A (Nx tg (.ref it) u) (λ_ s2=>∃x H',Inv X Uq Z H' s2/\RelV x u/\J.yld i H x H'/\tn (i+1) s2.heap/\∀b∈fp,H' b=none) E s1) E s
 done:∀(X:Cx),X.prog=P->X.w=w->X.K=K->X.calm=true->∀(i:Nat) (Uq:List (Addr×Obj)) (s:LD) (Z:St) (H:Hp) (E:LB->LD->Prop),Inv X Uq Z H s->(∀b∈fp,gX X Uq H b)->tn i s.heap->J.stop i H ->
  LH (LL P w) X.A (OB (.ref it)) (λr s1=>r=none/\Inv X Uq Z H s1) E s
 self:∀(A:LQ) (i:Nat) (s:LD) (Q:LB->LD->Prop) (E:LB->LD->Prop),tn i s.heap->Q (.ref it) s->LH (LL P w) A (Qu (.ref it)) Q E s
abbrev TI:=St->Hp->(It->Hp->Prop)->Prop
def PIE(X:Cx)(Uq:List (Addr×Obj))(Z:St)(tg:Expr)(R:It->Hp->Prop)(itv:LB)(s2:LD):Prop:=
 ∃(it:Addr) (fp:List Addr) (tn:Nat->Heap->Prop) (J:It) (H':Hp),itv=.ref it/\Inv X Uq Z H' s2/\Lq X.prog X.w X.K tg J fp it tn/\tn 0 s2.heap/\(∀b∈fp,gX X Uq H' b)/\R J H'
def PI(X:Cx)(tg iter:Expr)(wi:TI):Prop:=
 ∀(Uq:List (Addr×Obj)) (s:LD) (Z:St) (H:Hp) (R:It->Hp->Prop),Inv X Uq Z H s->wi Z H R ->
  LH (LL X.prog X.w) X.A (eval iter X.env) (λv s1=>LH (LL X.prog X.w) X.A (Qu v) (PIE X Uq Z tg R) X.xe s1) X.xe s
theorem nU{M:QV}{A:LQ}{E:LB->LD->Prop}{s:LD}{tg:Expr}{it:Addr}{u:LB}{o:Obj}{n:String}{vs:Array LB}{Q:Unit->LD->Prop}(ho:s.heap.get? it=some o)(hc:o.cls=.type n)(hd:o.data=.fields vs)
  (hn:["enumerate","zip","dict_itemiterator","dict_reverseitemiterator","odict_iterator","itertools.zip_longest","itertools.pairwise"].contains n=false) (hQ:Q () s):LH M A (Nx tg (.ref it) u) Q E s:=by
 unfold Nx;cases tg<;>first
  | exact LF hQ
  | (cases u<;>first
    | exact LF hQ
    | (refine LA (wpAny_load ho ?_)
       rw[hc,hd];show LH M A (if(["enumerate","zip","dict_itemiterator","dict_reverseitemiterator","odict_iterator","itertools.zip_longest","itertools.pairwise"].contains n&&vs[0]? == some (Ny _))=true then _ else _) Q E s;rw[if_neg (by intro h;rw[hn,Kt]at h;cases h)];exact LF hQ))
noncomputable def Itl(K:yF) (a:Addr):It:=
 ⟨λi H=>∃xs x,SqL K H a xs/\xs[i]?=some x,λi H x H'=>H'=H/\∀xs,SqL K H a xs->xs[i]?=some x,λi H=>∃xs,SqL K H a xs/\xs.length<=i⟩
noncomputable def Itt(K:yF) (a:Addr):It:=
 ⟨λi H=>∃xs x,SqT K H a xs/\xs[i]?=some x,λi H x H'=>H'=H/\∀xs,SqT K H a xs->xs[i]?=some x,λi H=>∃xs,SqT K H a xs/\xs.length<=i⟩
noncomputable def Itr(lo:Int) (n:Nat):It:=⟨λi _=>i<n,λi H x H'=>H'=H/\x=.int (lo+i),λi _=>n<=i⟩
theorem tm{P:LM}{w:LU}{K:yF}{tg:Expr}(a it:Addr):Lq P w K tg (Itl K a) [it] it (λi h=>h.IsListIter it a i) where
 mem:=by simp
 obj:=λi h st b hb=>by
  have e:b=it:=by simpa using hb
  subst e;obtain⟨o,e,c,d⟩:=st;exact⟨o,e,λv z=>by rw[d]at z;cases z⟩
 keep:=λi h h' st k=>st.at λo e=>k it (by simp) o e
 item:=by
  intro X hP hw hK hc i Uq s Z H E I hf st hg;subst hP hw hK;obtain⟨xs,x,hq,hx⟩:=hg;obtain⟨its,rv,p,hz⟩:=I.list hq;obtain⟨u,hu,ru⟩:=rv.get hx;obtain⟨f0,f1,f2,f3,f4,f5⟩:=hf it (by simp);refine Oo st p.isList (x:=u) (by simpa using hu) λh' st' sb=>?_;have I1:Inv X Uq Z H {s with heap:=h'}:=I.turned (t':=s.toks) (λb o hb e=>(sb.2 b hb).trans e) f0 f1 f3 f4 f5;obtain⟨o,e,c,d⟩:=id st';exact⟨u,rfl,nU (s:={s with heap:=h'}) e c d (by decide) ⟨x,H,I1,ru,⟨rfl,λys hy=>by rw[I.list_inj hy hq];exact hx⟩,st',λb hb=>(hf b hb).1⟩⟩
 done:=by
  intro X hP hw hK hc i Uq s Z H E I hf st hg;subst hP hw hK;obtain⟨xs,hq,hx⟩:=hg;obtain⟨its,rv,p,hz⟩:=I.list hq;obtain⟨f0,f1,f2,f3,f4,f5⟩:=hf it (by simp);have hl:=rv.length;exact Oy (I.ok.hd hc) st p.isList (by simp;omega) λh' eb=>⟨rfl,I.turned (t':=s.toks) (λb o hb e=>eb b o hb e) f0 f1 f3 f4 f5⟩
 self:=λ_ _ _ _ _ st h=>wpAny_pyIter_listiter st h
theorem p7{P:LM}{w:LU}{K:yF}{tg:Expr}(a it:Addr):Lq P w K tg (Itt K a) [it] it (λi h=>h.IsTupleIter it a i) where
 mem:=by simp
 obj:=λi h st b hb=>by
  have e:b=it:=by simpa using hb
  subst e;obtain⟨o,e,c,d⟩:=st;exact⟨o,e,λv z=>by rw[d]at z;cases z⟩
 keep:=λi h h' st k=>st.at λo e=>k it (by simp) o e
 item:=by
  intro X hP hw hK hc i Uq s Z H E I hf st hg;subst hP hw hK;obtain⟨xs,x,hq,hx⟩:=hg;obtain⟨its,rv,p,hz⟩:=I.tuple hq;obtain⟨u,hu,ru⟩:=rv.get hx;obtain⟨f0,f1,f2,f3,f4,f5⟩:=hf it (by simp);refine Oc st (show s.heap.IsTuple a its.toArray from p) (x:=u) (by simpa using hu) λh' st' sb=>?_;have I1:Inv X Uq Z H {s with heap:=h'}:=I.turned (t':=s.toks) (λb o hb e=>(sb.2 b hb).trans e) f0 f1 f3 f4 f5;obtain⟨o,e,c,d⟩:=id st';exact⟨u,rfl,nU (s:={s with heap:=h'}) e c d (by decide) ⟨x,H,I1,ru,⟨rfl,λys hy=>by rw[I.tuple_inj hy hq];exact hx⟩,st',λb hb=>(hf b hb).1⟩⟩
 done:=by
  intro X hP hw hK hc i Uq s Z H E I hf st hg;subst hP hw hK;obtain⟨xs,hq,hx⟩:=hg;obtain⟨its,rv,p,hz⟩:=I.tuple hq;obtain⟨f0,f1,f2,f3,f4,f5⟩:=hf it (by simp);have hl:=rv.length;exact Op (I.ok.hd hc) st (show s.heap.IsTuple a its.toArray from p) (by simp;omega) λh' eb=>⟨rfl,I.turned (t':=s.toks) (λb o hb e=>eb b o hb e) f0 f1 f3 f4 f5⟩
 self:=λ_ _ _ _ _ st h=>wpAny_pyIter_tupleiter st h
theorem pZ{P:LM}{w:LU}{K:yF}{tg:Expr}(it:Addr)(lo:Int)(n:Nat):Lq P w K tg (Itr lo n) [it] it (λi h=>IsRangeIter h it (lo+(i:Nat)*1) ((n:Int)-(i:Nat)) 1) where
 mem:=by simp
 obj:=λi h st b hb=>by
  have e:b=it:=by simpa using hb
  subst e;exact⟨_,st,λv z=>by
   have z':QB _=Data.cell v:=z;cases z'⟩
 keep:=λi h h' st k=>k it (by simp) _ st
 item:=by
  intro X hP hw hK hc i Uq s Z H E I hf st hg;subst hP hw hK;obtain⟨f0,f1,f2,f3,f4,f5⟩:=hf it (by simp);have W:=QX.range (prog:=X.prog) (w:=X.w) (I.ok.hd hc) it lo 1 n;refine W.item i s _ _ hg st λv h' tk hv st' kk=>?_;obtain⟨t,rfl⟩:=hv;have I1:Inv X Uq Z H {s with heap:=h',toks:=tk}:=I.turned (λb o hb e=>kk b o (by simpa using hb) e) f0 f1 f3 f4 f5;refine⟨_,rfl,nU (s:={s with heap:=h',toks:=tk}) (n:="range_iterator") st' rfl rfl (by decide) ⟨.int (lo+i),H,I1,⟨t,?_⟩,⟨rfl,rfl⟩,st',λb hb=>(hf b hb).1⟩⟩;rw[Int.mul_one]
 done:=by
  intro X hP hw hK hc i Uq s Z H E I hf st hg;subst hP hw hK;obtain⟨f0,f1,f2,f3,f4,f5⟩:=hf it (by simp);exact wpAny_pyNext_range_end (I.ok.hd hc) st (by have:n<=i:=hg;omega) λh' eb=>⟨rfl,I.turned (t':=s.toks) (λb o hb e=>eb b o hb e) f0 f1 f3 f4 f5⟩
 self:=λ_ _ _ _ _ st h=>wpAny_pyIter_rangeiter st h
section
variable {X:Cx}{tg:Expr}
def qG(K:yF)(tl:TE):TI:=λZ H R=>tl Z H λx H1=>∃a,x=.ref a/\(∃xs,SqL K H1 a xs)/\R (Itl K a) H1
def xt(K:yF)(tl:TE):TI:=λZ H R=>tl Z H λx H1=>∃a,x=.ref a/\(∃xs,SqT K H1 a xs)/\R (Itt K a) H1
theorem ye{l:Expr}{tl:TE}(hl:PE X l tl):PI X tg l (qG X.K tl):=by
 intro Uq s Z H R I h;refine thn (hl Uq s Z H _ I h) λv s1 ⟨x,H1,I1,r1,q1⟩=>?_;obtain⟨a,e,⟨xs,hq⟩,q⟩:=q1;subst e;cases r1;obtain⟨its,rv,p,hz⟩:=I1.list hq;refine Nc p.isList ?_;refine⟨s1.heap.objs.size,[s1.heap.objs.size],_,_,H1,rfl,I1.kept (t':=s1.toks) λb o e=>LC _ e,tm a _,⟨_,LK _ rfl,rfl,rfl⟩,λb hb=>?_,q⟩;have e:b=s1.heap.objs.size:=by simpa using hb
 subst e;exact I1.fpOk (GC _) (I1.hok.fresh (GC _))
theorem BU{l:Expr}{tl:TE}(hl:PE X l tl):PI X tg l (xt X.K tl):=by
 intro Uq s Z H R I h;refine thn (hl Uq s Z H _ I h) λv s1 ⟨x,H1,I1,r1,q1⟩=>?_;obtain⟨a,e,⟨xs,hq⟩,q⟩:=q1;subst e;cases r1;obtain⟨its,rv,p,hz⟩:=I1.tuple hq;refine NK (show s1.heap.IsTuple a its.toArray from p) ?_;refine⟨s1.heap.objs.size,[s1.heap.objs.size],_,_,H1,rfl,I1.kept (t':=s1.toks) λb o e=>LC _ e,p7 a _,⟨_,LK _ rfl,rfl,rfl⟩,λb hb=>?_,q⟩;have e:b=s1.heap.objs.size:=by simpa using hb
 subst e;exact I1.fpOk (GC _) (I1.hok.fresh (GC _))
theorem oJ{Uq:List (Addr×Obj)}{Z:St}{H:Hp}{s:LD}{R:It->Hp->Prop}{E:LB->LD->Prop}{lo hi:Int}{t u v:Tok}{tk:Nat}(I:Inv X Uq Z H s)(h1 : -(2^62)<=lo)(h2:lo<2^62)(h3 : -(2^62)<=hi)(h4:hi<2^62)
  (q:R (Itr lo (hi-lo).toNat) H):LH (LL X.prog X.w) X.A (Qu (.ref s.heap.objs.size)) (PIE X Uq Z tg R) E {s with heap:=s.heap.push {cls:=.type "range",data:=.fields #[.int lo t,.int hi u,.int 1 v]},toks:=tk}:=by
 refine wpAny_pyIter_range (IsRange.new ..) (small_one h1 h2 h3 h4) ?_;have I1:Inv X Uq Z H {s with heap:=s.heap.push {cls:=.type "range",data:=.fields #[.int lo t,.int hi u,.int 1 v]},toks:=tk}:=I.kept λb o e=>LC _ e;refine⟨(s.heap.push {cls:=.type "range",data:=.fields #[.int lo t,.int hi u,.int 1 v]}).objs.size,[(s.heap.push {cls:=.type "range",data:=.fields #[.int lo t,.int hi u,.int 1 v]}).objs.size],_,_,H,rfl,
  I1.kept (t':=tk) λb o e=>LC _ e,pZ _ lo (hi-lo).toNat,?_,λb hb=>?_,q⟩
 ·have e1:lo+((0:Nat):Int)*1=lo:=by simp
  have e2:(((hi-lo).toNat:Nat):Int)-((0:Nat):Int)=Qr lo hi 1:=by rw[rangeSize_one];split<;>omega
  show IsRangeIter _ _ (lo+((0:Nat):Int)*1) ((((hi-lo).toNat:Nat):Int)-((0:Nat):Int)) 1;rw[e1,e2];exact LK _ rfl
 ·have e:b=(s.heap.push {cls:=.type "range",data:=.fields #[.int lo t,.int hi u,.int 1 v]}).objs.size:=by simpa using hb
  subst e;exact I1.fpOk (GC _) (I1.hok.fresh (GC _))
def zN(ta:TA):TI:=λZ H R=>ta Z H λvs H1=>∃j:Int,vs=[.int j]/\-(2^62)<=j/\j<2^62/\R (Itr 0 j.toNat) H1
def zO(ta:TA):TI:=λZ H R=>ta Z H λvs H1=>∃i j:Int,vs=[.int i,.int j]/\(-(2^62)<=i/\i<2^62/\-(2^62)<=j/\j<2^62)/\R (Itr i (j-i).toNat) H1
theorem sC{a:Expr}{ta:TA}{p pos:Pos}(hg:Gl X "range")(hm:X.mg "range" = none)(ha:PA X [a] ta)(hs:LV [a] X.env=[(false,eval a X.env)]:=by rfl):PI X tg (.Call (.Name "range" p) [a] [] pos) (zN ta):=by
 intro Uq s Z H R I h;refine Call_ (ic I hg hm boot_range (HB (thn (ha pos Uq s Z H _ I h) λus s1 ⟨vs,H1,I1,r1,q1⟩=>?_) hs rfl));obtain⟨j,e,q1,q2,q⟩:=q1;subst e;cases r1 with
 | cons r rr=>
  cases rr;obtain⟨t,rfl⟩:=r;exact call_range_1 (oJ I1 (by omega) (by omega) q1 q2 (by simpa using q))
theorem sD{a b:Expr}{ta:TA}{p pos:Pos}(hg:Gl X "range")(hm:X.mg "range" = none)(ha:PA X [a,b] ta)(hs:LV [a,b] X.env=[(false,eval a X.env),(false,eval b X.env)]:=by rfl)(hs2:LV [b] X.env=[(false,eval b X.env)]:=by rfl) :
  PI X tg (.Call (.Name "range" p) [a,b] [] pos) (zO ta):=by
 intro Uq s Z H R I h;refine Call_ (ic I hg hm boot_range (HB (thn (ha pos Uq s Z H _ I h) λus s1 ⟨vs,H1,I1,r1,q1⟩=>?_) (by rw[hs,hs2]) (by rw[hs2];rfl)));obtain⟨i,j,e,⟨q1,q2,q3,q4⟩,q⟩:=q1;subst e;cases r1 with
 | cons r rr=>
  cases rr with
  | cons r' rr=>
   cases rr;obtain⟨t,rfl⟩:=r;obtain⟨t',rfl⟩:=r';exact call_range_2 (oJ I1 q1 q2 q3 q4 q)
def Fj(wi:TI)(g:TG)(tb:TS):TS:=λD Z H=>wi Z H λJ H1=>∃W:Nat->Nat->St->Hp->Prop,(∃m,W 0 m Z H1)/\∀i m Z H,W i m Z H ->
 (J.stop i H/\D.nx Z H)\/(J.go i H/\∃N:St->Hp->Prop,(∀Z' H',N Z' H'->∃m',m'<m/\W (i+1) m' Z' H')/\∀x H',J.yld i H x H'->g x Z H' λZ2 H2=>tb {D with nx:=N,ct:=N,bk:=D.nx} Z2 H2)
noncomputable def kz(fp:List Addr) (h:Heap):List (Addr×Obj):=fp.filterMap λb=>(h.get? b).map λo=>(b,o)
theorem fq{fp:List Addr}{h:Heap}{b:Addr}{o:Obj}(hb:b∈fp)(e:h.get? b=some o):(b,o)∈kz fp h:=G5.mpr ⟨b,hb,by rw[e];rfl⟩
theorem su{fp:List Addr}{h:Heap}{p:Addr×Obj}(hp:p∈kz fp h):p.1∈fp/\h.get? p.1=some p.2:=by
 obtain⟨b,hb,e⟩:=G5.mp hp;cases q:h.get? b with
 | none=>rw[q]at e;cases e
 | some o=>
  rw[q]at e;have e':(b,o)=p:=GX.inj e;subst e';exact⟨hb,q⟩
theorem Inv.pinned{Uq:List (Addr×Obj)}{Z:St}{H:Hp}{s:LD}{fp:List Addr}(I:Inv X Uq Z H s)(hf:∀b∈fp,gX X Uq H b)(ho:∀b∈fp,∃o,s.heap.get? b=some o/\∀v,o.data ≠ .cell v):Inv X (Uq++kz fp s.heap) Z H s:=
 I.pins_of λp hp=>(yaM hp).elim (λz=>I.pin p (yaR _ z)) λz=>by
  obtain⟨hb,e⟩:=su z;obtain⟨f0,f1,f2,_⟩:=hf p.1 hb;obtain⟨o,e',d⟩:=ho p.1 hb;rw[e]at e';cases e';exact⟨e,f0,f1,f2,d⟩
theorem Inv.unpinned{Uq pl:List (Addr×Obj)}{Z:St}{H:Hp}{s:LD}(I:Inv X (Uq++pl) Z H s):Inv X Uq Z H s:=I.pins_of λp hp=>I.pin p (yaR _ (yaL _ hp))
theorem BZ{iter:Expr}{body:List Stmt}{wi:TI}{g:TG}{tb:TS}{pos:Pos}(hp:Ob (LL X.prog X.w) X.A X.env X.xe)(hc:X.calm=true)(hi:PI X tg iter wi)(hg:PG X tg g)(hb:PSs X body tb)
  (hs:∀x,MD iter X.env x=pure x:=by intro _;rfl):PS X (.For tg iter body [] pos) (Fj wi g tb):=by
 intro Uq s Z H D I h;refine wpAny_For (thn (hi Uq s Z H _ I h) λv s1 h1=>thn h1 λitv s2 h2=>?_) hs;obtain⟨it,fp,tn,J,H2,e,I2,T,st2,f2,W,⟨m0,w0⟩,turn⟩:=h2;subst e;have stat:∀{H':Hp},(∀b∈fp,H' b=none)->∀b∈fp,gX X Uq H' b:=λhn b hb=>⟨hn b hb,(f2 b hb).2⟩;refine codeAny_forLoop_any (λn s'=>∃i Z' H',Inv X Uq Z' H' s'/\tn i s'.heap/\(∀b∈fp,H' b=none)/\W i n Z' H') ?_ m0 ⟨0,Z,H2,I2,st2,λb hb=>(f2 b hb).1,w0⟩;rintro n s3 ⟨i,Z3,H3,I3,st3,fr3,w3⟩;rcases turn i n Z3 H3 w3 with⟨stop,qn⟩|⟨go,N,hN,step⟩
 ·refine MC hp (thn (T.done X rfl rfl rfl hc i Uq s3 Z3 H3 X.xe I3 (stat fr3) st3 stop) λr s4 ⟨hr,I4⟩=>?_);subst hr;exact Nw ⟨Z3,H3,I4,qn⟩
 ·refine MC hp (thn (T.item X rfl rfl rfl hc i Uq s3 Z3 H3 X.xe I3 (stat fr3) st3 go) λr s4 ⟨u,hr,h4⟩=>?_);subst hr;refine MC hp (thn h4 λ_ s5 ⟨x,H5,I5,r5,y5,st5,fr5⟩=>?_);have I5':=I5.pinned (stat fr5) (T.obj _ _ st5);refine MC hp (thn (hg _ s5 Z3 H5 x u _ I5' r5 (step x H5 y5)) λ_ s6 ⟨Z6,H6,I6,q6⟩=>?_);refine MC hp (thn (hb _ s6 Z6 H6 _ I6 q6) λf s7 q7=>?_);have again:∀{Z7:St} {H7:Hp},Inv X (Uq++kz fp s5.heap) Z7 H7 s7->N Z7 H7->∃m,m<n/\∃i Z' H',Inv X Uq Z' H' s7/\tn i s7.heap/\(∀b∈fp,H' b=none)/\W i m Z' H':=λ{Z7 H7} I7 n7=>by
   obtain⟨m',hm,w7⟩:=hN Z7 H7 n7;refine⟨m',hm,i+1,Z7,H7,I7.unpinned,T.keep _ _ _ st5 λb hb o e=>(I7.pin (b,o) (yaR _ (yaR _ (fq hb e)))).1,λb hb=>?_,w7⟩;obtain⟨o,e,d⟩:=T.obj _ _ st5 b hb;exact(I7.pin (b,o) (yaR _ (yaR _ (fq hb e)))).2.1
  cases f with
  | next=>obtain⟨Z7,H7,I7,n7⟩:=q7;exact again I7 n7
  | cont=>obtain⟨Z7,H7,I7,n7⟩:=q7;exact again I7 n7
  | brk=>obtain⟨Z7,H7,I7,q7⟩:=q7;exact⟨Z7,H7,I7.unpinned,q7⟩
  | ret v=>obtain⟨x7,Z7,H7,I7,r7,q7⟩:=q7;exact⟨x7,Z7,H7,I7.unpinned,r7,q7⟩
end
abbrev R2:=V->V->Hp->VK->Prop
def OpR(X:Cx)(f:LB->LB->Sem LB)(r:R2):Prop:=
 ∀(Uq:List (Addr×Obj)) (s:LD) (Z:St) (H:Hp) (x y:V) (v u:LB) (Q:VK),Inv X Uq Z H s->RelV x v->RelV y u->r x y H Q ->
  LH (LL X.prog X.w) X.A (f v u) (EP X Uq Z Q) X.xe s
def UnR(X:Cx)(f:LB->Sem LB)(r:V->Hp->VK->Prop):Prop:=
 ∀(Uq:List (Addr×Obj)) (s:LD) (Z:St) (H:Hp) (x:V) (v:LB) (Q:VK),Inv X Uq Z H s->RelV x v->r x H Q ->
  LH (LL X.prog X.w) X.A (f v) (EP X Uq Z Q) X.xe s
def K4(X:Cx)(f:LB)(r:List V->Hp->VK->Prop):Prop:=
 ∀(Uq:List (Addr×Obj)) (s:LD) (Z:St) (H:Hp) (xs:List V) (us:List LB) (Q:VK),Inv X Uq Z H s->Vals xs us->r xs H Q ->
  LH (LL X.prog X.w) X.A (call f us) (EP X Uq Z Q) X.xe s
def FN(X:Cx)(r:V->Hp->(Bool->Hp->Prop)->Prop):Prop:=
 ∀(Uq:List (Addr×Obj)) (s:LD) (Z:St) (H:Hp) (x:V) (v:LB) (Q:Bool->Hp->Prop),Inv X Uq Z H s->RelV x v->r x H Q ->
  LH (LL X.prog X.w) X.A (P8 v) (TP X Uq Z Q) X.xe s
def tOp(r:R2)(ta tb:TE):TE:=λZ H Q=>ta Z H λx H1=>tb Z H1 λy H2=>r x y H2 Q
def tUn(r:V->Hp->VK->Prop)(ta:TE):TE:=λZ H Q=>ta Z H λx H1=>r x H1 Q
def rI(C:Int->Int->Prop)(g:Int->Int->V):R2:=λx y H Q=>∃i j,x=.int i/\y=.int j/\C i j/\Q (g i j) H
def rI0(g:Int->Int->V):R2:=λx y H Q=>∃i j,x=.int i/\y=.int j/\Q (g i j) H
def rU(g:Int->V):V->Hp->VK->Prop:=λx H Q=>∃i,x=.int i/\Q (g i) H
section
variable {X:Cx}{a b c:Expr}{ta tb tc:TE}{pos:Pos}
theorem At(ha:PE X a ta)(hb:PE X b tb){Uq:List (Addr×Obj)}{s:LD}{Z:St}{H:Hp}{R:V->V->Hp->Prop}(I:Inv X Uq Z H s)
  (h:ta Z H λx H1=>tb Z H1 λy H2=>R x y H2) {Q:LB->LD->Prop} {f:LB->LB->Sem LB}
  (hf:∀v u s2 x y H2,Inv X Uq Z H2 s2->RelV x v->RelV y u->R x y H2->LH (LL X.prog X.w) X.A (f v u) Q X.xe s2) :
  LH (LL X.prog X.w) X.A (eval a X.env) (λv s₁=>LH (LL X.prog X.w) X.A (eval b X.env) (λu s₂=>LH (LL X.prog X.w) X.A (f v u) Q X.xe s₂) X.xe s₁) X.xe s:=by
 refine thn (ha Uq s Z H _ I h) λv s1 ⟨x,H1,I1,r1,q1⟩=>?_;refine thn (hb Uq s1 Z H1 _ I1 q1) λu s2 ⟨y,H2,I2,r2,q2⟩=>?_;exact hf v u s2 x y H2 I2 r1 r2 q2
theorem Et{op:P9}{r:R2}(ho:OpR X (Me op) r)(ha:PE X a ta)(hb:PE X b tb):PE X (.BinOp a op b pos) (tOp r ta tb):=by
 intro Uq s Z H Q I h;exact wpAny_BinOp (At ha hb I h λv u s2 x y H2 I2 rx ry q=>ho Uq s2 Z H2 x y v u Q I2 rx ry q)
theorem uP{op:UnaryOp}{r:V->Hp->VK->Prop}(ho:UnR X (unaryOp op) r)(ha:PE X a ta):PE X (.UnaryOp op a pos) (tUn r ta):=by
 intro Uq s Z H Q I h;exact UnaryOp_ (thn (ha Uq s Z H _ I h) λv s1 ⟨x,H1,I1,r1,q1⟩=>ho Uq s1 Z H1 x v Q I1 r1 q1)
theorem opI{f:LB->LB->Sem LB}{C:Int->Int->Prop}{g:Int->Int->Int}
  (rule:∀(i j:Int) (t u:Tok) (s:LD) (Q:LB->LD->Prop) (E:LB->LD->Prop),C i j->Q (.int (g i j) s.toks) {s with toks:=s.toks+1}->LH (LL X.prog X.w) X.A (f (.int i t) (.int j u)) Q E s) :
  OpR X f (rI C λi j=>.int (g i j)):=by
 intro Uq s Z H x y v u Q I rx ry h;obtain⟨i,j,rfl,rfl,hc,q⟩:=h;obtain⟨t,rfl⟩:=rx;obtain⟨t',rfl⟩:=ry;exact rule i j t t' s _ _ hc ⟨.int (g i j),H,I.tok _,⟨_,rfl⟩,q⟩
theorem DY{f:LB->LB->Sem LB}{g:Int->Int->Int}
  (rule:∀(i j:Int) (t u:Tok) (s:LD) (Q:LB->LD->Prop) (E:LB->LD->Prop),Q (.int (g i j) s.toks) {s with toks:=s.toks+1}->LH (LL X.prog X.w) X.A (f (.int i t) (.int j u)) Q E s) :
  OpR X f (rI0 λi j=>.int (g i j)):=by
 intro Uq s Z H x y v u Q I rx ry h;obtain⟨i,j,rfl,rfl,q⟩:=h;obtain⟨t,rfl⟩:=rx;obtain⟨t',rfl⟩:=ry;exact rule i j t t' s _ _ ⟨.int (g i j),H,I.tok _,⟨_,rfl⟩,q⟩
theorem A5{f:LB->LB->Sem LB}{g:Int->Int->Bool}
  (rule:∀(i j:Int) (t u:Tok) (s:LD) (Q:LB->LD->Prop) (E:LB->LD->Prop),Q (.bool (g i j)) s->LH (LL X.prog X.w) X.A (f (.int i t) (.int j u)) Q E s) :
  OpR X f (rI0 λi j=>.bl (g i j)):=by
 intro Uq s Z H x y v u Q I rx ry h;obtain⟨i,j,rfl,rfl,q⟩:=h;obtain⟨t,rfl⟩:=rx;obtain⟨t',rfl⟩:=ry;exact rule i j t t' s _ _ ⟨.bl (g i j),H,I,rfl,q⟩
def An(i j:Int):Prop:=0<=j/\j<=1000000/\i.natAbs<2^64
def Lv(i j:Int):Prop:=(-(2^64)<i/\i<2^64)\/(-(2^64)<j/\j<2^64)
theorem Lv.ok{i j:Int}(h:Lv i j):IntMulOk i j:=by
 rcases h with⟨h1,h2⟩|⟨h1,h2⟩;exact .of_left (intBits_le_64 h1 h2);exact .of_right (intBits_le_64 h1 h2)
theorem op_add:OpR X (Me .Add) (rI0 λi j=>.int (i+j)):=DY λ_ _ _ _ _ _ _ q=>add_int q
theorem Bj:OpR X (Me .Sub) (rI0 λi j=>.int (i-j)):=DY λ_ _ _ _ _ _ _ q=>sub_int q
theorem op_mul:OpR X (Me .Mult) (rI Lv λi j=>.int (i*j)):=opI λ_ _ _ _ _ _ _ hc q=>mul_int q hc.ok
theorem Bc:OpR X (Me .Mod) (rI (λ_ j=>0<j) λi j=>.int (i % j)):=opI λi j _ _ _ _ _ hc q=>by
 have h1:(0:Int)<j:=hc;exact mod_int' (by omega) (by rw[Int.fmod_eq_emod_of_nonneg i (by omega)];exact q)
theorem Bh:OpR X (Me .Pow) (rI An λi j=>.int (i^j.toNat)):=opI λ_ _ _ _ _ _ _ hc q=>pow_int_small hc.1 hc.2.1 hc.2.2 q
theorem unI{f:LB->Sem LB}{g:Int->Int}
  (rule:∀(i:Int) (t:Tok) (s:LD) (Q:LB->LD->Prop) (E:LB->LD->Prop),Q (.int (g i) s.toks) {s with toks:=s.toks+1}->LH (LL X.prog X.w) X.A (f (.int i t)) Q E s) :
  UnR X f (rU λi=>.int (g i)):=by
 intro Uq s Z H x v Q I rx h;obtain⟨i,rfl,q⟩:=h;obtain⟨t,rfl⟩:=rx;exact rule i t s _ _ ⟨.int (g i),H,I.tok _,⟨_,rfl⟩,q⟩
theorem p9:UnR X (unaryOp .USub) (rU λi=>.int (-i)):=unI λ_ _ _ _ _ q=>neg_int q
end
noncomputable def wq:V->V->Bool
 | .non,.non=>true|.non,.int _=>true|.int _,.non=>true|.non,.bl _=>true|.bl _,.non=>true|.non,.str _=>true|.str _,.non=>true
 | .int _,.int _=>true|.bl _,.bl _=>true|.str _,.str _=>true|.byt _,.byt _=>true
 | .int _,.str _=>true|.str _,.int _=>true|.bl _,.str _=>true|.str _,.bl _=>true
 | _,_=>false
def rEq:R2:=λx y H Q=>wq x y=true/\Q (.bl (decide (x=y))) H
def rNe:R2:=λx y H Q=>wq x y=true/\Q (.bl (!decide (x=y))) H
theorem qu{i j:Int}:decide (V.int i=V.int j)=(i==j):=by
 rw[HF];simp
theorem tU{i j:Bool}:decide (V.bl i=V.bl j)=(i==j):=by
 rw[HF];simp
theorem qv{i j:Str}:decide (V.str i=V.str j)=(i==j):=by
 rw[HF];simp
theorem qr{i j:Array UInt8}:decide (V.byt i=V.byt j)=(i.toList==j.toList):=by
 rw[HF];cases i;cases j;simp
section
variable {X:Cx}{a b c:Expr}{ta tb tc:TE}{pos:Pos}
theorem aR{Uq:List (Addr×Obj)}{Z:St}{H:Hp}{s:LD}{Q:VK}{k k':Bool}(I:Inv X Uq Z H s)(q:Q (.bl k) H)(e:k=k'):EP X Uq Z Q (.bool k') s:=by
 subst e;exact⟨.bl k,H,I,rfl,q⟩
theorem op_eq:OpR X (LZ .Eq) rEq:=by
 intro Uq s Z H x y v u Q I rx ry h;obtain⟨hs,q⟩:=h;cases x with
 | non=>
  cases rx;cases y with
  | non=>cases ry;exact PySem.EqNone.eq_none_none (aR I q (by simp))
  | bl j=>cases ry;exact PySem.EqNone.eq_none_bool (aR I q (by simp))
  | int j=>obtain⟨t',rfl⟩:=ry;exact PySem.EqNone.eq_none_int (aR I q (by simp))
  | str j=>obtain⟨t',rfl⟩:=ry;exact PySem.EqNone.eq_none_str (aR I q (by simp))
  | _=>exact absurd (show false=true from hs) GG
 | bl i=>
  cases rx;cases y with
  | non=>cases ry;exact PySem.EqNone.eq_bool_none (aR I q (by simp))
  | bl j=>cases ry;exact eq_bool (aR I q tU)
  | str j=>obtain⟨t',rfl⟩:=ry;exact PySem.EqMixed.eq_bool_str (aR I q (by simp))
  | _=>exact absurd (show false=true from hs) GG
 | int i=>
  obtain⟨t,rfl⟩:=rx;cases y with
  | non=>cases ry;exact PySem.EqNone.eq_int_none (aR I q (by simp))
  | int j=>obtain⟨t',rfl⟩:=ry;exact eq_int (aR I q qu)
  | str j=>obtain⟨t',rfl⟩:=ry;exact PySem.EqMixed.eq_int_str (aR I q (by simp))
  | _=>exact absurd (show false=true from hs) GG
 | str i=>
  obtain⟨t,rfl⟩:=rx;cases y with
  | non=>cases ry;exact PySem.EqNone.eq_str_none (aR I q (by simp))
  | bl j=>cases ry;exact PySem.EqMixed.eq_str_bool (aR I q (by simp))
  | int j=>obtain⟨t',rfl⟩:=ry;exact PySem.EqMixed.eq_str_int (aR I q (by simp))
  | str j=>obtain⟨t',rfl⟩:=ry;exact eq_str (aR I q qv)
  | _=>exact absurd (show false=true from hs) GG
 | byt i=>
  obtain⟨t,rfl⟩:=rx;cases y with
  | byt j=>obtain⟨t',rfl⟩:=ry;exact PySem.W.eq_bytes (aR I q qr)
  | _=>exact absurd (show false=true from hs) GG
 | _=>cases y<;>exact absurd (show false=true from hs) GG
theorem op_ne:OpR X (LZ .NotEq) rNe:=by
 intro Uq s Z H x y v u Q I rx ry h;obtain⟨hs,q⟩:=h;cases x with
 | non=>
  cases rx;cases y with
  | non=>cases ry;exact PySem.EqNone.ne_none_none (aR I q (by simp))
  | bl j=>cases ry;exact PySem.EqNone.ne_none_bool (aR I q (by simp))
  | int j=>obtain⟨t',rfl⟩:=ry;exact PySem.EqNone.ne_none_int (aR I q (by simp))
  | str j=>obtain⟨t',rfl⟩:=ry;exact PySem.EqNone.ne_none_str (aR I q (by simp))
  | _=>exact absurd (show false=true from hs) GG
 | bl i=>
  cases rx;cases y with
  | non=>cases ry;exact PySem.EqNone.ne_bool_none (aR I q (by simp))
  | bl j=>cases ry;exact ne_bool (aR I q (congrArg not tU))
  | str j=>obtain⟨t',rfl⟩:=ry;exact PySem.EqMixed.ne_bool_str (aR I q (by simp))
  | _=>exact absurd (show false=true from hs) GG
 | int i=>
  obtain⟨t,rfl⟩:=rx;cases y with
  | non=>cases ry;exact PySem.EqNone.ne_int_none (aR I q (by simp))
  | int j=>obtain⟨t',rfl⟩:=ry;exact ne_int (aR I q (congrArg not qu))
  | str j=>obtain⟨t',rfl⟩:=ry;exact PySem.EqMixed.ne_int_str (aR I q (by simp))
  | _=>exact absurd (show false=true from hs) GG
 | str i=>
  obtain⟨t,rfl⟩:=rx;cases y with
  | non=>cases ry;exact PySem.EqNone.ne_str_none (aR I q (by simp))
  | bl j=>cases ry;exact PySem.EqMixed.ne_str_bool (aR I q (by simp))
  | int j=>obtain⟨t',rfl⟩:=ry;exact PySem.EqMixed.ne_str_int (aR I q (by simp))
  | str j=>obtain⟨t',rfl⟩:=ry;exact ne_str (aR I q (congrArg not qv))
  | _=>exact absurd (show false=true from hs) GG
 | byt i=>
  obtain⟨t,rfl⟩:=rx;cases y with
  | byt j=>obtain⟨t',rfl⟩:=ry;exact PySem.W.ne_bytes (aR I q (congrArg not qr))
  | _=>exact absurd (show false=true from hs) GG
 | _=>cases y<;>exact absurd (show false=true from hs) GG
theorem D3:OpR X (LZ .Lt) (rI0 λi j=>.bl (decide (i<j))):=A5 λ_ _ _ _ _ _ _ q=>lt_int q
theorem D0:OpR X (LZ .Gt) (rI0 λi j=>.bl (decide (j<i))):=A5 λ_ _ _ _ _ _ _ q=>gt_int q
theorem DZ:OpR X (LZ .GtE) (rI0 λi j=>.bl (decide (j<=i))):=A5 λ_ _ _ _ _ _ _ q=>ge_int q
theorem op_in_str:OpR X (LZ .In) (λx y H Q=>∃i j,x=.str i/\y=.str j/\Q (.bl (!(Mv j i 0 j.length 1).isEmpty)) H):=by
 intro Uq s Z H x y v u Q I rx ry h;obtain⟨i,j,rfl,rfl,q⟩:=h;obtain⟨t,rfl⟩:=rx;obtain⟨t',rfl⟩:=ry;exact in_str (aR I q rfl)
theorem OpR.or{f:LB->LB->Sem LB}{r r':R2}(h:OpR X f r)(h':OpR X f r'):OpR X f (λx y H Q=>r x y H Q\/r' x y H Q):=by
 intro Uq s Z H x y v u Q I rx ry q;rcases q with q|q;exact h Uq s Z H x y v u Q I rx ry q;exact h' Uq s Z H x y v u Q I rx ry q
theorem xV{op:Qq}{r:R2}(ho:OpR X (LZ op) r)(ha:PE X a ta)(hb:PE X b tb)(hm:Nn op b=false):PE X (.Compare a [op] [b] pos) (tOp r ta tb):=by
 intro Uq s Z H Q I h;exact wpAny_Compare1 (At ha hb I h λv u s2 x y H2 I2 rx ry q=>ho Uq s2 Z H2 x y v u Q I2 rx ry q) hm
def Ak(t:TE):TT:=λZ H Q=>t Z H λx H'=>∃k,x=.bl k/\Q k H'
theorem yq{op:Qq}{r:R2}(ho:OpR X (LZ op) r)(ha:PE X a ta)(hb:PE X b tb)(hm:Nn op b=false):PT X (.Compare a [op] [b] pos) (Ak (tOp r ta tb)):=by
 intro Uq s Z H Q I h;refine Ox (thn (ha Uq s Z H _ I h) λv s1 ⟨x,H1,I1,r1,q1⟩=>thn (hb Uq s1 Z H1 _ I1 q1) λu s2 ⟨y,H2,I2,r2,q2⟩=>
  thn (ho Uq s2 Z H2 x y v u _ I2 r1 r2 q2) λc s3 ⟨z,H3,I3,r3,k,e,q3⟩=>?_) hm
 subst e;cases r3;exact Mt ⟨H3,I3,q3⟩
def xf(K:yF)(x:V)(H:Hp)(k:Bool):Prop:=
 match x with
 | .non=>k=false
 | .bl b=>k=b
 | .int i=>k=(i != 0)
 | .str y=>y.length<=sizeLine/\k=((y.length:Int) != 0)
 | .byt y=>y.size<=sizeLine/\k=((y.size:Int) != 0)
 | .ref p=>(∃xs,SqL K H p xs/\k = !xs.isEmpty)\/(∃xs,SqT K H p xs/\k = !xs.isEmpty) \/ ∃kvs,H p=some (.dK kvs)/\k = !kvs.isEmpty
 | _=>False
theorem pk{κ : Type}{kvs:List (κ×V)}{vs:List (κ×LB)}(r:KV kvs vs):(!vs.isEmpty) = !kvs.isEmpty:=by
 cases r<;>rfl
theorem j4{xs:List V}{its:List LB}(r:Vals xs its):(!its.toArray.isEmpty) = !xs.isEmpty:=by
 cases r<;>simp
theorem ie:(sizeLine:Nat)<2^63:=by rw[LG];decide
theorem C1:FN X (λx H Q=>∃k,xf X.K x H k/\Q k H):=by
 intro Uq s Z H x v Q I rx h;obtain⟨k,e,q⟩:=h;have hl:=ie;have hs:sizeLine=16777216:=LG;cases x with
 | non=>
  cases rx;have e':k=false:=e;subst e';exact truthy_none ⟨H,I,q⟩
 | bl b=>
  cases rx;have e':k=b:=e;subst e';exact Mt ⟨H,I,q⟩
 | int i=>
  obtain⟨t,rfl⟩:=rx;have e':k=(i != 0):=e;subst e';exact PySem.P.truthy_int ⟨H,I,q⟩
 | str y=>
  obtain⟨t,rfl⟩:=rx;obtain⟨hy,e'⟩:y.length<=sizeLine/\k=((y.length:Int) != 0):=e;subst e';exact PySem.P.truthy_str (by omega) ⟨H,I.tok _,q⟩
 | byt y=>
  obtain⟨t,rfl⟩:=rx;obtain⟨hy,e'⟩:y.size<=sizeLine/\k=((y.size:Int) != 0):=e;subst e';exact PySem.W.truthy_bytes (by omega) ⟨H,I.tok _,q⟩
 | ref p=>
  cases rx;have e':(∃xs,SqL X.K H p xs/\k = !xs.isEmpty)\/(∃xs,SqT X.K H p xs/\k = !xs.isEmpty) \/ ∃kvs,H p=some (.dK kvs)/\k = !kvs.isEmpty:=e;rcases e' with⟨xs,hx,e'⟩|⟨xs,hx,e'⟩|⟨kvs,hx,e'⟩
  ·subst e';obtain⟨its,r,pl,hz⟩:=I.list hx;have hlen:=r.length;exact wpAny_truthy_list pl.isList (by simp only[Gw];omega) ⟨H,I.tok _,by rw[j4 r];exact q⟩
  ·subst e';obtain⟨its,r,pl,hz⟩:=I.tuple hx;have hlen:=r.length;exact truthy_tuple pl (by simp only[Gw];omega) ⟨H,I.tok _,by rw[j4 r];exact q⟩
  ·subst e';obtain⟨hz,hS,vs,r,m⟩:kvs.length<=sizeLine/\(p==NI)=false/\∃vs,KV kvs vs/\s.heap.DictOf (bD X.prog X.w) p vs:=I.hok p _ hx;have hlen:kvs.length=vs.length:=Paired.length r;exact wpAny_truthy_dict hS m (by omega) ⟨H,I.tok _,by rw[pk r];exact q⟩
 | _=>exact(show False from e).elim
theorem vv(ha:PE X a ta)(he:∀whole,O7 a X.env whole=(do let v <-whole;NE a.pos;Mo [v] (P8 v))) :
  PT X a (λZ H Q=>ta Z H λx H'=>∃k,xf X.K x H' k/\Q k H'):=by
 intro Uq s Z H Q I h;exact isTrue_plain (thn (ha Uq s Z H _ I h) λv s1 ⟨x,H1,I1,r1,q1⟩=>C1 Uq s1 Z H1 x v Q I1 r1 q1) (he _)
theorem op_add_str:OpR X (Me .Add) (λx y H Q=>∃i j,x=.str i/\y=.str j/\i.length+j.length<=sizeLine/\Q (.str (i++j)) H):=by
 intro Uq s Z H x y v u Q I rx ry h;obtain⟨i,j,rfl,rfl,hz,q⟩:=h;obtain⟨t,rfl⟩:=rx;obtain⟨t',rfl⟩:=ry;exact add_str (λt' tk=>⟨.str (i++j),H,I.tok _,⟨_,rfl⟩,q⟩) hz
theorem gv{x:V}{us:List LB}(r:Vals [x] us):∃u,us=[u]/\RelV x u:=by
 cases r with
 | cons r1 r2=>cases r2;exact⟨_,rfl,r1⟩
theorem l6{x y:V}{us:List LB}(r:Vals [x,y] us):∃u w',us=[u,w']/\RelV x u/\RelV y w':=by
 cases r with
 | cons r1 r2=>
  cases r2 with
  | cons r3 r4=>cases r4;exact⟨_,_,rfl,r1,r3⟩
theorem rJ(hc:X.calm=true):K4 X (.builtin "max") (λxs H Q=>∃i j,xs=[.int i,.int j]/\Q (.int (if j>i then j else i)) H):=by
 intro Uq s Z H xs us Q I r h;obtain⟨i,j,rfl,q⟩:=h;obtain⟨u,w',rfl,⟨t,rfl⟩,⟨t',rfl⟩⟩:=l6 r;refine max_two_ints (I.ok.hd hc) λh' tk k=>⟨_,H,I.kept k,?_,q⟩;by_cases hj:j>i;rw[if_pos hj,if_pos hj];exact⟨_,rfl⟩;rw[if_neg hj,if_neg hj];exact⟨_,rfl⟩
theorem rK(hc:X.calm=true):K4 X (.builtin "min") (λxs H Q=>∃i j,xs=[.int i,.int j]/\Q (.int (if j<i then j else i)) H):=by
 intro Uq s Z H xs us Q I r h;obtain⟨i,j,rfl,q⟩:=h;obtain⟨u,w',rfl,⟨t,rfl⟩,⟨t',rfl⟩⟩:=l6 r;refine min_two_ints (I.ok.hd hc) λh' tk k=>⟨_,H,I.kept k,?_,q⟩;by_cases hj:j<i;rw[if_pos hj,if_pos hj];exact⟨_,rfl⟩;rw[if_neg hj,if_neg hj];exact⟨_,rfl⟩
theorem rG:K4 X (.type "int") (λxs H Q=>(∃i,xs=[.int i]/\Q (.int i) H) \/ ∃k,xs=[.bl k]/\Q (.int (if k then 1 else 0)) H):=by
 intro Uq s Z H xs us Q I r h;rcases h with⟨i,rfl,q⟩|⟨k,rfl,q⟩
 ·obtain⟨u,rfl,t,rfl⟩:=gv r;exact call_int_int ⟨.int i,H,I,⟨_,rfl⟩,q⟩
 ·obtain⟨u,rfl,r1⟩:=gv r;cases r1;exact call_int_bool ⟨.int (if k then 1 else 0),H,I.tok _,⟨_,rfl⟩,q⟩
end
structure ObjM(h:Heap)(x dx C:Addr)(mA:Str->Option LB):Prop where
 obj:h.get? x=some (Km C dx)
 ns:h.Ns1 dx mA
 ne:dx≠x
theorem RelO.some_of{v:V}{o:Option LB}(r:RelO (some v) o):∃u,o=some u/\RelV v u:=by
 cases o with
 | none=>exact(show False from r).elim
 | some u=>exact⟨u,rfl,r⟩
structure Cls(K:yF)(C:Addr):Prop where
 pg:PySem.W.plainGet K C Str.empty=true
 hd:PySem.W.hasDictIn K C=true
 po:PySem.W.plainOver K C=true
 sa:I0 K (.ref C) "__setattr__" = some (some (.builtin "object.__setattr__"))
structure Con(K:yF)(C:Addr)(f:Str)(v:V)(u:LB):Prop where
 at_:I0 K (.ref C) f=some (some u)
 rel:RelV v u
 get:JY K u "__get__" = some none
 cp:PySem.W.copiedNames.contains f=false
structure Meth(K:yF)(C:Addr)(m:Str)(f:Addr):Prop where
 at_:I0 K (.ref C) m=some (some (.ref f))
 fn:PySem.W.isFn K (.ref f)=true
 kp:HX K (.ref f)=true
section
variable {X:Cx}{Uq:List (Addr×Obj)}{Z:St}{H:Hp}{s:LD}{A:LQ}{E:LB->LD->Prop}{Q:LB->LD->Prop}{c:LB}{b:Bool}
inductive Lj(K:yF) (H:Hp):V->LB->Prop where
 | non:Lj K H .non (.type "NoneType")
 | bl (x:Bool):Lj K H (.bl x) (.type "bool")
 | int (i:Int):Lj K H (.int i) (.type "int")
 | str (x:Str):Lj K H (.str x) (.type "str")
 | flt (x:UInt64):Lj K H (.flt x) (.type "float")
 | lst {a:Addr} {xs:List V} (e:H a=some (.lst xs)):Lj K H (.ref a) (.type "list")
 | frz {a:Addr} {o:Obj} {xs:List V} (e:H a=some (.frz o (.lst xs))):Lj K H (.ref a) (.type "list")
 | tup {a:Addr} {xs:List V} (e:H a=some (.tup xs)):Lj K H (.ref a) (.type "tuple")
 | dK {a:Addr} {kvs:List (Key×V)} (e:H a=some (.dK kvs)):Lj K H (.ref a) (.type "dict")
 | dT {a:Addr} {kvs:List (List Key×V)} (e:H a=some (.dT kvs)):Lj K H (.ref a) (.type "dict")
 | ins {a C dx:Addr} {fs:List (Str×V)} (e:H a=some (.ins C dx fs)) (cl:Cls K C) (ha:I0 K (.ref C) "__class__" = some (some (.builtin "object.__class__")))
   (hn:JY K (.builtin "object.__class__") "__get__" = some (some (.builtin "getset_descriptor.__get__"))) (htk:PySem.W.takesIn K (.builtin "object.__class__")=some true)
   (hm:PySem.W.mroIn K C (.type "object")=some true):Lj K H (.ref a) (.ref C)
end
structure K8(k:Nat)(A:LQ):Prop where
 hd:A.handled=none
 gd:A.guards=some []
 dp:A.depth+3*k+5<Qa
 un:A.units+16*k+200<Mm
theorem K8.mono{j k:Nat}{A:LQ}(r:K8 k A)(h:j<=k):K8 j A:=⟨r.hd,r.gd,by have:=r.dp;omega,by have:=r.un;omega⟩
theorem K8.deeper{k:Nat}{A:LQ}(r:K8 (k+1) A)(env:Env):K8 k (A.deeper env):=
 ⟨r.hd,r.gd,by have:=r.dp;show A.depth+1+3*k+5<_;omega,by have:=r.un;show A.units+3+16*k+200<_;omega⟩
theorem K8.depth{k:Nat}{A:LQ}(r:K8 k A):A.depth<Qa:=by have:=r.dp;omega
theorem K8.units{k:Nat}{A:LQ}(r:K8 k A):A.units+64<Mm:=by have:=r.un;omega
def Fn:TA:=λ_ H Q=>Q [] H
def q5(ta:TE)(tr:TA):TA:=λZ H Q=>ta Z H λx H1=>tr Z H1 λxs H2=>Q (x::xs) H2
section
variable {X:Cx}{e:Expr}{es:List Expr}{te:TE}{t:TA}{pos:Pos}
theorem mX:PA X [] Fn:=λ_ _ _ _ H Q I h=>Calls.spliced_nil ⟨[],H,I,.nil,h⟩
theorem xT(ha:PE X e te)(hr:PA X es t)(hs:LV (e::es) X.env=(false,eval e X.env)::LV es X.env:=by rfl):PA X (e::es) (q5 te t):=by
 intro pos Uq s Z H Q I h;rw[hs];show LH _ _ (spliced ((false,eval e X.env)::M9 pos (LV es X.env))) _ _ s;refine Calls.spliced_cons (thn (ha Uq s Z H _ I h) λu s1 ⟨x,H1,I1,r1,q1⟩=>?_);exact thn (hr pos Uq s1 Z H1 _ I1 q1) λus s2 ⟨xs,H2,I2,r2,q2⟩=>⟨x::xs,H2,I2,.cons r1 r2,q2⟩
def Fu(t:TA):TE:=λZ H Q=>t Z H λxs H1=>xs.length<=sizeLine/\∀p,H1 p=none->Q (.ref p) (upd H1 p (.tup xs))
def Fm(t:TA):TE:=λZ H Q=>t Z H λxs H1=>xs.length<=sizeLine/\∀p,H1 p=none->Q (.ref p) (upd H1 p (.lst xs))
theorem uO{x1}(h:PA X es t):PE X (.Tuple es x1 pos) (Fu t):=by
 intro Uq s Z H Q I hq;refine wpAny_Tuple_spliced (thn (h pos Uq s Z H _ I hq) λus s1 ⟨xs,H1,I1,r,z,q⟩=>⟨by rw[<-r.length];exact z,?_⟩);have hf:H1 s1.heap.objs.size=none:=I1.hok.fresh (GC _);refine⟨.ref s1.heap.objs.size,upd H1 s1.heap.objs.size (.tup xs),I1.laid (t':=s1.toks) (λb u e=>LC _ e) (GC _) ?_,rfl,q _ hf⟩;exact⟨z,us,r,⟨_,LK _ rfl,⟨rfl,rfl⟩,_,rfl⟩⟩
theorem BM(h:PA X es t):PE X (.List es pos) (Fm t):=by
 intro Uq s Z H Q I hq;refine wpAny_List_spliced (thn (h pos Uq s Z H _ I hq) λus s1 ⟨xs,H1,I1,r,z,q⟩=>⟨by rw[<-r.length];exact z,?_⟩);have hf:H1 s1.heap.objs.size=none:=I1.hok.fresh (GC _);refine⟨.ref s1.heap.objs.size,upd H1 s1.heap.objs.size (.lst xs),I1.laid (t':=s1.toks) (λb u e=>LC _ e) (GC _) ?_,rfl,q _ hf⟩;exact⟨z,us,0,r,LK _ rfl⟩
end
abbrev Sp:=List V->Hp->VK->XK->Prop
abbrev CXT:=List Env->Hp->LD->XK->LB->LD->Prop
structure Ly(P:LM)(w:LU)(K:yF)(mg:Str->Option LB)(base:Heap)(A:LQ)(outer:List Env)(s:LD)(H:Hp):Prop where
 frames:A.frames=some outer
 mod:Mod K mg base
 bs:∀b o,base.get? b=some o->s.heap.get? b=some o/\H b=none
 bsz:base.objs.size<=s.heap.objs.size
 funs:s.heap.FunFrames base outer
 frf:∀b∈frs outer,H b=none
 hok:HOk P w H s.heap
 bare:NV s.gens
def CE(outer:List Env)(P:LM)(w:LU)(H:Hp)(s:LD)(Q:VK)(u:LB)(s':LD):Prop:=
 ∃v H',s'.os=s.os/\NV s'.gens/\Un (frs outer) [] H H' s.heap s'.heap/\HOk P w H' s'.heap/\RelV v u/\Q v H'
def CR(CX:CXT)(outer:List Env)(P:LM)(w:LU)(H:Hp)(s:LD)(Q:VK)(E:XK)(r:QM)(s':LD):Prop:=
 match r with
 | .ok (.ret u)=>CE outer P w H s Q u s'
 | .ok _=>False
 | .error e=>CX outer H s E e s'
structure Ls(P:LM)(w:LU)(K:yF)(mg:Str->Option LB)(base:Heap)(CX:CXT)(k:Nat)(f:Addr)(fd:MP)(ps:List Str)(sp:Sp):Prop where
 len:∀vs H Q E,sp vs H Q E->vs.length=ps.length
 run:∀(A:LQ) (outer:List Env) (s:LD) (H:Hp) (args:Args) (us:List LB) (vs:List V) (Q:VK) (E:XK),K8 k A->Ly P w K mg base A outer s H->OQ s fd args (ps.zip us)->Vals vs us->sp vs H Q E ->
  Np (LL P w) A (.call (.ref f) args) (CR CX outer P w H s Q E) s
section
variable {X:Cx}{Uq:List (Addr×Obj)}{Z:St}{H:Hp}{s s':LD}
theorem Inv.env0(I:Inv X Uq Z H s):Ly X.prog X.w X.K X.mg X.base X.A X.stack s H:=
 ⟨I.ok.frames,I.ok.mod,I.bs,Hj I.ok.bsz I.sz,I.stack,I.stkFree,I.hok,I.bare⟩
theorem Inv.after{Q:VK}{u:LB}(I:Inv X Uq Z H s)(h:CE X.stack X.prog X.w H s Q u s'):EP X Uq Z Q u s':=by
 obtain⟨v,H',os,bare,un,hok,r,q⟩:=h;obtain⟨hh,g,d,t,os'⟩:=s';obtain rfl:os'=s.os:=os;exact⟨v,H',I.call (h':=hh) (g':=g) (d':=d) (t':=t) (ch:=[]) un hok bare (λb z=>absurd z (by simp)),r,q⟩
end
def l0(sp:Sp)(dvs:List V)(E:XK)(t:TA):TE:=λZ H Q=>t Z H λvs H1=>sp (vs++dvs) H1 Q E
def Ln(K:yF)(fd:MP)(ps:List Str)(ds:List LB):Prop:=
 ∀(s:LD) (us:List LB),K.In s.heap->(us++ds).length=ps.length->OQ s fd ⟨us,[]⟩ (ps.zip (us++ds))
theorem Ln.all{K:yF}{fd:MP}{ps:List Str}(h:∀us:List LB,us.length=ps.length->Qb fd ⟨us,[]⟩=pure (ps.zip us)):Ln K fd ps []:=λs us _ hl=>by
 rw[GZ]at hl|-;exact .of_eq (h us hl)
def o0(CX:CXT)(X:Cx)(E:XK):Prop:=∀(Uq:List (Addr×Obj)) (Z:St) (H:Hp) (s:LD) (e:LB) (s':LD),Inv X Uq Z H s->CX X.stack H s E e s'->X.xe e s'
section
variable {X:Cx}{CX:CXT}{k:Nat}{f C:Addr}{fd:MP}{ps:List Str}{sp:Sp}{dvs:List V}{ds:List LB}{E:XK}{x m:Str}{p pos apos:Pos}{e o:Expr}{es:List Expr}{ta:TE}{t:TA}
theorem CU{Uq:List (Addr×Obj)}{Z:St}{H:Hp}{s:LD}{Q:VK}{us:List LB}{vs:List V}(F:Ls X.prog X.w X.K X.mg X.base CX k f fd ps sp)(hr:K8 k X.A)(hb:Ln X.K fd ps ds)(hd:Vals dvs ds)(hx:o0 CX X E)
  (I:Inv X Uq Z H s) (r:Vals vs us) (h:sp (vs++dvs) H Q E):LH (LL X.prog X.w) X.A (call (.ref f) us) (EP X Uq Z Q) X.xe s:=by
 have r2:Vals (vs++dvs) (us++ds):=r.append hd;have hl:(us++ds).length=ps.length:=by rw[<-r2.length];exact F.len _ _ _ _ h
 refine wpAny_call (Pj (F.run X.A X.stack s H ⟨us,[]⟩ (us++ds) (vs++dvs) Q E hr I.env0 (hb s us I.kIn hl) r2 h) λr s' hq=>?_);cases r with
 | error e=>exact hx Uq Z H s e s' I hq
 | ok fl=>
  cases fl with
  | ret u=>exact I.after hq
  | next=>exact MN hq
  | brk=>exact MN hq
  | cont=>exact MN hq
theorem xU(F:Ls X.prog X.w X.K X.mg X.base CX k f fd ps sp)(hr:K8 k X.A)(hg:Gl X x)(hm:X.mg x=some (.ref f))(hk:HX X.K (.ref f)=true)(hb:Ln X.K fd ps ds)(hd:Vals dvs ds)(hx:o0 CX X E)
  (ha:PA X (e::es) t) (hdb:(x==("__debug__" : Str))=false:=by decide) (he:LV (e::es) X.env=(false,eval e X.env)::LV es X.env:=by rfl) (hpl:(M9 pos (LV es X.env)).any (·.1)=false:=by rfl) :
  PE X (.Call (.Name x p) (e::es) [] pos) (l0 sp dvs E t):=by
 intro Uq s Z H Q I h;refine NL (xB I hg hm ?_ hdb);refine PySem.W.callWith_K (h₀:=X.base) I.ok.mod.kin hk (thn (ha pos Uq s Z H _ I h) λus s1 ⟨vs,H1,I1,r,q⟩=>⟨I1.kIn,?_⟩) he hpl;exact CU F hr hb hd hx I1 r q
end
section
variable {X:Cx}{CX:CXT}{k:Nat}{f C:Addr}{fd:MP}{ps ks:List Str}{sp:Sp}{E:XK}{x m:Str}{p pos apos kpos:Pos}{e o:Expr}{es:List Expr}{kws:List P6}{te ta:TE}{t tk:TA}{nm:Option Str}
structure KBinds(K:yF)(fd:MP)(ps ks:List Str)(g:List LB->List LB->List LB)(gV:List V->List V->List V):Prop where
 to:∀(s:LD) (us ws:List LB),K.In s.heap->(g us ws).length=ps.length->OQ s fd ⟨us,ks.zip ws⟩ (ps.zip (g us ws))
 rel:∀{vs:List V} {us:List LB} {zs:List V} {ws:List LB},Vals vs us->Vals zs ws->Vals (gV vs zs) (g us ws)
variable {g:List LB->List LB->List LB}{gV:List V->List V->List V}
end
structure KT(N P:List Str)(sc:MW):Prop where
 kind:sc.kind=.function
 co:sc.isCoroutine=false
 gen:sc.isGenerator=false
 nd:N.Nodup
 pre:N.take P.length=P
 par:∀x∈P,sc.names.lookup x=some .local\/sc.names.lookup x=some .cell
 nofree:∀y∈sc.names,y.2 ≠ .free
theorem lm{kindOf:Str->Option LN}{x:Str}:∀{binds:List (Str×LB)} {m:Str->Option LB},(∀v,(x,v)∉binds)->Qc kindOf binds m x=m x
 | [],_,_=>rfl
 | (n,v)::r,m,h=>by
  unfold Qc;rw[lm λw hw=>h w (ymC _ hw)];split
  ·have:x≠n:=by rintro rfl;exact h v ymS
   simp[this]
  ·rfl
theorem lj{kindOf:Str->Option LN}{x:Str}:∀{binds:List (Str×LB)} {m:Str->Option LB},(∀v,(x,v)∉binds)->Qd kindOf binds m x=m x
 | [],_,_=>rfl
 | (n,v)::r,m,h=>by
  unfold Qd;rw[lj λw hw=>h w (ymC _ hw)];split;rfl
  ·have:x≠n:=by rintro rfl;exact h v ymS
   simp[this]
theorem ll{kindOf:Str->Option LN}{x:Str}{v:LB}:∀{P:List Str} {vs:List LB} {i:Nat} {m:Str->Option LB},P.Nodup->P[i]?=some x->vs[i]?=some v->kindOf x=some .local ->
  Qc kindOf (P.zip vs) m x=some v
 | [],_,_,_,_,h,_,_=>by simp at h
 | _::_,[],_,_,_,_,h,_=>by simp at h
 | p::P,w::vs,0,m,nd,h1,h2,hk=>by
  simp at h1 h2;subst h1;subst h2;show Qc kindOf ((p,w)::P.zip vs) m p=_;unfold Qc;rw[lm λv hv=>(G3.mp nd).1 (IT hv).1,if_pos hk];simp
 | p::P,w::vs,i+1,m,nd,h1,h2,hk=>by
  show Qc kindOf ((p,w)::P.zip vs) m x=_;unfold Qc;exact ll (i:=i) (G3.mp nd).2 (by simpa using h1) (by simpa using h2) hk
theorem lh{kindOf:Str->Option LN}{x:Str}{v:LB}:∀{P:List Str} {vs:List LB} {i:Nat} {m:Str->Option LB},P.Nodup->P[i]?=some x->vs[i]?=some v->kindOf x≠some .local ->
  Qd kindOf (P.zip vs) m x=some v
 | [],_,_,_,_,h,_,_=>by simp at h
 | _::_,[],_,_,_,_,h,_=>by simp at h
 | p::P,w::vs,0,m,nd,h1,h2,hk=>by
  simp at h1 h2;subst h1;subst h2;show Qd kindOf ((p,w)::P.zip vs) m p=_;unfold Qd;rw[lj λv hv=>(G3.mp nd).1 (IT hv).1,if_neg hk];simp
 | p::P,w::vs,i+1,m,nd,h1,h2,hk=>by
  show Qd kindOf ((p,w)::P.zip vs) m x=_;unfold Qd;exact lh (i:=i) (G3.mp nd).2 (by simpa using h1) (by simpa using h2) hk
noncomputable def bG(N:List Str) (vs:List V):St:=vs.map some++Gx (N.length-vs.length) none
noncomputable def kU(CX:CXT) (P:LM) (w:LU) (K:yF) (mg:Str->Option LB) (base:Heap) (N:List Str) (qual:Str) (scope:MW) (f:Addr) (cd:LB) (A:LQ) (outer:List Env) (s:LD) (H:Hp) (E:XK):Cx where
 prog:=P
 w:=w
 K:=K
 mg:=mg
 base:=base
 A:=A.deeper (Nz qual scope s.heap.objs.size f cd)
 N:=N
 s₀:=s
 H₀:=H
 env:=Nz qual scope s.heap.objs.size f cd
 outer:=outer
 stack:=Nz qual scope s.heap.objs.size f cd::outer
 ex:=[]
 calm:=true
 fn:=λ_=>true
 pn:=[]
 xe:=λe s'=>LH (LL P w) (A.deeper (Nz qual scope s.heap.objs.size f cd)) (leaving (Nz qual scope s.heap.objs.size f cd) e) (λ_ s''=>CX outer H s E e s'') (λe' s''=>CX outer H s E e' s'') s'
theorem nL{sc:MW}{n:Nat}{x:Str}(h:sc.names.lookup x=some .cell):∃c,(L7 n sc.names []).lookup x=some c:=by
 have q:=IH sc.names n [] (.inl h);exact Ii.mp q
theorem rY{CX:CXT}{P:LM}{w:LU}{K:yF}{mg:Str->Option LB}{base:Heap}{N ps:List Str}{qual:Str}{scope:MW}{f:Addr}{cd:LB}{A:LQ}{outer:List Env}{s s1:LD}{H:Hp}{E:XK}{us:List LB}{vs:List V}
  (S:KT N ps scope) (hd:A.handled=none) (gd:A.guards=some []) (e0:Ly P w K mg base A outer s H) (hl:vs.length=ps.length) (r:Vals vs us)
  (x:InCallC s s.heap.objs.size (Qc (Nz qual scope s.heap.objs.size f cd).kindOf (ps.zip us) λ_=>none) (L7 (s.heap.objs.size+1) scope.names []) (Qd (Nz qual scope s.heap.objs.size f cd).kindOf (ps.zip us) λ_=>none) s1) :
  Inv (kU CX P w K mg base N qual scope f cd A outer s H E) [] (bG N vs) H s1:=by
 have hpl:ps.length<=N.length:=by have:=congrArg HG S.pre;rw[GY]at this;omega
 obtain⟨h1,tk,rfl,hk⟩:=x.done;have noA:∀b:Addr,b∉(kU CX P w K mg base N qual scope f cd A outer s H E).ex:=λb z=>absurd (show b∈([]:List Addr)from z) (by simp);refine⟨⟨e0.mod,S.kind,rfl,rfl,GC _,λy z c h1 h2=>?_,λy hy=>?_,λy c _ h=>?_,λ_=>hd,λ_=>gd,LQ.frames_deeper e0.frames,.inr ⟨rfl,rfl⟩,λb z=>absurd z (noA b),e0.bs,e0.bsz,λb _ _=>noA b,λb z=>absurd z (noA b),e0.funs,e0.frf⟩,
  rfl,e0.bare,Un.kept hk,⟨_,x.toInCall.ns,λi y v h1 h2 h3=>?_⟩,λy c h=>⟨_,x.cell y c h⟩,e0.hok.fresh (GC _),λy c h=>?_,λp hp=>absurd (show p∈([]:List (Addr×Obj))from hp) (by simp),e0.hok.kept hk,?_⟩
 ·exact name_of_addr x.apart (HS h1) (HS h2)
 ·have hy:scope.names.lookup y=some .cell\/scope.names.lookup y=some .free:=hy;rcases hy with hy|hy;exact nL hy;exact absurd rfl (S.nofree _ (HS hy))
 ·exact Jq (x.above y c (HS h))
 ·have hi:i<vs.length:=by
   unfold bG at h2;by_cases hi:i<vs.length;exact hi
   ·rw[Hm (by simpa using hi)]at h2;rw[Jj]at h2;split at h2<;>cases h2
  have ha:vs[i]?=some v:=by
   unfold bG at h2;rw[Hi (by simpa using hi),GE]at h2;cases e:vs[i]? with
   | none=>rw[e]at h2;cases h2
   | some a=>rw[e]at h2;cases h2;rfl
  obtain⟨u,hu,rv⟩:=r.get ha;have hp:ps[i]?=some y:=by
   rw[<-S.pre,Jf (by omega)];exact h1
  have ndP:ps.Nodup:=by rw[<-S.pre];exact S.nd.sublist (JZ _ _)
  refine⟨u,rv,?_⟩;rcases S.par y (ymG hp)with k|k;exact .inl ⟨k,ll ndP hp hu k⟩
  ·obtain⟨c,e⟩:=nL (n:=s.heap.objs.size+1) k;refine .inr ⟨.inl k,c,e,?_⟩;have q:=x.cell y c e;rw[lh ndP hp hu (by show scope.names.lookup y≠_;rw[k];decide)]at q;exact q
 ·exact e0.hok.fresh (Jq (x.above y c (HS h)))
 ·unfold bG;show _=N.length;rw[GD,Gv,List.length_replicate];omega
theorem DH{CX:CXT}{P:LM}{w:LU}{K:yF}{mg:Str->Option LB}{base:Heap}{k:Nat}{f:Addr}{name qual:Str}{params:Arguments}{body:List Stmt}{scope:MW}{dV kV doc pm cdv ct oc:LB}{an od:Option Addr}
  {osl:Array (Option LB)} {N ps:List Str} {sp:Sp} (lk:K.lookup f=some ⟨oc,od,.func (HK name qual params body scope dV kV doc pm an cdv ct),osl⟩) (hcd:IA K cdv qual=true) (S:KT N ps scope)
  (len:∀vs H Q E,sp vs H Q E->vs.length=ps.length)
  (hbody:∀(A:LQ) (outer:List Env) (s:LD) (H:Hp) (vs:List V) (Q:VK) (E:XK),K8 k (A.deeper (Nz qual scope s.heap.objs.size f cdv))->sp vs H Q E ->
   ∃t,PSs (kU CX P w K mg base N qual scope f cdv A outer s H E) body t/\t {nx:=λ_ H'=>Q .non H',rt:=Q} (bG N vs) H) :
  Ls P w K mg base CX (k+1) f (HK name qual params body scope dV kV doc pm an cdv ct) ps sp:=by
 refine⟨len,λA outer s H args us vs Q E hr e0 hb r hsp=>?_⟩;have hl:=len _ _ _ _ hsp;have KX:K.In s.heap:=e0.mod.kin.keeps λb o e=>(e0.bs b o e).1;have lim:s.heap.NoLimit:=e0.mod.nolimit.keeps λb o e=>(e0.bs b o e).1;have hkind:∀y∈ps.zip us,scope.names.lookup y.1=some .local\/(scope.names.lookup y.1=some .cell/\((L7 (s.heap.objs.size+1) scope.names []).lookup y.1).isSome=true):=fun⟨n,v⟩ hy=>by
  rcases S.par n (IT hy).1 with q|q;exact .inl q;exact .inr ⟨q,IH _ _ _ (.inl q)⟩
 refine codeAny_call_function hr.depth (KX _ _ lk) rfl S.co S.gen rfl (PySem.W.codeRec_of KX hcd) (hb _ _ _ _ ?_);refine wpAny_newFunctionEnv_cells S.kind hkind λenv he s1 x=>?_;subst he;refine⟨lim.keeps x.toInCall.keep,codeAny_func ?_⟩;obtain⟨t,ht,hq⟩:=hbody A outer s H vs Q E (hr.deeper _) hsp;have I:Inv (kU CX P w K mg base N qual scope f cdv A outer s H E) [] (bG N vs) H s1:=rY S hr.hd hr.gd e0 hl r x;refine Mr (ht [] s1 (bG N vs) H _ I hq) (λfl s' hs=>?_) λe s' hs=>hs;have fin:∀{Z':St} {H':Hp} {v:V} {u:LB},Inv (kU CX P w K mg base N qual scope f cdv A outer s H E) [] Z' H' s'->RelV v u->Q v H'->CE outer P w H s Q u s':=
  λ{Z' H' v u} J rv q=>⟨v,H',J.os,J.bare,J.base,J.hok,rv,q⟩
 cases fl with
 | ret u=>
  obtain⟨v,Z',H',J,rv,q⟩:=hs;exact fin J rv q
 | next=>
  obtain⟨Z',H',J,q⟩:=hs;exact fin (v:=V.non) (u:=MH) J rfl q
 | brk=>
  obtain⟨_,_,_,q⟩:=hs;exact MN q
 | cont=>
  obtain⟨_,_,_,q⟩:=hs;exact MN q
section
variable {X:Cx}{x:Str}{p pos:Pos}{e:Expr}{es:List Expr}{t:TA}{id T:String}{r:List V->Hp->VK->Prop}
def tCB(r:List V->Hp->VK->Prop)(t:TA):TE:=λZ H Q=>t Z H λvs H1=>r vs H1 Q
theorem uK(hc:K4 X (.builtin id) r)(hg:Gl X x)(hm:X.mg x=none)(hv:Mh x=some (.builtin id))(ha:PA X (e::es) t)(hn:x ≠ "__name__" :=by decide)(hdb:(x==("__debug__" : Str))=false:=by decide)
  (he:LV (e::es) X.env=(false,eval e X.env)::LV es X.env:=by rfl) (hpl:(M9 pos (LV es X.env)).any (·.1)=false:=by rfl):PE X (.Call (.Name x p) (e::es) [] pos) (tCB r t):=by
 intro Uq s Z H Q I h;refine NL (ic I hg hm hv ?_ hn hdb);exact Kg (thn (ha pos Uq s Z H _ I h) λus s1 ⟨vs,H1,I1,r1,q1⟩=>hc Uq s1 Z H1 vs us Q I1 r1 q1) he hpl
theorem sB(hc:K4 X (.type T) r)(hg:Gl X x)(hm:X.mg x=none)(hv:Mh x=some (.type T))(ha:PA X (e::es) t)(hn:x ≠ "__name__" :=by decide)(hdb:(x==("__debug__" : Str))=false:=by decide)
  (he:LV (e::es) X.env=(false,eval e X.env)::LV es X.env:=by rfl) (hpl:(M9 pos (LV es X.env)).any (·.1)=false:=by rfl):PE X (.Call (.Name x p) (e::es) [] pos) (tCB r t):=by
 intro Uq s Z H Q I h;refine NL (ic I hg hm hv ?_ hn hdb);exact HB (thn (ha pos Uq s Z H _ I h) λus s1 ⟨vs,H1,I1,r1,q1⟩=>hc Uq s1 Z H1 vs us Q I1 r1 q1) he hpl
end
end L2
namespace HT
open PySem PyProof.Rows
noncomputable def lexLt:List Int->List Int->Bool
 | [],[]=>false
 | [],_::_=>true
 | _::_,[]=>false
 | x::xs,y::ys=>if x=y then lexLt xs ys else decide (x<y)
theorem lexLt_cons(x y:Int)(xs ys:List Int):lexLt (x::xs) (y::ys)=if x=y then lexLt xs ys else decide (x<y):=rfl
theorem lexLt_nil_nil:lexLt [] []=false:=rfl
theorem lexLt_nil_cons(y:Int)(ys:List Int):lexLt [] (y::ys)=true:=rfl
theorem lexLt_cons_nil(x:Int)(xs:List Int):lexLt (x::xs) []=false:=rfl
theorem eqAt_int(A:LQ)(s:LD)(a:Int)(t:Tok)(c:Int)(u:Tok):∃e,LX A s (.int a t) (.int c u) e/\(e=true↔a=c):=
 ⟨(a==c),O8 a t c u,by simp⟩
theorem rcLt_int(A:LQ)(s:LD)(a:Int)(t:Tok)(c:Int)(u:Tok)(prog:LM)(w:LU)(E:LB->LD->Prop)(Q:LB->LD->Prop)(h:Q (.bool (decide (a<c))) s) :
  LH (LL prog w) A (richCompare .Lt (.int a t) (.int c u)) Q E s:=
 (KR h:LH (LL prog w) A (LZ .Lt (.int a t) (.int c u)) Q E s)
section
open PySem.SeqAt
open PySem.AutoSeq1 (wpAny_loadPart')
open PySem.MeetsSeq PySem.MeetsSeq2 PySem.MeetsSeq3
theorem tuple_lt_ints(l b:Addr)(items items2:Array LB)(n n2:Nat)(dd dd2:Option Addr)(sl sl2:Array (Option LB))(ns ms:List Int)(hi:MU items.toList ns)(hj:MU items2.toList ms) :
  QY (LJ.«tuple.__lt__» ⟨[.ref l,.ref b],[]⟩)
   (λ_ R s=>s.heap.get? l=some {cls:=.type "tuple",dict:=dd,data:=.seq items n,slots:=sl}/\s.heap.get? b=some {cls:=.type "tuple",dict:=dd2,data:=.seq items2 n2,slots:=sl2} /\
    R (.ok (.ret (.bool (lexLt ns ms)))) s):=
 .of_wp λprog w A R s h=>by
  obtain⟨hp,g,d,tk,os⟩:=s;obtain⟨hl,hb,h⟩:=h;have f2:=N3;have z1:items.size=ns.length:=by rw[<-hi.length];simp
  have z2:items2.size=ms.length:=by rw[<-hj.length];simp
  wp_walk using PM hl,PM hb,wpAny_forIn_list _ (λrest b s'=>b.1=none/\s'=⟨hp,g,d,tk,os⟩/\∃(vs ws:List LB) (ns' ms':List Int),rest=vs.zip ws /\
   MU vs ns'/\MU ws ms'/\ns'.length+items2.size=ms'.length+items.size/\R (.ok (.ret (.bool (lexLt ns' ms')))) ⟨hp,g,d,tk,os⟩) _
  case turn=>
   rintro⟨y,x⟩ rest b s' ⟨hb',rfl,vs,ws,ns',ms',hz,hvi,hwi,hlen,hR⟩;cases hvi with
   | nil=>rw[List.zip_nil_left]at hz;cases hz
   | cons a t hvi'=>
    cases hwi with
    | nil=>rw[List.zip_nil_right]at hz;cases hz
    | cons c u hwi'=>
     rw[JW]at hz;injection hz with hyx hrest;injection hyx with hy hx;subst hy hx;rw[lexLt_cons]at hR;simp only[GI]at hlen;obtain⟨e,he,hiff⟩:=eqAt_int A.in1 ⟨hp,g,d,tk,os⟩ a t c u;refine LA (he prog w _ _ ?_);cases e with
     | true=>
      rw[if_pos (hiff.mp rfl)]at hR;wp_walk
      exact⟨rfl,rfl,_,_,_,_,hrest,hvi',hwi',by omega,hR⟩
     | false=>
      rw[if_neg (λq=>absurd (hiff.mpr q) GG)]at hR;have hri:=rcLt_int A.in1 ⟨hp,g,d,tk,os⟩ a t c u prog w;wp_walk using hri
      exact⟨_,rfl,by simpa using hR⟩
  case fin=>
   rintro⟨b1,b2⟩ s' ⟨hb',rfl,vs,ws,ns',ms',hz,hvi,hwi,hlen,hR⟩;simp only at hb';subst hb';have hv:lexLt ns' ms'=decide (items.size<items2.size):=by
    cases hvi with
    | nil=>
     cases hwi with
     | nil=>
      simp only[IU]at hlen;rw[lexLt_nil_nil];exact(decide_eq_false (by omega)).symm
     | cons c u hw=>
      simp only[IU,GI]at hlen;rw[lexLt_nil_cons];exact(decide_eq_true (by omega)).symm
    | cons a t hv=>
     cases hwi with
     | nil=>
      simp only[IU,GI]at hlen;rw[lexLt_cons_nil];exact(decide_eq_false (by omega)).symm
     | cons c u hw=>
      rw[JW]at hz;cases hz
   rw[hv]at hR;wp_walk
   exact⟨_,rfl,by simpa[Pu]using hR⟩
  case h=>
   exact⟨rfl,rfl,items.toList,items2.toList,ns,ms,rfl,hi,hj,by omega,h⟩
end
section
variable {prog:LM}{w:LU}{A:LQ}{E:LB->LD->Prop}{s:LD}
theorem lt_tupInts{l b:Addr}{items items2:Array LB}{ns ms:List Int}{Q:LB->LD->Prop}(hl:Pg s.heap l items)(hb:Pg s.heap b items2)(hi:MU items.toList ns)(hj:MU items2.toList ms)
  (hu:A.units<Mm) (h:Q (.bool (lexLt ns ms)) s):LH (LL prog w) A (LZ .Lt (.ref l) (.ref b)) Q E s:=by
 obtain⟨⟨cls,dd,data,sl⟩,ho,hc,n,hd⟩:=id hl;obtain⟨⟨cls2,dd2,data2,sl2⟩,ho2,hc2,n2,hd2⟩:=id hb;simp only at hc hd hc2 hd2;subst hc hd hc2 hd2;exact richCompare_meets_room (op:=.Lt) ⟨_,ho,rfl⟩ ⟨_,ho2,rfl⟩ PySem.F.slot_tuple_lt PySem.F.entry_tuple_lt (PySem.F.args_tuple_lt_2 _ _) (tuple_lt_ints l b items items2 n n2 dd dd2 sl sl2 ns ms hi hj)
  ⟨ho,ho2,show MJ (lexLt ns ms)≠OC/\Q (.bool (lexLt ns ms)) s from⟨(λx=>nomatch x),h⟩⟩ hu
theorem cat_tup{t b:Addr}{vs ws:List LB}{Q:LB->LD->Prop}(ht:Pg s.heap t vs.toArray)(hb:Pg s.heap b ws.toArray)(hv:vs≠[])
  (h1:ws=[]->Q (.ref t) s) (h2:ws≠[]->Q (.ref s.heap.objs.size) {s with heap:=s.heap.push {cls:=.type "tuple",data:=.seq (vs++ws).toArray}})
  (hsz:vs.length+ws.length<=sizeLine):LH (LL prog w) A (Me .Add (.ref t) (.ref b)) Q E s:=by
 obtain⟨⟨cls,dd,data,sl⟩,ho,hc,n,hd⟩:=id ht;obtain⟨⟨cls2,dd2,data2,sl2⟩,ho2,hc2,n2,hd2⟩:=id hb;simp only at hc hd hc2 hd2;subst hc hd hc2 hd2;have e:vs.toArray++ws.toArray=(vs++ws).toArray:=by simp
 by_cases hw:ws=[]
 ·exact Pk ⟨_,ho,rfl⟩ ⟨_,ho2,rfl⟩ Od OW PySem.F.slot_tuple_add PySem.F.entry_tuple_add (PySem.F.args_tuple_add_2 _ _)
   (tuple_addW1 t b vs.toArray ws.toArray n n2 dd dd2 sl sl2 (by simpa using hv) (by simp[hw])) ⟨ho,ho2,h1 hw⟩
 ·refine Pk ⟨_,ho,rfl⟩ ⟨_,ho2,rfl⟩ Od OW PySem.F.slot_tuple_add PySem.F.entry_tuple_add (PySem.F.args_tuple_add_2 _ _)
   (tuple_addW2 t b vs.toArray ws.toArray n n2 dd dd2 sl sl2 (by simpa using hv) (by simpa using hw) (by rw[Gw,Gw];exact hsz)) ⟨ho,ho2,?_⟩
  rw[e];exact h2 hw
noncomputable def sIx(n d:Nat):Option Int->Nat
 | none=>d
 | some v=>if v<0 then(v+(n:Int)).toNat else min v.toNat n
theorem sIx_none(n d:Nat):sIx n d none=d:=rfl
theorem sIx_nat(n d k:Nat):sIx n d (some (k:Int))=min k n:=by
 show(if(k:Int)<0 then((k:Int)+(n:Int)).toNat else min (k:Int).toNat n)=min k n;rw[if_neg (by omega),GU]
theorem sIx_le(n d:Nat)(hd:d<=n)(o:Option Int):sIx n d o<=n:=by
 cases o with
 | none=>exact hd
 | some v=>
  show(if v<0 then(v+(n:Int)).toNat else min v.toNat n)<=n;by_cases hv:v<0;rw[if_pos hv];omega;rw[if_neg hv];exact Nat.min_le_right _ _
theorem clip_eq(v:Int)(n d:Nat):(if v<0 then max (v+(n:Int)) 0 else min v (n:Int))=((sIx n d (some v):Nat):Int):=by
 show(if v<0 then max (v+(n:Int)) 0 else min v (n:Int))=(((if v<0 then(v+(n:Int)).toNat else min v.toNat n):Nat):Int);by_cases hv:v<0;simp only[if_pos hv];omega;simp only[if_neg hv];omega
theorem adjust_gen(lo hi:Option Int)(n:Nat):Mc lo hi 1 (n:Int)=(((sIx n 0 lo:Nat):Int),((sIx n n hi:Nat):Int)):=by
 have h1:¬ ((1:Int)<0):=by omega
 unfold Mc;simp only[h1,if_false];refine Prod.ext ?_ ?_
 ·cases lo with
  | none=>rfl
  | some v=>exact clip_eq v n 0
 ·cases hi with
  | none=>rfl
  | some v=>exact clip_eq v n n
theorem places_gen(i j:Nat):L5 (i:Int) (j:Int) 1=j-i:=by
 unfold L5;have h1:(1:Int)>0:=by omega
 simp only[h1,if_true,J1];split<;>omega
theorem slicePart_{v:LB}{o:Option Int}{Q:Option Int->LD->Prop}(p:N4 v o)(h:Q o s):LH (LL prog w) A (PN v) Q E s:=by
 cases p with
 | none=>exact NM h
 | int i t=>exact slicePart_int h
theorem sliceApplied_gen{sl:Addr}{vl vu:LB}{lo hi:Option Int}{n:Nat}{Q:Int×Int×Nat->LD->Prop}(hs:s.heap.IsSliceOf sl vl vu .none)(pl:N4 vl lo)(pu:N4 vu hi)
  (h:Q (((sIx n 0 lo:Nat):Int),1,sIx n n hi-sIx n 0 lo) s):LH (LL prog w) A (Mz (.ref sl) (pure (n:Int))) Q E s:=by
 obtain⟨os,hos,hcs,hds⟩:=id hs;unfold Mz NS;refine LA (LA (L0 hos hds (x:=vl) rfl (LA (L0 hos hds (x:=vu) rfl (LA (L0 hos hds (x:=.none) rfl (LF ?_)))))));refine LA (NM ?_);show LH _ _ (if((1:Int)==0)=true then _ else _) _ _ s;rw[if_neg (by decide)];refine LA (slicePart_ pl (LA (slicePart_ pu (LA (LF ?_)))));show LH _ _ (match Mc lo hi 1 (n:Int)with|(lo,hi)=>pure (lo,(1:Int),L5 lo hi 1)) _ _ s;rw[adjust_gen lo hi n];show LH _ _ (pure (((sIx n 0 lo:Nat):Int),(1:Int),L5 ((sIx n 0 lo:Nat):Int) ((sIx n n hi:Nat):Int) 1)) _ _ s;rw[places_gen];exact LF h
theorem pick_gen(xs:Array LB)(i k:Nat):((G9 k).filterMap λ(m:Nat)=>xs[((i:Int)+(m:Int)*1).toNat]?).toArray=((xs.toList.drop i).take k).toArray:=by
 have e:(λ(m:Nat)=>xs[((i:Int)+(m:Int)*1).toNat]?)=λm=>xs[i+m]?:=by
  funext m;have:((i:Int)+(m:Int)*1).toNat=i+m:=by omega
  rw[this]
 rw[e];have:=QD xs i k;rw[Ir]at this;have e2:((λx=>xs[x]?)∘λx=>i+x)=λm=>xs[i+m]?:=rfl;rw[e2]at this;rw[this]
theorem getItem_tuple_cut{t sl:Addr}{items:Array LB}{vl vu:LB}{lo hi:Option Int}{Q:LB->LD->Prop}(ht:Pg s.heap t items)(hs:s.heap.IsSliceOf sl vl vu .none)(pl:N4 vl lo)(pu:N4 vu hi)
  (hw:¬ (sIx items.size 0 lo=0/\sIx items.size items.size hi=items.size))
  (h:Q (.ref s.heap.objs.size) {s with heap:=s.heap.push {cls:=.type "tuple",data:=.seq ((items.toList.drop (sIx items.size 0 lo)).take (sIx items.size items.size hi-sIx items.size 0 lo)).toArray}})
  (hsz:items.size<=sizeLine):LH (LL prog w) A (NF (.ref t) (.ref sl)) Q E s:=by
 have htake:sizeOk (.seq ((items.toList.drop (sIx items.size 0 lo)).take (sIx items.size items.size hi-sIx items.size 0 lo)).toArray):=by
  show((items.toList.drop (sIx items.size 0 lo)).take (sIx items.size items.size hi-sIx items.size 0 lo)).toArray.size<=sizeLine;rw[Gw,GY,Hr,HD];omega
 have hj:sIx items.size items.size hi<=items.size:=sIx_le _ _ (GC _) hi;obtain⟨os,hos,hcs,hds⟩:=id hs;have hTs:s.TypeIs (.ref sl) "slice" :=⟨os,hos,hcs⟩;unfold NF;try with_reducible refine Mj ?_
 first|refine LA (LF ?_)|skip
 refine LA (NY ht.typeIs (by decide) ?_);refine LA (Ma (name:=LW "__getitem__") ht.typeIs Hh
  (Mi Hh ht.typeIs OT ?_ (O9 _ _)))
 show LH _ _ (NN (.ref t) >>= _) _ _ s;refine LA (OX ht ?_);refine LA (MV hTs ?_);rw[if_pos (by decide)];refine LA (sliceApplied_gen hs pl pu ?_);have hno:¬ ((((sIx items.size 0 lo:Nat):Int)==0&&(1:Int)==1&&(sIx items.size items.size hi-sIx items.size 0 lo)==items.size)=true):=by
  intro q;rw[Gz,Gz]at q;have q1:((sIx items.size 0 lo:Nat):Int)=0:=eq_of_beq q.1.1;have q2:sIx items.size items.size hi-sIx items.size 0 lo=items.size:=eq_of_beq q.2;exact hw ⟨by omega,by omega⟩
 show LH _ _ (if(((sIx items.size 0 lo:Nat):Int)==0&&(1:Int)==1&&(sIx items.size items.size hi-sIx items.size 0 lo)==items.size)=true then _ else _) _ _ s;rw[if_neg hno,pick_gen];first
  | exact LA (m:=LR _) (LP (LF ⟨_,rfl,LF h⟩) htake)
  | exact LA (m:=LR _) (LP (LA (LF (LF ⟨_,rfl,LF h⟩))) htake)
  | exact LA (LA (m:=LR _) (LP (LF (LF ⟨_,rfl,LF h⟩)) htake))
  | exact LA (LA (m:=LR _) (LP (LF ⟨_,rfl,LF h⟩) htake))
end
end HT
namespace L2
open PySem PySem.Spec PyProof.Rows
abbrev TO:=St->Hp->(Option Int->Hp->Prop)->Prop
def PO(X:Cx)(e:Option Expr)(t:TO):Prop:=
 ∀(Uq:List (Addr×Obj)) (s:LD) (Z:St) (H:Hp) (Q:Option Int->Hp->Prop),Inv X Uq Z H s->t Z H Q ->
  LH (LL X.prog X.w) X.A (evalPart e X.env) (λu s'=>∃o H',Inv X Uq Z H' s'/\N4 u o/\Q o H') X.xe s
def re:TO:=λ_ H Q=>Q none H
def rf(t:TE):TO:=λZ H Q=>t Z H λx H1=>∃i,x=.int i/\Q (some i) H1
theorem j1{ns:List Int}:∀{us:List LB},Vals (ns.map V.int) us->MU us ns:=by
 induction ns with
 | nil=>intro us r;rw[Ic]at r;cases r;exact .nil
 | cons n ns ih=>
  intro us r;rw[Gs]at r;cases r with
  | cons r1 r2=>
   obtain⟨t,e⟩:=r1;subst e;exact .cons n t (ih r2)
section
variable {X:Cx}{e:Expr}{te:TE}{lo hi:Option Expr}{tl th:TO}{pos p2:Pos}
theorem yg:PO X none re:=by
 intro Uq s Z H Q I h;rw[Nq];exact LF ⟨none,H,I,.none,h⟩
theorem m7(h:PE X e te):PO X (some e) (rf te):=by
 intro Uq s Z H Q I hw;rw[OY];refine thn (h Uq s Z H _ I hw) λu s1 ⟨x,H1,I1,r1,q1⟩=>?_;obtain⟨i,rfl,q⟩:=q1;obtain⟨t,rfl⟩:=r1;exact⟨some i,H1,I1,.int i t,q⟩
def SlR(X:Cx)(r:V->Option Int->Option Int->Hp->VK->Prop):Prop:=
 ∀(Uq:List (Addr×Obj)) (s:LD) (Z:St) (H:Hp) (x:V) (v vl vu:LB) (lo hi:Option Int) (sl:Addr) (Q:VK),Inv X Uq Z H s->RelV x v->s.heap.IsSliceOf sl vl vu .none->N4 vl lo->N4 vu hi->r x lo hi H Q ->
  ∃T id,Pa (.type T) "__getitem__" = pure (some (.builtin id))/\s.TypeIs v T/\LH (LL X.prog X.w) X.A (NF v (.ref sl)) (EP X Uq Z Q) X.xe s
theorem SlR.or{r r':V->Option Int->Option Int->Hp->VK->Prop}(h:SlR X r)(h':SlR X r'):SlR X (λx lo hi H Q=>r x lo hi H Q\/r' x lo hi H Q):=by
 intro Uq s Z H x v vl vu lo hi sl Q I rx hs pl pu q;rcases q with q|q;exact h Uq s Z H x v vl vu lo hi sl Q I rx hs pl pu q;exact h' Uq s Z H x v vl vu lo hi sl Q I rx hs pl pu q
def tSl(r:V->Option Int->Option Int->Hp->VK->Prop)(te:TE)(tl th:TO):TE:=λZ H Q=>te Z H λx H1=>tl Z H1 λl H2=>th Z H2 λu H3=>r x l u H3 Q
theorem uN{r:V->Option Int->Option Int->Hp->VK->Prop}(hr:SlR X r)(he:PE X e te)(hl:PO X lo tl)(hu:PO X hi th):PE X (.Subscript e (.Slice lo hi none p2) pos) (tSl r te tl th):=by
 intro Uq s Z H Q I h;refine Oq (thn (he Uq s Z H _ I h) λv s1 ⟨x,H1,I1,r1,q1⟩=>?_);refine OD (thn (hl Uq s1 Z H1 _ I1 q1) λvl s2 ⟨l,H2,I2,pl,q2⟩=>thn (hu Uq s2 Z H2 _ I2 q2) λvu s3 ⟨u,H3,I3,pu,q3⟩=>?_);rw[Nq];refine LF ?_;have I4:Inv X Uq Z H3 {s3 with heap:=s3.heap.push {cls:=.type "slice",data:=.fields #[vl,vu,.none]}}:=I3.kept (t':=s3.toks) λb ob q=>LC _ q;obtain⟨T,id,hT,ht,hg⟩:=hr Uq {s3 with heap:=s3.heap.push {cls:=.type "slice",data:=.fields #[vl,vu,.none]}} Z H3 x v vl vu l u s3.heap.objs.size Q I4 r1 (M5 ..) pl pu q3;show LH (LL X.prog X.w) X.A (Nr e (.Slice lo hi none p2) v (.ref s3.heap.objs.size)) (EP X Uq Z Q) X.xe {s3 with heap:=s3.heap.push {cls:=.type "slice",data:=.fields #[vl,vu,.none]}};exact Qe (ops:=[.ref s3.heap.objs.size,v]) ht hT hg (by unhygienic rfl)
noncomputable def jV(xs:List V) (lo hi:Option Int):List V:=(xs.drop (HT.sIx xs.length 0 lo)).take (HT.sIx xs.length xs.length hi-HT.sIx xs.length 0 lo)
theorem jn(xs:List V)(lo hi:Option Int):(jV xs lo hi).length<=xs.length:=by
 unfold jV;rw[GY,Hr];omega
def Fb(K:yF):V->Option Int->Option Int->Hp->VK->Prop:=λx lo hi H Q=>∃a xs,x=.ref a/\SqT K H a xs /\
 ¬ (HT.sIx xs.length 0 lo=0/\HT.sIx xs.length xs.length hi=xs.length)/\∀p,H p=none->Q (.ref p) (upd H p (.tup (jV xs lo hi)))
theorem sl_tup:SlR X (Fb X.K):=by
 intro Uq s Z H x v vl vu lo hi sl Q I rx hs pl pu h;obtain⟨a,xs,rfl,hx,hw,q⟩:=h;cases rx;obtain⟨its,r,ht,hz⟩:=I.tuple hx;have hlen:its.toArray.size=xs.length:=by rw[Gw];exact r.length.symm
 refine⟨"tuple",_,Hh.lookup,ht.typeIs,?_⟩;refine HT.getItem_tuple_cut ht hs pl pu (by rw[hlen];exact hw) ?_ (by rw[hlen];exact hz);rw[hlen];refine⟨.ref s.heap.objs.size,_,I.laid (t':=s.toks) (o:=.tup (jV xs lo hi)) (λb ob q=>LC _ q) (GC _) ?_,rfl,q _ (I.hok.fresh (GC _))⟩;exact⟨Hj (jn xs lo hi) hz,_,(r.drop (HT.sIx xs.length 0 lo)).take (HT.sIx xs.length xs.length hi-HT.sIx xs.length 0 lo),La.new _ _⟩
def CF(K:yF):R2:=λx y H Q=>∃a b ns ms,x=.ref a/\y=.ref b/\SqT K H a (ns.map V.int)/\SqT K H b (ms.map V.int)/\Q (.bl (HT.lexLt ns ms)) H
theorem Bb(hu:X.A.units<Mm):OpR X (LZ .Lt) (CF X.K):=by
 intro Uq s Z H x y v u Q I rx ry h;obtain⟨a,b,ns,ms,rfl,rfl,ha,hb,q⟩:=h;cases rx;cases ry;obtain⟨its,r1,p1,_⟩:=I.tuple ha;obtain⟨its2,r2,p2,_⟩:=I.tuple hb;have i1:MU its.toArray.toList ns:=j1 r1;have i2:MU its2.toArray.toList ms:=j1 r2;exact HT.lt_tupInts p1 p2 i1 i2 hu ⟨.bl (HT.lexLt ns ms),H,I,rfl,q⟩
def zW(K:yF):R2:=λx y H Q=>∃a b xs ys,x=.ref a/\y=.ref b/\SqT K H a xs/\SqT K H b ys/\xs≠[]/\xs.length+ys.length<=sizeLine /\
 (ys=[]->Q (.ref a) H)/\(ys≠[]->∀p,H p=none->Q (.ref p) (upd H p (.tup (xs++ys))))
theorem Vals.nil_iff{xs:List V}{us:List LB}(r:Vals xs us):us=[]↔xs=[]:=by
 cases r with
 | nil=>simp
 | cons _ _=>simp
theorem xM:OpR X (Me .Add) (zW X.K):=by
 intro Uq s Z H x y v u Q I rx ry h;obtain⟨a,b,xs,ys,rfl,rfl,ha,hb,hx,hz,q1,q2⟩:=h;cases rx;cases ry;obtain⟨its,r1,p1,_⟩:=I.tuple ha;obtain⟨its2,r2,p2,_⟩:=I.tuple hb;refine HT.cat_tup p1 p2 (λz=>hx (r1.nil_iff.mp z)) (λz=>⟨.ref a,H,I,rfl,q1 (r2.nil_iff.mp z)⟩) (λz=>?_) (by rw[<-r1.length,<-r2.length];exact hz);refine⟨.ref s.heap.objs.size,_,I.laid (t':=s.toks) (o:=.tup (xs++ys)) (λb ob q=>LC _ q) (GC _) ?_,rfl,q2 (λw=>z (r2.nil_iff.mpr w)) _ (I.hok.fresh (GC _))⟩;exact⟨by rw[GD];exact hz,_,r1.append r2,La.new _ _⟩
end
noncomputable def ixN(n:Nat) (i:Int):Option Nat:=if 0<=i then(if i<n then some i.toNat else none)else if -(n:Int)<=i then some (i+n).toNat else none
noncomputable def atI{α:Type} (xs:List α) (i:Int):Option α:=(ixN xs.length i).bind λj=>xs[j]?
theorem qJ{n:Nat}{i:Int}{j:Nat}(h:ixN n i=some j):seqIndex? i n=some j/\j<n/\-(n:Int)<=i/\i<n:=by
 unfold ixN at h;by_cases h0:0<=i
 ·rw[if_pos h0]at h;by_cases h1:i<n
  ·rw[if_pos h1]at h;have e:i.toNat=j:=GX.inj h;exact⟨by rw[PK h0 h1,e],by omega,by omega,h1⟩
  ·rw[if_neg h1]at h;cases h
 ·rw[if_neg h0]at h;by_cases h1 : -(n:Int)<=i
  ·rw[if_pos h1]at h;have e:(i+n).toNat=j:=GX.inj h;exact⟨by rw[seqIndex_neg (by omega) h1,e],by omega,h1,by omega⟩
  ·rw[if_neg h1]at h;cases h
theorem md{α:Type}{xs:List α}{i:Int}{v : α}(h:atI xs i=some v):∃j,seqIndex? i xs.length=some j/\xs[j]?=some v/\j<xs.length/\-(xs.length:Int)<=i/\i<xs.length:=by
 unfold atI at h;cases e:ixN xs.length i with
 | none=>rw[e]at h;cases h
 | some j=>
  rw[e]at h;obtain⟨h1,h2,h3,h4⟩:=qJ e;exact⟨j,h1,h,h2,h3,h4⟩
def qg(b:Expr):Prop:=∀o i,OE b false o i=operate [o,i] (NF o i)
def IxR(X:Cx)(r:R2):Prop:=
 ∀(value slice:Expr) (Uq:List (Addr×Obj)) (s:LD) (Z:St) (H:Hp) (x y:V) (v u:LB) (Q:VK),Inv X Uq Z H s->RelV x v->RelV y u->r x y H Q ->
  OE slice false v u=operate [v,u] (NF v u)->LH (LL X.prog X.w) X.A (Nr value slice v u) (EP X Uq Z Q) X.xe s
def MtR(X:Cx)(id:String)(r:V->List V->Hp->VK->Prop):Prop:=
 ∀(Uq:List (Addr×Obj)) (s:LD) (Z:St) (H:Hp) (x:V) (xs:List V) (v:LB) (us:List LB) (Q:VK),Inv X Uq Z H s->RelV x v->Vals xs us->r x xs H Q ->
  LH (LL X.prog X.w) X.A (call (.builtin id) (v::us)) (EP X Uq Z Q) X.xe s
section
variable {X:Cx}{a b:Expr}{ta tb:TE}{pos:Pos}
theorem IxR.or{r r':R2}(h:IxR X r)(h':IxR X r'):IxR X (λx y H Q=>r x y H Q\/r' x y H Q):=by
 intro value slice Uq s Z H x y v u Q I rx ry q hs;rcases q with q|q;exact h value slice Uq s Z H x y v u Q I rx ry q hs;exact h' value slice Uq s Z H x y v u Q I rx ry q hs
theorem MtR.or{id:String}{r r':V->List V->Hp->VK->Prop}(h:MtR X id r)(h':MtR X id r'):MtR X id (λx xs H Q=>r x xs H Q\/r' x xs H Q):=by
 intro Uq s Z H x xs v us Q I rx rs q;rcases q with q|q;exact h Uq s Z H x xs v us Q I rx rs q;exact h' Uq s Z H x xs v us Q I rx rs q
theorem Es{r:R2}(hr:IxR X r)(ha:PE X a ta)(hb:PE X b tb)(hs:qg b):PE X (.Subscript a b pos) (tOp r ta tb):=by
 intro Uq s Z H Q I h;exact Oq (At ha hb I h λv u s2 x y H2 I2 rx ry q=>hr a b Uq s2 Z H2 x y v u Q I2 rx ry q (hs _ _))
def E4(K:yF):R2:=λx y H Q=>∃p xs i v,x=.ref p/\y=.int i/\SqL K H p xs/\atI xs i=some v/\Q v H
def E6(K:yF):R2:=λx y H Q=>∃p xs i v,x=.ref p/\y=.int i/\SqT K H p xs/\atI xs i=some v/\Q v H
def E5:R2:=λx y H Q=>∃z i c,x=.str z/\y=.int i/\z.length<=sizeLine/\atI z.cps.toList i=some c/\Q (.str ⟨#[c]⟩) H
theorem ix_list:IxR X (E4 X.K):=by
 intro value slice Uq s Z H x y v u Q I rx ry h hs;obtain⟨p,xs,i,z,rfl,rfl,hq,he,q⟩:=h;cases rx;obtain⟨t,rfl⟩:=ry;obtain⟨its,r,pl,hz⟩:=I.list hq;obtain⟨j,h1,h2,h3,h4,h5⟩:=md he;obtain⟨w,ew,rw'⟩:=r.get h2;have hl:=r.length;have hn:=ie;have fin:EP X Uq Z Q w s:=⟨z,H,I,rw',q⟩;by_cases h0:0<=i
 ·have hj:i.toNat=j:=by
   rw[PK h0 h5]at h1;exact GX.inj h1
  exact item_listR pl.isList h0 (by omega) (by rw[hj];simpa using ew) fin hs
 ·have hj:(i+(its.toArray.size:Int)).toNat=j:=by
   rw[seqIndex_neg (by omega) h4]at h1;rw[Gw,<-hl];exact GX.inj h1
  exact Os (x:=w) pl.isList.typeIs NZ.lookup
   (wpAny_getItem_list_neg (Q:=λr s'=>r=w/\EP X Uq Z Q r s') pl.isList (by omega) (by rw[Gw]<;>omega) (by omega) (by rw[hj];simpa using ew) ⟨rfl,fin⟩) hs
theorem ix_tup:IxR X (E6 X.K):=by
 intro value slice Uq s Z H x y v u Q I rx ry h hs;obtain⟨p,xs,i,z,rfl,rfl,hq,he,q⟩:=h;cases rx;obtain⟨t,rfl⟩:=ry;obtain⟨its,r,pl,hz⟩:=I.tuple hq;obtain⟨j,h1,h2,h3,h4,h5⟩:=md he;obtain⟨w,ew,rw'⟩:=r.get h2;have hl:=r.length;have hn:=ie;have fin:EP X Uq Z Q w s:=⟨z,H,I,rw',q⟩;exact Os (x:=w) pl.typeIs slot_tuple_getitem.lookup
  (getItem_tuple (j:=j) (Q:=λr s'=>r=w/\EP X Uq Z Q r s') pl (by omega) (by omega) (by rw[Gw,<-hl];exact h1) (by simpa using ew) ⟨rfl,fin⟩) hs
theorem AQ:IxR X E5:=by
 intro value slice Uq s Z H x y v u Q I rx ry h hs;obtain⟨z,i,c,rfl,rfl,hz,he,q⟩:=h;obtain⟨t,rfl⟩:=rx;obtain⟨t',rfl⟩:=ry;obtain⟨j,h1,h2,h3,h4,h5⟩:=md he;have hl:z.cps.toList.length=z.length:=by simp[QN]
 rw[hl]at h1 h4 h5;have hn:=ie;exact Qe (Qf s z t) slot_str_getitem.lookup (getItem_str (c:=c) (by
  have e1:decide (i < -(2^63:Int))=false:=decide_eq_false (by omega);have e2:decide (i≥2^63)=false:=decide_eq_false (by omega);rw[e1,e2,Bool.or_false]) (by rw[h1];simpa using h2) ⟨.str ⟨#[c]⟩,H,I.tok _,⟨_,rfl⟩,q⟩) hs
def rIx(K:yF):R2:=λx y H Q=>E4 K x y H Q\/E6 K x y H Q\/E5 x y H Q
theorem AO:IxR X (rIx X.K):=ix_list.or (ix_tup.or AQ)
theorem pB(its:List LB)(n j:Nat)(u:LB):Ni (·.setIfInBounds j u) {cls:=.type "list",data:=.seq its.toArray n}={cls:=.type "list",data:=.seq (its.set j u).toArray n}:=by
 simp[Ni]
theorem Inv.lst{Uq:List (Addr×Obj)}{Z:St}{H:Hp}{s:LD}{p:Addr}{xs:List V}(I:Inv X Uq Z H s)(h:H p=some (.lst xs)) :
  ∃(its:List LB) (n:Nat),Vals xs its/\s.heap.get? p=some {cls:=.type "list",data:=.seq its.toArray n}/\xs.length<=sizeLine:=by
 obtain⟨z,its,n,r,e⟩:=I.hok p _ h;exact⟨its,n,r,e,z⟩
theorem Inv.lstUpd{Uq:List (Addr×Obj)}{Z:St}{H:Hp}{s:LD}{p:Addr}{xs ys:List V}{its its':List LB}{n n':Nat}{f:Obj->Obj}(I:Inv X Uq Z H s)(h:H p=some (.lst xs))
  (ho:s.heap.get? p=some {cls:=.type "list",data:=.seq its.toArray n}) (hf:f {cls:=.type "list",data:=.seq its.toArray n}={cls:=.type "list",data:=.seq its'.toArray n'}) (r:Vals ys its') (hz:ys.length<=sizeLine) (t:Nat) :
  Inv X Uq Z (upd H p (.lst ys)) {s with heap:=s.heap.update p f,toks:=t}:=by
 have e:(s.heap.update p f).get? p=some {cls:=.type "list",data:=.seq its'.toArray n'}:=by
  rw[Mp f ho (by rw[hf]<;>rfl),hf]
 refine I.write (x:=p) (e:=p) (by rw[h];trivial) (.inl rfl) (λb u hb q=>(Ot _ _ (LO hb)).trans q) ⟨_,e⟩ ?_;exact⟨hz,its',n',r,e⟩
def z9:V->V->V->Hp->(Hp->Prop)->Prop:=λo i v H Q=>∃p xs k j,o=.ref p/\i=.int k/\H p=some (.lst xs)/\ixN xs.length k=some j/\Q (upd H p (.lst (xs.set j v)))
theorem wu:Ao X z9:=by
 intro Uq s Z H o i v ov iv u Q I ro ri rv h;obtain⟨p,xs,k,j,rfl,rfl,hp,hj,q⟩:=h;cases ro;obtain⟨t,rfl⟩:=ri;obtain⟨its,n,r,ho,hz⟩:=I.lst hp;obtain⟨h1,h2,h3,h4⟩:=qJ hj;have hl:=r.length;have hn:=ie;have I':Inv X Uq Z (upd H p (.lst (xs.set j v))) {s with heap:=s.heap.update p (Ni (·.setIfInBounds j u))}:=
  I.lstUpd hp ho (pB its n j u) (r.set rv j) (by rw[IE];exact hz) s.toks
 by_cases h0:0<=k
 ·have hk:k.toNat=j:=by
   rw[PK h0 h4]at h1;exact GX.inj h1
  exact PySem.W.ki_setAt ho h0 (by omega) (by rw[Gw,<-hl];exact h4) (by rw[hk];exact⟨_,I',q⟩)
 ·have hk:(k+(its.toArray.size:Int)).toNat=j:=by
   rw[seqIndex_neg (by omega) h3]at h1;rw[Gw,<-hl];exact GX.inj h1
  exact PySem.W.ki_setBack ho (by omega) (by rw[Gw,<-hl];exact h3) (by omega) (by rw[hk];exact⟨_,I',q⟩)
theorem nA(lo hi:Option Int)(n:Nat):(MF lo hi none n).1=((HT.sIx n 0 lo:Nat):Int)/\(MF lo hi none n).2.1=((HT.sIx n n hi:Nat):Int)/\(MF lo hi none n).2.2=1:=by
 refine⟨?_,?_,rfl⟩
 ·cases lo with
  | none=>simp[MF,HT.sIx]
  | some i=>
   simp only[MF,HT.sIx,Jk,show(1:Int)>0 by decide,if_true];by_cases h:i<0;simp only[h,if_true]<;>omega;simp only[h,if_false]<;>omega
 ·cases hi with
  | none=>simp[MF,HT.sIx]
  | some i=>
   simp only[MF,HT.sIx,Jk,show(1:Int)>0 by decide,if_true];by_cases h:i<0;simp only[h,if_true]<;>omega;simp only[h,if_false]<;>omega
theorem le(its:List LB)(lo hi:Option Int):Pz its.toArray lo hi none=((its.drop (HT.sIx its.length 0 lo)).take (HT.sIx its.length its.length hi-HT.sIx its.length 0 lo)).toArray:=by
 obtain⟨h1,h2,h3⟩:=nA lo hi its.toArray.size;unfold Pz;rw[h1,h2,h3];simp only[Qg,QD,Gw]<;>rfl
def Fa(K:yF):V->Option Int->Option Int->Hp->VK->Prop:=λx lo hi H Q=>∃a xs,x=.ref a/\SqL K H a xs/\∀p,H p=none->Q (.ref p) (upd H p (.lst (jV xs lo hi)))
theorem sl_list:SlR X (Fa X.K):=by
 intro Uq s Z H x v vl vu lo hi sl Q I rx hs pl pu h;obtain⟨a,xs,rfl,hx,q⟩:=h;cases rx;obtain⟨its,r,ht,hz⟩:=I.list hx;have hlen:=r.length;refine⟨"list",_,NZ.lookup,ht.isList.typeIs,?_⟩;refine N5 ht.isList hs pl pu .none (by simp) ?_ (by rw[Gw]<;>omega);rw[le,<-hlen];refine⟨.ref s.heap.objs.size,_,I.laid (t':=s.toks) (o:=.lst (jV xs lo hi)) (λb ob q=>LC _ q) (GC _) ?_,rfl,q _ (I.hok.fresh (GC _))⟩;exact⟨Hj (jn xs lo hi) hz,_,0,(r.drop (HT.sIx xs.length 0 lo)).take (HT.sIx xs.length xs.length hi-HT.sIx xs.length 0 lo),LK _ rfl⟩
noncomputable def jp:V->Bool
 | .non=>true
 | .bl _=>true
 | .int _=>true
 | .str _=>true
 | _=>false
noncomputable def eqV:V->V->Bool
 | .non,.non=>true
 | .bl a,.bl b=>a==b
 | .bl a,.int b=>(if a then 1 else 0)==b
 | .int a,.bl b=>a==(if b then 1 else 0)
 | .int a,.int b=>a==b
 | .str a,.str b=>a==b
 | _,_=>false
theorem Ay{A:LQ}{s:LD}{y x:V}{u v:LB}(ry:RelV y u)(rx:RelV x v)(fy:jp y=true)(fx:jp x=true):LX A s u v (eqV y x):=by
 cases y with
 | non=>
  cases ry;cases x with
  | non=>cases rx;exact LX.same _
  | bl b=>cases rx;exact LX.none_bool b
  | int b=>obtain⟨t,rfl⟩:=rx;exact LX.none_int b t
  | str b=>obtain⟨t,rfl⟩:=rx;exact LX.none_str b t
  | _=>exact absurd (show false=true from fx) GG
 | bl a=>
  cases ry;cases x with
  | non=>cases rx;exact LX.bool_none a
  | bl b=>cases rx;exact LX.bool_bool a b
  | int b=>obtain⟨t,rfl⟩:=rx;exact LX.bool_int a b t
  | str b=>obtain⟨t,rfl⟩:=rx;exact LX.bool_str a b t
  | _=>exact absurd (show false=true from fx) GG
 | int a=>
  obtain⟨t',rfl⟩:=ry;cases x with
  | non=>cases rx;exact LX.int_none a t'
  | bl b=>cases rx;exact LX.int_bool a t' b
  | int b=>obtain⟨t,rfl⟩:=rx;exact O8 a t' b t
  | str b=>obtain⟨t,rfl⟩:=rx;exact OZ a t' b t
  | _=>exact absurd (show false=true from fx) GG
 | str a=>
  obtain⟨t',rfl⟩:=ry;cases x with
  | non=>cases rx;exact LX.str_none a t'
  | bl b=>cases rx;exact LX.str_bool a t' b
  | int b=>obtain⟨t,rfl⟩:=rx;exact O5 a t' b t
  | str b=>obtain⟨t,rfl⟩:=rx;exact LX.str_str a t' b t
  | _=>exact absurd (show false=true from fx) GG
 | _=>exact absurd (show false=true from fy) GG
noncomputable def eqU(x:V) (u:LB):Bool:=match u with
 | .none=>eqV .non x
 | .bool b=>eqV (.bl b) x
 | .int i _=>eqV (.int i) x
 | .str z _=>eqV (.str z) x
 | _=>false
theorem t3{x y:V}{u:LB}(r:RelV y u)(f:jp y=true):eqU x u=eqV y x:=by
 cases y with
 | non=>cases r;rfl
 | bl b=>cases r;rfl
 | int i=>obtain⟨t,rfl⟩:=r;rfl
 | str z=>obtain⟨t,rfl⟩:=r;rfl
 | _=>exact absurd (show false=true from f) GG
theorem iw{x:V}:∀{xs:List V} {us:List LB},Vals xs us->xs.all jp=true->us.any (eqU x)=xs.any λy=>eqV y x
 | _,_,.nil,_=>rfl
 | y::xs,u::us,.cons r t,f=>by
  rw[HL,Gz]at f;rw[IP,IP,t3 r f.1,iw t f.2]
theorem f9{A:LQ}{s:LD}{x:V}{v:LB}(rx:RelV x v)(fx:jp x=true):∀{xs:List V} {us:List LB},Vals xs us->xs.all jp=true->∀u∈us,LX A s u v (eqU x u)
 | _,_,.nil,_=>λu hu=>by cases hu
 | y::xs,u::us,.cons r t,f=>λu' hu=>by
  rw[HL,Gz]at f;rcases ycM hu with rfl|hu;rw[t3 r f.1];exact Ay r rx f.1 fx;exact f9 rx fx t f.2 u' hu
noncomputable def inV(x:V) (xs:List V):Bool:=xs.any λy=>eqV y x
def rIn(K:yF)(neg:Bool):R2:=λx y H Q=>∃p xs,y=.ref p/\(SqL K H p xs\/SqT K H p xs)/\jp x=true/\xs.all jp=true/\Q (.bl (if neg then !inV x xs else inV x xs)) H
theorem op_in_seq:OpR X (LZ .In) (rIn X.K false):=by
 intro Uq s Z H x y v u Q I rx ry h;obtain⟨p,xs,rfl,hq,fx,fs,q⟩:=h;cases ry;rcases hq with hq|hq
 ·obtain⟨its,r,pl,hz⟩:=I.list hq;refine PP (eqU x) pl.isList (λw hw=>f9 rx fx r fs w (by simpa using hw)) ⟨.bl _,H,I,rfl,?_⟩;rw[show its.toArray.any (eqU x)=its.any (eqU x) by simp,iw r fs];exact q
 ·obtain⟨its,r,pl,hz⟩:=I.tuple hq;refine PB (eqU x) pl (λw hw=>f9 rx fx r fs w (by simpa using hw)) ⟨.bl _,H,I,rfl,?_⟩;rw[show its.toArray.any (eqU x)=its.any (eqU x) by simp,iw r fs];exact q
theorem op_notIn_seq:OpR X (LZ .NotIn) (rIn X.K true):=by
 intro Uq s Z H x y v u Q I rx ry h;obtain⟨p,xs,rfl,hq,fx,fs,q⟩:=h;cases ry;rcases hq with hq|hq
 ·obtain⟨its,r,pl,hz⟩:=I.list hq;refine Pb (eqU x) pl.isList (λw hw=>f9 rx fx r fs w (by simpa using hw)) ⟨.bl _,H,I,rfl,?_⟩;rw[show its.toArray.any (eqU x)=its.any (eqU x) by simp,iw r fs];exact q
 ·obtain⟨its,r,pl,hz⟩:=I.tuple hq;refine OU (eqU x) pl (λw hw=>f9 rx fx r fs w (by simpa using hw)) ⟨.bl _,H,I,rfl,?_⟩;rw[show its.toArray.any (eqU x)=its.any (eqU x) by simp,iw r fs];exact q
theorem op_notIn_str:OpR X (LZ .NotIn) (λx y H Q=>∃i j,x=.str i/\y=.str j/\Q (.bl (!(!(Mv j i 0 j.length 1).isEmpty))) H):=by
 intro Uq s Z H x y v u Q I rx ry h;obtain⟨i,j,rfl,rfl,q⟩:=h;obtain⟨t,rfl⟩:=rx;obtain⟨t',rfl⟩:=ry;exact notIn_str ⟨.bl _,H,I,rfl,q⟩
theorem mj:K4 X (.builtin "len") (λxs H Q=>∃p ys,xs=[.ref p]/\(SqL X.K H p ys\/SqT X.K H p ys)/\Q (.int ys.length) H):=by
 intro Uq s Z H xs us Q I r h;obtain⟨p,ys,rfl,hq,q⟩:=h;obtain⟨u,rfl,rx⟩:=gv r;cases rx;have hn:=ie;rcases hq with hq|hq
 ·obtain⟨its,r',pl,hz⟩:=I.list hq;have hlen:=r'.length;exact Calls.call_len_list pl.isList (by simp only[Gw]<;>omega) ⟨.int ys.length,H,I.tok _,⟨s.toks+1,by rw[Gw,hlen]⟩,q⟩
 ·obtain⟨its,r',pl,hz⟩:=I.tuple hq;have hlen:=r'.length;exact len_tuple pl (by simp only[Gw]<;>omega) ⟨.int ys.length,H,I.tok _,⟨s.toks+1,by rw[Gw,hlen]⟩,q⟩
theorem mn:K4 X (.builtin "len") (λxs H Q=>∃z,xs=[.str z]/\z.length<=sizeLine/\Q (.int z.length) H):=by
 intro Uq s Z H xs us Q I r h;obtain⟨z,rfl,hz,q⟩:=h;obtain⟨u,rfl,t,rfl⟩:=gv r;have hn:=ie;exact len_str (by omega) ⟨.int z.length,H,I.tok _,⟨_,rfl⟩,q⟩
theorem K4.or{f:LB}{r r':List V->Hp->VK->Prop}(h:K4 X f r)(h':K4 X f r'):K4 X f (λxs H Q=>r xs H Q\/r' xs H Q):=by
 intro Uq s Z H xs us Q I rs q;rcases q with q|q;exact h Uq s Z H xs us Q I rs q;exact h' Uq s Z H xs us Q I rs q
theorem mq:K4 X (.type "list") (λxs H Q=>∃p ys,xs=[.ref p]/\(SqL X.K H p ys\/SqT X.K H p ys)/\∀l,H l=none->Q (.ref l) (upd H l (.lst ys))):=by
 intro Uq s Z H xs us Q I r h;obtain⟨p,ys,rfl,hq,q⟩:=h;obtain⟨u,rfl,rx⟩:=gv r;cases rx;have fin:∀(its:List LB),Vals ys its->ys.length<=sizeLine->∀(h':Heap) (c':Nat),(∀b o',s.heap.get? b=some o'->h'.get? b=some o') ->
   h'.get? s.heap.objs.size=some {cls:=.type "list",dict:=none,data:=.seq its.toArray c',slots:=#[]}->EP X Uq Z Q (.ref s.heap.objs.size) {s with heap:=h'}:=λits r' hz h' c' kp e=>
  ⟨.ref s.heap.objs.size,_,I.laid (t':=s.toks) kp (GC _) (show K0 X.prog X.w _ h' _ (.lst ys)from⟨hz,its,c',r',e⟩),rfl,q _ (I.hok.fresh (GC _))⟩
 rcases hq with hq|hq
 ·obtain⟨its,r',pl,hz⟩:=I.list hq;have hlen:=r'.length;obtain⟨o,ho,hc,n,hd⟩:=pl.isList;exact call_list_seq p (.inl rfl) ho hc hd (λh' c' kp e=>fin its r' hz h' c' kp e) (by simp only[Gw]<;>omega)
 ·obtain⟨its,r',pl,hz⟩:=I.tuple hq;have hlen:=r'.length;obtain⟨o,ho,hc,n,hd⟩:=pl;exact call_list_seq p (.inr rfl) ho hc hd (λh' c' kp e=>fin its r' hz h' c' kp e) (by simp only[Gw]<;>omega)
theorem kT:K4 X (.type "tuple") (λxs H Q=>∃p ys,xs=[.ref p]/\((SqL X.K H p ys/\∀l,H l=none->Q (.ref l) (upd H l (.tup ys)))\/(SqT X.K H p ys/\Q (.ref p) H))):=by
 intro Uq s Z H xs us Q I r h;obtain⟨p,ys,rfl,h⟩:=h;obtain⟨u,rfl,rx⟩:=gv r;cases rx;rcases h with⟨hq,q⟩|⟨hq,q⟩
 ·obtain⟨its,r',pl,hz⟩:=I.list hq;have hlen:=r'.length;refine call_tuple_list pl.isList (λh' kp=>?_) (by simp only[Gw]<;>omega);have I1:Inv X Uq Z H {s with heap:=h'}:=I.kept (t':=s.toks) kp;have I2:Inv X Uq Z (upd H h'.objs.size (.tup ys)) {s with heap:=h'.push {cls:=.type "tuple",data:=.seq its.toArray}}:=
   I1.laid (t':=s.toks) (λb o e=>LC _ e) (GC _) (show K0 X.prog X.w _ _ _ (.tup ys)from⟨hz,its,r',La.new _ _⟩)
  exact⟨.ref h'.objs.size,_,I2,rfl,q _ (I1.hok.fresh (GC _))⟩
 ·obtain⟨its,r',pl,hz⟩:=I.tuple hq;exact call_tuple_same pl ⟨.ref p,H,I,rfl,q⟩
def tyV(K:yF)(T:String)(x:V)(H:Hp):Prop:=match x with
 | .str _=>T = "str"
 | .int _=>T = "int"
 | .ref p=>(T = "list" /\ ∃xs,SqL K H p xs)\/(T = "tuple" /\ ∃o,K.lookup p=some o/\o.cls=.type "tuple" /\ o.dict=none) \/
   (T = "dict" /\ ((∃kvs,H p=some (.dK kvs)) \/ ∃kvs,H p=some (.dT kvs)))\/(T = "set" /\ ∃S n,H p=some (.set S n))
 | _=>False
theorem wH{Uq:List (Addr×Obj)}{Z:St}{H:Hp}{s:LD}{T:String}{x:V}{v:LB}(I:Inv X Uq Z H s)(r:RelV x v)(ty:tyV X.K T x H) :
  s.TypeIs v T/\∀a,v=.ref a->∃ob,s.heap.get? a=some ob/\ob.dict=none:=by
 cases x with
 | str z=>
  obtain⟨t,rfl⟩:=r;cases (show T = "str" from ty);exact⟨Qf s z t,λ_ e=>nomatch e⟩
 | int i=>
  obtain⟨t,rfl⟩:=r;cases (show T = "int" from ty);exact⟨Nj s i t,λ_ e=>nomatch e⟩
 | ref p=>
  cases r;rcases ty with⟨rfl,xs,hq⟩|⟨rfl,o,hk,hc,hd⟩|⟨rfl,hk⟩|⟨rfl,S,n,hk⟩
  ·obtain⟨its,_,pl,_⟩:=I.list hq;refine⟨pl.isList.typeIs,λa e=>?_⟩;cases e;obtain⟨o,n,e,c,hd,_⟩:=pl;exact⟨o,e,hd⟩
  ·refine⟨⟨o,I.kIn p o hk,hc⟩,λa e=>?_⟩;cases e;exact⟨o,I.kIn _ o hk,hd⟩
  ·have z:∃o,s.heap.get? p=some o/\o.ExactDict:=by
    rcases hk with⟨kvs,hk⟩|⟨kvs,hk⟩
    ·obtain⟨_,_,_,_,o,_,_,e,ex,_⟩:=I.hok p _ hk;exact⟨o,e,ex⟩
    ·obtain⟨_,_,_,_,o,_,_,e,ex,_⟩:=I.hok p _ hk;exact⟨o,e,ex⟩
   obtain⟨o,e,ex⟩:=z;refine⟨⟨o,e,ex.1⟩,λa e2=>?_⟩;cases e2;exact⟨o,e,ex.2.1⟩
  ·obtain⟨o,_,_,_,e,ex,_⟩:=I.hok p _ hk;refine⟨⟨o,e,ex.1⟩,λa e2=>?_⟩;cases e2;exact⟨o,e,ex.2.1⟩
 | _=>exact MN ty
def C0(K:yF)(T:String)(r:V->List V->Hp->VK->Prop)(to:TE):TE:=λZ H Q=>to Z H λx H1=>tyV K T x H1/\r x [] H1 Q
def tBM(K:yF)(T:String)(r:V->List V->Hp->VK->Prop)(to:TE)(t:TA):TE:=λZ H Q=>to Z H λx H1=>tyV K T x H1/\t Z H1 λxs H2=>r x xs H2 Q
variable {o e:Expr}{es:List Expr}{to:TE}{t:TA}{name:Str}{apos cpos:Pos}{T id:String}{r:V->List V->Hp->VK->Prop}
theorem BL(pa:Nk T)(slot:Slot T name id)(hty:Pc (.builtin id)=pure (.type "method_descriptor"))(hm:MtR X id r)(ho:PE X o to)
  (hbase:Mk o name X.env (eval o X.env)=eval o X.env:=by rfl) (hline:(apos.endLine==cpos.line)=true:=by rfl):PE X (.Call (.Attribute o name apos) [] [] cpos) (C0 X.K T r to):=by
 intro Uq s Z H Q I h;refine Oe hbase hline (thn (ho Uq s Z H _ I h) λv s1 ⟨x,H1,I1,r1,ty,q1⟩=>?_);obtain⟨h1,h2⟩:=wH I1 r1 ty;exact⟨T,id,pa,slot,hty,h1,h2,Nd rfl (JO (hm Uq s1 Z H1 x [] v [] Q I1 r1 .nil q1))⟩
theorem Ep(pa:Nk T)(slot:Slot T name id)(hty:Pc (.builtin id)=pure (.type "method_descriptor"))(hm:MtR X id r)(ho:PE X o to)(ha:PA X (e::es) t)
  (hbase:Mk o name X.env (eval o X.env)=eval o X.env:=by rfl)
  (hfew:((M9 cpos (LV (e::es) X.env)).all (λx=>!x.1)&&(backToKw cpos (keywordEach [] X.env)).all (λx=>x.1.isSome)
   && decide ((e::es).length+([]:List P6).length+(if([]:List P6).isEmpty then 0 else 1)<30))=true:=by rfl)
  (hline:(apos.endLine==cpos.line)=true:=by rfl) (hs:LV (e::es) X.env=(false,eval e X.env)::LV es X.env:=by rfl) (hplain:(M9 cpos (LV es X.env)).any (·.1)=false:=by rfl) :
  PE X (.Call (.Attribute o name apos) (e::es) [] cpos) (tBM X.K T r to t):=by
 intro Uq s Z H Q I h;refine wpAny_Call_method_late hbase hfew hline rfl (thn (ho Uq s Z H _ I h) λv s1 ⟨x,H1,I1,r1,ty,q1⟩=>?_);obtain⟨h1,h2⟩:=wH I1 r1 ty;refine⟨T,id,pa,slot,hty,h1,h2,?_⟩;have hA:=ha cpos Uq s1 Z H1 _ I1 q1;rw[hs]at hA|-;refine Nd (by show(false||(M9 cpos (LV es X.env)).any (·.1))=false;rw[hplain]<;>rfl) (Calls.evalArgs_plain ?_);exact thn hA λus s2 ⟨vs,H2,I2,r2,q2⟩=>hm Uq s2 Z H2 x vs v us Q I2 r1 r2 q2
end
def MtM(X:Cx)(id:String)(r:V->List V->Hp->VK->Prop):Prop:=
 ∀(Uq:List (Addr×Obj)) (s:LD) (Z:St) (H:Hp) (x:V) (xs:List V) (v:LB) (us:List LB) (Q:VK),Inv X Uq Z H s->RelV x v->Vals xs us->r x xs H Q ->
  LH (LL X.prog X.w) X.A (call (.builtin id) (v::us)) (EP X Uq Z Q) X.xe s
theorem Vals.one{x:V}{us:List LB}(h:Vals [x] us):∃u,us=[u]/\RelV x u:=by
 cases h with
 | cons r t=>cases t;exact⟨_,rfl,r⟩
theorem Vals.zero:∀{us:List LB},Vals [] us->us=[]
 | _,.nil=>rfl
theorem Vals.dropLast{xs:List V}{us:List LB}(h:Vals xs us):Vals xs.dropLast us.dropLast:=by
 induction h with
 | nil=>exact .nil
 | cons r t ih=>
  cases t with
  | nil=>exact .nil
  | cons q t'=>exact .cons r ih
theorem Vals.reverse{xs:List V}{us:List LB}(h:Vals xs us):Vals xs.reverse us.reverse:=by
 induction h with
 | nil=>exact .nil
 | cons r t ih=>rw[G6,G6];exact Vals.append ih (.cons r .nil)
theorem Vals.rep{xs:List V}{us:List LB}(h:Vals xs us):∀k:Nat,Vals (Gx k xs).flatten (Gx k us).flatten
 | 0=>.nil
 | k+1=>by
  rw[Hc,Hc,HC,HC];exact Vals.append h (Vals.rep h k)
theorem ph{α:Type}(l:List α):l.eraseIdx (l.length-1)=l.dropLast:=by
 induction l with
 | nil=>rfl
 | cons a r ih=>
  cases r with
  | nil=>rfl
  | cons b r=>
   have e:(a::b::r).length-1=((b::r).length-1)+1:=by
    have h1:(a::b::r).length=r.length+2:=rfl;have h2:(b::r).length=r.length+1:=rfl;omega
   rw[e,List.eraseIdx_cons_succ,ih];all_goals rfl
theorem eP(its:List LB):∀(k:Nat) (acc:List LB),
  Jr (λx1 x2=>x1++x2) acc.toArray (Gx k its.toArray)=(acc++(Gx k its).flatten).toArray
 | 0,acc=>by simp
 | k+1,acc=>by
  have e:acc.toArray++its.toArray=(acc++its).toArray:=by simp
  have e2:(acc++its)++(Gx k its).flatten=acc++(Gx (k+1) its).flatten:=by
   rw[Hc,HC,GK]
  rw[<-e2,<-eP its k (acc++its),<-e,Hc,Ix]
section
variable {X:Cx}{Uq:List (Addr×Obj)}{Z:St}{H:Hp}{s:LD}{l b:Addr}{xs ys zs:List V}
theorem Inv.lset{its its':List LB}{n:Nat}{f:Array LB->Array LB}{t':Nat}(I:Inv X Uq Z H s)(hH:H l=some (.lst xs))
  (e:s.heap.get? l=some {cls:=.type "list",data:=.seq its.toArray n}) (hf:f its.toArray=its'.toArray) (hv:Vals ys its') (hz:ys.length<=sizeLine) :
  Inv X Uq Z (upd H l (.lst ys)) {s with heap:=s.heap.update l (Ni f),toks:=t'}:=by
 have q:=PySem.IsL.update e f;rw[hf]at q;refine I.write (x:=l) (e:=l) (by rw[hH];exact trivial) (.inl rfl) (λb' u hb hu=>(Ot s.heap (Ni f) (LO hb)).trans hu) ⟨_,q⟩ ?_;exact⟨hz,its',_,hv,q⟩
theorem Inv.lnew{its:List LB}{t':Nat}(I:Inv X Uq Z H s)(hv:Vals ys its)(hz:ys.length<=sizeLine) :
  Inv X Uq Z (upd H s.heap.objs.size (.lst ys)) {s with heap:=s.heap.push {cls:=.type "list",data:=.seq its.toArray},toks:=t'}:=
 I.laid (λ_ _ q=>LC _ q) (GC _) ⟨hz,its,0,hv,LK _ rfl⟩
theorem Inv.fresh(I:Inv X Uq Z H s):H s.heap.objs.size=none:=I.hok.fresh (GC _)
theorem Inv.lstM(I:Inv X Uq Z H s)(hH:H l=some (.lst xs)):xs.length<=sizeLine/\∃(its:List LB) (n:Nat),Vals xs its/\xs.length=its.length/\s.heap.get? l=some {cls:=.type "list",data:=.seq its.toArray n}:=by
 obtain⟨z,its,n,r,e⟩:=I.hok l _ hH;exact⟨z,its,n,r,r.length,e⟩
theorem dL{n:Nat}(h:n<=sizeLine):L8 n=false:=by
 unfold L8;exact decide_eq_false (by omega)
end
section
variable {X:Cx}
def m9:V->List V->Hp->VK->Prop:=λx vs H Q=>∃l xs y,x=.ref l/\vs=[y]/\H l=some (.lst xs)/\xs.length<sizeLine/\Q .non (upd H l (.lst (xs++[y])))
theorem sn:MtM X "list.append" m9:=by
 intro Uq s Z H x vs v us Q I rx rv h;obtain⟨l,xs,y,rfl,rfl,hH,hz,q⟩:=h;cases rx;obtain⟨u,rfl,ru⟩:=rv.one;obtain⟨z,its,n,r,hl,e⟩:=I.lstM hH;refine Ms F.slot_list_append ⟨_,e,rfl⟩ F.entry_list_append (F.args_list_append_2 _ _) (PySem.list_append l its.toArray n u (by rw[Gw];omega)) ⟨e,?_⟩;refine⟨.non,_,I.lset (its':=its++[u]) hH e (by simp) (r.append (.cons ru .nil)) ?_,rfl,q⟩;rw[GD,List.length_singleton];omega
def yJ:V->List V->Hp->VK->Prop:=λx vs H Q=>∃l b xs zs,x=.ref l/\vs=[.ref b]/\H l=some (.lst xs)/\H b=some (.lst zs)/\xs.length+zs.length<=sizeLine/\Q .non (upd H l (.lst (xs++zs)))
theorem mt_extend:MtM X "list.extend" yJ:=by
 intro Uq s Z H x vs v us Q I rx rv h;obtain⟨l,b,xs,zs,rfl,rfl,hH,hB,hz,q⟩:=h;cases rx;obtain⟨u,rfl,ru⟩:=rv.one;cases ru;obtain⟨z,its,n,r,hl,e⟩:=I.lstM hH;obtain⟨z2,its2,n2,r2,hl2,e2⟩:=I.lstM hB;have hsz:its.toArray.size+its2.toArray.size<=sizeLine:=by rw[Gw,Gw];omega
 have hlong:¬ (!its.toArray.isEmpty&&L8 (its.toArray.size+its2.toArray.size))=true:=by
  rw[dL hsz,JH];exact GG
 refine Ms NO ⟨_,e,rfl⟩ ND (Nt _ _)
  (Nf l its.toArray n b its2.toArray n2 hlong (by rw[Gw];omega) (by omega)) ⟨e,e2,?_⟩
 refine⟨.non,_,I.lset (its':=its++its2) hH e (by simp) (r.append r2) ?_,rfl,q⟩;rw[GD];omega
def CI:V->List V->Hp->VK->Prop:=λx vs H Q=>∃l xs y,x=.ref l/\vs=[]/\H l=some (.lst xs)/\xs[xs.length-1]?=some y/\Q y (upd H l (.lst xs.dropLast))
theorem AZ:MtM X "list.pop" CI:=by
 intro Uq s Z H x vs v us Q I rx rv h;obtain⟨l,xs,y,rfl,rfl,hH,hy,q⟩:=h;cases rx;have hus:=rv.zero;subst hus;obtain⟨z,its,n,r,hl,e⟩:=I.lstM hH;obtain⟨u,hu,ru⟩:=r.get hy;have hy':its.toArray[its.toArray.size-1]?=some u:=by
  show its.toArray[its.length-1]?=some u;rw[<-Array.getElem?_toList,<-hl];exact hu
 refine Ms F.slot_list_pop ⟨_,e,rfl⟩ F.entry_list_pop (F.args_list_pop_1 _) (MeetsSeq.list_pop_last l its.toArray n u hy' (by rw[Gw];omega)) ⟨e,?_⟩;refine⟨y,_,I.lset (its':=its.dropLast) hH e ?_ r.dropLast ?_,ru,q⟩
 ·show its.toArray.eraseIdxIfInBounds (its.toArray.size-1)=its.dropLast.toArray;rw[Gw,List.eraseIdxIfInBounds_toArray,ph]
 ·rw[List.length_dropLast];omega
def EY:R2:=λx y H Q=>∃l b xs zs,x=.ref l/\y=.ref b/\H l=some (.lst xs)/\H b=some (.lst zs)/\xs.length+zs.length<=sizeLine/\∀p,H p=none->Q (.ref p) (upd H p (.lst (xs++zs)))
theorem op_cat:OpR X (Me .Add) EY:=by
 intro Uq s Z H x y v u Q I rx ry h;obtain⟨l,b,xs,zs,rfl,rfl,hH,hB,hz,q⟩:=h;cases rx;cases ry;obtain⟨z,its,n,r,hl,e⟩:=I.lstM hH;obtain⟨z2,its2,n2,r2,hl2,e2⟩:=I.lstM hB;refine PySem.P.add_list e e2 ?_ (by rw[Gw,Gw];omega);have ea:its.toArray++its2.toArray=(its++its2).toArray:=by simp
 rw[ea];exact⟨.ref _,_,I.lnew (t':=s.toks) (r.append r2) (by rw[GD];omega),rfl,q _ I.fresh⟩
def E9:R2:=λx y H Q=>∃l k xs,x=.ref l/\y=.int k/\H l=some (.lst xs)/\-(2^63)<=k/\k<2^63/\xs.length*k.toNat<=sizeLine /\
 ∀p,H p=none->Q (.ref p) (upd H p (.lst (Gx k.toNat xs).flatten))
theorem iI{α:Type}(xs:List α)(k:Nat):(Gx k xs).flatten.length=k*xs.length:=by
 induction k with
 | zero=>simp
 | succ k ih=>rw[Hc,HC,GD,ih,Nat.succ_mul,Nat.add_comm]
theorem op_rep:OpR X (Me .Mult) E9:=by
 intro Uq s Z H x y v u Q I rx ry h;obtain⟨l,k,xs,rfl,rfl,hH,h1,h2,hz,q⟩:=h;cases rx;obtain⟨t,rfl⟩:=ry;obtain⟨z,its,n,r,hl,e⟩:=I.lstM hH;have hlen:its.toArray.size*k.toNat<=sizeLine:=by rw[Gw,<-hl];exact hz
 have hcap:¬ its.toArray.size*k.toNat>(2^63-1) / 8:=by
  have:(sizeLine:Nat)<=(2^63-1) / 8:=by decide
  omega
 have hfit:¬ (!Builtin.List.listFitsIndex k)=true:=by
  rw[OG h1 h2];exact GG
 have hlong:¬ L8 (its.toArray.size*k.toNat)=true:=by
  rw[dL hlen];exact GG
 have hnew:Jr (λx1 x2=>x1++x2) #[] (Gx (if its.toArray.isEmpty=true then 0 else k.toNat) its.toArray)=(Gx k.toNat its).flatten.toArray:=by
  have f0:∀m:Nat,Jr (λx1 x2=>x1++x2) #[] (Gx m its.toArray)=(Gx m its).flatten.toArray:=λm=>by
   have:=eP its m [];rw[Hn]at this;exact this
  rw[f0];cases its with
  | nil=>simp
  | cons a r'=>rw[if_neg (by simp)]
 refine MX (T:="list") (U:="int") (by decide) ⟨_,e,rfl⟩ (λs'=>Nj s' k t) PQ Ov MQ repeat_list Of.lookup
  (Ms MQ (Nj s k t) Og (N0 _ _) (Oz k t l its.toArray n)
   ⟨e,rfl,⟨_,e,rfl⟩,Ms PR ⟨_,e,rfl⟩ PD (Pl _ _) (M8 l its.toArray n k t hfit hcap hlong) ⟨e,?_⟩⟩)
 rw[hnew];exact⟨.ref _,_,I.lnew (t':=s.toks) (r.rep k.toNat) (by rw[iI,J3];exact hz),rfl,q _ I.fresh⟩
end
section
variable {prog:LM}{w:LU}{A:LQ}{E:LB->LD->Prop}{s:LD}
theorem sZ(its its2:List LB)(a c:Nat):its.toArray.extract 0 a++its2.toArray++its.toArray.extract c its.toArray.size=(its.take a++its2++its.drop c).toArray:=by
 apply Array.toList_inj.mp;first
  | (simp
     exact GL (by simp))
  | simp[GL]
  | simp
theorem o8{a c n:Nat}(hac:a<=c)(hc:c<=n):MF (some (a:Int)) (some (c:Int)) none n=((a:Int),(c:Int),1):=by
 simp only[MF,Jk];have h1:¬ ((a:Int)<0):=by omega
 have h2:¬ ((c:Int)<0):=by omega
 simp only[h1,h2,if_false,show(1:Int)>0 by decide,if_true];congr 1;omega;congr 1;omega
set_option maxRecDepth 100000 in
theorem lc{l b sl:Addr}{items new:Array LB}{n n2:Nat}{vl vu:LB}{a c:Nat}{Q:Unit->LD->Prop}
  (e:s.heap.get? l=some {cls:=.type "list",data:=.seq items n}) (e2:s.heap.get? b=some {cls:=.type "list",data:=.seq new n2}) (hne:l≠b)
  (hs:s.heap.IsSliceOf sl vl vu .none) (pl:N4 vl (some (a:Int))) (pu:N4 vu (some (c:Int))) (hac:a<=c) (hc:c<=items.size)
  (hsz:items.size+new.size<=sizeLine) (h:Q () {s with heap:=s.heap.update l (Ni λxs=>xs.extract 0 a++new++xs.extract c xs.size)}) :
  LH (LL prog w) A (NW (.ref l) (.ref sl) (.ref b)) Q E s:=by
 have hl:s.heap.IsList l items:=PySem.IsL.isList e;have hb:s.heap.IsList b new:=PySem.IsL.isList e2;obtain⟨os,hos,hcs,hds⟩:=id hs;have hTs:s.TypeIs (.ref sl) "slice" :=⟨os,hos,hcs⟩;have hstep:¬ ((rawPart none==Ny 0)=true):=GG;have hsame:N6 (.ref l) (.ref b)=false:=by
  unfold N6;exact beq_eq_false_iff_ne.mpr hne
 have hmax:(max (a:Int) (c:Int)).toNat=c:=by omega
 have hz':((λxs:Array LB=>xs.extract 0 a++new++xs.extract c xs.size) items).size<=sizeLine+1:=by
  simp only[Ka,Array.size_extract];omega
 unfold NW;try with_reducible refine Mj ?_
 first|refine LA (LF ?_)|skip
 refine LA (NY hl.typeIs (by decide) ?_);refine LA (Ma (name:=LW "__setitem__") hl.typeIs Pm
  (Mi Pm hl.typeIs entry_list_setitem ?_ (args_list_setitem _ _ _)))
 show LH _ _ (NG (.ref sl) >>= _) _ _ s;refine LA ?_;unfold NG;refine LA (PU hTs slice_no_index ?_);simp only[Option.isNone_none,if_true];refine LF ?_;show LH _ _ (Pc (.ref sl) >>= _) _ _ s;refine LA (MV hTs ?_);first
  | rw[if_neg (by decide)]
  | refine PySem.W.KFB.if_not (by decide) ?_
 rw[listSliceParts_eq];refine LA (LA (L0 hos hds (x:=.none) rfl (LA (OH .none ?_))));rw[if_neg hstep];refine LA (L0 hos hds (x:=vl) rfl (LA (OH pl ?_)));refine LA (L0 hos hds (x:=vu) rfl (LA (OH pu (LF ?_))));first
  | simp only[hsame,I8,if_false]
  | refine PySem.W.KFB.if_not hsame ?_
  | (dsimp only
     rw[if_neg (by rw[hsame];exact GG)])
 refine LA (m:=NT (.ref b) "must assign iterable to extended slice") ?_;unfold NT;refine LA (MV hb.typeIs ?_);first
  | refine PySem.W.KFB.if_so (by decide) ?_
  | rw[if_pos (by decide)]
  | simp only[beq_self_eq_true,KB,if_true]
 unfold Qv;refine LA (Mf e2 rfl (LF ?_));refine LA (LA (Mf e rfl (LF ?_)));refine LA (wpAny_of_eq ((sliceIndices_raw (some (a:Int)) (some (c:Int)) none items.size (by simp)).trans (congrArg (pure:Int×Int×Int->Sem (Int×Int×Int)) (o8 hac hc))) ?_);show LH _ _ (if((1:Int)==1)=true then _ else _) _ _ s;rw[if_pos (by decide)];refine LA (M4 ?_);first
  | simp only[dL hsz,I8,if_false]
  | refine PySem.W.KFB.if_not (dL hsz) ?_
 first|refine LA (LF ?_)|skip
 show LH _ _ (updateSeq l (λxs=>xs.extract 0 ((a:Int)).toNat++new++xs.extract (max (a:Int) (c:Int)).toNat xs.size) >>= _) _ _ s;rw[hmax,GU];refine LA (PV (hz:=Hj (Hv _ _) hsz) (_hz':=hz') e rfl ?_);refine LA (OI ?_);first
  | exact LA (LF (LF ⟨.none,rfl,LF h⟩))
  | exact LF ⟨.none,rfl,LF h⟩
end
section
variable {X:Cx}
theorem sY{Uq:List (Addr×Obj)}{s:LD}{Z:St}{H:Hp}{l b sl:Addr}{xs ys:List V}{a c:Int}{vl vu:LB}{Q:Unit->LD->Prop}(I:Inv X Uq Z H s)
  (hH:H l=some (.lst xs)) (hB:H b=some (.lst ys)) (hne:l≠b) (hs:s.heap.IsSliceOf sl vl vu .none) (ra:RelV (.int a) vl) (rc:RelV (.int c) vu) (h0:0<=a) (hac:a<=c) (hc:c<=xs.length)
  (hz:xs.length+ys.length<=sizeLine) (h:∀s',Inv X Uq Z (upd H l (.lst (xs.take a.toNat++ys++xs.drop c.toNat))) s'->Q () s') :
  LH (LL X.prog X.w) X.A (NW (.ref l) (.ref sl) (.ref b)) Q X.xe s:=by
 obtain⟨ta,rfl⟩:=ra;obtain⟨tc,rfl⟩:=rc;obtain⟨z,its,n,r,hl,e⟩:=I.lstM hH;obtain⟨z2,its2,n2,r2,hl2,e2⟩:=I.lstM hB;obtain⟨a',rfl⟩:=Jl h0;obtain⟨c',rfl⟩:=Jl (Int.le_trans h0 hac);simp only[GU]at h;refine lc (a:=a') (c:=c') e e2 hne hs (.int _ _) (.int _ _) (by omega) (by rw[Gw];omega) (by rw[Gw,Gw];omega) (h _ ?_);refine I.lset (its':=its.take a'++its2++its.drop c') (t':=s.toks) hH e ?_ (Vals.append (Vals.append (r.take _) r2) (r.drop _)) ?_;exact sZ its its2 a' c'
 ·rw[GD,GD,GY,Hr];omega
end
end L2
namespace Att
open PySem PySem.W PySem.Calls PyProof.Rows
theorem ints_of_wellAll{P:Qw}{h:Heap}:∀(ns:List Int) (vs:List LB),WellAll P h vs (ns.map Q3)->MU vs ns:=by
 intro ns
 induction ns with
 | nil=>
  intro vs w;rw[Ic]at w;cases w;exact .nil
 | cons n ns ih=>
  intro vs w;rw[Gs]at w;cases w with
  | cons a b=>
   cases a;exact .cons _ _ (ih _ b)
theorem script_of{l:Qx}{n:Nat}(hn:l.most=some n){P:Qw}{h:Heap}{args:List QZ}{vals:List LB}
  (hpre:l.row.toRowW.claim.pre args=true) (hwl:WellAll P h vals args) :
  ∃a vs ns,vals=[Mq a]/\args=[QZ.list (ns.map Q3)]/\h.get? a=some {cls:=.type "list",data:=.seq vs.toArray}/\MU vs ns/\ns.length<=n:=by
 have hsh:Qy.hasAll [] args [.list .int]=true:=(pre_splitW hpre).1;have hc:l.pre.holds [] {args:=args}=true:=(pre_splitW hpre).2;obtain⟨d,r,rfl,h1,h2⟩:=hasAllW_cons hsh;obtain rfl:=hasAllW_nil h2;obtain⟨xs,rfl,h3⟩:=hasW_list h1;obtain⟨ns,rfl⟩:=items_int h3;have hlen:ns.length<=n:=by
  unfold Qx.pre at hc;have h4:(WTm.not (.lt (.lit (.int (n:Int))) (.len (.arg 0)))).holds [] {args:=[.list (ns.map .int)]}=true:=by
   have h4:=(holds_andW hc).1;rw[hn]at h4;exact h4
  have h5:=condW_of h4 (w_not (w_lt w_lit (w_len_list (w_arg rfl))));rw[Gv]at h5;refine Nat.le_of_not_lt λq=>?_;have q':(n:Int)<((ns.length:Nat):Int):=by omega
  first
   | (rw[decide_eq_true q']at h5;exact absurd h5 (by decide))
   | (simp at h5;omega)
 cases hwl with
 | cons w1 w2=>
  cases w2;cases w1 with
  | list ho hall=>exact⟨_,_,ns,rfl,rfl,ho,ints_of_wellAll ns _ hall,hlen⟩
theorem post_true(l:Qx)(args:List QZ):l.row.toRowW.claim.post args (.bool true) args=true:=
 postW_of (r:=l.row.toRowW) (X:=(true==true))
  (show QP [] (.bool true) .bool=true by first|rfl|decide|simp[QP,Qy.arms,Qy.armsAll])
  (show(WTm.eq .res (.lit (.bool true))).value [] {args:=args,res:=some (.bool true),after:=args}=some (.bool (true==true))from w_eq_bool (w_res rfl) w_lit) rfl
theorem attach_call{l:Qx}{n:Nat}{q:LM}{loose:List Str}{XP:(Str->Option LB)->Heap->Prop}{YP:LU->Heap->Prop}{d:DefRec}
  (hn:l.most=some n) (hdf:d.params.defaults=[])
  (call:∀(w:LU) (s₀ s₁ : LD) (mg mb:Str->Option LB) (fa:Addr) (o:Obj) (pm cd doc:LB) (a:Addr) (vs:List LB) (ns:List Int),
   Ground q loose [] XP w s₀ mg mb s₁.heap->YP w s₁.heap ->
   s₁.heap.get? fa=some o->o.data=.func (docDef d.name d.params d.body d.scope pm cd doc)->s₁.heap.CodeRec cd d.name->mg d.name=some (.ref fa) ->
   s₁.heap.get? a=some {cls:=.type "list",data:=.seq vs.toArray}->MU vs ns->ns.length<=n->s₁.gens = #[] ->
   Np (LL l.prog w) OR (.call (.ref fa) ⟨[.ref a],[]⟩) (λr s'=>r=.ok (.ret (.bool true))/\OldK s₁.heap s'.heap/\s'.os=s₁.os/\NV s'.gens) s₁) :
  WalkO q loose XP YP l.row.toRowW d [] (λf vs=>PySem.call f vs):=by
 intro w s₀ s₁ mg mb G Y fa o pm cd doc dV kV ho hd hcd hD hmg hg args vals as hpre hlay hrd hwl hlo;obtain rfl:dV=.none:=Dflts.none hD hdf;obtain rfl:kV=.none:=Dflts.noKw hD;obtain⟨a,vs,ns,rfl,rfl,hobj,hints,hlen⟩:=script_of hn hpre hwl;refine enter_call (Pj (call w s₀ s₁ mg mb fa o pm cd doc a vs ns G Y ho (fd_plain hd) hcd hmg hobj hints hlen hg) λr s' hq=>?_);obtain⟨rfl,h2,h3,h4⟩:=hq;exact⟨.inl ⟨.bool true,.bool true,[],rfl,λ_=>rfl,.bool true,post_true l _,λ_=>⟨List.Pairwise.nil,λ_ hm=>(nomatch hm)⟩⟩,h2,h3,h4⟩
end Att
namespace L2
open PySem PySem.Spec PyProof.Rows
theorem l7:∀{vs:List LB} {ns:List Int},MU vs ns->Vals (ns.map V.int) vs
 | _,_,.nil=>.nil
 | _,_,.cons n t h=>.cons ⟨t,rfl⟩ (l7 h)
def Dv(H:Hp):Prop:=∀b,H b=none \/ ∃o xs,H b=some (.frz o (.lst xs))
theorem um{P:LM}{w:LU}{K:yF}{mg mb:Str->Option LB}{CX:CXT}{k:Nat}{fa a:Addr}{fd:MP}{x:Str}{sp:Sp}{s₁ : LD}{vs:List LB}{ns:List Int}
  (KX:K.In s₁.heap) (hns:s₁.heap.Ns Md mg) (hb:s₁.heap.Ns O6 mb) (hbb:∀x:Str,x ≠ "__name__" -> mb x=Mh x) (hlim:s₁.heap.NoLimit) (hg:s₁.gens = #[])
  (ha:s₁.heap.get? a=some {cls:=.type "list",data:=.seq vs.toArray}) (hi:MU vs ns) (hl:ns.length<=sizeLine) (hr:K8 k OR)
  (F:∀base:Heap,K.In base->base.Ns Md mg->Ls P w K mg base CX k fa fd [x] sp) (hbind:∀(s:LD) (u:LB),OQ s fd ⟨[u],[]⟩ [(x,u)])
  (hsp:∀H:Hp,Dv H->SqL K H a (ns.map V.int)->sp [.ref a] H (λv _=>v=.bl true) λ_ _ _=>False)
  (hCX:∀H e s',CX [] H s₁ (λ_ _ _=>False) e s'->False) :
  Np (LL P w) OR (.call (.ref fa) ⟨[.ref a],[]⟩) (λr s'=>r=.ok (.ret (.bool true))/\OldK s₁.heap s'.heap/\s'.os=s₁.os/\NV s'.gens) s₁:=by
 have rv:=l7 hi;have lenV:=hi.length;have core:∀H:Hp,Dv H->SqL K H a (ns.map V.int)->HOk P w H s₁.heap->(∀b,H b≠none->b=a)->(H a≠none->K.lookup a=none) ->
   Np (LL P w) OR (.call (.ref fa) ⟨[.ref a],[]⟩) (λr s'=>r=.ok (.ret (.bool true))/\OldK s₁.heap s'.heap/\s'.os=s₁.os/\NV s'.gens) s₁:=by
  intro H hO hS hok hA hK;have base_of:∀{b:Addr} {o:Obj},s₁.heap.get? b=some o->H b=none->(mI s₁.heap H).get? b=some o:=λe n=>uc e n;have noA:∀{b:Addr} {o:Obj} {es:Array PF} {ep:Nat},s₁.heap.get? b=some o->o.data=.dict es ep->H b=none:=λ{b o es ep} e d=>by
   cases q:H b with
   | none=>rfl
   | some u=>
    have e':b=a:=hA b (by rw[q];simp);subst e';rw[ha]at e;cases e;have d':Data.seq vs.toArray _=Data.dict es ep:=d;cases d'
  have nsK:∀{b:Addr} {m:Str->Option LB},s₁.heap.Ns b m->(mI s₁.heap H).Ns b m:=λ{b m} ⟨o,es,ep,e,d,r⟩=>⟨o,es,ep,base_of e (noA e d),d,r⟩;have hKb:K.In (mI s₁.heap H):=λb o e=>base_of (KX b o e) (by
   cases q:H b with
   | none=>rfl
   | some u=>
    have e':b=a:=hA b (by rw[q];simp);subst e';rw[hK (by rw[q];simp)]at e;cases e)
  have hM:Mod K mg (mI s₁.heap H):=⟨hKb,nsK hns,⟨mb,nsK hb,hbb⟩,let ⟨mc,h1,h2⟩:=hlim;⟨mc,nsK h1,h2⟩⟩;have e0:Ly P w K mg (mI s₁.heap H) OR [] s₁ H:=⟨rfl,hM,λb o e=>xK e,Nat.le_of_eq (rW _ _),trivial,λb hb=>absurd (show b∈([]:List Addr)from hb) (by simp),hok,.of_eq hg⟩;refine Pj ((F _ hKb (nsK hns)).run OR [] s₁ H ⟨[.ref a],[]⟩ [.ref a] [.ref a] _ _ hr e0 (hbind s₁ (.ref a)) (.cons rfl .nil) (hsp H hO hS)) λr s' h=>?_;cases r with
  | error e=>exact(hCX H e s' h).elim
  | ok fl=>
   cases fl with
   | next=>exact MN h
   | brk=>exact MN h
   | cont=>exact MN h
   | ret u=>
    obtain⟨v,H',os,bare,un,hok',r',q⟩:=h;have q':v=.bl true:=q;subst q';obtain rfl:u=MJ true:=r';refine⟨rfl,OldK.of_keep λb o e=>?_,os,bare⟩;cases q:H b with
    | none=>exact un.keep b o e q (by intro z;exact absurd (show b∈([]:List Addr)from z) (by simp)) (by simp)
    | some u=>
     rcases hO b with z|⟨ob,xs,z⟩;rw[q]at z;cases z
     ·have z2:=un.frzs b ob _ z;obtain⟨e1,_⟩:=hok b _ z;obtain⟨e2,_⟩:=hok' b _ z2;rw[e]at e1;cases e1;exact e2
 cases hk:K.lookup a with
 | some o=>
  have e:=KX a o hk;rw[ha]at e;cases e;refine core (λ_=>none) (λ_=>.inl rfl) (.inr ⟨_,vs.toArray,_,hk,rfl,rfl,rfl,by rw[Gw,lenV];exact hl,by simpa using rv⟩) (λb u z=>by have z':(none:Option HO)=some u:=z;cases z') (λb z=>absurd rfl z) λz=>absurd rfl z
 | none=>
  refine core (λb=>if b=a then some (.frz {cls:=.type "list",data:=.seq vs.toArray} (.lst (ns.map V.int)))else none) (λb=>?_) (.inl (.inr ⟨{cls:=.type "list",data:=.seq vs.toArray},if_pos rfl⟩)) (λb u z=>?_) (λb z=>?_) λ_=>hk
  ·by_cases hb:b=a;exact .inr ⟨_,_,if_pos hb⟩;exact .inl (if_neg hb)
  ·by_cases hb:b=a
   ·have z':=(if_pos hb).symm.trans z;cases z';subst hb;exact⟨ha,by rw[Gv];exact hl,vs,_,rv,ha⟩
   ·have z':=(if_neg hb).symm.trans z;cases z'
  ·by_cases hb:b=a;exact hb;exact absurd (if_neg hb) z
noncomputable def dm(s:Stmt):Arguments:=match s with
 | .FunctionDef _ a _ _ _ _ _ _ _ _=>a
 | _=>{posonlyargs:=[],args:=[],vararg:=none,kwonlyargs:=[],kw_defaults:=[],kwarg:=none,defaults:=[]}
noncomputable def br(s:Stmt):List Stmt:=match s with
 | .FunctionDef _ _ b _ _ _ _ _ _ _=>b
 | _=>[]
noncomputable def aj(s:Stmt):MW:=match s with
 | .FunctionDef _ _ _ _ _ _ sc _ _ _=>sc
 | _=>{kind:=.function,names:=[],isGenerator:=false,isCoroutine:=false}
abbrev CX0:CXT:=λ_ _ _ _ _ _=>False
abbrev E0:XK:=λ_ _ _=>False
theorem Em{X:Cx}:o0 CX0 X E0:=λ_ _ _ _ _ _ _ h=>h.elim
structure Fun(K:yF)(x qual:Str)(st:Stmt)(f:Addr)(fd:MP):Prop where
 ex:∃(oc:LB) (od:Option Addr) (kV doc pm:LB) (an:Option Addr) (cdv ct:LB) (osl:Array (Option LB)),
  fd=HK x qual (dm st) (br st) (aj st) .none kV doc pm an cdv ct/\K.lookup f=some ⟨oc,od,.func fd,osl⟩/\IA K cdv qual=true
 kp:HX K (.ref f)=true
section
variable {P:LM}{w:LU}{K:yF}{mg:Str->Option LB}{base:Heap}
theorem Fun.ok{x qual:Str}{st:Stmt}{f:Addr}{fd:MP}{N ps:List Str}{k:Nat}{sp:Sp}(F:Fun K x qual st f fd)(S:KT N ps (aj st))(len:∀vs H Q E,sp vs H Q E->vs.length=ps.length)
  (hbody:∀(cdv:LB) (A:LQ) (outer:List Env) (s:LD) (H:Hp) (vs:List V) (Q:VK) (E:XK),K8 k (A.deeper (Nz qual (aj st) s.heap.objs.size f cdv))->sp vs H Q E ->
   ∃t,PSs (kU CX0 P w K mg base N qual (aj st) f cdv A outer s H E).nox (br st) t/\t {nx:=λ_ H'=>Q .non H',rt:=Q} (bG N vs) H):Ls P w K mg base CX0 (k+1) f fd ps sp:=by
 obtain⟨oc,od,kV,doc,pm,an,cdv,ct,osl,rfl,lk,hcd⟩:=F.ex;refine DH lk hcd S len λA outer s H vs Q E hr hsp=>?_;obtain⟨t,h,q⟩:=hbody cdv A outer s H vs Q E hr hsp;exact⟨t,h.nox,q⟩
theorem AF{x qual:Str}{st:Stmt}{f:Addr}{oc:LB}{od an:Option Addr}{osl:Array (Option LB)}{kV doc pm cdv ct:LB}(l:K.lookup f=some ⟨oc,od,.func (HK x qual (dm st) (br st) (aj st) .none kV doc pm an cdv ct),osl⟩)
  (c:IA K cdv qual=true) (k:HX K (.ref f)=true):Fun K x qual st f (HK x qual (dm st) (br st) (aj st) .none kV doc pm an cdv ct):=⟨⟨oc,od,kV,doc,pm,an,cdv,ct,osl,rfl,l,c⟩,k⟩
end
theorem zM{A:LQ}{k:Nat}(hr:K8 k A):A.units+1<Mm:=HH (JP (by decide:1<=64) _) hr.units
theorem rZ{A B:Prop}(h:B):if false=true then A else B:=by
 rw[if_neg GG];exact h
theorem r6{A B:Prop}(h:A):if true=true then A else B:=by
 rw[if_pos rfl];exact h
def K7(H H':Hp):Prop:=∀b o,H b=some o->H' b=some o
theorem K7.refl(H:Hp):K7 H H:=λ_ _ h=>h
noncomputable def bO(env:Env):List (Str×LN)->List (Str×Addr)->List (Str×Addr)
 | [],acc=>acc
 | (n,k)::r,acc=>if k == .free then bO env r ((n,(env.cells.lookup n).getD 0)::acc)else bO env r acc
theorem i3{env:Env}:∀(names:List (Str×LN)) (acc:List (Str×Addr)),(∀x∈names,x.2=.free->∃c,env.cells.lookup x.1=some c) ->
  (forIn names acc λ(x:Str×LN) (cs:List (Str×Addr))=>if x.2 == .free then(do let c <-cellOf env x.1;pure (NA ((x.1,c)::cs)):Sem _)else pure (NA cs))=(pure (bO env names acc):Sem _)
 | [],acc,_=>rfl
 | (n,k)::r,acc,h=>by
  have hr:∀x∈r,x.2=.free->∃c,env.cells.lookup x.1=some c:=λx hx=>h x (ymC _ hx);rw[IF];unfold bO;by_cases hk:(k==Mx)=true
  ·obtain⟨c,hc⟩:=h (n,k) ymS (by simpa using hk);have hc':env.cells.lookup n=some c:=hc;have e:cellOf env n=pure c:=by unfold cellOf;rw[hc']
   simp only[hk,if_true,e,hc',Option.getD_some,pure_bind];exact i3 r _ hr
  ·have hk':(k==Mx)=false:=by simpa using hk
   simp only[hk',I8,if_false,pure_bind];exact i3 r _ hr
theorem gY{env:Env}{scope:MW}(h:∀x∈scope.names,x.2=.free->∃c,env.cells.lookup x.1=some c):closureFor scope env=pure (bO env scope.names []):=by
 have:=i3 (env:=env) scope.names [] h;simp only[closureFor];rw[this,pure_bind]
theorem iZ{env:Env}{x:Str}{c:Addr}:∀(names:List (Str×LN)) (acc:List (Str×Addr)),(∀y∈names,y.2=.free->∃c,env.cells.lookup y.1=some c)->(acc.lookup x=some c->env.cells.lookup x=some c) ->
  (bO env names acc).lookup x=some c->env.cells.lookup x=some c
 | [],acc,_,h0,h=>h0 h
 | (n,k)::r,acc,hn,h0,h=>by
  have hr:∀y∈r,y.2=.free->∃c,env.cells.lookup y.1=some c:=λy hy=>hn y (ymC _ hy);unfold bO at h;by_cases hk:(k==Mx)=true
  ·rw[if_pos hk]at h;refine iZ r _ hr (λe=>?_) h;obtain⟨c',hc'⟩:=hn (n,k) ymS (by simpa using hk);have hc'':env.cells.lookup n=some c':=hc';rw[He]at e;by_cases hx:(x==n)=true
   ·rw[hx]at e;have hxn:x=n:=by simpa using hx
    subst hxn;rw[hc'']at e|-;exact e
   ·have hx':(x==n)=false:=by simpa using hx
    rw[hx']at e;exact h0 e
  ·rw[if_neg hk]at h;exact iZ r acc hr h0 h
theorem iY{env:Env}{x:Str}:∀(names:List (Str×LN)) (acc:List (Str×Addr)),(acc.lookup x).isSome=true->((bO env names acc).lookup x).isSome=true
 | [],_,h=>h
 | (n,k)::r,acc,h=>by
  unfold bO;by_cases hk:(k==Mx)=true
  ·rw[if_pos hk];refine iY r _ ?_;rw[He];cases hx:(x==n)with
   | true=>rfl
   | false=>exact h
  ·rw[if_neg hk];exact iY r acc h
theorem e7{env:Env}{x:Str}:∀(names:List (Str×LN)) (acc:List (Str×Addr)),(x,Mx)∈names->((bO env names acc).lookup x).isSome=true
 | [],_,h=>by cases h
 | (n,k)::r,acc,h=>by
  unfold bO;rcases ycM h with e|h
  ·cases e;rw[if_pos (by rfl)];refine iY r _ ?_;rw[He,beq_self_eq_true];rfl
  ·by_cases hk:(k==Mx)=true
   ·rw[if_pos hk];exact e7 r _ h
   ·rw[if_neg hk];exact e7 r _ h
theorem jR{x:Str}{c:Addr}:∀(names:List (Str×LN)) (n:Nat) (acc:List (Str×Addr)),(L7 n names acc).lookup x=some c->(n<=c/\(x,LS)∈names)\/acc.lookup x=some c
 | [],_,_,h=>.inr h
 | (y,k)::r,n,acc,h=>by
  unfold L7 at h;by_cases hk:(k==LS)=true
  ·rw[if_pos hk]at h;rcases jR r (n+1) _ h with⟨h1,h2⟩|h1;exact .inl ⟨by omega,ymC _ h2⟩
   ·rw[He]at h1;by_cases hx:(x==y)=true
    ·rw[hx]at h1;have hxy:x=y:=by simpa using hx
     have hkc:k=.cell:=by simpa using hk
     subst hxy hkc;cases h1;exact .inl ⟨GC _,ymS⟩
    ·have hx':(x==y)=false:=by simpa using hx
     rw[hx']at h1;exact .inr h1
  ·rw[if_neg hk]at h;rcases jR r n _ h with⟨h1,h2⟩|h1;exact .inl ⟨h1,ymC _ h2⟩;exact .inr h1
theorem pb:∀(names:List (Str×LN)) (n:Nat) (acc:List (Str×Addr)),(∀x c,acc.lookup x=some c->c<n)->(∀x y c,acc.lookup x=some c->acc.lookup y=some c->x=y) ->
  ∀x y c,(L7 n names acc).lookup x=some c->(L7 n names acc).lookup y=some c->x=y
 | [],_,_,_,hi,x,y,c,h1,h2=>hi x y c h1 h2
 | (z,k)::r,n,acc,hb,hi,x,y,c,h1,h2=>by
  unfold L7 at h1 h2;by_cases hk:(k==LS)=true
  ·rw[if_pos hk]at h1 h2;refine pb r (n+1) ((z,n)::acc) (λa b e=>?_) (λa b d e1 e2=>?_) x y c h1 h2
   ·rw[He]at e;cases q:(a==z)with
    | true=>rw[q]at e;cases e;exact Kh _
    | false=>rw[q]at e;exact Kb (hb a b e)
   ·rw[He]at e1 e2;cases q1:(a==z)with
    | true=>
     cases q2:(b==z)with
     | true=>rw[beq_iff_eq.mp q1,beq_iff_eq.mp q2]
     | false=>rw[q1]at e1;rw[q2]at e2;cases e1;exact absurd (hb b n e2) (HJ _)
    | false=>
     cases q2:(b==z)with
     | true=>rw[q1]at e1;rw[q2]at e2;cases e2;exact absurd (hb a n e1) (HJ _)
     | false=>rw[q1]at e1;rw[q2]at e2;exact hi a b d e1 e2
  ·rw[if_neg hk]at h1 h2;exact pb r n acc hb hi x y c h1 h2
theorem jS{x:Str}:∀(names:List (Str×LN)) (n:Nat) (acc:List (Str×Addr)),(x,LS)∉names->(L7 n names acc).lookup x=acc.lookup x
 | [],_,_,_=>rfl
 | (y,k)::r,n,acc,h=>by
  unfold L7;by_cases hk:(k==LS)=true
  ·rw[if_pos hk,jS r _ _ (λz=>h (ymC _ z)),He];have hkc:k=.cell:=by simpa using hk
   have hx:(x==y)=false:=by
    cases q:(x==y)with
    | false=>rfl
    | true=>exact absurd (by rw[beq_iff_eq.mp q,hkc];exact ymS) h
   rw[hx]
  ·rw[if_neg hk];exact jS r _ _ λz=>h (ymC _ z)
theorem mr{x:Str}{c:Addr}:∀(names:List (Str×LN)) (n:Nat) (acc:List (Str×Addr)),((x,LS)∈names \/ ∀c',acc.lookup x=some c'->n<=c')->(L7 n names acc).lookup x=some c->∀lo,lo<=n->(∀c',acc.lookup x=some c'->lo<=c')\/(x,LS)∈names->lo<=c
 | [],n,acc,_,h,lo,hl,h2=>by
  rcases h2 with h2|h2;exact h2 c h;cases h2
 | (y,k)::r,n,acc,_,h,lo,hl,h2=>by
  unfold L7 at h;by_cases hk:(k==LS)=true
  ·rw[if_pos hk]at h;have key:(∀c',((y,n)::acc).lookup x=some c'->lo<=c')\/(x,LS)∈r:=by
    by_cases hx:(x==y)=true
    ·refine .inl λc' e=>?_;rw[He,hx]at e;cases e;exact hl
    ·have hx':(x==y)=false:=by simpa using hx
     rcases h2 with h2|h2
     ·refine .inl λc' e=>?_;rw[He,hx']at e;exact h2 c' e
     ·rcases ycM h2 with e|h2
      ·cases e;simp at hx
      ·exact .inr h2
   have key2:(x,LS)∈r \/ ∀c',((y,n)::acc).lookup x=some c'->n+1<=c'\/True:=.inr λ_ _=>.inr trivial;rcases key with key|key
   ·by_cases hm:(x,LS)∈r;exact mr r (n+1) _ (.inl hm) h lo (by omega) (.inr hm)
    ·rw[jS r _ _ hm]at h;exact key c h
   ·exact mr r (n+1) _ (.inl key) h lo (by omega) (.inr key)
  ·rw[if_neg hk]at h;have key:(∀c',acc.lookup x=some c'->lo<=c')\/(x,LS)∈r:=by
    rcases h2 with h2|h2;exact .inl h2
    ·rcases ycM h2 with e|h2
     ·cases e;exact absurd rfl hk
     ·exact .inr h2
   by_cases hm:(x,LS)∈r;exact mr r n _ (.inl hm) h lo hl (.inr hm)
   ·rcases key with key|key
    ·rw[jS r _ _ hm]at h;exact key c h
    ·exact absurd key hm
theorem eD{x:Str}{c:Addr}:∀(names:List (Str×LN)) (h:Heap) (acc:List (Str×Addr)),(L7 h.objs.size names acc).lookup x=some c->(pushCells h names).IsCell c none\/acc.lookup x=some c
 | [],_,_,e=>.inr e
 | (y,k)::r,h,acc,e=>by
  unfold L7 at e;unfold pushCells;by_cases hk:(k==LS)=true
  ·rw[if_pos hk]at e|-;have e':(L7 (h.push {cls:=.type "cell",data:=.cell none}).objs.size r ((y,h.objs.size)::acc)).lookup x=some c:=by rw[Mg];exact e
   rcases eD r (h.push {cls:=.type "cell",data:=.cell none}) ((y,h.objs.size)::acc) e' with q|q;exact .inl q
   ·rw[He]at q;cases hx:(x==y)with
    | true=>
     rw[hx]at q;cases q;exact .inl ⟨_,Ow r _ _ _ (LK _ rfl),rfl⟩
    | false=>rw[hx]at q;exact .inr q
  ·rw[if_neg hk]at e|-;exact eD r h acc e
theorem kR{M:QV}{A:LQ}{E:LB->LD->Prop}{s:LD}{scope:MW}{globals:Addr}{cl:List (Str×Addr)}{qual:Str}{env:Env}{Q:Env->LD->Prop}
  (hQ:∀h',h'.Ns s.heap.objs.size (λ_=>none)->(∀b o,s.heap.get? b=some o->h'.get? b=some o)->(∀x c,(L7 (s.heap.objs.size+1) scope.names cl).lookup x=some c->h'.IsCell c none\/cl.lookup x=some c) ->
   Q (newEnv scope s.heap.objs.size globals (L7 (s.heap.objs.size+1) scope.names cl) qual none .none (some env) O6) {s with heap:=h'}) :
  LH M A (OJ scope globals cl [] qual none .none (some env)) Q E s:=by
 simp only[OJ,Option.isSome_some,if_true];refine LA (wpAny_alloc ?_);refine LA (wpAny_layCells _ (λname kind cells=>by cases hkc:kind==LS<;>simp[hkc]) _ _ _ _ ?_);rw[show({s with heap:=s.heap.push {cls:=.type "dict",data:=.dict #[]}}:LD).heap.objs.size=s.heap.objs.size+1 from Mg ..];rw[Ku];refine LA (LF (LF (hQ _ ?_ ?_ ?_)));exact(Heap.Ns.new s.heap (.type "dict")).keeps (Ow _ _);exact λb o e=>Ow _ _ b o (LC _ e)
 ·intro x c e;have e':(L7 (s.heap.push {cls:=.type "dict",data:=.dict #[]}).objs.size scope.names cl).lookup x=some c:=by rw[Mg];exact e
  exact eD _ _ _ e'
noncomputable def rlK(env:Env) (n:Str) (k:LN):LN:=if(k == .free&&env.scope.kind == .function&&env.kindOf n==some .cell)then .cell else k
theorem lF{env:Env}{x:Str}:∀(names:List (Str×LN)),
  (names.map λ(n,k)=>if(k==Mx&&env.scope.kind == .function&&env.kindOf n==some .cell)then(n,LS)else(n,k)).lookup x=(names.lookup x).map (rlK env x)
 | []=>rfl
 | (n,k)::r=>by
  have ih:=lF (env:=env) (x:=x) r;rw[Gs,He];have e1:(if(k==Mx&&env.scope.kind == .function&&env.kindOf n==some .cell)then(n,LS)else(n,k))=(n,rlK env n k):=by
   unfold rlK;split<;>rfl
  show IR x ((if(k==Mx&&env.scope.kind == .function&&env.kindOf n==some .cell)then(n,LS)else(n,k))::_)=_;rw[e1,He,He];cases hx:(x==n)with
  | true=>
   have e2:=beq_iff_eq.mp hx;subst e2;rfl
  | false=>exact ih
theorem f7{scope:MW}{env:Env}{x:Str}:(Pn scope env).names.lookup x=(scope.names.lookup x).map (rlK env x):=lF scope.names
structure Blk(osc sc:MW)(N N':List Str)(fr:List (Option Nat)):Prop where
 kind:sc.kind=.function
 nd:N'.Nodup
 len:fr.length=N'.length
 free:∀(i j:Nat) (x:Str),fr[i]?=some (some j)->N'[i]?=some x->N[j]?=some x/\sc.names.lookup x=some .free
 out:∀x∈sc.names,x.2=.free->(osc.names.lookup x.1=some .cell\/osc.names.lookup x.1=some .free)/\(x.1,LS)∉sc.names
 locl:∀x∈sc.names,x.2=.local->sc.names.lookup x.1=some .local
noncomputable def Dz(osc sc:MW) (N N':List Str) (fr:List (Option Nat)):Bool:=
 (sc.kind == .function)&&decide N'.Nodup&&(fr.length==N'.length) &&
 (fr.zip N').all (λp=>match p.1 with|none=>true|some j=>N[j]? == some p.2&&sc.names.lookup p.2==some .free) &&
 sc.names.all (λp=>(p.2 != .free||((osc.names.lookup p.1==some .cell||osc.names.lookup p.1==some .free) && !sc.names.contains (p.1,.cell)))&&(p.2 != .local||sc.names.lookup p.1==some .local))
theorem Blk.of{osc sc:MW}{N N':List Str}{fr:List (Option Nat)}(h:Dz osc sc N N' fr=true):Blk osc sc N N' fr:=by
 unfold Dz at h;simp only[Gz]at h;obtain⟨⟨⟨⟨h1,h2⟩,h3⟩,h4⟩,h5⟩:=h;refine⟨by simpa using h1,of_decide_eq_true h2,by simpa using h3,λi j x e1 e2=>?_,λx hx hk=>?_,λx hx hk=>?_⟩
 ·have hm:(some j,x)∈fr.zip N':=by
   refine Iz.mpr ⟨i,?_⟩;rw[HZ];exact⟨e1,e2⟩
  have:=Hw.mp h4 _ hm;simp only[Gz]at this;exact⟨by simpa using this.1,by simpa using this.2⟩
 ·have:=Hw.mp h5 x hx;simp only[Gz]at this;have t1:=this.1;rw[hk]at t1;simp only[bne_self_eq_false,JS,Gz,Jz,Hf]at t1;refine⟨t1.1.imp (λz=>by simpa using z) (λz=>by simpa using z),λhm=>?_⟩;have t2:=t1.2;rw[List.contains_iff_mem.mpr hm]at t2;cases t2
 ·have:=Hw.mp h5 x hx;simp only[Gz]at this;have t1:=this.2;rw[hk]at t1;simp only[bne_self_eq_false,JS]at t1;simpa using t1
noncomputable def cS(fr:List (Option Nat)) (Z:St):St:=fr.map λo=>match o with
 | none=>none
 | some j=>Z.getD j none
theorem iF(fr:List (Option Nat))(Z:St):(cS fr Z).length=fr.length:=by unfold cS;rw[Gv]
noncomputable def Aw(X:Cx) (scope:MW) (N':List Str) (cells:List (Str×Addr)) (C:Addr) (s:LD) (H:Hp) (ex:List Addr) (pn:List (Addr×Obj)) (xe:LB->LD->Prop):Cx where
 prog:=X.prog
 w:=X.w
 K:=X.K
 mg:=X.mg
 base:=X.base
 A:=X.A
 N:=N'
 s₀:=s
 H₀:=H
 env:=QH scope cells C X.env
 outer:=X.stack
 stack:=X.stack
 ex:=ex
 fn:=λx=>scope.names.lookup x==some .cell
 calm:=X.calm
 pn:=pn
 xe:=xe
section
variable {X:Cx}{Uq:List (Addr×Obj)}{Z:St}{H H':Hp}{s:LD}{scope:MW}{N':List Str}{fr:List (Option Nat)}{ex:List Addr}{xe:LB->LD->Prop}
theorem dI{sc:MW}{x:Str}{k:LN}(h:sc.names.lookup x=some k):(x,k)∈sc.names:=HS h
theorem Inv.freeCells(I:Inv X Uq Z H s)(B:Blk X.env.scope scope X.N N' fr):∀x∈scope.names,x.2=.free->∃c,X.env.cells.lookup x.1=some c:=λx hx hk=>I.ok.has x.1 (B.out x hx hk).1
theorem Inv.enter{h':Heap}(I:Inv X Uq Z H s)(B:Blk X.env.scope scope X.N N' fr)(hex:∀b∈ex,gX X Uq H b/\∃o,s.heap.get? b=some o)
  (hns:h'.Ns s.heap.objs.size (λ_=>none)) (hk:∀b o,s.heap.get? b=some o->h'.get? b=some o)
  (hc:∀x c,(L7 (s.heap.objs.size+1) scope.names (bO X.env scope.names [])).lookup x=some c->h'.IsCell c none\/(bO X.env scope.names []).lookup x=some c) :
  Inv (Aw X scope N' (L7 (s.heap.objs.size+1) scope.names (bO X.env scope.names [])) s.heap.objs.size s H ex (X.pn++Uq) xe) [] (cS fr Z) H {s with heap:=h'}:=by
 have hfc:=I.freeCells B;have old:∀x c,(bO X.env scope.names []).lookup x=some c->X.env.cells.lookup x=some c:=λx c e=>iZ scope.names [] hfc (λz=>by cases z) e;have lt:∀x c,X.env.cells.lookup x=some c->c<s.heap.objs.size:=λx c e=>by
  obtain⟨v,q⟩:=I.cell x c e;exact q.lt
 have cases2:∀x c,(L7 (s.heap.objs.size+1) scope.names (bO X.env scope.names [])).lookup x=some c->s.heap.objs.size+1<=c\/X.env.cells.lookup x=some c:=λx c e=>
  (jR _ _ _ e).imp (λz=>z.1) (old x c)
 have hlt:∀b∈ex,b<s.heap.objs.size:=λb hb=>by
  obtain⟨o,e⟩:=(hex b hb).2;exact LI e
 have has:∀x,scope.names.lookup x=some .cell\/scope.names.lookup x=some .free->∃c,(L7 (s.heap.objs.size+1) scope.names (bO X.env scope.names [])).lookup x=some c:=λx hx=>by
  refine Ii.mp (IH _ _ _ (hx.imp id λz=>e7 _ _ (dI z)))
 refine⟨⟨I.ok.mod,?_,I.ok.glob,I.ok.blt,GC _,?_,?_,?_,I.ok.hd,I.ok.gd,I.ok.frames,.inl rfl,?_,I.bs,Hj I.ok.bsz I.sz,?_,?_,I.stack,I.stkFree⟩,rfl,I.bare,Un.kept hk,⟨_,hns,?_⟩,?_,?_,?_,?_,I.hok.kept hk,?_⟩;exact B.kind;exact pb _ _ _ (λx c e=>Kb (lt x c (old x c e))) (λx y c e1 e2=>I.ok.inj x y c (old x c e1) (old y c e2))
 ·intro x hx;refine has x ?_;have hx':(Pn scope X.env).names.lookup x=some .cell\/(Pn scope X.env).names.lookup x=some .free:=hx;rw[f7]at hx';cases q:scope.names.lookup x with
  | none=>rw[q]at hx';rcases hx' with z|z<;>cases z
  | some k=>
   rw[q]at hx';have hx2:rlK X.env x k=.cell\/rlK X.env x k=.free:=hx'.imp (λz=>GX.inj z) (λz=>GX.inj z);unfold rlK at hx2;split at hx2
   ·rename_i hc;simp only[Gz]at hc;have:k=.free:=by simpa using hc.1.1
    rw[this];exact .inr rfl
   ·rcases hx2 with z|z<;>rw[z];exact .inl rfl;exact .inr rfl
 ·intro x c hf e;have hf':scope.names.lookup x=some .cell:=by
   have:(scope.names.lookup x==some LS)=true:=hf;simpa using this
  exact mr _ _ _ (.inl (dI hf')) e _ (JI _) (.inr (dI hf'))
 ·intro b hb;obtain⟨⟨_,_,_,_,f4,_⟩,_⟩:=hex b hb;refine⟨GN (hlt b hb),λx c e z=>?_⟩;rcases cases2 x c e with q|q
  ·rw[z]at q;exact absurd (GP (hlt b hb) (Nat.le_of_succ_le q)) (HJ _)
  ·exact f4 x c q z
 ·intro b o e hb;obtain⟨⟨_,_,_,f3,_,_⟩,_⟩:=hex b hb;rcases f3 with z|z;exact I.ok.noex b o e z;exact absurd (GP (LI e) (Hj I.ok.bsz z)) (HJ _)
 ·intro b hb hf;obtain⟨⟨_,f1,f2,_,_,_⟩,_⟩:=hex b hb;rcases ycM (I.stkSub b hf)with z|z;exact f1 z;exact f2 z
 ·intro i x v e1 e2 e3;unfold cS at e2;rw[GE]at e2;cases q:fr[i]? with
  | none=>rw[q]at e2;cases e2
  | some o=>
   rw[q]at e2;cases o with
   | none=>simp at e2
   | some j=>
    have e2':Z.getD j none=some v:=by simpa using e2
    obtain⟨b1,b2⟩:=B.free i j x q e1;have e4:Z[j]?=some (some v):=by
     rw[GM]at e2';cases q2:Z[j]? with
     | none=>rw[q2]at e2';cases e2'
     | some y=>rw[q2]at e2';simp at e2';rw[e2']
    obtain⟨o1,o2⟩:=B.out (x,.free) (dI b2) rfl;obtain⟨m,hn,hl⟩:=I.loc;have vis:Vis X.env.scope x:=o1.elim (λz=>.inr (.inl z)) λz=>.inr (.inr z);obtain⟨u,r,l⟩:=hl j x v b1 e4 vis;refine⟨u,r,.inr ?_⟩;have nl:∃c,X.env.cells.lookup x=some c/\s.heap.IsCell c (some u):=by
     rcases l with⟨kl,_⟩|⟨_,c,h1,h2⟩
     ·have kl':X.env.scope.names.lookup x=some .local:=kl;rcases o1 with z|z<;>· have z':X.env.scope.names.lookup x=_:=z;rw[kl']at z';cases z'
     ·exact⟨c,h1,h2⟩
    obtain⟨c,h1,h2⟩:=nl;have kd:(QH scope (L7 (s.heap.objs.size+1) scope.names (bO X.env scope.names [])) s.heap.objs.size X.env).kindOf x=some .cell\/(QH scope (L7 (s.heap.objs.size+1) scope.names (bO X.env scope.names [])) s.heap.objs.size X.env).kindOf x=some .free:=by
     show(Pn scope X.env).names.lookup x=some .cell\/(Pn scope X.env).names.lookup x=some .free;rw[f7,b2];show some (rlK X.env x .free)=_\/some (rlK X.env x .free)=_;unfold rlK;split;exact .inl rfl;exact .inr rfl
    refine⟨kd,c,?_,h2.keeps hk⟩;show(L7 (s.heap.objs.size+1) scope.names (bO X.env scope.names [])).lookup x=some c;rw[jS _ _ _ o2];obtain⟨c',hc'⟩:=Ii.mp (e7 (env:=X.env) scope.names [] (dI b2));rw[hc'];have:=old x c' hc';rw[h1]at this;exact this.symm
 ·intro x c e;rcases hc x c e with q|q;exact⟨_,q⟩
  ·obtain⟨v,z⟩:=I.cell x c (old x c q);exact⟨v,z.keeps hk⟩
 ·exact I.hok.fresh (GC _)
 ·intro x c e;rcases cases2 x c e with q|q
  ·exact I.hok.fresh (by omega)
  ·exact I.freeC x c q
 ·intro p hp;have hp':p∈X.pn++Uq:=by
   have:p∈(X.pn++Uq)++[]:=hp;rwa [GZ]at this
  obtain⟨e,n,ne,nf,d⟩:=I.pin p hp';refine⟨hk _ _ e,n,GN (LI e),λz=>?_,d⟩;rcases ycM (I.stkSub p.1 z)with q|q;exact ne q;exact nf q
 ·show(cS fr Z).length=N'.length;rw[iF,B.len]
theorem Inv.leave{cells:List (Str×Addr)}{C:Addr}{pins':List (Addr×Obj)}{Z':St}{s':LD}{pn:List (Addr×Obj)}(I:Inv X Uq Z H s)(hex:∀b∈ex,gX X Uq H b)
  (J:Inv (Aw X scope N' cells C s H ex pn xe) pins' Z' H' s'):Inv X Uq Z H' s':=
 I.call' J.os J.base J.hok J.bare λb hb=>by
  obtain⟨_,f1,_,f3,f4,f5⟩:=hex b hb;exact⟨f3,f1,f4,f5⟩
theorem Inv.track{d:Addr}{o:HO}(I:Inv X Uq Z H s)(hd:gX X Uq H d)(hX:d∉X.ex\/X.s₀.heap.objs.size<=d)(h0:X.s₀.heap.objs.size<=d)(new:K0 X.prog X.w (upd H d o) s.heap d o):Inv X Uq Z (upd H d o) s:=by
 obtain⟨f0,f1,f2,f3,f4,f5⟩:=hd;refine⟨I.ok,I.os,I.bare,⟨I.base.keep,I.base.slot,λb u q n hx=>?_,I.base.there,λb xs q=>?_,λb u xs q=>?_,λb ps q=>?_⟩,I.loc,I.cell,?_,λx c e=>?_,λp hp=>?_,λb u q=>?_,I.len⟩
 ·rw[upd_ne (GN (GP (LI q) h0))];exact I.base.free b u q n hx
 ·have:=I.base.tups b xs q;rw[upd_ne (be this f0)];exact this
 ·have:=I.base.frzs b u xs q;rw[upd_ne (be this f0)];exact this
 ·obtain⟨m,this⟩:=I.base.tbls b ps q;exact⟨m,by rw[upd_ne (be this f0)];exact this⟩
 ·rw[upd_ne (LO f1)];exact I.free
 ·rw[upd_ne (f4 x c e)];exact I.freeC x c e
 ·obtain⟨e,n,ne,nf,dd⟩:=I.pin p hp;exact⟨e,by rw[upd_ne (f5 p hp)];exact n,ne,nf,dd⟩
 ·by_cases hb:b=d
  ·subst hb;rw[av]at q;cases q;exact new
  ·rw[upd_ne hb]at q;exact(I.hok b u q).stay (λ_ _ _ z=>z) (λc z=>by rw[upd_ne (be z f0)];exact z) λc xs z=>by rw[upd_ne (be z f0)];exact z
end
noncomputable abbrev rh(ifs:List Expr) (env:Env):Sem Bool:=forIn ifs true λc r=>if r=true then do let ok <-O7 c env (eval c env);pure (NA ok)else pure (NA r)
theorem fX{prog:LM}{w:LU}{A:LQ}{R:QM->LD->Prop}{s:LD}{elt target iter:Expr}{ifs:List Expr}{scope:MW}{pos:Pos}{it acc:LB}{env:Env}(I:Nat->LD->Prop)
  (turn:∀n s,I n s->LH (LL prog w) A (OB it) (λr s₁=>match r with
   | none=>R (.ok .next) s₁
   | some v=>LH (LL prog w) A (Nx target it v) (λ_ s₁'=>LH (LL prog w) A (Nh target env v) (λ_ s₂=>
     LH (LL prog w) A (rh ifs env) (λok s₃=>
      if ok=true then LH (LL prog w) A (eval elt env) (λx s₄=>
       LH (LL prog w) A (call (.builtin "list.append") [acc,x]) (λ_ s₅=>∃m,m<n/\I m s₅) (Po (LL prog w) A env λe s'=>R (.error e) s') s₄) (Po (LL prog w) A env λe s'=>R (.error e) s') s₃
      else∃m,m<n/\I m s₃) (Po (LL prog w) A env λe s'=>R (.error e) s') s₂) (Po (LL prog w) A env λe s'=>R (.error e) s') s₁') (Po (LL prog w) A env λe s'=>R (.error e) s') s₁) (Po (LL prog w) A env λe s'=>R (.error e) s') s)
  (n:Nat) (h:I n s):Np (LL prog w) A (.compLoop (.ListComp elt [⟨target,iter,ifs,0⟩] scope pos) 0 it acc env) R s:=by
 refine codeAny_loop rfl I (λn s hI=>?_) n h;show LH _ A ((compTurn (.ListComp elt [⟨target,iter,ifs,0⟩] scope pos) 0 it acc env).onRaise (λx=>do noteFrame x env;theTreesLotGoes x)) _ _ s;refine wpAny_noted ?_;rw[compTurn_list];refine LA (MZ (LA (Mr (turn n s hI) (λr s₁ h₁=>?_) λ_ _ h'=>h')));cases r with
 | none=>exact LF h₁
 | some v=>
  refine LA (Mr h₁ (λ_ s₁' h₁'=>?_) λ_ _ h'=>h');refine LA (Mr h₁' (λ_ s₂ h₂=>LA (Mr h₂ (λok s₃ h₃=>?_) λ_ _ h'=>h')) λ_ _ h'=>h');cases ok with
  | false=>exact LF ⟨rfl,h₃⟩
  | true=>
   exact LA (LA (Mr h₃ (λx s₄ h₄=>LA (Mr h₄ (λ_ s₅ h₅=>LF (LF ⟨rfl,h₅⟩)) λ_ _ h'=>h')) λ_ _ h'=>h'))
def PTs(X:Cx)(ifs:List Expr)(t:TT):Prop:=
 ∀(Uq:List (Addr×Obj)) (s:LD) (Z:St) (H:Hp) (Q:Bool->Hp->Prop),Inv X Uq Z H s->t Z H Q->LH (LL X.prog X.w) X.A (rh ifs X.env) (TP X Uq Z Q) X.xe s
def Fv:TT:=λ_ H Q=>Q true H
theorem yr{X:Cx}:PTs X [] Fv:=λ_ _ _ H _ I h=>wpAny_tests_nil ⟨H,I,h⟩
theorem yt{X:Cx}{c:Expr}{t:TT}(h:PT X c t):PTs X [c] t:=λUq s Z H Q I q=>wpAny_tests_one (h Uq s Z H Q I q)
def Kp(fr:List (Option Nat))(Z Z':St):Prop:=Z'.length=Z.length/\∀i j:Nat,fr[i]?=some (some j)->Z'[i]?=Z[i]?
theorem Kp.refl(fr:List (Option Nat))(Z:St):Kp fr Z Z:=⟨rfl,λ_ _ _=>rfl⟩
theorem Kp.trans{fr:List (Option Nat)}{Z Z' Z'':St}(a:Kp fr Z Z')(b:Kp fr Z' Z''):Kp fr Z Z'':=⟨b.1.trans a.1,λi j e=>(b.2 i j e).trans (a.2 i j e)⟩
def iu(fr:List (Option Nat))(g:TG):Prop:=∀v Z H (Q Q':St->Hp->Prop),(∀Z' H',Q Z' H'->Kp fr Z Z'->Q' Z' H')->g v Z H Q->g v Z H Q'
def jM(fr:List (Option Nat))(g:TGs):Prop:=∀v Z H (Q Q':St->Hp->Prop),(∀Z' H',Q Z' H'->Kp fr Z Z'->Q' Z' H')->g v Z H Q->g v Z H Q'
theorem xr{fr:List (Option Nat)}{i:Nat}(h:fr[i]?=some none):iu fr (lu i):=λv Z H Q Q' k q=>by
 refine k _ _ q ⟨IE,λi' j e=>?_⟩;have:i≠i':=λz=>by subst z;rw[h]at e;cases e
 exact GO this
theorem AI{fr:List (Option Nat)}:jM fr AG:=λv Z H Q Q' k q=>⟨q.1,k _ _ q.2 (Kp.refl _ _)⟩
theorem xq{fr:List (Option Nat)}{g:TG}{gs:TGs}(h1:iu fr g)(h2:jM fr gs):jM fr (ua g gs):=λvs Z H Q Q' k q=>by
 obtain⟨v,r,e,q⟩:=q;refine⟨v,r,e,h1 v Z H _ _ (λZ1 H1 q1 k1=>h2 r Z1 H1 _ _ (λZ2 H2 q2 k2=>k Z2 H2 q2 (k1.trans k2)) q1) q⟩
theorem AJ{fr:List (Option Nat)}{K:yF}{n:Nat}{gs:TGs}(h:jM fr gs):iu fr (xp K n gs):=λv Z H Q Q' k q=>by
 obtain⟨a,xs,e1,e2,e3,q⟩:=q;exact⟨a,xs,e1,e2,e3,h xs Z H Q Q' k q⟩
structure Bk where
 cells:List (Str×Addr)
 C:Addr
 s:LD
 H:Hp
 ex:List Addr
 pn:List (Addr×Obj)
noncomputable abbrev cxB(X:Cx) (scope:MW) (N':List Str) (b:Bk):Cx:=Aw X scope N' b.cells b.C b.s b.H b.ex b.pn λ_ _=>False
def wy(wi:TI)(fr:List (Option Nat))(g:TG)(tc:TT)(te:TE):TE:=λZ H Q=>
 wi Z H λJ H1=>∃W:Nat->Nat->List V->Hp->Prop,(∃m,W 0 m [] H1)/\∀i m acc H,W i m acc H->acc.length<sizeLine /\
  ((J.stop i H/\∀d,H d=none->Q (.ref d) (upd H d (.lst acc))) \/
  (J.go i H/\∃N:List V->Hp->Prop,(∀acc' H',N acc' H'->∃m',m'<m/\W (i+1) m' acc' H') /\
   ∀x H',J.yld i H x H'->g x (cS fr Z) H' λZ2 H2=>tc Z2 H2 λb H3=>if b=true then te Z2 H3 λv H4=>N (acc++[v]) H4 else N acc H3))
section
variable {X:Cx}{elt tg iter:Expr}{ifs:List Expr}{scope:MW}{pos:Pos}{N':List Str}{fr:List (Option Nat)}{wi:TI}{g:TG}{tc:TT}{te:TE}
theorem jT(hc:X.calm=true)(B:Blk X.env.scope scope X.N N' fr)
  (hg:∀b,PG (cxB X scope N' b) tg g) (hgk:iu fr g) (ht:∀b,PTs (cxB X scope N' b) ifs tc) (he:∀b,PE (cxB X scope N' b) elt te)
  {Uq:List (Addr×Obj)} {Z:St} {Q:VK} {itv:LB} {s2:LD} {E:LB->LD->Prop} {RR:LB->Addr->QM->LD->Prop}
  (h2:PIE X Uq Z tg (λJ H1=>∃W:Nat->Nat->List V->Hp->Prop,(∃m,W 0 m [] H1)/\∀i m acc H,W i m acc H->acc.length<sizeLine /\
   ((J.stop i H/\∀d,H d=none->Q (.ref d) (upd H d (.lst acc))) \/
   (J.go i H/\∃N:List V->Hp->Prop,(∀acc' H',N acc' H'->∃m',m'<m/\W (i+1) m' acc' H') /\
    ∀x H',J.yld i H x H'->g x (cS fr Z) H' λZ2 H2=>tc Z2 H2 λb H3=>if b=true then te Z2 H3 λv H4=>N (acc++[v]) H4 else N acc H3))) itv s2)
  (hRR:∀(d C:Addr) (v:V) (H':Hp) (s':LD) m',Inv X Uq Z H' s'->v=.ref d->Q v H'->s'.heap.Ns C m'->gX X Uq H' C->C≠d->RR (.ref d) C (.ok .next) s') :
  LH (LL X.prog X.w) X.A (newList []) (λacc s₃=>LH (LL X.prog X.w) X.A (OJ scope X.env.globals (bO X.env scope.names []) [] X.env.qual none .none (some X.env)) (λcenv s₄=>
   Np (LL X.prog X.w) X.A (.compStart (.ListComp elt [⟨tg,iter,ifs,0⟩] scope pos) 0 itv acc {cenv with scope:=Pn scope X.env}) (RR acc cenv.locals) s₄) E s₃) E s2:=by
 obtain⟨it,fp,tn,J,H2,rfl,I2,T,st2,f2,W,⟨m0,w0⟩,turn⟩:=h2;refine LP ?_;generalize hd:s2.heap.objs.size=d;have I3:Inv X Uq Z H2 {s2 with heap:=s2.heap.push {cls:=.type "list",dict:=none,data:=.seq ([]:List LB).toArray}}:=I2.kept (t':=s2.toks) λb o e=>LC _ e;have fd:gX X Uq H2 d:=I2.fpOk (by rw[hd];exact GC _) (I2.hok.fresh (by rw[hd];exact GC _));have od:(s2.heap.push {cls:=.type "list",dict:=none,data:=.seq ([]:List LB).toArray}).get? d=some {cls:=.type "list",dict:=none,data:=.seq ([]:List LB).toArray}:=by rw[<-hd];exact LK _ rfl
 have st3:tn 0 (s2.heap.push {cls:=.type "list",dict:=none,data:=.seq ([]:List LB).toArray}):=T.keep _ _ _ st2 λb _ o e=>LC _ e;have ne_d:∀b∈fp,b≠d:=λb hb=>by
  obtain⟨o,e,_⟩:=T.obj _ _ st2 b hb;rw[<-hd];exact GN (LI e)
 have hd0:X.s₀.heap.objs.size<=d:=by rw[<-hd];exact I2.sz
 generalize hs3:({s2 with heap:=s2.heap.push {cls:=.type "list",dict:=none,data:=.seq ([]:List LB).toArray}}:LD)=s3 at I3;have od3:s3.heap.get? d=some {cls:=.type "list",dict:=none,data:=.seq ([]:List LB).toArray}:=by rw[<-hs3];exact od
 have st3':tn 0 s3.heap:=by rw[<-hs3];exact st3
 have hex:∀b∈d::fp,gX X Uq H2 b/\∃o,s3.heap.get? b=some o:=λb hb=>by
  rcases ycM hb with e|hb;subst e;exact⟨fd,_,od3⟩
  ·obtain⟨o,e,_⟩:=T.obj _ _ st3' b hb;exact⟨f2 b hb,o,e⟩
 refine kR λh4 hns hk hcl=>?_;have J0:=I3.enter (ex:=d::fp) (xe:=λ_ _=>False) B hex hns hk hcl;generalize hCs:L7 (s3.heap.objs.size+1) scope.names (bO X.env scope.names [])=cells at J0;have hCd:s3.heap.objs.size≠d:=λz=>by have:=LI od3;rw[z]at this;exact HJ _ this
 let bk:Bk:=⟨cells,s3.heap.objs.size,s3,H2,d::fp,X.pn++Uq⟩
 have J0':Inv (cxB X scope N' bk) [] (cS fr Z) H2 {s3 with heap:=h4}:=J0;show Np (LL X.prog X.w) X.A (.compStart (.ListComp elt [⟨tg,iter,ifs,0⟩] scope pos) 0 (.ref it) (.ref d) (cxB X scope N' bk).env) (RR (.ref d) s3.heap.objs.size) {s3 with heap:=h4};have ne_pn:∀p∈X.pn++Uq,p.1≠d/\∀b∈fp,p.1≠b:=λp hp=>⟨fd.2.2.2.2.2 p hp,λb hb=>(f2 b hb).2.2.2.2.2 p hp⟩;have fpk:∀{Hx:Hp} {o:Obj},(∀b∈fp,Hx b=none)->∀b∈fp,gX (cxB X scope N' bk) [(d,o)] Hx b:=λ{Hx o} hn b hb=>by
  have hb':b∈d::fp:=ymC _ hb;refine⟨hn b hb,(J0'.ok.exf b hb').1,J0'.ok.exfs b hb',.inl hb',λx c e=>(J0'.ok.exf b hb').2 x c e,λp hp=>?_⟩;have hp':p∈(X.pn++Uq)++[(d,o)]:=hp;rcases yaM hp' with z|z;exact(ne_pn p z).2 b hb
  ·have:p=(d,o):=by simpa using z
   rw[this];exact LO (ne_d b hb)
 have loop:∀s4:LD,Inv (cxB X scope N' bk) [] (cS fr Z) H2 s4->tn 0 s4.heap->s4.heap.PlainList d #[] ->
   Np (LL X.prog X.w) X.A (.compLoop (.ListComp elt [⟨tg,iter,ifs,0⟩] scope pos) 0 (.ref it) (.ref d) (cxB X scope N' bk).env) (RR (.ref d) s3.heap.objs.size) s4:=by
  intro s4 J4 st4 pl4;refine fX (λn s'=>∃i acc its H' Z',Inv (cxB X scope N' bk) [] Z' H' s'/\Kp fr (cS fr Z) Z'/\tn i s'.heap/\(∀b∈fp,H' b=none)/\H' d=none/\s'.heap.PlainList d (List.toArray its)/\Vals acc its/\W i n acc H') ?_ m0
   ⟨0,[],[],H2,cS fr Z,J4,Kp.refl _ _,st4,λb hb=>(f2 b hb).1,fd.1,pl4,.nil,w0⟩
  rintro n s5 ⟨i,acc,its,H5,Z5,J5,kp5,st5,fr5,hd5,⟨n5,pl5⟩,va5,w5⟩;obtain⟨hz,cs⟩:=turn i n acc H5 w5;have J5p:Inv (cxB X scope N' bk) [(d,{cls:=.type "list",data:=.seq its.toArray n5})] Z5 H5 s5:=J5.pins_of λp hp=>by
   have:p=(d,{cls:=.type "list",data:=.seq its.toArray n5}):=by simpa using hp
   subst this;exact⟨pl5,hd5,(J0'.ok.exf d ymS).1,J0'.ok.exfs d ymS,λv z=>by cases z⟩
  rcases cs with⟨stop,q⟩|⟨go,N,hN,step⟩
  ·refine thn (T.done (cxB X scope N' bk) rfl rfl rfl hc i _ s5 Z5 H5 _ J5p (fpk fr5) st5 stop) λr s6 ⟨hr,J6⟩=>?_;subst hr;obtain⟨e6,n6,_⟩:=J6.pin (d,{cls:=.type "list",data:=.seq its.toArray n5}) (yaR _ (by simp));have I6:Inv X Uq Z H5 s6:=I3.leave (λb hb=>(hex b hb).1) J6;have I6t:Inv X Uq Z (upd H5 d (.lst acc)) s6:=I6.track ⟨hd5,fd.2⟩ (.inr hd0) hd0 ⟨by omega,its,n5,va5,e6⟩;obtain⟨m6,hn6,_⟩:=J6.loc;refine hRR d s3.heap.objs.size (.ref d) _ s6 m6 I6t rfl (q d hd5) hn6 ?_ hCd;exact I3.fpOk (GC _) (by rw[upd_ne hCd];exact J6.free)
  ·refine thn (T.item (cxB X scope N' bk) rfl rfl rfl hc i _ s5 Z5 H5 _ J5p (fpk fr5) st5 go) λr s6 ⟨u,hr,h6⟩=>?_;subst hr;refine thn h6 λ_ s7 ⟨x,H7,J7,r7,y7,st7,fr7⟩=>?_;have J7w:Inv (cxB X scope N' bk) [(d,{cls:=.type "list",data:=.seq its.toArray n5})] (cS fr Z) H7 s7:=J7.weak kp5.1.symm λk v e=>by
    cases q:fr[k]? with
    | none=>
     unfold cS at e;rw[GE,q]at e;cases e
    | some o=>
     cases o with
     | none=>
      unfold cS at e;rw[GE,q]at e;simp at e
     | some j=>rw[kp5.2 k j q];exact e
   have J7p:=J7w.pinned (fpk fr7) (T.obj _ _ st7);have never:∀{α:Type} {t:Sem α} {QQ : α->LD->Prop} {EE:LB->LD->Prop} {ss:LD},LH (LL X.prog X.w) X.A t QQ (λ_ _=>False) ss->LH (LL X.prog X.w) X.A t QQ EE ss:=λhh=>Mr hh (λ_ _ z=>z) λ_ _ z=>z.elim;have G:=hgk x (cS fr Z) H7 _ (λZ2 H2=>(tc Z2 H2 λb H3=>if b=true then te Z2 H3 λv H4=>N (acc++[v]) H4 else N acc H3)/\Kp fr (cS fr Z) Z2) (λZ' H' a b=>⟨a,b⟩) (step x H7 y7);refine never (thn (hg bk _ s7 (cS fr Z) H7 x u _ J7p r7 G) λ_ s8 ⟨Z8,H8,J8,q8,kp8⟩=>?_);refine never (thn (ht bk _ s8 Z8 H8 _ J8 q8) λok s9 ⟨H9,J9,q9⟩=>?_);have keepT:∀{Zx:St} {Hx:Hp} {sx:LD},Inv (cxB X scope N' bk) ([(d,{cls:=.type "list",data:=.seq its.toArray n5})]++kz fp s7.heap) Zx Hx sx->(∀b∈fp,∀o,s7.heap.get? b=some o->sx.heap.get? b=some o)/\(∀b∈fp,Hx b=none)/\sx.heap.get? d=some {cls:=.type "list",data:=.seq its.toArray n5}/\Hx d=none:=λ{Zx Hx sx} Jx=>by
    refine⟨λb hb o e=>(Jx.pin (b,o) (yaR _ (yaR _ (fq hb e)))).1,λb hb=>?_,?_⟩
    ·obtain⟨o,e,_⟩:=T.obj _ _ st7 b hb;exact(Jx.pin (b,o) (yaR _ (yaR _ (fq hb e)))).2.1
    ·have:=Jx.pin (d,{cls:=.type "list",data:=.seq its.toArray n5}) (yaR _ (yaL _ (by simp)));exact⟨this.1,this.2.1⟩
   cases ok with
   | false=>
    rw[if_neg (by decide)]at q9|-;obtain⟨m',hm,w9⟩:=hN _ _ q9;obtain⟨k1,k2,k3,k4⟩:=keepT J9;exact⟨m',hm,i+1,acc,its,H9,Z8,J9.pins_of (λp hp=>by simp at hp),kp8,T.keep _ _ _ st7 k1,k2,k4,⟨n5,k3⟩,va5,w9⟩
   | true=>
    rw[if_pos rfl]at q9|-;refine never (thn (he bk _ s9 Z8 H9 _ J9 q9) λy s10 ⟨v,H10,J10,r10,q10⟩=>?_);obtain⟨m',hm,w10⟩:=hN _ _ q10;obtain⟨k1,k2,k3,k4⟩:=keepT J10;have hzs:its.toArray.size<=sizeLine:=by rw[Gw,<-va5.length];omega
    refine wpAny_list_append_plain (hsz:=hzs) ⟨n5,k3⟩ λh11 pl11 sb11=>?_;have J10':Inv (cxB X scope N' bk) [] Z8 H10 s10:=J10.pins_of (λp hp=>by simp at hp);have J11:Inv (cxB X scope N' bk) [] Z8 H10 {s10 with heap:=h11}:=J10'.turned (it:=d) (t':=s10.toks) (λb o hb e=>(sb11.2 b hb).trans e) k4 (J0'.ok.exf d ymS).1 (.inl ymS) (λx c e=>(J0'.ok.exf d ymS).2 x c e) λp hp=>by
     have hp':p∈(X.pn++Uq)++[]:=hp;rw[GZ]at hp';exact(ne_pn p hp').1
    refine⟨m',hm,i+1,acc++[v],its++[y],H10,Z8,J11,kp8,T.keep _ _ _ st7 (λb hb o e=>(sb11.2 b (ne_d b hb)).trans (k1 b hb o e)),k2,k4,?_,va5.append (.cons r10 .nil),w10⟩;have:(its++[y]).toArray=its.toArray.push y:=by simp
    rw[this];exact pl11
 have st4:tn 0 h4:=T.keep _ _ _ st3' λb _ o e=>hk b o e;have pl4:h4.PlainList d #[]:=⟨0,hk d _ od3⟩;have L4:=loop {s3 with heap:=h4} J0' st4 pl4;exact codeAny_compStart_list L4 (T.self X.A 0 _ _ _ st4 L4)
theorem xW(hc:X.calm=true)(B:Blk X.env.scope scope X.N N' fr)(hi:PI X tg iter wi)
  (hg:∀b,PG (cxB X scope N' b) tg g) (hgk:iu fr g) (ht:∀b,PTs (cxB X scope N' b) ifs tc) (he:∀b,PE (cxB X scope N' b) elt te)
  (hs:∀x,MD iter X.env x=pure x:=by intro _;rfl):PE X (.ListComp elt [⟨tg,iter,ifs,0⟩] scope pos) (wy wi fr g tc te):=by
 intro Uq s Z H Q I h;rw[eval_ListComp];refine N7 (use:=none) rfl hs (gY (I.freeCells B)) B.kind B.locl (thn (hi Uq s Z H _ I h) λv s1 h1=>thn h1 λitv s2 h2=>?_);refine jT (RR:=λacc C=>compPost (LL X.prog X.w) X.A X.xe none (EP X Uq Z Q) acc C) hc B hg hgk ht he h2 ?_;intro d C v H' s' m' I' hv q hn fC hCd;refine⟨m',hn,λh'' sb=>?_⟩;obtain⟨c0,c1,c2,c3,c4,c5⟩:=fC;exact⟨v,H',I'.turned (it:=C) (t':=s'.toks) (λb o hb e=>(sb.2 b hb).trans e) c0 c1 c3 c4 c5,by rw[hv];rfl,q⟩
theorem pP{i:Nat}{x:Str}{pos' spos:Pos}(hc:X.calm=true)(hN:X.N.Nodup)(hi':X.N[i]?=some x)(hx:X.env.scope.names.lookup x=some .local)(B:Blk X.env.scope scope X.N N' fr)(hi:PI X tg iter wi)
  (hg:∀b,PG (cxB X scope N' b) tg g) (hgk:iu fr g) (ht:∀b,PTs (cxB X scope N' b) ifs tc) (he:∀b,PE (cxB X scope N' b) elt te)
  (hsw:Oa (.ListComp elt [⟨tg,iter,ifs,0⟩] scope pos) (some (.Name x pos')) spos.line X.env=pure true:=by rfl)
  (hs:∀x,MD iter X.env x=pure x:=by intro _;rfl):PS X (.Assign [.Name x pos'] (.ListComp elt [⟨tg,iter,ifs,0⟩] scope pos) spos) (zj (wy wi fr g tc te) (lu i)):=by
 intro Uq s Z H D I h;rw[exec_Assign_Name_used _ _ _ _ hsw];refine LA (MZ (LA ?_));show LH _ _ (do let _ <-comprehension (.ListComp elt [⟨tg,iter,ifs,0⟩] scope pos) scope X.env _ (newList []) false (eval iter X.env) (some (Nh (.Name x pos') X.env))) _ _ s;refine LA (Mr (N7 (use:=some (Nh (.Name x pos') X.env)) (Q:=λ_ s'=>SP X Uq D .next s') rfl hs (gY (I.freeCells B)) B.kind B.locl (thn (hi Uq s Z H _ I h) λv s1 h1=>thn h1 λitv s2 h2=>?_)) (λ_ s' hq=>LF (LF hq)) λ_ _ e=>e);refine jT (Q:=λv H1=>lu i v Z H1 D.nx) (RR:=λacc C=>compPost (LL X.prog X.w) X.A X.xe (some (Nh (.Name x pos') X.env)) (λ_ s'=>SP X Uq D .next s') acc C) hc B hg hgk ht he h2 ?_;intro d C v H' s' m' I' hv q hn fC hCd;obtain⟨c0,c1,c2,c3,c4,c5⟩:=fC;subst hv;refine Ph (lX I' hN hi' (.inl hx) (show RelV (.ref d) (.ref d)from rfl) (λs6 I6 ⟨a,sa,ha⟩=>?_) (.inr hx));have haC:C≠a:=by
  rcases ha with z|z;rw[z];exact c1;exact λz'=>c4 x a z z'.symm
 refine⟨m',hn.sameBut sa haC,λh'' sb=>?_⟩;exact⟨_,H',I6.turned (it:=C) (t':=s6.toks) (λb o hb e=>(sb.2 b hb).trans e) c0 c1 c3 c4 c5,q⟩
end
inductive D where
 | int (i:Int)|str (x:Str)|tup (ds:List D)
mutual
def Rep(K:yF)(H:Hp):D->V->Prop
 | .int i,v=>v=.int i
 | .str x,v=>v=.str x
 | .tup ds,v=>∃a xs,v=.ref a/\SqT K H a xs/\K1 K H ds xs
def K1(K:yF)(H:Hp):List D->List V->Prop
 | [],xs=>xs=[]
 | d::ds,xs=>∃x r,xs=x::r/\Rep K H d x/\K1 K H ds r
end
mutual
noncomputable def D.depth:D->Nat
 | .int _=>0
 | .str _=>0
 | .tup ds=>aJ ds+1
noncomputable def aJ:List D->Nat
 | []=>0
 | d::ds=>max d.depth (aJ ds)
end
theorem lq{d:D}:∀{ds:List D},d∈ds->d.depth<=aJ ds
 | [],h=>by cases h
 | e::ds,h=>by
  rw[aJ];rcases ycM h with z|z;rw[z];exact JA _ _;exact Hj (lq z) (Jm _ _)
theorem K1.length{K:yF}{H:Hp}:∀{ds:List D} {xs:List V},K1 K H ds xs->xs.length=ds.length
 | [],xs,h=>by rw[K1]at h;rw[h];rfl
 | d::ds,xs,h=>by
  rw[K1]at h;obtain⟨x,r,rfl,_,h3⟩:=h;rw[GI,GI,h3.length]
theorem Rep.tup_iff{K:yF}{H:Hp}{ds:List D}{v:V}:Rep K H (.tup ds) v ↔ ∃a xs,v=.ref a/\SqT K H a xs/\K1 K H ds xs:=by rw[Rep]
theorem K7.laid{H:Hp}{p:Addr}{o:HO}(hp:H p=none):K7 H (upd H p o):=λb u e=>by rw[upd_ne (be e hp)];exact e
section
variable {X:Cx}{Uq:List (Addr×Obj)}{Z:St}{H:Hp}{s:LD}
mutual
theorem Rep.inj(I:Inv X Uq Z H s):∀{d e:D} {v:V},Rep X.K H d v->Rep X.K H e v->d=e
 | .int i,.int j,v,h,h'=>by simp only[Rep]at h h';subst h;cases h';rfl
 | .int i,.str j,v,h,h'=>by simp only[Rep]at h h';subst h;cases h'
 | .int i,.tup j,v,h,h'=>by simp only[Rep]at h h';subst h;obtain⟨_,_,z,_⟩:=h';cases z
 | .str i,.int j,v,h,h'=>by simp only[Rep]at h h';subst h;cases h'
 | .str i,.str j,v,h,h'=>by simp only[Rep]at h h';subst h;cases h';rfl
 | .str i,.tup j,v,h,h'=>by simp only[Rep]at h h';subst h;obtain⟨_,_,z,_⟩:=h';cases z
 | .tup i,.int j,v,h,h'=>by simp only[Rep]at h h';subst h';obtain⟨_,_,z,_⟩:=h;cases z
 | .tup i,.str j,v,h,h'=>by simp only[Rep]at h h';subst h';obtain⟨_,_,z,_⟩:=h;cases z
 | .tup ds,.tup es,v,h,h'=>by
  simp only[Rep]at h h';obtain⟨a,xs,rfl,h2,h3⟩:=h;obtain⟨b,ys,z,h4,h5⟩:=h';cases z;rw[I.tuple_inj h4 h2]at h5;rw[K1.inj I h3 h5]
theorem K1.inj(I:Inv X Uq Z H s):∀{ds es:List D} {xs:List V},K1 X.K H ds xs->K1 X.K H es xs->ds=es
 | [],[],xs,h,h'=>rfl
 | [],e::es,xs,h,h'=>by simp only[K1]at h h';subst h;obtain⟨_,_,z,_⟩:=h';cases z
 | d::ds,[],xs,h,h'=>by simp only[K1]at h h';subst h';obtain⟨_,_,z,_⟩:=h;cases z
 | d::ds,e::es,xs,h,h'=>by
  simp only[K1]at h h';obtain⟨x,r,rfl,h2,h3⟩:=h;obtain⟨y,q,z,h4,h5⟩:=h';cases z;rw[Rep.inj I h2 h4,K1.inj I h3 h5]
end
open SeqAt in
mutual
theorem tY(I:Inv X Uq Z H s):∀(d e:D) {x y:V} {u v:LB} {A:LQ},Rep X.K H d x->Rep X.K H e y->RelV x u->RelV y v->A.units+d.depth<Mm->∃b,(b=true↔d=e)/\EqAt A s u v b
 | .int i,.int j,x,y,u,v,A,h,h',r,r',_=>by
  simp only[Rep]at h h';subst h h';obtain⟨t,rfl⟩:=r;obtain⟨t',rfl⟩:=r';exact⟨_,by simp,EqAt.int_int i t j t'⟩
 | .int i,.str j,x,y,u,v,A,h,h',r,r',_=>by
  simp only[Rep]at h h';subst h h';obtain⟨t,rfl⟩:=r;obtain⟨t',rfl⟩:=r';exact⟨_,by simp,EqAt.int_str i t j t'⟩
 | .str i,.int j,x,y,u,v,A,h,h',r,r',_=>by
  simp only[Rep]at h h';subst h h';obtain⟨t,rfl⟩:=r;obtain⟨t',rfl⟩:=r';exact⟨_,by simp,EqAt.str_int i t j t'⟩
 | .str i,.str j,x,y,u,v,A,h,h',r,r',_=>by
  simp only[Rep]at h h';subst h h';obtain⟨t,rfl⟩:=r;obtain⟨t',rfl⟩:=r';exact⟨_,by simp,EqAt.str_str i t j t'⟩
 | .int i,.tup j,x,y,u,v,A,h,h',r,r',hu=>by
  simp only[Rep]at h h';subst h;obtain⟨t,rfl⟩:=r;obtain⟨a,xs,rfl,h2,_⟩:=h';cases r';obtain⟨its,_,p,_⟩:=I.tuple h2;exact⟨false,by simp,EqAt.int_tuple i t (show s.heap.IsTuple a its.toArray from p) (HH (Hv _ _) hu)⟩
 | .str i,.tup j,x,y,u,v,A,h,h',r,r',hu=>by
  simp only[Rep]at h h';subst h;obtain⟨t,rfl⟩:=r;obtain⟨a,xs,rfl,h2,_⟩:=h';cases r';obtain⟨its,_,p,_⟩:=I.tuple h2;exact⟨false,by simp,EqAt.str_tuple i t (show s.heap.IsTuple a its.toArray from p) (HH (Hv _ _) hu)⟩
 | .tup j,.int i,x,y,u,v,A,h,h',r,r',hu=>by
  simp only[Rep]at h h';subst h';obtain⟨t,rfl⟩:=r';obtain⟨a,xs,rfl,h2,_⟩:=h;cases r;obtain⟨its,_,p,_⟩:=I.tuple h2;exact⟨false,by simp,EqAt.tuple_int i t (show s.heap.IsTuple a its.toArray from p) (HH (Hv _ _) hu)⟩
 | .tup j,.str i,x,y,u,v,A,h,h',r,r',hu=>by
  simp only[Rep]at h h';subst h';obtain⟨t,rfl⟩:=r';obtain⟨a,xs,rfl,h2,_⟩:=h;cases r;obtain⟨its,_,p,_⟩:=I.tuple h2;exact⟨false,by simp,EqAt.tuple_str i t (show s.heap.IsTuple a its.toArray from p) (HH (Hv _ _) hu)⟩
 | .tup ds,.tup es,x,y,u,v,A,h,h',r,r',hu=>by
  by_cases hne:u=v
  ·subst hne;have hxy:x=y:=r.inj r';subst hxy;exact⟨true,by simp[Rep.inj I h h'],EqAt.same u⟩
  ·simp only[Rep]at h h';obtain⟨a,xs,rfl,h2,h3⟩:=h;obtain⟨b,ys,rfl,h4,h5⟩:=h';cases r;cases r';obtain⟨its,rv,p,_⟩:=I.tuple h2;obtain⟨its',rv',p',_⟩:=I.tuple h4;have hab:a≠b:=λz=>hne (by rw[z]);have hu':A.in1.units+aJ ds<Mm:=by
    have:A.units+(aJ ds+1)<Mm:=by rw[D.depth]at hu;exact hu
    show A.units+1+aJ ds<Mm;omega
   obtain⟨e,he,hE⟩:=fc I ds es (A:=A.in1) h3 h5 rv rv' hu';have R:=RcAt.tuples (A:=A) (s:=s) (l:=a) (b:=b) (items:=its.toArray) (items2:=its'.toArray) (e:=e) (show s.heap.IsTuple a its.toArray from p) (show s.heap.IsTuple b its'.toArray from p') (HH (Hv _ _) hu) (λj h1 h2=>by
    simpa using hE j (its[j]'(by simpa using h1)) (its'[j]'(by simpa using h2)) (by simp) (by simp))
   refine⟨_,?_,EqAt.of_refs hab R⟩;rw[he.symm];have l1:its.toArray.size=ds.length:=by rw[Gw,<-rv.length,h3.length]
   have l2:its'.toArray.size=es.length:=by rw[Gw,<-rv'.length,h5.length]
   rw[l1,l2];simp
theorem fc(I:Inv X Uq Z H s):∀(ds es:List D) {xs ys:List V} {us vs:List LB} {A:LQ},K1 X.K H ds xs->K1 X.K H es ys->Vals xs us->Vals ys vs->A.units+aJ ds<Mm ->
  ∃e:Nat->Bool,(((G9 (min ds.length es.length)).all e=true/\ds.length=es.length)↔D.tup ds=D.tup es)/\∀(j:Nat) u v,us[j]?=some u->vs[j]?=some v->EqAt A s u v (e j)
 | [],es,xs,ys,us,vs,A,h,h',r,r',_=>by
  rw[K1]at h;subst h;cases r;refine⟨λ_=>true,?_,λj u v e=>by simp at e⟩;cases es<;>simp
 | d::ds,[],xs,ys,us,vs,A,h,h',r,r',_=>by
  rw[K1]at h';subst h';cases r';exact⟨λ_=>true,by simp,λj u v _ e=>by simp at e⟩
 | d::ds,e::es,xs,ys,us,vs,A,h,h',r,r',hu=>by
  simp only[K1]at h h';obtain⟨x,q,rfl,h2,h3⟩:=h;obtain⟨y,q',rfl,h4,h5⟩:=h';cases r with
  | cons r1 r2=>
   cases r' with
   | cons r3 r4=>
    rw[aJ]at hu;have m1:=JA d.depth (aJ ds);have m2:=Jm d.depth (aJ ds);obtain⟨b,hb,hB⟩:=tY I d e (A:=A) h2 h4 r1 r3 (by omega);obtain⟨f,hf,hF⟩:=fc I ds es (A:=A) h3 h5 r2 r4 (by omega);refine⟨λj=>match j with|0=>b|j+1=>f j,?_,λj u v e1 e2=>?_⟩
    ·have hf':((G9 (min ds.length es.length)).all f=true/\ds.length=es.length)↔ds=es:=by rw[hf];simp
     rw[GI,GI,Nat.succ_min_succ,List.range_succ_eq_map,HL,KC];simp only[D.tup.injEq,HE.injEq,Gz,Nat.add_right_cancel_iff];rw[<-hf',<-hb];constructor;rintro⟨⟨a1,a2⟩,a3⟩;exact⟨a1,a2,a3⟩;rintro⟨a1,a2,a3⟩;exact⟨⟨a1,a2⟩,a3⟩
    ·cases j with
     | zero=>simp at e1 e2;subst e1 e2;exact hB
     | succ j=>exact hF j u v (by simpa using e1) (by simpa using e2)
end
end
section
variable {X:Cx}
def EZ(K:yF):R2:=λx y H Q=>∃ds es,Rep K H (.tup ds) x/\Rep K H (.tup es) y/\aJ ds<=50/\∀b,(b=true↔ds=es)->Q (.bl b) H
def E7(K:yF):R2:=λx y H Q=>∃ds es,Rep K H (.tup ds) x/\Rep K H (.tup es) y/\aJ ds<=50/\∀b,(b=true↔ds≠es)->Q (.bl b) H
theorem A6(hu:X.A.units+64<Mm):OpR X (LZ .Eq) (EZ X.K):=by
 intro Uq s Z H x y v u Q I rx ry h;obtain⟨ds,es,h1,h2,hd,q⟩:=h;rw[Rep.tup_iff]at h1 h2;obtain⟨a,xs,rfl,h3,h4⟩:=h1;obtain⟨b,ys,rfl,h5,h6⟩:=h2;cases rx;cases ry;obtain⟨its,rv,p,_⟩:=I.tuple h3;obtain⟨its',rv',p',_⟩:=I.tuple h5;have hu':X.A.in1.units+aJ ds<Mm:=by show X.A.units+1+aJ ds<Mm;omega
 obtain⟨e,he,hE⟩:=fc I ds es (A:=X.A.in1) h4 h6 rv rv' hu';have R:=Qh.tuples (A:=X.A) (s:=s) (l:=a) (b:=b) (items:=its.toArray) (items2:=its'.toArray) (e:=e) (show s.heap.IsTuple a its.toArray from p) (show s.heap.IsTuple b its'.toArray from p') (by omega) (λj h1 h2=>by
  simpa using hE j (its[j]'(by simpa using h1)) (its'[j]'(by simpa using h2)) (by simp) (by simp))
 refine R X.prog X.w X.xe _ ⟨.bl _,H,I,rfl,q _ ?_⟩;have l1:its.toArray.size=ds.length:=by rw[Gw,<-rv.length,h4.length]
 have l2:its'.toArray.size=es.length:=by rw[Gw,<-rv'.length,h6.length]
 have he':((G9 (min ds.length es.length)).all e=true/\ds.length=es.length)↔ds=es:=by rw[he];simp
 rw[l1,l2,<-he'];simp
theorem Bd(hu:X.A.units+64<Mm):OpR X (LZ .NotEq) (E7 X.K):=by
 intro Uq s Z H x y v u Q I rx ry h;obtain⟨ds,es,h1,h2,hd,q⟩:=h;rw[Rep.tup_iff]at h1 h2;obtain⟨a,xs,rfl,h3,h4⟩:=h1;obtain⟨b,ys,rfl,h5,h6⟩:=h2;cases rx;cases ry;obtain⟨its,rv,p,_⟩:=I.tuple h3;obtain⟨its',rv',p',_⟩:=I.tuple h5;have hu':X.A.in1.units+aJ ds<Mm:=by show X.A.units+1+aJ ds<Mm;omega
 obtain⟨e,he,hE⟩:=fc I ds es (A:=X.A.in1) h4 h6 rv rv' hu';have R:=QK (A:=X.A) (s:=s) (l:=a) (b:=b) (items:=its.toArray) (items2:=its'.toArray) (e:=e) (show s.heap.IsTuple a its.toArray from p) (show s.heap.IsTuple b its'.toArray from p') (by omega) (λj h1 h2=>by
  simpa using hE j (its[j]'(by simpa using h1)) (its'[j]'(by simpa using h2)) (by simp) (by simp))
 refine R X.prog X.w X.xe _ ⟨.bl _,H,I,rfl,q _ ?_⟩;have l1:its.toArray.size=ds.length:=by rw[Gw,<-rv.length,h4.length]
 have l2:its'.toArray.size=es.length:=by rw[Gw,<-rv'.length,h6.length]
 have he':((G9 (min ds.length es.length)).all e=true/\ds.length=es.length)↔ds=es:=by rw[he];simp
 rw[l1,l2,ne_eq,<-not_congr he',Hf,<-Ki,Gz,beq_iff_eq]
def E3(K:yF):R2:=λx y H Q=>∃a b xs ys ds es,x=.ref a/\y=.ref b/\SqL K H a xs/\SqL K H b ys/\K1 K H ds xs/\K1 K H es ys/\aJ ds<=50/\∀c,(c=true↔ds=es)->Q (.bl c) H
def E8(K:yF):R2:=λx y H Q=>∃a b xs ys ds es,x=.ref a/\y=.ref b/\SqL K H a xs/\SqL K H b ys/\K1 K H ds xs/\K1 K H es ys/\aJ ds<=50/\∀c,(c=true↔ds≠es)->Q (.bl c) H
theorem A7(hu:X.A.units+64<Mm):OpR X (LZ .Eq) (E3 X.K):=by
 intro Uq s Z H x y v u Q I rx ry h;obtain⟨a,b,xs,ys,ds,es,rfl,rfl,h3,h5,h4,h6,hd,q⟩:=h;cases rx;cases ry;obtain⟨its,rv,p,_⟩:=I.list h3;obtain⟨its',rv',p',_⟩:=I.list h5;have hu':X.A.in1.units+aJ ds<Mm:=by show X.A.units+1+aJ ds<Mm;omega
 obtain⟨e,he,hE⟩:=fc I ds es (A:=X.A.in1) h4 h6 rv rv' hu';have l1:its.toArray.size=ds.length:=by rw[Gw,<-rv.length,h4.length]
 have l2:its'.toArray.size=es.length:=by rw[Gw,<-rv'.length,h6.length]
 have he':((G9 (min ds.length es.length)).all e=true/\ds.length=es.length)↔ds=es:=by rw[he];simp
 by_cases hl:ds.length=es.length
 ·have R:=Qh.lists (A:=X.A) (s:=s) (l:=a) (b:=b) (items:=its.toArray) (items2:=its'.toArray) (e:=e) p.isList p'.isList (by rw[l1,l2];exact hl) (by omega) (λj h1 h2=>by
   simpa using hE j (its[j]'(by simpa using h1)) (its'[j]'(by simpa using h2)) (by simp) (by simp))
  refine R X.prog X.w X.xe _ ⟨.bl _,H,I,rfl,q _ ?_⟩;rw[l1,<-he',<-hl,Js];simp
 ·have R:=Qh.lists_lengths (A:=X.A) (s:=s) (l:=a) (b:=b) (items:=its.toArray) (items2:=its'.toArray) p.isList p'.isList (by rw[l1,l2];simpa using hl) (by omega);refine R X.prog X.w X.xe _ ⟨.bl _,H,I,rfl,q _ ?_⟩;constructor;intro z;cases z;intro z;exact absurd (by rw[z]) hl
theorem Bf(hu:X.A.units+64<Mm):OpR X (LZ .NotEq) (E8 X.K):=by
 intro Uq s Z H x y v u Q I rx ry h;obtain⟨a,b,xs,ys,ds,es,rfl,rfl,h3,h5,h4,h6,hd,q⟩:=h;cases rx;cases ry;obtain⟨its,rv,p,_⟩:=I.list h3;obtain⟨its',rv',p',_⟩:=I.list h5;have hu':X.A.in1.units+aJ ds<Mm:=by show X.A.units+1+aJ ds<Mm;omega
 obtain⟨e,he,hE⟩:=fc I ds es (A:=X.A.in1) h4 h6 rv rv' hu';have l1:its.toArray.size=ds.length:=by rw[Gw,<-rv.length,h4.length]
 have l2:its'.toArray.size=es.length:=by rw[Gw,<-rv'.length,h6.length]
 have he':((G9 (min ds.length es.length)).all e=true/\ds.length=es.length)↔ds=es:=by rw[he];simp
 by_cases hl:ds.length=es.length
 ·have R:=QU (A:=X.A) (s:=s) (l:=a) (b:=b) (items:=its.toArray) (items2:=its'.toArray) (e:=e) p.isList p'.isList (by rw[l1,l2];exact hl) (by omega) (λj h1 h2=>by
   simpa using hE j (its[j]'(by simpa using h1)) (its'[j]'(by simpa using h2)) (by simp) (by simp))
  refine R X.prog X.w X.xe _ ⟨.bl _,H,I,rfl,q _ ?_⟩;rw[l1,ne_eq,<-not_congr he',<-hl,Js];simp
 ·have R:=Qi (A:=X.A) (s:=s) (l:=a) (b:=b) (items:=its.toArray) (items2:=its'.toArray) p.isList p'.isList (by rw[l1,l2];simpa using hl) (by omega);refine R X.prog X.w X.xe _ ⟨.bl _,H,I,rfl,q _ ?_⟩;constructor;intro _ z;exact absurd (by rw[z]) hl;intro _;rfl
open Classical in
noncomputable def isD(K:yF) (H:Hp) (d:D) (u:LB):Bool:=decide (∃v,RelV v u/\Rep K H d v)
open Classical in
theorem qI{K:yF}{H:Hp}{d:D}{u:LB}:isD K H d u=true ↔ ∃v,RelV v u/\Rep K H d v:=by
 unfold isD;exact decide_eq_true_iff
theorem iy{Uq:List (Addr×Obj)}{Z:St}{H:Hp}{s:LD}(I:Inv X Uq Z H s){d:D}:∀{ds:List D} {xs:List V} {us:List LB},K1 X.K H ds xs->Vals xs us->(us.any (isD X.K H d)=true↔d∈ds)
 | [],xs,us,h,r=>by rw[K1]at h;subst h;cases r;simp
 | e::ds,xs,us,h,r=>by
  rw[K1]at h;obtain⟨x,q,rfl,h2,h3⟩:=h;cases r with
  | @cons _ u0 _ us0 r1 r2=>
   rw[IP,Jz,iy I h3 r2,G4];have:isD X.K H d u0=true↔d=e:=by
    rw[qI];constructor
    ·rintro⟨v,rv,hv⟩;rw[rv.inj r1]at hv;exact Rep.inj I hv h2
    ·intro z;subst z;exact⟨x,r1,h2⟩
   rw[this]
theorem fZ{Uq:List (Addr×Obj)}{Z:St}{H:Hp}{s:LD}(I:Inv X Uq Z H s){A:LQ}{d:D}{x:V}{v:LB}(hx:Rep X.K H d x)(rx:RelV x v){ds:List D}(hu:A.units+aJ ds<Mm) :
  ∀{es:List D} {xs:List V} {us:List LB},(∀e∈es,e∈ds)->K1 X.K H es xs->Vals xs us->∀u∈us,LX A s u v (isD X.K H d u)
 | [],xs,us,_,h,r=>by rw[K1]at h;subst h;cases r;intro u hu;cases hu
 | e::es,xs,us,hs,h,r=>by
  rw[K1]at h;obtain⟨y,q,rfl,h2,h3⟩:=h;cases r with
  | cons r1 r2=>
   intro u hu';rcases ycM hu' with z|z
   ·subst z;obtain⟨b,hb,hB⟩:=tY I e d (A:=A) h2 hx r1 rx (HH (JP (lq (hs e ymS)) _) hu);have:isD X.K H d u=b:=by
     have h5:isD X.K H d u=true↔e=d:=by
      rw[qI];constructor
      ·rintro⟨w,rw',hw⟩;rw[rw'.inj r1]at hw;exact(Rep.inj I hw h2).symm
      ·intro z;subst z;exact⟨y,r1,h2⟩
     rw[HF,h5,hb]
    rw[this];exact hB
   ·exact fZ I hx rx hu (λe' h'=>hs e' (ymC _ h')) h3 r2 u z
def yK(K:yF)(neg:Bool):R2:=λx y H Q=>∃p xs d ds,y=.ref p/\(SqL K H p xs\/SqT K H p xs)/\Rep K H d x/\K1 K H ds xs/\aJ ds<=50/\∀b,(b=true↔(if neg=true then d∉ds else d∈ds))->Q (.bl b) H
theorem A9(hu:X.A.units+64<Mm):OpR X (LZ .In) (yK X.K false):=by
 intro Uq s Z H x y v u Q I rx ry h;obtain⟨p,xs,d,ds,rfl,hq,hx,hs,hd,q⟩:=h;cases ry;have hu':X.A.in1.units+aJ ds<Mm:=by show X.A.units+1+aJ ds<Mm;omega
 rcases hq with hq|hq
 ·obtain⟨its,rv,pl,_⟩:=I.list hq;refine PP (isD X.K H d) pl.isList (λy hy=>fZ I hx rx hu' (λ_ z=>z) hs rv y (by simpa using hy)) ⟨.bl _,H,I,rfl,q _ ?_⟩;rw[if_neg (by decide),<-iy I hs rv];simp
 ·obtain⟨its,rv,pl,_⟩:=I.tuple hq;refine PB (isD X.K H d) (show s.heap.IsTuple p its.toArray from pl) (λy hy=>fZ I hx rx hu' (λ_ z=>z) hs rv y (by simpa using hy)) ⟨.bl _,H,I,rfl,q _ ?_⟩;rw[if_neg (by decide),<-iy I hs rv];simp
theorem sw(hu:X.A.units+64<Mm):OpR X (LZ .NotIn) (yK X.K true):=by
 intro Uq s Z H x y v u Q I rx ry h;obtain⟨p,xs,d,ds,rfl,hq,hx,hs,hd,q⟩:=h;cases ry;have hu':X.A.in1.units+aJ ds<Mm:=by show X.A.units+1+aJ ds<Mm;omega
 rcases hq with hq|hq
 ·obtain⟨its,rv,pl,_⟩:=I.list hq;refine Pb (isD X.K H d) pl.isList (λy hy=>fZ I hx rx hu' (λ_ z=>z) hs rv y (by simpa using hy)) ⟨.bl _,H,I,rfl,q _ ?_⟩;rw[if_pos rfl,<-iy I hs rv];simp
 ·obtain⟨its,rv,pl,_⟩:=I.tuple hq;refine OU (isD X.K H d) (show s.heap.IsTuple p its.toArray from pl) (λy hy=>fZ I hx rx hu' (λ_ z=>z) hs rv y (by simpa using hy)) ⟨.bl _,H,I,rfl,q _ ?_⟩;rw[if_pos rfl,<-iy I hs rv];simp
def oY(i j:Int):Prop:=0<j/\j<2^64
theorem sv:OpR X (Me .FloorDiv) (rI oY λi j=>.int (i / j)):=opI λi j _ _ _ _ _ hc q=>by
 have h1:(0:Int)<j:=hc.1;have h2:j<2^64:=hc.2;refine floordiv_int (by omega) (by rw[Int.fdiv_eq_ediv_of_nonneg i (by omega)];exact q) (.inl (PyProof.noPylong_of_log2 ?_));have h3:j.natAbs<2^64:=by omega
 have h4:j.natAbs≠0:=by omega
 have:=(Nat.log2_lt h4).mpr h3;omega
theorem BS{tg e:Expr}{te:TE}(he:PE X e te):PI X tg e (λZ H R=>te Z H λx H1=>∃z:Str,x=.str z/\R ⟨λi _=>i<z.cps.size,λi H y H'=>H'=H/\∃c,z.cps[i]?=some c/\y=.str ⟨#[c]⟩,λi _=>z.cps.size<=i⟩ H1):=by
 intro Uq s Z H R I h;refine thn (he Uq s Z H _ I h) λv s1 ⟨x,H1,I1,r1,q1⟩=>?_;obtain⟨z,rfl,q⟩:=q1;obtain⟨t,rfl⟩:=r1;have main:∀(n:String) (o:Obj),(["enumerate","zip","dict_itemiterator","dict_reverseitemiterator","odict_iterator","itertools.zip_longest","itertools.pairwise"].contains n=false) ->
   o={cls:=.type n,data:=.fields #[.str z t,.int 0 0]}->(∀A':LQ,A'.handled=none->QX X.prog X.w A' s1.heap.objs.size [s1.heap.objs.size] [s1.heap.objs.size] z.cps.size (SignAt z) (λi h=>h.IsStrIter s1.heap.objs.size n z t i)) ->
   (∀(A:LQ) (i:Nat) (s:LD) (Q:LB->LD->Prop) (E:LB->LD->Prop),s.heap.IsStrIter s1.heap.objs.size n z t i->Q (.ref s1.heap.objs.size) s->LH (LL X.prog X.w) A (Qu (.ref s1.heap.objs.size)) Q E s) ->
   PIE X Uq Z tg R (.ref s1.heap.objs.size) {s1 with heap:=s1.heap.push o}:=by
  intro n o hn ho W hself;subst ho;refine⟨s1.heap.objs.size,[s1.heap.objs.size],λi h=>h.IsStrIter s1.heap.objs.size n z t i/\i<=z.cps.size,_,H1,rfl,I1.kept (t':=s1.toks) λb o e=>LC _ e,?_,⟨⟨_,LK _ rfl,rfl,rfl⟩,Ie _⟩,λb hb=>?_,q⟩
  ·refine⟨by simp,λi h st b hb=>?_,λi h h' st k=>⟨?_,st.2⟩,?_,?_,λA i s Q E st h=>?_⟩
   ·have e:b=s1.heap.objs.size:=by simpa using hb
    subst e;obtain⟨o,e,c,d⟩:=st.1;exact⟨o,e,λv z=>by rw[d]at z;cases z⟩
   ·obtain⟨o,ho,r⟩:=st.1;exact⟨o,k _ (by simp) o ho,r⟩
   ·intro Y hP hw hK hc i pins' s' Z' H' E I' hf st hg;obtain⟨f0,f1,f2,f3,f4,f5⟩:=hf s1.heap.objs.size (by simp);refine(W Y.A (I'.ok.hd hc)).item i s' _ _ hg st.1 λv h' tk hv st' kk=>?_;obtain⟨c,u,hc',rfl⟩:=hv;have I1':Inv Y pins' Z' H' {s' with heap:=h',toks:=tk}:=I'.turned (λb o hb e=>kk b o (by simpa using hb) e) f0 f1 f3 f4 f5;obtain⟨o,e,cl,d⟩:=id st';exact⟨_,rfl,nU (s:={s' with heap:=h',toks:=tk}) e cl d hn ⟨.str ⟨#[c]⟩,H',I1',⟨u,rfl⟩,⟨rfl,c,hc',rfl⟩,⟨st',hg⟩,λb hb=>(hf b hb).1⟩⟩
   ·intro Y hP hw hK hc i pins' s' Z' H' E I' hf st hg;obtain⟨f0,f1,f2,f3,f4,f5⟩:=hf s1.heap.objs.size (by simp);have hi:i=z.cps.size:=Kn st.2 hg;refine(W Y.A (I'.ok.hd hc)).done s' _ _ (hi▸st.1) λh' tk kk=>⟨rfl,?_⟩;exact I'.turned (λb o hb e=>kk b o (by simpa using hb) e) f0 f1 f3 f4 f5
   ·exact hself A i s Q E st.1 h
  ·have e:b=s1.heap.objs.size:=by simpa using hb
   subst e;exact I1.fpOk (GC _) (I1.hok.fresh (GC _))
 cases ha:z.cps.all (· < 128);exact wpAny_pyIter_wide ha (main "str_iterator" _ (by decide) rfl (λA' hA=>QX.strWide hA _ z t) λA i s Q E st h=>wpAny_pyIter_striter_wide st h);exact wpAny_pyIter_ascii ha (main "str_ascii_iterator" _ (by decide) rfl (λA' hA=>QX.strAscii hA _ z t) λA i s Q E st h=>wpAny_pyIter_striter_ascii st h)
end
noncomputable abbrev sL(z:Str):List Nat:=z.cps.toList
noncomputable abbrev oL(l:List Nat):Str:=⟨l.toArray⟩
theorem cI(l:List Nat):sL (oL l)=l:=rfl
theorem uz(z:Str):oL (sL z)=z:=by cases z;rfl
theorem df(z:Str):z.length=(sL z).length:=by unfold QN sL;rw[HD]
theorem kK(x y:Str):sL (x++y)=sL x++sL y:=by
 show(x.cps++y.cps).toList=_;rw[Array.toList_append]
theorem nu{x y:Str}(h:sL x=sL y):x=y:=by rw[<-uz x,h,uz]
noncomputable def ca{α:Type} (xs:List α) (lo hi:Option Int):List α:=(xs.drop (HT.sIx xs.length 0 lo)).take (HT.sIx xs.length xs.length hi-HT.sIx xs.length 0 lo)
theorem oR(lo hi:Option Int)(n:Nat):L9 lo hi 1 n=(G9 (HT.sIx n n hi-HT.sIx n 0 lo)).map (HT.sIx n 0 lo + ·):=by
 have h1:(1:Int)>0:=by omega
 have clip:∀(v:Option Int) (d:Nat),(match v with|none=>(d:Int)|some i=>(if(1:Int)>0 then max 0 (min (if i<0 then i+(n:Int)else i) (n:Int))else max (-1) (min (if i<0 then i+(n:Int)else i) ((n:Int)-1))))=((HT.sIx n d v:Nat):Int):=by
  intro v d;cases v with
  | none=>rfl
  | some i=>
   show(if(1:Int)>0 then max 0 (min (if i<0 then i+(n:Int)else i) (n:Int))else _)=(((if i<0 then(i+(n:Int)).toNat else min i.toNat n):Nat):Int);rw[if_pos h1];by_cases hi:i<0;simp only[if_pos hi];omega;simp only[if_neg hi];omega
 have e:L9 lo hi 1 n=sliceRange ((HT.sIx n 0 lo:Nat):Int) ((HT.sIx n n hi:Nat):Int) 1:=by
  unfold L9;simp only[h1,if_true];have c1:=clip lo 0;have c2:=clip hi n;simp only[h1,if_true]at c1 c2;rw[<-c1,<-c2];rfl
 rw[e,Qg]
theorem l9(x:Str)(lo hi:Option Int):Qs x lo hi=oL (ca (sL x) lo hi):=by
 have hn:x.length=(sL x).length:=df x;have key:((L9 lo hi 1 x.length).filterMap (x.cps[·]?))=ca (sL x) lo hi:=by
  rw[oR,hn];unfold ca;exact QD x.cps _ _
 unfold Qs;split
 ·rename_i h;have h2:(L9 lo hi 1 x.length).length=x.length:=by
   simp only[Gz]at h;simpa using h.2
  have h3:(ca (sL x) lo hi)=sL x:=by
   unfold ca;rw[oR,Gv,List.length_range,hn]at h2;have a1:=HT.sIx_le (sL x).length (sL x).length (GC _) hi;have a2:HT.sIx (sL x).length 0 lo=0\/(sL x).length=0:=by omega
   rcases a2 with a2|a2
   ·rw[a2,Kv];exact GL (by omega)
   ·rw[Ip a2];simp
  rw[h3,uz]
 ·rw[key]
section
variable {X:Cx}
theorem CZ:SlR X (λx lo hi H Q=>∃z,x=.str z/\z.length<=sizeLine/\Q (.str (oL (ca (sL z) lo hi))) H):=by
 intro Uq s Z H x v vl vu lo hi sl Q I rx hs pl pu h;obtain⟨z,rfl,hz,q⟩:=h;obtain⟨t,rfl⟩:=rx;have hp:∀{v:LB} {o:Option Int},N4 v o->∃p:Option (Int×Tok),v=partValue p/\p.map (·.1)=o:=λ{v o} p=>by
  cases p with
  | none=>exact⟨none,rfl,rfl⟩
  | int i t=>exact⟨some (i,t),rfl,rfl⟩
 obtain⟨l,rfl,rfl⟩:=hp pl;obtain⟨u,rfl,rfl⟩:=hp pu;refine⟨"str",_,F.slot_str_getitem.lookup,Qf _ _ _,?_⟩;refine wpAny_getItem_str_slice (l:=l) (u:=u) (st:=none) hs rfl ?_;have e:sliceMade z t l u none=if((1:Int)==1&&(L9 (l.map (·.1)) (u.map (·.1)) 1 z.length).length==z.length)=true then Made.val (.str z t)else Made.str ⟨((L9 (l.map (·.1)) (u.map (·.1)) 1 z.length).filterMap (z.cps[·]?)).toArray⟩:=rfl;rw[e];refine PX ⟨Hj (Txt.slice_le z _ _) hz,λt' k=>?_⟩;refine⟨.str (Qs z (l.map (·.1)) (u.map (·.1))),H,I.tok k,⟨t',rfl⟩,?_⟩;rw[l9];exact q
def rSl(K:yF):V->Option Int->Option Int->Hp->VK->Prop:=λx lo hi H Q=>Fb K x lo hi H Q\/Fa K x lo hi H Q \/ ∃z,x=.str z/\z.length<=sizeLine/\Q (.str (oL (ca (sL z) lo hi))) H
theorem pV{zs:List Str}:∀{us:List LB},Vals (zs.map V.str) us->StrsAre us zs:=by
 induction zs with
 | nil=>intro us r;rw[Ic]at r;cases r;exact .nil
 | cons n ns ih=>
  intro us r;rw[Gs]at r;cases r with
  | cons r1 r2=>
   obtain⟨t,e⟩:=r1;subst e;exact .cons n t (ih r2)
theorem xG:MtR X "str.join" (λx vs H Q=>∃z a zs,x=.str z/\vs=[.ref a]/\SqL X.K H a (zs.map V.str)/\(zs.map (·.length)).sum+zs.length*z.length<=16777216/\Q (.str (Ng z zs)) H):=by
 intro Uq s Z H x xs v us Q I rx rv h;obtain⟨z,a,zs,rfl,rfl,hq,hz,q⟩:=h;obtain⟨t,rfl⟩:=rx;obtain⟨u,rfl,ru⟩:=gv rv;cases ru;obtain⟨its,r,p,_⟩:=I.list hq;exact join_list p.isList (by simpa using pV r) hz λt' k=>⟨.str (Ng z zs),H,I.tok k,⟨t',rfl⟩,q⟩
theorem rV(zs:List Str):sL (Ng (oL []) zs)=(zs.map sL).flatten:=by
 have key:∀(zs:List Str) (acc:Array Nat),(zs.foldl (λacc p=>acc++(oL []).cps++p.cps) acc).toList=acc.toList++(zs.map sL).flatten:=by
  intro zs
  induction zs with
  | nil=>intro acc;simp
  | cons z zs ih=>
   intro acc;rw[Ix,ih];simp
 cases zs with
 | nil=>rfl
 | cons z zs=>
  show(zs.foldl (λacc p=>acc++(oL []).cps++p.cps) z.cps).toList=_;rw[key];simp
theorem op_mulS:OpR X (Me .Mult) (λx y H Q=>∃z n,x=.str z/\y=.int n/\1<=n/\n<=1000/\z.length<=1000/\Q (.str (oL (Gx n.toNat (sL z)).flatten)) H):=by
 intro Uq s Z H x y v u Q I rx ry h;obtain⟨z,n,rfl,rfl,h1,h2,h3,q⟩:=h;obtain⟨t,rfl⟩:=rx;obtain⟨t',rfl⟩:=ry;have hf:∀(m:Nat) (acc:Array Nat),(Gx m z.cps).foldl (· ++ ·) acc=acc++(Gx m (sL z)).flatten.toArray:=by
  intro m
  induction m with
  | zero=>intro acc;simp
  | succ m ih=>intro acc;rw[Hc,Ix,ih,Hc,HC];apply Array.ext';simp
 have hlen:z.length*n.toNat<=1000*1000:=JJ h3 (by omega);have e3:¬ n<1:=by omega
 refine P.mul_str ?_ ?_ ?_ ?_;rw[decide_eq_false (by omega),decide_eq_false (by omega)];rfl
 ·intro _ _;have a1:n*9223372036854775<=2^63-1:=by omega
  have:(9223372036854775:Int)<=(2^63-1) / n:=(Int.le_ediv_iff_mul_le (by omega)).mpr (by omega);omega
 ·intro _ _;unfold QL;exact decide_eq_false (by rw[LG];omega)
 ·rw[if_neg e3];refine PX ?_;have hv:(if(n==1||z.length==0)=true then z else(⟨(Gx n.toNat z.cps).foldl (· ++ ·) #[]⟩:Str))=oL (Gx n.toNat (sL z)).flatten:=by
   split
   ·rename_i hc;rcases Bool.or_eq_true_iff.mp hc with c|c
    ·have:n=1:=by simpa using c
     subst this;show z=oL (Gx 1 (sL z)).flatten;simp only[Hc,List.replicate_zero,HC,List.flatten_nil,GZ]
    ·have h0:(sL z).length=0:=by rw[<-df];simpa using c
     have h00:sL z=[]:=Ip h0;rw[h00];apply nu;rw[h00,cI];symm;exact List.eq_nil_iff_forall_not_mem.mpr λa ha=>by
      obtain⟨l,hl,hal⟩:=Kj.mp ha;rw[List.eq_of_mem_replicate hl]at hal;cases hal
   ·rw[hf];simp
  rw[hv];refine⟨?_,λt2 k=>⟨.str (oL (Gx n.toNat (sL z)).flatten),H,I.tok k,⟨t2,rfl⟩,q⟩⟩;rw[df,cI,iI,<-df,LG,J3];omega
theorem ja:fillsNumberSlot (.type "tuple") "mul" = pure false:=
 PySem.fillsNumberSlot_seq (id:="tuple.__mul__") (r:=some (.builtin "tuple.__rmul__")) Nl.lookup (by decide +kernel) Pq.lookup (by decide +kernel)
theorem nr:seqRepeat? (.type "tuple")=pure (some (.builtin "tuple.__mul__")):=by
 unfold seqRepeat?;rw[Kk (T:="tuple") (name:="__mul__") (id:="tuple.__mul__") Nl.lookup (by decide +kernel),Kk (T:="tuple") (name:="__rmul__") (id:="tuple.__rmul__") Pq.lookup (by decide +kernel)];rfl
theorem j0(a:Int)(t:Tok)(l:Addr)(items:Array LB)(n:Nat)(dd:Option Addr)(sl:Array (Option LB)) :
  QY (LJ.«int.__rmul__» ⟨[.int a t,.ref l],[]⟩) (λ_ R s=>s.heap.get? l=some {cls:=.type "tuple",dict:=dd,data:=.seq items n,slots:=sl}/\R (.ok (.ret OC)) s):=
 .of_wp λprog w A R s h=>by obtain⟨hp,g,d,tk,os⟩:=s;obtain⟨hl,h⟩:=h;wp_walk;exact⟨_,rfl,h⟩
theorem jz(l:Addr)(items:Array LB)(n:Nat)(dd:Option Addr)(sl:Array (Option LB))(k:Int)(t:Tok)(h1:2<=k)(h2:k<=1000)(hne:items.isEmpty=false)(hz:items.size<=1000) :
  QY (LJ.«tuple.__mul__» ⟨[.ref l,.int k t],[]⟩) (λ_ R s=>s.heap.get? l=some {cls:=.type "tuple",dict:=dd,data:=.seq items n,slots:=sl} /\
   R (.ok (.ret (.ref s.heap.objs.size))) {s with heap:=s.heap.push {cls:=.type "tuple",data:=.seq ((Gx k.toNat items).foldl (· ++ ·) #[])}}):=
 .of_wp λprog w A R s h=>by
  obtain⟨hp,g,d,tk,os⟩:=s;obtain⟨hl,h⟩:=h;have c1:¬ (decide (k < -(2^63))||decide (k≥2^63))=true:=by rw[decide_eq_false (by omega),decide_eq_false (by omega)];decide
  have c2:¬ (items.isEmpty||k==1)=true:=by rw[hne];simp;omega
  have c3:¬ (decide (k<=0)||items.isEmpty)=true:=by rw[hne,decide_eq_false (by omega)];decide
  have c0:((items.size:Nat):Int)*k<=1000*1000:=Int.mul_le_mul (by omega) h2 (by omega) (by omega);have c4:¬ ((items.size:Int)*k>(2^63-1) / 8):=by omega
  have c5:¬ NP ((items.size:Int)*k)=true:=by unfold NP;simp;rw[LG];omega
  have f1:=Oh;wp_walk using MK hl
  rw[if_neg c1];refine LA (OX ⟨_,hl,rfl,n,rfl⟩ ?_);dsimp only;rw[if_neg c2,if_neg c3,if_neg c4,if_neg c5];have hsz:sizeOk (.seq ((Gx k.toNat items).foldl (· ++ ·) #[])):=by
   show((Gx k.toNat items).foldl (· ++ ·) #[]).size<=sizeLine;have f0:=eP items.toList k.toNat [];have e0:(Gx k.toNat items.toList.toArray).foldl (· ++ ·) #[]=(Gx k.toNat items.toList).flatten.toArray:=by simpa using f0
   have e1:items.toList.toArray=items:=by simp
   rw[e1]at e0;rw[e0,Gw,iI,HD,LG];have a1:k.toNat*items.size<=1000*1000:=JJ (by omega) hz;omega
  first
   | exact LA (m:=LR _) (LP (LF ⟨_,rfl,h⟩) hsz)
   | exact LA (LA (m:=LR _) (LP (LF ⟨_,rfl,h⟩) hsz))
def z7(K:yF):R2:=λx y H Q=>∃l k xs,x=.ref l/\y=.int k/\SqT K H l xs/\xs≠[]/\xs.length<=1000/\1<=k/\k<=1000 /\
 (k=1->Q (.ref l) H)/\(2<=k->∀p,H p=none->Q (.ref p) (upd H p (.tup (Gx k.toNat xs).flatten)))
theorem xP:OpR X (Me .Mult) (z7 X.K):=by
 intro Uq s Z H x y v u Q I rx ry h;obtain⟨l,k,xs,rfl,rfl,hH,hne,hlen,h1,h2,q1,q2⟩:=h;cases rx;obtain⟨t,rfl⟩:=ry;obtain⟨its,r,p,hz⟩:=I.tuple (X:=X) hH;obtain⟨⟨cls,dd,data,sl⟩,ho,hc,n,hd⟩:=id p;simp only at hc hd;subst hc hd;have hl:=r.length;have hne':its.toArray.isEmpty=false:=by
  cases its with
  | nil=>cases r;exact absurd rfl hne
  | cons a r'=>rfl
 have hTy:s.TypeIs (.ref l) "tuple" :=⟨_,ho,rfl⟩;refine MX (T:="tuple") (U:="int") (by decide) hTy (λs'=>Nj s' k t) ja Ov MQ nr Of.lookup
  (Ms MQ (Nj s k t) Og (N0 _ _) (j0 k t l its.toArray n dd sl)
   ⟨ho,rfl,hTy,?_⟩)
 by_cases hk:k=1
 ·subst hk;refine Mi Nl hTy Pr ?_ (Pd _ _);have f1:=Oh;have c1:¬ (decide ((1:Int) < -(2^63))||decide ((1:Int)≥2^63))=true:=by decide
  obtain⟨hp,g,d,tk,os⟩:=s;wp_walk using MK ho
  exact⟨_,rfl,.ref l,H,I,rfl,q1 rfl⟩
 ·refine Ms Nl hTy Pr (Pd _ _) (jz l its.toArray n dd sl k t (by omega) h2 hne' (by rw[Gw,<-hl];exact hlen)) ⟨ho,?_⟩;have e0:(Gx k.toNat its.toArray).foldl (· ++ ·) #[]=(Gx k.toNat its).flatten.toArray:=by simpa using eP its k.toNat []
  rw[e0];refine⟨.ref s.heap.objs.size,_,I.laid (t':=s.toks) (o:=.tup (Gx k.toNat xs).flatten) (λb ob q=>LC _ q) (GC _) ?_,rfl,q2 (by omega) _ (I.hok.fresh (GC _))⟩;refine⟨?_,_,r.rep k.toNat,La.new _ _⟩;rw[iI,LG];have a1:k.toNat*xs.length<=1000*1000:=JJ (by omega) hlen;omega
theorem hV(l:Addr)(items:Array LB)(n:Nat)(b:Addr)(items2:Array LB)(n2:Nat)(dd:Option Addr)(sl:Array (Option LB))(hs0:¬(!items.isEmpty&&L8 (items.size+items2.size))=true)(hs1:items.size<=sizeLine)(hs2:items.size+items2.size<=sizeLine+1) :
  QY (LJ.«list.extend» ⟨[.ref l,.ref b],[]⟩) (λ_ R s=>s.heap.get? l=some {cls:=.type "list",dict:=none,data:=.seq items n,slots:=#[]}/\s.heap.get? b=some {cls:=.type "tuple",dict:=dd,data:=.seq items2 n2,slots:=sl}/\R (.ok (.ret MH)) {s with heap:=s.heap.update l (Ni λx=>x++items2),toks:=s.toks}):=
 .of_wp λprog w A R s h=>by
  obtain⟨hp,g,d,tk,os⟩:=s;obtain⟨hl,hb,h⟩:=h;have f1:=Oh;have f2:=N3;have f3:=AutoSeq1.sub_list_list;have f4:=AutoSeq1.sub_tuple_list;have f5:=AutoSeq1.sub_list_tuple;have hz':(items++items2).size<=sizeLine+1:=by rw[Ka];exact hs2
  wp_walk using(PV hl rfl (hz:=hs1) (_hz':=hz')),MK hl,MK hb;exact⟨_,rfl,h⟩
def oH(K:yF):V->List V->Hp->VK->Prop:=λx vs H Q=>∃l b xs zs,x=.ref l/\vs=[.ref b]/\H l=some (.lst xs)/\SqT K H b zs/\xs.length+zs.length<=sizeLine/\Q .non (upd H l (.lst (xs++zs)))
theorem pF:MtM X "list.extend" (oH X.K):=by
 intro Uq s Z H x vs v us Q I rx rv h;obtain⟨l,b,xs,zs,rfl,rfl,hH,hB,hz,q⟩:=h;cases rx;obtain⟨u,rfl,ru⟩:=rv.one;cases ru;obtain⟨z,its,n,r,hl,e⟩:=I.lstM hH;obtain⟨its2,r2,p2,z2⟩:=I.tuple hB;obtain⟨⟨cls,dd,data,sl⟩,ho,hc,n2,hd⟩:=id p2;simp only at hc hd;subst hc hd;have hl2:=r2.length;have hsz:its.toArray.size+its2.toArray.size<=sizeLine:=by rw[Gw,Gw];omega
 have hlong:¬ (!its.toArray.isEmpty&&L8 (its.toArray.size+its2.toArray.size))=true:=by
  rw[dL hsz,JH];exact GG
 refine Ms NO ⟨_,e,rfl⟩ ND (Nt _ _)
  (hV l its.toArray n b its2.toArray n2 dd sl hlong (by rw[Gw];omega) (by omega)) ⟨e,ho,?_⟩
 refine⟨.non,_,I.lset (its':=its++its2) hH e (by simp) (r.append r2) ?_,rfl,q⟩;rw[GD];omega
end
section
variable {X:Cx}
theorem fQ{α β:Type}{f : α->Option β}{g : α->β}:∀{l:List α},(∀k∈l,f k=some (g k))->l.filterMap f=l.map g
 | [],_=>rfl
 | a::l,h=>by
  rw[GS,h a ymS,Gs];show g a::_=_;rw[fQ λk hk=>h k (ymC _ hk)]
theorem oO(xs:Array LB):((G9 xs.size).filterMap λ(k:Nat)=>xs[(((xs.size:Int)-1)+(k:Int) * -1).toNat]?)=xs.toList.reverse:=by
 apply Ig;intro i;rw[fQ (g:=λk=>(xs[xs.size-1-k]?).getD default) (λk hk=>?_),GE]
 ·by_cases hi:i<xs.size
  ·have h2:xs.size-1-i<xs.size:=by omega
   rw[List.getElem?_range hi,JC (by simpa using hi)];simp[h2]
  ·rw[IK (by simpa using hi),IK (by simpa using hi)];rfl
 ·have hk':=HW.mp hk;have e1:((((xs.size:Nat):Int)-1)+(k:Int) * -1).toNat=xs.size-1-k:=by omega
  rw[e1];have h2:xs.size-1-k<xs.size:=by omega
  simp[h2]
theorem iC{prog:LM}{w:LU}{A:LQ}{E:LB->LD->Prop}{s:LD}{t sl:Addr}{tt:Tok}{items:Array LB}{Q:LB->LD->Prop}(ht:Pg s.heap t items)(hs:s.heap.IsSliceOf sl .none .none (.int (-1) tt))
  (h:Q (.ref s.heap.objs.size) {s with heap:=s.heap.push {cls:=.type "tuple",data:=.seq items.toList.reverse.toArray}})
  (hsz:items.size<=sizeLine):LH (LL prog w) A (NF (.ref t) (.ref sl)) Q E s:=by
 have htake:sizeOk (.seq items.toList.reverse.toArray):=by
  show items.toList.reverse.toArray.size<=sizeLine;rw[Gw,Ij,HD];exact hsz
 obtain⟨os,hos,hcs,hds⟩:=id hs;have hTs:s.TypeIs (.ref sl) "slice" :=⟨os,hos,hcs⟩;unfold NF;try with_reducible refine Mj ?_
 first|refine LA (LF ?_)|skip
 refine LA (NY ht.typeIs (by decide) ?_);refine LA (Ma (name:=LW "__getitem__") ht.typeIs Hh
  (Mi Hh ht.typeIs OT ?_ (O9 _ _)))
 show LH _ _ (NN (.ref t) >>= _) _ _ s;refine LA (OX ht ?_);refine LA (MV hTs ?_);rw[if_pos (by decide)];have app:∀{Q':Int×Int×Nat->LD->Prop},Q' ((items.size:Int)-1,-1,items.size) s->LH (LL prog w) A.in1 (Mz (.ref sl) (pure (items.size:Int))) Q' E s:=by
  intro Q' hq;unfold Mz NS;refine LA (LA (L0 hos hds (x:=.none) rfl (LA (L0 hos hds (x:=.none) rfl (LA (L0 hos hds (x:=.int (-1) tt) rfl (LF ?_)))))));refine LA (slicePart_int ?_);show LH _ _ (if((-1:Int)==0)=true then _ else _) _ _ s;rw[if_neg (by decide)];refine LA (NM (LA (NM (LA (LF ?_)))));show LH _ _ (match Mc none none (-1) (items.size:Int)with|(lo,hi)=>pure (lo,(-1:Int),L5 lo hi (-1))) _ _ s;have e1:Mc none none (-1) (items.size:Int)=((items.size:Int)-1,-1):=by
   unfold Mc;simp
  rw[e1];have e2:L5 ((items.size:Int)-1) (-1) (-1)=items.size:=by
   unfold L5;rw[if_neg (by omega)];split;rw[KN,J1];omega;omega
  show LH _ _ (pure ((items.size:Int)-1,(-1:Int),L5 ((items.size:Int)-1) (-1) (-1))) _ _ s;rw[e2];exact LF hq
 refine LA (app ?_);show LH _ _ (if((((items.size:Int)-1)==0&&(-1:Int)==1&&items.size==items.size))=true then _ else _) _ _ s;rw[if_neg (by simp),oO];first
  | exact LA (m:=LR _) (LP (LF ⟨_,rfl,LF h⟩) htake)
  | exact LA (m:=LR _) (LP (LA (LF (LF ⟨_,rfl,LF h⟩))) htake)
  | exact LA (LA (m:=LR _) (LP (LF (LF ⟨_,rfl,LF h⟩)) htake))
  | exact LA (LA (m:=LR _) (LP (LF ⟨_,rfl,LF h⟩) htake))
def wB(K:yF)(te:TE):TE:=λZ H Q=>te Z H λx H1=>∃a xs,x=.ref a/\SqT K H1 a xs/\∀p,H1 p=none->Q (.ref p) (upd H1 p (.tup xs.reverse))
theorem xZ{e:Expr}{te:TE}{j:Nat}{p1 p2 p3 pos:Pos}(he:PE X e te):PE X (.Subscript e (.Slice none none (some (.UnaryOp .USub (.Constant (.int 1) j p1) p2)) p3) pos) (wB X.K te):=by
 intro Uq s Z H Q I h;refine Oq (thn (he Uq s Z H _ I h) λv s1 ⟨x,H1,I1,r1,q1⟩=>?_);obtain⟨a,xs,rfl,hq,q⟩:=q1;cases r1;refine OD ?_;rw[Nq];refine LF (LF ?_);rw[OY];refine thn (uP p9 pK Uq s1 Z H1 (λx H2=>x=.int (-1)/\H2=H1) I1 ⟨1,rfl,rfl,rfl⟩) λvu s2 ⟨y,H2,I2,r2,e1,e2⟩=>?_;subst e1 e2;obtain⟨tt,rfl⟩:=r2;have I3:Inv X Uq Z H2 {s2 with heap:=s2.heap.push {cls:=.type "slice",data:=.fields #[.none,.none,.int (-1) tt]}}:=I2.kept (t':=s2.toks) λb ob q=>LC _ q;obtain⟨its,r,ht,hz⟩:=I3.tuple hq;show LH (LL X.prog X.w) X.A (Nr e (.Slice none none (some (.UnaryOp .USub (.Constant (.int 1) j p1) p2)) p3) (.ref a) (.ref s2.heap.objs.size)) (EP X Uq Z Q) X.xe {s2 with heap:=s2.heap.push {cls:=.type "slice",data:=.fields #[.none,.none,.int (-1) tt]}};refine Qe (ops:=[.ref a,.ref s2.heap.objs.size]) ht.typeIs Hh.lookup (iC (tt:=tt) ht (M5 ..) ?_ (by rw[Gw,<-r.length];exact hz)) (by unhygienic rfl);refine⟨.ref _,_,I3.laid (t':=s2.toks) (o:=.tup xs.reverse) (λb ob q=>LC _ q) (GC _) ?_,rfl,q _ (I3.hok.fresh (GC _))⟩;exact⟨by rw[Ij];exact hz,its.reverse,r.reverse,La.new _ _⟩
theorem pX{A:LQ}{bs:List Bool}:TruthOf X.prog X.w A (λi v=>(bs.map MJ)[i]?=some v) (λi=>bs.getD i false):=by
 intro i v s Q E hv hq;rw[GE]at hv;cases q:bs[i]? with
 | none=>rw[q]at hv;cases hv
 | some b=>
  rw[q]at hv;cases hv;have e:bs.getD i false=b:=by rw[GM,q];rfl
  simp only[e]at hq;exact Mt hq
theorem Fw{bs:List Bool}:∀{us:List LB},Vals (bs.map V.bl) us->us=bs.map MJ:=by
 induction bs with
 | nil=>intro us r;rw[Ic]at r;cases r;rfl
 | cons b bs ih=>
  intro us r;rw[Gs]at r;cases r with
  | cons r1 r2=>rw[ih r2,Gs];cases r1;rfl
theorem range_getD(bs:List Bool):(G9 bs.length).all (λi=>bs.getD i false)=bs.all id:=by
 have:(G9 bs.length).map (λi=>bs.getD i false)=bs:=Qt bs false
 conv=>rhs;rw[<-this]
 rw[KC];rfl
theorem tN(hc:X.calm=true):K4 X (.builtin "all") (λxs H Q=>∃(a:Addr) (bs:List Bool),xs=[.ref a]/\SqL X.K H a (bs.map V.bl)/\Q (.bl (bs.all id)) H):=by
 intro Uq s Z H xs us Q I rv h;obtain⟨a,bs,rfl,hq,q⟩:=h;obtain⟨u,rfl,ru⟩:=gv rv;cases ru;obtain⟨its,r,p,hz⟩:=I.list hq;have e:=Fw r;subst e;have hne:a≠s.heap.objs.size:=by
  obtain⟨o,n,e,_⟩:=p;exact GN (LI e)
 refine call_all_walk (Nc p.isList ?_);refine⟨s.heap.objs.size,_,_,_,_,_,λi=>bs.getD i false,rfl,QX.list (A:=X.A.in1) (show X.A.in1.handled=none from I.ok.hd hc) s.heap.objs.size a hne (bs.map MJ).toArray,⟨⟨_,LK _ rfl,rfl,rfl⟩,?_⟩,?_,λh' tk hk=>?_⟩;exact p.isList.at λo e=>LC _ e
 ·intro i v s Q E hv hq;exact pX (bs:=bs) i v s Q E (by simpa using hv) hq
 ·have I1:Inv X Uq Z H {s with heap:=h',toks:=tk}:=I.kept λb o e=>hk b o (λz=>absurd (ysM z) (GN (LI e))) (LC _ e);refine⟨.bl _,H,I1,rfl,?_⟩;have:(G9 (bs.map MJ).toArray.size).all (λi=>bs.getD i false)=bs.all id:=by rw[Gw,Gv];exact range_getD bs
  rw[this];exact q
def ub(to:TE)(tl th:TO):TG:=λv Z H Q=>to Z H λo H1=>tl Z H1 λl H2=>th Z H2 λu H3=>∃p b xs ys a c,o=.ref p/\v=.ref b/\l=some a/\u=some c/\H3 p=some (.lst xs)/\H3 b=some (.lst ys)/\p≠b/\0<=a/\a<=c/\c<=xs.length/\xs.length+ys.length<=sizeLine /\
 Q Z (upd H3 p (.lst (xs.take a.toNat++ys++xs.drop c.toNat)))
theorem uR{o:Expr}{lo hi:Option Expr}{to:TE}{tl th:TO}{p2 pos:Pos}(ho:PE X o to)(hl:PO X lo tl)(hu:PO X hi th)
  (ha:∀v,Nh (.Subscript o (.Slice lo hi none p2) pos) X.env v=(do
   let ov <-Mo [v] (eval o X.env)
   let iv <-Mo [v,ov] (eval (.Slice lo hi none p2) X.env)
   NE pos
   Mo [v,ov,iv] (NW ov iv v)
   P5 [iv,v,ov] []):=by intro _;rfl):PG X (.Subscript o (.Slice lo hi none p2) pos) (ub to tl th):=by
 intro Uq s Z H v u Q I r h;rw[ha];refine LA (Mj (thn (ho Uq s Z H _ I h) λov s1 ⟨x,H1,I1,r1,q1⟩=>?_));refine LA (Mj (OD (thn (hl Uq s1 Z H1 _ I1 q1) λvl s2 ⟨l,H2,I2,pl,q2⟩=>thn (hu Uq s2 Z H2 _ I2 q2) λvu s3 ⟨w',H3,I3,pu,q3⟩=>?_)));rw[Nq];refine LF ?_;obtain⟨p,b,xs,ys,a,c,rfl,rfl,rfl,rfl,hp,hb,hne,h0,hac,hc,hz,q⟩:=q3;have I4:Inv X Uq Z H3 {s3 with heap:=s3.heap.push {cls:=.type "slice",data:=.fields #[vl,vu,.none]}}:=I3.kept (t':=s3.toks) λb ob q=>LC _ q;cases r1;cases r;refine LA (MZ (LA (Mj ?_)));cases pl with
 | int _ t1=>
  cases pu with
  | int _ t2=>
   exact sY (sl:=s3.heap.objs.size) I4 hp hb hne (M5 ..) ⟨t1,rfl⟩ ⟨t2,rfl⟩ h0 hac hc hz λs' I'=>wpAny_release ⟨Z,_,I',q⟩
end
def Has(P:LM)(w:LU)(K:yF)(mg:Str->Option LB)(base:Heap)(k:Nat)(name:Str)(ps:List Str)(sp:Sp):Prop:=
 ∃(f:Addr) (fd:MP),mg name=some (.ref f)/\HX K (.ref f)=true/\Ln K fd ps []/\Ls P w K mg base CX0 k f fd ps sp/\∃oc od osl,K.lookup f=some ⟨oc,od,.func fd,osl⟩
def Def(K:yF)(mg:Str->Option LB)(name:Str)(st:Stmt)(ps:List Str):Prop:=
 ∃(f:Addr) (fd:MP),mg name=some (.ref f)/\Fun K name name st f fd/\Ln K fd ps []
theorem Def.has{P:LM}{w:LU}{K:yF}{mg:Str->Option LB}{base:Heap}{k:Nat}{name:Str}{st:Stmt}{N ps:List Str}{sp:Sp}(d:Def K mg name st ps)(S:KT N ps (aj st))(len:∀vs H Q E,sp vs H Q E->vs.length=ps.length)
  (hbody:∀(f:Addr) (cdv:LB) (A:LQ) (outer:List Env) (s:LD) (H:Hp) (vs:List V) (Q:VK) (E:XK),K8 k (A.deeper (Nz name (aj st) s.heap.objs.size f cdv))->sp vs H Q E ->
   ∃t,PSs (kU CX0 P w K mg base N name (aj st) f cdv A outer s H E).nox (br st) t/\t {nx:=λ_ H'=>Q .non H',rt:=Q} (bG N vs) H):Has P w K mg base (k+1) name ps sp:=by
 obtain⟨f,fd,h1,F,b⟩:=d;obtain⟨oc,od,kV,doc,pm,an,cdv,ct,osl,e,lk,hcd⟩:=F.ex;exact⟨f,fd,h1,F.kp,b,F.ok S len (hbody f),oc,od,osl,lk⟩
theorem uo{P:LM}{w:LU}{K:yF}{mg:Str->Option LB}{fa:Addr}{name:Str}{st:Stmt}{x:Str}{k:Nat}{sp:Sp}(hfa:mg name=some (.ref fa))(d:Def K mg name st [x])
  (hb:∀(kV doc pm:LB) (an:Option Addr) (cdv ct:LB) (s:LD) (v:LB),OQ s (HK name name (dm st) (br st) (aj st) .none kV doc pm an cdv ct) ⟨[v],[]⟩ [(x,v)])
  (H:∀base:Heap,K.In base->base.Ns Md mg->Has P w K mg base k name [x] sp) :
  ∃fd:MP,(∀(s:LD) (v:LB),OQ s fd ⟨[v],[]⟩ [(x,v)])/\∀base:Heap,K.In base->base.Ns Md mg->Ls P w K mg base CX0 k fa fd [x] sp:=by
 obtain⟨f,fd,h1,F,b⟩:=d;rw[hfa]at h1;cases h1;obtain⟨oc,od,kV,doc,pm,an,cdv,ct,osl,e,lk,hcd⟩:=F.ex;refine⟨fd,λs v=>by rw[e];exact hb _ _ _ _ _ _ s v,λbase kb nb=>?_⟩;obtain⟨f',fd',g1,_,_,g4,oc',od',osl',lk'⟩:=H base kb nb;rw[hfa]at g1;cases g1;rw[lk]at lk';cases lk';exact g4
section
variable {X:Cx}{x:Str}{e:Expr}{es:List Expr}{p pos:Pos}{k:Nat}{ps:List Str}{sp:Sp}{t:TA}
theorem Er(h:Has X.prog X.w X.K X.mg X.base k x ps sp)(hr:K8 k X.A)(hg:Gl X x)(ha:PA X (e::es) t)(hdb:(x==("__debug__" : Str))=false:=by decide)
  (he:LV (e::es) X.env=(false,eval e X.env)::LV es X.env:=by rfl) (hpl:(M9 pos (LV es X.env)).any (·.1)=false:=by rfl) :
  PE X (.Call (.Name x p) (e::es) [] pos) (l0 sp [] E0 t):=by
 obtain⟨f,fd,h1,h2,h3,h4,_⟩:=h;exact xU h4 hr hg h1 h2 h3 .nil Em ha hdb he hpl
end
section
variable {X:Cx}
def zU(K:yF):R2:=λx y H Q=>rI0 (λi j=>.int (i+j)) x y H Q\/((∃i j,x=.str i/\y=.str j/\i.length+j.length<=sizeLine/\Q (.str (i++j)) H)\/(EY x y H Q\/zW K x y H Q))
theorem op_addX:OpR X (Me .Add) (zU X.K):=op_add.or (op_add_str.or (op_cat.or xM))
def zZ(K:yF):R2:=λx y H Q=>rI Lv (λi j=>.int (i*j)) x y H Q\/((∃z n,x=.str z/\y=.int n/\1<=n/\n<=1000/\z.length<=1000/\Q (.str (oL (Gx n.toNat (sL z)).flatten)) H)\/(E9 x y H Q\/z7 K x y H Q))
theorem op_mulX:OpR X (Me .Mult) (zZ X.K):=op_mul.or (op_mulS.or (op_rep.or xP))
def CA(K:yF):R2:=λx y H Q=>rEq x y H Q\/(EZ K x y H Q\/E3 K x y H Q)
theorem A8(hu:X.A.units+64<Mm):OpR X (LZ .Eq) (CA X.K):=op_eq.or ((A6 hu).or (A7 hu))
def CH(K:yF):R2:=λx y H Q=>rNe x y H Q\/(E7 K x y H Q\/E8 K x y H Q)
theorem Bg(hu:X.A.units+64<Mm):OpR X (LZ .NotEq) (CH X.K):=op_ne.or ((Bd hu).or (Bf hu))
def CB(K:yF):R2:=λx y H Q=>(∃i j,x=.str i/\y=.str j/\Q (.bl (!(Mv j i 0 j.length 1).isEmpty)) H)\/(rIn K false x y H Q\/yK K false x y H Q)
theorem Ba(hu:X.A.units+64<Mm):OpR X (LZ .In) (CB X.K):=op_in_str.or (op_in_seq.or (A9 hu))
def ng(K:yF):R2:=λx y H Q=>(∃i j,x=.str i/\y=.str j/\Q (.bl (!(!(Mv j i 0 j.length 1).isEmpty))) H)\/(rIn K true x y H Q\/yK K true x y H Q)
theorem sy(hu:X.A.units+64<Mm):OpR X (LZ .NotIn) (ng X.K):=op_notIn_str.or (op_notIn_seq.or (sw hu))
theorem Gh:SlR X (rSl X.K):=sl_tup.or (sl_list.or CZ)
def vH(K:yF):List V->Hp->VK->Prop:=λxs H Q=>(∃p ys,xs=[.ref p]/\(SqL K H p ys\/SqT K H p ys)/\Q (.int ys.length) H)\/(∃z,xs=[.str z]/\z.length<=sizeLine/\Q (.int z.length) H)
theorem rH:K4 X (.builtin "len") (vH X.K):=K4.or mj mn
theorem wj(n:String):RelV (.ty n) (.type n):=rfl
end
noncomputable def Its(z:Str):It:=⟨λi _=>i<z.cps.size,λi H y H'=>H'=H/\∃c,z.cps[i]?=some c/\y=.str ⟨#[c]⟩,λi _=>z.cps.size<=i⟩
def DM(te:TE):TI:=λZ H R=>te Z H λx H1=>∃z:Str,x=.str z/\R (Its z) H1
theorem yf{X:Cx}{tg e:Expr}{te:TE}(he:PE X e te):PI X tg e (DM te):=BS he
theorem g8{N:List Str}(h:decide N.Nodup=true):N.Nodup:=of_decide_eq_true h
section
variable {X:Cx}{K:yF}
theorem F5(h:X.K=K):IxR X (rIx K):=h▸AO
def vK(K:yF):List V->Hp->VK->Prop:=λxs H Q=>∃p ys,xs=[.ref p]/\((SqL K H p ys/\∀l,H l=none->Q (.ref l) (upd H l (.tup ys)))\/(SqT K H p ys/\Q (.ref p) H))
def vI(K:yF):List V->Hp->VK->Prop:=λxs H Q=>∃p ys,xs=[.ref p]/\(SqL K H p ys\/SqT K H p ys)/\∀l,H l=none->Q (.ref l) (upd H l (.lst ys))
def EX(K:yF):List V->Hp->VK->Prop:=λxs H Q=>∃(a:Addr) (bs:List Bool),xs=[.ref a]/\SqL K H a (bs.map V.bl)/\Q (.bl (bs.all id)) H
def zY(K:yF):V->List V->Hp->VK->Prop:=λx vs H Q=>∃z a zs,x=.str z/\vs=[.ref a]/\SqL K H a (zs.map V.str)/\(zs.map (·.length)).sum+zs.length*z.length<=16777216/\Q (.str (Ng z zs)) H
theorem Gf{e:Expr}{te:TE}{j:Nat}{p1 p2 p3 pos:Pos}(h:X.K=K)(he:PE X e te):PE X (.Subscript e (.Slice none none (some (.UnaryOp .USub (.Constant (.int 1) j p1) p2)) p3) pos) (wB K te):=h▸xZ he
theorem tgK{es:List Expr}{k:Nat}{t:TGs}{n:Nat}{pos:Pos}(h:X.K=K)(hc:X.calm=true)(hs:PGs X es t)
  (hn:(Mw es X.env).length=n:=by rfl) (hst:(Mw es X.env).findIdx? (·.1)=none:=by rfl):PG X (.Tuple es k pos) (xp K n t):=h▸BQ hc hs hn hst
theorem ilK{tg l:Expr}{tl:TE}(h:X.K=K)(hl:PE X l tl):PI X tg l (qG K tl):=h▸ye hl
theorem itK{tg l:Expr}{tl:TE}(h:X.K=K)(hl:PE X l tl):PI X tg l (xt K tl):=h▸BU hl
def Ft(K:yF)(ta:TE):TT:=λZ H Q=>ta Z H λx H'=>∃k,xf K x H' k/\Q k H'
theorem Gi{a:Expr}{ta:TE}(h:X.K=K)(ha:PE X a ta)(he:∀whole,O7 a X.env whole=(do let v <-whole;NE a.pos;Mo [v] (P8 v))):PT X a (Ft K ta):=h▸vv ha he
variable {o e:Expr}{es:List Expr}{to:TE}{t:TA}{name:Str}{apos cpos:Pos}{T id:String}{r:V->List V->Hp->VK->Prop}
theorem FQ(h:X.K=K)(pa:Nk T)(slot:Slot T name id)(hty:Pc (.builtin id)=pure (.type "method_descriptor"))(hm:MtR X id r)(ho:PE X o to)
  (hbase:Mk o name X.env (eval o X.env)=eval o X.env:=by rfl) (hline:(apos.endLine==cpos.line)=true:=by rfl):PE X (.Call (.Attribute o name apos) [] [] cpos) (C0 K T r to):=h▸BL pa slot hty hm ho hbase hline
theorem bmK(h:X.K=K)(pa:Nk T)(slot:Slot T name id)(hty:Pc (.builtin id)=pure (.type "method_descriptor"))(hm:MtR X id r)(ho:PE X o to)(ha:PA X (e::es) t)
  (hbase:Mk o name X.env (eval o X.env)=eval o X.env:=by rfl)
  (hfew:((M9 cpos (LV (e::es) X.env)).all (λx=>!x.1)&&(backToKw cpos (keywordEach [] X.env)).all (λx=>x.1.isSome)
   && decide ((e::es).length+([]:List P6).length+(if([]:List P6).isEmpty then 0 else 1)<30))=true:=by rfl)
  (hline:(apos.endLine==cpos.line)=true:=by rfl) (hs:LV (e::es) X.env=(false,eval e X.env)::LV es X.env:=by rfl) (hplain:(M9 cpos (LV es X.env)).any (·.1)=false:=by rfl) :
  PE X (.Call (.Attribute o name apos) (e::es) [] cpos) (tBM K T r to t):=h▸Ep pa slot hty hm ho ha hbase hfew hline hs hplain
end
theorem K7.put{H H1:Hp}{l:Addr}{o:HO}(s:K7 H H1)(hl:H l=none):K7 H (L2.upd H1 l o):=λb u h=>by rw[L2.upd_ne (be h hl)];exact s b u h
structure Bi(mg:Str->Option LB):Prop where
 b_len:mg "len" = none
 b_all:mg "all" = none
 b_any:mg "any" = none
 b_tuple:mg "tuple" = none
 b_list:mg "list" = none
 b_range:mg "range" = none
 b_min:mg "min" = none
 b_max:mg "max" = none
 b_int:mg "int" = none
 b_bool:mg "bool" = none
 b_isinstance:mg "isinstance" = none
 b_str:mg "str" = none
 b_sorted:mg "sorted" = none
 b_sum:mg "sum" = none
 b_zip:mg "zip" = none
 b_enumerate:mg "enumerate" = none
 b_dict:mg "dict" = none
 b_abs:mg "abs" = none
 b_repr:mg "repr" = none
 b_reversed:mg "reversed" = none
 b_set:mg "set" = none
noncomputable abbrev LET:Str:="abcdefghijklmnopqrstuvwxyz"
theorem l8:(sL LET).length=26:=by decide +kernel
theorem LET_len':LET.length=26:=by decide +kernel
noncomputable def rd:D->Option D
 | .tup [.str x,nm,row]=>if x=("at" : Str)then some (.tup [nm,row])else none
 | _=>none
noncomputable def Itv(K:yF) (a:Addr) (n:Nat):It:=
 ⟨λi H=>i<n/\∃xs,SqL K H a xs/\xs.length=n,λi H x H'=>H'=H/\∀xs,SqL K H a xs->xs.length=n->xs[n-1-i]?=some x,λi _=>n<=i⟩
theorem wE{P:LM}{w:LU}{K:yF}{tg:Expr}(a it:Addr)(n:Nat):Lq P w K tg (Itv K a n) [it] it (λi h=>h.IsRevIter it a ((n:Int)-1-i)/\i<=n) where
 mem:=by simp
 obj:=λi h st b hb=>by
  have e:b=it:=by simpa using hb
  subst e;obtain⟨o,e,c,d⟩:=st.1;exact⟨o,e,λv z=>by rw[d]at z;cases z⟩
 keep:=λi h h' st k=>⟨st.1.at λo e=>k it (by simp) o e,st.2⟩
 item:=by
  intro X hP hw hK hc i Uq s Z H E I hf st hg;subst hP hw hK;obtain⟨hi,xs,hq,hl⟩:=hg;obtain⟨its,rv,p,hz⟩:=I.list hq;have hlt:n-1-i<xs.length:=by omega
  obtain⟨u,hu,ru⟩:=rv.get (i:=n-1-i) (x:=xs[n-1-i]) (by simp[hlt]);obtain⟨f0,f1,f2,f3,f4,f5⟩:=hf it (by simp);have e1:((n:Int)-1-i)=((n-1-i:Nat):Int):=by omega
  have st1:=st.1;rw[e1]at st1;refine wpAny_pyNext_rev_item st1 p.isList (x:=u) (by simpa using hu) λh' st' sb=>?_;have I1:Inv X Uq Z H {s with heap:=h'}:=I.turned (t':=s.toks) (λb o hb e=>(sb.2 b hb).trans e) f0 f1 f3 f4 f5;obtain⟨o,e,c,d⟩:=id st';have e2:((n-1-i:Nat):Int)-1=(n:Int)-1-((i+1:Nat):Int):=by omega
  rw[e2]at st';exact⟨u,rfl,nU (s:={s with heap:=h'}) e c d (by decide) ⟨xs[n-1-i],H,I1,ru,⟨rfl,λys hy _=>by rw[I.list_inj hy hq];simp[hlt]⟩,⟨st',by omega⟩,λb hb=>(hf b hb).1⟩⟩
 done:=by
  intro X hP hw hK hc i Uq s Z H E I hf st hg;subst hP hw hK;obtain⟨f0,f1,f2,f3,f4,f5⟩:=hf it (by simp);have hi:i=n:=Kn st.2 hg;have e1:((n:Int)-1-i) = -1:=by omega
  have st1:=st.1;rw[e1]at st1;exact wpAny_pyNext_rev_end (I.ok.hd hc) st1 λh' eb=>⟨rfl,I.turned (t':=s.toks) (λb o hb e=>eb b o hb e) f0 f1 f3 f4 f5⟩
 self:=λ_ _ _ _ _ st h=>OL st.1 h
def AK(K:yF)(ta:TA):TI:=λZ H R=>ta Z H λvs H1=>∃a xs,vs=[.ref a]/\SqL K H1 a xs/\R (Itv K a xs.length) H1
theorem BR{X:Cx}{tg a:Expr}{ta:TA}{p pos:Pos}(hg:Gl X "reversed")(hm:X.mg "reversed" = none)(ha:PA X [a] ta)(hs:LV [a] X.env=[(false,eval a X.env)]:=by rfl):PI X tg (.Call (.Name "reversed" p) [a] [] pos) (AK X.K ta):=by
 intro Uq s Z H R I h;refine Call_ (ic I hg hm boot_reversed (HB (thn (ha pos Uq s Z H _ I h) λus s1 ⟨vs,H1,I1,r1,q1⟩=>?_) hs rfl));obtain⟨l,xs,e,hq,q⟩:=q1;subst e;obtain⟨u,rfl,ru⟩:=gv r1;cases ru;obtain⟨its,rv,p',hz⟩:=I1.list hq;refine call_reversed_list p'.isList ?_;have hl:=rv.length;have st:(s1.heap.push (revObj l ((its.toArray.size:Int)-1))).IsRevIter s1.heap.objs.size l ((xs.length:Int)-1-((0:Nat):Int)):=by
  refine⟨_,LK _ rfl,rfl,?_⟩;show QB #[.ref l,Ny ((its.toArray.size:Int)-1)]=_;rw[Gw,<-hl];simp
 refine OL (i:=((xs.length:Int)-1-((0:Nat):Int))) st ?_;refine⟨s1.heap.objs.size,[s1.heap.objs.size],_,_,H1,rfl,I1.kept (t':=s1.toks) λb o e=>LC _ e,wE l _ xs.length,⟨st,Ie _⟩,λb hb=>?_,q⟩;have e:b=s1.heap.objs.size:=by simpa using hb
 subst e;exact I1.fpOk (GC _) (I1.hok.fresh (GC _))
theorem irK{X:Cx}{K:yF}{tg a:Expr}{ta:TA}{p pos:Pos}(h:X.K=K)(hg:Gl X "reversed")(hm:X.mg "reversed" = none)(ha:PA X [a] ta)(hs:LV [a] X.env=[(false,eval a X.env)]:=by rfl):PI X tg (.Call (.Name "reversed" p) [a] [] pos) (AK K ta):=h▸BR hg hm ha hs
def Aj(i j k:Nat)(ta:TA):TS:=λD Z H=>ta Z H λvs H1=>∃u v w,vs=[u,v,w]/\D.nx (((Z.set i (some u)).set j (some v)).set k (some w)) H1
theorem yn{X:Cx}{pos:Pos}{i j k:Nat}{x y z:Str}{a b c:Expr}{ta:TA}{px py pz pt:Pos}{kt k2 pt2}(hc:X.calm=true)(hN:X.N.Nodup)(hi:X.N[i]?=some x)(hj:X.N[j]?=some y)(hk:X.N[k]?=some z)(hij:i≠j)(hik:i≠k)(hjk:j≠k)
  (hx:X.env.scope.names.lookup x=some .local) (hy:X.env.scope.names.lookup y=some .local) (hz:X.env.scope.names.lookup z=some .local) (ha:PA X [a,b,c] ta)
  (hw:M1 [.Tuple [.Name x px,.Name y py,.Name z pz] kt pt] (.Tuple [a,b,c] k2 pt2) X.env=pure (some [x,y,z]))
  (hs:M0 [.Tuple [.Name x px,.Name y py,.Name z pz] kt pt] (.Tuple [a,b,c] k2 pt2) pos.line X.env=pure false:=by rfl) :
  PS X (.Assign [.Tuple [.Name x px,.Name y py,.Name z pz] kt pt] (.Tuple [a,b,c] k2 pt2) pos) (Aj i j k ta):=by
 intro Uq s Z H D I h;rw[PL];refine LA (MZ ?_);rw[hs];refine LA (LF ?_);rw[if_neg (by decide)];refine LA (Tuple_ (thn (ha _ Uq s Z H _ I h) λus s1 ⟨vs,H1,I1,r1,q1⟩=>?_));obtain⟨u,v,w,e1,q1⟩:=q1;subst e1;obtain⟨u1,u2,u3,rfl,ru,rv,rw'⟩:∃u1 u2 u3,us=[u1,u2,u3]/\RelV u u1/\RelV v u2/\RelV w u3:=by
  cases r1 with
  | cons p q=>
   cases q with
   | cons p' q'=>
    cases q' with
    | cons p'' q''=>
     cases q'';exact⟨_,_,_,rfl,p,p',p''⟩
 refine LP ?_ (by show 3<=sizeLine;decide);have I2:Inv X Uq Z H1 {s1 with heap:=s1.heap.push {cls:=.type "tuple",data:=.seq [u1,u2,u3].toArray}}:=I1.kept (t':=s1.toks) λb o e=>LC _ e;rw[hw];refine LA (LF ?_);show LH (LL X.prog X.w) X.A (do rule "assign.swapped-stores";let items <-unpackItems (.ref s1.heap.objs.size) 3 none;No [λv=>Na X.env z v,λv=>Na X.env y v,λv=>Na X.env x v] items.reverse;pure Py) _ _ _;refine LA (M4 (LA (Pi (items:=#[u1,u2,u3]) (I.ok.hd hc) (Q0 s1.heap _) λh' hx'=>?_)));have I3:=I2.kept (h':=h') (t':=s1.toks) λb o e=>hx' b o (GN (LI e)) e;show LH _ _ (No [λv=>Na X.env z v,λv=>Na X.env y v,λv=>Na X.env x v] [u3,u2,u1] >>= λ_=>pure Py) _ _ _;refine LA (My (Nb (cV I3 hN hk (.inl hz) rw' (λs2 I4=>?_) (.inr hz))));refine My (Nb (cV I4 hN hj (.inl hy) rv (λs3 I5=>?_) (.inr hy)));refine My (Nb (cV I5 hN hi (.inl hx) ru (λs4 I6=>NX (LF ?_)) (.inr hx)));have e:((Z.set k (some w)).set j (some v)).set i (some u)=((Z.set i (some u)).set j (some v)).set k (some w):=by
  rw[Je _ _ (LO hij),Je _ _ (LO hik),Je _ _ (LO hjk)]
 rw[e]at I6;exact⟨_,H1,I6,q1⟩
def Du(J2:It)(Zi:St)(g2:TG)(tc2:TT)(te:TE)(acc0:List V)(H3:Hp)(N:List V->Hp->Prop):Prop:=
 ∃W2:Nat->Nat->List V->Hp->Prop,(∃m,W2 0 m acc0 H3)/\∀i m acc H,W2 i m acc H->acc.length<sizeLine /\
  ((J2.stop i H/\N acc H) \/
  (J2.go i H/\∃N2:List V->Hp->Prop,(∀acc' H',N2 acc' H'->∃m',m'<m/\W2 (i+1) m' acc' H') /\
   ∀x H',J2.yld i H x H'->g2 x Zi H' λZ3 H4=>tc2 Z3 H4 λb H5=>if b=true then te Z3 H5 λv H6=>N2 (acc++[v]) H6 else N2 acc H5))
open PySem.AutoSeq1 (wpAny_loadPart')
section
variable {prog:LM}{w:LU}{A:LQ}{E:LB->LD->Prop}{ss:LD}
theorem k6{jt tt:Addr}{k:Nat}{els:Array LB}{y:LB}{Q:LB->LD->Prop}(qi:ss.heap.IsTupleIter jt tt k)(qt:ss.heap.IsTuple tt els)(qy:els[k]?=some y)
  (kk:∀h1,h1.IsTupleIter jt tt (k+1)->LY jt ss.heap h1->Q y {ss with heap:=h1}):LH (LL prog w) A (L6 (.ref jt)) Q E ss:=by
 obtain⟨qo,eo,ec,ed⟩:=id qi;obtain⟨ql,el,_,nl,edl⟩:=qt;unfold L6;refine LA (Ma (name:=LW "__next__") qi.typeIs MB (Mi MB qi.typeIs NH ?_ (NB _)));show LH _ _ (Qj (.ref jt) 0 >>= _) _ _ ss;refine LA (L0 eo ed (x:=.ref tt) rfl ?_);show LH _ _ (if(Mq tt==MH)=true then _ else _) _ _ ss;rw[if_neg (show ¬ ((Mq tt==MH)=true)from GG)];show LH _ _ (Qj (.ref jt) 1 >>= _) _ _ ss;refine LA (L0 eo ed (x:=.int k 0) rfl ?_);show LH _ _ (Oj (.ref tt) >>= _) _ _ ss;refine LA (Mf el edl ?_);simp only[GU,qy];refine LA (ML eo ed (by simp) (LF ⟨y,rfl,LF (kk _ ?_ (Ml ..))⟩));exact⟨_,Mp _ eo (Obj.isFreed_of_fields (Pe ed _)),(Obj.cls_mapFields ..).trans ec,by rw[Pe ed];simp[Ny]⟩
theorem iS{jt tt:Addr}{k:Nat}{els:Array LB}{Q:LB->LD->Prop}(hh:A.handled=none)(qi:ss.heap.IsTupleIter jt tt k)(qt:ss.heap.IsTuple tt els)(qy:els[k]?=none)
  (kk:∀h1 e,QJ jt ss.heap h1->(∃o,h1.get? e=some o/\o.cls=.type "StopIteration")->E (.ref e) {ss with heap:=h1}):LH (LL prog w) A (L6 (.ref jt)) Q E ss:=by
 obtain⟨qo,eo,ec,ed⟩:=id qi;obtain⟨ql,el,_,nl,edl⟩:=qt;unfold L6;refine LA (Ma (name:=LW "__next__") qi.typeIs MB (Mi MB qi.typeIs NH ?_ (NB _)));show LH _ _ (Qj (.ref jt) 0 >>= _) _ _ ss;refine LA (L0 eo ed (x:=.ref tt) rfl ?_);show LH _ _ (if(Mq tt==MH)=true then _ else _) _ _ ss;rw[if_neg (show ¬ ((Mq tt==MH)=true)from GG)];show LH _ _ (Qj (.ref jt) 1 >>= _) _ _ ss;refine LA (L0 eo ed (x:=.int k 0) rfl ?_);show LH _ _ (Oj (.ref tt) >>= _) _ _ ss;refine LA (Mf el edl ?_);simp only[GU,qy];refine LA (M4 (LA (ML eo ed (by simp) ?_)));show LH _ _ (newExc (.type "StopIteration") ([]:List LB) >>= _) _ _ _;refine LA ?_;simp only[newExc,newTuple];refine LA (LP ?_ (by size_fits));refine LA (m:=Qk _ _) (wpAny_of_eq (a:=MH) (by first|rfl|(simp only[Qk];rfl;done)) ?_);refine LP ?_ (by size_fits);simp only[raiseNew];refine LA (wpAny_handled ?_);first|rw[show A.in1.handled=none from hh]|rw[id hh]
 refine LA (LF (wpAny_throw ?_));exact kk _ _ (((Ml ..).extBut.push _).push _) ⟨_,LK _ rfl,rfl⟩
theorem nQ(hh:A.handled=none)(jt tt:Addr)(ne:tt≠jt)(els:Array LB):OM prog w A jt [jt,tt] els.size (λk v=>els[k]?=some v) (λk h=>h.IsTupleIter jt tt k/\h.IsTuple tt els) where
 live:=λ_ _ st=>let ⟨o,ho,_⟩:=st.1;⟨o,ho⟩
 frame:=λ_ _ _ st hk=>⟨st.1.at λo e=>hk jt (by simp) o e,let ⟨o,ho,r⟩:=st.2;⟨o,hk tt (by simp) o ho,r⟩⟩
 item:=λk s Q E hi st kk=>k6 st.1 st.2 (y:=els[k]) (by simp[hi]) λh1 i1 s1=>kk _ h1 s.toks (by simp[hi]) ⟨i1,st.2.extBut s1.extBut ne⟩ s1
 done:=λs Q E st kk=>iS hh st.1 st.2 (by simp) kk
end
def nc:V->List V->Hp->VK->Prop:=λx vs H Q=>∃l xs i y,x=.ref l/\vs=[.int i,y]/\H l=some (.lst xs)/\0<=i/\i<=xs.length/\xs.length<sizeLine/\Q .non (upd H l (.lst (xs.take i.toNat++y::xs.drop i.toNat)))
theorem so{X:Cx}:MtM X "list.insert" nc:=by
 intro Uq s Z H x vs v us Q I rx rv h;obtain⟨l,xs,i,y,rfl,rfl,hH,hi0,hi,hz0,q⟩:=h;cases rx;obtain⟨u1,u2,rfl,ru,ry⟩:=l6 rv;obtain⟨t,rfl⟩:=ru;obtain⟨z,its,n,r,hl,e⟩:=I.lstM hH;have h63:i<2^63:=by rw[LG]at hz0;omega
 have h62 : -(2^63)<=i:=by omega
 have hfit:¬(!Builtin.List.listFitsIndex i)=true:=by rw[OG h62 h63];exact GG
 have hsz:its.toArray.size<=sizeLine:=by rw[Gw];omega
 refine Ms F.slot_list_insert ⟨_,e,rfl⟩ F.entry_list_insert (F.args_list_insert_3 _ _ _) (PySem.AutoSeq1.list_insert_list_int_val_1 l _ n i t u2 hfit hsz) ⟨e,?_⟩;refine⟨.non,_,I.lset (its':=its.take i.toNat++u2::its.drop i.toNat) hH e ?_ ((r.take i.toNat).append (.cons ry (r.drop i.toNat))) ?_,rfl,q⟩
 ·show(its.toArray.extract 0 (if i<0 then(i+(its.toArray.size:Int)).toNat else min i.toNat its.toArray.size)).push u2++its.toArray.extract (if i<0 then(i+(its.toArray.size:Int)).toNat else min i.toNat its.toArray.size)=(its.take i.toNat++u2::its.drop i.toNat).toArray;have hm:min i.toNat its.toArray.size=i.toNat:=by rw[Gw];omega
  rw[if_neg (by omega),hm];simp;rw[GL (by rw[Hr];exact GC _)]
 ·rw[GD,GY,GI,Hr];omega
noncomputable def bz:Expr->Bool
 | .Starred _ _=>true
 | _=>false
theorem ba{e:Expr}{es:List Expr}{env:Env}(h:bz e=false):LV (e::es) env=(false,eval e env)::LV es env:=by
 cases e<;>first|rfl|cases h
noncomputable def aY:List Expr->Bool
 | []=>true
 | e::es=>(!bz e)&&aY es
theorem cT{env:Env}{pos:Pos}:∀{es:List Expr},aY es=true->(M9 pos (LV es env)).any (·.1)=false
 | [],_=>rfl
 | e::es,h=>by
  rw[aY,Gz]at h;have h1:bz e=false:=by simpa using h.1
  rw[ba h1];show(false||(M9 pos (LV es env)).any (·.1))=false;rw[cT h.2];rfl
theorem jv{env:Env}{pos:Pos}:∀{es:List Expr},aY es=true->(M9 pos (LV es env)).all (λx=>!x.1)=true
 | [],_=>rfl
 | e::es,h=>by
  rw[aY,Gz]at h;have h1:bz e=false:=by simpa using h.1
  rw[ba h1];show(!false&&(M9 pos (LV es env)).all (λx=>!x.1))=true;rw[jv h.2];rfl
section
variable {X:Cx}{K:yF}{e:Expr}{es:List Expr}{te:TE}{t:TA}{x:Str}{p pos:Pos}{k:Nat}{ps:List Str}{sp:Sp}
theorem cU(ha:PE X e te)(hr:PA X es t)(hs:bz e=false:=by rfl):PA X (e::es) (q5 te t):=xT ha hr (ba hs)
theorem uM(h:Has X.prog X.w X.K X.mg X.base k x ps sp)(hr:K8 k X.A)(hg:Gl X x)(ha:PA X (e::es) t)(hn:aY (e::es)=true:=by rfl)(hdb:(x==("__debug__" : Str))=false:=by decide):PE X (.Call (.Name x p) (e::es) [] pos) (l0 sp [] E0 t):=by
 rw[aY,Gz]at hn;exact Er h hr hg ha hdb (ba (by simpa using hn.1)) (cT hn.2)
theorem jd{id:String}{r:List V->Hp->VK->Prop}(hc:K4 X (.builtin id) r)(hg:Gl X x)(hm:X.mg x=none)(hb:Mh x=some (.builtin id))(ha:PA X (e::es) t)(hn:aY (e::es)=true:=by rfl)(hx:x≠("__name__" : Str):=by decide)(hdb:(x==("__debug__" : Str))=false:=by decide):PE X (.Call (.Name x p) (e::es) [] pos) (tCB r t):=by
 rw[aY,Gz]at hn;exact uK hc hg hm hb ha hx hdb (ba (by simpa using hn.1)) (cT hn.2)
theorem pJ{T:String}{r:List V->Hp->VK->Prop}(hc:K4 X (.type T) r)(hg:Gl X x)(hm:X.mg x=none)(hb:Mh x=some (.type T))(ha:PA X (e::es) t)(hn:aY (e::es)=true:=by rfl)(hx:x≠("__name__" : Str):=by decide)(hdb:(x==("__debug__" : Str))=false:=by decide):PE X (.Call (.Name x p) (e::es) [] pos) (tCB r t):=by
 rw[aY,Gz]at hn;exact sB hc hg hm hb ha hx hdb (ba (by simpa using hn.1)) (cT hn.2)
theorem Av{o:Expr}{to:TE}{name:Str}{apos cpos:Pos}{T id:String}{r:V->List V->Hp->VK->Prop}(h:X.K=K)(pa:Nk T)(slot:Slot T name id)(hty:Pc (.builtin id)=pure (.type "method_descriptor"))(hm:MtR X id r)(ho:PE X o to)(ha:PA X (e::es) t)(hn:aY (e::es)=true:=by rfl)(hlen:decide ((e::es).length<30)=true:=by rfl)
  (hbase:Mk o name X.env (eval o X.env)=eval o X.env:=by rfl) (hline:(apos.endLine==cpos.line)=true:=by rfl):PE X (.Call (.Attribute o name apos) (e::es) [] cpos) (tBM K T r to t):=by
 have hn':=hn;rw[aY,Gz]at hn';refine bmK h pa slot hty hm ho ha hbase ?_ hline (ba (by simpa using hn'.1)) (cT hn'.2);rw[jv hn];have:=of_decide_eq_true hlen;simp only[JT,IU,Nat.add_zero,List.isEmpty_nil,if_true];rw[decide_eq_true this];rfl
end
inductive I where
 | non|bl (b:Bool)|int (i:Int)|str (x:Str)|tup (is:List I)|ls (is:List I)
 | fd (ks:List Key) (is:List I)
mutual
def I.beq:I->I->Bool
 | .non,.non=>true
 | .bl a,.bl b=>a==b
 | .int a,.int b=>decide (a=b)
 | .str a,.str b=>decide (a=b)
 | .tup a,.tup b=>I.beqs a b
 | .ls a,.ls b=>I.beqs a b
 | .fd k a,.fd j b=>decide (k=j)&&I.beqs a b
 | _,_=>false
def I.beqs:List I->List I->Bool
 | [],[]=>true
 | a::as,b::bs=>I.beq a b&&I.beqs as bs
 | _,_=>false
end
mutual
theorem I.beq_iff:∀{a b:I},I.beq a b=true↔a=b
 | .non,b=>by cases b<;>simp[I.beq]
 | .bl x,b=>by cases b<;>simp[I.beq]
 | .int x,b=>by cases b<;>simp[I.beq]
 | .str x,b=>by cases b<;>simp[I.beq]
 | .tup x,b=>by
  cases b with
  | tup y=>rw[I.beq,I.beqs_iff,I.tup.injEq]
  | _=>simp[I.beq]
 | .ls x,b=>by
  cases b with
  | ls y=>rw[I.beq,I.beqs_iff,I.ls.injEq]
  | _=>simp[I.beq]
 | .fd k x,b=>by
  cases b with
  | fd j y=>rw[I.beq,Gz,I.beqs_iff,I.fd.injEq,decide_eq_true_iff]
  | _=>simp[I.beq]
theorem I.beqs_iff:∀{a b:List I},I.beqs a b=true↔a=b
 | [],b=>by cases b<;>simp[I.beqs]
 | x::xs,b=>by
  cases b with
  | nil=>simp[I.beqs]
  | cons y ys=>rw[I.beqs,Gz,I.beq_iff,I.beqs_iff,HE.injEq]
end
instance:DecidableEq I:=λa b=>decidable_of_iff (I.beq a b=true) I.beq_iff
inductive T where
 | im (i:I)|tup (ts:List T)|li (is:List I)|lst (ts:List T)|di (kvs:List (I×I))|dc (kvs:List (I×T))|ins (C:Addr) (fs:List (Str×T))
noncomputable def bY:Key->I
 | .inl i=>.int i
 | .inr x=>.str x
def DAt(K:yF)(H:Hp)(a:Addr)(ks:List (I×V)):Prop:=∃ys:List (Key×V),H a=some (.dK ys)/\ks=ys.map λp=>(bY p.1,p.2)
mutual
def RpI(K:yF)(H:Hp):I->V->Prop
 | .non,v=>v=.non
 | .bl b,v=>v=.bl b
 | .int i,v=>v=.int i
 | .str x,v=>v=.str x
 | .tup is,v=>∃a xs,v=.ref a/\SqT K H a xs/\KS K H is xs
 | .ls is,v=>∃a o xs,v=.ref a/\H a=some (.frz o (.lst xs))/\KS K H is xs
 | .fd ks is,v=>∃a o ys,v=.ref a/\H a=some (.frz o (.dK ys))/\ys.map (·.1)=ks/\KS K H is (ys.map (·.2))
def KS(K:yF)(H:Hp):List I->List V->Prop
 | [],xs=>xs=[]
 | t::ts,xs=>∃x r,xs=x::r/\RpI K H t x/\KS K H ts r
end
mutual
def Rp(K:yF)(H:Hp):T->V->List Addr->Prop
 | .im i,v,F=>RpI K H i v/\F=[]
 | .tup ts,v,F=>∃a xs,v=.ref a/\SqT K H a xs/\Rps K H ts xs F
 | .li is,v,F=>∃a xs,v=.ref a/\Rd H a (.lst xs)/\KS K H is xs/\F=[a]
 | .lst ts,v,F=>∃a xs F',v=.ref a/\Rd H a (.lst xs)/\Rps K H ts xs F'/\F=a::F'
 | .di kvs,v,F=>∃a ys,v=.ref a/\DAt K H a ys/\KS K H (kvs.map (·.2)) (ys.map (·.2))/\ys.map (·.1)=kvs.map (·.1)/\F=[a]
 | .dc kvs,v,F=>∃a ys F',v=.ref a/\DAt K H a ys/\Rpk K H kvs ys F'/\F=a::F'
 | .ins C fs,v,F=>∃a dx ys F',v=.ref a/\H a=some (.ins C dx ys)/\Rpf K H fs ys F'/\F=a::F'
def Rps(K:yF)(H:Hp):List T->List V->List Addr->Prop
 | [],xs,F=>xs=[]/\F=[]
 | t::ts,xs,F=>∃x r F1 F2,xs=x::r/\Rp K H t x F1/\Rps K H ts r F2/\F=F1++F2
def Rpk(K:yF)(H:Hp):List (I×T)->List (I×V)->List Addr->Prop
 | [],xs,F=>xs=[]/\F=[]
 | (k,t)::ts,xs,F=>∃x r F1 F2,xs=(k,x)::r/\Rp K H t x F1/\Rpk K H ts r F2/\F=F1++F2
def Rpf(K:yF)(H:Hp):List (Str×T)->List (Str×V)->List Addr->Prop
 | [],xs,F=>xs=[]/\F=[]
 | (k,t)::ts,xs,F=>∃x r F1 F2,xs=(k,x)::r/\Rp K H t x F1/\Rpf K H ts r F2/\F=F1++F2
end
noncomputable def AN:HO->Bool
 | .lst _=>true|.dK _=>true|.dT _=>true|.ins _ _ _=>true|.ext _=>true|_=>false
def Mu(H:Hp)(a:Addr):Prop:=∃o,H a=some o/\AN o=true
def KZ(M:List Addr)(H H':Hp):Prop:=∀b o,H b=some o->b∉M->H' b=some o
theorem K7.offM{H H':Hp}(s:K7 H H')(M:List Addr):KZ M H H':=λb o h _=>s b o h
theorem KZ.refl(M:List Addr)(H:Hp):KZ M H H:=λb o h _=>h
theorem KZ.mono{M M':List Addr}{H H1:Hp}(x:KZ M H H1)(y:∀a∈M,a∈M'):KZ M' H H1:=λb o h n=>x b o h λz=>n (y b z)
theorem KZ.upd{H:Hp}{a:Addr}{o:HO}:KZ [a] H (upd H a o):=λb u h n=>by rw[upd_ne (by simpa using n)];exact h
theorem KZ.rd{M:List Addr}{H H':Hp}{a:Addr}{o:HO}(x:KZ M H H')(n:a∉M)(h:Rd H a o):Rd H' a o:=by
 rcases h with h|⟨u,h⟩;exact .inl (x a _ h n);exact .inr ⟨u,x a _ h n⟩
theorem KZ.sqT{K:yF}{M:List Addr}{H H':Hp}{a:Addr}{xs:List V}(x:KZ M H H')(hM:∀b∈M,Mu H b)(h:SqT K H a xs):SqT K H' a xs:=by
 rcases h with(h|⟨u,h⟩)|h;exact .inl (.inl (x a _ h λz=>by obtain⟨o,e,m⟩:=hM a z;rw[h]at e;cases e;cases m));exact .inl (.inr ⟨u,x a _ h λz=>by obtain⟨o,e,m⟩:=hM a z;rw[h]at e;cases e;cases m⟩);exact .inr h
theorem DAt.off{K:yF}{M:List Addr}{H H':Hp}{a:Addr}{ks:List (I×V)}(x:KZ M H H')(n:a∉M)(h:DAt K H a ks):DAt K H' a ks:=by
 obtain⟨ys,h1,h2⟩:=h;exact⟨ys,x a _ h1 n,h2⟩
theorem DAt.dom{K:yF}{H:Hp}{a:Addr}{ks:List (I×V)}(h:DAt K H a ks):∃o,H a=some o:=by
 obtain⟨ys,h1,h2⟩:=h;exact⟨_,h1⟩
theorem Rd.dom{H:Hp}{a:Addr}{u:HO}(h:Rd H a u):∃o,H a=some o:=by
 rcases h with h|⟨o,h⟩;exact⟨_,h⟩;exact⟨_,h⟩
mutual
theorem RpI.off{K:yF}{M:List Addr}{H H':Hp}(x:KZ M H H')(hM:∀b∈M,Mu H b):∀{t:I} {v:V},RpI K H t v->RpI K H' t v
 | .non,_,h=>by rw[RpI]at h|-;exact h
 | .bl _,_,h=>by rw[RpI]at h|-;exact h
 | .int _,_,h=>by rw[RpI]at h|-;exact h
 | .str _,_,h=>by rw[RpI]at h|-;exact h
 | .tup ts,_,h=>by rw[RpI]at h|-;obtain⟨a,xs,h1,h2,h3⟩:=h;exact⟨a,xs,h1,x.sqT hM h2,KS.off x hM h3⟩
 | .ls ts,_,h=>by
  rw[RpI]at h|-;obtain⟨a,o,xs,h1,h2,h3⟩:=h;exact⟨a,o,xs,h1,x a _ h2 (λz=>by obtain⟨u,e,m⟩:=hM a z;rw[h2]at e;cases e;cases m),KS.off x hM h3⟩
 | .fd ks ts,_,h=>by
  rw[RpI]at h|-;obtain⟨a,o,ys,h1,h2,h3,h4⟩:=h;exact⟨a,o,ys,h1,x a _ h2 (λz=>by obtain⟨u,e,m⟩:=hM a z;rw[h2]at e;cases e;cases m),h3,KS.off x hM h4⟩
theorem KS.off{K:yF}{M:List Addr}{H H':Hp}(x:KZ M H H')(hM:∀b∈M,Mu H b):∀{ts:List I} {xs:List V},KS K H ts xs->KS K H' ts xs
 | [],_,h=>by rw[KS]at h|-;exact h
 | t::ts,_,h=>by
  rw[KS]at h|-;obtain⟨y,r,h1,h2,h3⟩:=h;exact⟨y,r,h1,RpI.off x hM h2,KS.off x hM h3⟩
end
mutual
theorem Rp.off{K:yF}{M:List Addr}{H H':Hp}(x:KZ M H H')(hM:∀b∈M,Mu H b):∀{t:T} {v:V} {F:List Addr},(∀a∈F,a∉M)->Rp K H t v F->Rp K H' t v F
 | .im _,_,_,_,h=>by rw[Rp]at h|-;exact⟨RpI.off x hM h.1,h.2⟩
 | .tup ts,_,_,n,h=>by rw[Rp]at h|-;obtain⟨a,xs,h1,h2,h3⟩:=h;exact⟨a,xs,h1,x.sqT hM h2,Rps.off x hM n h3⟩
 | .li ts,_,_,n,h=>by
  rw[Rp]at h|-;obtain⟨a,xs,h1,h2,h3,rfl⟩:=h;exact⟨a,xs,h1,x.rd (n a ymS) h2,KS.off x hM h3,rfl⟩
 | .lst ts,_,_,n,h=>by
  rw[Rp]at h|-;obtain⟨a,xs,F',h1,h2,h3,rfl⟩:=h;exact⟨a,xs,F',h1,x.rd (n a ymS) h2,Rps.off x hM (λb hb=>n b (ymC _ hb)) h3,rfl⟩
 | .di kvs,_,_,n,h=>by
  rw[Rp]at h|-;obtain⟨a,xs,h1,h2,h3,h4,rfl⟩:=h;exact⟨a,xs,h1,h2.off x (n a ymS),KS.off x hM h3,h4,rfl⟩
 | .dc kvs,_,_,n,h=>by
  rw[Rp]at h|-;obtain⟨a,xs,F',h1,h2,h3,rfl⟩:=h;exact⟨a,xs,F',h1,h2.off x (n a ymS),Rpk.off x hM (λb hb=>n b (ymC _ hb)) h3,rfl⟩
 | .ins C fs,_,_,n,h=>by
  rw[Rp]at h|-;obtain⟨a,dx,xs,F',h1,h2,h3,rfl⟩:=h;exact⟨a,dx,xs,F',h1,x a _ h2 (n a ymS),Rpf.off x hM (λb hb=>n b (ymC _ hb)) h3,rfl⟩
theorem Rps.off{K:yF}{M:List Addr}{H H':Hp}(x:KZ M H H')(hM:∀b∈M,Mu H b):∀{ts:List T} {xs:List V} {F:List Addr},(∀a∈F,a∉M)->Rps K H ts xs F->Rps K H' ts xs F
 | [],_,_,_,h=>by rw[Rps]at h|-;exact h
 | t::ts,_,_,n,h=>by
  rw[Rps]at h|-;obtain⟨y,r,F1,F2,h1,h2,h3,rfl⟩:=h;exact⟨y,r,F1,F2,h1,Rp.off x hM (λb hb=>n b (yaL _ hb)) h2,Rps.off x hM (λb hb=>n b (yaR _ hb)) h3,rfl⟩
theorem Rpk.off{K:yF}{M:List Addr}{H H':Hp}(x:KZ M H H')(hM:∀b∈M,Mu H b):∀{ts:List (I×T)} {xs:List (I×V)} {F:List Addr},(∀a∈F,a∉M)->Rpk K H ts xs F->Rpk K H' ts xs F
 | [],_,_,_,h=>by rw[Rpk]at h|-;exact h
 | (k,t)::ts,_,_,n,h=>by
  rw[Rpk]at h|-;obtain⟨y,r,F1,F2,h1,h2,h3,rfl⟩:=h;exact⟨y,r,F1,F2,h1,Rp.off x hM (λb hb=>n b (yaL _ hb)) h2,Rpk.off x hM (λb hb=>n b (yaR _ hb)) h3,rfl⟩
theorem Rpf.off{K:yF}{M:List Addr}{H H':Hp}(x:KZ M H H')(hM:∀b∈M,Mu H b):∀{ts:List (Str×T)} {xs:List (Str×V)} {F:List Addr},(∀a∈F,a∉M)->Rpf K H ts xs F->Rpf K H' ts xs F
 | [],_,_,_,h=>by rw[Rpf]at h|-;exact h
 | (k,t)::ts,_,_,n,h=>by
  rw[Rpf]at h|-;obtain⟨y,r,F1,F2,h1,h2,h3,rfl⟩:=h;exact⟨y,r,F1,F2,h1,Rp.off x hM (λb hb=>n b (yaL _ hb)) h2,Rpf.off x hM (λb hb=>n b (yaR _ hb)) h3,rfl⟩
end
theorem Rp.same{K:yF}{H H':Hp}(x:K7 H H'){t:T}{v:V}{F:List Addr}(h:Rp K H t v F):Rp K H' t v F:=Rp.off (x.offM []) (by simp) (by simp) h
theorem Rps.same{K:yF}{H H':Hp}(x:K7 H H'){t:List T}{v:List V}{F:List Addr}(h:Rps K H t v F):Rps K H' t v F:=Rps.off (x.offM []) (by simp) (by simp) h
theorem KS.same{K:yF}{H H':Hp}(x:K7 H H'){t:List I}{v:List V}(h:KS K H t v):KS K H' t v:=KS.off (x.offM []) (by simp) h
mutual
theorem Rp.dom{K:yF}{H:Hp}:∀{t:T} {v:V} {F:List Addr},Rp K H t v F->∀a∈F,∃o,H a=some o
 | .im _,_,_,h=>by rw[Rp]at h;rw[h.2];simp
 | .tup ts,_,_,h=>by rw[Rp]at h;obtain⟨_,_,_,_,h⟩:=h;exact Rps.dom h
 | .li ts,_,_,h=>by
  rw[Rp]at h;obtain⟨a,xs,h1,h2,h3,rfl⟩:=h;intro b hb;rw[ysM hb];exact h2.dom
 | .lst ts,_,_,h=>by
  rw[Rp]at h;obtain⟨a,xs,F',h1,h2,h3,rfl⟩:=h;intro b hb;rcases ycM hb with rfl|hb;exact h2.dom;exact Rps.dom h3 b hb
 | .di ts,_,_,h=>by
  rw[Rp]at h;obtain⟨a,xs,h1,h2,h3,h4,rfl⟩:=h;intro b hb;rw[ysM hb];exact h2.dom
 | .dc ts,_,_,h=>by
  rw[Rp]at h;obtain⟨a,xs,F',h1,h2,h3,rfl⟩:=h;intro b hb;rcases ycM hb with rfl|hb;exact h2.dom;exact Rpk.dom h3 b hb
 | .ins C ts,_,_,h=>by
  rw[Rp]at h;obtain⟨a,dx,xs,F',h1,h2,h3,rfl⟩:=h;intro b hb;rcases ycM hb with rfl|hb;exact⟨_,h2⟩;exact Rpf.dom h3 b hb
theorem Rps.dom{K:yF}{H:Hp}:∀{ts:List T} {xs:List V} {F:List Addr},Rps K H ts xs F->∀a∈F,∃o,H a=some o
 | [],_,_,h=>by rw[Rps]at h;rw[h.2];simp
 | t::ts,_,_,h=>by
  rw[Rps]at h;obtain⟨y,r,F1,F2,h1,h2,h3,rfl⟩:=h;intro b hb;rcases yaM hb with hb|hb;exact Rp.dom h2 b hb;exact Rps.dom h3 b hb
theorem Rpk.dom{K:yF}{H:Hp}:∀{ts:List (I×T)} {xs:List (I×V)} {F:List Addr},Rpk K H ts xs F->∀a∈F,∃o,H a=some o
 | [],_,_,h=>by rw[Rpk]at h;rw[h.2];simp
 | (k,t)::ts,_,_,h=>by
  rw[Rpk]at h;obtain⟨y,r,F1,F2,h1,h2,h3,rfl⟩:=h;intro b hb;rcases yaM hb with hb|hb;exact Rp.dom h2 b hb;exact Rpk.dom h3 b hb
theorem Rpf.dom{K:yF}{H:Hp}:∀{ts:List (Str×T)} {xs:List (Str×V)} {F:List Addr},Rpf K H ts xs F->∀a∈F,∃o,H a=some o
 | [],_,_,h=>by rw[Rpf]at h;rw[h.2];simp
 | (k,t)::ts,_,_,h=>by
  rw[Rpf]at h;obtain⟨y,r,F1,F2,h1,h2,h3,rfl⟩:=h;intro b hb;rcases yaM hb with hb|hb;exact Rp.dom h2 b hb;exact Rpf.dom h3 b hb
end
theorem KS.nil{K:yF}{H:Hp}:KS K H [] []:=by rw[KS]
theorem KS.cons{K:yF}{H:Hp}{t:I}{ts:List I}{x:V}{xs:List V}(h:RpI K H t x)(hs:KS K H ts xs):KS K H (t::ts) (x::xs):=by rw[KS];exact⟨x,xs,rfl,h,hs⟩
theorem KS.cons_inv{K:yF}{H:Hp}{t:I}{ts:List I}{xs:List V}(h:KS K H (t::ts) xs):∃x r,xs=x::r/\RpI K H t x/\KS K H ts r:=by rw[KS]at h;exact h
theorem KS.nil_inv{K:yF}{H:Hp}{xs:List V}(h:KS K H [] xs):xs=[]:=by rw[KS]at h;exact h
theorem KS.length{K:yF}{H:Hp}:∀{ts:List I} {xs:List V},KS K H ts xs->xs.length=ts.length
 | [],xs,h=>by rw[h.nil_inv];rfl
 | d::ds,xs,h=>by obtain⟨x,r,rfl,_,h3⟩:=h.cons_inv;rw[GI,GI,h3.length]
theorem KS.get{K:yF}{H:Hp}:∀{ts:List I} {xs:List V} {i:Nat} {t:I},KS K H ts xs->ts[i]?=some t->∃x,xs[i]?=some x/\RpI K H t x
 | [],_,_,_,_,e=>by simp at e
 | d::ds,xs,0,d',h,e=>by
  obtain⟨x,r,rfl,h2,h3⟩:=h.cons_inv;simp at e;subst e;exact⟨x,rfl,h2⟩
 | d::ds,xs,i+1,d',h,e=>by
  obtain⟨x,r,rfl,h2,h3⟩:=h.cons_inv;obtain⟨y,h4,h5⟩:=KS.get (i:=i) h3 (by simpa using e);exact⟨y,by simpa using h4,h5⟩
theorem KS.append{K:yF}{H:Hp}:∀{ds es:List I} {xs ys:List V},KS K H ds xs->KS K H es ys->KS K H (ds++es) (xs++ys)
 | [],es,xs,ys,h,h'=>by obtain rfl:=h.nil_inv;exact h'
 | d::ds,es,xs,ys,h,h'=>by
  obtain⟨x,r,rfl,h2,h3⟩:=h.cons_inv;exact KS.cons h2 (KS.append h3 h')
theorem KS.take{K:yF}{H:Hp}:∀{ds:List I} {xs:List V} (n:Nat),KS K H ds xs->KS K H (ds.take n) (xs.take n)
 | ds,xs,0,h=>by simp only[Kw];exact KS.nil
 | [],xs,n+1,h=>by obtain rfl:=h.nil_inv;exact KS.nil
 | d::ds,xs,n+1,h=>by
  obtain⟨x,r,rfl,h2,h3⟩:=h.cons_inv;exact KS.cons h2 (KS.take n h3)
theorem KS.drop{K:yF}{H:Hp}:∀{ds:List I} {xs:List V} (n:Nat),KS K H ds xs->KS K H (ds.drop n) (xs.drop n)
 | ds,xs,0,h=>h
 | [],xs,n+1,h=>by obtain rfl:=h.nil_inv;exact KS.nil
 | d::ds,xs,n+1,h=>by
  obtain⟨x,r,rfl,h2,h3⟩:=h.cons_inv;exact KS.drop n h3
theorem KS.one{K:yF}{H:Hp}{t:I}{x:V}(h:RpI K H t x):KS K H [t] [x]:=.cons h .nil
theorem KS.reverse{K:yF}{H:Hp}:∀{ds:List I} {xs:List V},KS K H ds xs->KS K H ds.reverse xs.reverse
 | [],xs,h=>by obtain rfl:=h.nil_inv;exact KS.nil
 | d::ds,xs,h=>by
  obtain⟨x,r,rfl,h2,h3⟩:=h.cons_inv;rw[G6,G6];exact KS.append (KS.reverse h3) (.one h2)
theorem KS.set{K:yF}{H:Hp}{t:I}{x:V}(hx:RpI K H t x):∀{ds:List I} {xs:List V} (n:Nat),KS K H ds xs->KS K H (ds.set n t) (xs.set n x)
 | [],xs,n,h=>by obtain rfl:=h.nil_inv;exact KS.nil
 | d::ds,xs,0,h=>by obtain⟨y,r,rfl,h2,h3⟩:=h.cons_inv;exact KS.cons hx h3
 | d::ds,xs,n+1,h=>by obtain⟨y,r,rfl,h2,h3⟩:=h.cons_inv;exact KS.cons h2 (KS.set hx n h3)
theorem KS.ints{K:yF}{H:Hp}:∀(ns:List Int),KS K H (ns.map I.int) (ns.map V.int)
 | []=>KS.nil
 | n::ns=>KS.cons (by rw[RpI]) (KS.ints ns)
theorem Rps.nil{K:yF}{H:Hp}:Rps K H [] [] []:=by rw[Rps];exact⟨rfl,rfl⟩
theorem Rps.cons{K:yF}{H:Hp}{t:T}{ts:List T}{x:V}{xs:List V}{F F':List Addr}(h:Rp K H t x F)(hs:Rps K H ts xs F'):Rps K H (t::ts) (x::xs) (F++F'):=by rw[Rps];exact⟨x,xs,F,F',rfl,h,hs,rfl⟩
theorem Rps.cons_inv{K:yF}{H:Hp}{t:T}{ts:List T}{xs:List V}{F:List Addr}(h:Rps K H (t::ts) xs F):∃x r F1 F2,xs=x::r/\Rp K H t x F1/\Rps K H ts r F2/\F=F1++F2:=by rw[Rps]at h;exact h
theorem Rps.nil_inv{K:yF}{H:Hp}{xs:List V}{F:List Addr}(h:Rps K H [] xs F):xs=[]/\F=[]:=by rw[Rps]at h;exact h
theorem Rps.length{K:yF}{H:Hp}:∀{ts:List T} {xs:List V} {F:List Addr},Rps K H ts xs F->xs.length=ts.length
 | [],xs,_,h=>by rw[h.nil_inv.1];rfl
 | d::ds,xs,_,h=>by obtain⟨x,r,_,_,rfl,_,h3,_⟩:=h.cons_inv;rw[GI,GI,h3.length]
theorem Rps.append{K:yF}{H:Hp}:∀{ds es:List T} {xs ys:List V} {F G:List Addr},Rps K H ds xs F->Rps K H es ys G->Rps K H (ds++es) (xs++ys) (F++G)
 | [],es,xs,ys,F,G,h,h'=>by obtain⟨rfl,rfl⟩:=h.nil_inv;exact h'
 | d::ds,es,xs,ys,F,G,h,h'=>by
  obtain⟨x,r,F1,F2,rfl,h2,h3,rfl⟩:=h.cons_inv;rw[GK];exact Rps.cons h2 (Rps.append h3 h')
theorem Rps.at{K:yF}{H:Hp}:∀{ts:List T} {xs:List V} {F:List Addr} {i:Nat} {t:T},Rps K H ts xs F->ts[i]?=some t ->
  ∃x A G B,xs[i]?=some x/\Rp K H t x G/\F=A++G++B/\Rps K H (ts.take i) (xs.take i) A/\Rps K H (ts.drop (i+1)) (xs.drop (i+1)) B
 | [],_,_,_,_,_,e=>by simp at e
 | d::ds,xs,_,0,d',h,e=>by
  obtain⟨x,r,F1,F2,rfl,h2,h3,rfl⟩:=h.cons_inv;simp at e;subst e;exact⟨x,[],F1,F2,rfl,h2,by simp,Rps.nil,by simpa using h3⟩
 | d::ds,xs,_,i+1,d',h,e=>by
  obtain⟨x,r,F1,F2,rfl,h2,h3,rfl⟩:=h.cons_inv;obtain⟨y,A,G,B,h4,h5,h6,h7,h8⟩:=Rps.at (i:=i) h3 (by simpa using e);refine⟨y,F1++A,G,B,by simpa using h4,h5,by rw[h6];simp,?_,by simpa using h8⟩;simpa using Rps.cons h2 h7
theorem Rps.take{K:yF}{H:Hp}:∀{ds:List T} {xs:List V} {F:List Addr} (n:Nat),Rps K H ds xs F->∃G G',Rps K H (ds.take n) (xs.take n) G/\Rps K H (ds.drop n) (xs.drop n) G'/\F=G++G'
 | ds,xs,F,0,h=>⟨[],F,by simp only[Kw];exact Rps.nil,by simpa using h,rfl⟩
 | [],xs,F,n+1,h=>by obtain⟨rfl,rfl⟩:=h.nil_inv;exact⟨[],[],Rps.nil,Rps.nil,rfl⟩
 | d::ds,xs,F,n+1,h=>by
  obtain⟨x,r,F1,F2,rfl,h2,h3,rfl⟩:=h.cons_inv;obtain⟨G,G',g1,g2,rfl⟩:=Rps.take n h3;exact⟨F1++G,G',Rps.cons h2 g1,g2,by rw[GK]⟩
theorem Rps.ims{K:yF}{H:Hp}:∀{is:List I} {xs:List V} {F:List Addr},Rps K H (is.map T.im) xs F↔(KS K H is xs/\F=[])
 | [],xs,F=>by rw[Ic,Rps,KS]
 | i::is,xs,F=>by
  rw[Gs,Rps,KS];constructor
  ·rintro⟨x,r,F1,F2,rfl,h1,h2,rfl⟩;rw[Rp]at h1;have:=Rps.ims.mp h2;exact⟨⟨x,r,rfl,h1.1,this.1⟩,by rw[h1.2,this.2];rfl⟩
  ·rintro⟨⟨x,r,rfl,h1,h2⟩,rfl⟩;exact⟨x,r,[],[],rfl,by rw[Rp];exact⟨h1,rfl⟩,Rps.ims.mpr ⟨h2,rfl⟩,rfl⟩
theorem hC{K:yF}{H:Hp}{i:I}{v:V}(h:RpI K H i v):Rp K H (.im i) v []:=by rw[Rp];exact⟨h,rfl⟩
theorem aZ{K:yF}{H:Hp}{i:I}{v:V}{F:List Addr}(h:Rp K H (.im i) v F):RpI K H i v/\F=[]:=by rw[Rp]at h;exact h
noncomputable def I.sc:I->Option V
 | .non=>some .non|.bl b=>some (.bl b)|.int i=>some (.int i)|.str x=>some (.str x)|.tup _=>none|.ls _=>none|.fd _ _=>none
theorem iU{t:I}{K:yF}{H:Hp}{v:V}(h:t.sc=some v):RpI K H t v:=by
 cases t<;>simp only[I.sc]at h<;>cases h<;>rw[RpI]
theorem Ab{t:I}{K:yF}{H:Hp}{v w:V}(h:t.sc=some v)(r:RpI K H t w):w=v:=by
 cases t<;>simp only[I.sc]at h<;>cases h<;>rw[RpI]at r<;>exact r
inductive Ac where
 | ix (n:Nat)|ky (k:I)|fd (f:Str)
 deriving DecidableEq
noncomputable def fj{κ α:Type} [DecidableEq κ]:List (κ × α)->κ->Option α
 | [],_=>none
 | (k',t)::r,k=>if k'=k then some t else fj r k
noncomputable def kC{κ α:Type} [DecidableEq κ]:List (κ × α)->κ->α->List (κ × α)
 | [],_,_=>[]
 | (k',t)::r,k,s=>if k'=k then(k',s)::r else(k',t)::kC r k s
noncomputable def jl:T->Ac->Option T
 | .lst ts,.ix n=>ts[n]?
 | .dc kvs,.ky k=>fj kvs k
 | .ins _ fs,.fd f=>fj fs f
 | _,_=>none
noncomputable def B6:T->Ac->T->T
 | .lst ts,.ix n,s=>.lst (ts.set n s)
 | .dc kvs,.ky k,s=>.dc (kC kvs k s)
 | .ins C fs,.fd f,s=>.ins C (kC fs f s)
 | t,_,_=>t
noncomputable def T.sub:T->List Ac->Option T
 | t,[]=>some t
 | t,a::p=>(jl t a).bind λs=>s.sub p
noncomputable def T.put:T->List Ac->T->T
 | _,[],s=>s
 | t,a::p,s=>match jl t a with
  | some u=>B6 t a (u.put p s)
  | none=>t
def at1(K:yF)(H:Hp):V->Ac->V->Prop
 | v,.ix n,w=>∃a xs,v=.ref a/\H a=some (.lst xs)/\xs[n]?=some w
 | v,.ky k,w=>∃a ys,v=.ref a/\DAt K H a ys/\fj ys k=some w
 | v,.fd f,w=>∃a C dx ys,v=.ref a/\H a=some (.ins C dx ys)/\fj ys f=some w
def atP(K:yF)(H:Hp):V->List Ac->V->Prop
 | v,[],w=>w=v
 | v,a::p,w=>∃u,at1 K H v a u/\atP K H u p w
theorem DAt.det{K:yF}{H:Hp}{a:Addr}{xs ys:List (I×V)}(h:DAt K H a xs)(g:DAt K H a ys):xs=ys:=by
 obtain⟨zs,h1,rfl⟩:=h;obtain⟨zs',h2,rfl⟩:=g;rw[h1]at h2;cases h2;rfl
theorem qk{K:yF}{H:Hp}{v w w':V}{a:Ac}(h:at1 K H v a w)(g:at1 K H v a w'):w=w':=by
 cases a with
 | ix n=>
  obtain⟨a,xs,rfl,h1,h2⟩:=h;obtain⟨a',xs',e,g1,g2⟩:=g;cases e;rw[h1]at g1;cases g1;rw[h2]at g2;cases g2;rfl
 | ky k=>
  obtain⟨a,xs,rfl,h1,h2⟩:=h;obtain⟨a',xs',e,g1,g2⟩:=g;cases e;have:=h1.det g1;subst this;rw[h2]at g2;cases g2;rfl
 | fd f=>
  obtain⟨a,C,dx,xs,rfl,h1,h2⟩:=h;obtain⟨a',C',dx',xs',e,g1,g2⟩:=g;cases e;rw[h1]at g1;cases g1;rw[h2]at g2;cases g2;rfl
theorem iz{K:yF}{H:Hp}:∀{p:List Ac} {v w w':V},atP K H v p w->atP K H v p w'->w=w'
 | [],v,w,w',h,g=>by rw[atP]at h g;rw[h,g]
 | a::p,v,w,w',h,g=>by
  rw[atP]at h g;obtain⟨u,h1,h2⟩:=h;obtain⟨u',g1,g2⟩:=g;have:=qk h1 g1;subst this;exact iz h2 g2
theorem qm{K:yF}{H:Hp}{a:Ac}:∀{p:List Ac} {v w u:V},atP K H v p w->at1 K H w a u->atP K H v (p++[a]) u
 | [],v,w,u,h,g=>by rw[atP]at h;subst h;exact⟨u,g,rfl⟩
 | b::p,v,w,u,h,g=>by
  rw[atP]at h;obtain⟨x,h1,h2⟩:=h;exact⟨x,h1,qm h2 g⟩
theorem qZ{a:Ac}:∀{p:List Ac} {t s u:T},t.sub p=some s->jl s a=some u->t.sub (p++[a])=some u
 | [],t,s,u,h,g=>by rw[T.sub]at h;cases h;rw[Hn,T.sub,g];rfl
 | b::p,t,s,u,h,g=>by
  rw[T.sub]at h;rw[G7,T.sub];cases e:jl t b with
  | none=>rw[e]at h;cases h
  | some x=>rw[e]at h;exact qZ (p:=p) h g
section
variable {K:yF}{H:Hp}
theorem Rpk.at{k:I}:∀{ts:List (I×T)} {xs:List (I×V)} {F:List Addr} {t:T},Rpk K H ts xs F->fj ts k=some t ->
  ∃x A G B,fj xs k=some x/\Rp K H t x G/\F=A++G++B/\∀H' s' G',(∀{u:T} {w:V} {F':List Addr},(∀a∈F',a∈A\/a∈B)->Rp K H u w F'->Rp K H' u w F')->Rp K H' s' x G'->Rpk K H' (kC ts k s') xs (A++G'++B)
 | [],xs,F,t,h,e=>by simp[fj]at e
 | (k',d)::ds,xs,F,t,h,e=>by
  rw[Rpk]at h;obtain⟨x,r,F1,F2,rfl,h2,h3,rfl⟩:=h;by_cases hk:k'=k
  ·subst hk;simp[fj]at e;subst e;refine⟨x,[],F1,F2,by simp[fj],h2,by simp,λH' s' G' st q=>?_⟩;simp only[kC,if_pos];rw[Rpk];refine⟨x,r,G',F2,rfl,q,?_,by simp⟩;have:∀{ts:List (I×T)} {xs:List (I×V)} {F:List Addr},(∀a∈F,a∈F2)->Rpk K H ts xs F->Rpk K H' ts xs F:=by
    intro ts
    induction ts with
    | nil=>intro xs F _ h;rw[Rpk]at h|-;exact h
    | cons p ts ih=>
     intro xs F hF h;obtain⟨k2,t2⟩:=p;rw[Rpk]at h|-;obtain⟨y,r,G1,G2,h1,h2,h3,rfl⟩:=h;exact⟨y,r,G1,G2,h1,st (λa ha=>.inr (hF a (yaL _ ha))) h2,ih (λa ha=>hF a (yaR _ ha)) h3,rfl⟩
   exact this (λa ha=>ha) h3
  ·simp[fj,hk]at e;obtain⟨y,A,G,B,h4,h5,h6,h7⟩:=Rpk.at h3 e;refine⟨y,F1++A,G,B,by simp[fj,hk,h4],h5,by rw[h6];simp,λH' s' G' st q=>?_⟩;simp only[kC,if_neg hk];rw[Rpk];exact⟨x,r,F1,A++G'++B,rfl,st (λa ha=>.inl (yaL _ ha)) h2,h7 H' s' G' (λha=>st (λa h=>(ha a h).imp (yaR _) id)) q,by simp⟩
theorem Rpf.at{k:Str}:∀{ts:List (Str×T)} {xs:List (Str×V)} {F:List Addr} {t:T},Rpf K H ts xs F->fj ts k=some t ->
  ∃x A G B,fj xs k=some x/\Rp K H t x G/\F=A++G++B/\∀H' s' G',(∀{u:T} {w:V} {F':List Addr},(∀a∈F',a∈A\/a∈B)->Rp K H u w F'->Rp K H' u w F')->Rp K H' s' x G'->Rpf K H' (kC ts k s') xs (A++G'++B)
 | [],xs,F,t,h,e=>by simp[fj]at e
 | (k',d)::ds,xs,F,t,h,e=>by
  rw[Rpf]at h;obtain⟨x,r,F1,F2,rfl,h2,h3,rfl⟩:=h;by_cases hk:k'=k
  ·subst hk;simp[fj]at e;subst e;refine⟨x,[],F1,F2,by simp[fj],h2,by simp,λH' s' G' st q=>?_⟩;simp only[kC,if_pos];rw[Rpf];refine⟨x,r,G',F2,rfl,q,?_,by simp⟩;have:∀{ts:List (Str×T)} {xs:List (Str×V)} {F:List Addr},(∀a∈F,a∈F2)->Rpf K H ts xs F->Rpf K H' ts xs F:=by
    intro ts
    induction ts with
    | nil=>intro xs F _ h;rw[Rpf]at h|-;exact h
    | cons p ts ih=>
     intro xs F hF h;obtain⟨k2,t2⟩:=p;rw[Rpf]at h|-;obtain⟨y,r,G1,G2,h1,h2,h3,rfl⟩:=h;exact⟨y,r,G1,G2,h1,st (λa ha=>.inr (hF a (yaL _ ha))) h2,ih (λa ha=>hF a (yaR _ ha)) h3,rfl⟩
   exact this (λa ha=>ha) h3
  ·simp[fj,hk]at e;obtain⟨y,A,G,B,h4,h5,h6,h7⟩:=Rpf.at h3 e;refine⟨y,F1++A,G,B,by simp[fj,hk,h4],h5,by rw[h6];simp,λH' s' G' st q=>?_⟩;simp only[kC,if_neg hk];rw[Rpf];exact⟨x,r,F1,A++G'++B,rfl,st (λa ha=>.inl (yaL _ ha)) h2,h7 H' s' G' (λha=>st (λa h=>(ha a h).imp (yaR _) id)) q,by simp⟩
theorem Mu.lst{a:Addr}{xs:List V}(m:Mu H a)(h:Rd H a (.lst xs)):H a=some (.lst xs):=by
 rcases h with h|⟨o,h⟩;exact h;obtain⟨u,e,m⟩:=m;rw[h]at e;cases e;cases m
theorem Rps.stay{H':Hp}:∀{ts:List T} {xs:List V} {F:List Addr},(∀{u:T} {w:V} {F':List Addr},(∀a∈F',a∈F)->Rp K H u w F'->Rp K H' u w F')->Rps K H ts xs F->Rps K H' ts xs F
 | [],_,_,_,h=>by rw[Rps]at h|-;exact h
 | t::ts,_,_,n,h=>by
  rw[Rps]at h|-;obtain⟨y,r,F1,F2,h1,h2,h3,rfl⟩:=h;exact⟨y,r,F1,F2,h1,n (λa ha=>yaL _ ha) h2,Rps.stay (λha=>n λa h=>yaR _ (ha a h)) h3,rfl⟩
theorem Rp.at1{t s:T}{v:V}{F:List Addr}{a:Ac}(h:Rp K H t v F)(mu:∀b∈F,Mu H b)(nd:F.Nodup)(e:jl t a=some s) :
  ∃w A G B,L2.at1 K H v a w/\Rp K H s w G/\F=A++G++B/\∀H' s' G',KZ G H H'->Rp K H' s' w G'->Rp K H' (B6 t a s') v (A++G'++B):=by
 have dj:∀{A G B:List Addr},F=A++G++B->∀b,(b∈A\/b∈B)->b∉G:=by
  intro A G B e b hb hg;rw[e]at nd;rcases hb with hb|hb;exact(Gy.mp (Gy.mp nd).1).2.2 b hb b hg rfl;exact(Gy.mp nd).2.2 b (yaR _ hg) b hb rfl
 have muG:∀{A G B:List Addr},F=A++G++B->∀b∈G,Mu H b:=λe b hb=>mu b (by rw[e];simp[hb]);cases t with
 | lst ts=>
  cases a with
  | ix n=>
   rw[Rp]at h;obtain⟨a,xs,F',rfl,h2,h3,rfl⟩:=h;have ha:=(mu a ymS).lst h2;obtain⟨x,A,G,B,h4,h5,h6,h7,h8⟩:=h3.at e;have e':a::F'=(a::A)++G++B:=by rw[h6];simp
   refine⟨x,a::A,G,B,⟨a,xs,rfl,ha,h4⟩,h5,e',λH' s' G' off q=>?_⟩;have st:∀{u:T} {w:V} {F':List Addr},(∀b∈F',b∈A\/b∈B)->Rp K H u w F'->Rp K H' u w F':=λhb r=>r.off off (muG e') (λb z=>dj e' b ((hb b z).imp (ymC _) id));show Rp K H' (.lst (ts.set n s')) (.ref a) _;rw[Rp];refine⟨a,xs,A++G'++B,rfl,.inl (off a _ ha (dj e' a (.inl ymS))),?_,by simp⟩;have hn:n<ts.length:=(Gr.mp e).1;have hn':n<xs.length:=(Gr.mp h4).1;have e1:ts.set n s'=ts.take n++s'::ts.drop (n+1):=by rw[List.set_eq_take_append_cons_drop,if_pos hn]
   have e2:xs=xs.take n++x::xs.drop (n+1):=by
    have:=Gr.mp h4;obtain⟨hl,hx⟩:=this
    conv=>lhs;rw[<-HY n xs,Ia hl,hx]
   rw[e1,e2,GK];exact Rps.append (Rps.stay (λhb=>st λb z=>.inl (hb b z)) h7) (Rps.cons q (Rps.stay (λhb=>st λb z=>.inr (hb b z)) h8))
  | ky k=>cases e
  | fd k=>cases e
 | dc kvs=>
  cases a with
  | ky k=>
   rw[Rp]at h;obtain⟨a,xs,F',rfl,h2,h3,rfl⟩:=h;obtain⟨x,A,G,B,h4,h5,h6,h7⟩:=h3.at e;have e':a::F'=(a::A)++G++B:=by rw[h6];simp
   refine⟨x,a::A,G,B,⟨a,xs,rfl,h2,h4⟩,h5,e',λH' s' G' off q=>?_⟩;have st:∀{u:T} {w:V} {F':List Addr},(∀b∈F',b∈A\/b∈B)->Rp K H u w F'->Rp K H' u w F':=λhb r=>r.off off (muG e') (λb z=>dj e' b ((hb b z).imp (ymC _) id));show Rp K H' (.dc (kC kvs k s')) (.ref a) _;rw[Rp];exact⟨a,xs,A++G'++B,rfl,h2.off off (dj e' a (.inl ymS)),h7 H' s' G' st q,by simp⟩
  | ix k=>cases e
  | fd k=>cases e
 | ins C fs=>
  cases a with
  | fd k=>
   rw[Rp]at h;obtain⟨a,dx,xs,F',rfl,h2,h3,rfl⟩:=h;obtain⟨x,A,G,B,h4,h5,h6,h7⟩:=h3.at e;have e':a::F'=(a::A)++G++B:=by rw[h6];simp
   refine⟨x,a::A,G,B,⟨a,C,dx,xs,rfl,h2,h4⟩,h5,e',λH' s' G' off q=>?_⟩;have st:∀{u:T} {w:V} {F':List Addr},(∀b∈F',b∈A\/b∈B)->Rp K H u w F'->Rp K H' u w F':=λhb r=>r.off off (muG e') (λb z=>dj e' b ((hb b z).imp (ymC _) id));show Rp K H' (.ins C (kC fs k s')) (.ref a) _;rw[Rp];exact⟨a,dx,xs,A++G'++B,rfl,off a _ h2 (dj e' a (.inl ymS)),h7 H' s' G' st q,by simp⟩
  | ix k=>cases e
  | ky k=>cases e
 | im _=>cases a<;>cases e
 | tup _=>cases a<;>cases e
 | li _=>cases a<;>cases e
 | di _=>cases a<;>cases e
theorem Rp.atP:∀{p:List Ac} {t s:T} {v:V} {F:List Addr},Rp K H t v F->(∀b∈F,Mu H b)->F.Nodup->t.sub p=some s ->
  ∃w A G B,L2.atP K H v p w/\Rp K H s w G/\F=A++G++B/\∀H' s' G',KZ G H H'->Rp K H' s' w G'->Rp K H' (t.put p s') v (A++G'++B)
 | [],t,s,v,F,h,mu,nd,e=>by
  rw[T.sub]at e;cases e;exact⟨v,[],F,[],rfl,h,by simp,λH' s' G' _ q=>by rw[T.put];simpa using q⟩
 | a::p,t,s,v,F,h,mu,nd,e=>by
  rw[T.sub]at e;cases e1:jl t a with
  | none=>rw[e1]at e;cases e
  | some u=>
   rw[e1]at e;obtain⟨w,A,G,B,h1,h2,rfl,h4⟩:=h.at1 mu nd e1;have nd2:=(Gy.mp (Gy.mp nd).1).2.1;obtain⟨x,A',G',B',g1,g2,rfl,g4⟩:=Rp.atP (p:=p) h2 (λb hb=>mu b (yaL _ (yaR _ hb))) nd2 e;refine⟨x,A++A',G',B'++B,⟨w,h1,g1⟩,g2,by simp,λH' s' G2 off q=>?_⟩;rw[T.put,e1];have:=h4 H' (u.put p s') (A'++G2++B') (off.mono λb hb=>by simp[hb]) (g4 H' s' G2 off q);simpa using this
end
inductive Kd where
 | ow|io (k:Nat)|vw (r:Option Nat) (p:Option (List Ac))
structure R where
 k:Kd
 t:T
structure En where
 key:Option Nat
 v:V
 r:R
structure Hd where
 e:En
 F:List Addr
structure Gm where
 K:yF
 H0:Hp
 io:List Addr
 iov:List V
noncomputable def Kd.isOw:Kd->Bool
 | .vw _ _=>false|_=>true
noncomputable def Kd.root:Kd->Option Nat
 | .vw r _=>r|_=>none
noncomputable def Hd.own(h:Hd):List Addr:=if h.e.r.k.isOw=true then h.F else []
def K2(Γ:Gm)(H:Hp)(L:List Hd)(h:Hd):Prop:=match h.e.r.k with
 | .ow=>∀a∈h.F,Γ.H0 a=none
 | .io k=>Γ.iov[k]?=some h.e.v
 | .vw none _=>∀a∈h.F,a∉L.flatMap Hd.own
 | .vw (some j) p=>∃g∈L,g.e.key=some j/\g.e.r.k.isOw=true/\(∀a∈h.F,a∈g.F\/a∉L.flatMap Hd.own)/\∀q,p=some q->g.e.r.t.sub q=some h.e.r.t/\atP Γ.K H g.e.v q h.e.v
structure GW(Γ:Gm)(H:Hp)(L:List Hd):Prop where
 nd:(L.flatMap Hd.own).Nodup
 ad:∀a∈L.flatMap Hd.own,Mu H a/\(Γ.H0 a=none\/a ∈ Γ.io)
 rp:∀h∈L,Rp Γ.K H h.e.r.t h.e.v h.F
 kd:∀h∈L,K2 Γ H L h
 ks:(L.filterMap λh=>h.e.key).Nodup
 fr:∀b o,Γ.H0 b=some o->b∉Γ.io->H b=some o
 iol:∀a ∈ Γ.io,∃o,H a=some o
section
variable {Γ:Gm}{H H':Hp}{L L':List Hd}{h:Hd}
theorem K2.sub(k:K2 Γ H L h)(s:∀g∈L,g.e.r.k.isOw=true->g∈L')(o:∀a∈L'.flatMap Hd.own,a∈L.flatMap Hd.own):K2 Γ H L' h:=by
 unfold K2 at k|-;split at k;exact k;exact k;exact λa ha z=>k a ha (o a z)
 ·obtain⟨g,h1,h2,h3,h4,h5⟩:=k;exact⟨g,s g h1 h3,h2,h3,λa ha=>(h4 a ha).imp id λz w=>z (o a w),h5⟩
theorem GW.perm(G:GW Γ H L)(p:L.Perm L'):GW Γ H L':=
 ⟨(p.flatMap_right _).nodup_iff.mp G.nd,λa ha=>G.ad a ((p.flatMap_right _).mem_iff.mpr ha),λh hh=>G.rp h (p.mem_iff.mpr hh),λh hh=>(G.kd h (p.mem_iff.mpr hh)).sub (λg hg _=>p.mem_iff.mp hg) (λa ha=>(p.flatMap_right _).mem_iff.mpr ha),(p.filterMap _).nodup_iff.mp G.ks,G.fr,G.iol⟩
theorem jJ(s:L'.Sublist L):(L'.flatMap Hd.own).Sublist (L.flatMap Hd.own):=by
 induction s with
 | slnil=>exact List.Sublist.refl _
 | cons a s ih=>rw[GH];exact ih.trans (List.sublist_append_right _ _)
 | cons_cons a s ih=>rw[GH,GH];exact(List.Sublist.refl _).append ih
theorem GW.sub(G:GW Γ H L)(s:L'.Sublist L)(ro:∀h∈L',∀j,h.e.r.k.root=some j->∀g∈L,g.e.key=some j->g.e.r.k.isOw=true->g∈L'):GW Γ H L':=by
 refine⟨(jJ s).nodup G.nd,λa ha=>G.ad a ((jJ s).subset ha),λh hh=>G.rp h (s.subset hh),λh hh=>?_,(s.filterMap _).nodup G.ks,G.fr,G.iol⟩;have k:=G.kd h (s.subset hh);unfold K2 at k|-;split at k;exact k;exact k;exact λa ha z=>k a ha ((jJ s).subset z)
 ·rename_i j p e;obtain⟨g,h1,h2,h3,h4,h5⟩:=k;exact⟨g,ro h hh j (by rw[e];rfl) g h1 h2 h3,h2,h3,λa ha=>(h4 a ha).imp id λz w=>z ((jJ s).subset w),h5⟩
theorem GW.drop(G:GW Γ H (h::L))(hk:h.e.key=none):GW Γ H L:=by
 refine G.sub (Jt _ _) λg hg j _ x hx hj _=>?_;rcases ycM hx with rfl|hx;rw[hk]at hj;cases hj;exact hx
theorem GW.dropK(G:GW Γ H (h::L))(hr:∀g∈L,∀j,h.e.key=some j->g.e.r.k.root≠some j):GW Γ H L:=by
 refine G.sub (Jt _ _) λg hg j hj x hx hk _=>?_;rcases ycM hx with rfl|hx;exact absurd hj (hr g hg j hk);exact hx
theorem GW.filter(G:GW Γ H L)(p:Hd->Bool)(hp:∀h∈L,h.e.r.k.isOw=true->p h=true):GW Γ H (L.filter p):=
 G.sub Ht λh hh j hj g hg hk ho=>GF.mpr ⟨hg,hp g hg ho⟩
theorem GW.new0(G:GW Γ H L){a:Addr}(e:H a=none) : Γ.H0 a=none:=by
 cases q : Γ.H0 a with
 | none=>rfl
 | some o=>
  exfalso;by_cases hio:a ∈ Γ.io;obtain⟨o,e'⟩:=G.iol a hio;rw[e]at e';cases e';have:=G.fr a o q hio;rw[e]at this;cases this
theorem GW.push(G:GW Γ H L){v:V}{r:R}{F:List Addr}(hr:Rp Γ.K H r.t v F)(hk:K2 Γ H L ⟨⟨none,v,r⟩,F⟩)(hF:r.k.isOw=false\/F=[]):GW Γ H (⟨⟨none,v,r⟩,F⟩::L):=by
 have e:Hd.own ⟨⟨none,v,r⟩,F⟩=[]:=by
  unfold Hd.own;rcases hF with h|h;simp[h];simp[h]
 refine⟨by rw[GH,e];exact G.nd,λa ha=>G.ad a (by rw[GH,e]at ha;exact ha),λx hx=>?_,λx hx=>?_,?_,G.fr,G.iol⟩
 ·rcases ycM hx with rfl|hx;exact hr;exact G.rp x hx
 ·rcases ycM hx with rfl|hx;exact hk.sub (λg hg _=>ymC _ hg) (λa ha=>by rw[GH,e]at ha;exact ha);exact(G.kd x hx).sub (λg hg _=>ymC _ hg) (λa ha=>by rw[GH,e]at ha;exact ha)
 ·rw[GS];exact G.ks
theorem GW.rekey(G:GW Γ H (h::L))(hk:h.e.key=none){key:Option Nat}(hn:∀j,key=some j->j∉L.filterMap λh=>h.e.key):GW Γ H (⟨⟨key,h.e.v,h.e.r⟩,h.F⟩::L):=by
 have eo:((⟨⟨key,h.e.v,h.e.r⟩,h.F⟩:Hd)::L).flatMap Hd.own=(h::L).flatMap Hd.own:=rfl;have ro:∀x∈L,K2 Γ H (h::L) x->K2 Γ H (⟨⟨key,h.e.v,h.e.r⟩,h.F⟩::L) x:=λx hx k=>by
  unfold K2 at k|-;split at k;exact k;exact k;exact k
  ·obtain⟨g,h1,h2,h3⟩:=k;rcases ycM h1 with rfl|h1;rw[hk]at h2;cases h2;exact⟨g,ymC _ h1,h2,h3⟩
 refine⟨G.nd,G.ad,λx hx=>?_,λx hx=>?_,?_,G.fr,G.iol⟩
 ·rcases ycM hx with rfl|hx;exact G.rp h ymS;exact G.rp x (ymC _ hx)
 ·rcases ycM hx with rfl|hx
  ·have k:=G.kd h ymS;unfold K2 at k|-;split at k;rename_i e;simp only[e];exact k;rename_i e;simp only[e];exact k;rename_i e;simp only[e];exact k
   ·rename_i e;simp only[e];obtain⟨g,h1,h2,h3⟩:=k;rcases ycM h1 with rfl|h1;rw[hk]at h2;cases h2;exact⟨g,ymC _ h1,h2,h3⟩
  ·exact ro x hx (G.kd x (ymC _ hx))
 ·have g:=G.ks;rw[GS,hk]at g;rw[GS];cases key with
  | none=>exact g
  | some j=>exact G3.mpr ⟨hn j rfl,g⟩
theorem iP{a:Addr}(ho:h.e.r.k.isOw=true)(ha:a∈h.F):a∈h.own:=by unfold Hd.own;rw[if_pos ho];exact ha
theorem GW.apart{hs:List Hd}(G:GW Γ H (hs++L))(hr:∀g∈L,∀h∈hs,∀j,h.e.key=some j->g.e.r.k.root≠some j)(ho:∀h∈hs,h.e.r.k.isOw=true):∀g∈L,∀a∈g.F,∀h∈hs,a∉h.F:=by
 intro g hg a ha h hh hah;have nd:=G.nd;rw[GJ]at nd;have h1:a∈hs.flatMap Hd.own:=Hs.mpr ⟨h,hh,iP (ho h hh) hah⟩;have out:a∉(hs++L).flatMap Hd.own->False:=λn=>n (by rw[GJ];exact yaL _ h1);have k:=G.kd g (yaR _ hg);have own:∀x∈L,x.e.r.k.isOw=true->a∈x.F->False:=λx hx ox hax=>
  (Gy.mp nd).2.2 a h1 a (Hs.mpr ⟨x,hx,iP ox hax⟩) rfl
 unfold K2 at k;split at k;rename_i e;exact own g hg (by rw[e];rfl) ha;rename_i e;exact own g hg (by rw[e];rfl) ha;exact out (k a ha)
 ·rename_i j p e;obtain⟨x,h1',h2,h3,h4,_⟩:=k;rcases h4 a ha with z|z
  ·rcases yaM h1' with hx|hx;exact hr g hg x hx j h2 (by rw[e];rfl);exact own x hx h3 z
  ·exact out z
theorem me{M:List Addr}(off:KZ M H H'){F:List Addr}(hF:∀a∈F,a∉M)(mu:∀a∈F,Mu H a):∀{q:List Ac} {t s:T} {v w:V} {F':List Addr},(∀a∈F',a∈F)->F'.Nodup->Rp Γ.K H t v F'->t.sub q=some s->atP Γ.K H v q w->atP Γ.K H' v q w
 | [],_,_,_,_,_,_,_,_,_,h=>h
 | a::q,t,s,v,w,F',hs,nd,r,e,h=>by
  rw[atP]at h|-;obtain⟨u,h1,h2⟩:=h;rw[T.sub]at e;cases e1:jl t a with
  | none=>rw[e1]at e;cases e
  | some x=>
   rw[e1]at e;obtain⟨y,A,G,B,g1,g2,rfl,_⟩:=r.at1 (λb hb=>mu b (hs b hb)) nd e1;have:=qk h1 g1;subst this;refine⟨u,?_,me off hF mu (λb hb=>hs b (yaL _ (yaR _ hb))) (Gy.mp (Gy.mp nd).1).2.1 g2 e h2⟩;cases a with
   | ix n=>
    obtain⟨b,xs,rfl,z1,z2⟩:=h1;refine⟨b,xs,rfl,off b _ z1 (hF b ?_),z2⟩;cases t<;>simp only[jl]at e1<;>try cases e1
    rw[Rp]at r;obtain⟨b',xs',F'',eb,_,_,eF⟩:=r;cases eb;exact hs b (by rw[eF];exact ymS)
   | ky n=>
    obtain⟨b,xs,rfl,z1,z2⟩:=h1;refine⟨b,xs,rfl,z1.off off (hF b ?_),z2⟩;cases t<;>simp only[jl]at e1<;>try cases e1
    rw[Rp]at r;obtain⟨b',xs',F'',eb,_,_,eF⟩:=r;cases eb;exact hs b (by rw[eF];exact ymS)
   | fd n=>
    obtain⟨b,C,dx,xs,rfl,z1,z2⟩:=h1;refine⟨b,C,dx,xs,rfl,off b _ z1 (hF b ?_),z2⟩;cases t<;>simp only[jl]at e1<;>try cases e1
    rw[Rp]at r;obtain⟨b',dx',xs',F'',eb,_,_,eF⟩:=r;cases eb;exact hs b (by rw[eF];exact ymS)
theorem GW.ndF(G:GW Γ H L)(hh:h∈L)(ho:h.e.r.k.isOw=true):h.F.Nodup:=by
 have nd:=G.nd;obtain⟨s,t,rfl⟩:=IG hh;rw[GJ,GH]at nd;have:=(Gy.mp (Gy.mp nd).2.1).1;unfold Hd.own at this;rw[if_pos ho]at this;exact this
theorem GW.muF(G:GW Γ H L)(hh:h∈L)(ho:h.e.r.k.isOw=true):∀a∈h.F,Mu H a:=λa ha=>(G.ad a (Hs.mpr ⟨h,hh,iP ho ha⟩)).1
theorem gb{hs:List Hd}(ho:∀h∈hs,h.e.r.k.isOw=true):hs.flatMap Hd.own=hs.flatMap (·.F):=by
 induction hs with
 | nil=>rfl
 | cons x xs ih=>
  rw[GH,GH,ih λh hh=>ho h (ymC _ hh)];unfold Hd.own;rw[if_pos (ho x ymS)]
theorem GW.step{hs:List Hd}(G:GW Γ H (hs++L))(ho:∀h∈hs,h.e.r.k.isOw=true)(hr:∀g∈L,∀h∈hs,∀j,h.e.key=some j->g.e.r.k.root≠some j)
  (off:KZ (hs.flatMap (·.F)) H H') (dom:∀a∈hs.flatMap (·.F),∃o,H' a=some o) {key:Option Nat} {v:V} {r:R} {F:List Addr} (nd:F.Nodup) (hF:∀a∈F,(a∈hs.flatMap (·.F)\/H a=none)/\Mu H' a) (hp:Rp Γ.K H' r.t v F)
  (hk:(r.k=.ow/\∀h∈hs,h.e.r.k=.ow) \/ ∃k,r.k=.io k/\Γ.iov[k]?=some v) (hkey:∀j,key=some j->j∉L.filterMap λh=>h.e.key):GW Γ H' (⟨⟨key,v,r⟩,F⟩::L):=by
 have iow:r.k.isOw=true:=by rcases hk with⟨e,_⟩|⟨k,e,_⟩<;>rw[e]<;>rfl
 have eo:=gb ho;have G':=G.nd;rw[GJ,eo]at G';have nd1:=(Gy.mp G').2.1;have dj:=(Gy.mp G').2.2;have adL:∀a∈L.flatMap Hd.own,Mu H a/\(Γ.H0 a=none\/a ∈ Γ.io):=λa ha=>G.ad a (by rw[GJ];exact yaR _ ha);have adM:∀a∈hs.flatMap (·.F),Mu H a/\(Γ.H0 a=none\/a ∈ Γ.io):=λa ha=>G.ad a (by rw[GJ,eo];exact yaL _ ha);have ap:=G.apart hr ho;have apM:∀g∈L,∀a∈g.F,a∉hs.flatMap (·.F):=λg hg a ha hm=>by
  obtain⟨h,hh,hah⟩:=Hs.mp hm;exact ap g hg a ha h hh hah
 have eF:Hd.own ⟨⟨key,v,r⟩,F⟩=F:=by unfold Hd.own;rw[if_pos iow]
 have f0:∀a∈F,Γ.H0 a=none\/a ∈ Γ.io:=λa ha=>by
  rcases(hF a ha).1 with z|z;exact(adM a z).2;exact .inl (G.new0 z)
 refine⟨?_,λa ha=>?_,λx hx=>?_,λx hx=>?_,?_,λb o e n=>?_,λa ha=>?_⟩
 ·rw[GH,eF];refine Gy.mpr ⟨nd,nd1,λa ha b hb=>?_⟩;rintro rfl;rcases(hF a ha).1 with z|z;exact dj a z a hb rfl
  ·obtain⟨o,e,_⟩:=(adL a hb).1;rw[z]at e;cases e
 ·rw[GH,eF]at ha;rcases yaM ha with ha|ha;exact⟨(hF a ha).2,f0 a ha⟩
  ·obtain⟨⟨o,e,m⟩,z⟩:=adL a ha;exact⟨⟨o,off a o e λhm=>dj a hm a ha rfl,m⟩,z⟩
 ·rcases ycM hx with rfl|hx;exact hp;exact(G.rp x (yaR _ hx)).off off (λa ha=>(adM a ha).1) (apM x hx)
 ·rcases ycM hx with rfl|hx
  ·unfold K2;rcases hk with⟨e,eh⟩|⟨k,e,ek⟩
   ·simp only[e];intro a ha;rcases(hF a ha).1 with z|z
    ·obtain⟨h,hh,hah⟩:=Hs.mp z;have q:=G.kd h (yaL _ hh);unfold K2 at q;rw[eh h hh]at q;exact q a hah
    ·exact G.new0 z
   ·simp only[e];exact ek
  ·have k:=G.kd x (yaR _ hx);have st:∀a∈x.F,a∉(hs++L).flatMap Hd.own->a∉((⟨⟨key,v,r⟩,F⟩:Hd)::L).flatMap Hd.own:=λa ha n z=>by
    rw[GH,eF]at z;rcases yaM z with z|z
    ·rcases(hF a z).1 with w|w;exact n (by rw[GJ,eo];exact yaL _ w)
     ·obtain⟨o,e⟩:=(G.rp x (yaR _ hx)).dom a ha;rw[w]at e;cases e
    ·exact n (by rw[GJ];exact yaR _ z)
   unfold K2 at k|-;split at k;exact k;exact k;exact λa ha=>st a ha (k a ha)
   ·rename_i j p e;obtain⟨g,h1,h2,h3,h4,h5⟩:=k;rcases yaM h1 with hg|hg;exact absurd (by rw[e];rfl) (hr x hx g hg j h2)
    ·refine⟨g,ymC _ hg,h2,h3,λa ha=>(h4 a ha).imp id (st a ha),λq hq=>⟨(h5 q hq).1,?_⟩⟩;exact me off (F:=g.F) (apM g hg) (G.muF (yaR _ hg) h3) (λa ha=>ha) (G.ndF (yaR _ hg) h3) (G.rp g (yaR _ hg)) (h5 q hq).1 (h5 q hq).2
 ·have g:=G.ks;rw[GV]at g;have g2:=(Gy.mp g).2.1;rw[GS];cases key with
  | none=>exact g2
  | some j=>exact G3.mpr ⟨hkey j rfl,g2⟩
 ·refine off b o (G.fr b o e n) λhm=>?_;rcases(adM b hm).2 with z|z;rw[z]at e;cases e;exact n z
 ·obtain⟨o,e⟩:=G.iol a ha;by_cases hm:a∈hs.flatMap (·.F);exact dom a hm;exact⟨o,off a o e hm⟩
end
theorem lR{α β:Type}{f : α->β}{N M:List β}(p:N.Perm M):∀L:List α,L.map f=N->∃L',L.Perm L'/\L'.map f=M:=by
 induction p with
 | nil=>intro L h;exact⟨L,List.Perm.refl _,h⟩
 | cons x p ih=>
  intro L h;cases L with
  | nil=>cases h
  | cons a L=>
   rw[Gs,HE.injEq]at h;obtain⟨L',h1,h2⟩:=ih L h.2;exact⟨a::L',h1.cons a,by rw[Gs,h.1,h2]⟩
 | swap x y l=>
  intro L h;cases L with
  | nil=>cases h
  | cons a L=>
   cases L with
   | nil=>cases h
   | cons b L=>
    simp only[Gs,HE.injEq]at h;exact⟨b::a::L,List.Perm.swap _ _ _,by simp[h.1,h.2.1,h.2.2]⟩
 | trans p q ih1 ih2=>
  intro L h;obtain⟨L1,h1,h2⟩:=ih1 L h;obtain⟨L2,h3,h4⟩:=ih2 L1 h2;exact⟨L2,h1.trans h3,h4⟩
def KW(Γ:Gm)(H:Hp)(X:List En):Prop:=∃L,GW Γ H L/\L.map (·.e)=X
section
variable {Γ:Gm}{H H':Hp}{X Y:List En}{e:En}
theorem KW.perm(S:KW Γ H X)(p:X.Perm Y):KW Γ H Y:=by
 obtain⟨L,g,e⟩:=S;obtain⟨L',h1,h2⟩:=lR p L e;exact⟨L',g.perm h1,h2⟩
theorem aK{α β:Type}{f : α->β}{L:List α}{b : β}{X:List β}(h:L.map f=b::X):∃a L',L=a::L'/\f a=b/\L'.map f=X:=by
 cases L with
 | nil=>cases h
 | cons a L=>rw[Gs,HE.injEq]at h;exact⟨a,L,rfl,h.1,h.2⟩
theorem dZ{α β:Type}{f : α->β}:∀{A:List β} {L:List α} {B:List β},L.map f=A++B->∃L1 L2,L=L1++L2/\L1.map f=A/\L2.map f=B
 | [],L,B,h=>⟨[],L,rfl,rfl,h⟩
 | a::A,L,B,h=>by
  obtain⟨x,L',rfl,h1,h2⟩:=aK h;obtain⟨L1,L2,rfl,h3,h4⟩:=dZ h2;exact⟨x::L1,L2,rfl,by rw[Gs,h1,h3],h4⟩
theorem KW.drop(S:KW Γ H (e::X))(hk:e.key=none):KW Γ H X:=by
 obtain⟨L,g,h⟩:=S;obtain⟨x,L',rfl,h1,h2⟩:=aK h;subst h1;exact⟨L',g.drop hk,h2⟩
theorem KW.dropK(S:KW Γ H (e::X))(hr:∀g∈X,∀j,e.key=some j->g.r.k.root≠some j):KW Γ H X:=by
 obtain⟨L,g,h⟩:=S;obtain⟨x,L',rfl,h1,h2⟩:=aK h;subst h1;refine⟨L',g.dropK λy hy j hj=>hr y.e (by rw[<-h2];exact G8 hy) j hj,h2⟩
noncomputable def aF(M:List Nat) (e:En):Bool:=match e.r.k.root with
 | some j=>!M.contains j
 | none=>true
noncomputable def ah(M:List Nat) (E:List En):List En:=E.filter (aF M)
theorem r8(e:En):aF [] e=true:=by unfold aF;split<;>rfl
theorem bL(E:List En):ah [] E=E:=by unfold ah;rw[HU];intro a _;exact r8 a
theorem aO(M:List Nat)(A B:List En):ah M (A++B)=ah M A++ah M B:=I9 ..
theorem lw(M N:List Nat)(e:En):aF (M++N) e=(aF N e&&aF M e):=by
 unfold aF;split
 ·rename_i j _;by_cases h1:j∈M<;>by_cases h2:j∈N<;>simp[h1,h2]
 ·rfl
theorem ag(M N:List Nat)(E:List En):ah N (ah M E)=ah (M++N) E:=by
 unfold ah;rw[Ja];congr 1;funext e;rw[lw]
theorem KW.kill(S:KW Γ H X)(M:List Nat):KW Γ H (ah M X):=by
 obtain⟨L,g,h⟩:=S;refine⟨L.filter λx=>aF M x.e,g.filter _ λx _ ho=>?_,?_⟩
 ·unfold aF;cases k:x.e.r.k with
  | vw r p=>rw[k]at ho;cases ho
  | ow=>rfl
  | io _=>rfl
 ·rw[<-h];unfold ah;rw[IV];rfl
theorem KW.push(S:KW Γ H X){v:V}{i:I}(h:RpI Γ.K H i v):KW Γ H (⟨none,v,⟨.ow,.im i⟩⟩::X):=by
 obtain⟨L,g,hX⟩:=S;exact⟨_,g.push (v:=v) (r:=⟨.ow,.im i⟩) (hC h) (λa ha=>by cases ha) (.inr rfl),by rw[Gs,hX]⟩
theorem KW.rekey(S:KW Γ H (e::X))(hk:e.key=none){key:Option Nat}(hn:∀j,key=some j->∀g∈X,g.key≠some j):KW Γ H (⟨key,e.v,e.r⟩::X):=by
 obtain⟨L,g,h⟩:=S;obtain⟨x,L',rfl,h1,h2⟩:=aK h;subst h1;refine⟨_,g.rekey hk (key:=key) λj hj hm=>?_,by rw[Gs,h2]⟩;obtain⟨y,hy,hyk⟩:=G5.mp hm;exact hn j hj y.e (by rw[<-h2];exact G8 hy) hyk
theorem KW.rd(S:KW Γ H X)(he:e∈X):∃F,Rp Γ.K H e.r.t e.v F:=by
 obtain⟨L,g,rfl⟩:=S;obtain⟨h,hh,rfl⟩:=GB.mp he;exact⟨h.F,g.rp h hh⟩
theorem KW.view(S:KW Γ H X)(he:e∈X){j:Nat}(hk:e.key=some j)(ho:e.r.k.isOw=true):KW Γ H (⟨none,e.v,⟨.vw (some j) (some []),e.r.t⟩⟩::X):=by
 obtain⟨L,g,rfl⟩:=S;obtain⟨h,hh,rfl⟩:=GB.mp he;exact⟨_,g.push (v:=h.e.v) (r:=⟨.vw (some j) (some []),h.e.r.t⟩) (g.rp h hh) ⟨h,hh,hk,ho,λa ha=>.inl ha,λq hq=>by cases hq;exact⟨rfl,rfl⟩⟩ (.inl rfl),rfl⟩
theorem KW.copy(S:KW Γ H X)(he:e∈X)(ho:e.r.k.isOw=false):KW Γ H (⟨none,e.v,e.r⟩::X):=by
 obtain⟨L,g,rfl⟩:=S;obtain⟨h,hh,rfl⟩:=GB.mp he;exact⟨_,g.push (v:=h.e.v) (r:=h.e.r) (F:=h.F) (g.rp h hh) (g.kd h hh) (.inl ho),rfl⟩
theorem KW.part(S:KW Γ H X)(he:e∈X){ro:Option Nat}{p:Option (List Ac)}(ho:e.r.k=.vw ro p){P:V->Prop}{s:T}(hp:∀F,Rp Γ.K H e.r.t e.v F->∃w G,P w/\Rp Γ.K H s w G/\∀a∈G,a∈F):∃w,P w/\KW Γ H (⟨none,w,⟨.vw ro none,s⟩⟩::X):=by
 obtain⟨L,g,rfl⟩:=S;obtain⟨h,hh,rfl⟩:=GB.mp he;obtain⟨w,G,h1,h2,h3⟩:=hp h.F (g.rp h hh);refine⟨w,h1,_,g.push (v:=w) (r:=⟨.vw ro none,s⟩) (F:=G) h2 ?_ (.inl rfl),rfl⟩;have k:=g.kd h hh;unfold K2 at k|-;rw[ho]at k;cases ro with
 | none=>exact λa ha=>k a (h3 a ha)
 | some j=>
  obtain⟨x,x1,x2,x3,x4,x5⟩:=k;exact⟨x,x1,x2,x3,λa ha=>x4 a (h3 a ha),λq hq=>by cases hq⟩
theorem KW.partP(S:KW Γ H X)(he:e∈X){j:Nat}{q:List Ac}(ho:e.r.k=.vw (some j) (some q)){a:Ac}{s:T}(hs:jl e.r.t a=some s):∃w,at1 Γ.K H e.v a w/\KW Γ H (⟨none,w,⟨.vw (some j) (some (q++[a])),s⟩⟩::X):=by
 obtain⟨L,g,rfl⟩:=S;obtain⟨h,hh,rfl⟩:=GB.mp he;have k:=g.kd h hh;unfold K2 at k;rw[ho]at k;obtain⟨x,x1,x2,x3,x4,x5⟩:=k;obtain⟨y1,y2⟩:=x5 q rfl;have ms:x.e.r.t.sub (q++[a])=some s:=qZ y1 hs;obtain⟨w,A,G,B,z1,z2,z3,_⟩:=(g.rp x x1).atP (g.muF x1 x3) (g.ndF x1 x3) ms;obtain⟨w0,A0,G0,B0,u1,u2,u3,_⟩:=(g.rp x x1).atP (g.muF x1 x3) (g.ndF x1 x3) y1;have ew:=iz u1 y2;subst ew;have nG:G0.Nodup:=by
  have:=g.ndF x1 x3;rw[u3]at this;exact(Gy.mp (Gy.mp this).1).2.1
 have mG:∀b∈G0,Mu H b:=λb hb=>g.muF x1 x3 b (by rw[u3];exact yaL _ (yaR _ hb));obtain⟨w',A',G',B',v1,v2,v3,_⟩:=u2.at1 mG nG hs;have e2:=iz (qm u1 v1) z1;subst e2;refine⟨w',v1,_,g.push (v:=w') (r:=⟨.vw (some j) (some (q++[a])),s⟩) (F:=G) z2 ⟨x,x1,x2,x3,λb hb=>.inl (by rw[z3];exact yaL _ (yaR _ hb)),λq' hq=>?_⟩ (.inl rfl),rfl⟩;cases hq;exact⟨ms,z1⟩
noncomputable def bc:List V->List T->List En
 | v::vs,t::ts=>⟨none,v,⟨.ow,t⟩⟩::bc vs ts
 | _,_=>[]
theorem kL:∀{vs:List V} {ts:List T} {L:List Hd},vs.length=ts.length->L.map (·.e)=bc vs ts->(∀h∈L,Rp Γ.K H h.e.r.t h.e.v h.F)->Rps Γ.K H ts vs (L.flatMap (·.F))/\∀h∈L,h.e.r.k=.ow/\h.e.key=none
 | [],[],L,_,h,_=>by
  have:L=[]:=List.map_eq_nil_iff.mp h;subst this;exact⟨Rps.nil,by simp⟩
 | v::vs,t::ts,L,hl,h,hr=>by
  obtain⟨x,L',rfl,h1,h2⟩:=aK h;obtain⟨r1,r2⟩:=kL (vs:=vs) (ts:=ts) (by simpa using hl) h2 λy hy=>hr y (ymC _ hy);have rx:=hr x ymS;rw[h1]at rx;rw[GH];refine⟨Rps.cons rx r1,λy hy=>?_⟩;rcases ycM hy with rfl|hy;rw[h1];exact⟨rfl,rfl⟩;exact r2 y hy
 | [],_::_,_,h,_,_=>by cases h
 | _::_,[],_,h,_,_=>by cases h
theorem KW.use{vs:List V}{ts:List T}(S:KW Γ H (bc vs ts++X))(hl:vs.length=ts.length):∃F,Rps Γ.K H ts vs F/\F.Nodup/\(∀a∈F,Mu H a) /\
  ∀H' v t F',KZ F H H'->(∀a∈F,∃o,H' a=some o)->F'.Nodup->(∀a∈F',(a∈F\/H a=none)/\Mu H' a)->Rp Γ.K H' t v F'->KW Γ H' (⟨none,v,⟨.ow,t⟩⟩::X):=by
 obtain⟨L,g,h⟩:=S;obtain⟨hs,L2,rfl,h1,h2⟩:=dZ h;obtain⟨r1,r2⟩:=kL hl h1 λy hy=>g.rp y (yaL _ hy);have ho:∀h∈hs,h.e.r.k.isOw=true:=λh hh=>by rw[(r2 h hh).1];rfl
 have nd:=g.nd;rw[GJ,gb ho]at nd;refine⟨_,r1,(Gy.mp nd).1,λa ha=>(g.ad a (by rw[GJ,gb ho];exact yaL _ ha)).1,λH' v t F' off dom nd' hF rp=>?_⟩;refine⟨_,g.step ho (λx _ y hy j hj=>by rw[(r2 y hy).2]at hj;cases hj) off dom (key:=none) (v:=v) (r:=⟨.ow,t⟩) nd' hF rp (.inl ⟨rfl,λy hy=>(r2 y hy).1⟩) (λj hj=>by cases hj),by rw[Gs,h2]⟩
theorem KW.mutP{vs:List V}{ts:List T}{p:List Ac}{s:T}(S:KW Γ H (e::bc vs ts++X))(hl:vs.length=ts.length)(ho:e.r.k.isOw=true)(hr:∀g∈X,∀j,e.key=some j->g.r.k.root≠some j)(hs:e.r.t.sub p=some s)(hX:∀j,e.key=some j->∀g∈X,g.key≠some j) :
  ∃w G F,atP Γ.K H e.v p w/\Rp Γ.K H s w G/\Rps Γ.K H ts vs F/\(G++F).Nodup/\(∀a∈G++F,Mu H a) /\
  ∀H' s' G',KZ G H H'->(∀a∈G,∃o,H' a=some o)->G'.Nodup->(∀a∈G',(a∈G++F\/H a=none)/\Mu H' a)->Rp Γ.K H' s' w G'->KW Γ H' (⟨e.key,e.v,⟨e.r.k,e.r.t.put p s'⟩⟩::X):=by
 obtain⟨L,g,h⟩:=S;rw[G7]at h;obtain⟨x,L',rfl,h1,h2⟩:=aK h;obtain⟨hs',L2,rfl,h3,h4⟩:=dZ h2;subst h1;obtain⟨r1,r2⟩:=kL hl h3 λy hy=>g.rp y (ymC _ (yaL _ hy));have ho':∀h∈x::hs',h.e.r.k.isOw=true:=λh hh=>by
  rcases ycM hh with rfl|hh;exact ho;rw[(r2 h hh).1];rfl
 have nx:=g.ndF ymS ho;obtain⟨w,A,G,B,z1,z2,z3,z4⟩:=(g.rp x ymS).atP (g.muF ymS ho) nx hs;have nd:=g.nd;rw[show x::(hs'++L2)=(x::hs')++L2 from rfl,GJ,gb ho']at nd;have nd1:=(Gy.mp nd).1;rw[GH,z3]at nd1;have mu:∀a∈(x::hs').flatMap (·.F),Mu H a:=λa ha=>(g.ad a (by rw[show x::(hs'++L2)=(x::hs')++L2 from rfl,GJ,gb ho'];exact yaL _ ha)).1;have inM:∀a,a∈G++hs'.flatMap (·.F)->a∈(x::hs').flatMap (·.F):=λa ha=>by
  rw[GH,z3];rcases yaM ha with z|z;exact yaL _ (yaL _ (yaR _ z));exact yaR _ z
 have ndA:=(Gy.mp nd1);have ndG:(G++hs'.flatMap (·.F)).Nodup:=Gy.mpr ⟨(Gy.mp (Gy.mp ndA.1).1).2.1,ndA.2.1,λa ha b hb=>ndA.2.2 a (yaL _ (yaR _ ha)) b hb⟩;refine⟨w,G,hs'.flatMap (·.F),z1,z2,r1,ndG,λa ha=>mu a (inM a ha),λH' s' G' off dom nd' hG rp=>?_⟩;have apAB:∀a,(a∈A\/a∈B)->a∉G++hs'.flatMap (·.F):=λa ha hm=>by
  rcases yaM hm with z|z
  ·rcases ha with q|q;exact(Gy.mp (Gy.mp ndA.1).1).2.2 a q a z rfl;exact(Gy.mp ndA.1).2.2 a (yaR _ z) a q rfl
  ·rcases ha with q|q;exact ndA.2.2 a (yaL _ (yaL _ q)) a z rfl;exact ndA.2.2 a (yaR _ q) a z rfl
 have rp':=z4 H' s' G' off rp;refine⟨_,g.step (hs:=x::hs') (L:=L2) ho' (λy hy z hz j hj=>?_) (off.mono λa ha=>inM a (yaL _ ha)) (λa ha=>?_) (key:=x.e.key) (v:=x.e.v) (r:=⟨x.e.r.k,x.e.r.t.put p s'⟩) (F:=A++G'++B) ?_ (λa ha=>?_) rp' ?_ (λj hj hm=>?_),by rw[Gs,h4]⟩
 ·rcases ycM hz with rfl|hz;exact hr y.e (by rw[<-h4];exact G8 hy) j hj;rw[(r2 z hz).2]at hj;cases hj
 ·by_cases hm:a∈G;exact dom a hm
  ·obtain⟨o,e1,_⟩:=mu a ha;exact⟨o,off a o e1 hm⟩
 ·have ab:=Gy.mp ndA.1;have aG:=Gy.mp ab.1;have nG:∀a,(a∈A\/a∈B)->a∉G':=λa ha hg=>by
   rcases(hG a hg).1 with z|z;exact apAB a ha z
   ·have:Mu H a:=mu a (by
     rw[GH,z3];rcases ha with q|q;exact yaL _ (yaL _ (yaL _ q));exact yaL _ (yaR _ q))
    obtain⟨o,e1,_⟩:=this;rw[z]at e1;cases e1
  refine Gy.mpr ⟨Gy.mpr ⟨aG.1,nd',λa ha b hb e=>nG a (.inl ha) (e▸hb)⟩,ab.2.1,λa ha b hb e=>?_⟩;subst e;rcases yaM ha with z|z;exact ab.2.2 a (yaL _ z) a hb rfl;exact nG a (.inr hb) z
 ·have old:a∈A\/a∈B->(a∈(x::hs').flatMap (·.F)\/H a=none)/\Mu H' a:=λq=>by
   have hm:a∈(x::hs').flatMap (·.F):=by
    rw[GH,z3];rcases q with q|q;exact yaL _ (yaL _ (yaL _ q));exact yaL _ (yaR _ q)
   obtain⟨o,e1,m1⟩:=mu a hm;exact⟨.inl hm,o,off a o e1 (λz=>apAB a q (yaL _ z)),m1⟩
  rcases yaM ha with z|z
  ·rcases yaM z with z|z;exact old (.inl z);exact⟨(hG a z).1.imp (inM a) id,(hG a z).2⟩
  ·exact old (.inr z)
 ·have k:=g.kd x ymS;unfold K2 at k;cases ek:x.e.r.k with
  | ow=>
   refine .inl ⟨rfl,λy hy=>?_⟩;rcases ycM hy with rfl|hy;exact ek;exact(r2 y hy).1
  | io n=>rw[ek]at k;exact .inr ⟨n,rfl,k⟩
  | vw a b=>rw[ek]at ho;cases ho
 ·obtain⟨y,hy,hyk⟩:=G5.mp hm;exact hX j hj y.e (by rw[<-h4];exact G8 hy) hyk
end
abbrev Rho:=List (Option R)
noncomputable def aC:Nat->List (Option V)->Rho->List En
 | i,some v::Z,some r::O=>⟨some i,v,r⟩::aC (i+1) Z O
 | i,none::Z,_::O=>aC (i+1) Z O
 | i,some _::Z,none::O=>aC (i+1) Z O
 | _,_,_=>[]
theorem bt{r:R}:∀{k:Nat} {Z:List (Option V)} {O:Rho} {i:Nat} {v:V},Z[i]?=some (some v)->O[i]?=some (some r)->(aC k Z O).Perm (⟨some (k+i),v,r⟩::aC k Z (O.set i none))
 | _,[],_,_,_,h,_=>by simp at h
 | _,_::_,[],_,_,_,h=>by simp at h
 | k,x::Z,y::O,0,v,h1,h2=>by
  simp at h1 h2;subst h1 h2;simp[aC]
 | k,x::Z,y::O,i+1,v,h1,h2=>by
  have ih:=bt (k:=k+1) (Z:=Z) (O:=O) (i:=i) (v:=v) (r:=r) (by simpa using h1) (by simpa using h2);rw[show k+1+i=k+(i+1) by omega]at ih;cases x with
  | none=>simpa[aC]using ih
  | some x=>
   cases y with
   | none=>simpa[aC]using ih
   | some y=>
    simp only[aC,JX];exact(List.Perm.cons _ ih).trans (List.Perm.swap _ _ _)
theorem lr:∀{k:Nat} {Z:List (Option V)} {O:Rho} {i:Nat} {x:Option V},aC k (Z.set i x) (O.set i none)=aC k Z (O.set i none)
 | _,[],O,_,_=>rfl
 | _,x::Z,[],i,y=>by cases i<;>cases x<;>simp[aC]<;>cases y<;>simp[aC]
 | _,x::Z,y::O,0,z=>by cases x<;>cases z<;>simp[aC]
 | k,x::Z,y::O,i+1,z=>by
  have ih:=lr (k:=k+1) (Z:=Z) (O:=O) (i:=i) (x:=z);cases x<;>cases y<;>simp[aC,ih]
theorem fY{k:Nat}{Z:List (Option V)}{O:Rho}{i:Nat}{v:V}{r:R}(h1:i<Z.length)(h2:i < O.length):(aC k (Z.set i (some v)) (O.set i (some r))).Perm (⟨some (k+i),v,r⟩::aC k Z (O.set i none)):=by
 have:=bt (k:=k) (Z:=Z.set i (some v)) (O:=O.set i (some r)) (i:=i) (v:=v) (r:=r) (by simp[h1]) (by simp[h2]);rw[List.set_set,lr]at this;exact this
theorem cR{e:En}:∀{k:Nat} {Z:List (Option V)} {O:Rho},e∈aC k Z O->∃i,e.key=some (k+i)/\O[i]?=some (some e.r)/\Z[i]?=some (some e.v)
 | _,[],_,h=>by simp[aC]at h
 | _,x::_,[],h=>by cases x<;>simp[aC]at h
 | k,x::Z,y::O,h=>by
  have go:e∈aC (k+1) Z O->∃i,e.key=some (k+i)/\(y::O)[i]?=some (some e.r)/\(x::Z)[i]?=some (some e.v):=λh=>by
   obtain⟨i,h1,h2,h3⟩:=cR h;exact⟨i+1,by rw[h1];congr 1;omega,by simpa using h2,by simpa using h3⟩
  cases x with
  | none=>simp only[aC]at h;exact go h
  | some x=>
   cases y with
   | none=>simp only[aC]at h;exact go h
   | some y=>
    simp only[aC]at h;rcases ycM h with rfl|h;exact⟨0,rfl,rfl,rfl⟩;exact go h
noncomputable def dh(M:List Nat) (r:R):Bool:=match r.k.root with
 | some j=>!M.contains j
 | none=>true
noncomputable def cb(M:List Nat):Option R->Option R
 | some r=>if dh M r=true then some r else none
 | none=>none
noncomputable def aq(M:List Nat) (O:Rho):Rho:=O.map (cb M)
theorem aM(M:List Nat)(O:Rho):(aq M O).length=O.length:=by unfold aq;rw[Gv]
theorem eN(M:List Nat):∀{k:Nat} {Z:List (Option V)} {O:Rho},aC k Z (aq M O)=ah M (aC k Z O)
 | _,[],_=>rfl
 | _,x::_,[]=>by cases x<;>rfl
 | k,x::Z,y::O=>by
  have ih:=eN M (k:=k+1) (Z:=Z) (O:=O);have e:aq M (y::O)=cb M y::aq M O:=rfl;rw[e];cases x with
  | none=>simpa[aC]using ih
  | some v=>
   cases y with
   | none=>simpa[aC,cb]using ih
   | some r=>
    have hk:aF M ⟨some k,v,r⟩=dh M r:=rfl;cases q:dh M r with
    | true=>simp only[aC,cb,q,if_true,ah,Hy,hk,ih]
    | false=>
     simp only[aC,cb,q,ah,Hy,hk,ih];simp[aC,ih,ah]
theorem lB{M:List Nat}{O:Rho}{i:Nat}{r:R}(h:(aq M O)[i]?=some (some r)) : O[i]?=some (some r):=by
 unfold aq at h;rw[GE]at h;cases q : O[i]? with
 | none=>rw[q]at h;cases h
 | some o=>
  rw[q]at h;cases o with
  | none=>cases h
  | some x=>
   have h':cb M (some x)=some r:=by simpa using h
   simp only[cb]at h';split at h';rw[GX.inj h'];exact absurd h' (by simp)
theorem se{M:List Nat}{O:Rho}{i:Nat}{r:R}(h : O[i]?=some (some r))(ho:r.k.isOw=true):(aq M O)[i]?=some (some r):=by
 unfold aq;rw[GE,h];have:dh M r=true:=by
  unfold dh;cases e:r.k with
  | vw a b=>rw[e]at ho;cases ho
  | ow=>rfl
  | io _=>rfl
 simp[cb,this]
structure Sim(Γ:Gm)(H:Hp)(O:Rho)(Z:St)(E:List En):Prop where
 sl:KW Γ H (E++aC 0 Z O)
 al:∀(i:Nat) r,O[i]?=some (some r)->∃v,Z[i]?=some (some v)
 len:Z.length=O.length
 hi:∀e∈E,∀j,e.key=some j->O.length<=j
section
variable {Γ:Gm}{H H':Hp}{O:Rho}{Z:St}{E E':List En}{e:En}{r:R}{v w x:V}{i j:Nat}{t s:T}
theorem Sim.perm(S:Sim Γ H O Z E)(p:E.Perm E'):Sim Γ H O Z E':=⟨S.sl.perm (p.append_right _),S.al,S.len,λe he=>S.hi e (p.mem_iff.mpr he)⟩
theorem Sim.drop(S:Sim Γ H O Z (e::E))(hk:e.key=none):Sim Γ H O Z E:=⟨S.sl.drop hk,S.al,S.len,λx hx=>S.hi x (ymC _ hx)⟩
theorem Sim.swap{f:En}(S:Sim Γ H O Z (e::f::E)):Sim Γ H O Z (f::e::E):=S.perm (List.Perm.swap _ _ _)
theorem Sim.imm(S:Sim Γ H O Z E){i:I}(h:RpI Γ.K H i v):Sim Γ H O Z (⟨none,v,⟨.ow,.im i⟩⟩::E):=
 ⟨S.sl.push h,S.al,S.len,λx hx j hj=>by
  rcases ycM hx with rfl|hx;cases hj;exact S.hi x hx j hj⟩
theorem Sim.rd(S:Sim Γ H O Z E)(he:e∈E):∃F,Rp Γ.K H e.r.t e.v F:=S.sl.rd (yaL _ he)
theorem Sim.slot(S:Sim Γ H O Z E)(h : O[i]?=some (some r)):∃v,Z[i]?=some (some v)/\(⟨some i,v,r⟩:En)∈E++aC 0 Z O:=by
 obtain⟨v,hv⟩:=S.al i r h;refine⟨v,hv,yaR _ ((bt hv h).mem_iff.mpr ?_)⟩;rw[Hk];exact ymS
noncomputable def rdR(i:Nat):R->R
 | ⟨.ow,.im x⟩=>⟨.ow,.im x⟩
 | ⟨.vw a b,t⟩=>⟨.vw a b,t⟩
 | ⟨_,t⟩=>⟨.vw (some i) (some []),t⟩
theorem Sim.cons(S:Sim Γ H O Z E)(h:KW Γ H' (⟨none,v,r⟩::(E++aC 0 Z O))):Sim Γ H' O Z (⟨none,v,r⟩::E):=
 ⟨h,S.al,S.len,λx hx j hj=>by
  rcases ycM hx with rfl|hx;cases hj;exact S.hi x hx j hj⟩
theorem Sim.var(S:Sim Γ H O Z E)(h : O[i]?=some (some r)):∃v,Z[i]?=some (some v)/\Sim Γ H O Z (⟨none,v,rdR i r⟩::E):=by
 obtain⟨v,hv,hm⟩:=S.slot h;refine⟨v,hv,S.cons ?_⟩;obtain⟨k,t⟩:=r;cases k with
 | vw a b=>exact S.sl.copy (e:=⟨some i,v,⟨.vw a b,t⟩⟩) hm rfl
 | io n=>
  have:=S.sl.view (e:=⟨some i,v,⟨.io n,t⟩⟩) hm rfl rfl;cases t<;>exact this
 | ow=>
  cases t with
  | im x=>
   obtain⟨F,rp⟩:=S.sl.rd hm;exact S.sl.push (aZ rp).1
  | tup _=>exact S.sl.view (e:=⟨some i,v,⟨.ow,_⟩⟩) hm rfl rfl
  | li _=>exact S.sl.view (e:=⟨some i,v,⟨.ow,_⟩⟩) hm rfl rfl
  | lst _=>exact S.sl.view (e:=⟨some i,v,⟨.ow,_⟩⟩) hm rfl rfl
  | di _=>exact S.sl.view (e:=⟨some i,v,⟨.ow,_⟩⟩) hm rfl rfl
  | dc _=>exact S.sl.view (e:=⟨some i,v,⟨.ow,_⟩⟩) hm rfl rfl
  | ins _ _=>exact S.sl.view (e:=⟨some i,v,⟨.ow,_⟩⟩) hm rfl rfl
theorem Sim.kill(S:Sim Γ H O Z E)(M:List Nat):Sim Γ H (aq M O) Z (ah M E):=by
 refine⟨?_,λi r h=>S.al i r (lB h),by rw[aM];exact S.len,λx hx j hj=>by rw[aM];exact S.hi x (GF.mp hx).1 j hj⟩;rw[eN,<-aO];exact S.sl.kill M
theorem ko{M:List Nat}{X:List En}(hi:i∈M):∀g∈ah M X,g.r.k.root≠some i:=λg hg z=>by
 have:=(GF.mp hg).2;unfold aF at this;rw[z]at this;simp[hi]at this
theorem Sim.out(S:Sim Γ H O Z E)(h : O[i]?=some (some r))(ho:r.k.isOw=true):∃v,Z[i]?=some (some v)/\KW Γ H (⟨some i,v,r⟩::(ah [i] E++aC 0 Z ((aq [i] O).set i none))) /\
  (∀g∈ah [i] E++aC 0 Z ((aq [i] O).set i none),g.r.k.root≠some i)/\∀g∈ah [i] E++aC 0 Z ((aq [i] O).set i none),g.key≠some i:=by
 obtain⟨v,hv⟩:=S.al i r h;have S2:=S.kill [i];have h2:=se (M:=[i]) h ho;have hil:i < O.length:=(Gr.mp h).1;refine⟨v,hv,S2.sl.perm ?_,λg hg=>?_,λg hg hk=>?_⟩
 ·have:=(bt (k:=0) hv h2).append_left (ah [i] E);rw[Hk]at this;exact this.trans Ha
 ·rcases yaM hg with z|z;exact ko (by simp) g z
  ·have:g∈aC 0 Z (aq [i] O):=by
    obtain⟨m,h1,h3,h4⟩:=cR z;have hm:m≠i:=λe=>by subst e;simp[aM,hil]at h3
    rw[GO (LO hm)]at h3;have:=(bt (k:=0) h4 h3).mem_iff.mpr (ymS);have e:g=⟨some (0+m),g.v,g.r⟩:=by cases g;simp only[En.mk.injEq,and_self,and_true];exact h1
    rw[e];exact this
   rw[eN]at this;exact ko (by simp) g this
 ·rcases yaM hg with z|z
  ·have:=S2.hi g z i hk;rw[aM]at this;omega
  ·obtain⟨m,h1,h3,h4⟩:=cR z;rw[hk,Hk]at h1;cases h1;simp[aM,hil]at h3
theorem Sim.back(S:Sim Γ H O Z E){O':Rho}{Z':St}(h:KW Γ H' (E'++aC 0 Z' O'))(hl : O'.length=O.length)(hZ:Z'.length=Z.length)(al:∀(i:Nat) r,O'[i]?=some (some r)->∃v,Z'[i]?=some (some v))(hi:∀e∈E',∀j,e.key=some j->e∈E):Sim Γ H' O' Z' E':=
 ⟨h,al,by rw[hl,hZ];exact S.len,λe he j hj=>by rw[hl];exact S.hi e (hi e he j hj) j hj⟩
noncomputable def cr(O:Rho) (i:Nat):Bool:=match O[i]? with
 | some (some ⟨.io _,_⟩)=>false
 | some _=>true
 | none=>false
theorem Ap{O:Rho}{Z:St}(al:∀(i:Nat) r,O[i]?=some (some r)->∃v,Z[i]?=some (some v))(h1:i<Z.length):∀(m:Nat) r',(O.set i (some r))[m]?=some (some r')->∃v',(Z.set i (some v))[m]?=some (some v'):=λm r' hm=>by
 by_cases e:m=i;subst e;exact⟨v,by simp[h1]⟩;rw[GO (LO e)]at hm|-;exact al m r' hm
theorem Sim.put(S:Sim Γ H O Z (⟨none,v,r⟩::E))(hi:cr O i=true)(hr:r.k.root≠some i):Sim Γ H ((aq [i] O).set i (some r)) (Z.set i (some v)) (ah [i] E):=by
 have hil:i < O.length:=by
  unfold cr at hi;cases q : O[i]? with
  | none=>rw[q]at hi;cases hi
  | some o=>exact(Gr.mp q).1
 have hiZ:i<Z.length:=by rw[S.len];exact hil
 have hkeep:aF [i] ⟨none,v,r⟩=true:=by
  unfold aF;split
  ·rename_i j hj;have:j≠i:=λz=>hr (z▸hj);simp[this]
  ·rfl
 have ek:ah [i] (⟨none,v,r⟩::E)=⟨none,v,r⟩::ah [i] E:=by unfold ah;rw[Hy,if_pos hkeep]
 have S2:=S.kill [i];rw[ek]at S2;have S3:KW Γ H (⟨none,v,r⟩::(ah [i] E++aC 0 Z ((aq [i] O).set i none)))/\∀g∈ah [i] E++aC 0 Z ((aq [i] O).set i none),g.key≠some i:=by
  cases q:(aq [i] O)[i]? with
  | none=>rw[List.getElem?_eq_none_iff,aM]at q;omega
  | some o=>
   cases o with
   | none=>
    have e:(aq [i] O).set i none=aq [i] O:=by
     apply Ig;intro m;by_cases hm:m=i;subst hm;rw[q];simp[aM,hil];rw[GO (LO hm)]
    rw[e];refine⟨S2.sl,λg hg hk=>?_⟩;rcases yaM hg with z|z
    ·have:=S2.hi g (ymC _ z) i hk;rw[aM]at this;omega
    ·obtain⟨m,h1,h3,h4⟩:=cR z;rw[hk,Hk]at h1;cases h1;rw[q]at h3;cases h3
   | some r0=>
    have q0:=lB q;by_cases ho:r0.k.isOw=true
    ·obtain⟨v0,hv0,h1,h2,h3⟩:=S.out q0 ho;rw[ek]at h1 h2 h3;refine⟨h1.dropK λg hg j hj=>by cases hj;exact h2 g hg,λg hg=>h3 g (ymC _ hg)⟩
    ·obtain⟨v0,hv0⟩:=S.al i r0 q0;have p:=(bt (k:=0) hv0 q).append_left (⟨none,v,r⟩::ah [i] E);rw[Hk]at p;have h1:=S2.sl.perm (p.trans Ha);refine⟨h1.dropK λg hg j hj=>?_,λg hg hk=>?_⟩
     ·cases hj;have h1':g∈ah [i] (⟨none,v,r⟩::E)++ah [i] (aC 0 Z O):=by
       rw[ek,<-eN];rcases yaM hg with z|z;exact yaL _ z
       ·refine yaR _ ?_;obtain⟨m,h1,h3,h4⟩:=cR z;have hm:m≠i:=λe=>by subst e;simp[aM,hil]at h3
        rw[GO (LO hm)]at h3;have:=(bt (k:=0) h4 h3).mem_iff.mpr (ymS);have e:g=⟨some (0+m),g.v,g.r⟩:=by cases g;simp only[En.mk.injEq,and_self,and_true];exact h1
        rw[e];exact this
      rw[<-aO]at h1';exact ko (by simp) g h1'
     ·rcases yaM hg with z|z
      ·have:=S2.hi g (ymC _ z) i hk;rw[aM]at this;omega
      ·obtain⟨m,h1,h3,h4⟩:=cR z;rw[hk,Hk]at h1;cases h1;simp[aM,hil]at h3
 obtain⟨S3,hks⟩:=S3;have S4:=S3.rekey (e:=⟨none,v,r⟩) rfl (key:=some i) λj hj g hg=>by cases hj;exact hks g hg
 refine S2.back (S4.perm ?_) (by simp[aM]) (by simp) (Ap S2.al hiZ) (λe he j hj=>ymC _ he);have p:=(fY (k:=0) (Z:=Z) (O:=aq [i] O) (v:=v) (r:=r) hiZ (by rw[aM];exact hil)).append_left (ah [i] E);rw[Hk]at p;exact(Ha.symm).trans p.symm
theorem Sim.mut{vs:List V}{ts:List T}{p:List Ac}{k:Kd}(S:Sim Γ H O Z (bc vs ts++⟨none,w,⟨.vw (some i) (some p),s⟩⟩::E))(hl:vs.length=ts.length)(h : O[i]?=some (some ⟨k,t⟩))(ho:k.isOw=true) :
  ∃G F,Rp Γ.K H s w G/\Rps Γ.K H ts vs F/\(G++F).Nodup/\(∀a∈G++F,Mu H a) /\
  ∀H' s' G',KZ G H H'->(∀a∈G,∃o,H' a=some o)->G'.Nodup->(∀a∈G',(a∈G++F\/H a=none)/\Mu H' a)->Rp Γ.K H' s' w G'->Sim Γ H' ((aq [i] O).set i (some ⟨k,t.put p s'⟩)) Z (ah [i] E):=by
 have hil:i < O.length:=(Gr.mp h).1;obtain⟨v0,hv0,hm⟩:=S.slot h;have pl:t.sub p=some s/\atP Γ.K H v0 p w:=by
  obtain⟨L,g,e⟩:=S.sl;have:(⟨none,w,⟨.vw (some i) (some p),s⟩⟩:En)∈L.map (·.e):=by rw[e];simp
  obtain⟨y,hy,ey⟩:=GB.mp this;have kd:=g.kd y hy;unfold K2 at kd;rw[ey]at kd;obtain⟨x,x1,x2,x3,x4,x5⟩:=kd;have hm':(⟨some i,v0,⟨k,t⟩⟩:En)∈L.map (·.e):=by rw[e];exact hm
  obtain⟨z,hz,ez⟩:=GB.mp hm';have:x=z:=by
   have nk:=g.ks;by_cases q:x=z;exact q
   ·exfalso;obtain⟨A,B,rfl⟩:=IG x1;rw[GV,GS,x2]at nk;rcases yaM hz with hz|hz;exact(Gy.mp nk).2.2 i (G5.mpr ⟨z,hz,by rw[ez]⟩) i ymS rfl
    ·rcases ycM hz with hz|hz;exact q hz.symm;exact(G3.mp (Gy.mp nk).2.1).1 (G5.mpr ⟨z,hz,by rw[ez]⟩)
  subst this;have:=x5 p rfl;rw[ez]at this;exact this
 obtain⟨v1,hv1,h1,h2,h3⟩:=S.out h ho;rw[hv0]at hv1;cases hv1;have ktemps:∀{vs:List V} {ts:List T},ah [i] (bc vs ts)=bc vs ts:=by
  intro vs
  induction vs with
  | nil=>intro ts;rfl
  | cons v vs ih=>
   intro ts;cases ts with
   | nil=>rfl
   | cons t ts=>show List.filter _ _=_;rw[bc,Hy,if_pos (show aF [i] ⟨none,v,⟨.ow,t⟩⟩=true from rfl)];exact congrArg _ ih
 have kv:aF [i] ⟨none,w,⟨.vw (some i) (some p),s⟩⟩=false:=by unfold aF;simp[Kd.root]
 have ek:ah [i] (bc vs ts++⟨none,w,⟨.vw (some i) (some p),s⟩⟩::E)=bc vs ts++ah [i] E:=by
  rw[aO,ktemps];unfold ah;rw[Hy,if_neg (by rw[kv];simp)]
 rw[ek]at h1 h2 h3;rw[GK]at h1 h2 h3;obtain⟨w',G,F,m1,m2,m3,m4,m5,m6⟩:=KW.mutP (e:=⟨some i,v0,⟨k,t⟩⟩) (X:=ah [i] E++aC 0 Z ((aq [i] O).set i none)) (by rw[G7];exact h1) hl ho (λg hg j hj=>by cases hj;exact h2 g (yaR _ hg)) pl.1 (λj hj g hg=>by cases hj;exact h3 g (yaR _ hg));have ew:=iz m1 pl.2;subst ew;refine⟨G,F,m2,m3,m4,m5,λH' s' G' off dom nd hG rp=>?_⟩;have S5:=m6 H' s' G' off dom nd hG rp;have S2:=S.kill [i];refine S2.back (S5.perm ?_) (by simp[aM]) rfl (λm r' hm=>?_) (λe he j hj=>by rw[ek];exact yaR _ he)
 ·have p:=(fY (k:=0) (Z:=Z) (O:=aq [i] O) (v:=v0) (r:=⟨k,t.put p s'⟩) (by rw[S.len];exact hil) (by rw[aM];exact hil)).append_left (ah [i] E);rw[Hk]at p;have eZ:Z.set i (some v0)=Z:=by
   apply Ig;intro m;by_cases hm:m=i;subst hm;rw[hv0];simp[S.len,hil];rw[GO (LO hm)]
  rw[eZ]at p;exact(Ha.symm).trans p.symm
 ·by_cases e:m=i;subst e;exact⟨v0,hv0⟩;rw[GO (LO e)]at hm;exact S2.al m r' hm
theorem Sim.move(S:Sim Γ H O Z (⟨none,w,⟨.vw (some i) (some []),s⟩⟩::E))(h : O[i]?=some (some ⟨.ow,t⟩)):Sim Γ H ((aq [i] O).set i none) Z (⟨none,w,⟨.ow,s⟩⟩::ah [i] E):=by
 have hil:i < O.length:=(Gr.mp h).1;obtain⟨v0,hv0,hm⟩:=S.slot h;have pl:s=t/\w=v0:=by
  obtain⟨L,g,e⟩:=S.sl;have:(⟨none,w,⟨.vw (some i) (some []),s⟩⟩:En)∈L.map (·.e):=by rw[e];simp
  obtain⟨y,hy,ey⟩:=GB.mp this;have kd:=g.kd y hy;unfold K2 at kd;rw[ey]at kd;obtain⟨x,x1,x2,x3,x4,x5⟩:=kd;have hm':(⟨some i,v0,⟨.ow,t⟩⟩:En)∈L.map (·.e):=by rw[e];exact hm
  obtain⟨z,hz,ez⟩:=GB.mp hm';have:x=z:=by
   have nk:=g.ks;by_cases q:x=z;exact q
   ·exfalso;obtain⟨A,B,rfl⟩:=IG x1;rw[GV,GS,x2]at nk;rcases yaM hz with hz|hz;exact(Gy.mp nk).2.2 i (G5.mpr ⟨z,hz,by rw[ez]⟩) i ymS rfl
    ·rcases ycM hz with hz|hz;exact q hz.symm;exact(G3.mp (Gy.mp nk).2.1).1 (G5.mpr ⟨z,hz,by rw[ez]⟩)
  subst this;have:=x5 [] rfl;rw[ez]at this;obtain⟨q1,q2⟩:=this;rw[T.sub]at q1;cases q1;exact⟨rfl,q2⟩
 obtain⟨rfl,rfl⟩:=pl;obtain⟨v1,hv1,h1,h2,h3⟩:=S.out h rfl;rw[hv0]at hv1;cases hv1;have kv:aF [i] ⟨none,w,⟨.vw (some i) (some []),s⟩⟩=false:=by unfold aF;simp[Kd.root]
 have ek:ah [i] (⟨none,w,⟨.vw (some i) (some []),s⟩⟩::E)=ah [i] E:=by
  unfold ah;rw[Hy,if_neg (by rw[kv];simp)]
 rw[ek]at h1 h2 h3;have S2:=S.kill [i];refine S2.back (E':=⟨none,w,⟨.ow,s⟩⟩::ah [i] E) ?_ (by simp[aM]) rfl (λm r' hm=>?_) (λe he j hj=>?_)
 ·obtain⟨L,g,e⟩:=h1;obtain⟨x,L',rfl,e1,e2⟩:=aK e;have:=g.step (hs:=[x]) (L:=L') (H':=H) (λy hy=>by rw[ysM hy,e1];rfl) (λy hy z hz j hj=>by
   rw[ysM hz,e1]at hj;cases hj;exact h2 y.e (by rw[<-e2];exact G8 hy)) (KZ.refl _ _) (λa ha=>by
    obtain⟨y,hy,ha⟩:=Hs.mp ha;rw[ysM hy]at ha;exact(g.rp x ymS).dom a ha) (key:=none) (v:=w) (r:=⟨.ow,s⟩) (F:=x.F) (g.ndF ymS (by rw[e1];rfl)) (λa ha=>⟨.inl (by simpa using ha),g.muF ymS (by rw[e1];rfl) a ha⟩)
    (by have:=g.rp x ymS;rw[e1]at this;exact this) (.inl ⟨rfl,λy hy=>by rw[ysM hy,e1]⟩) (λj hj=>by cases hj)
  exact⟨_,this,by rw[Gs,e2];rfl⟩
 ·by_cases e:m=i;subst e;simp[aM,hil]at hm;rw[GO (LO e)]at hm;exact S2.al m r' hm
 ·rcases ycM he with rfl|he;cases hj;rw[ek];exact he
theorem Sim.use{vs:List V}{ts:List T}(S:Sim Γ H O Z (bc vs ts++E))(hl:vs.length=ts.length):∃F,Rps Γ.K H ts vs F/\F.Nodup/\(∀a∈F,Mu H a) /\
  ∀H' v t F',KZ F H H'->(∀a∈F,∃o,H' a=some o)->F'.Nodup->(∀a∈F',(a∈F\/H a=none)/\Mu H' a)->Rp Γ.K H' t v F'->Sim Γ H' O Z (⟨none,v,⟨.ow,t⟩⟩::E):=by
 have S1:=S.sl;rw[GK]at S1;obtain⟨F,h1,h2,h3,h4⟩:=S1.use hl;refine⟨F,h1,h2,h3,λH' v t F' a b c d e=>?_⟩;exact⟨h4 H' v t F' a b c d e,S.al,S.len,λx hx j hj=>by
  rcases ycM hx with rfl|hx;cases hj;exact S.hi x (yaR _ hx) j hj⟩
theorem Sim.part(S:Sim Γ H O Z E)(he:e∈E){ro:Option Nat}{p:Option (List Ac)}(ho:e.r.k=.vw ro p){P:V->Prop}(hp:∀F,Rp Γ.K H e.r.t e.v F->∃w G,P w/\Rp Γ.K H s w G/\∀a∈G,a∈F):∃w,P w/\Sim Γ H O Z (⟨none,w,⟨.vw ro none,s⟩⟩::E):=by
 obtain⟨w,h1,h2⟩:=S.sl.part (yaL _ he) ho hp;exact⟨w,h1,S.cons h2⟩
theorem Sim.partP(S:Sim Γ H O Z E)(he:e∈E){q:List Ac}(ho:e.r.k=.vw (some j) (some q)){a:Ac}(hs:jl e.r.t a=some s):∃w,at1 Γ.K H e.v a w/\Sim Γ H O Z (⟨none,w,⟨.vw (some j) (some (q++[a])),s⟩⟩::E):=by
 obtain⟨w,h1,h2⟩:=S.sl.partP (yaL _ he) ho hs;exact⟨w,h1,S.cons h2⟩
end
structure ME where
 run:Rho->Option (R×Rho)
 mu:List Nat
structure MT where
 run:Rho->Option (Bool×Rho)
 mu:List Nat
structure MA where
 run:Rho->Option (List R×Rho)
 mu:List Nat
inductive Fl where
 | nx|rt (t:T)|bk|ct
structure MS where
 run:Rho->Option (Fl×Rho)
 mu:List Nat
structure MG where
 run:R->Rho->Option Rho
 mu:List Nat
structure MGs where
 run:List R->Rho->Option Rho
 mu:List Nat
noncomputable def ens:List V->List R->List En
 | v::vs,r::rs=>⟨none,v,r⟩::ens vs rs
 | _,_=>[]
noncomputable def ax(M:List Nat) (r:R):Bool:=dh M r
theorem bj{M:List Nat}{r:R}{v:V}(h:ax M r=true):aF M ⟨none,v,r⟩=true:=h
theorem az{M:List Nat}{e:En}{E:List En}(h:aF M e=true):ah M (e::E)=e::ah M E:=by unfold ah;rw[Hy,if_pos h]
theorem i6{M:List Nat}:∀{vs:List V} {rs:List R},rs.all (ax M)=true->ah M (ens vs rs)=ens vs rs
 | [],_,_=>by cases ‹List R›<;>rfl
 | _::_,[],_=>rfl
 | v::vs,r::rs,h=>by
  rw[HL,Gz]at h;rw[ens,az (bj h.1),i6 h.2]
theorem Sim.weak{Γ:Gm}{H:Hp}{O:Rho}{Z:St}{E:List En}(S:Sim Γ H O Z E)(M:List Nat):Sim Γ H O Z (ah M E):=by
 refine⟨?_,S.al,S.len,λe he=>S.hi e (GF.mp he).1⟩;obtain⟨L,g,h⟩:=S.sl;obtain⟨A,B,rfl,h1,h2⟩:=dZ h;refine⟨A.filter (λx=>aF M x.e)++B,g.sub (Ht.append (List.Sublist.refl _)) λx hx j hj y hy hk ho=>?_,?_⟩
 ·rcases yaM hy with z|z
  ·refine yaL _ (GF.mpr ⟨z,?_⟩);unfold aF;cases e:y.e.r.k with
   | vw a b=>rw[e]at ho;cases ho
   | ow=>rfl
   | io _=>rfl
  ·exact yaR _ z
 ·rw[GA,h2,<-h1];unfold ah;rw[IV];rfl
def aT(K:yF)(te:TE)(m:ME):Prop:=∀(Γ:Gm) (H:Hp) (O:Rho) (Z:St) (E:List En) (Q:VK) (r:R) (O':Rho),Γ.K=K->m.run O=some (r,O')->Sim Γ H O Z E->(∀v H',Sim Γ H' O' Z (⟨none,v,r⟩::ah m.mu E)->Q v H')->te Z H Q
def eY(K:yF)(te:TT)(m:MT):Prop:=∀(Γ:Gm) (H:Hp) (O:Rho) (Z:St) (E:List En) (Q:Bool->Hp->Prop) (b:Bool) (O':Rho),Γ.K=K->m.run O=some (b,O')->Sim Γ H O Z E->(∀H',Sim Γ H' O' Z (ah m.mu E)->Q b H')->te Z H Q
def eK(K:yF)(ta:TA)(m:MA):Prop:=∀(Γ:Gm) (H:Hp) (O:Rho) (Z:St) (E:List En) (Q:List V->Hp->Prop) (rs:List R) (O':Rho),Γ.K=K->m.run O=some (rs,O')->Sim Γ H O Z E->(∀vs H',vs.length=rs.length->Sim Γ H' O' Z (ens vs rs++ah m.mu E)->Q vs H')->ta Z H Q
def Lh(Γ:Gm)(O':Rho)(E:List En)(D:Ll):Fl->Prop
 | .nx=>∀Z' H',Sim Γ H' O' Z' E->D.nx Z' H'
 | .bk=>∀Z' H',Sim Γ H' O' Z' E->D.bk Z' H'
 | .ct=>∀Z' H',Sim Γ H' O' Z' E->D.ct Z' H'
 | .rt t=>∀v Z' H',Sim Γ H' O' Z' [⟨none,v,⟨.ow,t⟩⟩]->D.rt v H'
def dF(K:yF)(ts:TS)(m:MS):Prop:=∀(Γ:Gm) (H:Hp) (O:Rho) (Z:St) (E:List En) (D:Ll) (f:Fl) (O':Rho),Γ.K=K->(∀e∈E,e.key=none)->m.run O=some (f,O')->Sim Γ H O Z E->Lh Γ O' (ah m.mu E) D f->ts D Z H
def jP(K:yF)(g:TG)(m:MG):Prop:=∀(Γ:Gm) (H:Hp) (O:Rho) (Z:St) (E:List En) (Q:St->Hp->Prop) (v:V) (r:R) (O':Rho),Γ.K=K->m.run r O=some O'->Sim Γ H O Z (⟨none,v,r⟩::E)->(∀Z' H',Sim Γ H' O' Z' (ah m.mu E)->Q Z' H')->g v Z H Q
def nI(K:yF)(g:TGs)(m:MGs):Prop:=∀(Γ:Gm) (H:Hp) (O:Rho) (Z:St) (E:List En) (Q:St->Hp->Prop) (vs:List V) (rs:List R) (O':Rho),Γ.K=K->m.run rs O=some O'->vs.length=rs.length->Sim Γ H O Z (ens vs rs++E)->(∀Z' H',Sim Γ H' O' Z' (ah m.mu E)->Q Z' H')->g vs Z H Q
def Dw(X:Cx)(st:List Stmt)(m:MS):Prop:=∃ts,PSs X st ts/\dF X.K ts m
section
variable {K:yF}{X:Cx}
@[irreducible] noncomputable def mC(i:I):ME:=⟨λO=>some (⟨.ow,.im i⟩,O),[]⟩
@[irreducible] noncomputable def af(i:Nat):ME:=⟨λO=>match O[i]? with
 | some (some r)=>some (rdR i r,O)
 | _=>none,[]⟩
theorem vN{i:I}{v:V}(h:i.sc=some v):aT K (tC v) (mC i):=by unhygienic
 intro Γ H O Z E Q r O' hK hr S q;cases hr;exact q v H (by rw[show(mC i).mu=[]from rfl,bL];exact S.imm (iU h))
theorem y8{i:Nat}:aT K (zm i) (af i):=by unhygienic
 intro Γ H O Z E Q r O' hK hr S q;simp only[af]at hr;split at hr
 ·rename_i r0 h0;cases hr;obtain⟨v,hv,S2⟩:=S.var h0;exact⟨v,hv,q v H (by rw[show(af i).mu=[]from rfl,bL];exact S2)⟩
 ·cases hr
@[irreducible] noncomputable def mNil:MA:=⟨λO=>some ([],O),[]⟩
@[irreducible] noncomputable def ac(m:ME)(ms:MA):MA:=⟨λO=>match m.run O with
 | some (r,O1)=>match ms.run O1 with
  | some (rs,O2)=>if ax ms.mu r=true then some (r::rs,O2)else none
  | none=>none
 | none=>none,m.mu++ms.mu⟩
theorem yW:eK K Fn mNil:=by unhygienic
 intro Γ H O Z E Q rs O' hK hr S q;cases hr;exact q [] H rfl (by rw[show mNil.mu=[]from rfl,bL];exact S)
theorem xk{v:V}{r:R}{E:List En}:∀{vs:List V} {rs:List R},(ens vs rs++⟨none,v,r⟩::E).Perm (⟨none,v,r⟩::(ens vs rs++E)):=Ha
theorem vP{te:TE}{ta:TA}{m:ME}{ms:MA}(h1:aT K te m)(h2:eK K ta ms):eK K (q5 te ta) (ac m ms):=by unhygienic
 intro Γ H O Z E Q rs O' hK hr S q;simp only[ac]at hr;split at hr
 ·rename_i r O1 e1;split at hr
  ·rename_i rs1 O2 e2;split at hr
   ·rename_i al;cases hr;refine h1 Γ H O Z E _ r O1 hK e1 S λv H1 S1=>?_;refine h2 Γ H1 O1 Z _ _ rs1 _ hK e2 S1 λvs H2 hl S2=>q (v::vs) H2 (by rw[GI,GI,hl]) ?_;rw[az (bj al),ag]at S2;exact S2.perm xk
   ·cases hr
  ·cases hr
 ·cases hr
@[irreducible] noncomputable def mNext:MS:=⟨λO=>some (.nx,O),[]⟩
@[irreducible] noncomputable def ao(a b:MS):MS:=⟨λO=>match a.run O with
 | some (.nx,O1)=>b.run O1
 | some (.rt t,O1)=>some (.rt t,O1)
 | some (.bk,O1)=>some (.bk,O1)
 | some (.ct,O1)=>some (.ct,O1)
 | none=>none,a.mu++b.mu⟩
@[irreducible] noncomputable def mIf(c:MT)(a b:MS):MS:=⟨λO=>match c.run O with
 | some (true,O1)=>a.run O1
 | some (false,O1)=>b.run O1
 | none=>none,c.mu++(a.mu++b.mu)⟩
@[irreducible] noncomputable def bm(e:ME):MS:=⟨λO=>match e.run O with
 | some (_,O1)=>some (.nx,O1)
 | none=>none,e.mu⟩
@[irreducible] noncomputable def aA(e:ME)(g:MG):MS:=⟨λO=>match e.run O with
 | some (r,O1)=>match g.run r O1 with
  | some O2=>some (.nx,O2)
  | none=>none
 | none=>none,e.mu++g.mu⟩
@[irreducible] noncomputable def sV:R->Rho->Option (T×Rho)
 | ⟨.ow,t⟩,O=>some (t,O)
 | ⟨.vw (some i) (some []),t⟩,O=>match O[i]? with
  | some (some ⟨.ow,_⟩)=>some (t,(aq [i] O).set i none)
  | _=>none
 | _,_=>none
@[irreducible] noncomputable def aX(e:ME):MS:=⟨λO=>match e.run O with
 | some (r,O1)=>match sV r O1 with
  | some (t,O2)=>some (.rt t,O2)
  | none=>none
 | none=>none,e.mu⟩
theorem Lh.weak{Γ:Gm}{O':Rho}{E:List En}{D:Ll}{f:Fl}{M N:List Nat}(h:Lh Γ O' (ah (M++N) E) D f):Lh Γ O' (ah M E) D f:=by
 cases f with
 | rt t=>exact h
 | nx=>exact λZ' H' S=>h Z' H' (by rw[<-ag];exact S.weak N)
 | bk=>exact λZ' H' S=>h Z' H' (by rw[<-ag];exact S.weak N)
 | ct=>exact λZ' H' S=>h Z' H' (by rw[<-ag];exact S.weak N)
theorem pv(M N:List Nat)(E:List En):ah M (ah N E)=ah N (ah M E):=by
 unfold ah;rw[Ja,Ja];congr 1;funext e;exact Bool.and_comm _ _
theorem Lh.weak2{Γ:Gm}{O':Rho}{E:List En}{D:Ll}{f:Fl}{M N:List Nat}(h:Lh Γ O' (ah (M++N) E) D f):Lh Γ O' (ah N E) D f:=by
 refine Lh.weak (N:=M) ?_;rwa [<-ag,pv,ag]
theorem bK{M:List Nat}{E:List En}(h:∀e∈E,e.key=none):∀e∈ah M E,e.key=none:=λe he=>h e (GF.mp he).1
theorem vY:dF K Ah mNext:=by unhygienic
 intro Γ H O Z E D f O' hK hE hr S q;cases hr;exact q Z H (by rw[show mNext.mu=[]from rfl,bL];exact S)
theorem y3{t u:TS}{a b:MS}(h1:dF K t a)(h2:dF K u b):dF K (Fs t u) (ao a b):=by
 intro Γ H O Z E D f O' hK hE hr S q;show t {D with nx:=u D} Z H;simp only[ao]at hr q;split at hr
 ·rename_i O1 e1;refine h1 Γ H O Z E _ .nx O1 hK hE e1 S λZ1 H1 S1=>?_;refine h2 Γ H1 O1 Z1 _ D f O' hK (bK hE) hr S1 ?_;rw[ag];exact q
 ·rename_i t1 O1 e1;cases hr;exact h1 Γ H O Z E _ (.rt t1) _ hK hE e1 S q
 ·rename_i O1 e1;cases hr;exact h1 Γ H O Z E _ .bk _ hK hE e1 S (show Lh Γ _ (ah a.mu E) D .bk from q.weak)
 ·rename_i O1 e1;cases hr;exact h1 Γ H O Z E _ .ct _ hK hE e1 S (show Lh Γ _ (ah a.mu E) D .ct from q.weak)
 ·cases hr
theorem yR{c:TT}{t u:TS}{mc:MT}{a b:MS}(hc:eY K c mc)(h1:dF K t a)(h2:dF K u b):dF K (Fk c t u) (mIf mc a b):=by
 intro Γ H O Z E D f O' hK hE hr S q;simp only[mIf]at hr q;rw[<-ag]at q;split at hr
 ·rename_i O1 e1;refine hc Γ H O Z E _ true O1 hK e1 S λH1 S1=>r6 ?_;exact h1 Γ H1 O1 Z _ D f O' hK (bK hE) hr S1 q.weak
 ·rename_i O1 e1;refine hc Γ H O Z E _ false O1 hK e1 S λH1 S1=>rZ ?_;exact h2 Γ H1 O1 Z _ D f O' hK (bK hE) hr S1 q.weak2
 ·cases hr
theorem vQ{te:TE}{m:ME}(h:aT K te m):dF K (Af te) (bm m):=by unhygienic
 intro Γ H O Z E D f O' hK hE hr S q;simp only[bm]at hr;split at hr
 ·rename_i r O1 e1;cases hr;exact h Γ H O Z E _ r _ hK e1 S λv H1 S1=>q Z H1 (S1.drop rfl)
 ·cases hr
theorem ni{te:TE}{g:TG}{m:ME}{mg:MG}(h:aT K te m)(hg:jP K g mg):dF K (zj te g) (aA m mg):=by
 intro Γ H O Z E D f O' hK hE hr S q;simp only[aA]at hr q;split at hr
 ·rename_i r O1 e1;split at hr
  ·rename_i O2 e2;cases hr;refine h Γ H O Z E _ r O1 hK e1 S λv H1 S1=>?_;exact hg Γ H1 O1 Z _ _ v r _ hK e2 S1 λZ2 H2 S2=>q Z2 H2 (by rw[<-ag];exact S2)
  ·cases hr
 ·cases hr
theorem Sim.only{Γ:Gm}{H:Hp}{O:Rho}{Z:St}{e:En}{E:List En}(S:Sim Γ H O Z (e::E))(hE:∀x∈E,x.key=none):Sim Γ H O Z [e]:=by
 induction E with
 | nil=>exact S
 | cons x E ih=>exact ih (S.swap.drop (hE x ymS)) λy hy=>hE y (ymC _ hy)
theorem yZ{te:TE}{m:ME}(h:aT K te m):dF K (Fq te) (aX m):=by unhygienic
 intro Γ H O Z E D f O' hK hE hr S q;simp only[aX]at hr;split at hr
 ·rename_i r O1 e1;split at hr
  ·rename_i t O2 e2;cases hr;refine h Γ H O Z E _ r O1 hK e1 S λv H1 S1=>?_;obtain⟨k,t0⟩:=r;cases k with
   | ow=>
    cases e2;exact q v Z H1 (S1.only (bK hE))
   | io n=>cases e2
   | vw a b=>
    cases a with
    | none=>cases e2
    | some i=>
     cases b with
     | none=>cases e2
     | some p=>
      cases p with
      | cons _ _=>cases e2
      | nil=>
       simp only[sV]at e2;split at e2
       ·rename_i t1 h1;cases e2;exact q v Z H1 ((S1.move h1).only (bK (bK hE)))
       ·cases e2
  ·cases hr
 ·cases hr
@[irreducible] noncomputable def ae(i:Nat):MG:=⟨λr O=>if(cr O i&&ax [i] r)=true then some ((aq [i] O).set i (some r))else none,[i]⟩
theorem cJ{i:Nat}{r:R}(h:ax [i] r=true):r.k.root≠some i:=λz=>by
 unfold ax dh at h;rw[z]at h;simp at h
theorem kH{i:Nat}:jP K (lu i) (ae i):=by unhygienic
 intro Γ H O Z E Q v r O' hK hr S q;simp only[ae]at hr;split at hr
 ·rename_i h;cases hr;rw[Gz]at h;exact q _ H (S.put h.1 (cJ h.2))
 ·cases hr
end
section
variable {X:Cx}
theorem Inv.lstR{Uq:List (Addr×Obj)}{Z:St}{H:Hp}{s:LD}{l:Addr}{xs:List V}(I:Inv X Uq Z H s)(hH:Rd H l (.lst xs)):xs.length<=sizeLine/\∃(its:List LB) (n:Nat),Vals xs its/\xs.length=its.length/\s.heap.get? l=some {cls:=.type "list",data:=.seq its.toArray n}:=by
 obtain⟨z,its,n,r,e⟩:=hH.ok I.hok;exact⟨z,its,n,r,r.length,e⟩
def zV:R2:=λx y H Q=>∃l b xs zs,x=.ref l/\y=.ref b/\Rd H l (.lst xs)/\Rd H b (.lst zs)/\xs.length+zs.length<=sizeLine/\∀p,H p=none->Q (.ref p) (upd H p (.lst (xs++zs)))
theorem op_catR:OpR X (Me .Add) zV:=by
 intro Uq s Z H x y v u Q I rx ry h;obtain⟨l,b,xs,zs,rfl,rfl,hH,hB,hz,q⟩:=h;cases rx;cases ry;obtain⟨z,its,n,r,hl,e⟩:=I.lstR hH;obtain⟨z2,its2,n2,r2,hl2,e2⟩:=I.lstR hB;refine PySem.P.add_list e e2 ?_ (by rw[Gw,Gw];omega);have ea:its.toArray++its2.toArray=(its++its2).toArray:=by simp
 rw[ea];exact⟨.ref _,_,I.lnew (t':=s.toks) (r.append r2) (by rw[GD];omega),rfl,q _ I.fresh⟩
def vF(K:yF):R2:=λx y H Q=>∃a b ys,x=.ref a/\y=.ref b/\SqT K H a []/\SqT K H b ys/\Q (.ref b) H
theorem uB:OpR X (Me .Add) (vF X.K):=by
 intro Uq s Z H x y v u Q I rx ry h;obtain⟨a,b,ys,rfl,rfl,ha,hb,q⟩:=h;cases rx;cases ry;obtain⟨its,r1,p1,_⟩:=I.tuple ha;obtain⟨its2,r2,p2,_⟩:=I.tuple hb;have hv:its=[]:=r1.nil_iff.mpr rfl;subst hv;obtain⟨⟨cls,dd,data,sl⟩,ho,hc,n,hd⟩:=id p1;obtain⟨⟨cls2,dd2,data2,sl2⟩,ho2,hc2,n2,hd2⟩:=id p2;simp only at hc hd hc2 hd2;subst hc hd hc2 hd2;exact Pk ⟨_,ho,rfl⟩ ⟨_,ho2,rfl⟩ Od OW PySem.F.slot_tuple_add PySem.F.entry_tuple_add (PySem.F.args_tuple_add_2 _ _)
   (tuple_addW0 a b #[] its2.toArray n n2 dd dd2 sl sl2 rfl) ⟨ho,ho2,⟨.ref b,H,I,rfl,q⟩⟩
def vE(K:yF):R2:=λx y H Q=>zU K x y H Q\/(zV x y H Q\/vF K x y H Q)
theorem xL:OpR X (Me .Add) (vE X.K):=op_addX.or (op_catR.or uB)
def z6:R2:=λx y H Q=>∃l k xs,x=.ref l/\y=.int k/\Rd H l (.lst xs)/\-(2^63)<=k/\k<2^63/\xs.length*k.toNat<=sizeLine/\∀p,H p=none->Q (.ref p) (upd H p (.lst (Gx k.toNat xs).flatten))
theorem xO:OpR X (Me .Mult) z6:=by
 intro Uq s Z H x y v u Q I rx ry h;obtain⟨l,k,xs,rfl,rfl,hH,h1,h2,hz,q⟩:=h;cases rx;obtain⟨t,rfl⟩:=ry;obtain⟨z,its,n,r,hl,e⟩:=I.lstR hH;have hlen:its.toArray.size*k.toNat<=sizeLine:=by rw[Gw,<-hl];exact hz
 have hcap:¬ its.toArray.size*k.toNat>(2^63-1) / 8:=by
  have:(sizeLine:Nat)<=(2^63-1) / 8:=by decide
  omega
 have hfit:¬ (!Builtin.List.listFitsIndex k)=true:=by
  rw[OG h1 h2];exact GG
 have hlong:¬ L8 (its.toArray.size*k.toNat)=true:=by
  rw[dL hlen];exact GG
 have hnew:Jr (λx1 x2=>x1++x2) #[] (Gx (if its.toArray.isEmpty=true then 0 else k.toNat) its.toArray)=(Gx k.toNat its).flatten.toArray:=by
  have f0:∀m:Nat,Jr (λx1 x2=>x1++x2) #[] (Gx m its.toArray)=(Gx m its).flatten.toArray:=λm=>by
   have:=eP its m [];rw[Hn]at this;exact this
  rw[f0];cases its with
  | nil=>simp
  | cons a r'=>rw[if_neg (by simp)]
 refine MX (T:="list") (U:="int") (by decide) ⟨_,e,rfl⟩ (λs'=>Nj s' k t) PQ Ov MQ repeat_list Of.lookup
  (Ms MQ (Nj s k t) Og (N0 _ _) (Oz k t l its.toArray n)
   ⟨e,rfl,⟨_,e,rfl⟩,Ms PR ⟨_,e,rfl⟩ PD (Pl _ _) (M8 l its.toArray n k t hfit hcap hlong) ⟨e,?_⟩⟩)
 rw[hnew];exact⟨.ref _,_,I.lnew (t':=s.toks) (r.rep k.toNat) (by rw[iI,J3];exact hz),rfl,q _ I.fresh⟩
def vJ(K:yF):R2:=λx y H Q=>zZ K x y H Q\/z6 x y H Q
theorem xN:OpR X (Me .Mult) (vJ X.K):=op_mulX.or xO
def oG:V->List V->Hp->VK->Prop:=λx vs H Q=>∃l b xs zs,x=.ref l/\vs=[.ref b]/\H l=some (.lst xs)/\Rd H b (.lst zs)/\xs.length+zs.length<=sizeLine/\Q .non (upd H l (.lst (xs++zs)))
theorem pE:MtM X "list.extend" oG:=by
 intro Uq s Z H x vs v us Q I rx rv h;obtain⟨l,b,xs,zs,rfl,rfl,hH,hB,hz,q⟩:=h;cases rx;obtain⟨u,rfl,ru⟩:=rv.one;cases ru;obtain⟨z,its,n,r,hl,e⟩:=I.lstM hH;obtain⟨z2,its2,n2,r2,hl2,e2⟩:=I.lstR hB;have hsz:its.toArray.size+its2.toArray.size<=sizeLine:=by rw[Gw,Gw];omega
 have hlong:¬ (!its.toArray.isEmpty&&L8 (its.toArray.size+its2.toArray.size))=true:=by
  rw[dL hsz,JH];exact GG
 refine Ms NO ⟨_,e,rfl⟩ ND (Nt _ _)
  (Nf l its.toArray n b its2.toArray n2 hlong (by rw[Gw];omega) (by omega)) ⟨e,e2,?_⟩
 refine⟨.non,_,I.lset (its':=its++its2) hH e (by simp) (r.append r2) ?_,rfl,q⟩;rw[GD];omega
def vG(K:yF):V->List V->Hp->VK->Prop:=λx xs H Q=>oG x xs H Q\/oH K x xs H Q
theorem xF:MtR X "list.extend" (vG X.K):=MtR.or pE pF
end
def Rpx(K:yF)(H:Hp)(t:T)(v:V):Prop:=∃F,Rp K H t v F
def New(K:yF)(H H':Hp)(t:T)(v:V):Prop:=K7 H H'/\∃F,Rp K H' t v F/\F.Nodup/\∀a∈F,H a=none/\Mu H' a
section
variable {K:yF}{H H':Hp}{Γ:Gm}{O:Rho}{Z:St}{E:List En}{t:T}{v x y:V}{Q:VK}
theorem Sim.fresh(S:Sim Γ H O Z E)(n:New Γ.K H H' t v):Sim Γ H' O Z (⟨none,v,⟨.ow,t⟩⟩::E):=by
 obtain⟨sm,F,h1,h2,h3⟩:=n;obtain⟨F0,r0,_,_,k⟩:=Sim.use (vs:=[]) (ts:=[]) S rfl;have:=r0.nil_inv.2;subst this;exact k H' v t F (sm.offM _) (by simp) h2 (λa ha=>⟨.inr (h3 a ha).1,(h3 a ha).2⟩) h1
theorem New.im{i:I}(h:RpI K H i v):New K H H (.im i) v:=⟨K7.refl H,[],hC h,HN,by simp⟩
theorem New.sc{i:I}(h:i.sc=some v):New K H H (.im i) v:=.im (iU h)
theorem New.tup{is:List I}{xs:List V}{p:Addr}(hp:H p=none)(h:KS K H is xs):New K H (upd H p (.tup xs)) (.im (.tup is)) (.ref p):=by
 refine⟨K7.laid hp,[],hC ?_,HN,by simp⟩;rw[RpI];exact⟨p,xs,rfl,SqT.of av,h.same (K7.laid hp)⟩
theorem New.li{is:List I}{xs:List V}{p:Addr}(hp:H p=none)(h:KS K H is xs):New K H (upd H p (.lst xs)) (.li is) (.ref p):=by
 refine⟨K7.laid hp,[p],?_,by simp,λa ha=>?_⟩;rw[Rp];exact⟨p,xs,rfl,.inl av,h.same (K7.laid hp),rfl⟩;rw[ysM ha];exact⟨hp,_,av,rfl⟩
theorem bP{i:I}(h:Rpx K H (.im i) v):RpI K H i v:=by obtain⟨F,h⟩:=h;exact(aZ h).1
theorem aN{n:Int}(h:Rpx K H (.im (.int n)) v):v=.int n:=by have:=bP h;rw[RpI]at this;exact this
theorem cZ{n:Str}(h:Rpx K H (.im (.str n)) v):v=.str n:=by have:=bP h;rw[RpI]at this;exact this
theorem lV{n:Bool}(h:Rpx K H (.im (.bl n)) v):v=.bl n:=by have:=bP h;rw[RpI]at this;exact this
theorem CW(h:Rpx K H (.im .non) v):v=.non:=by have:=bP h;rw[RpI]at this;exact this
theorem bA{is:List I}(h:Rpx K H (.im (.tup is)) v):∃a xs,v=.ref a/\SqT K H a xs/\KS K H is xs:=by have:=bP h;rw[RpI]at this;exact this
theorem bE{is:List I}(h:Rpx K H (.li is) v):∃a xs,v=.ref a/\Rd H a (.lst xs)/\KS K H is xs:=by
 obtain⟨F,h⟩:=h;rw[Rp]at h;obtain⟨a,xs,h1,h2,h3,_⟩:=h;exact⟨a,xs,h1,h2,h3⟩
theorem Aa{is:List I}(h:Rpx K H (.im (.ls is)) v):∃a xs,v=.ref a/\Rd H a (.lst xs)/\KS K H is xs:=by
 have:=bP h;rw[RpI]at this;obtain⟨a,o,xs,h1,h2,h3⟩:=this;exact⟨a,xs,h1,.inr ⟨o,h2⟩,h3⟩
theorem gk{ts:List T}(h:Rpx K H (.lst ts) v):∃a xs F,v=.ref a/\Rd H a (.lst xs)/\Rps K H ts xs F:=by
 obtain⟨F,h⟩:=h;rw[Rp]at h;obtain⟨a,xs,F',h1,h2,h3,_⟩:=h;exact⟨a,xs,F',h1,h2,h3⟩
theorem aP{a:Addr}{xs:List V}(h:Rd H a (.lst xs)):SqL K H a xs:=.inl h
def qh(K:yF)(red:V->Hp->VK->Prop)(f:T->Option T):Prop:=∀(H:Hp) (x:V) (tx t:T) (Q:VK),Rpx K H tx x->f tx=some t->(∀v H',New K H H' t v->Q v H')->red x H Q
def cH(K:yF)(red:R2)(f:T->T->Option T):Prop:=∀(H:Hp) (x y:V) (tx ty t:T) (Q:VK),Rpx K H tx x->Rpx K H ty y->f tx ty=some t->(∀v H',New K H H' t v->Q v H')->red x y H Q
def Lf(K:yF)(H:Hp):List T->List V->Prop
 | [],vs=>vs=[]
 | t::ts,vs=>∃v r,vs=v::r/\Rpx K H t v/\Lf K H ts r
def fO(K:yF)(red:List V->Hp->VK->Prop)(f:List T->Option T):Prop:=∀(H:Hp) (vs:List V) (ts:List T) (t:T) (Q:VK),Lf K H ts vs->f ts=some t->(∀v H',New K H H' t v->Q v H')->red vs H Q
@[irreducible] noncomputable def mOp(f:T->T->Option T)(a b:ME):ME:=⟨λO=>match a.run O with
 | some (ra,O1)=>match b.run O1 with
  | some (rb,O2)=>if ax b.mu ra=true then(match f ra.t rb.t with
   | some t=>some (⟨.ow,t⟩,O2)
   | none=>none)else none
  | none=>none
 | none=>none,a.mu++b.mu⟩
theorem kI{red:R2}{f:T->T->Option T}{ta tb:TE}{a b:ME}(hp:cH K red f)(ha:aT K ta a)(hb:aT K tb b):aT K (tOp red ta tb) (mOp f a b):=by unhygienic
 intro Γ H O Z E Q r O' hK hr S q;simp only[mOp]at hr;split at hr
 ·rename_i ra O1 e1;split at hr
  ·rename_i rb O2 e2;split at hr
   ·rename_i al;split at hr
    ·rename_i t e3;cases hr;refine ha Γ H O Z E _ ra O1 hK e1 S λx H1 S1=>?_;refine hb Γ H1 O1 Z _ _ rb _ hK e2 S1 λy H2 S2=>?_;rw[az (bj al),ag]at S2;have r1:=S2.rd (ymC _ ymS);have r2:=S2.rd ymS;rw[hK]at r1 r2;refine hp H2 x y ra.t rb.t t Q r1 r2 e3 λv H3 n=>q v H3 ?_;rw[<-hK]at n;exact((S2.drop rfl).drop rfl).fresh n
    ·cases hr
   ·cases hr
  ·cases hr
 ·cases hr
@[irreducible] noncomputable def mUn(f:T->Option T)(a:ME):ME:=⟨λO=>match a.run O with
 | some (ra,O1)=>(match f ra.t with
  | some t=>some (⟨.ow,t⟩,O1)
  | none=>none)
 | none=>none,a.mu⟩
theorem pR{red:V->Hp->VK->Prop}{f:T->Option T}{ta:TE}{a:ME}(hp:qh K red f)(ha:aT K ta a):aT K (tUn red ta) (mUn f a):=by unhygienic
 intro Γ H O Z E Q r O' hK hr S q;simp only[mUn]at hr;split at hr
 ·rename_i ra O1 e1;split at hr
  ·rename_i t e3;cases hr;refine ha Γ H O Z E _ ra _ hK e1 S λx H1 S1=>?_;have r1:=S1.rd ymS;rw[hK]at r1;refine hp H1 x ra.t t Q r1 e3 λv H3 n=>q v H3 ?_;rw[<-hK]at n;exact(S1.drop rfl).fresh n
  ·cases hr
 ·cases hr
theorem Sim.rds:∀{vs:List V} {rs:List R} {E:List En},Sim Γ H O Z (ens vs rs++E)->vs.length=rs.length->Lf Γ.K H (rs.map (·.t)) vs
 | [],[],E,S,_=>rfl
 | v::vs,r::rs,E,S,h=>by
  rw[ens,G7]at S;exact⟨v,vs,rfl,S.rd ymS,Sim.rds (S.drop rfl) (by simpa using h)⟩
 | [],_::_,_,_,h=>by cases h
 | _::_,[],_,_,h=>by cases h
theorem Sim.drops:∀{vs:List V} {rs:List R} {E:List En},Sim Γ H O Z (ens vs rs++E)->Sim Γ H O Z E
 | [],rs,E,S=>by cases rs<;>exact S
 | v::vs,[],E,S=>S
 | v::vs,r::rs,E,S=>by
  rw[ens,G7]at S;exact Sim.drops (S.drop rfl)
@[irreducible] noncomputable def mB(f:List T->Option T)(a:MA):ME:=⟨λO=>match a.run O with
 | some (rs,O1)=>(match f (rs.map (·.t))with
  | some t=>some (⟨.ow,t⟩,O1)
  | none=>none)
 | none=>none,a.mu⟩
theorem vM{red:List V->Hp->VK->Prop}{f:List T->Option T}{ta:TA}{a:MA}(hp:fO K red f)(ha:eK K ta a):aT K (tCB red ta) (mB f a):=by unhygienic
 intro Γ H O Z E Q r O' hK hr S q;simp only[mB]at hr;split at hr
 ·rename_i rs O1 e1;split at hr
  ·rename_i t e3;cases hr;refine ha Γ H O Z E _ rs _ hK e1 S λvs H1 hl S1=>?_;have r1:=S1.rds hl;rw[hK]at r1;refine hp H1 vs _ t Q r1 e3 λv H3 n=>q v H3 ?_;rw[<-hK]at n;exact S1.drops.fresh n
  ·cases hr
 ·cases hr
@[irreducible] noncomputable def mM(f:T->List T->Option T)(o:ME)(a:MA):ME:=⟨λO=>match o.run O with
 | some (r,O0)=>match a.run O0 with
  | some (rs,O1)=>if ax a.mu r=true then(match f r.t (rs.map (·.t))with
   | some t=>some (⟨.ow,t⟩,O1)
   | none=>none)else none
  | none=>none
 | none=>none,o.mu++a.mu⟩
def tJ(K:yF)(T0:String)(red:V->List V->Hp->VK->Prop)(f:T->List T->Option T):Prop:=∀(H:Hp) (x:V) (vs:List V) (tx:T) (ts:List T) (t:T) (Q:VK),Rpx K H tx x->Lf K H ts vs->f tx ts=some t->(∀v H',New K H H' t v->Q v H')->red x vs H Q
theorem Fd{T0:String}{red:V->List V->Hp->VK->Prop}{f:T->List T->Option T}{to:TE}{ta:TA}{o:ME}{a:MA}(hp:tJ K T0 red f)(hty:∀(H:Hp) (x:V) (tx:T) ts t,Rpx K H tx x->f tx ts=some t->tyV K T0 x H)(ho:aT K to o)(ha:eK K ta a):aT K (tBM K T0 red to ta) (mM f o a):=by unhygienic
 intro Γ H O Z E Q r O' hK hr S q;simp only[mM]at hr;split at hr
 ·rename_i r0 O0 e0;split at hr
  ·rename_i rs O1 e1;split at hr
   ·rename_i al;split at hr
    ·rename_i t e3;cases hr;refine ho Γ H O Z E _ r0 _ hK e0 S λx H1 S1=>?_;have r0':=S1.rd ymS;rw[hK]at r0';refine⟨hty H1 x _ _ _ r0' e3,?_⟩;refine ha Γ H1 O0 Z _ _ rs _ hK e1 S1 λvs H2 hl S2=>?_;rw[az (bj al),ag]at S2;have r1:=S2.rds hl;have S3:=S2.drops;have r2:=S3.rd ymS;rw[hK]at r1 r2;refine hp H2 x vs _ _ t Q r2 r1 e3 λv H3 n=>q v H3 ?_;rw[<-hK]at n;exact(S3.drop rfl).fresh n
    ·cases hr
   ·cases hr
  ·cases hr
 ·cases hr
@[irreducible] noncomputable def aI(a:ME):MT:=⟨λO=>match a.run O with
 | some (⟨_,.im (.bl b)⟩,O1)=>some (b,O1)
 | _=>none,a.mu⟩
theorem oM{ta:TE}{a:ME}(ha:aT K ta a):eY K (Ak ta) (aI a):=by unhygienic
 intro Γ H O Z E Q b O' hK hr S q;simp only[aI]at hr;split at hr
 ·rename_i k b0 O1 e1;cases hr;refine ha Γ H O Z E _ _ _ hK e1 S λx H1 S1=>⟨b,?_,q H1 (S1.drop rfl)⟩;have r1:=S1.rd ymS;exact lV r1
 ·cases hr
theorem CT{ta:TE}{a:ME}(ha:aT K ta a):eY K (tB ta) (aI a):=oM ha
noncomputable def tru:T->Option Bool
 | .im .non=>some false
 | .im (.bl b)=>some b
 | .im (.int i)=>some (i != 0)
 | .im (.str x)=>if x.length<=sizeLine then some ((x.length:Int) != 0)else none
 | .im (.tup is)=>some (!is.isEmpty)
 | .li is=>some (!is.isEmpty)
 | .lst ts=>some (!ts.isEmpty)
 | .tup ts=>some (!ts.isEmpty)
 | _=>none
@[irreducible] noncomputable def sk(a:ME):MT:=⟨λO=>match a.run O with
 | some (r,O1)=>(match tru r.t with
  | some b=>some (b,O1)
  | none=>none)
 | none=>none,a.mu⟩
theorem gx{α β:Type}{l:List α}{m:List β}(h:l.length=m.length):l.isEmpty=m.isEmpty:=by
 cases l<;>cases m<;>first|rfl|cases h
theorem tru_ok'{b:Bool}(h:tru t=some b)(r:Rpx K H t v):xf K v H b:=by
 cases t with
 | im i=>
  cases i with
  | non=>rw[CW r];cases h;rfl
  | bl x=>rw[lV r];cases h;rfl
  | int x=>rw[aN r];cases h;rfl
  | str x=>
   rw[cZ r];simp only[tru]at h;split at h;cases h;exact⟨by assumption,rfl⟩;cases h
  | tup is=>
   obtain⟨a,xs,rfl,h1,h2⟩:=bA r;cases h;exact .inr (.inl ⟨xs,h1,by rw[gx h2.length]⟩)
  | ls is=>cases h
  | fd _ _=>cases h
 | li is=>
  obtain⟨a,xs,rfl,h1,h2⟩:=bE r;cases h;exact .inl ⟨xs,aP h1,by rw[gx h2.length]⟩
 | lst is=>
  obtain⟨a,xs,F,rfl,h1,h2⟩:=gk r;cases h;exact .inl ⟨xs,aP h1,by rw[gx h2.length]⟩
 | tup ts=>
  obtain⟨F,r⟩:=r;rw[Rp]at r;obtain⟨a,xs,rfl,h1,h2⟩:=r;cases h;exact .inr (.inl ⟨xs,h1,by rw[gx h2.length]⟩)
 | di _=>cases h
 | dc _=>cases h
 | ins _ _=>cases h
theorem y6{ta:TE}{a:ME}(ha:aT K ta a):eY K (Ft K ta) (sk a):=by unhygienic
 intro Γ H O Z E Q b O' hK hr S q;simp only[sk]at hr;split at hr
 ·rename_i r O1 e1;split at hr
  ·rename_i b0 e2;cases hr;refine ha Γ H O Z E _ _ _ hK e1 S λx H1 S1=>⟨b,?_,q H1 (S1.drop rfl)⟩;have r1:=S1.rd ymS;rw[hK]at r1;exact tru_ok' e2 r1
  ·cases hr
 ·cases hr
@[irreducible] noncomputable def mT(a b:MT):MT:=⟨λO=>match a.run O with
 | some (true,O1)=>b.run O1
 | some (false,O1)=>some (false,O1)
 | none=>none,a.mu++b.mu⟩
@[irreducible] noncomputable def mOr(a b:MT):MT:=⟨λO=>match a.run O with
 | some (true,O1)=>some (true,O1)
 | some (false,O1)=>b.run O1
 | none=>none,a.mu++b.mu⟩
@[irreducible] noncomputable def nY(a:MT):MT:=⟨λO=>match a.run O with
 | some (b,O1)=>some (!b,O1)
 | none=>none,a.mu⟩
theorem yN{ta tb:TT}{a b:MT}(ha:eY K ta a)(hb:eY K tb b):eY K (Fg ta tb) (mT a b):=by
 intro Γ H O Z E Q c O' hK hr S q;simp only[mT]at hr q;split at hr
 ·rename_i O1 e1;refine ha Γ H O Z E _ _ _ hK e1 S λH1 S1=>r6 ?_;exact hb Γ H1 O1 Z _ _ _ _ hK hr S1 λH2 S2=>q H2 (by rw[<-ag];exact S2)
 ·rename_i O1 e1;cases hr;exact ha Γ H O Z E _ _ _ hK e1 S λH1 S1=>rZ (q H1 (by rw[<-ag];exact S1.weak _))
 ·cases hr
theorem CQ{ta tb:TT}{a b:MT}(ha:eY K ta a)(hb:eY K tb b):eY K (tOr ta tb) (mOr a b):=by
 intro Γ H O Z E Q c O' hK hr S q;simp only[mOr]at hr q;split at hr
 ·rename_i O1 e1;cases hr;exact ha Γ H O Z E _ _ _ hK e1 S λH1 S1=>r6 (q H1 (by rw[<-ag];exact S1.weak _))
 ·rename_i O1 e1;refine ha Γ H O Z E _ _ _ hK e1 S λH1 S1=>rZ ?_;exact hb Γ H1 O1 Z _ _ _ _ hK hr S1 λH2 S2=>q H2 (by rw[<-ag];exact S2)
 ·cases hr
theorem yX{ta:TT}{a:MT}(ha:eY K ta a):eY K (Fo ta) (nY a):=by
 intro Γ H O Z E Q c O' hK hr S q;simp only[nY]at hr q;split at hr
 ·rename_i b O1 e1;cases hr;exact ha Γ H O Z E _ _ _ hK e1 S λH1 S1=>q H1 S1
 ·cases hr
@[irreducible] noncomputable def jr(a b:ME):ME:=⟨λO=>match a.run O with
 | some (⟨_,.im (.bl true)⟩,O1)=>b.run O1
 | some (⟨_,.im (.bl false)⟩,O1)=>some (⟨.ow,.im (.bl false)⟩,O1)
 | _=>none,a.mu++b.mu⟩
@[irreducible] noncomputable def lH(a:ME):ME:=⟨λO=>match a.run O with
 | some (⟨_,.im (.bl b)⟩,O1)=>some (⟨.ow,.im (.bl !b)⟩,O1)
 | _=>none,a.mu⟩
theorem vO{ta tb:TE}{a b:ME}(ha:aT K ta a)(hb:aT K tb b):aT K (Ae ta tb) (jr a b):=by
 intro Γ H O Z E Q c O' hK hr S q;simp only[jr]at hr q;split at hr
 ·rename_i k O1 e1;refine ha Γ H O Z E _ _ _ hK e1 S λx H1 S1=>⟨true,lV (S1.rd ymS),r6 ?_⟩;exact hb Γ H1 O1 Z _ _ _ _ hK hr (S1.drop rfl) λv H2 S2=>q v H2 (by rw[<-ag];exact S2)
 ·rename_i k O1 e1;cases hr;refine ha Γ H O Z E _ _ _ hK e1 S λx H1 S1=>⟨false,lV (S1.rd ymS),rZ (q _ H1 ?_)⟩;rw[<-ag];exact((S1.drop rfl).weak _).imm (iU rfl)
 ·cases hr
theorem vZ{ta:TE}{a:ME}(ha:aT K ta a):aT K (Ai ta) (lH a):=by
 intro Γ H O Z E Q c O' hK hr S q;simp only[lH]at hr q;split at hr
 ·rename_i k b O1 e1;cases hr;exact ha Γ H O Z E _ _ _ hK e1 S λx H1 S1=>⟨b,lV (S1.rd ymS),q _ H1 ((S1.drop rfl).imm (iU rfl))⟩
 ·cases hr
end
mutual
noncomputable def I.dok:I->Bool
 | .int _=>true|.str _=>true|.tup is=>I.doks is|_=>false
noncomputable def I.doks:List I->Bool
 | []=>true
 | i::is=>i.dok&&I.doks is
end
mutual
noncomputable def I.toD:I->D
 | .int i=>.int i|.str x=>.str x|.tup is=>.tup (I.toDs is)|_=>.int 0
noncomputable def I.toDs:List I->List D
 | []=>[]
 | i::is=>i.toD::I.toDs is
end
mutual
noncomputable def I.dep:I->Nat
 | .tup is=>I.deps is+1|_=>0
noncomputable def I.deps:List I->Nat
 | []=>0
 | i::is=>max i.dep (I.deps is)
end
mutual
theorem Ax:∀(i:I),i.toD.depth=i.dep
 | .non=>rfl|.bl _=>rfl|.int _=>rfl|.str _=>rfl|.ls _=>rfl|.fd _ _=>rfl
 | .tup is=>by rw[I.toD,D.depth,I.dep,fb is]
theorem fb:∀(is:List I),aJ (I.toDs is)=I.deps is
 | []=>rfl
 | i::is=>by rw[I.toDs,aJ,I.deps,Ax i,fb is]
end
mutual
theorem rj:∀{a b:I},a.dok=true->b.dok=true->(a.toD=b.toD↔a=b)
 | .non,_,h,_=>by simp[I.dok]at h
 | .bl _,_,h,_=>by simp[I.dok]at h
 | .ls _,_,h,_=>by simp[I.dok]at h
 | .fd _ _,_,h,_=>by simp[I.dok]at h
 | .int x,b,_,h=>by cases b<;>simp[I.dok]at h<;>simp[I.toD]
 | .str x,b,_,h=>by cases b<;>simp[I.dok]at h<;>simp[I.toD]
 | .tup x,b,h1,h=>by
  cases b with
  | tup y=>
   rw[I.dok]at h h1;rw[I.toD,I.toD,D.tup.injEq,I.tup.injEq];exact iW h1 h
  | non=>simp[I.dok]at h
  | bl _=>simp[I.dok]at h
  | ls _=>simp[I.dok]at h
  | fd _ _=>simp[I.dok]at h
  | int _=>simp[I.toD]
  | str _=>simp[I.toD]
theorem iW:∀{a b:List I},I.doks a=true->I.doks b=true->(I.toDs a=I.toDs b↔a=b)
 | [],b,_,_=>by cases b<;>simp[I.toDs]
 | x::xs,b,h1,h=>by
  cases b with
  | nil=>simp[I.toDs]
  | cons y ys=>
   rw[I.doks,Gz]at h h1;rw[I.toDs,I.toDs,HE.injEq,HE.injEq,rj h1.1 h.1,iW h1.2 h.2]
end
section
variable {K:yF}{H:Hp}
mutual
theorem kJ:∀{i:I} {v:V},i.dok=true->RpI K H i v->Rep K H i.toD v
 | .non,_,h,_=>by simp[I.dok]at h
 | .bl _,_,h,_=>by simp[I.dok]at h
 | .ls _,_,h,_=>by simp[I.dok]at h
 | .fd _ _,_,h,_=>by simp[I.dok]at h
 | .int _,_,_,r=>by rw[RpI]at r;rw[I.toD,Rep];exact r
 | .str _,_,_,r=>by rw[RpI]at r;rw[I.toD,Rep];exact r
 | .tup is,_,h,r=>by
  rw[RpI]at r;rw[I.dok]at h;obtain⟨a,xs,h1,h2,h3⟩:=r;rw[I.toD,Rep];exact⟨a,xs,h1,h2,eA h h3⟩
theorem eA:∀{is:List I} {vs:List V},I.doks is=true->KS K H is vs->K1 K H (I.toDs is) vs
 | [],_,_,r=>by rw[KS]at r;rw[I.toDs,K1];exact r
 | i::is,_,h,r=>by
  rw[KS]at r;rw[I.doks,Gz]at h;obtain⟨x,xs,h1,h2,h3⟩:=r;rw[I.toDs,K1];exact⟨x,xs,h1,kJ h.1 h2,eA h.2 h3⟩
end
theorem kj{i:I}:∀{is:List I},i.dok=true->I.doks is=true->(i.toD∈I.toDs is↔i∈is)
 | [],_,_=>by simp[I.toDs]
 | x::xs,h,hs=>by
  rw[I.doks,Gz]at hs;rw[I.toDs,G4,G4,rj h hs.1,kj h hs.2]
noncomputable def isI:T->Option Int
 | .im i=>(match i with|.int a=>some a|_=>none)
 | _=>none
noncomputable def isS:T->Option Str
 | .im i=>(match i with|.str a=>some a|_=>none)
 | _=>none
noncomputable def uh:T->Option (List I)
 | .im i=>(match i with|.tup a=>some a|_=>none)
 | _=>none
noncomputable def ug:T->Option (List I)
 | .li a=>some a
 | _=>none
theorem dq{t:T}{a:Int}(h:isI t=some a):t=.im (.int a):=by
 cases t with
 | im i=>cases i<;>cases h;rfl
 | _=>cases h
theorem xw{t:T}{a:Str}(h:isS t=some a):t=.im (.str a):=by
 cases t with
 | im i=>cases i<;>cases h;rfl
 | _=>cases h
theorem iG{t:T}{a:List I}(h:uh t=some a):t=.im (.tup a):=by
 cases t with
 | im i=>cases i<;>cases h;rfl
 | _=>cases h
theorem eR{t:T}{a:List I}(h:ug t=some a):t=.li a:=by
 cases t with
 | li i=>cases h;rfl
 | _=>cases h
noncomputable def i2(g:Int->Int->Option T) (x y:T):Option T:=match isI x with
 | some a=>(match isI y with
  | some b=>g a b
  | none=>none)
 | none=>none
theorem h9{g:Int->Int->Option T}{x y t:T}(h:i2 g x y=some t):∃a b,x=.im (.int a)/\y=.im (.int b)/\g a b=some t:=by
 unfold i2 at h;split at h
 ·rename_i a ea;split at h
  ·rename_i b eb;exact⟨a,b,dq ea,dq eb,h⟩
  ·cases h
 ·cases h
theorem aQ{α:Type}{c:Prop}[Decidable c]{t u : α}(h:(if c then some t else none)=some u):c/\t=u:=by
 by_cases hc:c;rw[if_pos hc]at h;exact⟨hc,GX.inj h⟩;rw[if_neg hc]at h;cases h
noncomputable def Dy(i:I) (y:T):Option T:=match i with
 | .int a=>(match isI y with|some b=>some (.im (.int (a+b)))|none=>none)
 | .str a=>(match isS y with|some b=>if a.length+b.length<=sizeLine then some (.im (.str (a++b)))else none|none=>none)
 | .tup a=>(match uh y with|some b=>if a.length+b.length<=sizeLine then some (.im (.tup (a++b)))else none|none=>none)
 | _=>none
@[irreducible] noncomputable def bd(x y:T):Option T:=match x with
 | .im i=>Dy i y
 | .li a=>(match ug y with|some b=>if a.length+b.length<=sizeLine then some (.li (a++b))else none|none=>none)
 | _=>none
theorem KS.nil_iff{is:List I}{xs:List V}(h:KS K H is xs):xs=[]↔is=[]:=by
 have:=h.length;cases is<;>cases xs<;>first|(simp;done)|(cases this;done)
theorem uV:cH K (vE K) bd:=by
 intro H x y tx ty t Q rx ry e q;unfold bd at e;split at e
 ·rename_i i;unfold Dy at e;split at e
  ·split at e
   ·rename_i b eb;cases dq eb;cases e;rw[aN rx,aN ry];exact .inl (.inl ⟨_,_,rfl,rfl,q _ H (.sc rfl)⟩)
   ·cases e
  ·split at e
   ·rename_i b eb;cases xw eb;obtain⟨hl,rfl⟩:=aQ e;rw[cZ rx,cZ ry];exact .inl (.inr (.inl ⟨_,_,rfl,rfl,hl,q _ H (.sc rfl)⟩))
   ·cases e
  ·rename_i a;split at e
   ·rename_i b eb;cases iG eb;obtain⟨hl,rfl⟩:=aQ e;obtain⟨p,xs,rfl,h1,h2⟩:=bA rx;obtain⟨p',ys,rfl,g1,g2⟩:=bA ry;by_cases ha:a=[]
    ·subst ha;have:=h2.nil_inv;subst this;refine .inr (.inr ⟨p,p',ys,rfl,rfl,h1,g1,q _ H (.im ?_)⟩);rw[RpI];exact⟨p',ys,rfl,g1,g2⟩
    ·refine .inl (.inr (.inr (.inr ⟨p,p',xs,ys,rfl,rfl,h1,g1,λz=>ha (h2.nil_iff.mp z),by rw[h2.length,g2.length];exact hl,λz=>q _ H (.im ?_),λz p hp=>q _ _ (.tup hp (h2.append g2))⟩)));have:=g2.nil_iff.mp z;subst this;rw[GZ,RpI];exact⟨p,xs,rfl,h1,h2⟩
   ·cases e
  ·cases e
 ·split at e
  ·rename_i b eb;cases eR eb;obtain⟨hl,rfl⟩:=aQ e;obtain⟨p,xs,rfl,h1,h2⟩:=bE rx;obtain⟨p',ys,rfl,g1,g2⟩:=bE ry;exact .inr (.inl ⟨p,p',xs,ys,rfl,rfl,h1,g1,by rw[h2.length,g2.length];exact hl,λp hp=>q _ _ (.li hp (h2.append g2))⟩)
  ·cases e
 ·cases e
@[irreducible] noncomputable def bR:T->T->Option T:=i2 λa b=>some (.im (.int (a-b)))
theorem vm:cH K (rI0 λi j=>.int (i-j)) bR:=by
 intro H x y tx ty t Q rx ry e q;unfold bR at e;obtain⟨a,b,rfl,rfl,e⟩:=h9 e;cases e;rw[aN rx,aN ry];exact⟨_,_,rfl,rfl,q _ H (.sc rfl)⟩
noncomputable def ju(i j:Int):Bool:=(decide (-(2^64)<i)&&decide (i<2^64))||(decide (-(2^64)<j)&&decide (j<2^64))
theorem xH{i j:Int}(h:ju i j=true):Lv i j:=by
 unfold ju at h;simp only[Jz,Gz,decide_eq_true_eq]at h;exact h
noncomputable def DX(i:I) (b:Int):Option T:=match i with
 | .int a=>if ju a b=true then some (.im (.int (a*b)))else none
 | .str a=>if 1<=b/\b<=1000/\a.length<=1000 then some (.im (.str (oL (Gx b.toNat (sL a)).flatten)))else none
 | .tup a=>if a≠[]/\a.length<=1000/\1<=b/\b<=1000 then some (.im (.tup (Gx b.toNat a).flatten))else none
 | _=>none
@[irreducible] noncomputable def cX(x y:T):Option T:=match isI y with
 | some b=>(match x with
  | .im i=>DX i b
  | .li a=>if -(2^63)<=b/\b<2^63/\a.length*b.toNat<=sizeLine then some (.li (Gx b.toNat a).flatten)else none
  | _=>none)
 | none=>none
theorem KS.reps{is:List I}{xs:List V}(h:KS K H is xs):∀n:Nat,KS K H (Gx n is).flatten (Gx n xs).flatten
 | 0=>.nil
 | n+1=>by
  rw[Hc,Hc,HC,HC];exact h.append (h.reps n)
theorem vf:cH K (vJ K) cX:=by
 intro H x y tx ty t Q rx ry e q;unfold cX at e;split at e
 ·rename_i b eb;cases dq eb;split at e
  ·unfold DX at e;split at e
   ·obtain⟨h,rfl⟩:=aQ e;rw[aN rx,aN ry];exact .inl (.inl ⟨_,_,rfl,rfl,xH h,q _ H (.sc rfl)⟩)
   ·obtain⟨h,rfl⟩:=aQ e;rw[cZ rx,aN ry];exact .inl (.inr (.inl ⟨_,_,rfl,rfl,h.1,h.2.1,h.2.2,q _ H (.sc rfl)⟩))
   ·rename_i a;obtain⟨h,rfl⟩:=aQ e;obtain⟨p,xs,rfl,h1,h2⟩:=bA rx;rw[aN ry];refine .inl (.inr (.inr (.inr ⟨p,b,xs,rfl,rfl,h1,λz=>h.1 (h2.nil_iff.mp z),by rw[h2.length];exact h.2.1,h.2.2.1,h.2.2.2,λz=>q _ H (.im ?_),λz p hp=>q _ _ (.tup hp (h2.reps _))⟩)));subst z;have e1:(Gx (1:Int).toNat a).flatten=a:=by simp
    rw[e1,RpI];exact⟨p,xs,rfl,h1,h2⟩
   ·cases e
  ·obtain⟨h,rfl⟩:=aQ e;obtain⟨p,xs,rfl,h1,h2⟩:=bE rx;rw[aN ry];exact .inr ⟨p,b,xs,rfl,rfl,h1,h.1,h.2.1,by rw[h2.length];exact h.2.2,λp hp=>q _ _ (.li hp (h2.reps _))⟩
  ·cases e
 ·cases e
@[irreducible] noncomputable def f6:T->T->Option T:=i2 λa b=>if 0<b/\b<2^64 then some (.im (.int (a / b)))else none
theorem sG:cH K (rI oY λi j=>.int (i / j)) f6:=by
 intro H x y tx ty t Q rx ry e q;unfold f6 at e;obtain⟨a,b,rfl,rfl,e⟩:=h9 e;obtain⟨h,rfl⟩:=aQ e;rw[aN rx,aN ry];exact⟨_,_,rfl,rfl,h,q _ H (.sc rfl)⟩
@[irreducible] noncomputable def ft:T->T->Option T:=i2 λa b=>if 0<b then some (.im (.int (a % b)))else none
theorem ve:cH K (rI (λ_ j=>0<j) λi j=>.int (i % j)) ft:=by
 intro H x y tx ty t Q rx ry e q;unfold ft at e;obtain⟨a,b,rfl,rfl,e⟩:=h9 e;obtain⟨h,rfl⟩:=aQ e;rw[aN rx,aN ry];exact⟨_,_,rfl,rfl,h,q _ H (.sc rfl)⟩
@[irreducible] noncomputable def sE:T->T->Option T:=i2 λa b=>if 0<=b/\b<=1000000/\a.natAbs<2^64 then some (.im (.int (a^b.toNat)))else none
theorem vk:cH K (rI An λi j=>.int (i^j.toNat)) sE:=by
 intro H x y tx ty t Q rx ry e q;unfold sE at e;obtain⟨a,b,rfl,rfl,e⟩:=h9 e;obtain⟨h,rfl⟩:=aQ e;rw[aN rx,aN ry];exact⟨_,_,rfl,rfl,h,q _ H (.sc rfl)⟩
@[irreducible] noncomputable def ux:T->Option T
 | .im (.int a)=>some (.im (.int (-a)))
 | _=>none
theorem vg:qh K (rU λi=>.int (-i)) ux:=by
 intro H x tx t Q rx e q;unfold ux at e;split at e;cases e;rw[aN rx];exact⟨_,rfl,q _ H (.sc rfl)⟩;cases e
@[irreducible] noncomputable def hJ(p:Int->Int->Bool):T->T->Option T:=i2 λa b=>some (.im (.bl (p a b)))
theorem kA{p:Int->Int->Bool}:cH K (rI0 λi j=>.bl (p i j)) (hJ p):=by
 intro H x y tx ty t Q rx ry e q;unfold hJ at e;obtain⟨a,b,rfl,rfl,e⟩:=h9 e;cases e;rw[aN rx,aN ry];exact⟨_,_,rfl,rfl,q _ H (.sc rfl)⟩
noncomputable def Ad(a b:I):Bool:=match a.sc with
 | some v=>(match b.sc with
  | some w=>wq v w
  | none=>false)
 | none=>false
noncomputable def ofV:V->I
 | .bl b=>.bl b
 | .int i=>.int i
 | .str x=>.str x
 | _=>.non
theorem zP{a:I}{v:V}(h:a.sc=some v):ofV v=a:=by cases a<;>cases h<;>rfl
noncomputable def eqI:I->I->Option Bool
 | .tup a,.tup b=>if I.doks a=true/\I.doks b=true/\I.deps a<=50 then some (decide (a=b))else none
 | a,b=>if Ad a b=true then some (decide (a=b))else none
noncomputable def eqB:T->T->Option Bool
 | .im a,.im b=>eqI a b
 | .li a,.li b=>if I.doks a=true/\I.doks b=true/\I.deps a<=50 then some (decide (a=b))else none
 | _,_=>none
@[irreducible] noncomputable def eqT(x y:T):Option T:=(eqB x y).map λb=>.im (.bl b)
@[irreducible] noncomputable def neT(x y:T):Option T:=(eqB x y).map λb=>.im (.bl !b)
theorem Az{a b:I}{c:Bool}(h:eqI a b=some c):(∃x y,a=.tup x/\b=.tup y/\I.doks x=true/\I.doks y=true/\I.deps x<=50/\c=decide (x=y)) \/ ∃v w,a.sc=some v/\b.sc=some w/\wq v w=true/\c=decide (v=w):=by
 unfold eqI at h;split at h
 ·rename_i x y;split at h;rename_i hh;cases h;exact .inl ⟨x,y,rfl,rfl,hh.1,hh.2.1,hh.2.2,rfl⟩;cases h
 ·split at h
  ·rename_i hh;cases h;right;unfold Ad at hh;split at hh
   ·rename_i v ev;split at hh
    ·rename_i w ew;refine⟨v,w,ev,ew,hh,?_⟩;have:(a=b)↔(v=w):=⟨λz=>GX.inj (ev.symm.trans ((congrArg I.sc z).trans ew)),λz=>by rw[<-zP ev,<-zP ew,z]⟩;exact decide_eq_decide.mpr this
    ·cases hh
   ·cases hh
  ·cases h
theorem tZ{x y:V}{tx ty:T}{b:Bool}{P:V->Prop}(rx:Rpx K H tx x)(ry:Rpx K H ty y)(e:eqB tx ty=some b) :
  (wq x y=true/\b=decide (x=y))\/(∃ds es,Rep K H (.tup ds) x/\Rep K H (.tup es) y/\aJ ds<=50/\(b=true↔ds=es))\/(∃p q xs ys ds es,x=.ref p/\y=.ref q/\SqL K H p xs/\SqL K H q ys/\K1 K H ds xs/\K1 K H es ys/\aJ ds<=50/\(b=true↔ds=es)):=by
 unfold eqB at e;split at e
 ·rename_i a c;rcases Az e with⟨x1,y1,rfl,rfl,h1,h2,h3,rfl⟩|⟨v,w,h1,h2,h3,rfl⟩
  ·refine .inr (.inl ⟨I.toDs x1,I.toDs y1,?_,?_,by rw[fb];exact h3,?_⟩)
   ·have:=kJ (i:=.tup x1) (by rw[I.dok];exact h1) (bP rx);rwa [I.toD]at this
   ·have:=kJ (i:=.tup y1) (by rw[I.dok];exact h2) (bP ry);rwa [I.toD]at this
   ·rw[decide_eq_true_eq,iW h1 h2]
  ·rw[Ab h1 (bP rx),Ab h2 (bP ry)];exact .inl ⟨h3,rfl⟩
 ·split at e
  ·rename_i a c h;cases e;obtain⟨p,xs,rfl,h1,h2⟩:=bE rx;obtain⟨p',ys,rfl,g1,g2⟩:=bE ry;exact .inr (.inr ⟨p,p',xs,ys,_,_,rfl,rfl,aP h1,aP g1,eA h.1 h2,eA h.2.1 g2,by rw[fb];exact h.2.2,by rw[decide_eq_true_eq,iW h.1 h.2.1]⟩)
  ·cases e
 ·cases e
theorem yj:cH K (CA K) eqT:=by
 intro H x y tx ty t Q rx ry e q;unfold eqT at e;cases h:eqB tx ty with
 | none=>rw[h]at e;cases e
 | some b=>
  rw[h]at e;cases e;rcases tZ (P:=λ_=>True) rx ry h with⟨h1,rfl⟩|⟨ds,es,h1,h2,h3,h4⟩|⟨p,p',xs,ys,ds,es,h1,h2,h3,h4,h5,h6,h7,h8⟩;exact .inl ⟨h1,q _ H (.sc rfl)⟩
  ·refine .inr (.inl ⟨ds,es,h1,h2,h3,λc hc=>?_⟩);have:c=b:=by rw[HF,hc,h4]
   subst this;exact q _ H (.sc rfl)
  ·refine .inr (.inr ⟨p,p',xs,ys,ds,es,h1,h2,h3,h4,h5,h6,h7,λc hc=>?_⟩);have:c=b:=by rw[HF,hc,h8]
   subst this;exact q _ H (.sc rfl)
theorem yl:cH K (CH K) neT:=by
 intro H x y tx ty t Q rx ry e q;unfold neT at e;cases h:eqB tx ty with
 | none=>rw[h]at e;cases e
 | some b=>
  rw[h]at e;cases e;rcases tZ (P:=λ_=>True) rx ry h with⟨h1,rfl⟩|⟨ds,es,h1,h2,h3,h4⟩|⟨p,p',xs,ys,ds,es,h1,h2,h3,h4,h5,h6,h7,h8⟩;exact .inl ⟨h1,q _ H (.sc rfl)⟩
  ·refine .inr (.inl ⟨ds,es,h1,h2,h3,λc hc=>?_⟩);have:c = !b:=by cases b<;>cases c<;>simp_all
   subst this;exact q _ H (.sc rfl)
  ·refine .inr (.inr ⟨p,p',xs,ys,ds,es,h1,h2,h3,h4,h5,h6,h7,λc hc=>?_⟩);have:c = !b:=by cases b<;>cases c<;>simp_all
   subst this;exact q _ H (.sc rfl)
noncomputable def occ(i j:Str):Bool:=!(Mv j i 0 j.length 1).isEmpty
noncomputable def inI(i:I) (y:T):Option Bool:=match y with
 | .im j=>(match j with
  | .str b=>(match i with
   | .str a=>some (occ a b)
   | _=>none)
  | .tup is=>if i.dok=true/\I.doks is=true/\I.deps is<=50 then some (decide (i∈is))else none
  | _=>none)
 | .li is=>if i.dok=true/\I.doks is=true/\I.deps is<=50 then some (decide (i∈is))else none
 | _=>none
noncomputable def inB(x y:T):Option Bool:=match x with
 | .im i=>inI i y
 | _=>none
@[irreducible] noncomputable def inT(x y:T):Option T:=(inB x y).map λb=>.im (.bl b)
@[irreducible] noncomputable def sr(x y:T):Option T:=(inB x y).map λb=>.im (.bl !b)
theorem ue{x y:V}{tx ty:T}{b:Bool}(rx:Rpx K H tx x)(ry:Rpx K H ty y)(e:inB tx ty=some b) :
  (∃i j,x=.str i/\y=.str j/\b=occ i j)\/(∃p xs d ds,y=.ref p/\(SqL K H p xs\/SqT K H p xs)/\Rep K H d x/\K1 K H ds xs/\aJ ds<=50/\(b=true↔d∈ds)):=by
 unfold inB at e;split at e
 ·unfold inI at e;split at e
  ·split at e
   ·split at e;cases e;exact .inl ⟨_,_,cZ rx,cZ ry,rfl⟩;cases e
   ·obtain⟨h,rfl⟩:=aQ e;obtain⟨p,xs,rfl,h1,h2⟩:=bA ry;exact .inr ⟨p,xs,_,_,rfl,.inr h1,kJ h.1 (bP rx),eA h.2.1 h2,by rw[fb];exact h.2.2,by rw[decide_eq_true_eq,kj h.1 h.2.1]⟩
   ·cases e
  ·obtain⟨h,rfl⟩:=aQ e;obtain⟨p,xs,rfl,h1,h2⟩:=bE ry;exact .inr ⟨p,xs,_,_,rfl,.inl (aP h1),kJ h.1 (bP rx),eA h.2.1 h2,by rw[fb];exact h.2.2,by rw[decide_eq_true_eq,kj h.1 h.2.1]⟩
  ·cases e
 ·cases e
theorem yk:cH K (CB K) inT:=by
 intro H x y tx ty t Q rx ry e q;unfold inT at e;cases h:inB tx ty with
 | none=>rw[h]at e;cases e
 | some b=>
  rw[h]at e;cases e;rcases ue rx ry h with⟨i,j,rfl,rfl,rfl⟩|⟨p,xs,d,ds,h1,h2,h3,h4,h5,h6⟩;exact .inl ⟨i,j,rfl,rfl,q _ H (.sc rfl)⟩
  ·refine .inr (.inr ⟨p,xs,d,ds,h1,h2,h3,h4,h5,λc hc=>?_⟩);have:c=b:=by rw[HF,hc,h6];simp
   subst this;exact q _ H (.sc rfl)
theorem vh:cH K (ng K) sr:=by
 intro H x y tx ty t Q rx ry e q;unfold sr at e;cases h:inB tx ty with
 | none=>rw[h]at e;cases e
 | some b=>
  rw[h]at e;cases e;rcases ue rx ry h with⟨i,j,rfl,rfl,rfl⟩|⟨p,xs,d,ds,h1,h2,h3,h4,h5,h6⟩;exact .inl ⟨i,j,rfl,rfl,q _ H (.sc rfl)⟩
  ·refine .inr (.inr ⟨p,xs,d,ds,h1,h2,h3,h4,h5,λc hc=>?_⟩);have:c = !b:=by cases b<;>cases c<;>simp_all
   subst this;exact q _ H (.sc rfl)
noncomputable def l1{α:Type} (g:T->Option α) (ts:List T):Option α:=match ts with
 | []=>none
 | t::r=>(match r with
  | []=>g t
  | _::_=>none)
theorem cW{α:Type}{g:T->Option α}{ts:List T}{u : α}(h:l1 g ts=some u):∃t,ts=[t]/\g t=some u:=by
 cases ts with
 | nil=>cases h
 | cons t r=>cases r with
  | nil=>exact⟨t,rfl,h⟩
  | cons _ _=>cases h
noncomputable def l2{α:Type} (g:T->T->Option α) (ts:List T):Option α:=match ts with
 | []=>none
 | t::r=>l1 (g t) r
theorem kf{α:Type}{g:T->T->Option α}{ts:List T}{u : α}(h:l2 g ts=some u):∃t s,ts=[t,s]/\g t s=some u:=by
 cases ts with
 | nil=>cases h
 | cons t r=>
  obtain⟨s,rfl,e⟩:=cW (show l1 (g t) r=some u from h);exact⟨t,s,rfl,e⟩
noncomputable def DV(i:I):Option T:=match i with
 | .str x=>if x.length<=sizeLine then some (.im (.int x.length))else none
 | .tup is=>some (.im (.int is.length))
 | _=>none
noncomputable def DU(t:T):Option T:=match t with
 | .im i=>DV i
 | .li is=>some (.im (.int is.length))
 | .lst ts=>some (.im (.int ts.length))
 | .tup ts=>some (.im (.int ts.length))
 | _=>none
@[irreducible] noncomputable def cE:List T->Option T:=l1 DU
theorem k9{t:T}{vs:List V}(h:Lf K H [t] vs):∃v,vs=[v]/\Rpx K H t v:=by
 obtain⟨v,r,rfl,h1,h2⟩:=h;rw[Lf]at h2;subst h2;exact⟨v,rfl,h1⟩
theorem CY{t u:T}{vs:List V}(h:Lf K H [t,u] vs):∃v w,vs=[v,w]/\Rpx K H t v/\Rpx K H u w:=by
 obtain⟨v,r,rfl,h1,h2⟩:=h;obtain⟨w,rfl,h3⟩:=k9 h2;exact⟨v,w,rfl,h1,h3⟩
theorem nt{ts:List T}{v:V}(h:Rpx K H (.tup ts) v):∃a xs F,v=.ref a/\SqT K H a xs/\Rps K H ts xs F:=by
 obtain⟨F,h⟩:=h;rw[Rp]at h;obtain⟨a,xs,h1,h2,h3⟩:=h;exact⟨a,xs,F,h1,h2,h3⟩
theorem u7:fO K (vH K) cE:=by
 intro H vs ts t Q r e q;unfold cE at e;have e0:=cW e;clear e;obtain⟨x,rfl,e⟩:=e0;obtain⟨v,rfl,r1⟩:=k9 r;unfold DU at e;split at e
 ·unfold DV at e;split at e
  ·obtain⟨h,rfl⟩:=aQ e;rw[cZ r1];exact .inr ⟨_,rfl,h,q _ H (.sc rfl)⟩
  ·cases e;obtain⟨p,xs,rfl,h1,h2⟩:=bA r1;exact .inl ⟨p,xs,rfl,.inr h1,q _ H (.sc (by rw[h2.length];rfl))⟩
  ·cases e
 ·cases e;obtain⟨p,xs,rfl,h1,h2⟩:=bE r1;exact .inl ⟨p,xs,rfl,.inl (aP h1),q _ H (.sc (by rw[h2.length];rfl))⟩
 ·cases e;obtain⟨p,xs,F,rfl,h1,h2⟩:=gk r1;exact .inl ⟨p,xs,rfl,.inl (aP h1),q _ H (.sc (by rw[h2.length];rfl))⟩
 ·cases e;obtain⟨p,xs,F,rfl,h1,h2⟩:=nt r1;exact .inl ⟨p,xs,rfl,.inr h1,q _ H (.sc (by rw[h2.length];rfl))⟩
 ·cases e
@[irreducible] noncomputable def oe:List T->Option T:=l2 (i2 λa b=>some (.im (.int (if b<a then b else a))))
theorem vd:fO K (λxs H Q=>∃i j,xs=[.int i,.int j]/\Q (.int (if j<i then j else i)) H) oe:=by
 intro H vs ts t Q r e q;unfold oe at e;have e0:=kf e;clear e;obtain⟨x,y,rfl,e⟩:=e0;obtain⟨a,b,rfl,rfl,e⟩:=h9 e;cases e;obtain⟨v,w,rfl,r1,r2⟩:=CY r;rw[aN r1,aN r2];exact⟨_,_,rfl,q _ H (.sc rfl)⟩
@[irreducible] noncomputable def oa:List T->Option T:=l2 (i2 λa b=>some (.im (.int (if b>a then b else a))))
theorem vc:fO K (λxs H Q=>∃i j,xs=[.int i,.int j]/\Q (.int (if j>i then j else i)) H) oa:=by
 intro H vs ts t Q r e q;unfold oa at e;have e0:=kf e;clear e;obtain⟨x,y,rfl,e⟩:=e0;obtain⟨a,b,rfl,rfl,e⟩:=h9 e;cases e;obtain⟨v,w,rfl,r1,r2⟩:=CY r;rw[aN r1,aN r2];exact⟨_,_,rfl,q _ H (.sc rfl)⟩
noncomputable def DQ(t:T):Option T:=match t with
 | .im i=>(match i with
  | .int a=>some (.im (.int a))
  | .bl b=>some (.im (.int (if b then 1 else 0)))
  | _=>none)
 | _=>none
@[irreducible] noncomputable def pj:List T->Option T:=l1 DQ
theorem u4:fO K (λxs H Q=>(∃i,xs=[.int i]/\Q (.int i) H) \/ ∃k,xs=[.bl k]/\Q (.int (if k then 1 else 0)) H) pj:=by
 intro H vs ts t Q r e q;unfold pj at e;have e0:=cW e;clear e;obtain⟨x,rfl,e⟩:=e0;obtain⟨v,rfl,r1⟩:=k9 r;unfold DQ at e;split at e
 ·split at e
  ·cases e;rw[aN r1];exact .inl ⟨_,rfl,q _ H (.sc rfl)⟩
  ·cases e;rw[lV r1];exact .inr ⟨_,rfl,q _ H (.sc rfl)⟩
  ·cases e
 ·cases e
noncomputable def ze(g:List I->T) (t:T):Option T:=match t with
 | .im i=>(match i with
  | .tup is=>some (g is)
  | _=>none)
 | .li is=>some (g is)
 | _=>none
@[irreducible] noncomputable def eJ:List T->Option T:=l1 (ze λis=>.im (.tup is))
theorem vn:fO K (vK K) eJ:=by
 intro H vs ts t Q r e q;unfold eJ at e;have e0:=cW e;clear e;obtain⟨x,rfl,e⟩:=e0;obtain⟨v,rfl,r1⟩:=k9 r;unfold ze at e;split at e
 ·split at e
  ·cases e;obtain⟨p,xs,rfl,h1,h2⟩:=bA r1;exact⟨p,xs,rfl,.inr ⟨h1,q _ H (.im (bP r1))⟩⟩
  ·cases e
 ·cases e;obtain⟨p,xs,rfl,h1,h2⟩:=bE r1;exact⟨p,xs,rfl,.inl ⟨aP h1,λl hl=>q _ _ (.tup hl h2)⟩⟩
 ·cases e
@[irreducible] noncomputable def uq:List T->Option T:=l1 (ze λis=>.li is)
theorem u8:fO K (vI K) uq:=by
 intro H vs ts t Q r e q;unfold uq at e;have e0:=cW e;clear e;obtain⟨x,rfl,e⟩:=e0;obtain⟨v,rfl,r1⟩:=k9 r;unfold ze at e;split at e
 ·split at e
  ·cases e;obtain⟨p,xs,rfl,h1,h2⟩:=bA r1;exact⟨p,xs,rfl,.inr h1,λl hl=>q _ _ (.li hl h2)⟩
  ·cases e
 ·cases e;obtain⟨p,xs,rfl,h1,h2⟩:=bE r1;exact⟨p,xs,rfl,.inl (aP h1),λl hl=>q _ _ (.li hl h2)⟩
 ·cases e
noncomputable def bls:List I->Option (List Bool)
 | []=>some []
 | .bl b::is=>(bls is).map (b :: ·)
 | _=>none
theorem Au{is:List I}{xs:List V}:∀{bs:List Bool},bls is=some bs->KS K H is xs->xs=bs.map V.bl:=by
 induction is generalizing xs with
 | nil=>intro bs h r;cases h;exact r.nil_inv
 | cons i is ih=>
  intro bs h r;cases i with
  | bl b=>
   simp only[bls]at h;cases e:bls is with
   | none=>rw[e]at h;cases h
   | some cs=>
    rw[e]at h;cases h;obtain⟨x,r',rfl,h1,h2⟩:=r.cons_inv;rw[RpI]at h1;rw[h1,ih e h2];rfl
  | _=>simp[bls]at h
noncomputable def o3:List T->Option T
 | [.li is]=>(bls is).map λbs=>.im (.bl (bs.all id))
 | _=>none
theorem uW:fO K (EX K) o3:=by
 intro H vs ts t Q r e q;unfold o3 at e;split at e
 ·rename_i is;cases h:bls is with
  | none=>rw[h]at e;cases e
  | some bs=>
   rw[h]at e;cases e;obtain⟨v,rfl,r1⟩:=k9 r;obtain⟨p,xs,rfl,h1,h2⟩:=bE r1;have:=Au h h2;subst this;exact⟨p,bs,rfl,aP h1,q _ H (.sc rfl)⟩
 ·cases e
noncomputable def oS:List I->Option (List Str)
 | []=>some []
 | .str b::is=>(oS is).map (b :: ·)
 | _=>none
theorem zh{is:List I}{xs:List V}:∀{bs:List Str},oS is=some bs->KS K H is xs->xs=bs.map V.str:=by
 induction is generalizing xs with
 | nil=>intro bs h r;cases h;exact r.nil_inv
 | cons i is ih=>
  intro bs h r;cases i with
  | str b=>
   simp only[oS]at h;cases e:oS is with
   | none=>rw[e]at h;cases h
   | some cs=>
    rw[e]at h;cases h;obtain⟨x,r',rfl,h1,h2⟩:=r.cons_inv;rw[RpI]at h1;rw[h1,ih e h2];rfl
  | _=>simp[oS]at h
noncomputable def j7:T->List T->Option T
 | .im (.str z),[.li is]=>match oS is with
  | some zs=>if(zs.map (·.length)).sum+zs.length*z.length<=16777216 then some (.im (.str (Ng z zs)))else none
  | none=>none
 | _,_=>none
theorem sH:tJ K "str" (zY K) j7:=by
 intro H x vs tx ts t Q rx r e q;unfold j7 at e;split at e
 ·rename_i z is;split at e
  ·rename_i zs hz;split at e
   ·cases e;obtain⟨v,rfl,r1⟩:=k9 r;obtain⟨p,xs,rfl,h1,h2⟩:=bE r1;have:=zh hz h2;subst this;rw[cZ rx];exact⟨z,p,zs,rfl,rfl,aP h1,by assumption,q _ H (.sc rfl)⟩
   ·cases e
  ·cases e
 ·cases e
end
section
variable {Γ:Gm}{H H':Hp}{X:List En}{e:En}{O:Rho}{Z:St}{E:List En}{v:V}{t:T}{K:yF}
theorem Sim.partN(S:Sim Γ H O Z E)(sm:K7 H H'){s:T}(he:e∈E){ro:Option Nat}{p:Option (List Ac)}(ho:e.r.k=.vw ro p){P:V->Prop}(hp:∀F,Rp Γ.K H e.r.t e.v F->∃w G,P w/\Rp Γ.K H' s w G/\∀a∈G,a∈F\/H a=none):∃w,P w/\Sim Γ H' O Z (⟨none,w,⟨.vw ro none,s⟩⟩::E):=by
 obtain⟨L,g,hL⟩:=S.sl;have he':e∈L.map (·.e):=by rw[hL];exact yaL _ he
 obtain⟨h,hh,rfl⟩:=GB.mp he';obtain⟨w,G,h1,h2,h3⟩:=hp h.F (g.rp h hh);have own:∀a,H a=none->a∉L.flatMap Hd.own:=λa ha z=>by
  obtain⟨o,e,_⟩:=(g.ad a z).1;rw[ha]at e;cases e
 have g':GW Γ H' L:=by
  have:=g.step (hs:=[]) (L:=L) (H':=H') (by simp) (by simp) (sm.offM _) (by simp) (key:=none) (v:=.non) (r:=⟨.ow,.im .non⟩) (F:=[]) HN (by simp) (hC (by rw[RpI])) (.inl ⟨rfl,by simp⟩) (λj hj=>by cases hj);exact this.drop rfl
 refine⟨w,h1,⟨⟨_,g'.push (v:=w) (r:=⟨.vw ro none,s⟩) (F:=G) h2 ?_ (.inl rfl),by rw[Gs,hL];rfl⟩,S.al,S.len,λx hx j hj=>?_⟩⟩
 ·have k:=g'.kd h hh;unfold K2 at k|-;rw[ho]at k;cases ro with
  | none=>exact λa ha=>(h3 a ha).elim (k a) (own a)
  | some j=>
   obtain⟨x,x1,x2,x3,x4,x5⟩:=k;exact⟨x,x1,x2,x3,λa ha=>(h3 a ha).elim (x4 a) (λz=>.inr (own a z)),λq hq=>by cases hq⟩
 ·rcases ycM hx with rfl|hx;cases hj;exact S.hi x hx j hj
theorem wo:∀{ts:List T} {xs:List V} {F:List Addr},Rps K H ts xs F->∃hs:List Hd,hs.map (·.e)=bc xs ts/\hs.flatMap (·.F)=F/\∀h∈hs,Rp K H h.e.r.t h.e.v h.F/\h.e.r.k=.ow/\h.e.key=none/\∀a∈h.F,a∈F
 | [],xs,F,r=>by
  obtain⟨rfl,rfl⟩:=r.nil_inv;exact⟨[],rfl,rfl,by simp⟩
 | t::ts,xs,F,r=>by
  obtain⟨y,r',F1,F2,rfl,r1,r2,rfl⟩:=r.cons_inv;obtain⟨hs,h1,h2,h3⟩:=wo r2;refine⟨⟨⟨none,y,⟨.ow,t⟩⟩,F1⟩::hs,by rw[Gs,h1];rfl,by rw[GH,h2],λh hh=>?_⟩;rcases ycM hh with rfl|hh;exact⟨r1,rfl,rfl,λa ha=>yaL _ ha⟩
  ·obtain⟨a,b,c,d⟩:=h3 h hh;exact⟨a,b,c,λx hx=>yaR _ (d x hx)⟩
theorem Sim.split{ts:List T}(S:Sim Γ H O Z (⟨none,v,⟨.ow,.tup ts⟩⟩::E)):∃a xs,v=.ref a/\SqT Γ.K H a xs/\xs.length=ts.length/\Sim Γ H O Z (bc xs ts++E):=by
 obtain⟨L,g,h⟩:=S.sl;rw[G7]at h;obtain⟨x,L',rfl,h1,h2⟩:=aK h;have rp:=g.rp x ymS;rw[h1,Rp]at rp;obtain⟨a,xs,ev,hq,rps⟩:=rp;have k0:=g.kd x ymS;unfold K2 at k0;rw[h1]at k0;have eo:x.own=x.F:=by unfold Hd.own;rw[h1];rfl
 obtain⟨hs,e1,e2,e3⟩:=wo rps;have ho:∀h∈hs,h.e.r.k.isOw=true:=λh hh=>by rw[(e3 h hh).2.1];rfl
 have eown:(hs++L').flatMap Hd.own=(x::L').flatMap Hd.own:=by rw[GJ,GH,gb ho,e2,eo]
 refine⟨a,xs,ev,hq,rps.length,⟨⟨hs++L',⟨?_,?_,λy hy=>?_,λy hy=>?_,?_,g.fr,g.iol⟩,?_⟩,S.al,S.len,λy hy j hj=>?_⟩⟩;rw[eown];exact g.nd;rw[eown];exact g.ad
 ·rcases yaM hy with hy|hy;exact(e3 y hy).1;exact g.rp y (ymC _ hy)
 ·rcases yaM hy with hy|hy
  ·unfold K2;rw[(e3 y hy).2.1];exact λb hb=>k0 b ((e3 y hy).2.2.2 b hb)
  ·have k:=g.kd y (ymC _ hy);unfold K2 at k|-;split at k;exact k;exact k;rw[eown];exact k
   ·obtain⟨z,z1,z2,z3,z4,z5⟩:=k;rcases ycM z1 with rfl|z1;rw[h1]at z2;cases z2;exact⟨z,yaR _ z1,z2,z3,by rw[eown];exact z4,z5⟩
 ·have ks:=g.ks;rw[GS,h1]at ks;rw[GV,List.filterMap_eq_nil_iff.mpr λy hy=>(e3 y hy).2.2.1];exact ks
 ·rw[GA,e1,h2,GK]
 ·rcases yaM hy with hy|hy
  ·have:∀{xs:List V} {ts:List T},y∈bc xs ts->y.key=none:=by
    intro xs
    induction xs with
    | nil=>intro ts h;cases ts<;>cases h
    | cons x xs ih=>
     intro ts h;cases ts with
     | nil=>cases h
     | cons t ts=>
      rcases ycM h with rfl|h;rfl;exact ih h
   rw[this hy]at hj;cases hj
  ·exact S.hi y (ymC _ hy) j hj
noncomputable def partV(ro:Option Nat):T->R
 | .im i=>⟨.ow,.im i⟩
 | t=>⟨.vw ro none,t⟩
noncomputable def parts:R->Option (List R)
 | ⟨_,.im (.tup is)⟩=>some (is.map λi=>⟨.ow,.im i⟩)
 | ⟨.ow,.tup ts⟩=>some (ts.map λt=>⟨.ow,t⟩)
 | ⟨.vw ro _,.tup ts⟩=>some (ts.map (partV ro))
 | _=>none
theorem l5:∀{xs:List V} {ts:List T},bc xs ts=ens xs (ts.map λt=>⟨.ow,t⟩)
 | [],ts=>by cases ts<;>rfl
 | x::xs,[]=>rfl
 | x::xs,t::ts=>by rw[bc,Gs,ens,l5]
theorem Sim.imms:∀{is:List I} {xs:List V} {E:List En},Sim Γ H O Z E->KS Γ.K H is xs->Sim Γ H O Z (ens xs (is.map λi=>⟨.ow,.im i⟩)++E)
 | [],xs,E,S,r=>by obtain rfl:=r.nil_inv;exact S
 | i::is,xs,E,S,r=>by
  obtain⟨x,r',rfl,h1,h2⟩:=r.cons_inv;rw[Gs,ens,G7];exact(Sim.imms S h2).imm h1
theorem Sim.parts{r:R}{rs:List R}(S:Sim Γ H O Z (⟨none,v,r⟩::E))(h:L2.parts r=some rs):∃a xs,v=.ref a/\SqT Γ.K H a xs/\xs.length=rs.length/\Sim Γ H O Z (ens xs rs++E):=by
 unfold L2.parts at h;split at h
 ·rename_i k is;cases h;obtain⟨F,r⟩:=S.rd ymS;obtain⟨a,xs,e,hq,hr⟩:=bA ⟨F,r⟩;exact⟨a,xs,e,hq,by rw[hr.length,Gv],(S.drop rfl).imms hr⟩
 ·rename_i ts;cases h;obtain⟨a,xs,e,hq,hl,S2⟩:=S.split;rw[l5]at S2;exact⟨a,xs,e,hq,by rw[hl,Gv],S2⟩
 ·rename_i ro p ts;cases h;obtain⟨F,r⟩:=S.rd ymS;obtain⟨a,xs,G,e,hq,hr⟩:=nt ⟨F,r⟩;obtain⟨L,g,hL⟩:=S.sl;rw[G7]at hL;obtain⟨x,L',rfl,h1,h2⟩:=aK hL;have rp:=g.rp x ymS;rw[h1,Rp]at rp;obtain⟨a',xs',ev,hq',rps⟩:=rp;have S3:Sim Γ H O Z (ens xs' (ts.map (partV ro))++E):=by
   have go:∀(ts:List T) (xs:List V) (G:List Addr),Rps Γ.K H ts xs G->(∀a∈G,a∈x.F)->∃L1,GW Γ H (L1++x::L')/\L1.map (·.e)=ens xs (ts.map (partV ro))/\∀h∈L1,h.e.key=none:=by
    intro ts
    induction ts with
    | nil=>intro xs G r _;obtain⟨rfl,rfl⟩:=r.nil_inv;exact⟨[],g,rfl,by simp⟩
    | cons t ts ih=>
     intro xs G r hG;obtain⟨y,r',F1,F2,rfl,r1,r2,rfl⟩:=r.cons_inv;obtain⟨L1,g1,e1,e2⟩:=ih r' F2 r2 λa ha=>hG a (yaR _ ha);have kx:=g1.kd x (yaR _ ymS);unfold K2 at kx;rw[h1]at kx;have key:∃h:Hd,GW Γ H (h::(L1++x::L'))/\h.e=⟨none,y,partV ro t⟩:=by
      have vw:GW Γ H (⟨⟨none,y,⟨.vw ro none,t⟩⟩,F1⟩::(L1++x::L')):=by
       refine g1.push (v:=y) (r:=⟨.vw ro none,t⟩) (F:=F1) r1 ?_ (.inl rfl);unfold K2;cases ro with
       | none=>exact λa ha=>kx a (hG a (yaL _ ha))
       | some j=>
        obtain⟨z,z1,z2,z3,z4,z5⟩:=kx;exact⟨z,z1,z2,z3,λa ha=>z4 a (hG a (yaL _ ha)),λq hq=>by cases hq⟩
      cases t with
      | im i=>exact⟨_,g1.push (v:=y) (r:=⟨.ow,.im i⟩) (F:=[]) (hC (aZ r1).1) (λa ha=>by cases ha) (.inr rfl),rfl⟩
      | _=>exact⟨_,vw,rfl⟩
     obtain⟨h,gh,eh⟩:=key;refine⟨h::L1,gh,by rw[Gs,eh,e1];rfl,λz hz=>?_⟩;rcases ycM hz with rfl|hz;rw[eh];exact e2 z hz
   obtain⟨L1,g1,e1,e2⟩:=go ts xs' x.F rps λa ha=>ha;have g2:GW Γ H (L1++L'):=by
    have p:(L1++x::L').Perm (x::(L1++L')):=Ha;exact(g1.perm p).drop (by rw[h1])
   refine⟨⟨_,g2,by rw[GA,e1,h2,GK]⟩,S.al,S.len,λy hy j hj=>?_⟩;rcases yaM hy with hy|hy
   ·rw[<-e1]at hy;obtain⟨z,hz,rfl⟩:=GB.mp hy;rw[e2 z hz]at hj;cases hj
   ·exact S.hi y (ymC _ hy) j hj
  exact⟨a',xs',ev,hq',by rw[rps.length,Gv],S3⟩
 ·cases h
@[irreducible] noncomputable def mGNil:MGs:=⟨λrs O=>match rs with
 | []=>some O
 | _=>none,[]⟩
@[irreducible] noncomputable def au(g:MG)(gs:MGs):MGs:=⟨λrs O=>match rs with
 | r::rs=>if rs.all (ax g.mu)=true then(match g.run r O with
  | some O1=>gs.run rs O1
  | none=>none)else none
 | []=>none,g.mu++gs.mu⟩
@[irreducible] noncomputable def bq(gs:MGs):MG:=⟨λr O=>match parts r with
 | some rs=>gs.run rs O
 | none=>none,gs.mu⟩
theorem vT:nI K AG mGNil:=by unhygienic
 intro Γ H O Z E Q vs rs O' hK hr hl S q;cases rs with
 | nil=>
  cases hr;have:vs=[]:=Il.mp hl;subst this;exact⟨rfl,q Z H (by rw[show mGNil.mu=[]from rfl,bL];exact S)⟩
 | cons _ _=>cases hr
theorem sR{g:TG}{gs:TGs}{m:MG}{ms:MGs}(h1:jP K g m)(h2:nI K gs ms):nI K (ua g gs) (au m ms):=by unhygienic
 intro Γ H O Z E Q vs rs O' hK hr hl S q;cases rs with
 | nil=>cases hr
 | cons r rs=>
  cases vs with
  | nil=>cases hl
  | cons v vs=>
   simp only[au]at hr q;split at hr
   ·rename_i al;split at hr
    ·rename_i O1 e1;refine⟨v,vs,rfl,?_⟩;rw[ens,G7]at S;refine h1 Γ H O Z _ _ v r O1 hK e1 S λZ1 H1 S1=>?_;rw[aO,i6 al]at S1;exact h2 Γ H1 O1 Z1 _ _ vs rs O' hK hr (by simpa using hl) S1 λZ2 H2 S2=>q Z2 H2 (by rw[<-ag];exact S2)
    ·cases hr
   ·cases hr
theorem vU{gs:TGs}{ms:MGs}{n:Nat}(h:nI K gs ms)(hn:∀rs O O',ms.run rs O=some O'->rs.length=n):jP K (xp K n gs) (bq ms):=by
 intro Γ H O Z E Q v r O' hK hr S q;simp only[bq]at hr q;split at hr
 ·rename_i rs e1;obtain⟨a,xs,e,hq,hl,S2⟩:=S.parts e1;rw[hK]at hq;exact⟨a,xs,e,hq,by rw[hl];exact hn _ _ _ hr,h Γ H O Z _ _ xs rs O' hK hr hl S2 q⟩
 ·cases hr
noncomputable def consL(mv:List Nat):List R->Rho->Option (List T×Rho)
 | [],O=>some ([],O)
 | ⟨.ow,t⟩::rs,O=>match consL mv rs O with
  | some (ts,O')=>some (t::ts,O')
  | none=>none
 | ⟨.vw (some i) (some []),t⟩::rs,O=>if(mv.contains i&&rs.all (ax [i]))=true then(match O[i]? with
  | some (some ⟨.ow,_⟩)=>(match consL mv rs ((aq [i] O).set i none)with
   | some (ts,O')=>some (t::ts,O')
   | none=>none)
  | _=>none)else none
 | _,_=>none
theorem Sim.consL{mv:List Nat}:∀{rs:List R} {vs:List V} {ts:List T} {O O':Rho} {A E:List En},Sim Γ H O Z (A++(ens vs rs++E))->vs.length=rs.length->L2.consL mv rs O=some (ts,O')->(∀e∈A,e.r.k=.ow/\e.key=none)->vs.length=ts.length/\Sim Γ H O' Z (A++(bc vs ts++ah mv E))
 | [],[],ts,O,O',A,E,S,_,h,hA=>by
  cases h;refine⟨rfl,?_⟩;have:=S.weak mv;rw[aO]at this;have ea:ah mv A=A:=HU.mpr λe he=>by unfold aF;rw[(hA e he).1];rfl
  rw[ea]at this;exact this
 | r::rs,v::vs,ts,O,O',A,E,S,hl,h,hA=>by
  rw[ens,G7]at S;obtain⟨k,t⟩:=r;cases k with
  | ow=>
   simp only[L2.consL]at h;split at h
   ·rename_i ts1 O1 e1;cases h;obtain⟨h1,S1⟩:=Sim.consL (rs:=rs) (vs:=vs) (A:=A++[⟨none,v,⟨.ow,t⟩⟩]) (E:=E) (by simpa using S) (by simpa using hl) e1 (λe he=>by
     rcases yaM he with he|he;exact hA e he;rw[ysM he];exact⟨rfl,rfl⟩)
    exact⟨by simp[h1],by rw[bc];simpa using S1⟩
   ·cases h
  | io n=>cases h
  | vw a b=>
   cases a with
   | none=>cases h
   | some i=>
    cases b with
    | none=>cases h
    | some p=>
     cases p with
     | cons _ _=>cases h
     | nil=>
      simp only[L2.consL]at h;split at h
      ·rename_i al;rw[Gz]at al;split at h
       ·rename_i t1 h1;split at h
        ·rename_i ts1 O1 e1;cases h;have S0:Sim Γ H O Z (⟨none,v,⟨.vw (some i) (some []),t⟩⟩::(A++(ens vs rs++E))):=S.perm Ha;have S1:=S0.move h1;have ea:ah [i] A=A:=HU.mpr λe he=>by unfold aF;rw[(hA e he).1];rfl
         rw[aO,ea,aO,i6 al.2]at S1;obtain⟨h2,S2⟩:=Sim.consL (rs:=rs) (vs:=vs) (A:=A++[⟨none,v,⟨.ow,t⟩⟩]) (E:=ah [i] E) (S1.perm (by
          rw[GK];exact(Ha).symm)) (by simpa using hl) e1 (λe he=>by
          rcases yaM he with he|he;exact hA e he;rw[ysM he];exact⟨rfl,rfl⟩)
         refine⟨by simp[h2],?_⟩;rw[bc];have ek:ah mv (ah [i] E)=ah mv E:=by
          rw[ag];unfold ah;congr 1;funext e;rw[lw];by_cases hk:aF mv e=true
          ·rw[hk,JT];unfold aF at hk|-;split
           ·rename_i j hj;rw[hj]at hk;have:j≠i:=λz=>by subst z;simp at hk;exact hk (by simpa using al.1)
            simp[this]
           ·rfl
          ·rw[Ki]at hk;rw[hk,Kt]
         rw[ek]at S2;simpa using S2
        ·cases h
       ·cases h
      ·cases h
 | [],_::_,_,_,_,_,_,_,h,_,_=>by cases h
 | _::_,[],_,_,_,_,_,_,h,_,_=>by cases h
noncomputable def ims:List T->Option (List I)
 | []=>some []
 | .im i::ts=>(ims ts).map (i :: ·)
 | _=>none
theorem mJ:∀{ts:List T} {is:List I},ims ts=some is->ts=is.map T.im
 | [],is,h=>by cases h;rfl
 | .im i::ts,is,h=>by
  simp only[ims]at h;cases e:ims ts with
  | none=>rw[e]at h;cases h
  | some js=>rw[e]at h;cases h;rw[Gs,<-mJ e]
 | .tup _::_,_,h=>by cases h
 | .li _::_,_,h=>by cases h
 | .lst _::_,_,h=>by cases h
 | .di _::_,_,h=>by cases h
 | .dc _::_,_,h=>by cases h
 | .ins _ _::_,_,h=>by cases h
noncomputable def lJ(ts:List T):T:=match ims ts with
 | some is=>.im (.tup is)
 | none=>.tup ts
noncomputable def bT(ts:List T):T:=match ims ts with
 | some is=>.li is
 | none=>.lst ts
@[irreducible] noncomputable def ar(mv:List Nat)(a:MA):ME:=⟨λO=>match a.run O with
 | some (rs,O1)=>if rs.length<=1000 then(match consL mv rs O1 with
  | some (ts,O2)=>some (⟨.ow,lJ ts⟩,O2)
  | none=>none)else none
 | none=>none,a.mu++mv⟩
@[irreducible] noncomputable def aS(mv:List Nat)(a:MA):ME:=⟨λO=>match a.run O with
 | some (rs,O1)=>if rs.length<=1000 then(match consL mv rs O1 with
  | some (ts,O2)=>some (⟨.ow,bT ts⟩,O2)
  | none=>none)else none
 | none=>none,a.mu++mv⟩
theorem wx{n:Nat}(h:n<=1000):n<=sizeLine:=by rw[LG];omega
theorem wf{ta:TA}{a:MA}{mv:List Nat}(ha:eK K ta a):aT K (Fu ta) (ar mv a):=by
 intro Γ H O Z E Q r O' hK hr S q;simp only[ar]at hr q;split at hr
 ·rename_i rs O1 e1;split at hr
  ·rename_i hz;split at hr
   ·rename_i ts O2 e2;cases hr;refine ha Γ H O Z E _ rs O1 hK e1 S λvs H1 hl S1=>⟨by rw[hl];exact wx hz,λp hp=>?_⟩;obtain⟨hl2,S2⟩:=Sim.consL (A:=[]) (by simpa using S1) hl e2 (by simp);rw[Hn,ag]at S2;obtain⟨F,h1,h2,h3,h4⟩:=S2.use hl2;have sm:=K7.laid (o:=.tup vs) hp;refine q _ _ (h4 _ (.ref p) (lJ ts) F (sm.offM _) (λa ha=>let ⟨o,e,_⟩:=h3 a ha;⟨o,sm a o e⟩) h2 (λa ha=>⟨.inl ha,let ⟨o,e,m⟩:=h3 a ha;⟨o,sm a o e,m⟩⟩) ?_);unfold lJ;split
    ·rename_i is hi;rw[mJ hi]at h1;obtain⟨h5,h6⟩:=Rps.ims.mp h1;subst h6;refine hC ?_;rw[RpI];exact⟨p,vs,rfl,SqT.of av,h5.same sm⟩
    ·rw[Rp];exact⟨p,vs,rfl,SqT.of av,h1.same sm⟩
   ·cases hr
  ·cases hr
 ·cases hr
theorem vV{ta:TA}{a:MA}{mv:List Nat}(ha:eK K ta a):aT K (Fm ta) (aS mv a):=by
 intro Γ H O Z E Q r O' hK hr S q;simp only[aS]at hr q;split at hr
 ·rename_i rs O1 e1;split at hr
  ·rename_i hz;split at hr
   ·rename_i ts O2 e2;cases hr;refine ha Γ H O Z E _ rs O1 hK e1 S λvs H1 hl S1=>⟨by rw[hl];exact wx hz,λp hp=>?_⟩;obtain⟨hl2,S2⟩:=Sim.consL (A:=[]) (by simpa using S1) hl e2 (by simp);rw[Hn,ag]at S2;obtain⟨F,h1,h2,h3,h4⟩:=S2.use hl2;have sm:=K7.laid (o:=.lst vs) hp;have np:p∉F:=λz=>by obtain⟨o,e,_⟩:=h3 p z;rw[hp]at e;cases e
    refine q _ _ (h4 _ (.ref p) (bT ts) (p::F) (sm.offM _) (λa ha=>let ⟨o,e,_⟩:=h3 a ha;⟨o,sm a o e⟩) (G3.mpr ⟨np,h2⟩) (λa ha=>?_) ?_)
    ·rcases ycM ha with rfl|ha;exact⟨.inr hp,_,av,rfl⟩;exact⟨.inl ha,let ⟨o,e,m⟩:=h3 a ha;⟨o,sm a o e,m⟩⟩
    ·unfold bT;split
     ·rename_i is hi;rw[mJ hi]at h1;obtain⟨h5,h6⟩:=Rps.ims.mp h1;subst h6;rw[Rp];exact⟨p,vs,rfl,.inl av,h5.same sm,rfl⟩
     ·rw[Rp];exact⟨p,vs,F,rfl,.inl av,h1.same sm,rfl⟩
   ·cases hr
  ·cases hr
 ·cases hr
end
section
variable {Γ:Gm}{H H':Hp}{O:Rho}{Z:St}{E:List En}{v x y:V}{t:T}{K:yF}{Q:VK}
noncomputable def ixK:Kd->Option Ac->Option Kd
 | .ow,_=>some .ow
 | .io _,_=>none
 | .vw (some r) (some p),some a=>some (.vw (some r) (some (p++[a])))
 | .vw ro _,_=>some (.vw ro none)
noncomputable def ixP(k:Kd) (a:Option Ac):T->Option R
 | .im i=>some ⟨.ow,.im i⟩
 | t=>match ixK k a with
  | some k'=>some ⟨k',t⟩
  | none=>none
noncomputable def ixI(i:I) (n:Int):Option R:=match i with
 | .tup is=>(atI is n).map λi=>⟨.ow,.im i⟩
 | .str z=>if z.length<=sizeLine then(atI (sL z) n).map λc=>⟨.ow,.im (.str ⟨#[c]⟩)⟩else none
 | _=>none
noncomputable def ixX(k:Kd) (t:T) (n:Int):Option R:=match t with
 | .im i=>ixI i n
 | .li is=>(atI is n).map λi=>⟨.ow,.im i⟩
 | .lst ts=>(match ixN ts.length n with
  | some j=>(ts[j]?).bind (ixP k (some (.ix j)))
  | none=>none)
 | .tup ts=>(match ixN ts.length n with
  | some j=>(ts[j]?).bind (ixP k none)
  | none=>none)
 | _=>none
@[irreducible] noncomputable def ixR(r:R)(t:T):Option R:=match isI t with
 | some n=>ixX r.k r.t n
 | none=>none
@[irreducible] noncomputable def mIx(a b:ME):ME:=⟨λO=>match a.run O with
 | some (ra,O1)=>match b.run O1 with
  | some (rb,O2)=>if ax b.mu ra=true then(match ixR ra rb.t with
   | some r=>some (r,O2)
   | none=>none)else none
  | none=>none
 | none=>none,a.mu++b.mu⟩
theorem nK{is:List I}{xs:List V}{n:Int}{i:I}(r:KS K H is xs)(e:atI is n=some i):∃w,atI xs n=some w/\RpI K H i w:=by
 unfold atI at e|-;rw[r.length];cases h:ixN is.length n with
 | none=>rw[h]at e;cases e
 | some j=>rw[h]at e;exact r.get e
theorem Sim.takeO{s:T}(S:Sim Γ H O Z (⟨none,x,⟨.ow,t⟩⟩::E)){P:V->Prop}(hp:∀F,Rp Γ.K H t x F->∃w A G B,P w/\Rp Γ.K H s w G/\F=A++G++B):∃w,P w/\Sim Γ H O Z (⟨none,w,⟨.ow,s⟩⟩::E):=by
 obtain⟨F,h1,h2,h3,h4⟩:=Sim.use (vs:=[x]) (ts:=[t]) S rfl;obtain⟨y,r',F1,F2,e,r1,r2,rfl⟩:=h1.cons_inv;cases e;have:=r2.nil_inv.2;subst this;rw[GZ]at h2 h3 h4;obtain⟨w,A,G,B,p,rg,rfl⟩:=hp F1 r1;have inF:∀a∈G,a∈A++G++B:=λa ha=>yaL _ (yaR _ ha);exact⟨w,p,h4 H w s G (KZ.refl _ _) (λa ha=>let ⟨o,e,_⟩:=h3 a ha;⟨o,e⟩) (Gy.mp (Gy.mp h2).1).2.1 (λa ha=>⟨.inl (inF a ha),h3 a (inF a ha)⟩) rg⟩
theorem o5{α:Type}{xs:List α}{n:Int}{j m:Nat}{w : α}(h:ixN m n=some j)(hl:xs.length=m)(hw:xs[j]?=some w):atI xs n=some w:=by
 unfold atI;rw[hl,h];exact hw
theorem Sim.ixL{k:Kd}{ts:List T}{s:T}{j:Nat}{n:Int}{r:R}(S:Sim Γ H O Z (⟨none,x,⟨k,.lst ts⟩⟩::E))(hn:ixN ts.length n=some j)(hj:ts[j]?=some s)(hr:L2.ixP k (some (.ix j)) s=some r) :
  ∃w,(∀Q:VK,Q w H->rIx Γ.K x (.int n) H Q)/\Sim Γ H O Z (⟨none,w,r⟩::E):=by
 have gen:∀F,Rp Γ.K H (.lst ts) x F->∃w A G B,(∀Q:VK,Q w H->rIx Γ.K x (.int n) H Q)/\Rp Γ.K H s w G/\F=A++G++B:=λF rp=>by
  rw[Rp]at rp;obtain⟨a,xs,F',rfl,h2,h3,rfl⟩:=rp;obtain⟨w,A,G,B,h4,h5,h6,_,_⟩:=h3.at hj;exact⟨w,a::A,G,B,λQ q=>.inl ⟨a,xs,n,w,rfl,rfl,aP h2,o5 hn h3.length h4,q⟩,h5,by rw[h6];simp⟩
 have hview:∀ro p,k=.vw ro p->∃w,(∀Q:VK,Q w H->rIx Γ.K x (.int n) H Q)/\Sim Γ H O Z (⟨none,w,⟨.vw ro none,s⟩⟩::E):=λro p hk=>by
  obtain⟨w,h1,S2⟩:=S.part (e:=⟨none,x,⟨k,.lst ts⟩⟩) ymS hk (P:=λw=>∀Q:VK,Q w H->rIx Γ.K x (.int n) H Q) (s:=s) (λF rp=>by
   obtain⟨w,A,G,B,h1,h2,h3⟩:=gen F rp;exact⟨w,G,h1,h2,λa ha=>by rw[h3];exact yaL _ (yaR _ ha)⟩)
  exact⟨w,h1,S2.swap.drop rfl⟩
 have main:∀k',ixK k (some (.ix j))=some k'->∃w,(∀Q:VK,Q w H->rIx Γ.K x (.int n) H Q)/\Sim Γ H O Z (⟨none,w,⟨k',s⟩⟩::E):=λk' hk'=>by
  cases k with
  | ow=>
   cases hk';exact S.takeO gen
  | io m=>cases hk'
  | vw ro p=>
   cases ro with
   | none=>
    cases hk';exact hview none p rfl
   | some i=>
    cases p with
    | none=>cases hk';exact hview (some i) none rfl
    | some p=>
     cases hk';obtain⟨w,h1,S2⟩:=S.partP (e:=⟨none,x,⟨.vw (some i) (some p),.lst ts⟩⟩) ymS rfl (a:=.ix j) (s:=s) hj;refine⟨w,λQ q=>?_,S2.swap.drop rfl⟩;obtain⟨F,rp⟩:=S.rd ymS;obtain⟨a,xs,G,e1,h2,h3⟩:=gk ⟨F,rp⟩;obtain⟨a',xs',e2,g1,g2⟩:=h1;have e1':x=.ref a:=e1;have e2':x=.ref a':=e2;rw[e1']at e2';cases e2';have e3:xs'=xs:=by
      rcases h2 with h2|⟨o,h2⟩;rw[h2]at g1;cases g1;rfl;rw[h2]at g1;cases g1
     subst e3;rw[e1'];exact .inl ⟨a,xs',n,w,rfl,rfl,SqL.of g1,o5 hn h3.length g2,q⟩
 cases s with
 | im i=>
  cases hr;obtain⟨F,rp⟩:=S.rd ymS;obtain⟨w,A,G,B,h1,h2,_⟩:=gen F rp;exact⟨w,h1,(S.drop rfl).imm (aZ h2).1⟩
 | _=>
  simp only[L2.ixP]at hr;split at hr;rename_i k' e;cases hr;exact main k' e;cases hr
theorem Sim.ixT{k:Kd}{ts:List T}{s:T}{j:Nat}{n:Int}{r:R}(S:Sim Γ H O Z (⟨none,x,⟨k,.tup ts⟩⟩::E))(hn:ixN ts.length n=some j)(hj:ts[j]?=some s)(hr:L2.ixP k none s=some r) :
  ∃w,(∀Q:VK,Q w H->rIx Γ.K x (.int n) H Q)/\Sim Γ H O Z (⟨none,w,r⟩::E):=by
 have gen:∀F,Rp Γ.K H (.tup ts) x F->∃w A G B,(∀Q:VK,Q w H->rIx Γ.K x (.int n) H Q)/\Rp Γ.K H s w G/\F=A++G++B:=λF rp=>by
  rw[Rp]at rp;obtain⟨a,xs,rfl,h2,h3⟩:=rp;obtain⟨w,A,G,B,h4,h5,h6,_,_⟩:=h3.at hj;exact⟨w,A,G,B,λQ q=>.inr (.inl ⟨a,xs,n,w,rfl,rfl,h2,o5 hn h3.length h4,q⟩),h5,h6⟩
 have main:∀k',ixK k none=some k'->∃w,(∀Q:VK,Q w H->rIx Γ.K x (.int n) H Q)/\Sim Γ H O Z (⟨none,w,⟨k',s⟩⟩::E):=λk' hk'=>by
  cases k with
  | ow=>
   cases hk';exact S.takeO gen
  | io m=>cases hk'
  | vw ro p=>
   have hv:k'=.vw ro none:=by cases ro<;>cases p<;>cases hk'<;>rfl
   subst hv;obtain⟨w,h1,S2⟩:=S.part (e:=⟨none,x,⟨.vw ro p,.tup ts⟩⟩) ymS rfl (P:=λw=>∀Q:VK,Q w H->rIx Γ.K x (.int n) H Q) (s:=s) (λF rp=>by
    obtain⟨w,A,G,B,h1,h2,h3⟩:=gen F rp;exact⟨w,G,h1,h2,λa ha=>by rw[h3];exact yaL _ (yaR _ ha)⟩)
   exact⟨w,h1,S2.swap.drop rfl⟩
 cases s with
 | im i=>
  cases hr;obtain⟨F,rp⟩:=S.rd ymS;obtain⟨w,A,G,B,h1,h2,_⟩:=gen F rp;exact⟨w,h1,(S.drop rfl).imm (aZ h2).1⟩
 | _=>
  simp only[L2.ixP]at hr;split at hr;rename_i k' e;cases hr;exact main k' e;cases hr
theorem Sim.ixR{ra r:R}{tb:T}(h:L2.ixR ra tb=some r)(S:Sim Γ H O Z (⟨none,x,ra⟩::E))(ry:Rpx Γ.K H tb y):∃w,(∀Q:VK,Q w H->rIx Γ.K x y H Q)/\Sim Γ H O Z (⟨none,w,r⟩::E):=by
 have r1:Rpx Γ.K H ra.t x:=S.rd (e:=⟨none,x,ra⟩) ymS;unfold L2.ixR at h;split at h
 ·rename_i n en;cases dq en;obtain⟨k0,t0⟩:=ra;replace r1:Rpx Γ.K H t0 x:=r1;rw[aN ry];unfold ixX at h;dsimp only at h;split at h
  ·unfold ixI at h;split at h
   ·rename_i is;cases h0:atI is n with
    | none=>rw[h0]at h;cases h
    | some i=>
     rw[h0]at h;cases h;obtain⟨p,xs,ex,g1,g2⟩:=bA r1;obtain⟨w,h3,h4⟩:=nK g2 h0;exact⟨w,λQ q=>.inr (.inl ⟨p,xs,n,w,ex,rfl,g1,h3,q⟩),(S.drop rfl).imm h4⟩
   ·rename_i z;split at h
    ·rename_i hz;cases h0:atI (sL z) n with
     | none=>rw[h0]at h;cases h
     | some c=>
      rw[h0]at h;cases h;exact⟨_,λQ q=>.inr (.inr ⟨z,n,c,cZ r1,rfl,hz,h0,q⟩),(S.drop rfl).imm (iU rfl)⟩
    ·cases h
   ·cases h
  ·rename_i is;cases h0:atI is n with
   | none=>rw[h0]at h;cases h
   | some i=>
    rw[h0]at h;cases h;obtain⟨p,xs,ex,g1,g2⟩:=bE r1;obtain⟨w,h3,h4⟩:=nK g2 h0;exact⟨w,λQ q=>.inl ⟨p,xs,n,w,ex,rfl,aP g1,h3,q⟩,(S.drop rfl).imm h4⟩
  ·rename_i ts;split at h
   ·rename_i j hj;cases h0:ts[j]? with
    | none=>rw[h0]at h;cases h
    | some s=>
     rw[h0]at h;exact S.ixL hj h0 h
   ·cases h
  ·rename_i ts;split at h
   ·rename_i j hj;cases h0:ts[j]? with
    | none=>rw[h0]at h;cases h
    | some s=>
     rw[h0]at h;exact S.ixT hj h0 h
   ·cases h
  ·cases h
 ·cases h
theorem CP{ta tb:TE}{a b:ME}(ha:aT K ta a)(hb:aT K tb b):aT K (tOp (rIx K) ta tb) (mIx a b):=by unhygienic
 intro Γ H O Z E Q r O' hK hr S q;simp only[mIx]at hr;split at hr
 ·rename_i ra O1 e1;split at hr
  ·rename_i rb O2 e2;split at hr
   ·rename_i al;split at hr
    ·rename_i r0 e3;cases hr;refine ha Γ H O Z E _ ra O1 hK e1 S λx H1 S1=>?_;refine hb Γ H1 O1 Z _ _ rb _ hK e2 S1 λy H2 S2=>?_;rw[az (bj al),ag]at S2;have r2:=S2.rd ymS;obtain⟨w,h1,S4⟩:=Sim.ixR e3 (S2.drop rfl) r2;rw[<-hK];exact h1 Q (q w _ S4)
    ·cases hr
   ·cases hr
  ·cases hr
 ·cases hr
structure MO where
 run:Rho->Option (Option Int×Rho)
 mu:List Nat
def tK(K:yF)(to:TO)(m:MO):Prop:=∀(Γ:Gm) (H:Hp) (O:Rho) (Z:St) (E:List En) (Q:Option Int->Hp->Prop) (o:Option Int) (O':Rho),Γ.K=K->m.run O=some (o,O')->Sim Γ H O Z E->(∀H',Sim Γ H' O' Z (ah m.mu E)->Q o H')->to Z H Q
@[irreducible] noncomputable def mNoPart:MO:=⟨λO=>some (none,O),[]⟩
@[irreducible] noncomputable def dH(a:ME):MO:=⟨λO=>match a.run O with
 | some (⟨_,.im (.int n)⟩,O1)=>some (some n,O1)
 | _=>none,a.mu⟩
theorem pQ:tK K re mNoPart:=by unhygienic
 intro Γ H O Z E Q o O' hK hr S q;cases hr;exact q H (by rw[show mNoPart.mu=[]from rfl,bL];exact S)
theorem wb{ta:TE}{a:ME}(ha:aT K ta a):tK K (rf ta) (dH a):=by unhygienic
 intro Γ H O Z E Q o O' hK hr S q;simp only[dH]at hr;split at hr
 ·rename_i k n O1 e1;cases hr;exact ha Γ H O Z E _ _ _ hK e1 S λx H1 S1=>⟨n,aN (S1.rd ymS),q H1 (S1.drop rfl)⟩
 ·cases hr
theorem KS.cut{is:List I}{xs:List V}(r:KS K H is xs)(lo hi:Option Int):KS K H (ca is lo hi) (jV xs lo hi):=by
 unfold ca jV;rw[r.length];exact(r.drop _).take _
theorem Rps.cut{ts:List T}{xs:List V}{F:List Addr}(r:Rps K H ts xs F)(lo hi:Option Int):∃A G B,Rps K H (ca ts lo hi) (jV xs lo hi) G/\F=A++G++B:=by
 unfold ca jV;rw[r.length];obtain⟨A,G1,h1,h2,rfl⟩:=r.take (HT.sIx ts.length 0 lo);obtain⟨G,B,h3,h4,rfl⟩:=h2.take (HT.sIx ts.length ts.length hi-HT.sIx ts.length 0 lo);exact⟨A,G,B,h3,by simp⟩
noncomputable def slI(i:I) (lo hi:Option Int):Option R:=match i with
 | .tup is=>if HT.sIx is.length 0 lo=0/\HT.sIx is.length is.length hi=is.length then none else some ⟨.ow,.im (.tup (ca is lo hi))⟩
 | .str z=>if z.length<=sizeLine then some ⟨.ow,.im (.str (oL (ca (sL z) lo hi)))⟩else none
 | _=>none
noncomputable def slX(k:Kd) (t:T) (lo hi:Option Int):Option R:=match t with
 | .li is=>some ⟨.ow,.li (ca is lo hi)⟩
 | .im i=>slI i lo hi
 | .lst ts=>(match k with
  | .vw ro _=>some ⟨.vw ro none,.lst (ca ts lo hi)⟩
  | _=>none)
 | _=>none
@[irreducible] noncomputable def slR(r:R)(lo hi:Option Int):Option R:=slX r.k r.t lo hi
@[irreducible] noncomputable def mSl(a:ME)(lo hi:MO):ME:=⟨λO=>match a.run O with
 | some (ra,O1)=>match lo.run O1 with
  | some (l,O2)=>match hi.run O2 with
   | some (h,O3)=>if ax (lo.mu++hi.mu) ra=true then(match slR ra l h with
    | some r=>some (r,O3)
    | none=>none)else none
   | none=>none
  | none=>none
 | none=>none,a.mu++(lo.mu++hi.mu)⟩
theorem CS{ta:TE}{tl th:TO}{a:ME}{lo hi:MO}(ha:aT K ta a)(hl:tK K tl lo)(hh:tK K th hi):aT K (tSl (rSl K) ta tl th) (mSl a lo hi):=by unhygienic
 intro Γ H O Z E Q r O' hK hr S q;simp only[mSl]at hr;split at hr
 ·rename_i ra O1 e1;split at hr
  ·rename_i l O2 e2;split at hr
   ·rename_i h O3 e3;split at hr
    ·rename_i al;split at hr
     ·rename_i r0 e4;cases hr;refine ha Γ H O Z E _ ra O1 hK e1 S λx H1 S1=>?_;refine hl Γ H1 O1 Z _ _ l _ hK e2 S1 λH2 S2=>?_;refine hh Γ H2 O2 Z _ _ h _ hK e3 S2 λH3 S3=>?_;rw[ag,az (bj al),ag]at S3;have r1:=S3.rd ymS;unfold slR slX at e4;obtain⟨k0,t0⟩:=ra;replace r1:Rpx Γ.K H3 t0 x:=r1;dsimp only at e4;split at e4
      ·cases e4;obtain⟨p,xs,ex,g1,g2⟩:=bE r1;exact .inr (.inl ⟨p,xs,ex,aP g1,λp hp=>q _ _ ((S3.drop rfl).fresh (.li hp (g2.cut l h)))⟩)
      ·unfold slI at e4;split at e4
       ·rename_i is;split at e4;cases e4
        ·rename_i hw;cases e4;obtain⟨p,xs,ex,g1,g2⟩:=bA r1;rw[hK]at g1;exact .inl ⟨p,xs,ex,g1,by rw[g2.length];exact hw,λp hp=>q _ _ ((S3.drop rfl).fresh (.tup hp (g2.cut l h)))⟩
       ·split at e4
        ·rename_i hz;cases e4;exact .inr (.inr ⟨_,cZ r1,hz,q _ _ ((S3.drop rfl).imm (iU rfl))⟩)
        ·cases e4
       ·cases e4
      ·rename_i ts;split at e4
       ·rename_i ro p0;cases e4;obtain⟨p,xs,F,ex0,g1,g2⟩:=gk r1;have ex:x=.ref p:=ex0;refine .inr (.inl ⟨p,xs,ex,aP g1,λp' hp=>?_⟩);obtain⟨w,hw,S4⟩:=S3.partN (H':=upd H3 p' (.lst (jV xs l h))) (K7.laid hp) (s:=.lst (ca ts l h)) ymS rfl (P:=λw=>w=.ref p') (λF rp=>by
         have rp':Rp Γ.K H3 (.lst ts) x F:=rp;rw[Rp]at rp';obtain⟨a',xs',F',ex',g1',g2',rfl⟩:=rp';rw[ex]at ex';cases ex';have e3:xs'=xs:=by
          rcases g1 with g1|⟨o,g1⟩<;>rcases g1' with g1'|⟨o',g1'⟩<;>rw[g1]at g1'<;>cases g1'<;>rfl
         subst e3;obtain⟨A,G,B,g3,rfl⟩:=g2'.cut l h;refine⟨.ref p',p'::G,rfl,?_,λb hb=>?_⟩
         ·rw[Rp];exact⟨p',_,G,rfl,.inl av,g3.same (K7.laid hp),rfl⟩
         ·rcases ycM hb with rfl|hb;exact .inr hp;exact .inl (ymC _ (yaL _ (yaR _ hb))))
        subst hw;exact q _ _ (S4.swap.drop rfl)
       ·cases e4
      ·cases e4
     ·cases hr
    ·cases hr
   ·cases hr
  ·cases hr
 ·cases hr
@[irreducible] noncomputable def wg:T->Option T
 | .im (.tup is)=>some (.im (.tup is.reverse))
 | _=>none
theorem y0{ta:TE}{a:ME}(ha:aT K ta a):aT K (wB K ta) (mUn wg a):=by unhygienic
 intro Γ H O Z E Q r O' hK hr S q;simp only[mUn]at hr;split at hr
 ·rename_i ra O1 e1;split at hr
  ·rename_i t e2;cases hr;refine ha Γ H O Z E _ ra _ hK e1 S λx H1 S1=>?_;have r1:=S1.rd ymS;obtain⟨k,ta⟩:=ra;unfold wg at e2;split at e2
   ·rename_i is e0;cases e2;have e0':ta=.im (.tup is):=e0;subst e0';obtain⟨p,xs,ex,g1,g2⟩:=bA r1;rw[hK]at g1;exact⟨p,xs,ex,g1,λp hp=>q _ _ ((S1.drop rfl).fresh (.tup hp g2.reverse))⟩
   ·cases e2
  ·cases hr
 ·cases hr
def dk(K:yF)(red:V->List V->Hp->VK->Prop)(f:T->List T->Option (T×I)):Prop:=∀(H:Hp) (w:V) (vs:List V) (s:T) (ts:List T) (s':T) (i:I) (G F:List Addr) (Q:VK),Rp K H s w G->Rps K H ts vs F->(G++F).Nodup->(∀a∈G++F,Mu H a)->f s ts=some (s',i) ->
 (∀v H' G',KZ G H H'->(∀a∈G,∃o,H' a=some o)->G'.Nodup->(∀a∈G',(a∈G++F\/H a=none)/\Mu H' a)->Rp K H' s' w G'->RpI K H' i v->Q v H')->red w vs H Q
@[irreducible] noncomputable def mutR(i:Nat)(mv:List Nat)(f:T->List T->Option (T×I))(r0:R)(rs:List R)(O1:Rho):Option (R×Rho):=match r0 with
 | ⟨.vw (some j) (some p),s⟩=>if(decide (j=i) && !mv.contains i)=true then(match consL mv rs O1 with
  | some (ts,O2)=>(match f s ts with
   | some (s',res)=>(match O2[i]? with
    | some (some ⟨k,t⟩)=>if k.isOw=true then some (⟨.ow,.im res⟩,(aq [i] O2).set i (some ⟨k,t.put p s'⟩))else none
    | _=>none)
   | none=>none)
  | none=>none)else none
 | _=>none
theorem Sim.mutR{i:Nat}{mv:List Nat}{red:V->List V->Hp->VK->Prop}{f:T->List T->Option (T×I)}{r0:R}{rs:List R}{r:R}{O1 O':Rho}{vs:List V}(hK : Γ.K=K)(hp:dk K red f)(h:L2.mutR i mv f r0 rs O1=some (r,O'))(hl:vs.length=rs.length)(S:Sim Γ H O1 Z (ens vs rs++⟨none,x,r0⟩::E))(q:∀v H',Sim Γ H' O' Z (⟨none,v,r⟩::ah (mv++[i]) E)->Q v H'):red x vs H Q:=by
 unfold L2.mutR at h;split at h
 ·rename_i j p s;split at h
  ·rename_i hc;rw[Gz,decide_eq_true_eq,Hf]at hc;obtain⟨rfl,hmv⟩:=hc;split at h
   ·rename_i ts O2 e1;split at h
    ·rename_i s' res e2;split at h
     ·rename_i k t e3;split at h
      ·rename_i ho;cases h;obtain⟨hl2,S2⟩:=Sim.consL (A:=[]) (by simpa using S) hl e1 (by simp);rw[Hn,az (show aF mv ⟨none,x,⟨.vw (some j) (some p),s⟩⟩=true by unfold aF;simp only[Kd.root];rw[hmv];rfl)]at S2;obtain⟨G,F,h1,h2,h3,h4,h5⟩:=S2.mut hl2 e3 ho;rw[hK]at h1 h2;refine hp H x vs s ts s' res G F Q h1 h2 h3 h4 e2 λv H' G' a b c d e g=>q v H' ?_;rw[<-ag];rw[<-hK]at e g;exact(h5 H' s' G' a b c d e).imm g
      ·cases h
     ·cases h
    ·cases h
   ·cases h
  ·cases h
 ·cases h
@[irreducible] noncomputable def cF(i:Nat)(mv:List Nat)(f:T->List T->Option (T×I))(o:ME)(a:MA):ME:=⟨λO=>match o.run O with
 | some (r0,O0)=>match a.run O0 with
  | some (rs,O1)=>if ax a.mu r0=true then L2.mutR i mv f r0 rs O1 else none
  | none=>none
 | none=>none,(o.mu++a.mu)++(mv++[i])⟩
theorem yV{T0:String}{red:V->List V->Hp->VK->Prop}{f:T->List T->Option (T×I)}{i:Nat}{mv:List Nat}{to:TE}{ta:TA}{o:ME}{a:MA}(hp:dk K red f)(hty:∀(H:Hp) (x:V) (tx:T) ts r,Rpx K H tx x->f tx ts=some r->tyV K T0 x H)(ho:aT K to o)(ha:eK K ta a):aT K (tBM K T0 red to ta) (cF i mv f o a):=by
 intro Γ H O Z E Q r O' hK hr S q;simp only[cF]at hr q;split at hr
 ·rename_i r0 O0 e0;split at hr
  ·rename_i rs O1 e1;split at hr
   ·rename_i al;refine ho Γ H O Z E _ r0 _ hK e0 S λx H1 S1=>?_;have r0':=S1.rd ymS;rw[hK]at r0';refine⟨?_,?_⟩
    ·unfold L2.mutR at hr;split at hr
     ·split at hr
      ·split at hr
       ·split at hr;rename_i e2;exact hty H1 x _ _ _ r0' e2;cases hr
       ·cases hr
      ·cases hr
     ·cases hr
    ·refine ha Γ H1 O0 Z _ _ rs _ hK e1 S1 λvs H2 hl S2=>?_;rw[az (bj al),ag]at S2;exact Sim.mutR hK hp hr hl S2 λv H' S3=>q v H' (by rw[<-ag];exact S3)
   ·cases hr
  ·cases hr
 ·cases hr
@[irreducible] noncomputable def f8(i:Nat)(f:T->List T->Option (T×I))(o:ME):ME:=⟨λO=>match o.run O with
 | some (r0,O0)=>L2.mutR i [] f r0 [] O0
 | none=>none,o.mu++[i]⟩
theorem vW{T0:String}{red:V->List V->Hp->VK->Prop}{f:T->List T->Option (T×I)}{i:Nat}{to:TE}{o:ME}(hp:dk K red f)(hty:∀(H:Hp) (x:V) (tx:T) ts r,Rpx K H tx x->f tx ts=some r->tyV K T0 x H)(ho:aT K to o):aT K (C0 K T0 red to) (f8 i f o):=by
 intro Γ H O Z E Q r O' hK hr S q;simp only[f8]at hr q;split at hr
 ·rename_i r0 O0 e0;refine ho Γ H O Z E _ r0 _ hK e0 S λx H1 S1=>?_;have r0':=S1.rd ymS;rw[hK]at r0';refine⟨?_,?_⟩
  ·unfold L2.mutR at hr;split at hr
   ·split at hr
    ·split at hr
     ·split at hr;rename_i e2;exact hty H1 x _ _ _ r0' e2;cases hr
     ·cases hr
    ·cases hr
   ·cases hr
  ·exact Sim.mutR (vs:=[]) (mv:=[]) hK hp hr rfl S1 λv H' S3=>q v H' (by rw[<-ag];exact S3)
 ·cases hr
theorem km{is:List I}{w:V}{G:List Addr}(h:Rp K H (.li is) w G)(mu:∀a∈G,Mu H a):∃a xs,w=.ref a/\H a=some (.lst xs)/\KS K H is xs/\G=[a]:=by
 rw[Rp]at h;obtain⟨a,xs,h1,h2,h3,rfl⟩:=h;exact⟨a,xs,h1,(mu a ymS).lst h2,h3,rfl⟩
theorem A1{ts:List T}{w:V}{G:List Addr}(h:Rp K H (.lst ts) w G)(mu:∀a∈G,Mu H a):∃a xs F,w=.ref a/\H a=some (.lst xs)/\Rps K H ts xs F/\G=a::F:=by
 rw[Rp]at h;obtain⟨a,xs,F,h1,h2,h3,rfl⟩:=h;exact⟨a,xs,F,h1,(mu a ymS).lst h2,h3,rfl⟩
theorem ir{is':List I}{xs xs':List V}{a:Addr}{F:List Addr}{i:I}{v:V}(hH:H a=some (.lst xs))(hr:KS K H is' xs')(hi:RpI K H i v)
  (q:∀v H' G',KZ [a] H H'->(∀b∈[a],∃o,H' b=some o)->G'.Nodup->(∀b∈G',(b∈[a]++F\/H b=none)/\Mu H' b)->Rp K H' (.li is') (.ref a) G'->RpI K H' i v->Q v H'):Q v (upd H a (.lst xs')):=by
 have hM:∀b∈[a],Mu H b:=λb hb=>by rw[ysM hb];exact⟨_,hH,rfl⟩
 refine q v _ [a] KZ.upd (λb hb=>by rw[ysM hb];exact⟨_,av⟩) (by simp) (λb hb=>?_) ?_ (hi.off KZ.upd hM);rw[ysM hb];exact⟨.inl (by simp),_,av,rfl⟩;rw[Rp];exact⟨a,xs',rfl,.inl av,hr.off KZ.upd hM,rfl⟩
theorem rm{ts':List T}{xs xs':List V}{a:Addr}{G F F':List Addr}{i:I}{v:V}(hH:H a=some (.lst xs))(nd:(a::F').Nodup)(mu:∀b∈F',Mu H b)(hF:∀b∈F',b∈(a::G)++F)(hr:Rps K H ts' xs' F')(hi:RpI K H i v)
  (q:∀v H' G',KZ (a::G) H H'->(∀b∈a::G,∃o,H' b=some o)->G'.Nodup->(∀b∈G',(b∈(a::G)++F\/H b=none)/\Mu H' b)->Rp K H' (.lst ts') (.ref a) G'->RpI K H' i v->Q v H') (dG:∀b∈G,∃o,H b=some o):Q v (upd H a (.lst xs')):=by
 have hM:∀b∈[a],Mu H b:=λb hb=>by rw[ysM hb];exact⟨_,hH,rfl⟩
 have na:∀b∈F',b≠a:=λb hb z=>(G3.mp nd).1 (z▸hb);refine q v _ (a::F') (KZ.upd.mono λb hb=>by rw[ysM hb];exact ymS) (λb hb=>?_) nd (λb hb=>?_) ?_ (hi.off KZ.upd hM)
 ·by_cases e:b=a;subst e;exact⟨_,av⟩
  ·rcases ycM hb with z|z;exact absurd z e;obtain⟨o,h⟩:=dG b z;exact⟨o,by rw[upd_ne e];exact h⟩
 ·rcases ycM hb with rfl|hb;exact⟨.inl (by simp),_,av,rfl⟩
  ·refine⟨.inl (hF b hb),?_⟩;obtain⟨o,h,m⟩:=mu b hb;exact⟨o,by rw[upd_ne (na b hb)];exact h,m⟩
 ·rw[Rp];refine⟨a,xs',F',rfl,.inl av,hr.off KZ.upd hM (λb hb z=>na b hb (ysM z)),rfl⟩
noncomputable def ap1(s t:T):Option (T×I):=match s with
 | .li is=>(match t with
  | .im i=>if is.length<sizeLine then some (.li (is++[i]),.non)else none
  | _=>if is.length<sizeLine then some (.lst (is.map .im++[t]),.non)else none)
 | .lst ts=>if ts.length<sizeLine then some (.lst (ts++[t]),.non)else none
 | _=>none
@[irreducible] noncomputable def apT(s:T)(ts:List T):Option (T×I):=l1 (ap1 s) ts
theorem sW{t:T}{vs:List V}{F:List Addr}(h:Rps K H [t] vs F):∃v,vs=[v]/\Rp K H t v F:=by
 obtain⟨v,r,F1,F2,rfl,h1,h2,rfl⟩:=h.cons_inv;obtain⟨rfl,rfl⟩:=h2.nil_inv;exact⟨v,rfl,by rw[GZ];exact h1⟩
theorem Gg{t u:T}{vs:List V}{F:List Addr}(h:Rps K H [t,u] vs F):∃v w F1 F2,vs=[v,w]/\Rp K H t v F1/\Rp K H u w F2/\F=F1++F2:=by
 obtain⟨v,r,F1,F2,rfl,h1,h2,rfl⟩:=h.cons_inv;obtain⟨w,rfl,h3⟩:=sW h2;exact⟨v,w,F1,F2,rfl,h1,h3,rfl⟩
theorem bM:RpI K H .non .non:=by rw[RpI]
theorem ou:dk K m9 apT:=by
 intro H w vs s ts s' i G F Q rw0 rs nd mu e q;unfold apT at e;have e0:=cW e;clear e;obtain⟨tt,rfl,e⟩:=e0;obtain⟨y,rfl,h3⟩:=sW rs;unfold ap1 at e;split at e
 ·rename_i is;obtain⟨a,xs,rfl,h1,h2,rfl⟩:=km rw0 λa ha=>mu a (yaL _ ha);split at e
  ·obtain⟨hz,e⟩:=aQ e;cases e;exact⟨a,xs,y,rfl,rfl,h1,by rw[h2.length];exact hz,ir h1 (h2.append (.one (aZ h3).1)) bM q⟩
  ·obtain⟨hz,e⟩:=aQ e;cases e;refine⟨a,xs,y,rfl,rfl,h1,by rw[h2.length];exact hz,rm (G:=[]) (F:=F) (F':=F) h1 nd (λb hb=>mu b (yaR _ hb)) (λb hb=>yaR _ hb) ?_ bM q (by simp)⟩;have:=Rps.append (Rps.ims.mpr ⟨h2,rfl⟩) (Rps.cons h3 Rps.nil);simpa using this
 ·obtain⟨hz,e⟩:=aQ e;cases e;obtain⟨a,xs,F0,rfl,h1,h2,rfl⟩:=A1 rw0 λa ha=>mu a (yaL _ ha);have mm:∀b∈F0++F,b∈(a::F0)++F:=λb hb=>(yaM hb).elim (λz=>yaL _ (ymC _ z)) λz=>yaR _ z;refine⟨a,xs,y,rfl,rfl,h1,by rw[h2.length];exact hz,rm (G:=F0) (F:=F) (F':=F0++F) h1 (by simpa using nd) (λb hb=>mu b (mm b hb)) mm ?_ bM q (λb hb=>h2.dom b hb)⟩;have:=Rps.append h2 (Rps.cons h3 Rps.nil);simpa using this
 ·cases e
theorem rl{is:List I}{x:V}(h:Rpx K H (.li is) x):tyV K "list" x H:=by
 obtain⟨a,xs,rfl,h1,h2⟩:=bE h;exact .inl ⟨rfl,xs,aP h1⟩
theorem C3{is:List T}{x:V}(h:Rpx K H (.lst is) x):tyV K "list" x H:=by
 obtain⟨a,xs,F,rfl,h1,h2⟩:=gk h;exact .inl ⟨rfl,xs,aP h1⟩
theorem tq(H:Hp)(x:V)(tx:T)(ts:List T)(r:T×I)(h:Rpx K H tx x)(e:apT tx ts=some r):tyV K "list" x H:=by
 unfold apT at e;obtain⟨t,_,e⟩:=cW e;unfold ap1 at e;split at e;exact rl h;exact C3 h;cases e
noncomputable def AB(s t:T):Option (T×I):=match ug s with
 | some is=>(match ug t with
  | some js=>if is.length+js.length<=sizeLine then some (.li (is++js),.non)else none
  | none=>(match uh t with
   | some js=>if is.length+js.length<=sizeLine then some (.li (is++js),.non)else none
   | none=>none))
 | none=>none
@[irreducible] noncomputable def pi(s:T)(ts:List T):Option (T×I):=l1 (AB s) ts
theorem oy:dk K (vG K) pi:=by
 intro H w vs s ts s' i G F Q rw0 rs nd mu e q;unfold pi at e;have e0:=cW e;clear e;obtain⟨tt,rfl,e⟩:=e0;obtain⟨y,rfl,h3⟩:=sW rs;unfold AB at e;split at e
 ·rename_i is es;cases eR es;obtain⟨a,xs,rfl,h1,h2,rfl⟩:=km rw0 λa ha=>mu a (yaL _ ha);split at e
  ·rename_i js ej;cases eR ej;obtain⟨hz,e⟩:=aQ e;cases e;rw[Rp]at h3;obtain⟨b,ys,rfl,g1,g2,rfl⟩:=h3;exact .inl ⟨a,b,xs,ys,rfl,rfl,h1,g1,by rw[h2.length,g2.length];exact hz,ir h1 (h2.append g2) bM q⟩
  ·split at e
   ·rename_i js ej;cases iG ej;obtain⟨hz,e⟩:=aQ e;cases e;have h4:=(aZ h3).1;rw[RpI]at h4;obtain⟨b,ys,rfl,g1,g2⟩:=h4;exact .inr ⟨a,b,xs,ys,rfl,rfl,h1,g1,by rw[h2.length,g2.length];exact hz,ir h1 (h2.append g2) bM q⟩
   ·cases e
 ·cases e
theorem tu(H:Hp)(x:V)(tx:T)(ts:List T)(r:T×I)(h:Rpx K H tx x)(e:pi tx ts=some r):tyV K "list" x H:=by
 unfold pi at e;obtain⟨t,_,e⟩:=cW e;unfold AB at e;split at e
 ·rename_i is es;cases eR es;exact rl h
 ·cases e
@[irreducible] noncomputable def je:T->List T->Option (T×I)
 | .li is,[]=>match is[is.length-1]? with
  | some i=>some (.li is.dropLast,i)
  | none=>none
 | _,_=>none
theorem KS.dropLast{is:List I}{xs:List V}(h:KS K H is xs):KS K H is.dropLast xs.dropLast:=by
 rw[JD,JD,h.length];exact h.take _
theorem vj:dk K CI je:=by
 intro H w vs s ts s' i G F Q rw0 rs nd mu e q;unfold je at e;split at e
 ·rename_i is;split at e
  ·rename_i j hj;cases e;obtain⟨a,xs,rfl,h1,h2,rfl⟩:=km rw0 λa ha=>mu a (yaL _ ha);obtain⟨rfl,rfl⟩:=rs.nil_inv;obtain⟨y,hy,r⟩:=h2.get hj;rw[<-h2.length]at hy;exact⟨a,xs,y,rfl,rfl,h1,hy,ir h1 h2.dropLast r q⟩
  ·cases e
 ·cases e
theorem C4(H:Hp)(x:V)(tx:T)(ts:List T)(r:T×I)(h:Rpx K H tx x)(e:je tx ts=some r):tyV K "list" x H:=by
 unfold je at e;split at e;exact rl h;cases e
noncomputable def AL(s n t:T):Option (T×I):=match ug s with
 | some is=>(match isI n with
  | some n=>(match t with
   | .im i=>if 0<=n/\n<=is.length/\is.length<sizeLine then some (.li (is.take n.toNat++i::is.drop n.toNat),.non)else none
   | _=>none)
  | none=>none)
 | none=>none
@[irreducible] noncomputable def mK(s:T)(ts:List T):Option (T×I):=l2 (AL s) ts
theorem oz:dk K nc mK:=by
 intro H w vs s ts s' i G F Q rw0 rs nd mu e q;unfold mK at e;have e0:=kf e;clear e;obtain⟨tn,tt,rfl,e⟩:=e0;obtain⟨y,z,F1,F2,rfl,g1,g2,rfl⟩:=Gg rs;unfold AL at e;split at e
 ·rename_i is es;cases eR es;obtain⟨a,xs,rfl,h1,h2,rfl⟩:=km rw0 λa ha=>mu a (yaL _ ha);split at e
  ·rename_i n en;cases dq en;split at e
   ·obtain⟨hz,e⟩:=aQ e;cases e;have e1:=aN ⟨F1,g1⟩;subst e1;exact⟨a,xs,n,z,rfl,rfl,h1,hz.1,by rw[h2.length];exact hz.2.1,by rw[h2.length];exact hz.2.2,ir h1 ((h2.take _).append (.cons (aZ g2).1 (h2.drop _))) bM q⟩
   ·cases e
  ·cases e
 ·cases e
theorem tw(H:Hp)(x:V)(tx:T)(ts:List T)(r:T×I)(h:Rpx K H tx x)(e:mK tx ts=some r):tyV K "list" x H:=by
 unfold mK at e;obtain⟨t,u,_,e⟩:=kf e;unfold AL at e;split at e
 ·rename_i is es;cases eR es;exact rl h
 ·cases e
@[irreducible] noncomputable def wr(s:T)(n:T)(v:T):Option T:=match s,n,v with
 | .li is,.im (.int n),.im i=>match ixN is.length n with
  | some j=>some (.li (is.set j i))
  | none=>none
 | _,_,_=>none
@[irreducible] noncomputable def pA(j:Nat)(o i:ME):MG:=⟨λr O=>match r with
 | ⟨.ow,tv⟩=>match o.run O with
  | some (⟨.vw (some j') (some p),s⟩,O1)=>match i.run O1 with
   | some (ri,O2)=>if(decide (j'=j) && !i.mu.contains j)=true then(match wr s ri.t tv with
    | some s'=>(match O2[j]? with
     | some (some ⟨k,t⟩)=>if k.isOw=true then some ((aq [j] O2).set j (some ⟨k,t.put p s'⟩))else none
     | _=>none)
    | none=>none)else none
   | none=>none
  | _=>none
 | _=>none,(o.mu++i.mu)++[j]⟩
theorem KS.set'{is:List I}{xs:List V}{i:I}{w:V}(hx:RpI K H i w)(n:Nat)(h:KS K H is xs):KS K H (is.set n i) (xs.set n w):=KS.set hx n h
theorem y4{to ti:TE}{o i:ME}{j:Nat}(ho:aT K to o)(hi:aT K ti i):jP K (AH to ti z9) (pA j o i):=by
 intro Γ H O Z E Q v r O' hK hr S q;simp only[pA]at hr q;split at hr
 ·rename_i tv;split at hr
  ·rename_i j' p s O1 e1;split at hr
   ·rename_i ri O2 e2;split at hr
    ·rename_i hc;rw[Gz,decide_eq_true_eq,Hf]at hc;obtain⟨rfl,hmv⟩:=hc;split at hr
     ·rename_i s' e3;split at hr
      ·rename_i k t e4;split at hr
       ·rename_i hw;cases hr;refine ho Γ H O Z _ _ _ _ hK e1 S λx H1 S1=>?_;refine hi Γ H1 O1 Z _ _ _ _ hK e2 S1 λy H2 S2=>?_;have k1:aF i.mu ⟨none,x,⟨.vw (some j') (some p),s⟩⟩=true:=by unfold aF;simp only[Kd.root];rw[hmv];rfl
        have k2:∀M:List Nat,aF M ⟨none,v,⟨.ow,tv⟩⟩=true:=λM=>rfl;rw[az k1,ag,az (k2 _)]at S2;have ry:=S2.rd ymS;have S3:=S2.drop rfl;obtain⟨G,F,h1,h2,h3,h4,h5⟩:=Sim.mut (vs:=[v]) (ts:=[tv]) (S3.perm (List.Perm.swap _ _ _)) rfl e4 hw;generalize hri:ri.t=tri at e3;unfold wr at e3;split at e3
        ·rename_i is n i0;split at e3
         ·rename_i m hm;cases e3;obtain⟨a,xs,rfl,g1,g2,rfl⟩:=km h1 λa ha=>h4 a (yaL _ ha);obtain⟨z,ez,g3⟩:=sW h2;cases ez;obtain⟨g4,rfl⟩:=aZ g3;have ry':∃F,Rp Γ.K H2 ri.t y F:=ry;have ey:y=.int n:=by rw[hri]at ry';exact aN ry'
          subst ey;refine⟨a,xs,n,m,rfl,rfl,g1,by rw[g2.length];exact hm,?_⟩;refine ir (Q:=λ_ H'=>Q Z H') (F:=[]) (v:=.non) (i:=.non) g1 (g2.set' g4 m) bM λv' H' G' a1 a2 a3 a4 a5 _=>q Z H' ?_;have:=h5 H' _ G' a1 a2 a3 a4 a5;rw[ag]at this;exact this
         ·cases e3
        ·cases e3
       ·cases hr
      ·cases hr
     ·cases hr
    ·cases hr
   ·cases hr
  ·cases hr
 ·cases hr
end
section
variable {Γ:Gm}{H H':Hp}{O:Rho}{Z:St}{E:List En}{v x y:V}{t:T}{K:yF}{Q:VK}
theorem i5{M N:List Nat}(h:∀j∈N,j∈M){e:En}(k:aF M e=true):aF N e=true:=by
 unfold aF at k|-;split at k
 ·rename_i j hj;simp only[Hf,Hz,decide_eq_false_iff_not]at k|-;exact λz=>k (h j z)
 ·rfl
theorem eT{M N:List Nat}(h:∀j∈N,j∈M)(E:List En):ah N (ah M E)=ah M E:=by
 unfold ah;rw[HU];intro e he;exact i5 h (GF.mp he).2
noncomputable def itW(c:MT) (b:MS):Nat->Rho->Option (Fl×Rho)
 | 0,_=>none
 | n+1,O=>match c.run O with
  | some (true,O1)=>(match b.run O1 with
   | some (.nx,O2)=>itW c b n O2
   | some (.ct,O2)=>itW c b n O2
   | some (.bk,O2)=>some (.nx,O2)
   | some (.rt t,O2)=>some (.rt t,O2)
   | none=>none)
  | some (false,O1)=>some (.nx,O1)
  | none=>none
theorem eS{c:MT}{b:MS}:∀{n:Nat} {O:Rho} {r:Fl×Rho},itW c b n O=some r->∀m,n<=m->itW c b m O=some r
 | 0,_,_,h,_,_=>by cases h
 | n+1,O,r,h,m,hm=>by
  obtain⟨m',rfl⟩:∃m',m=m'+1:=⟨m-1,by omega⟩;rw[itW]at h|-;split at h
  ·rename_i O1 e1;split at h;rename_i O2 e2;exact eS h m' (by omega);rename_i O2 e2;exact eS h m' (by omega);exact h;exact h;exact h
  ·exact h
  ·exact h
noncomputable def wJ(c:MT) (b:MS) (O:Rho):Option (Fl×Rho):=@dite _ (∃n,(itW c b n O).isSome=true) (Classical.propDecidable _) (λh=>itW c b (Nm h) O) (λ_=>none)
@[irreducible] noncomputable def fk(c:MT)(b:MS):MS:=⟨wJ c b,c.mu++b.mu⟩
theorem tE{c:MT}{b:MS}{r:Fl×Rho}{n:Nat}(h:itW c b n O=some r):(fk c b).run O=some r:=by unhygienic
 have hx:∃n,(itW c b n O).isSome=true:=⟨n,by rw[h];rfl⟩;show wJ c b O=_;unfold wJ;rw[dif_pos hx];have h2:=Classical.choose_spec hx;cases e:itW c b (Nm hx) O with
 | none=>rw[e]at h2;cases h2
 | some r'=>
  have a:=eS h (max n (Nm hx)) (JA _ _);have b':=eS e (max n (Nm hx)) (Jm _ _);rw[a]at b';exact b'.symm
theorem wX{c:MT}{b:MS}{r:Fl×Rho}(h:(fk c b).run O=some r):∃n,itW c b n O=some r:=by unhygienic
 have h':wJ c b O=some r:=h;unfold wJ at h';split at h';exact⟨_,h'⟩;cases h'
theorem sU{tc:TT}{tb:TS}{c:MT}{b:MS}(hc:eY K tc c)(hb:dF K tb b):dF K (wC tc tb) (fk c b):=by unhygienic
 intro Γ H O Z E D f O' hK hE hr S q;obtain⟨n,hn⟩:=wX hr;have qe:(fk c b).mu=c.mu++b.mu:=rfl;rw[qe]at q;have kc:ah c.mu (ah (c.mu++b.mu) E)=ah (c.mu++b.mu) E:=eT (λj hj=>yaL _ hj) E;have kb:ah b.mu (ah (c.mu++b.mu) E)=ah (c.mu++b.mu) E:=eT (λj hj=>yaR _ hj) E;have hE0:=bK (M:=c.mu++b.mu) hE;have S0:=S.weak (c.mu++b.mu);generalize ah (c.mu++b.mu) E=E0 at q kc kb hE0 S0;refine⟨λm Z H=>∃O,itW c b m O=some (f,O')/\Sim Γ H O Z E0,⟨n,O,hn,S0⟩,?_⟩
 ·rintro m Z1 H1 ⟨O1,h1,S1⟩;cases m with
  | zero=>cases h1
  | succ m=>
   rw[itW]at h1;split at h1
   ·rename_i O2 e1;refine hc Γ H1 O1 Z1 E0 _ true O2 hK e1 S1 λH2 S2=>r6 ?_;rw[kc]at S2;refine⟨λZ' H'=>∃O,itW c b m O=some (f,O')/\Sim Γ H' O Z' E0,λZ' H' ⟨O3,h3,S3⟩=>⟨m,Kh m,O3,h3,S3⟩,?_⟩;split at h1
    ·rename_i O3 e2;exact hb Γ H2 O2 Z1 E0 _ .nx O3 hK hE0 e2 S2 λZ' H' S3=>⟨O3,h1,by rw[kb]at S3;exact S3⟩
    ·rename_i O3 e2;exact hb Γ H2 O2 Z1 E0 _ .ct O3 hK hE0 e2 S2 λZ' H' S3=>⟨O3,h1,by rw[kb]at S3;exact S3⟩
    ·rename_i O3 e2;cases h1;exact hb Γ H2 O2 Z1 E0 _ .bk _ hK hE0 e2 S2 λZ' H' S3=>q Z' H' (by rw[kb]at S3;exact S3)
    ·rename_i t O3 e2;cases h1;exact hb Γ H2 O2 Z1 E0 _ (.rt t) _ hK hE0 e2 S2 q
    ·cases h1
   ·rename_i O2 e1;cases h1;exact hc Γ H1 O1 Z1 E0 _ false _ hK e1 S1 λH2 S2=>rZ (q Z1 H2 (by rw[kc]at S2;exact S2))
   ·cases h1
structure MI where
 run:Rho->Option ((List R×List R)×Rho)
 mu:List Nat
def fW(Γ:Gm)(J:It)(vs:List V)(srcs:List R)(items:List R):Prop:=∀(H:Hp) (O:Rho) (Z:St) (E:List En),Sim Γ H O Z (ens vs srcs++E)->(∀i,items.length<=i->J.stop i H)/\∀i r,items[i]?=some r->J.go i H/\∀x H',J.yld i H x H'->Sim Γ H' O Z (⟨none,x,r⟩::(ens vs srcs++E))
def jQ(K:yF)(wi:TI)(m:MI):Prop:=∀(Γ:Gm) (H:Hp) (O:Rho) (Z:St) (E:List En) (Rr:It->Hp->Prop) (srcs:List R) (items:List R) (O':Rho),Γ.K=K->m.run O=some ((srcs,items),O')->Sim Γ H O Z E->(∀Γ':Gm,Γ'.K=Γ.K->(∀H O Z E,Sim Γ' H O Z E->Sim Γ H O Z E)->∀J vs H',vs.length=srcs.length->Sim Γ' H' O' Z (ens vs srcs++ah m.mu E)->fW Γ' J vs srcs items->Rr J H')->wi Z H Rr
theorem dB{M:List Nat}:∀{A:List En},(∀e∈A,aF M e=true)->ah M A=A
 | [],_=>rfl
 | e::A,h=>by rw[az (h e ymS),dB λx hx=>h x (ymC _ hx)]
theorem jY{M:List Nat}:∀{vs:List V} {rs:List R},rs.all (ax M)=true->∀e∈ens vs rs,aF M e=true
 | [],rs,_,e,h=>by cases rs<;>cases h
 | _::_,[],_,e,h=>by cases h
 | v::vs,r::rs,ha,e,h=>by
  rw[HL,Gz]at ha;rcases ycM h with rfl|h;exact ha.1;exact jY ha.2 e h
theorem nR:∀{vs:List V} {rs:List R},∀e∈ens vs rs,e.key=none
 | [],rs,e,h=>by cases rs<;>cases h
 | _::_,[],e,h=>by cases h
 | v::vs,r::rs,e,h=>by
  rcases ycM h with rfl|h;rfl;exact nR e h
noncomputable def kD(n:Int):R:=⟨.ow,.im (.int n)⟩
noncomputable def oI:R:=⟨.ow,.im .non⟩
noncomputable def ik(lo:Int) (n:Nat):List R:=(G9 n).map λi:Nat=>kD (lo+(i:Int))
theorem oW{lo:Int}{n:Nat}:fW Γ (Itr lo n) [.non] [oI] (ik lo n):=λH O Z E S=>by
 refine⟨λi hi=>(show n<=i by simpa[ik]using hi),λi r hr=>?_⟩;unfold ik at hr;rw[GE]at hr;cases e:(G9 n)[i]? with
 | none=>rw[e]at hr;cases hr
 | some m=>
  rw[e]at hr;cases hr;obtain⟨h1,h2⟩:=Gr.mp e;simp at h1 h2;subst h2;refine⟨h1,λx H' y=>?_⟩;obtain⟨rfl,rfl⟩:=y;exact S.imm (iU rfl)
noncomputable def ii2(x y:T):Option (Int×Int):=match isI x with
 | some i=>(match isI y with
  | some j=>some (i,j)
  | none=>none)
 | none=>none
theorem xu{x y:T}{i j:Int}(h:ii2 x y=some (i,j)):x=.im (.int i)/\y=.im (.int j):=by
 unfold ii2 at h;split at h
 ·rename_i a ea;split at h
  ·rename_i b eb;cases h;exact⟨dq ea,dq eb⟩
  ·cases h
 ·cases h
@[irreducible] noncomputable def aV(a:MA):MI:=⟨λO=>match a.run O with
 | some (rs,O1)=>(match l1 isI (rs.map (·.t))with
  | some j=>if -(2^62)<=j/\j<2^62 then some (([oI],ik 0 j.toNat),O1)else none
  | none=>none)
 | none=>none,a.mu⟩
@[irreducible] noncomputable def fR(a:MA):MI:=⟨λO=>match a.run O with
 | some (rs,O1)=>(match l2 ii2 (rs.map (·.t))with
  | some (i,j)=>if -(2^62)<=i/\i<2^62/\-(2^62)<=j/\j<2^62 then some (([oI],ik i (j-i).toNat),O1)else none
  | none=>none)
 | none=>none,a.mu⟩
theorem wd{ta:TA}{a:MA}(ha:eK K ta a):jQ K (zN ta) (aV a):=by unhygienic
 intro Γ H O Z E Rr src items O' hK hr S q;simp only[aV]at hr;split at hr
 ·rename_i rs O1 e1;split at hr
  ·rename_i j ej;obtain⟨hj,e⟩:=aQ hr;cases e;obtain⟨t,et,ei⟩:=cW ej;cases dq ei;refine ha Γ H O Z E _ _ _ hK e1 S λvs H1 hl S1=>?_;have r1:=S1.rds hl;rw[et]at r1;obtain⟨w,rfl,r2⟩:=k9 r1;refine⟨j,by rw[aN r2],hj.1,hj.2,q Γ rfl (λ_ _ _ _ S=>S) _ [.non] H1 rfl ?_ oW⟩;exact S1.drops.imm bM
  ·cases hr
 ·cases hr
theorem we{ta:TA}{a:MA}(ha:eK K ta a):jQ K (zO ta) (fR a):=by unhygienic
 intro Γ H O Z E Rr src items O' hK hr S q;simp only[fR]at hr;split at hr
 ·rename_i rs O1 e1;split at hr
  ·rename_i i j ej;obtain⟨hj,e⟩:=aQ hr;cases e;obtain⟨t,u,et,ei⟩:=kf ej;obtain⟨rfl,rfl⟩:=xu ei;refine ha Γ H O Z E _ _ _ hK e1 S λvs H1 hl S1=>?_;have r1:=S1.rds hl;rw[et]at r1;obtain⟨w,w',rfl,r2,r3⟩:=CY r1;refine⟨i,j,by rw[aN r2,aN r3],hj,q Γ rfl (λ_ _ _ _ S=>S) _ [.non] H1 rfl ?_ oW⟩;exact S1.drops.imm bM
  ·cases hr
 ·cases hr
noncomputable def ib:R->Option (List R)
 | ⟨_,.li is⟩=>some (is.map λi=>⟨.ow,.im i⟩)
 | ⟨.vw ro _,.lst ts⟩=>some (ts.map (partV ro))
 | ⟨_,.im (.ls is)⟩=>some (is.map λi=>⟨.ow,.im i⟩)
 | _=>none
noncomputable def j6:R->Option (List R)
 | ⟨_,.im (.tup is)⟩=>some (is.map λi=>⟨.ow,.im i⟩)
 | _=>none
noncomputable def ut(a:ME):MI:=⟨λO=>match a.run O with
 | some (r,O1)=>(match ib r with
  | some rs=>some (([r],rs),O1)
  | none=>none)
 | none=>none,a.mu⟩
noncomputable def AX(a:ME):MI:=⟨λO=>match a.run O with
 | some (r,O1)=>(match j6 r with
  | some rs=>some (([r],rs),O1)
  | none=>none)
 | none=>none,a.mu⟩
theorem Rd.det{a:Addr}{xs ys:List V}(h:Rd H a (.lst xs))(g:Rd H a (.lst ys)):xs=ys:=by
 rcases h with h|⟨o,h⟩<;>rcases g with g|⟨o',g⟩<;>rw[h]at g<;>cases g<;>rfl
theorem ay{α β:Type}{f : α->β}{l:List α}{i:Nat}{b : β}(h:(l.map f)[i]?=some b):∃a,l[i]?=some a/\f a=b:=by
 rw[GE]at h;cases e:l[i]? with
 | none=>rw[e]at h;cases h
 | some a=>rw[e]at h;exact⟨a,rfl,GX.inj h⟩
theorem Sim.partV{ro:Option Nat}{p:Option (List Ac)}{s:T}{e:En}{w:V}(S:Sim Γ H O Z E)(he:e∈E)(ho:e.r.k=.vw ro p)(hp:∀F,Rp Γ.K H e.r.t e.v F->∃G,Rp Γ.K H s w G/\∀a∈G,a∈F):Sim Γ H O Z (⟨none,w,L2.partV ro s⟩::E):=by
 cases s with
 | im i=>
  obtain⟨F,r⟩:=S.rd he;obtain⟨G,g,_⟩:=hp F r;exact S.imm (aZ g).1
 | _=>
  obtain⟨w',h1,S2⟩:=S.part he ho (P:=λw'=>w'=w) (s:=_) (λF r=>let ⟨G,g,hG⟩:=hp F r;⟨w,G,rfl,g,hG⟩);subst h1;exact S2
theorem Dk{a:Addr}{src:R}{items:List R}(hi:ib src=some items):fW Γ (Itl Γ.K a) [.ref a] [src] items:=λH O Z E S=>by
 replace S:Sim Γ H O Z (⟨none,.ref a,src⟩::E):=S;have r1:Rpx Γ.K H src.t (.ref a):=S.rd (e:=⟨none,.ref a,src⟩) ymS;unfold ib at hi;split at hi
 ·cases hi;obtain⟨a',xs,ea,g1,g2⟩:=bE r1;cases ea;refine⟨λi hi=>⟨xs,aP g1,by rw[g2.length];simpa using hi⟩,λi r hr=>?_⟩;obtain⟨j,hj,rfl⟩:=ay hr;obtain⟨w,hw,rw0⟩:=g2.get hj;refine⟨⟨xs,w,aP g1,hw⟩,λx H' y=>?_⟩;obtain⟨rfl,y⟩:=y;have:=y xs (aP g1);rw[hw]at this;cases this;exact S.imm rw0
 ·rename_i ro p ts;cases hi;obtain⟨a',xs,F,ea,g1,g2⟩:=gk r1;cases ea;refine⟨λi hi=>⟨xs,aP g1,by rw[g2.length];simpa using hi⟩,λi r hr=>?_⟩;obtain⟨j,hj,rfl⟩:=ay hr;obtain⟨w,A,G,B,hw,rw0,_⟩:=g2.at hj;refine⟨⟨xs,w,aP g1,hw⟩,λx H' y=>?_⟩;obtain⟨rfl,y⟩:=y;have:=y xs (aP g1);rw[hw]at this;cases this;refine S.partV (e:=⟨none,.ref a,⟨.vw ro p,.lst ts⟩⟩) ymS rfl λF rp=>?_;have rp':Rp Γ.K _ (.lst ts) (.ref a) F:=rp;rw[Rp]at rp';obtain⟨a'',xs',F',ea,k1,k2,rfl⟩:=rp';cases ea;have:=k1.det g1;subst this;obtain⟨w',A',G',B',hw',rw',e',_⟩:=k2.at hj;rw[hw]at hw';cases hw';exact⟨G',rw',λb hb=>by rw[e'];exact ymC _ (yaL _ (yaR _ hb))⟩
 ·cases hi;obtain⟨a',xs,ea,g1,g2⟩:=Aa r1;cases ea;refine⟨λi hi=>⟨xs,aP g1,by rw[g2.length];simpa using hi⟩,λi r hr=>?_⟩;obtain⟨j,hj,rfl⟩:=ay hr;obtain⟨w,hw,rw0⟩:=g2.get hj;refine⟨⟨xs,w,aP g1,hw⟩,λx H' y=>?_⟩;obtain⟨rfl,y⟩:=y;have:=y xs (aP g1);rw[hw]at this;cases this;exact S.imm rw0
 ·cases hi
theorem nj{ta:TE}{a:ME}(ha:aT K ta a):jQ K (qG K ta) (ut a):=by
 intro Γ H O Z E Rr srcs items O' hK hr S q;simp only[ut]at hr;split at hr
 ·rename_i src O1 e1;split at hr
  ·rename_i rs e2;cases hr;refine ha Γ H O Z E _ _ _ hK e1 S λx H1 S1=>?_;have r1:Rpx Γ.K H1 src.t x:=S1.rd (e:=⟨none,x,src⟩) ymS;have hx:∃a xs,x=.ref a/\SqL K H1 a xs:=by
    unfold ib at e2;split at e2;obtain⟨a,xs,e,g1,g2⟩:=bE r1;exact⟨a,xs,e,aP g1⟩;obtain⟨a,xs,F,e,g1,g2⟩:=gk r1;exact⟨a,xs,e,aP g1⟩;obtain⟨a,xs,e,g1,g2⟩:=Aa r1;exact⟨a,xs,e,aP g1⟩;cases e2
   obtain⟨b,xs,rfl,h2⟩:=hx;exact⟨b,rfl,⟨xs,h2⟩,q Γ rfl (λ_ _ _ _ S=>S) _ [.ref b] H1 rfl S1 (by rw[<-hK];exact Dk e2)⟩
  ·cases hr
 ·cases hr
theorem Dl{a:Addr}{src:R}{items:List R}(hi:j6 src=some items):fW Γ (Itt Γ.K a) [.ref a] [src] items:=λH O Z E S=>by
 replace S:Sim Γ H O Z (⟨none,.ref a,src⟩::E):=S;have r1:Rpx Γ.K H src.t (.ref a):=S.rd (e:=⟨none,.ref a,src⟩) ymS;unfold j6 at hi;split at hi
 ·cases hi;obtain⟨a',xs,ea,g1,g2⟩:=bA r1;cases ea;refine⟨λi hi=>⟨xs,g1,by rw[g2.length];simpa using hi⟩,λi r hr=>?_⟩;obtain⟨j,hj,rfl⟩:=ay hr;obtain⟨w,hw,rw0⟩:=g2.get hj;refine⟨⟨xs,w,g1,hw⟩,λx H' y=>?_⟩;obtain⟨rfl,y⟩:=y;have:=y xs g1;rw[hw]at this;cases this;exact S.imm rw0
 ·cases hi
theorem yS{ta:TE}{a:ME}(ha:aT K ta a):jQ K (xt K ta) (AX a):=by
 intro Γ H O Z E Rr srcs items O' hK hr S q;simp only[AX]at hr;split at hr
 ·rename_i src O1 e1;split at hr
  ·rename_i rs e2;cases hr;refine ha Γ H O Z E _ _ _ hK e1 S λx H1 S1=>?_;have r1:Rpx Γ.K H1 src.t x:=S1.rd (e:=⟨none,x,src⟩) ymS;have hx:∃a xs,x=.ref a/\SqT K H1 a xs:=by
    unfold j6 at e2;split at e2;obtain⟨a,xs,e,g1,g2⟩:=bA r1;rw[hK]at g1;exact⟨a,xs,e,g1⟩;cases e2
   obtain⟨b,xs,rfl,h2⟩:=hx;exact⟨b,rfl,⟨xs,h2⟩,q Γ rfl (λ_ _ _ _ S=>S) _ [.ref b] H1 rfl S1 (by rw[<-hK];exact Dl e2)⟩
  ·cases hr
 ·cases hr
noncomputable def mItS(a:ME):MI:=⟨λO=>match a.run O with
 | some (⟨_,.im (.str z)⟩,O1)=>some (([oI],(sL z).map λc=>⟨.ow,.im (.str ⟨#[c]⟩)⟩),O1)
 | _=>none,a.mu⟩
noncomputable def sj(a:MA):MI:=⟨λO=>match a.run O with
 | some ([⟨k,.li is⟩],O1)=>some (([⟨k,.li is⟩],is.reverse.map λi=>⟨.ow,.im i⟩),O1)
 | _=>none,a.mu⟩
theorem yT{ta:TA}{a:MA}(ha:eK K ta a):jQ K (AK K ta) (sj a):=by
 intro Γ H O Z E Rr src items O' hK hr S q;simp only[sj]at hr;split at hr
 ·rename_i k is O1 e1;cases hr;refine ha Γ H O Z E _ _ _ hK e1 S λvs H1 hl S1=>?_;obtain⟨w,rfl⟩:∃w,vs=[w]:=by
   cases vs with
   | nil=>cases hl
   | cons w r=>cases r with
    | nil=>exact⟨w,rfl⟩
    | cons _ _=>cases hl
  have S1:Sim Γ H1 O' Z (⟨none,w,⟨k,.li is⟩⟩::ah a.mu E):=S1;have r1:=S1.rd ymS;obtain⟨a0,xs,ex,g1,g2⟩:=bE r1;have ex':w=.ref a0:=ex;subst ex';refine⟨a0,xs,rfl,aP g1,q Γ rfl (λ_ _ _ _ S=>S) _ [.ref a0] H1 rfl S1 λH2 O2 Z2 E2 S2=>?_⟩;replace S2:Sim Γ H2 O2 Z2 (⟨none,.ref a0,⟨k,.li is⟩⟩::E2):=S2;obtain⟨a2,ys,e2,k1,k2⟩:=bE (S2.rd ymS);cases e2;have ly:xs.length=ys.length:=by rw[g2.length,k2.length]
  refine⟨λi hi=>?_,λi r hr=>?_⟩
  ·show xs.length<=i;rw[g2.length];simpa using hi
  ·obtain⟨j,hj,rfl⟩:=ay hr;obtain⟨w',hw',rw0⟩:=k2.reverse.get hj;have hil:i<ys.length:=by
    have:=(Gr.mp hw').1;simpa using this
   have hv:ys[xs.length-1-i]?=some w':=by
    rw[ly,<-JC hil];exact hw'
   refine⟨⟨by omega,ys,aP k1,ly.symm⟩,λx H' y=>?_⟩;obtain⟨rfl,y⟩:=y;have:=y ys (aP k1) ly.symm;rw[hv]at this;cases this;exact S2.imm rw0
 ·cases hr
theorem Lh.back{Γ Γ':Gm}{O':Rho}{E:List En}{D:Ll}{f:Fl}(bk:∀H O Z E,Sim Γ' H O Z E->Sim Γ H O Z E)(q:Lh Γ O' E D f):Lh Γ' O' E D f:=by
 cases f with
 | nx=>exact λZ' H' S=>q Z' H' (bk _ _ _ _ S)
 | bk=>exact λZ' H' S=>q Z' H' (bk _ _ _ _ S)
 | ct=>exact λZ' H' S=>q Z' H' (bk _ _ _ _ S)
 | rt t=>exact λv Z' H' S=>q v Z' H' (bk _ _ _ _ S)
noncomputable def fe(g:R->Rho->Option Rho) (b:Rho->Option (Fl×Rho)):List R->Rho->Option (Fl×Rho)
 | [],O=>some (.nx,O)
 | r::rs,O=>match g r O with
  | some O1=>(match b O1 with
   | some (.nx,O2)=>fe g b rs O2
   | some (.ct,O2)=>fe g b rs O2
   | some (.bk,O2)=>some (.nx,O2)
   | some (.rt t,O2)=>some (.rt t,O2)
   | none=>none)
  | none=>none
@[irreducible] noncomputable def bQ(it:MI)(g:MG)(b:MS):MS:=⟨λO=>match it.run O with
 | some ((srcs,items),O1)=>if(srcs.all (ax (g.mu++b.mu))&&items.all (ax (g.mu++b.mu)))=true then fe g.run b.run items O1 else none
 | none=>none,it.mu++(g.mu++b.mu)⟩
theorem yQ{wi:TI}{g:TG}{tb:TS}{it:MI}{mg:MG}{b:MS}(hi:jQ K wi it)(hg:jP K g mg)(hb:dF K tb b):dF K (Fj wi g tb) (bQ it mg b):=by
 intro Γ H O Z E D f O' hK hE hr S q;simp only[bQ]at hr q;split at hr
 ·rename_i srcs items O1 e1;split at hr
  ·rename_i al;rw[Gz]at al;refine hi Γ H O Z E _ srcs items O1 hK e1 S λΓ hK2 bk J vs H1 hlv S1 wk=>?_;replace hK:=hK2.trans hK;replace q:=Lh.back bk q;rw[<-ag]at q;have hE1:=bK (M:=it.mu) hE;generalize ah it.mu E=E1 at q S1 hE1;have ks:∀e∈ens vs srcs,aF (mg.mu++b.mu) e=true:=jY al.1;have kg:ah mg.mu (ens vs srcs++ah (mg.mu++b.mu) E1)=ens vs srcs++ah (mg.mu++b.mu) E1:=by
    rw[aO,dB (λe he=>i5 (λj hj=>yaL _ hj) (ks e he)),eT (λj hj=>yaL _ hj)]
   have kb:ah b.mu (ens vs srcs++ah (mg.mu++b.mu) E1)=ens vs srcs++ah (mg.mu++b.mu) E1:=by
    rw[aO,dB (λe he=>i5 (λj hj=>yaR _ hj) (ks e he)),eT (λj hj=>yaR _ hj)]
   have S2:=S1.weak (mg.mu++b.mu);rw[aO,dB ks]at S2;have hE2:=bK (M:=mg.mu++b.mu) hE1;generalize ah (mg.mu++b.mu) E1=E2 at q kg kb S2 hE2;have hE3:∀e∈ens vs srcs++E2,e.key=none:=λe he=>by
    rcases yaM he with he|he;exact nR e he;exact hE2 e he
   refine⟨λi m Z H=>m=items.length-i/\i<=items.length/\∃O,fe mg.run b.run (items.drop i) O=some (f,O')/\Sim Γ H O Z (ens vs srcs++E2),⟨items.length,by simp,Ie _,O1,by simpa using hr,S2⟩,?_⟩;rintro i m Z1 H2 ⟨rfl,hil,O2,h2,S3⟩;obtain⟨w1,w2⟩:=wk H2 O2 Z1 E2 S3;by_cases hlt:i<items.length
   ·have hx:items[i]?=some items[i]:=by simp[hlt]
    obtain⟨w3,w4⟩:=w2 i _ hx;rw[Ia hlt,fe]at h2;refine .inr ⟨w3,λZ' H'=>∃O,fe mg.run b.run (items.drop (i+1)) O=some (f,O')/\Sim Γ H' O Z' (ens vs srcs++E2),λZ' H' ⟨O3,h3,S4⟩=>⟨items.length-(i+1),by omega,rfl,hlt,O3,h3,S4⟩,λx H3 y=>?_⟩;have S4:=w4 x H3 y;split at h2
    ·rename_i O3 e3;refine hg Γ H3 O2 Z1 _ _ x _ O3 hK e3 S4 λZ2 H4 S5=>?_;rw[kg]at S5;split at h2
     ·rename_i O4 e4;exact hb Γ H4 O3 Z2 _ _ .nx O4 hK hE3 e4 S5 λZ' H' S6=>⟨O4,h2,by rw[kb]at S6;exact S6⟩
     ·rename_i O4 e4;exact hb Γ H4 O3 Z2 _ _ .ct O4 hK hE3 e4 S5 λZ' H' S6=>⟨O4,h2,by rw[kb]at S6;exact S6⟩
     ·rename_i O4 e4;cases h2;exact hb Γ H4 O3 Z2 _ _ .bk _ hK hE3 e4 S5 λZ' H' S6=>q Z' H' (by rw[kb]at S6;exact S6.drops)
     ·rename_i t O4 e4;cases h2;exact hb Γ H4 O3 Z2 _ _ (.rt t) _ hK hE3 e4 S5 q
     ·cases h2
    ·cases h2
   ·have e:i=items.length:=by omega
    subst e;rw[Jn,fe]at h2;cases h2;exact .inl ⟨w1 _ (GC _),q Z1 H2 S3.drops⟩
  ·cases hr
 ·cases hr
end
noncomputable def jj(π:Nat->Nat):Kd->Kd
 | .vw (some j) p=>.vw (some (π j)) p
 | k=>k
noncomputable def k8(π:Nat->Nat) (r:R):R:=⟨jj π r.k,r.t⟩
noncomputable def cG(π:Nat->Nat) (e:En):En:=⟨e.key.map π,e.v,k8 π e.r⟩
section
variable {Γ:Gm}{H H':Hp}{O:Rho}{Z:St}{E X:List En}{v x y:V}{t:T}{K:yF}{Q:VK}{π:Nat->Nat}
theorem qW(k:Kd):(jj π k).isOw=k.isOw:=by
 cases k with
 | vw a b=>cases a<;>rfl
 | _=>rfl
theorem lT(k:Kd):(jj π k).root=k.root.map π:=by
 cases k with
 | vw a b=>cases a<;>rfl
 | _=>rfl
theorem KW.ren(S:KW Γ H X)(inj:∀e∈X,∀f∈X,∀a b,e.key=some a->f.key=some b->π a=π b->a=b):KW Γ H (X.map (cG π)):=by
 obtain⟨L,g,rfl⟩:=S;have own:∀L:List Hd,(L.map λh:Hd=>(⟨cG π h.e,h.F⟩:Hd)).flatMap Hd.own=L.flatMap Hd.own:=by
  intro L
  induction L with
  | nil=>rfl
  | cons h L ih=>
   rw[Gs,GH,GH,ih];congr 1;unfold Hd.own;show(if(jj π h.e.r.k).isOw=true then h.F else [])=_;rw[qW]
 refine⟨L.map λh=>⟨cG π h.e,h.F⟩,⟨by rw[own];exact g.nd,by rw[own];exact g.ad,λh hh=>?_,λh hh=>?_,?_,g.fr,g.iol⟩,by rw[GQ,GQ];rfl⟩
 ·obtain⟨h0,h1,rfl⟩:=GB.mp hh;exact g.rp h0 h1
 ·obtain⟨h0,h1,rfl⟩:=GB.mp hh;have k:=g.kd h0 h1;unfold K2 at k|-;show match jj π h0.e.r.k with
   | .ow=>_|.io k=>_|.vw none _=>_|.vw (some j) p=>_
  cases ek:h0.e.r.k with
  | ow=>rw[ek]at k;exact k
  | io n=>rw[ek]at k;exact k
  | vw a p=>
   rw[ek]at k;cases a with
   | none=>rw[own];exact k
   | some j=>
    obtain⟨x,x1,x2,x3,x4,x5⟩:=k;refine⟨⟨cG π x.e,x.F⟩,G8 x1,by show x.e.key.map π=_;rw[x2];rfl,by show(jj π x.e.r.k).isOw=true;rw[qW];exact x3,λa ha=>by rw[own];exact x4 a ha,x5⟩
 ·rw[Ir];have e:(λh:Hd=>h.e.key)∘(λh:Hd=>(⟨cG π h.e,h.F⟩:Hd))=λh=>h.e.key.map π:=rfl;rw[e];have:∀L':List Hd,(∀h∈L',h∈L)->(L'.filterMap λh=>h.e.key).Nodup->(L'.filterMap λh=>h.e.key.map π).Nodup:=by
   intro L'
   induction L' with
   | nil=>intro _ _;exact HN
   | cons h L' ih=>
    intro hs nd;rw[GS]at nd|-;cases ek:h.e.key with
    | none=>rw[ek]at nd;exact ih (λx hx=>hs x (ymC _ hx)) nd
    | some a=>
     rw[ek]at nd;obtain⟨n1,n2⟩:=G3.mp nd;refine G3.mpr ⟨λhm=>?_,ih (λx hx=>hs x (ymC _ hx)) n2⟩;obtain⟨y,hy,ey⟩:=G5.mp hm;cases eb:y.e.key with
     | none=>rw[eb]at ey;cases ey
     | some b=>
      rw[eb]at ey;have e2 : π b=π a:=GX.inj ey;have:=inj y.e (G8 (hs y (ymC _ hy))) h.e (G8 (hs h ymS)) b a eb ek e2;subst this;exact n1 (G5.mpr ⟨y,hy,eb⟩)
  exact this L (λ_ h=>h) g.ks
theorem KW.filt(S:KW Γ H X)(p:En->Bool)(hp:∀e∈X,p e=true->∀j,e.r.k.root=some j->∀f∈X,f.key=some j->p f=true):KW Γ H (X.filter p):=by
 obtain⟨L,g,rfl⟩:=S;refine⟨L.filter λh=>p h.e,g.sub Ht λh hh j hj x hx hk ho=>?_,by rw[IV];rfl⟩;obtain⟨h1,h2⟩:=GF.mp hh;exact GF.mpr ⟨hx,hp h.e (G8 h1) h2 j hj x.e (G8 hx) hk⟩
theorem K3{e:En}:e∈aC 0 Z O ↔ ∃i,e.key=some i/\O[i]?=some (some e.r)/\Z[i]?=some (some e.v):=by
 constructor
 ·intro h;obtain⟨i,h1,h2,h3⟩:=cR h;exact⟨i,by rw[h1,Hk],h2,h3⟩
 ·rintro⟨i,h1,h2,h3⟩;have:=(bt (k:=0) h3 h2).mem_iff.mpr ymS;have e':e=⟨some (0+i),e.v,e.r⟩:=by cases e;simp only[En.mk.injEq,and_self,and_true,Hk];exact h1
  rw[e'];exact this
theorem mz:∀{k:Nat} {Z:List (Option V)} {O:Rho},(aC k Z O).Pairwise λa b=>∃i j,a.key=some i/\b.key=some j/\i<j
 | _,[],_=>List.Pairwise.nil
 | _,x::_,[]=>by cases x<;>exact List.Pairwise.nil
 | k,x::Z,y::O=>by
  have ih:=mz (k:=k+1) (Z:=Z) (O:=O);cases x with
  | none=>simpa[aC]using ih
  | some v=>
   cases y with
   | none=>simpa[aC]using ih
   | some r=>
    simp only[aC];refine List.Pairwise.cons (λb hb=>?_) ih;obtain⟨i,h1,_,_⟩:=cR hb;exact⟨k,k+1+i,rfl,h1,by omega⟩
theorem K9{k:Nat}:(aC k Z O).Nodup:=by
 refine List.Pairwise.imp ?_ mz;rintro a b ⟨i,j,h1,h2,h3⟩ rfl;rw[h1]at h2;cases h2;omega
noncomputable def bJ(fr:List (Option Nat)) (j:Nat):Bool:=match fr[j]? with
 | some (some i)=>i==j
 | _=>false
noncomputable def piF(fr:List (Option Nat)) (j:Nat):Nat:=if bJ fr j=true then j else fr.length+j
noncomputable def psF(fr:List (Option Nat)) (k:Nat):Nat:=if k<fr.length then k else k-fr.length
noncomputable def jw(π:Nat->Nat):Nat->List (Option Nat)->Rho->Rho
 | _,[],_=>[]
 | k,o::fr,r::O=>(if o=some k then r.map (k8 π)else none)::jw π (k+1) fr O
 | k,o::fr,[]=>none::jw π (k+1) fr []
noncomputable def inR(fr:List (Option Nat)) (O:Rho):Rho:=jw (piF fr) 0 fr O
noncomputable def g9(ψ : Nat->Nat) (tg mu:List Nat):Nat->List (Option Nat)->Rho->Rho->Rho
 | k,o::fr,ri::Oi,r::O=>(if o=some k then(cb tg ri).map (k8 ψ)else cb mu r)::g9 ψ tg mu (k+1) fr Oi O
 | _,[],_,O=>O.map (cb mu)
 | _,_::_,[],O=>O.map (cb mu)
 | _,_::_,_::_,[]=>[]
noncomputable def tgF(fr:List (Option Nat)):List Nat:=(G9 fr.length).filter λi=>!bJ fr i
noncomputable def muF(fr:List (Option Nat)) (mu:List Nat):List Nat:=mu.filter (bJ fr)
noncomputable def dw(fr:List (Option Nat)) (mu:List Nat) (Oi O:Rho):Rho:=g9 (psF fr) (tgF fr) (muF fr mu) 0 fr Oi O
theorem Lb{fr:List (Option Nat)}{j:Nat}:bJ fr j=true↔fr[j]?=some (some j):=by
 unfold bJ;split;rename_i i h;rw[h];simp
 ·rename_i h;constructor;intro z;cases z;intro z;exact absurd z (h j)
theorem jZ:∀{k:Nat} {fr:List (Option Nat)} {O:Rho} {i:Nat} {r':R},(jw π k fr O)[i]?=some (some r')↔fr[i]?=some (some (k+i))/\∃r,O[i]?=some (some r)/\r'=k8 π r
 | k,[],O,i,r'=>by simp[jw]
 | k,o::fr,[],0,r'=>by simp[jw]
 | k,o::fr,[],i+1,r'=>by
  rw[jw,HA,jZ (k:=k+1) (fr:=fr) (O:=[]) (i:=i)];simp
 | k,o::fr,r::O,0,r'=>by
  rw[jw,HQ,HQ,HQ];by_cases h:o=some k
  ·subst h;rw[if_pos rfl];cases r with
   | none=>simp
   | some r=>simp[eq_comm]
  ·rw[if_neg h];constructor;intro z;cases z;rintro⟨h1,_⟩;exact absurd (by simpa using h1) h
 | k,o::fr,r::O,i+1,r'=>by
  rw[jw,HA,HA,HA,jZ (k:=k+1) (fr:=fr) (O:=O) (i:=i),show k+1+i=k+(i+1) by omega]
theorem iD:∀{k:Nat} {fr:List (Option Nat)} {O:Rho},(jw π k fr O).length=fr.length
 | k,[],O=>rfl
 | k,o::fr,[]=>by rw[jw,GI,iD,GI]
 | k,o::fr,r::O=>by rw[jw,GI,iD,GI]
theorem Li{fr:List (Option Nat)}{i:Nat}{r':R}:(inR fr O)[i]?=some (some r')↔bJ fr i=true/\∃r,O[i]?=some (some r)/\r'=k8 (piF fr) r:=by
 unfold inR;rw[jZ,Hk,Lb]
theorem iE{fr:List (Option Nat)}{i:Nat}(h:bJ fr i=true):(cS fr Z)[i]?=some (Z.getD i none):=by
 unfold cS;rw[GE,Lb.mp h];rfl
theorem getD_some{i:Nat}{v:V}:Z.getD i none=some v↔Z[i]?=some (some v):=by
 rw[GM];cases h:Z[i]? with
 | none=>simp
 | some o=>simp
theorem dy{fr:List (Option Nat)}{j:Nat}(h:bJ fr j=true):piF fr j=j:=by unfold piF;rw[if_pos h]
theorem cu{fr:List (Option Nat)}{j:Nat}(h:bJ fr j=false):piF fr j=fr.length+j:=by unfold piF;rw[if_neg (by rw[h];simp)]
theorem bB{fr:List (Option Nat)}{j:Nat}(h:bJ fr j=true):j<fr.length:=(Gr.mp (Lb.mp h)).1
theorem yd{fr:List (Option Nat)}{a b:Nat}(h:piF fr a=piF fr b):a=b:=by
 cases ha:bJ fr a<;>cases hb:bJ fr b;rw[cu ha,cu hb]at h;omega;rw[cu ha,dy hb]at h;have:=bB hb;omega;rw[dy ha,cu hb]at h;have:=bB ha;omega;rw[dy ha,dy hb]at h;exact h
theorem vp{fr:List (Option Nat)}(a:Nat):psF fr (piF fr a)=a:=by
 cases ha:bJ fr a;rw[cu ha];unfold psF;rw[if_neg (by omega)];omega;rw[dy ha];unfold psF;rw[if_pos (bB ha)]
theorem nq{fr:List (Option Nat)}(e:En):cG (psF fr) (cG (piF fr) e)=e:=by
 obtain⟨key,v,⟨k,t⟩⟩:=e;have h1:(key.map (piF fr)).map (psF fr)=key:=by cases key<;>simp[vp]
 have h2:jj (psF fr) (jj (piF fr) k)=k:=by
  cases k with
  | vw a p=>cases a<;>simp[jj,vp]
  | _=>rfl
 show(⟨(key.map (piF fr)).map (psF fr),v,⟨jj (psF fr) (jj (piF fr) k),t⟩⟩:En)=_;rw[h1,h2]
noncomputable def eM(fr:List (Option Nat)) (e:En):Bool:=match e.key with
 | some j=>bJ fr j
 | none=>false
theorem i9{α β:Type}{f : α->β}{l:List α}(h:l.Nodup)(inj:∀a∈l,∀b∈l,f a=f b->a=b):(l.map f).Nodup:=by
 induction l with
 | nil=>exact HN
 | cons a l ih=>
  obtain⟨h1,h2⟩:=G3.mp h;rw[Gs];refine G3.mpr ⟨λhm=>?_,ih h2 λx hx y hy=>inj x (ymC _ hx) y (ymC _ hy)⟩;obtain⟨b,hb,e⟩:=GB.mp hm;have:=inj b (ymC _ hb) a ymS e;subst this;exact h1 hb
theorem inn_perm{fr:List (Option Nat)}:((aC 0 Z O).map (cG (piF fr))).Perm (aC 0 (cS fr Z) (inR fr O)++((aC 0 Z O).filter λe=>!eM fr e).map (cG (piF fr))):=by
 have inj:∀a∈aC 0 Z O,∀b∈aC 0 Z O,cG (piF fr) a=cG (piF fr) b->a=b:=λa _ b _ h=>by
  have:=congrArg (cG (psF fr)) h;rwa [nq,nq]at this
 have nd1:=i9 (K9 (k:=0) (Z:=Z) (O:=O)) inj;have nd2:(((aC 0 Z O).filter λe=>!eM fr e).map (cG (piF fr))).Nodup:=nd1.sublist (Ht.map _);refine(Jb nd1 (Gy.mpr ⟨K9,nd2,?_⟩)).mpr λe=>?_
 ·rintro a ha b hb rfl;obtain⟨i,h1,h2,h3⟩:=K3.mp ha;obtain⟨hc,_⟩:=Li.mp h2;obtain⟨f,hf,rfl⟩:=GB.mp hb;obtain⟨hf1,hf2⟩:=GF.mp hf;obtain⟨j,g1,g2,g3⟩:=K3.mp hf1;have g0:bJ fr j=false:=by unfold eM at hf2;rw[g1]at hf2;simpa using hf2
  have h1':(f.key.map (piF fr))=some i:=h1;rw[g1]at h1';have h1'':piF fr j=i:=by simpa using h1'
  rw[cu g0]at h1'';have:=bB hc;omega
 ·rw[Jy];constructor
  ·intro he;obtain⟨f,hf,rfl⟩:=GB.mp he;obtain⟨j,g1,g2,g3⟩:=K3.mp hf;cases hc:bJ fr j;exact .inr (GB.mpr ⟨f,GF.mpr ⟨hf,by unfold eM;rw[g1];simp[hc]⟩,rfl⟩)
   ·left;refine K3.mpr ⟨j,?_,Li.mpr ⟨hc,_,g2,rfl⟩,?_⟩
    ·show f.key.map (piF fr)=_;rw[g1];simp[dy hc]
    ·rw[iE hc,getD_some.mpr g3];rfl
  ·rintro(he|he)
   ·obtain⟨i,h1,h2,h3⟩:=K3.mp he;obtain⟨hc,r,h4,h5⟩:=Li.mp h2;rw[iE hc]at h3;have h3':=getD_some.mp (GX.inj h3);refine GB.mpr ⟨⟨some i,e.v,r⟩,K3.mpr ⟨i,rfl,h4,h3'⟩,?_⟩;cases e;simp only at h1 h5;simp[cG,dy hc,h1,h5]
   ·obtain⟨f,hf,rfl⟩:=GB.mp he;exact G8 (GF.mp hf).1
noncomputable def k7(fr:List (Option Nat)) (Z:St) (O:Rho) (E:List En):List En:=(E++(aC 0 Z O).filter λe=>!eM fr e).map (cG (piF fr))
noncomputable def ff(fr:List (Option Nat)) (n:Nat):Bool:=decide (n<=fr.length)&&(G9 fr.length).all λi=>!bJ fr i||decide (i<n)
theorem mE{fr:List (Option Nat)}{n j:Nat}(h:ff fr n=true)(hc:bJ fr j=true):j<n:=by
 unfold ff at h;rw[Gz]at h;have:=Hw.mp h.2 j (HW.mpr (bB hc));rw[hc]at this;simpa using this
theorem Sim.inn{fr:List (Option Nat)}(S:Sim Γ H O Z E)(hf:ff fr O.length=true):Sim Γ H (inR fr O) (cS fr Z) (k7 fr Z O E):=by
 refine⟨?_,λi r h=>?_,by rw[iF];unfold inR;rw[iD],λe he j hj=>?_⟩
 ·have:=S.sl.ren (π:=piF fr) λe _ f _ a b _ _ h=>yd h;rw[GA]at this;refine this.perm ?_;unfold k7;rw[GA,GK];exact(inn_perm.append_left _).trans (JE.append_left _)
 ·obtain⟨hc,r0,h1,_⟩:=Li.mp h;obtain⟨v,hv⟩:=S.al i r0 h1;exact⟨v,by rw[iE hc,getD_some.mpr hv]⟩
 ·unfold inR;rw[iD];unfold k7 at he;obtain⟨f,hf',rfl⟩:=GB.mp he;have hj':f.key.map (piF fr)=some j:=hj;cases hk:f.key with
  | none=>rw[hk]at hj';cases hj'
  | some i=>
   rw[hk]at hj';have e1:piF fr i=j:=by simpa using hj'
   have hc:bJ fr i=false:=by
    rcases yaM hf' with z|z
    ·cases hc:bJ fr i with
     | false=>rfl
     | true=>
      have:=mE hf hc;have:=S.hi f z i hk;omega
    ·have:=(GF.mp z).2;unfold eM at this;rw[hk]at this;simpa using this
   rw[cu hc]at e1;omega
theorem lN{ψ : Nat->Nat}{tg mu:List Nat}:∀{k:Nat} {fr:List (Option Nat)} {Oi O:Rho} {i:Nat},i < O.length->O.length<=fr.length->fr.length=Oi.length->(g9 ψ tg mu k fr Oi O)[i]?=some (if fr[i]?=some (some (k+i))then(cb tg (Oi.getD i none)).map (k8 ψ)else cb mu (O.getD i none))
 | k,fr,Oi,[],i,h,_,_=>by cases h
 | k,[],Oi,r::O,i,_,h,_=>by simp at h
 | k,o::fr,[],r::O,i,_,_,h=>by cases h
 | k,o::fr,ri::Oi,r::O,0,h,h2,h3=>by
  rw[g9,HQ,HQ];simp
 | k,o::fr,ri::Oi,r::O,i+1,h,h2,h3=>by
  rw[g9,HA,lN (k:=k+1) (by simpa using h) (by simpa using h2) (by simpa using h3),HA,show k+1+i=k+(i+1) by omega];simp
theorem jc{ψ : Nat->Nat}{tg mu:List Nat}:∀{k:Nat} {fr:List (Option Nat)} {Oi O:Rho},(g9 ψ tg mu k fr Oi O).length=O.length
 | k,[],Oi,O=>by cases Oi<;>simp[g9]
 | k,o::fr,[],O=>by simp[g9]
 | k,o::fr,ri::Oi,[]=>by simp[g9]
 | k,o::fr,ri::Oi,r::O=>by rw[g9,GI,jc,GI]
theorem iV{fr:List (Option Nat)}{i:Nat}:i∈tgF fr↔i<fr.length/\bJ fr i=false:=by
 unfold tgF;rw[GF,HW];simp
theorem Le{M:List Nat}{o:Option R}{r:R}:cb M o=some r↔o=some r/\dh M r=true:=by
 cases o with
 | none=>simp[cb]
 | some x=>
  simp only[cb];split
  ·rename_i h;constructor;intro z;cases z;exact⟨rfl,h⟩;rintro⟨z,_⟩;rw[z]
  ·rename_i h;constructor;intro z;cases z;rintro⟨z,h2⟩;cases z;exact absurd h2 h
theorem uj{fr:List (Option Nat)}{mu:List Nat}(hmu:∀j∈mu,j<fr.length)(e:En):aF mu (cG (piF fr) e)=aF (muF fr mu) e:=by
 unfold aF;show(match (jj (piF fr) e.r.k).root with|some j=>!mu.contains j|none=>true)=_;rw[lT];cases e.r.k.root with
 | none=>rfl
 | some j=>
  show(!mu.contains (piF fr j)) = !(muF fr mu).contains j;congr 1;rw[HF];simp only[Hz,decide_eq_true_eq,muF,GF];cases hc:bJ fr j
  ·rw[cu hc];constructor;intro z;have:=hmu _ z;omega;rintro⟨_,z⟩;cases z
  ·rw[dy hc];simp
theorem xz{fr:List (Option Nat)}(e:En):aF (tgF fr) (cG (piF fr) e)=true:=by
 unfold aF;show(match (jj (piF fr) e.r.k).root with|some j=>!(tgF fr).contains j|none=>true)=_;rw[lT];cases e.r.k.root with
 | none=>rfl
 | some j=>
  show(!(tgF fr).contains (piF fr j))=true;simp only[Hz,Hf,decide_eq_false_iff_not,iV];rintro⟨h1,h2⟩;cases hc:bJ fr j;rw[cu hc]at h1;omega;rw[dy hc,hc]at h2;cases h2
theorem Sim.outt{fr:List (Option Nat)}{mu:List Nat}{Oi:Rho}{Z2:St}(S:Sim Γ H' Oi Z2 (ah mu (k7 fr Z O E)))(hf:ff fr O.length=true)(hmu:∀j∈mu,j<fr.length)(hl : Oi.length=fr.length)(kp:Kp fr (cS fr Z) Z2)
  (al:∀(i:Nat) r,O[i]?=some (some r)->∃v,Z[i]?=some (some v)) (len:Z.length=O.length) (hi:∀e∈E,∀j,e.key=some j->O.length<=j):Sim Γ H' (dw fr mu Oi O) Z (ah (muF fr mu) E):=by
 have hn : O.length<=fr.length:=by unfold ff at hf;rw[Gz,decide_eq_true_eq]at hf;exact hf.1
 have val:∀{i:Nat} {w:V},bJ fr i=true->Z2[i]?=some (some w)->Z[i]?=some (some w):=λ{i w} hc h=>by
  rw[kp.2 i i (Lb.mp hc),iE hc]at h;exact getD_some.mp (GX.inj h)
 have eE:ah mu (k7 fr Z O E)=(ah (muF fr mu) (E++(aC 0 Z O).filter λe=>!eM fr e)).map (cG (piF fr)):=by
  unfold k7 ah;rw[IV];congr 1;apply List.filter_congr;intro e _;exact uj hmu e
 have s1:=(S.sl.kill (tgF fr));rw[aO,eE]at s1;have e1:ah (tgF fr) ((ah (muF fr mu) (E++(aC 0 Z O).filter λe=>!eM fr e)).map (cG (piF fr)))=(ah (muF fr mu) (E++(aC 0 Z O).filter λe=>!eM fr e)).map (cG (piF fr)):=by
  unfold ah;rw[HU];intro e he;obtain⟨f,_,rfl⟩:=GB.mp he;exact xz f
 rw[e1]at s1
 let p:En->Bool:=λe=>match e.key with
  | some k=>!(tgF fr).contains k
  | none=>true
 have kout:∀f∈E++(aC 0 Z O).filter λe=>!eM fr e,∀j,f.key=some j->bJ fr j=false:=λf hf' j hj=>by
  rcases yaM hf' with z|z
  ·cases hc:bJ fr j with
   | false=>rfl
   | true=>have:=mE hf hc;have:=hi f z j hj;omega
  ·have:=(GF.mp z).2;unfold eM at this;rw[hj]at this;simpa using this
 have pO:∀e∈(ah (muF fr mu) (E++(aC 0 Z O).filter λe=>!eM fr e)).map (cG (piF fr)),p e=true:=λe he=>by
  obtain⟨f,hf',rfl⟩:=GB.mp he;have hf'':=(GF.mp hf').1;show(match f.key.map (piF fr)with|some k=>!(tgF fr).contains k|none=>true)=true;cases hk:f.key with
  | none=>rfl
  | some j=>
   have:=kout f hf'' j hk;simp only[Iy,Hz,Hf,decide_eq_false_iff_not,iV];rw[cu this];omega
 have s2:=s1.filt p λe he _ j hj f hf' hk=>by
  show(match f.key with|some k=>!(tgF fr).contains k|none=>true)=true;rw[hk];have hm:e∈ah (tgF fr) (ah mu (k7 fr Z O E)++aC 0 Z2 Oi):=by rw[aO,eE,e1];exact he
  by_cases hj':j∈tgF fr;exact absurd hj (ko (M:=tgF fr) (i:=j) hj' e hm);simp[hj']
 rw[I9,HU.mpr pO]at s2;have s3:=s2.ren (π:=psF fr) (λe he f hf' a b ha hb hab=>by
  have key:∀e∈(ah (muF fr mu) (E++(aC 0 Z O).filter λe=>!eM fr e)).map (cG (piF fr))++(ah (tgF fr) (aC 0 Z2 Oi)).filter p,∀a,e.key=some a->(∃j,a=fr.length+j/\bJ fr j=false)\/bJ fr a=true:=λe he a ha=>by
   rcases yaM he with z|z
   ·left;obtain⟨g,hg,rfl⟩:=GB.mp z;have hg':=(GF.mp hg).1;have ha':g.key.map (piF fr)=some a:=ha;cases hk:g.key with
    | none=>rw[hk]at ha';cases ha'
    | some j=>
     have hc:=kout g hg' j hk;rw[hk]at ha';have:piF fr j=a:=by simpa using ha'
     exact⟨j,by rw[<-this,cu hc],hc⟩
   ·right;obtain⟨z1,z2⟩:=GF.mp z;obtain⟨i,h1,h2,h3⟩:=K3.mp (GF.mp z1).1;rw[ha]at h1;cases h1;have z2':(match e.key with|some k=>!(tgF fr).contains k|none=>true)=true:=z2;rw[ha]at z2';have hlt:a<fr.length:=by
     have:=(Gr.mp h2).1;omega
    simp only[Hz,Hf,decide_eq_false_iff_not,iV]at z2';cases hc:bJ fr a with
    | true=>rfl
    | false=>exact absurd ⟨hlt,hc⟩ z2'
  rcases key e he a ha with⟨j,rfl,hj⟩|hj<;>rcases key f hf' b hb with⟨j',rfl,hj'⟩|hj';unfold psF at hab;rw[if_neg (by omega),if_neg (by omega)]at hab;omega
  ·unfold psF at hab;rw[if_neg (by omega),if_pos (bB hj')]at hab;have:j=b:=by omega
   subst this;rw[hj]at hj';cases hj'
  ·unfold psF at hab;rw[if_pos (bB hj),if_neg (by omega)]at hab;have:j'=a:=by omega
   subst this;rw[hj']at hj;cases hj
  ·unfold psF at hab;rw[if_pos (bB hj),if_pos (bB hj')]at hab;exact hab)
 rw[GA,GQ]at s3;have e2:(ah (muF fr mu) (E++(aC 0 Z O).filter λe=>!eM fr e)).map (cG (psF fr)∘cG (piF fr))=ah (muF fr mu) (E++(aC 0 Z O).filter λe=>!eM fr e):=by
  conv=>rhs;rw[<-KO (ah (muF fr mu) (E++(aC 0 Z O).filter λe=>!eM fr e))]
  apply IX;intro e _;exact nq e
 rw[e2,aO,GK]at s3;have olen:(dw fr mu Oi O).length=O.length:=by unfold dw;exact jc
 have oget:∀{i:Nat} {r:R},(dw fr mu Oi O)[i]?=some (some r)↔i < O.length/\((bJ fr i=true/\∃r0,Oi[i]?=some (some r0)/\dh (tgF fr) r0=true/\r=k8 (psF fr) r0)\/(bJ fr i=false/\O[i]?=some (some r)/\dh (muF fr mu) r=true)):=λ{i r}=>by
  by_cases hlt:i < O.length
  ·unfold dw;rw[lN hlt hn hl.symm,Hk];cases hc:bJ fr i
   ·rw[if_neg (λz=>by rw[Lb.mpr z]at hc;cases hc)];rw[GX.injEq,Le];have : O.getD i none=some r↔O[i]?=some (some r):=by
     rw[GM];cases O[i]?<;>simp
    rw[this];simp[hlt]
   ·rw[if_pos (Lb.mp hc)];rw[GX.injEq,Hg];constructor
    ·rintro⟨r0,h1,h2⟩;obtain⟨h3,h4⟩:=Le.mp h1;refine⟨hlt,.inl ⟨rfl,r0,?_,h4,h2.symm⟩⟩;rw[GM]at h3;cases h5 : Oi[i]? with
     | none=>rw[h5]at h3;cases h3
     | some o=>rw[h5]at h3;have:o=some r0:=h3;rw[this]
    ·rintro⟨_,⟨_,r0,h1,h2,h3⟩|⟨z,_⟩⟩;exact⟨r0,Le.mpr ⟨by rw[GM,h1];rfl,h2⟩,h3.symm⟩;cases z
  ·constructor
   ·intro z;have:=(Gr.mp z).1;rw[olen]at this;exact absurd this hlt
   ·rintro⟨z,_⟩;exact absurd z hlt
 refine⟨s3.perm (List.Perm.append_left _ ?_),λi r h=>?_,by rw[olen];exact len,λe he j hj=>by rw[olen];exact hi e (GF.mp he).1 j hj⟩
 ·have ndA:(ah (muF fr mu) ((aC 0 Z O).filter λe=>!eM fr e)).Nodup:=K9.sublist (Ht.trans Ht);have inB:∀e∈(ah (tgF fr) (aC 0 Z2 Oi)).filter p,∃i,e.key=some i/\bJ fr i=true/\Oi[i]?=some (some e.r)/\Z2[i]?=some (some e.v)/\dh (tgF fr) e.r=true:=λe he=>by
   obtain⟨z1,z2⟩:=GF.mp he;obtain⟨z3,z4⟩:=GF.mp z1;obtain⟨i,h1,h2,h3⟩:=K3.mp z3;have z2':(match e.key with|some k=>!(tgF fr).contains k|none=>true)=true:=z2;rw[h1]at z2';have hlt:i<fr.length:=by
    have:=(Gr.mp h2).1;omega
   simp only[Hz,Hf,decide_eq_false_iff_not,iV]at z2';refine⟨i,h1,?_,h2,h3,z4⟩;cases hc:bJ fr i with
   | true=>rfl
   | false=>exact absurd ⟨hlt,hc⟩ z2'
  have ndB:(((ah (tgF fr) (aC 0 Z2 Oi)).filter p).map (cG (psF fr))).Nodup:=by
   refine i9 (K9.sublist (Ht.trans Ht)) λa ha b hb h=>?_;obtain⟨i,h1,h2,h3,h4,_⟩:=inB a ha;obtain⟨j,g1,g2,g3,g4,_⟩:=inB b hb;have hk:a.key.map (psF fr)=b.key.map (psF fr):=congrArg En.key h;rw[h1,g1]at hk;have hk':psF fr i=psF fr j:=by simpa using hk
   unfold psF at hk';rw[if_pos (bB h2),if_pos (bB g2)]at hk';subst hk';rw[h3]at g3;rw[h4]at g4;cases a;cases b;simp only at h1 g1 g3 g4;have e1:=GX.inj (GX.inj g3);have e2:=GX.inj (GX.inj g4);simp[h1,g1,e1,e2]
  refine(Jb (Gy.mpr ⟨ndA,ndB,?_⟩) K9).mpr λe=>?_
  ·rintro a ha b hb rfl;obtain⟨f,hf',hfe⟩:=GB.mp hb;obtain⟨i,h1,h2,_⟩:=inB f hf';have hk:f.key.map (psF fr)=a.key:=congrArg En.key hfe;rw[h1]at hk;have hk':a.key=some i:=by rw[<-hk];simp[psF,bB h2]
   obtain⟨y1,y2⟩:=GF.mp (GF.mp ha).1;unfold eM at y2;rw[hk']at y2;simp[h2]at y2
  ·rw[Jy,K3];constructor
   ·rintro(he|he)
    ·obtain⟨z1,z2⟩:=GF.mp he;obtain⟨z3,z4⟩:=GF.mp z1;obtain⟨i,h1,h2,h3⟩:=K3.mp z3;unfold eM at z4;rw[h1]at z4;refine⟨i,h1,oget.mpr ⟨(Gr.mp h2).1,.inr ⟨by simpa using z4,h2,z2⟩⟩,h3⟩
    ·obtain⟨f,hf',rfl⟩:=GB.mp he;obtain⟨i,h1,h2,h3,h4,h5⟩:=inB f hf';refine⟨i,?_,oget.mpr ⟨mE hf h2,.inl ⟨h2,f.r,h3,h5,rfl⟩⟩,val h2 h4⟩;show f.key.map (psF fr)=some i;rw[h1];simp[psF,bB h2]
   ·rintro⟨i,h1,h2,h3⟩;obtain⟨hlt,⟨hc,r0,g1,g2,g3⟩|⟨hc,g1,g2⟩⟩:=oget.mp h2
    ·right;obtain⟨w,hw⟩:=S.al i r0 g1;have hw':=val hc hw;rw[h3]at hw';have ew:e.v=w:=GX.inj (GX.inj hw');refine GB.mpr ⟨⟨some i,w,r0⟩,GF.mpr ⟨GF.mpr ⟨K3.mpr ⟨i,rfl,g1,hw⟩,g2⟩,?_⟩,?_⟩
     ·show(!(tgF fr).contains i)=true;simp only[Hz,Hf,decide_eq_false_iff_not,iV];rintro⟨_,z⟩;rw[hc]at z;cases z
     ·cases e;simp only at h1 g3 ew;simp[cG,h1,g3,ew,psF,bB hc]
    ·left;refine GF.mpr ⟨GF.mpr ⟨K3.mpr ⟨i,h1,g1,h3⟩,?_⟩,g2⟩;unfold eM;rw[h1];simp[hc]
 ·obtain⟨hlt,⟨hc,r0,g1,g2,g3⟩|⟨hc,g1,g2⟩⟩:=oget.mp h
  ·obtain⟨w,hw⟩:=S.al i r0 g1;exact⟨w,val hc hw⟩
  ·exact al i r g1
end
section
variable {Γ:Gm}{H H':Hp}{O:Rho}{Z:St}{E X:List En}{v x y:V}{t:T}{K:yF}{Q:VK}
theorem Sim.mkL{vs:List V}{ts:List T}{p:Addr}(S:Sim Γ H O Z (bc vs ts++E))(hl:vs.length=ts.length)(hp:H p=none):Sim Γ (upd H p (.lst vs)) O Z (⟨none,.ref p,⟨.ow,bT ts⟩⟩::E):=by
 obtain⟨F,h1,h2,h3,h4⟩:=S.use hl;have sm:=K7.laid (o:=.lst vs) hp;have np:p∉F:=λz=>by obtain⟨o,e,_⟩:=h3 p z;rw[hp]at e;cases e
 refine h4 _ (.ref p) (bT ts) (p::F) (sm.offM _) (λa ha=>let ⟨o,e,_⟩:=h3 a ha;⟨o,sm a o e⟩) (G3.mpr ⟨np,h2⟩) (λa ha=>?_) ?_
 ·rcases ycM ha with rfl|ha;exact⟨.inr hp,_,av,rfl⟩;exact⟨.inl ha,let ⟨o,e,m⟩:=h3 a ha;⟨o,sm a o e,m⟩⟩
 ·unfold bT;split
  ·rename_i is hi;rw[mJ hi]at h1;obtain⟨h5,h6⟩:=Rps.ims.mp h1;subst h6;rw[Rp];exact⟨p,vs,rfl,.inl av,h5.same sm,rfl⟩
  ·rw[Rp];exact⟨p,vs,F,rfl,.inl av,h1.same sm,rfl⟩
theorem l4{t:T}:∀{vs:List V} {ts:List T},vs.length=ts.length->bc (vs++[v]) (ts++[t])=bc vs ts++[⟨none,v,⟨.ow,t⟩⟩]
 | [],[],_=>rfl
 | a::vs,b::ts,h=>by
  rw[G7,G7,bc,bc,l4 (by simpa using h),G7]
 | [],_::_,h=>by cases h
 | _::_,[],h=>by cases h
theorem ke{M:List Nat}:∀{vs:List V} {ts:List T},ah M (bc vs ts)=bc vs ts
 | [],ts=>by cases ts<;>rfl
 | a::vs,[]=>rfl
 | a::vs,b::ts=>by rw[bc,az rfl,ke]
noncomputable def bZ(fr:List (Option Nat)) (M:List Nat) (g:MG) (c:MT) (e:ME):List R->Rho->List T->Option (List T×Rho)
 | [],O,acc=>some (acc,O)
 | r::rs,O,acc=>match g.run (k8 (piF fr) r) (inR fr O)with
  | some O1=>(match c.run O1 with
   | some (true,O2)=>(match e.run O2 with
    | some (⟨.ow,t⟩,O3)=>bZ fr M g c e rs (dw fr M O3 O) (acc++[t])
    | _=>none)
   | some (false,O2)=>bZ fr M g c e rs (dw fr M O2 O) acc
   | none=>none)
  | none=>none
theorem lM{fr:List (Option Nat)}{e:En}:k7 fr Z O (e::E)=cG (piF fr) e::k7 fr Z O E:=rfl
theorem oq{fr:List (Option Nat)}{M:List Nat}{Oi:Rho}:(dw fr M Oi O).length=O.length:=jc
theorem rM{J:It}{fr:List (Option Nat)}{g:TG}{tc:TT}{te:TE}{mg:MG}{c:MT}{e:ME}{M:List Nat}{vs:List V}{srcs:List R}{items:List R}{N:List V->Hp->Prop}(hK : Γ.K=K)(wk:fW Γ J vs srcs items)(hgk:iu fr g)(hg:jP K g mg)(hc:eY K tc c)(he:aT K te e)(hM:M=mg.mu++(c.mu++e.mu))
  (hmu:∀j∈M,j<fr.length) (ks:∀e∈ens vs srcs,aF (muF fr M) e=true) {E2:List En} (kE:ah (muF fr M) E2=E2) {tsF:List T} {OF:Rho} {acc0:List V} {ts0:List T} (hl0:acc0.length=ts0.length) (hz:acc0.length+items.length<sizeLine)
  (hf:ff fr O.length=true) (S:Sim Γ H O Z (ens vs srcs++(bc acc0 ts0++E2))) (hr:bZ fr M mg c e items O ts0=some (tsF,OF))
  (q:∀acc H',acc.length=tsF.length->acc.length<=acc0.length+items.length->OF.length=O.length->Sim Γ H' OF Z (ens vs srcs++(bc acc tsF++E2))->N acc H'):Du J (cS fr Z) g tc te acc0 H N:=by
 have kE2:∀acc ts,ah (muF fr M) (ens vs srcs++(bc acc ts++E2))=ens vs srcs++(bc acc ts++E2):=λacc ts=>by rw[aO,dB ks,aO,ke,kE]
 refine⟨λi m acc H=>m=items.length-i/\i<=items.length/\acc.length<=acc0.length+i/\∃O1 ts,bZ fr M mg c e (items.drop i) O1 ts=some (tsF,OF)/\acc.length=ts.length/\O1.length=O.length/\Sim Γ H O1 Z (ens vs srcs++(bc acc ts++E2)),⟨items.length,by simp,Ie _,by omega,O,ts0,by simpa using hr,hl0,rfl,S⟩,?_⟩;rintro i m acc H1 ⟨rfl,hil,hal,O1,ts,h1,hl,hO,S1⟩;refine⟨by omega,?_⟩;obtain⟨w1,w2⟩:=wk H1 O1 Z _ S1;by_cases hlt:i<items.length
 ·have hx:items[i]?=some items[i]:=by simp[hlt]
  obtain⟨w3,w4⟩:=w2 i _ hx;rw[Ia hlt,bZ]at h1;refine .inr ⟨w3,λacc' H'=>acc'.length<=acc0.length+(i+1)/\∃O1 ts,bZ fr M mg c e (items.drop (i+1)) O1 ts=some (tsF,OF)/\acc'.length=ts.length/\O1.length=O.length/\Sim Γ H' O1 Z (ens vs srcs++(bc acc' ts++E2)),λacc' H' ⟨ha,O3,ts3,h3,hl3,hO3,S3⟩=>⟨items.length-(i+1),by omega,rfl,hlt,ha,O3,ts3,h3,hl3,hO3,S3⟩,λx H2 y=>?_⟩;have S2:=w4 x H2 y;have hf1:ff fr O1.length=true:=by rw[hO];exact hf
  have S3:=S2.inn hf1;rw[lM]at S3;split at h1
  ·rename_i O2 e2;refine hgk x (cS fr Z) H2 (λZ2 H3=>Kp fr (cS fr Z) Z2->_) _ (λZ2 H3 z kp=>z kp) ?_;refine hg Γ H2 (inR fr O1) (cS fr Z) _ _ x _ O2 hK e2 S3 λZ2 H3 S4 kp=>?_;split at h1
   ·rename_i O3 e3;refine hc Γ H3 O2 Z2 _ _ true O3 hK e3 S4 λH4 S5=>r6 ?_;split at h1
    ·rename_i t O4 e4;refine he Γ H4 O3 Z2 _ _ _ O4 hK e4 S5 λw H5 S6=>?_;rw[ag,ag]at S6;rw[<-hM]at S6;have S7:Sim Γ H5 O4 Z2 (ah M (k7 fr Z O1 (⟨none,w,⟨.ow,t⟩⟩::(ens vs srcs++(bc acc ts++E2))))):=by
      rw[lM,az (show aF M (cG (piF fr) ⟨none,w,⟨.ow,t⟩⟩)=true from rfl)];exact S6
     have hl4 : O4.length=fr.length:=by rw[<-S6.len,kp.1,iF]
     have S8:=S7.outt hf1 hmu hl4 kp S1.al S1.len (λe' he' j hj=>by
      rcases ycM he' with rfl|he';cases hj;exact S1.hi e' he' j hj)
     rw[az (show aF (muF fr M) ⟨none,w,⟨.ow,t⟩⟩=true from rfl),kE2]at S8;refine⟨by simp;omega,_,_,h1,by simp[hl],by rw[oq,hO],?_⟩;rw[l4 hl,GK];refine S8.perm ?_;have pp:∀(A B C:List En) (x:En),(x::(A++(B++C))).Perm (A++(B++(x::C))):=λA B C x=>by
      rw[<-GK,<-GK];exact Ha.symm
     exact pp _ _ _ _
    ·cases h1
   ·rename_i O3 e3;refine hc Γ H3 O2 Z2 _ _ false O3 hK e3 S4 λH4 S5=>rZ ?_;have S6:=S5.weak e.mu;rw[ag,ag]at S6;rw[<-hM]at S6;have hl4 : O3.length=fr.length:=by rw[<-S6.len,kp.1,iF]
    have S8:=S6.outt hf1 hmu hl4 kp S1.al S1.len S1.hi;rw[kE2]at S8;exact⟨by omega,_,_,h1,hl,by rw[oq,hO],S8⟩
   ·cases h1
  ·cases h1
 ·have ei:i=items.length:=by omega
  subst ei;rw[Jn,bZ]at h1;cases h1;exact .inl ⟨w1 _ (GC _),q acc H1 hl hal hO S1⟩
noncomputable def eU(M:List Nat) (n:Nat):Bool:=M.all λj=>decide (j<n)
theorem ur{M:List Nat}{n:Nat}(h:eU M n=true):∀j∈M,j<n:=λj hj=>by
 have:=Hw.mp h j hj;simpa using this
@[irreducible] noncomputable def aH(fr:List (Option Nat))(it:MI)(g:MG)(c:MT)(e:ME):ME:=⟨λO=>match it.run O with
 | some ((srcs,items),O1)=>if(ff fr O1.length&&eU (g.mu++(c.mu++e.mu)) fr.length&&srcs.all (ax (muF fr (g.mu++(c.mu++e.mu))))&&decide (items.length<sizeLine))=true then(match bZ fr (g.mu++(c.mu++e.mu)) g c e items O1 []with
  | some (ts,O2)=>some (⟨.ow,bT ts⟩,O2)
  | none=>none)else none
 | none=>none,it.mu++muF fr (g.mu++(c.mu++e.mu))⟩
theorem oK{wi:TI}{fr:List (Option Nat)}{g:TG}{tc:TT}{te:TE}{it:MI}{mg:MG}{c:MT}{e:ME}(hi:jQ K wi it)(hgk:iu fr g)(hg:jP K g mg)(hc:eY K tc c)(he:aT K te e):aT K (wy wi fr g tc te) (aH fr it mg c e):=by
 intro Γ H O Z E Q r O' hK hr S q;simp only[aH]at hr q;split at hr
 ·rename_i srcs items O1 e1;split at hr
  ·rename_i hb;simp only[Gz,decide_eq_true_eq]at hb;obtain⟨⟨⟨b1,b2⟩,b3⟩,b5⟩:=hb;split at hr
   ·rename_i ts O2 e2;cases hr;refine hi Γ H O Z E _ srcs items O1 hK e1 S λΓ hK2 bk J vs H1 hlv S1 wk=>?_;replace hK:=hK2.trans hK;replace q:=λv H' S=>q v H' (bk _ _ _ _ S);rw[<-ag]at q;generalize ah it.mu E=E1 at q S1;have ks:∀e'∈ens vs srcs,aF (muF fr (mg.mu++(c.mu++e.mu))) e'=true:=jY b3;have S2:=S1.weak (muF fr (mg.mu++(c.mu++e.mu)));rw[aO,dB ks]at S2;have kE:=eT (M:=muF fr (mg.mu++(c.mu++e.mu))) (N:=muF fr (mg.mu++(c.mu++e.mu))) (λj hj=>hj) E1;generalize ah (muF fr (mg.mu++(c.mu++e.mu))) E1=E2 at q S2 kE;refine rM (acc0:=[]) (ts0:=[]) hK wk hgk hg hc he rfl (ur b2) ks kE rfl (by simpa using b5) b1 S2 e2 λacc H' hl _ _ S3 d hd=>?_;exact q _ _ (S3.drops.mkL hl hd)
   ·cases hr
  ·cases hr
 ·cases hr
end
section
variable {Γ:Gm}{H H':Hp}{L:List Hd}{O:Rho}{Z:St}{E X:List En}{v w x y:V}{t s:T}{K:yF}{Q:VK}
theorem GW.stepN{hs ns:List Hd}(G:GW Γ H (hs++L))(ho:∀h∈hs,h.e.r.k.isOw=true)(hr:∀g∈L,∀h∈hs,∀j,h.e.key=some j->g.e.r.k.root≠some j)
  (off:KZ (hs.flatMap (·.F)) H H') (dom:∀a∈hs.flatMap (·.F),∃o,H' a=some o) (nd:(ns.flatMap (·.F)).Nodup) (hF:∀a∈ns.flatMap (·.F),(a∈hs.flatMap (·.F)\/H a=none)/\Mu H' a) (hp:∀n∈ns,Rp Γ.K H' n.e.r.t n.e.v n.F)
  (hk:∀n∈ns,(n.e.r.k=.ow/\∀a∈n.F,H a=none \/ ∃h∈hs,h.e.r.k=.ow/\a∈h.F) \/ ∃k,n.e.r.k=.io k/\Γ.iov[k]?=some n.e.v) (hkey:((ns++L).filterMap λh=>h.e.key).Nodup):GW Γ H' (ns++L):=by
 have iow:∀n∈ns,n.e.r.k.isOw=true:=λn hn=>by rcases hk n hn with⟨e,_⟩|⟨k,e,_⟩<;>rw[e]<;>rfl
 have eo:=gb ho;have en:=gb iow;have G':=G.nd;rw[GJ,eo]at G';have nd1:=(Gy.mp G').2.1;have dj:=(Gy.mp G').2.2;have adL:∀a∈L.flatMap Hd.own,Mu H a/\(Γ.H0 a=none\/a ∈ Γ.io):=λa ha=>G.ad a (by rw[GJ];exact yaR _ ha);have adM:∀a∈hs.flatMap (·.F),Mu H a/\(Γ.H0 a=none\/a ∈ Γ.io):=λa ha=>G.ad a (by rw[GJ,eo];exact yaL _ ha);have ap:=G.apart hr ho;have apM:∀g∈L,∀a∈g.F,a∉hs.flatMap (·.F):=λg hg a ha hm=>by
  obtain⟨h,hh,hah⟩:=Hs.mp hm;exact ap g hg a ha h hh hah
 refine⟨?_,λa ha=>?_,λx hx=>?_,λx hx=>?_,hkey,λb o e n=>?_,λa ha=>?_⟩
 ·rw[GJ,en];refine Gy.mpr ⟨nd,nd1,λa ha b hb=>?_⟩;rintro rfl;rcases(hF a ha).1 with z|z;exact dj a z a hb rfl
  ·obtain⟨o,e,_⟩:=(adL a hb).1;rw[z]at e;cases e
 ·rw[GJ,en]at ha;rcases yaM ha with ha|ha
  ·refine⟨(hF a ha).2,?_⟩;rcases(hF a ha).1 with z|z;exact(adM a z).2;exact .inl (G.new0 z)
  ·obtain⟨⟨o,e,m⟩,z⟩:=adL a ha;exact⟨⟨o,off a o e λhm=>dj a hm a ha rfl,m⟩,z⟩
 ·rcases yaM hx with hx|hx;exact hp x hx;exact(G.rp x (yaR _ hx)).off off (λa ha=>(adM a ha).1) (apM x hx)
 ·rcases yaM hx with hx|hx
  ·unfold K2;rcases hk x hx with⟨e,eh⟩|⟨k,e,ek⟩
   ·simp only[e];intro a ha;rcases eh a ha with z|⟨h,hh,he,hah⟩;exact G.new0 z
    ·have q:=G.kd h (yaL _ hh);unfold K2 at q;rw[he]at q;exact q a hah
   ·simp only[e];exact ek
  ·have k:=G.kd x (yaR _ hx);have st:∀a∈x.F,a∉(hs++L).flatMap Hd.own->a∉(ns++L).flatMap Hd.own:=λa ha n z=>by
    rw[GJ,en]at z;rcases yaM z with z|z
    ·rcases(hF a z).1 with w|w;exact n (by rw[GJ,eo];exact yaL _ w)
     ·obtain⟨o,e⟩:=(G.rp x (yaR _ hx)).dom a ha;rw[w]at e;cases e
    ·exact n (by rw[GJ];exact yaR _ z)
   unfold K2 at k|-;split at k;exact k;exact k;exact λa ha=>st a ha (k a ha)
   ·rename_i j p e;obtain⟨g,h1,h2,h3,h4,h5⟩:=k;rcases yaM h1 with hg|hg;exact absurd (by rw[e];rfl) (hr x hx g hg j h2)
    ·refine⟨g,yaR _ hg,h2,h3,λa ha=>(h4 a ha).imp id (st a ha),λq hq=>⟨(h5 q hq).1,?_⟩⟩;exact me off (F:=g.F) (apM g hg) (G.muF (yaR _ hg) h3) (λa ha=>ha) (G.ndF (yaR _ hg) h3) (G.rp g (yaR _ hg)) (h5 q hq).1 (h5 q hq).2
 ·refine off b o (G.fr b o e n) λhm=>?_;rcases(adM b hm).2 with z|z;rw[z]at e;cases e;exact n z
 ·obtain⟨o,e⟩:=G.iol a ha;by_cases hm:a∈hs.flatMap (·.F);exact dom a hm;exact⟨o,off a o e hm⟩
theorem GW.uniq(g:GW Γ H L){x z:Hd}{i:Nat}(x1:x∈L)(hz:z∈L)(x2:x.e.key=some i)(z2:z.e.key=some i):x=z:=by
 have nk:=g.ks;by_cases q:x=z;exact q
 ·exfalso;obtain⟨A,B,rfl⟩:=IG x1;rw[GV,GS,x2]at nk;rcases yaM hz with hz|hz;exact(Gy.mp nk).2.2 i (G5.mpr ⟨z,hz,z2⟩) i ymS rfl
  ·rcases ycM hz with hz|hz;exact q hz.symm;exact(G3.mp (Gy.mp nk).2.1).1 (G5.mpr ⟨z,hz,z2⟩)
theorem Sim.place{i:Nat}{p:List Ac}{r:R}{v0:V}(S:Sim Γ H O Z E)(he:(⟨none,w,⟨.vw (some i) (some p),s⟩⟩:En)∈E)(h : O[i]?=some (some r))(hv:Z[i]?=some (some v0)):r.t.sub p=some s/\atP Γ.K H v0 p w:=by
 obtain⟨v1,hv1,hm⟩:=S.slot h;rw[hv]at hv1;cases hv1;obtain⟨L,g,e⟩:=S.sl;have h1:(⟨none,w,⟨.vw (some i) (some p),s⟩⟩:En)∈L.map (·.e):=by rw[e];exact yaL _ he
 obtain⟨y,hy,ey⟩:=GB.mp h1;have kd:=g.kd y hy;unfold K2 at kd;rw[ey]at kd;obtain⟨x,x1,x2,x3,x4,x5⟩:=kd;have hm':(⟨some i,v0,r⟩:En)∈L.map (·.e):=by rw[e];exact hm
 obtain⟨z,hz,ez⟩:=GB.mp hm';have:=g.uniq x1 hz x2 (by rw[ez]);subst this;have:=x5 p rfl;rw[ez]at this;exact this
theorem KW.dropsN:∀{A X:List En},KW Γ H (A++X)->(∀e∈A,e.key=none)->KW Γ H X
 | [],_,S,_=>S
 | a::A,X,S,h=>KW.dropsN (KW.drop S (h a ymS)) λe he=>h e (ymC _ he)
theorem my:∀{vs:List V} {rs:List R} {m:Nat} {r:R} {x:V},rs[m]?=some r->vs[m]?=some x->(⟨none,x,r⟩:En)∈ens vs rs
 | [],_,m,_,_,_,h=>by simp at h
 | _::_,[],m,_,_,h,_=>by simp at h
 | v::vs,r0::rs,0,r,x,h1,h2=>by simp at h1 h2;subst h1 h2;exact ymS
 | v::vs,r0::rs,m+1,r,x,h1,h2=>ymC _ (my (by simpa using h1) (by simpa using h2))
theorem qB:∀{vs:List V} {rs:List R} {e:En},e∈ens vs rs->e.key=none
 | [],rs,e,h=>by cases rs<;>cases h
 | _::_,[],e,h=>by cases h
 | v::vs,r::rs,e,h=>by
  rcases ycM h with rfl|h;rfl;exact qB h
theorem Sim.io{vs:List V}{rs:List R}{k i:Nat}{p:List Ac}{kd:Kd}{t0:T}(S:Sim Γ H O Z (ens vs rs++E))(hk:rs[k]?=some ⟨.vw (some i) (some p),s⟩)(hw:vs[k]?=some w)(hal:∀m r,m≠k->rs[m]?=some r->ax [i] r=true)(h : O[i]?=some (some ⟨kd,t0⟩))(ho:kd.isOw=true) :
  ∃G,Rp Γ.K H s w G/\G.Nodup/\(∀a∈G,Mu H a)/\(∀m r x,m≠k->rs[m]?=some r->vs[m]?=some x->∃F,Rp Γ.K H r.t x F/\∀a∈F,a∉G) /\
  ∀H' s' v t F G',KZ G H H'->(∀a∈G,∃o,H' a=some o)->(F++G').Nodup->(∀a∈F,H a=none/\Mu H' a)->(∀a∈G',(a∈G\/H a=none)/\Mu H' a)->Rp Γ.K H' s' w G'->Rp Γ.K H' t v F->Sim Γ H' ((aq [i] O).set i (some ⟨kd,t0.put p s'⟩)) Z (⟨none,v,⟨.ow,t⟩⟩::ah [i] E):=by
 have hil:i < O.length:=(Gr.mp h).1;obtain⟨v0,hv0,h1,h2,h3⟩:=S.out h ho;have pl:=S.place (yaL _ (my hk hw)) h hv0;obtain⟨L,g,eL⟩:=h1;obtain⟨x,L',rfl,ex,eL'⟩:=aK eL;have hox:x.e.r.k.isOw=true:=by rw[ex];exact ho
 have nx:=g.ndF ymS hox;have mx:=g.muF ymS hox;have hsub:x.e.r.t.sub p=some s:=by rw[ex];exact pl.1
 obtain⟨w',A,G,B,z1,z2,z3,z4⟩:=(g.rp x ymS).atP mx nx hsub;have ew:w'=w:=by rw[ex]at z1;exact iz z1 pl.2
 subst ew;have inG:∀a∈G,a∈x.F:=λa ha=>by rw[z3];exact yaL _ (yaR _ ha)
 have ndx:=nx;rw[z3]at ndx;have ndA:=Gy.mp ndx;have ndG:=Gy.mp ndA.1;have keyL:∀g∈L',g.e.key≠some i:=λy hy=>h3 y.e (by rw[<-eL'];exact G8 hy);have rootL:∀g∈L',g.e.r.k.root≠some i:=λy hy=>h2 y.e (by rw[<-eL'];exact G8 hy);have ap:=GW.apart (hs:=[x]) (L:=L') g (λy hy z hz j hj=>by rw[ysM hz,ex]at hj;cases hj;exact rootL y hy) (λz hz=>by rw[ysM hz];exact hox);refine⟨G,z2,ndG.2.1,λa ha=>mx a (inG a ha),λm r y hm hr hy=>?_,λH' s' v t F G' off dom nd hF hG rp' rpt=>?_⟩
 ·have hmem:(⟨none,y,r⟩:En)∈ah [i] (ens vs rs++E):=GF.mpr ⟨yaL _ (my hr hy),hal m r hm hr⟩;have hmem2:(⟨none,y,r⟩:En)∈L'.map (·.e):=by rw[eL'];exact yaL _ hmem
  obtain⟨z,hz,ez⟩:=GB.mp hmem2;have rz:=g.rp z (ymC _ hz);rw[ez]at rz;exact⟨z.F,rz,λa ha hg=>ap z hz a ha x ymS (inG a hg)⟩
 ·have apAB:∀a,(a∈A\/a∈B)->a∉G:=λa ha hm=>by
   rcases ha with q|q;exact ndG.2.2 a q a hm rfl;exact ndA.2.2 a (yaR _ hm) a q rfl
  have inAB:∀a,(a∈A\/a∈B)->a∈x.F:=λa ha=>by
   rw[z3];rcases ha with q|q;exact yaL _ (yaL _ q);exact yaR _ q
  have rp2:=z4 H' s' G' off rp';have nFG:=Gy.mp nd;have oldAB:∀a,(a∈A\/a∈B)->H a≠none:=λa ha z=>by obtain⟨o,e1,_⟩:=mx a (inAB a ha);rw[z]at e1;cases e1
  have nG':∀a,(a∈A\/a∈B)->a∉G':=λa ha hg=>by
   rcases(hG a hg).1 with z|z;exact apAB a ha z;exact oldAB a ha z
  have ndR:(A++G'++B).Nodup:=by
   refine Gy.mpr ⟨Gy.mpr ⟨ndG.1,nFG.2.1,λa ha b hb e=>nG' a (.inl ha) (e▸hb)⟩,ndA.2.1,λa ha b hb e=>?_⟩;subst e;rcases yaM ha with z|z;exact ndA.2.2 a (yaL _ z) a hb rfl;exact nG' a (.inr hb) z
  have memR:∀a∈A++G'++B,(a∈x.F\/H a=none)/\Mu H' a:=λa ha=>by
   have old:a∈A\/a∈B->(a∈x.F\/H a=none)/\Mu H' a:=λq=>by
    obtain⟨o,e1,m1⟩:=mx a (inAB a q);exact⟨.inl (inAB a q),o,off a o e1 (apAB a q),m1⟩
   rcases yaM ha with z|z
   ·rcases yaM z with z|z;exact old (.inl z);exact⟨(hG a z).1.imp (inG a) id,(hG a z).2⟩
   ·exact old (.inr z)
  have st:=GW.stepN (hs:=[x]) (L:=L') (H':=H') (ns:=[⟨⟨none,v,⟨.ow,t⟩⟩,F⟩,⟨⟨some i,v0,⟨kd,t0.put p s'⟩⟩,A++G'++B⟩]) g (λz hz=>by rw[ysM hz];exact hox) (λy hy z hz j hj=>by rw[ysM hz,ex]at hj;cases hj;exact rootL y hy)
   (by simpa using off.mono inG) (λa ha=>by
    have ha':a∈x.F:=by simpa using ha
    by_cases hg:a∈G;exact dom a hg;obtain⟨o,e1,_⟩:=mx a ha';exact⟨o,off a o e1 hg⟩)
   (by
    simp only[GH,IM,GZ];refine Gy.mpr ⟨nFG.1,ndR,λa ha b hb e=>?_⟩;subst e;rcases yaM hb with z|z
    ·rcases yaM z with z|z;exact oldAB a (.inl z) (hF a ha).1;exact nFG.2.2 a ha a z rfl
    ·exact oldAB a (.inr z) (hF a ha).1)
   (λa ha=>by
    simp only[GH,IM,GZ]at ha|-;rcases yaM ha with z|z;exact⟨.inr (hF a z).1,(hF a z).2⟩;exact memR a z)
   (λn hn=>by
    rcases ycM hn with rfl|hn;exact rpt;rw[ysM hn];rw[ex]at rp2;exact rp2)
   (λn hn=>by
    rcases ycM hn with rfl|hn;exact .inl ⟨rfl,λa ha=>.inl (hF a ha).1⟩
    ·rw[ysM hn];have kx:=g.kd x ymS;unfold K2 at kx;rw[ex]at kx;cases kd with
     | ow=>exact .inl ⟨rfl,λa ha=>(memR a ha).1.elim (λz=>.inr ⟨x,ymS,by rw[ex],z⟩) .inl⟩
     | io n=>exact .inr ⟨n,rfl,kx⟩
     | vw a b=>cases ho)
   (by
    have ks:=g.ks;rw[GS,ex]at ks;exact ks)
  have S2:=S.kill [i];have SL:KW Γ H' (⟨none,v,⟨.ow,t⟩⟩::⟨some i,v0,⟨kd,t0.put p s'⟩⟩::(ah [i] (ens vs rs++E)++aC 0 Z ((aq [i] O).set i none))):=⟨_,st,by rw[GA,eL'];rfl⟩;have SL2:KW Γ H' (⟨none,v,⟨.ow,t⟩⟩::⟨some i,v0,⟨kd,t0.put p s'⟩⟩::(ah [i] E++aC 0 Z ((aq [i] O).set i none))):=by
   rw[aO,GK]at SL;have pp:(⟨none,v,⟨.ow,t⟩⟩::⟨some i,v0,⟨kd,t0.put p s'⟩⟩::(ah [i] (ens vs rs)++(ah [i] E++aC 0 Z ((aq [i] O).set i none)))).Perm (ah [i] (ens vs rs)++(⟨none,v,⟨.ow,t⟩⟩::⟨some i,v0,⟨kd,t0.put p s'⟩⟩::(ah [i] E++aC 0 Z ((aq [i] O).set i none)))):=by
    refine List.Perm.trans ?_ (Ha.symm);refine List.Perm.cons _ ?_;exact Ha.symm
   exact(SL.perm pp).dropsN λe he=>qB (GF.mp he).1
  refine S2.back (E':=⟨none,v,⟨.ow,t⟩⟩::ah [i] E) (SL2.perm ?_) (by simp[aM]) rfl (λm r' hm=>?_) (λe he j hj=>?_)
  ·have pq:=(fY (k:=0) (Z:=Z) (O:=aq [i] O) (v:=v0) (r:=⟨kd,t0.put p s'⟩) (by rw[S.len];exact hil) (by rw[aM];exact hil)).append_left (ah [i] E);rw[Hk]at pq;have eZ:Z.set i (some v0)=Z:=by
    apply Ig;intro m;by_cases hm:m=i;subst hm;rw[hv0];simp[S.len,hil];rw[GO (LO hm)]
   rw[eZ]at pq;rw[G7];exact List.Perm.cons _ ((Ha.symm).trans pq.symm)
  ·by_cases e:m=i;subst e;exact⟨v0,hv0⟩;rw[GO (LO e)]at hm;exact S2.al m r' hm
  ·rcases ycM he with rfl|he;cases hj;rw[aO];exact yaR _ he
def spP(K:yF)(run:List T->Option T):Sp:=λvs H Q _=>∃ts t,Lf K H ts vs/\run ts=some t/\∀v H',New K H H' t v->Q v H'
def spI(K:yF)(k:Nat)(run:List T->Option (T×T)):Sp:=λvs H Q _=>∃ts s w G t s',vs.length=ts.length/\vs[k]?=some w/\ts[k]?=some s/\Rp K H s w G/\G.Nodup/\(∀a∈G,Mu H a)/\(∀(m:Nat) x u,m≠k->vs[m]?=some x->ts[m]?=some u->∃F,Rp K H u x F/\∀a∈F,a∉G)/\run ts=some (t,s') /\
 ∀v H' F G',KZ G H H'->(∀a∈G,∃o,H' a=some o)->(F++G').Nodup->(∀a∈F,H a=none/\Mu H' a)->(∀a∈G',(a∈G\/H a=none)/\Mu H' a)->Rp K H' s' w G'->Rp K H' t v F->Q v H'
theorem sP{run:List T->Option T}{ta:TA}{a:MA}(ha:eK K ta a):aT K (l0 (spP K run) [] E0 ta) (mB run a):=by
 have e:l0 (spP K run) [] E0 ta=tCB (λvs H Q=>spP K run vs H Q E0) ta:=by
  funext Z H Q;show(ta Z H λvs H1=>spP K run (vs++[]) H1 Q E0)=_;simp only[GZ];rfl
 rw[e];exact vM (λH vs ts t Q r e q=>⟨ts,t,r,e,q⟩) ha
@[irreducible] noncomputable def ak(k j:Nat)(run:List T->Option (T×T))(a:MA):ME:=⟨λO=>match a.run O with
 | some (rs,O1)=>(match rs[k]? with
  | some ⟨.vw (some i) (some p),_⟩=>if(decide (i=j)&&(G9 rs.length).all λm=>decide (m=k)||ax [j] (rs.getD m ⟨.ow,.im .non⟩))=true then(match run (rs.map (·.t))with
   | some (t,s')=>(match O1[j]? with
    | some (some ⟨kd,t0⟩)=>if kd.isOw=true then some (⟨.ow,t⟩,(aq [j] O1).set j (some ⟨kd,t0.put p s'⟩))else none
    | _=>none)
   | none=>none)else none
  | _=>none)
 | none=>none,a.mu++[j]⟩
theorem sO{k j:Nat}{run:List T->Option (T×T)}{ta:TA}{a:MA}(ha:eK K ta a):aT K (l0 (spI K k run) [] E0 ta) (ak k j run a):=by
 intro Γ H O Z E Q r O' hK hr S q;show ta Z H λvs H1=>spI K k run (vs++[]) H1 Q E0;simp only[GZ];simp only[ak]at hr q;split at hr
 ·rename_i rs O1 e1;split at hr
  ·rename_i i p s e2;split at hr
   ·rename_i hb;rw[Gz,decide_eq_true_eq]at hb;obtain⟨rfl,hal⟩:=hb;split at hr
    ·rename_i t s' e3;split at hr
     ·rename_i kd t0 e4;split at hr
      ·rename_i ho;cases hr;refine ha Γ H O Z E _ rs O1 hK e1 S λvs H1 hl S1=>?_;have hkl:k<rs.length:=(Gr.mp e2).1;obtain⟨w,hw⟩:∃w,vs[k]?=some w:=⟨vs[k],by simp[hl,hkl]⟩;have hal':∀m r,m≠k->rs[m]?=some r->ax [i] r=true:=λm r hm hr=>by
        have hml:=(Gr.mp hr).1;have:=Hw.mp hal m (HW.mpr hml);rw[GM,hr]at this;simpa[hm]using this
       obtain⟨G,g1,g2,g3,g4,g5⟩:=S1.io e2 hw hal' e4 ho;rw[hK]at g1;refine⟨rs.map (·.t),s,w,G,t,s',by rw[Gv,hl],hw,by rw[GE,e2];rfl,g1,g2,g3,λm x u hm hx hu=>?_,e3,λv H' F G' a1 a2 a3 a4 a5 a6 a7=>q v H' ?_⟩
       ·rw[GE]at hu;cases hr:rs[m]? with
        | none=>rw[hr]at hu;cases hu
        | some r=>
         rw[hr]at hu;cases hu;have:=g4 m r x hm hr hx;rw[hK]at this;exact this
       ·rw[<-hK]at a6 a7;have:=g5 H' s' v t F G' a1 a2 a3 a4 a5 a6 a7;rw[ag]at this;exact this
      ·cases hr
     ·cases hr
    ·cases hr
   ·cases hr
  ·cases hr
 ·cases hr
noncomputable def roR:T->R
 | .im i=>⟨.ow,.im i⟩
 | t=>⟨.vw none none,t⟩
noncomputable def cM(ts:List T) (n:Nat):Rho:=(ts.map λt=>some (roR t))++Gx (n-ts.length) none
theorem hU:∀(k n m:Nat),aC k (Gx n none) (Gx m none)=[]
 | _,0,_=>rfl
 | _,n+1,0=>rfl
 | k,n+1,m+1=>by simp only[Hc,aC];exact hU (k+1) n m
theorem qY{H0:Hp}{io:List Addr}{iov:List V}(n m:Nat):∀{ts:List T} {vs:List V} {k:Nat},Lf K H ts vs->∃L:List Hd,L.map (·.e)=aC k (vs.map some++Gx n none) ((ts.map λt=>some (roR t))++Gx m none)/\L.flatMap Hd.own=[]/\(∀h∈L,Rp K H h.e.r.t h.e.v h.F)/\(∀h∈L,(h.e.r.k=.ow/\h.F=[])\/h.e.r.k=.vw none none)
 | [],vs,k,r=>by
  rw[Lf]at r;subst r;exact⟨[],by simp[hU],rfl,by simp,by simp⟩
 | t::ts,vs,k,r=>by
  obtain⟨v,vr,rfl,⟨F,r1⟩,r2⟩:=r;obtain⟨L,h1,h2,h3,h4⟩:=qY (H0:=H0) (io:=io) (iov:=iov) n m (k:=k+1) r2;have hroR:∃F',Rp K H (roR t).t v F'/\(((roR t).k=.ow/\F'=[])\/(roR t).k=.vw none none):=by
   cases t with
   | im i=>exact⟨[],hC (aZ r1).1,.inl ⟨rfl,rfl⟩⟩
   | _=>exact⟨F,r1,.inr rfl⟩
  obtain⟨F',g1,g2⟩:=hroR;refine⟨⟨⟨some k,v,roR t⟩,F'⟩::L,by simp[aC,h1],?_,λh hh=>?_,λh hh=>?_⟩
  ·rw[GH,h2,GZ];unfold Hd.own;rcases g2 with⟨e,rfl⟩|e;simp;rw[show(⟨⟨some k,v,roR t⟩,F'⟩:Hd).e.r.k=(roR t).k from rfl,e];rfl
  ·rcases ycM hh with rfl|hh;exact g1;exact h3 h hh
  ·rcases ycM hh with rfl|hh
   ·rcases g2 with⟨e,rfl⟩|e;exact .inl ⟨e,rfl⟩;exact .inr e
   ·exact h4 h hh
theorem Lf.length:∀{ts:List T} {vs:List V},Lf K H ts vs->vs.length=ts.length
 | [],vs,r=>by rw[Lf]at r;subst r;rfl
 | t::ts,vs,r=>by obtain⟨v,vr,rfl,_,r2⟩:=r;rw[GI,GI,Lf.length r2]
theorem oQ{ts:List T}{vs:List V}{n m:Nat}(hl:vs.length=ts.length)(i:Nat)(r:R)(h:((ts.map λt=>some (roR t))++Gx m none)[i]?=some (some r)):∃v,(vs.map some++Gx n none)[i]?=some (some v):=by
 have hi:i<ts.length:=by
  by_cases e:i<ts.length;exact e
  ·rw[Hm (by simp;omega),Jj]at h;split at h<;>cases h
 refine⟨vs[i],?_⟩;rw[Hi (by simp;omega),GE];simp[hl,hi]
theorem qC{k:Nat}:((aC k Z O).filterMap λe=>e.key).Nodup:=by
 have:=mz (k:=k) (Z:=Z) (O:=O);refine List.Pairwise.filterMap (R:=λa b=>∃i j,a.key=some i/\b.key=some j/\i<j) (λe:En=>e.key) (λa a' ⟨i,j,h1,h2,h3⟩ b hb b' hb'=>?_) this;rw[h1]at hb;rw[h2]at hb';cases hb;cases hb';omega
theorem zg{ts:List T}{vs:List V}{N:List Str}(r:Lf K H ts vs):Sim ⟨K,H,[],[]⟩ H (cM ts N.length) (bG N vs) []:=by
 obtain⟨L,h1,h2,h3,h4⟩:=qY (H0:=H) (io:=[]) (iov:=[]) (N.length-vs.length) (N.length-ts.length) (k:=0) r;refine⟨⟨L,⟨by rw[h2];exact HN,by rw[h2];simp,h3,λh hh=>?_,?_,λb o e _=>e,by simp⟩,by rw[h1];rfl⟩,λi r' h=>oQ r.length i r' h,?_,by simp⟩
 ·unfold K2;rcases h4 h hh with⟨e,eF⟩|e;rw[e,eF];simp;rw[e,h2];simp
 ·have:(L.filterMap λh=>h.e.key)=(L.map (·.e)).filterMap λe=>e.key:=by rw[Ir];rfl
  rw[this,h1];exact qC
 ·simp[bG,cM,r.length]
noncomputable def cN(m:MS) (n:Nat) (ts:List T):Option T:=match m.run (cM ts n)with
 | some (.rt t,_)=>some t
 | some (.nx,_)=>some (.im .non)
 | _=>none
theorem zL{H0:Hp}(S:Sim ⟨K,H0,[],[]⟩ H' O Z [⟨none,v,⟨.ow,t⟩⟩]):New K H0 H' t v:=by
 obtain⟨L,g,e⟩:=S.sl;obtain⟨x,L',rfl,ex,_⟩:=aK e;have rp:=g.rp x ymS;rw[ex]at rp;have kd:=g.kd x ymS;unfold K2 at kd;rw[ex]at kd;have ho:x.e.r.k.isOw=true:=by rw[ex];rfl
 exact⟨λb o h=>g.fr b o h (by simp),x.F,rp,g.ndF ymS ho,λa ha=>⟨kd a ha,g.muF ymS ho a ha⟩⟩
theorem Def.mp{P:LM}{W:LU}{mg:Str->Option LB}{base:Heap}{k:Nat}{name:Str}{st:Stmt}{N ps:List Str}(d:Def K mg name st ps)(S:KT N ps (aj st)){m:MS}
  (hbody:∀(f:Addr) (cdv:LB) (A:LQ) (outer:List Env) (s:LD) (H:Hp) (E:XK),K8 k (A.deeper (Nz name (aj st) s.heap.objs.size f cdv))->Dw (kU CX0 P W K mg base N name (aj st) f cdv A outer s H E).nox (br st) m)
  {run:List T->Option T} (hrun:∀ts,run ts=if ts.length=ps.length then cN m N.length ts else none):Has P W K mg base (k+1) name ps (spP K run):=by
 refine d.has S (λvs H Q E h=>?_) (λf cdv A outer s H vs Q E hr h=>?_)
 ·obtain⟨ts,t,r,e,_⟩:=h;rw[hrun]at e;split at e;rename_i hl;rw[r.length,hl];cases e
 ·obtain⟨ts,t,r,e,q⟩:=h;rw[hrun]at e;split at e
  ·obtain⟨tS,p1,p2⟩:=hbody f cdv A outer s H E hr;refine⟨tS,p1,?_⟩;have S0:=zg (N:=N) r;unfold cN at e;split at e
   ·rename_i t0 O' e1;cases e;exact p2 ⟨K,H,[],[]⟩ H _ _ [] _ _ O' rfl (by simp) e1 S0 λv Z' H' S1=>q v H' (zL S1)
   ·rename_i O' e1;cases e;exact p2 ⟨K,H,[],[]⟩ H _ _ [] _ .nx O' rfl (by simp) e1 S0 λZ' H' S1=>q .non H' (zL (S1.imm bM))
   ·cases e
  ·cases e
noncomputable def fu(k:Nat) (ts:List T) (n:Nat):Rho:=(cM ts n).set k (some ⟨.io 0,ts.getD k (.im .non)⟩)
noncomputable def eH(m:MS) (k n:Nat) (ts:List T):Option (T×T):=match m.run (fu k ts n)with
 | some (.rt t,O')=>(match O'[k]? with
  | some (some ⟨.io 0,s'⟩)=>some (t,s')
  | _=>none)
 | some (.nx,O')=>(match O'[k]? with
  | some (some ⟨.io 0,s'⟩)=>some (.im .non,s')
  | _=>none)
 | _=>none
theorem oP{G:List Addr}(n m:Nat):∀{ts:List T} {vs:List V} {k:Nat},vs.length=ts.length->(∀(i:Nat) x u,vs[i]?=some x->ts[i]?=some u->∃F,Rp K H u x F/\∀a∈F,a∉G)->∃L:List Hd,L.map (·.e)=aC k (vs.map some++Gx n none) ((ts.map λt=>some (roR t))++Gx m none)/\L.flatMap Hd.own=[]/\(∀h∈L,Rp K H h.e.r.t h.e.v h.F/\∀a∈h.F,a∉G)/\(∀h∈L,(h.e.r.k=.ow/\h.F=[])\/h.e.r.k=.vw none none)
 | [],[],k,_,_=>⟨[],by simp[hU],rfl,by simp,by simp⟩
 | t::ts,v::vs,k,hl,r=>by
  obtain⟨F,r1,r1'⟩:=r 0 v t rfl rfl;obtain⟨L,h1,h2,h3,h4⟩:=oP (G:=G) n m (ts:=ts) (vs:=vs) (k:=k+1) (by simpa using hl) (λi x u hx hu=>r (i+1) x u (by simpa using hx) (by simpa using hu));have hroR:∃F',Rp K H (roR t).t v F'/\(∀a∈F',a∉G)/\(((roR t).k=.ow/\F'=[])\/(roR t).k=.vw none none):=by
   cases t with
   | im i=>exact⟨[],hC (aZ r1).1,by simp,.inl ⟨rfl,rfl⟩⟩
   | _=>exact⟨F,r1,r1',.inr rfl⟩
  obtain⟨F',g1,g1',g2⟩:=hroR;refine⟨⟨⟨some k,v,roR t⟩,F'⟩::L,by simp[aC,h1],?_,λh hh=>?_,λh hh=>?_⟩
  ·rw[GH,h2,GZ];unfold Hd.own;rcases g2 with⟨e,rfl⟩|e;simp;rw[show(⟨⟨some k,v,roR t⟩,F'⟩:Hd).e.r.k=(roR t).k from rfl,e];rfl
  ·rcases ycM hh with rfl|hh;exact⟨g1,g1'⟩;exact h3 h hh
  ·rcases ycM hh with rfl|hh
   ·rcases g2 with⟨e,rfl⟩|e;exact .inl ⟨e,rfl⟩;exact .inr e
   ·exact h4 h hh
 | [],_::_,_,h,_=>by cases h
 | _::_,[],_,h,_=>by cases h
theorem zf{ts:List T}{vs:List V}{N:List Str}{k:Nat}{G:List Addr}(hl:vs.length=ts.length)(hw:vs[k]?=some w)(hs:ts[k]?=some s)(rp:Rp K H s w G)(nd:G.Nodup)(mu:∀a∈G,Mu H a)(ro:∀(m:Nat) x u,m≠k->vs[m]?=some x->ts[m]?=some u->∃F,Rp K H u x F/\∀a∈F,a∉G):Sim ⟨K,H,G,[w]⟩ H (fu k ts N.length) (bG N vs) []:=by
 have hkl:k<ts.length:=(Gr.mp hs).1;have hl':(vs.set k .non).length=(ts.set k (.im .non)).length:=by simp[hl]
 obtain⟨L,h1,h2,h3,h4⟩:=oP (K:=K) (H:=H) (G:=G) (N.length-vs.length) (N.length-ts.length) (ts:=ts.set k (.im .non)) (vs:=vs.set k .non) (k:=0) hl' (λm x u hx hu=>by
  by_cases e:m=k
  ·subst e;simp[hl,hkl]at hx hu;subst hx hu;exact⟨[],hC bM,by simp⟩
  ·rw[GO (LO e)]at hx hu;exact ro m x u e hx hu)
 have eZ:(vs.set k .non).map some++Gx (N.length-vs.length) none=(bG N vs).set k (some .non):=by
  unfold bG;rw[JK _ _ (by simp[hl,hkl]),Ju]
 have eO:((ts.set k (.im .non)).map λt=>some (roR t))++Gx (N.length-ts.length) none=(cM ts N.length).set k (some ⟨.ow,.im .non⟩):=by
  unfold cM;rw[JK _ _ (by simp[hkl]),Ju];rfl
 rw[eZ,eO]at h1;have hkO:k<(cM ts N.length).length:=by simp[cM];omega
 have hkZ:k<(bG N vs).length:=by simp[bG,hl];omega
 have p1:=fY (k:=0) (Z:=bG N vs) (O:=cM ts N.length) (v:=.non) (r:=⟨.ow,.im .non⟩) hkZ hkO;rw[Hk,<-h1]at p1;obtain⟨L2,pL,eL⟩:=lR p1 L rfl;obtain⟨x,L3,rfl,ex,e3⟩:=aK eL;have inL:∀h∈L3,h∈L:=λh hh=>pL.mem_iff.mpr (ymC _ hh);have own3:L3.flatMap Hd.own=[]:=by
  rw[Jo];intro h hh;rw[Jo]at h2;exact h2 h (inL h hh)
 have own1:((⟨⟨some k,w,⟨.io 0,s⟩⟩,G⟩:Hd)::L3).flatMap Hd.own=G:=by rw[GH,own3,GZ];rfl
 have ht:ts.getD k (.im .non)=s:=by rw[GM,hs];rfl
 have eZ2:(bG N vs).set k (some w)=bG N vs:=by
  apply Ig;intro m;by_cases hm:m=k
  ·subst hm;rw[Ho hkZ];unfold bG;rw[Hi (by simp[hl,hkl]),GE,hw];rfl
  ·rw[GO (LO hm)]
 have p2:=fY (k:=0) (Z:=bG N vs) (O:=cM ts N.length) (v:=w) (r:=⟨.io 0,s⟩) hkZ hkO;rw[Hk,eZ2]at p2;have gw:GW ⟨K,H,G,[w]⟩ H (⟨⟨some k,w,⟨.io 0,s⟩⟩,G⟩::L3):=by
  refine⟨by rw[own1];exact nd,λa ha=>by rw[own1]at ha;exact⟨mu a ha,.inr ha⟩,λh hh=>?_,λh hh=>?_,?_,λb o e _=>e,λa ha=>let ⟨o,e,_⟩:=mu a ha;⟨o,e⟩⟩
  ·rcases ycM hh with rfl|hh;exact rp;exact(h3 h (inL h hh)).1
  ·rcases ycM hh with rfl|hh;rfl
   ·unfold K2;rcases h4 h (inL h hh)with⟨e,eF⟩|e;rw[e,eF];simp;rw[e,own1];exact(h3 h (inL h hh)).2
  ·have e5:((⟨⟨some k,w,⟨.io 0,s⟩⟩,G⟩:Hd)::L3).filterMap (λh=>h.e.key)=(x::L3).filterMap λh=>h.e.key:=by rw[GS,GS,ex]
   rw[e5];have e6:((x::L3).filterMap λh=>h.e.key)=((x::L3).map (·.e)).filterMap λe=>e.key:=by rw[Ir];rfl
   rw[e6,eL];have:=(p1.filterMap (λe:En=>e.key)).nodup_iff.mp (by rw[h1];exact qC);exact this
 refine⟨KW.perm ⟨_,gw,rfl⟩ ?_,λi r' h=>?_,?_,by simp⟩
 ·rw[Gs,e3,Hn];unfold fu;rw[ht];exact p2.symm
 ·unfold fu at h;rw[ht]at h;by_cases e:i=k
  ·subst e;refine⟨w,?_⟩;unfold bG;rw[Hi (by simp[hl,hkl]),GE,hw];rfl
  ·rw[GO (LO e)]at h;exact oQ hl i r' h
 ·simp[bG,fu,cM,hl]
theorem zK{H0:Hp}{G:List Addr}{w0:V}{k:Nat}{s':T}(S:Sim ⟨K,H0,G,[w0]⟩ H' O Z [⟨none,v,⟨.ow,t⟩⟩])(h : O[k]?=some (some ⟨.io 0,s'⟩)):∃F G',KZ G H0 H'/\(∀a∈G,∃o,H' a=some o)/\(F++G').Nodup/\(∀a∈F,H0 a=none/\Mu H' a)/\(∀a∈G',(a∈G\/H0 a=none)/\Mu H' a)/\Rp K H' s' w0 G'/\Rp K H' t v F:=by
 obtain⟨w,hw,hm⟩:=S.slot h;obtain⟨L,g,e⟩:=S.sl;rw[G7]at e hm;obtain⟨x,L',rfl,ex,e2⟩:=aK e;have hm':(⟨some k,w,⟨.io 0,s'⟩⟩:En)∈L'.map (·.e):=by
  rw[e2];rcases ycM hm with z|z;cases z;exact z
 obtain⟨y,hy,ey⟩:=GB.mp hm';have rpx:=g.rp x ymS;rw[ex]at rpx;have rpy:=g.rp y (ymC _ hy);rw[ey]at rpy;have kx:=g.kd x ymS;unfold K2 at kx;rw[ex]at kx;have ky:=g.kd y (ymC _ hy);unfold K2 at ky;rw[ey]at ky;have ew:w0=w:=by simpa using ky
 subst ew;have hox:x.e.r.k.isOw=true:=by rw[ex];rfl
 have hoy:y.e.r.k.isOw=true:=by rw[ey];rfl
 refine⟨x.F,y.F,λb o hb n=>g.fr b o hb n,g.iol,?_,λa ha=>⟨kx a ha,g.muF ymS hox a ha⟩,λa ha=>?_,rpy,rpx⟩
 ·have nd:=g.nd;rw[GH]at nd;have nx:x.own=x.F:=by unfold Hd.own;rw[if_pos hox]
  rw[nx]at nd;have nn:=Gy.mp nd;exact Gy.mpr ⟨nn.1,g.ndF (ymC _ hy) hoy,λa ha b hb=>nn.2.2 a ha b (Hs.mpr ⟨y,hy,iP hoy hb⟩)⟩
 ·have:=g.ad a (Hs.mpr ⟨y,ymC _ hy,iP hoy ha⟩);exact⟨this.2.symm,this.1⟩
theorem Def.mi{P:LM}{W:LU}{mg:Str->Option LB}{base:Heap}{k:Nat}{name:Str}{st:Stmt}{N ps:List Str}{j:Nat}(d:Def K mg name st ps)(S:KT N ps (aj st)){m:MS}
  (hbody:∀(f:Addr) (cdv:LB) (A:LQ) (outer:List Env) (s:LD) (H:Hp) (E:XK),K8 k (A.deeper (Nz name (aj st) s.heap.objs.size f cdv))->Dw (kU CX0 P W K mg base N name (aj st) f cdv A outer s H E).nox (br st) m)
  {run:List T->Option (T×T)} (hrun:∀ts,run ts=if ts.length=ps.length then eH m j N.length ts else none):Has P W K mg base (k+1) name ps (spI K j run):=by
 refine d.has S (λvs H Q E h=>?_) (λf cdv A outer s H vs Q E hr h=>?_)
 ·obtain⟨ts,s0,w,G,t,s',hl,_,_,_,_,_,_,e,_⟩:=h;rw[hrun]at e;split at e;rename_i h2;rw[hl,h2];cases e
 ·obtain⟨ts,s0,w,G,t,s',hl,hw,hs,rp,nd,mu,ro,e,q⟩:=h;rw[hrun]at e;split at e
  ·obtain⟨tS,p1,p2⟩:=hbody f cdv A outer s H E hr;refine⟨tS,p1,?_⟩;have S0:=zf (N:=N) hl hw hs rp nd mu ro;unfold eH at e;split at e
   ·rename_i t0 O' e1;split at e
    ·rename_i s1 e2;cases e;refine p2 ⟨K,H,G,[w]⟩ H _ _ [] _ _ O' rfl (by simp) e1 S0 λv Z' H' S1=>?_;obtain⟨F,G',a1,a2,a3,a4,a5,a6,a7⟩:=zK S1 e2;exact q v H' F G' a1 a2 a3 a4 a5 a6 a7
    ·cases e
   ·rename_i O' e1;split at e
    ·rename_i s1 e2;cases e;refine p2 ⟨K,H,G,[w]⟩ H _ _ [] _ .nx O' rfl (by simp) e1 S0 λZ' H' S1=>?_;obtain⟨F,G',a1,a2,a3,a4,a5,a6,a7⟩:=zK (S1.imm bM) e2;exact q .non H' F G' a1 a2 a3 a4 a5 a6 a7
    ·cases e
   ·cases e
  ·cases e
end
structure CK{ι : Type}(C:ι->Cx)(P:LM)(W:LU)(K:yF)(mg:Str->Option LB)(base:Heap)(k:Nat):Prop where
 prog:∀i,(C i).prog=P
 w:∀i,(C i).w=W
 kk:∀i,(C i).K=K
 mg:∀i,(C i).mg=mg
 base:∀i,(C i).base=base
 calm:∀i,(C i).calm=true
 room:∀i,K8 k (C i).A
variable {ι : Type}{C:ι->Cx}{P:LM}{W:LU}{K:yF}{mg:Str->Option LB}{base:Heap}{k:Nat}
noncomputable abbrev o7(C:ι->Cx) (scope:MW) (N':List Str):ι×Bk->Cx:=λp=>cxB (C p.1) scope N' p.2
theorem CK.blk(ck:CK C P W K mg base k){scope:MW}{N':List Str}:CK (o7 C scope N') P W K mg base k:=
 ⟨λp=>ck.prog p.1,λp=>ck.w p.1,λp=>ck.kk p.1,λp=>ck.mg p.1,λp=>ck.base p.1,λp=>ck.calm p.1,λp=>ck.room p.1⟩
structure QE(C:ι->Cx)(K:yF)(e:Expr)(m:ME):Prop where
 ex:∃te,(∀i,PE (C i) e te)/\aT K te m
structure QT(C:ι->Cx)(K:yF)(e:Expr)(m:MT):Prop where
 ex:∃te,(∀i,PT (C i) e te)/\eY K te m
structure QW(C:ι->Cx)(K:yF)(e:Expr)(m:MT):Prop where
 ex:∃te,(∀i,PW (C i) e te)/\eY K te m
structure QTs(C:ι->Cx)(K:yF)(e:List Expr)(m:MT):Prop where
 ex:∃te,(∀i,PTs (C i) e te)/\eY K te m
structure QA(C:ι->Cx)(K:yF)(es:List Expr)(m:MA):Prop where
 ex:∃ta,(∀i,PA (C i) es ta)/\aY es=true/\eK K ta m
structure QS(C:ι->Cx)(K:yF)(st:Stmt)(m:MS):Prop where
 ex:∃ts,(∀i,PS (C i) st ts)/\dF K ts m
structure QSs(C:ι->Cx)(K:yF)(st:List Stmt)(m:MS):Prop where
 ex:∃ts,(∀i,PSs (C i) st ts)/\dF K ts m
structure QG(C:ι->Cx)(K:yF)(fr:Option (List (Option Nat)))(e:Expr)(m:MG):Prop where
 ex:∃g,(∀i,PG (C i) e g)/\jP K g m/\∀f,fr=some f->iu f g
structure QGs(C:ι->Cx)(K:yF)(fr:Option (List (Option Nat)))(n:Nat)(es:List Expr)(m:MGs):Prop where
 ex:∃g,(∀i,PGs (C i) es g)/\nI K g m/\(∀f,fr=some f->jM f g)/\(∀rs O O',m.run rs O=some O'->rs.length=n)
structure QI(C:ι->Cx)(K:yF)(tg e:Expr)(m:MI):Prop where
 ex:∃wi,(∀i,PI (C i) tg e wi)/\jQ K wi m
structure QO(C:ι->Cx)(K:yF)(e:Option Expr)(m:MO):Prop where
 ex:∃t,(∀i,PO (C i) e t)/\tK K t m
section
variable {a b c e o:Expr}{es:List Expr}{ma mb mc m:ME}{ms:MA}{pos:Pos}{mt mt':MT}
theorem ED{i:Int}{j:Nat}:QE C K (.Constant (.int i) j pos) (mC (.int i)):=⟨_,λ_=>pK,vN rfl⟩
theorem F9{x:Bool}{j:Nat}:QE C K (.Constant (.bool x) j pos) (mC (.bl x)):=⟨_,λ_=>Eo,vN rfl⟩
theorem ER{x:Str}{j:Nat}:QE C K (.Constant (.str x) j pos) (mC (.str x)):=⟨_,λ_=>BP,vN rfl⟩
theorem EU(n:Nat){x:Str}(hN:∀i,(C i).N[n]?=some x:=by intro _;rfl)(hv:∀i,Vis (C i).env.scope x:=by first|exact λ_=>ON rfl|exact λ_=>NQ (ON rfl)|exact λ_=>NQ (NQ rfl))(hd:(x==("__debug__" : Str))=false:=by decide)(hcd:(x==("__classdict__" : Str))=false:=by decide):QE C K (.Name x pos) (af n):=⟨_,λi=>pM (hN i) (hv i) hd hcd,y8⟩
theorem Cg:QA C K [] mNil:=⟨_,λ_=>mX,rfl,yW⟩
theorem yv(h1:QE C K e m)(h2:QA C K es ms)(hs:bz e=false:=by rfl):QA C K (e::es) (ac m ms):=by
 obtain⟨te,a,b⟩:=h1;obtain⟨ta,c,n,d⟩:=h2;exact⟨_,λi=>cU (a i) (c i) hs,by rw[aY,hs,n];rfl,vP b d⟩
theorem sJ{op:P9}{red:yF->R2}{f:T->T->Option T}(ck:CK C P W K mg base k)(ho:∀X:Cx,OpR X (Me op) (red X.K))(hp:cH K (red K) f)(ha:QE C K a ma)(hb:QE C K b mb):QE C K (.BinOp a op b pos) (mOp f ma mb):=by
 obtain⟨ta,p,r⟩:=ha;obtain⟨tb,p',r'⟩:=hb;exact⟨_,λi=>Et (r:=red K) (by have:=ho (C i);rw[ck.kk i]at this;exact this) (p i) (p' i),kI hp r r'⟩
theorem Ew(ck:CK C P W K mg base k)(ha:QE C K a ma)(hb:QE C K b mb):QE C K (.BinOp a .Add b pos) (mOp bd ma mb):=sJ ck (red:=vE) (λ_=>xL) uV ha hb
theorem ES(ck:CK C P W K mg base k)(ha:QE C K a ma)(hb:QE C K b mb):QE C K (.BinOp a .Sub b pos) (mOp bR ma mb):=sJ ck (red:=λ_=>rI0 λi j=>.int (i-j)) (λ_=>Bj) vm ha hb
theorem EJ(ck:CK C P W K mg base k)(ha:QE C K a ma)(hb:QE C K b mb):QE C K (.BinOp a .Mult b pos) (mOp cX ma mb):=sJ ck (red:=vJ) (λ_=>xN) vf ha hb
theorem B9(ck:CK C P W K mg base k)(ha:QE C K a ma)(hb:QE C K b mb):QE C K (.BinOp a .FloorDiv b pos) (mOp f6 ma mb):=sJ ck (red:=λ_=>rI oY λi j=>.int (i / j)) (λ_=>sv) sG ha hb
theorem EI(ck:CK C P W K mg base k)(ha:QE C K a ma)(hb:QE C K b mb):QE C K (.BinOp a .Mod b pos) (mOp ft ma mb):=sJ ck (red:=λ_=>rI (λ_ j=>0<j) λi j=>.int (i % j)) (λ_=>Bc) ve ha hb
theorem EO(ck:CK C P W K mg base k)(ha:QE C K a ma)(hb:QE C K b mb):QE C K (.BinOp a .Pow b pos) (mOp sE ma mb):=sJ ck (red:=λ_=>rI An λi j=>.int (i^j.toNat)) (λ_=>Bh) vk ha hb
theorem EL(ha:QE C K a ma):QE C K (.UnaryOp .USub a pos) (mUn ux ma):=by
 obtain⟨ta,p,r⟩:=ha;exact⟨_,λi=>uP p9 (p i),pR vg r⟩
theorem EM(ha:QE C K a ma):QE C K (.UnaryOp .Not a pos) (lH ma):=by
 obtain⟨ta,p,r⟩:=ha;exact⟨_,λi=>BN (p i),vZ r⟩
def fN(op:Qq)(f:T->T->Option T):Prop:=∃red:yF->R2,(∀X:Cx,X.A.units+64<Mm->OpR X (LZ op) (red X.K))/\∀K,cH K (red K) f
theorem FV:fN .Lt (hJ λi j=>decide (i<j)):=⟨λ_=>_,λ_ _=>D3,λ_=>kA⟩
theorem FT:fN .Gt (hJ λi j=>decide (j<i)):=⟨λ_=>_,λ_ _=>D0,λ_=>kA⟩
theorem FS:fN .GtE (hJ λi j=>decide (j<=i)):=⟨λ_=>_,λ_ _=>DZ,λ_=>kA⟩
theorem FR:fN .Eq eqT:=⟨CA,λ_ hu=>A8 hu,λ_=>yj⟩
theorem FW:fN .NotEq neT:=⟨CH,λ_ hu=>Bg hu,λ_=>yl⟩
theorem FU:fN .In inT:=⟨CB,λ_ hu=>Ba hu,λ_=>yk⟩
theorem DC:fN .NotIn sr:=⟨ng,λ_ hu=>sy hu,λ_=>vh⟩
theorem Ez{op:Qq}{f:T->T->Option T}(ck:CK C P W K mg base k)(hc:fN op f)(ha:QE C K a ma)(hb:QE C K b mb)(hm:Nn op b=false):QE C K (.Compare a [op] [b] pos) (mOp f ma mb):=by
 obtain⟨red,ho,hp⟩:=hc;obtain⟨ta,p,r⟩:=ha;obtain⟨tb,p',r'⟩:=hb;exact⟨_,λi=>xV (r:=red K) (by have:=ho (C i) (ck.room i).units;rw[ck.kk i]at this;exact this) (p i) (p' i) hm,kI (hp K) r r'⟩
theorem Ct{op:Qq}{f:T->T->Option T}(ck:CK C P W K mg base k)(hc:fN op f)(ha:QE C K a ma)(hb:QE C K b mb)(hm:Nn op b=false):QT C K (.Compare a [op] [b] pos) (aI (mOp f ma mb)):=by
 obtain⟨red,ho,hp⟩:=hc;obtain⟨ta,p,r⟩:=ha;obtain⟨tb,p',r'⟩:=hb;exact⟨_,λi=>yq (r:=red K) (by have:=ho (C i) (ck.room i).units;rw[ck.kk i]at this;exact this) (p i) (p' i) hm,oM (kI (hp K) r r')⟩
theorem Cw(ha:QE C K e m)(he:∀i whole,O7 e (C i).env whole=(do let v <-whole;NE e.pos;Mo [v] (P8 v)):=by intro _ _;rfl):QT C K e (aI m):=by
 obtain⟨ta,p,r⟩:=ha;exact⟨_,λi=>B5 (p i) (he i),CT r⟩
theorem Cv(ck:CK C P W K mg base k)(ha:QE C K e m)(he:∀i whole,O7 e (C i).env whole=(do let v <-whole;NE e.pos;Mo [v] (P8 v)):=by intro _ _;rfl):QT C K e (sk m):=by
 obtain⟨ta,p,r⟩:=ha;exact⟨_,λi=>Gi (ck.kk i) (p i) (he i),y6 r⟩
theorem Cu(ha:QT C K a mt):QT C K (.UnaryOp .Not a pos) (nY mt):=by
 obtain⟨ta,p,r⟩:=ha;exact⟨_,λi=>B4 (p i),yX r⟩
theorem yI(ha:QT C K a mt):QW C K (.BoolOp .And [a] pos) mt:=by
 obtain⟨ta,p,r⟩:=ha;exact⟨_,λi=>yu (p i),r⟩
theorem Cz(ha:QT C K a mt):QW C K (.BoolOp .Or [a] pos) mt:=by
 obtain⟨ta,p,r⟩:=ha;exact⟨_,λi=>B8 (p i),r⟩
theorem Cy{rest:List Expr}(ha:QT C K a mt)(hb:QW C K (.BoolOp .And (b::rest) pos) mt'):QW C K (.BoolOp .And (a::b::rest) pos) (mT mt mt'):=by
 obtain⟨ta,p,r⟩:=ha;obtain⟨tb,p',r'⟩:=hb;exact⟨_,λi=>B7 (p i) (p' i),yN r r'⟩
theorem EW{rest:List Expr}(ha:QT C K a mt)(hb:QW C K (.BoolOp .Or (b::rest) pos) mt'):QW C K (.BoolOp .Or (a::b::rest) pos) (mOr mt mt'):=by
 obtain⟨ta,p,r⟩:=ha;obtain⟨tb,p',r'⟩:=hb;exact⟨_,λi=>Ev (p i) (p' i),CQ r r'⟩
theorem QW.t(h:QW C K e mt):QT C K e mt:=by
 obtain⟨ta,p,r⟩:=h;exact⟨_,λi=>(p i).pt,r⟩
theorem EN{op:BoolOp}(h:QE C K a m):QE C K (.BoolOp op [a] pos) m:=by
 obtain⟨ta,p,r⟩:=h;exact⟨_,λi=>BO (p i),r⟩
theorem Ex{rest:List Expr}(ha:QE C K a ma)(hb:QE C K (.BoolOp .And (b::rest) pos) mb):QE C K (.BoolOp .And (a::b::rest) pos) (jr ma mb):=by
 obtain⟨ta,p,r⟩:=ha;obtain⟨tb,p',r'⟩:=hb;exact⟨_,λi=>BK (p i) (p' i),vO r r'⟩
theorem EH(mv:List Nat)(h:QA C K es ms):QE C K (.List es pos) (aS mv ms):=by
 obtain⟨ta,p,_,r⟩:=h;exact⟨_,λi=>BM (p i),vV r⟩
theorem ET(mv:List Nat){x1:Nat}(h:QA C K es ms):QE C K (.Tuple es x1 pos) (ar mv ms):=by
 obtain⟨ta,p,_,r⟩:=h;exact⟨_,λi=>uO (p i),wf r⟩
theorem Gc(ck:CK C P W K mg base k)(ha:QE C K a ma)(hb:QE C K b mb)(hs:qg b:=by exact λ_ _=>rfl):QE C K (.Subscript a b pos) (mIx ma mb):=by
 obtain⟨ta,p,r⟩:=ha;obtain⟨tb,p',r'⟩:=hb;exact⟨_,λi=>Es (F5 (ck.kk i)) (p i) (p' i) hs,CP r r'⟩
theorem yy:QO C K none mNoPart:=⟨_,λ_=>yg,pQ⟩
theorem yz(h:QE C K e m):QO C K (some e) (dH m):=by
 obtain⟨ta,p,r⟩:=h;exact⟨_,λi=>m7 (p i),wb r⟩
theorem Gd{lo hi:Option Expr}{ml mh:MO}{p2:Pos}(ck:CK C P W K mg base k)(ha:QE C K a ma)(hl:QO C K lo ml)(hh:QO C K hi mh):QE C K (.Subscript a (.Slice lo hi none p2) pos) (mSl ma ml mh):=by
 obtain⟨ta,p,r⟩:=ha;obtain⟨tl,p',r'⟩:=hl;obtain⟨th,p'',r''⟩:=hh;exact⟨_,λi=>uN (r:=rSl K) (by have:=Gh (X:=C i);rw[ck.kk i]at this;exact this) (p i) (p' i) (p'' i),CS r r' r''⟩
theorem EQ{j:Nat}{p1 p2 p3:Pos}(ck:CK C P W K mg base k)(ha:QE C K a ma):QE C K (.Subscript a (.Slice none none (some (.UnaryOp .USub (.Constant (.int 1) j p1) p2)) p3) pos) (mUn wg ma):=by
 obtain⟨ta,p,r⟩:=ha;exact⟨_,λi=>Gf (ck.kk i) (p i),y0 r⟩
theorem EC{x:Str}{p:Pos}{j:Nat}{ps:List Str}{run:List T->Option T}(ck:CK C P W K mg base k)(h:Has P W K mg base j x ps (spP K run))(ha:QA C K (e::es) ms)(hj:j<=k:=by first|decide|omega)(hg:∀i,Gl (C i) x:=by intro _;rfl)(hdb:(x==("__debug__" : Str))=false:=by decide):QE C K (.Call (.Name x p) (e::es) [] pos) (mB run ms):=by
 obtain⟨ta,q,n,r⟩:=ha;refine⟨_,λi=>uM (by rw[ck.prog i,ck.w i,ck.kk i,ck.mg i,ck.base i];exact h) ((ck.room i).mono hj) (hg i) (q i) n hdb,sP r⟩
theorem EB(l:Nat){x:Str}{p:Pos}{j n0:Nat}{ps:List Str}{run:List T->Option (T×T)}(ck:CK C P W K mg base k)(h:Has P W K mg base j x ps (spI K n0 run))(ha:QA C K (e::es) ms)(hj:j<=k:=by first|decide|omega)(hg:∀i,Gl (C i) x:=by intro _;rfl)(hdb:(x==("__debug__" : Str))=false:=by decide):QE C K (.Call (.Name x p) (e::es) [] pos) (ak n0 l run ms):=by
 obtain⟨ta,q,n,r⟩:=ha;refine⟨_,λi=>uM (by rw[ck.prog i,ck.w i,ck.kk i,ck.mg i,ck.base i];exact h) ((ck.room i).mono hj) (hg i) (q i) n hdb,sO r⟩
def nH(x:Str)(f:List T->Option T):Prop:=∃(id:String) (red:yF->List V->Hp->VK->Prop),Mh x=some (.builtin id)/\(∀X:Cx,X.calm=true->K4 X (.builtin id) (red X.K))/\∀K,fO K (red K) f
def rE(x:Str)(f:List T->Option T):Prop:=∃(id:String) (red:yF->List V->Hp->VK->Prop),Mh x=some (.type id)/\(∀X:Cx,X.calm=true->K4 X (.type id) (red X.K))/\∀K,fO K (red K) f
theorem Ey{x:Str}{p:Pos}{f:List T->Option T}(ck:CK C P W K mg base k)(hb:nH x f)(hm:mg x=none)(ha:QA C K (e::es) ms)(hg:∀i,Gl (C i) x:=by intro _;rfl)(hx:x≠("__name__" : Str):=by decide)(hdb:(x==("__debug__" : Str))=false:=by decide):QE C K (.Call (.Name x p) (e::es) [] pos) (mB f ms):=by
 obtain⟨id,red,b1,b2,b3⟩:=hb;obtain⟨ta,q,n,r⟩:=ha;exact⟨_,λi=>jd (r:=red K) (by have:=b2 (C i) (ck.calm i);rw[ck.kk i]at this;exact this) (hg i) (by rw[ck.mg i];exact hm) b1 (q i) n hx hdb,vM (b3 K) r⟩
theorem Ge{x:Str}{p:Pos}{f:List T->Option T}(ck:CK C P W K mg base k)(hb:rE x f)(hm:mg x=none)(ha:QA C K (e::es) ms)(hg:∀i,Gl (C i) x:=by intro _;rfl)(hx:x≠("__name__" : Str):=by decide)(hdb:(x==("__debug__" : Str))=false:=by decide):QE C K (.Call (.Name x p) (e::es) [] pos) (mB f ms):=by
 obtain⟨id,red,b1,b2,b3⟩:=hb;obtain⟨ta,q,n,r⟩:=ha;exact⟨_,λi=>pJ (r:=red K) (by have:=b2 (C i) (ck.calm i);rw[ck.kk i]at this;exact this) (hg i) (by rw[ck.mg i];exact hm) b1 (q i) n hx hdb,vM (b3 K) r⟩
theorem b_len:nH "len" cE:=⟨_,vH,PySem.boot_len,λ_ _=>rH,λ_=>u7⟩
theorem b_min:nH "min" oe:=⟨_,λ_=>_,KG,λ_ h=>rK h,λ_=>vd⟩
theorem b_max:nH "max" oa:=⟨_,λ_=>_,KI,λ_ h=>rJ h,λ_=>vc⟩
theorem b_all:nH "all" o3:=⟨_,EX,KJ,λ_ h=>tN h,λ_=>uW⟩
theorem b_int:rE "int" pj:=⟨_,λ_=>_,KM,λ_ _=>rG,λ_=>u4⟩
theorem b_tuple:rE "tuple" eJ:=⟨_,vK,Im,λ_ _=>kT,λ_=>vn⟩
theorem b_list:rE "list" uq:=⟨_,vI,Is,λ_ _=>mq,λ_=>u8⟩
def tI(T0:String)(name:Str)(f:T->List T->Option T):Prop:=∃(id:String) (red:yF->V->List V->Hp->VK->Prop),Nk T0/\Slot T0 name id/\Pc (.builtin id)=pure (.type "method_descriptor")/\(∀X:Cx,MtR X id (red X.K))/\(∀K,tJ K T0 (red K) f)/\∀K (H:Hp) (x:V) (tx:T) ts t,Rpx K H tx x->f tx ts=some t->tyV K T0 x H
def jN(T0:String)(name:Str)(f:T->List T->Option (T×I)):Prop:=∃(id:String) (red:yF->V->List V->Hp->VK->Prop),Nk T0/\Slot T0 name id/\Pc (.builtin id)=pure (.type "method_descriptor")/\(∀X:Cx,MtR X id (red X.K))/\(∀K,dk K (red K) f)/\∀K (H:Hp) (x:V) (tx:T) ts r,Rpx K H tx x->f tx ts=some r->tyV K T0 x H
theorem Cc{T0:String}{name:Str}{f:T->List T->Option T}{apos:Pos}{mo:ME}(ck:CK C P W K mg base k)(hm:tI T0 name f)(ho:QE C K o mo)(ha:QA C K (e::es) ms)(hlen:decide ((e::es).length<30)=true:=by rfl)
  (hbase:∀i,Mk o name (C i).env (eval o (C i).env)=eval o (C i).env:=by intro _;rfl) (hline:(apos.endLine==pos.line)=true:=by rfl):QE C K (.Call (.Attribute o name apos) (e::es) [] pos) (mM f mo ms):=by
 obtain⟨id,red,h1,h2,h3,h4,h5,h6⟩:=hm;obtain⟨to,q,r⟩:=ho;obtain⟨ta,q',n,r'⟩:=ha;exact⟨_,λi=>Av (r:=red K) (ck.kk i) h1 h2 h3 (by have:=h4 (C i);rw[ck.kk i]at this;exact this) (q i) (q' i) n hlen (hbase i) hline,Fd (h5 K) (h6 K) r r'⟩
theorem EK(l:Nat)(mv:List Nat){T0:String}{name:Str}{f:T->List T->Option (T×I)}{apos:Pos}{mo:ME}(ck:CK C P W K mg base k)(hm:jN T0 name f)(ho:QE C K o mo)(ha:QA C K (e::es) ms)(hlen:decide ((e::es).length<30)=true:=by rfl)
  (hbase:∀i,Mk o name (C i).env (eval o (C i).env)=eval o (C i).env:=by intro _;rfl) (hline:(apos.endLine==pos.line)=true:=by rfl):QE C K (.Call (.Attribute o name apos) (e::es) [] pos) (cF l mv f mo ms):=by
 obtain⟨id,red,h1,h2,h3,h4,h5,h6⟩:=hm;obtain⟨to,q,r⟩:=ho;obtain⟨ta,q',n,r'⟩:=ha;exact⟨_,λi=>Av (r:=red K) (ck.kk i) h1 h2 h3 (by have:=h4 (C i);rw[ck.kk i]at this;exact this) (q i) (q' i) n hlen (hbase i) hline,yV (h5 K) (h6 K) r r'⟩
theorem Cd(l:Nat){T0:String}{name:Str}{f:T->List T->Option (T×I)}{apos:Pos}{mo:ME}(ck:CK C P W K mg base k)(hm:jN T0 name f)(ho:QE C K o mo)
  (hbase:∀i,Mk o name (C i).env (eval o (C i).env)=eval o (C i).env:=by intro _;rfl) (hline:(apos.endLine==pos.line)=true:=by rfl):QE C K (.Call (.Attribute o name apos) [] [] pos) (f8 l f mo):=by
 obtain⟨id,red,h1,h2,h3,h4,h5,h6⟩:=hm;obtain⟨to,q,r⟩:=ho;exact⟨_,λi=>FQ (r:=red K) (ck.kk i) h1 h2 h3 (by have:=h4 (C i);rw[ck.kk i]at this;exact this) (q i) (hbase i) hline,vW (h5 K) (h6 K) r⟩
theorem AY:tI "str" "join" j7:=⟨_,zY,PySem.F.plainAttrs_str,PySem.F.slot_str_join,PySem.F.type_str_join,λ_=>xG,λ_=>sH,λK H x tx ts t r e=>by
 unfold j7 at e;split at e;rw[cZ r];rfl;cases e⟩
theorem nZ:jN "list" "append" apT:=⟨_,λ_=>m9,PySem.F.plainAttrs_list,PySem.F.slot_list_append,PySem.F.type_list_append,λ_=>sn,λ_=>ou,λK=>tq⟩
theorem n8:jN "list" "extend" pi:=⟨_,vG,PySem.F.plainAttrs_list,PySem.F.slot_list_extend,PySem.F.type_list_extend,λ_=>xF,λ_=>oy,λK=>tu⟩
theorem DW:jN "list" "pop" je:=⟨_,λ_=>CI,PySem.F.plainAttrs_list,PySem.F.slot_list_pop,PySem.F.type_list_pop,λ_=>AZ,λ_=>vj,λK=>C4⟩
theorem n9:jN "list" "insert" mK:=⟨_,λ_=>nc,PySem.F.plainAttrs_list,PySem.F.slot_list_insert,PySem.F.type_list_insert,λ_=>so,λ_=>oz,λK=>tw⟩
end
variable {ι : Type}{C:ι->Cx}{P:LM}{W:LU}{K:yF}{mg:Str->Option LB}{base:Heap}{k:Nat}
section
variable {a b c e o tg iter:Expr}{es:List Expr}{ma mb mc m mo mi:ME}{ms:MA}{pos:Pos}{mt mt':MT}{s1 s2:MS}{g g':MG}{gs:MGs}{it it2:MI}{fr:Option (List (Option Nat))}
theorem yx(n:Nat){x:Str}(hN:∀i,(C i).N.Nodup)(hi:∀i,(C i).N[n]?=some x:=by intro _;rfl)(hx:∀i,Loc (C i).env.scope x:=by first|exact λ_=>ON rfl|exact λ_=>NQ rfl)(hf:∀i,(C i).fn x=true\/(C i).env.scope.names.lookup x=some .local:=by first|exact λ_=>.inl rfl|exact λ_=>.inr rfl)
  (hfr:∀f,fr=some f->f[n]?=some none:=by first|(intro f h;cases h;done)|(intro f h;cases h;rfl)):QG C K fr (.Name x pos) (ae n):=
 ⟨_,λi=>x8 (hN i) (hi i) (hx i) (hf i),kH,λf hf'=>xr (hfr f hf')⟩
theorem qU:QGs C K fr 0 [] mGNil:=by unhygienic exact⟨_,λ_=>x9,vT,λ_ _=>AI,λrs O O' h=>by cases rs<;>first|rfl|cases h⟩
theorem ge{n:Nat}(h1:QG C K fr e g)(h2:QGs C K fr n es gs)(hs:∀i,(Mw (e::es) (C i).env).map (·.2)=Nh e (C i).env::(Mw es (C i).env).map (·.2):=by intro _;rfl):QGs C K fr (n+1) (e::es) (au g gs):=by unhygienic
 obtain⟨g1,p1,r1,k1⟩:=h1;obtain⟨g2,p2,r2,k2,l2⟩:=h2;refine⟨_,λi=>uS (p1 i) (p2 i) (hs i),sR r1 r2,λf hf=>xq (k1 f hf) (k2 f hf),λrs O O' h=>?_⟩;cases rs with
 | nil=>cases h
 | cons r rs=>
  simp only[au]at h;split at h
  ·split at h;rw[GI,l2 _ _ _ h];cases h
  ·cases h
theorem vB{n k0:Nat}(ck:CK C P W K mg base k)(h:QGs C K fr n es gs)(hn:∀i,(Mw es (C i).env).length=n:=by intro _;rfl)(hst:∀i,(Mw es (C i).env).findIdx? (·.1)=none:=by intro _;rfl):QG C K fr (.Tuple es k0 pos) (bq gs):=by
 obtain⟨g,p,r,kk,l⟩:=h;exact⟨_,λi=>tgK (ck.kk i) (ck.calm i) (p i) (hn i) (hst i),vU r l,λf hf=>AJ (kk f hf)⟩
theorem Ch(j:Nat)(ho:QE C K o mo)(hi:QE C K e mi)
  (ha:∀i v,Nh (.Subscript o e pos) (C i).env v=(do
   let ov <-Mo [v] (eval o (C i).env)
   let iv <-Mo [v,ov] (eval e (C i).env)
   NE pos
   Mo [v,ov,iv] (NW ov iv v)
   P5 [v,ov,iv] []):=by intro _ _;rfl):QG C K none (.Subscript o e pos) (pA j mo mi):=by
 obtain⟨to,p,r⟩:=ho;obtain⟨ti,p',r'⟩:=hi;exact⟨_,λi=>uQ (p i) (p' i) wu (ha i),y4 r r',λf h=>by cases h⟩
theorem Co:QSs C K [] mNext:=⟨_,λ_=>yo,vY⟩
theorem Cp{st:Stmt}(h1:QS C K st s1):QSs C K [st] s1:=by
 obtain⟨t,p,r⟩:=h1;exact⟨_,λi=>yp (p i),r⟩
theorem yB{st:Stmt}{rest:List Stmt}(h1:QS C K st s1)(h2:QSs C K rest s2):QSs C K (st::rest) (ao s1 s2):=by
 obtain⟨t,p,r⟩:=h1;obtain⟨u,p',r'⟩:=h2;exact⟨_,λi=>vt (p i) (p' i),y3 r r'⟩
theorem EV{b1 b2:List Stmt}(hc:QT C K c mt)(h1:QSs C K b1 s1)(h2:QSs C K b2 s2):QS C K (.If c b1 b2 pos) (mIf mt s1 s2):=by
 obtain⟨tc,p0,r0⟩:=hc;obtain⟨t,p,r⟩:=h1;obtain⟨u,p',r'⟩:=h2;exact⟨_,λi=>Eu (p0 i) (p i) (p' i),yR r0 r r'⟩
theorem Cr(h:QE C K e m):QS C K (.Return (some e) pos) (aX m):=by
 obtain⟨t,p,r⟩:=h;exact⟨_,λi=>B2 (p i),yZ r⟩
theorem yC(h:QE C K e m)(hs:∀i,Oa e none pos.line (C i).env=pure false:=by intro _;rfl):QS C K (.Expr e pos) (bm m):=by
 obtain⟨t,p,r⟩:=h;exact⟨_,λi=>ym (p i) (hs i),vQ r⟩
theorem Cm(h:QE C K e m)(hg:QG C K none tg g)(hs:∀i,M0 [tg] e pos.line (C i).env=pure false:=by intro _;rfl)(hw:∀i,M1 [tg] e (C i).env=pure none:=by intro _;rfl)
  (h1:∀i,(Mw [tg] (C i).env).map (·.2)=[Nh tg (C i).env]:=by intro _;rfl):QS C K (.Assign [tg] e pos) (aA m g):=by
 obtain⟨t,p,r⟩:=h;obtain⟨u,p',r',_⟩:=hg;exact⟨_,λi=>BX (p i) (p' i) (hs i) (hw i) (h1 i),ni r r'⟩
theorem Cs(n:Nat){x:Str}{pos':Pos}(hN:∀i,(C i).N.Nodup)(he:QE C K e m)(hi:∀i,(C i).N[n]?=some x:=by intro _;rfl)(hx:∀i,Loc (C i).env.scope x:=by first|exact λ_=>ON rfl|exact λ_=>NQ rfl)(hs:∀i,Oa e (some (.Name x pos')) pos.line (C i).env=pure false:=by intro _;rfl)(hf:∀i,(C i).fn x=true\/(C i).env.scope.names.lookup x=some .local:=by first|exact λ_=>.inl rfl|exact λ_=>.inr rfl) :
  QS C K (.Assign [.Name x pos'] e pos) (aA m (ae n)):=by
 obtain⟨t,p,r⟩:=he;exact⟨_,λi=>B3 (hN i) (hi i) (hx i) (p i) (hs i) (hf i),ni r kH⟩
noncomputable def xE(i j:Nat) (a:MA):MS:=⟨λO=>match a.run O with
 | some ([r1,r2],O1)=>if(cr O1 i&&ax [i] r1&&ax [i] r2&&cr O1 j&&ax [j] r2)=true then some (.nx,(aq [j] ((aq [i] O1).set i (some r1))).set j (some r2))else none
 | _=>none,a.mu++[i,j]⟩
theorem gI{O:Rho}{i j:Nat}{r:R}(h:cr O j=true)(hr:∀n,r.k ≠ .io n):cr ((aq [i] O).set i (some r)) j=true:=by
 unfold cr at h|-;by_cases e:j=i
 ·subst e;have hl:j < O.length:=by
   cases q : O[j]? with
   | none=>rw[q]at h;cases h
   | some o=>exact(Gr.mp q).1
  rw[Ho (by rw[aM];exact hl)];obtain⟨k,t⟩:=r;cases k with
  | io n=>exact absurd rfl (hr n)
  | _=>rfl
 ·rw[GO (LO e)];unfold aq;rw[GE];cases q : O[j]? with
  | none=>rw[q]at h;cases h
  | some o=>
   rw[q]at h;cases o with
   | none=>rfl
   | some x=>
    show(match some (cb [i] (some x))with|some (some ⟨.io _,_⟩)=>false|some _=>true|none=>false)=true;cases hk:cb [i] (some x)with
    | none=>rfl
    | some y=>
     obtain⟨e1,_⟩:=Le.mp hk;cases e1;exact h
noncomputable def dJ(r:R):Bool:=match r.k with
 | .io _=>false
 | _=>true
theorem yY{i j:Nat}{ta:TA}{a:MA}(ha:eK K ta a)(hio:∀O rs O',a.run O=some (rs,O')->True):dF K (Fp i j ta) (xE i j ⟨λO=>match a.run O with
  | some (rs,O1)=>if rs.all dJ=true then some (rs,O1)else none
  | none=>none,a.mu⟩):=by
 intro Γ H O Z E D f O' hK hE hr S q;simp only[xE]at hr q;split at hr
 ·rename_i r1 r2 O1 e1;split at e1
  ·rename_i rs O2 e2;split at e1
   ·rename_i hall;cases e1;split at hr
    ·rename_i hb;cases hr;simp only[Gz]at hb;obtain⟨⟨⟨⟨b1,b2⟩,b3⟩,b4⟩,b5⟩:=hb;refine ha Γ H O Z E _ _ _ hK e2 S λvs H1 hl S1=>?_;obtain⟨v,w,rfl⟩:∃v w,vs=[v,w]:=by
      cases vs with
      | nil=>cases hl
      | cons v r=>cases r with
       | nil=>cases hl
       | cons w r=>cases r with
        | nil=>exact⟨v,w,rfl⟩
        | cons _ _=>cases hl
     have S1:Sim Γ H1 O1 Z (⟨none,v,r1⟩::⟨none,w,r2⟩::ah a.mu E):=S1;refine⟨v,w,rfl,q _ H1 ?_⟩;have S2:=S1.put b1 (cJ b2);rw[az (bj b3)]at S2;have hr1:∀n,r1.k ≠ .io n:=λn z=>by
      have:=Hw.mp hall r1 ymS;unfold dJ at this;rw[z]at this;cases this
     have S3:=S2.put (gI b4 hr1) (cJ b5);rw[ag,ag]at S3;have:a.mu++([i]++[j])=a.mu++[i,j]:=rfl;rw[<-GK]at this;exact S3
    ·cases hr
   ·cases e1
  ·cases e1
 ·cases hr
@[irreducible] noncomputable def iL(i j:Nat)(a:MA):MS:=xE i j ⟨λO=>match a.run O with
  | some (rs,O1)=>if rs.all dJ=true then some (rs,O1)else none
  | none=>none,a.mu⟩
theorem Cq(i j:Nat){x y:Str}{px py pt:Pos}{kt k2 pt2}(ck:CK C P W K mg base k)(hN:∀i,(C i).N.Nodup)(ha:QA C K [a,b] ms)(hi:∀n,(C n).N[i]?=some x:=by intro _;rfl)(hj:∀n,(C n).N[j]?=some y:=by intro _;rfl)(hij:i≠j:=by decide)
  (hx:∀n,(C n).env.scope.names.lookup x=some .local:=by intro _;rfl) (hy:∀n,(C n).env.scope.names.lookup y=some .local:=by intro _;rfl)
  (hw:∀n,M1 [.Tuple [.Name x px,.Name y py] kt pt] (.Tuple [a,b] k2 pt2) (C n).env=pure (some [x,y]):=by intro _;rfl)
  (hs:∀n,M0 [.Tuple [.Name x px,.Name y py] kt pt] (.Tuple [a,b] k2 pt2) pos.line (C n).env=pure false:=by intro _;rfl) :
  QS C K (.Assign [.Tuple [.Name x px,.Name y py] kt pt] (.Tuple [a,b] k2 pt2) pos) (iL i j ms):=by unhygienic
 obtain⟨ta,p,_,r⟩:=ha;exact⟨_,λn=>B1 (ck.calm n) (hN n) (hi n) (hj n) hij (hx n) (hy n) (p n) (hw n) (hs n),yY r (λ_ _ _ _=>trivial)⟩
@[irreducible] noncomputable def si(i:Nat)(f:Int->Int->Int)(e:ME):MS:=⟨λO=>match O[i]? with
 | some (some ⟨_,.im (.int a)⟩)=>(match e.run O with
  | some (⟨_,.im (.int b)⟩,O1)=>if cr O1 i=true then some (.nx,(aq [i] O1).set i (some ⟨.ow,.im (.int (f a b))⟩))else none
  | _=>none)
 | _=>none,e.mu++[i]⟩
theorem yO{i:Nat}{f:Int->Int->Int}{te:TE}(he:aT K te m):dF K (Fh i te (ipI f)) (si i f m):=by
 intro Γ H O Z E D fl O' hK hE hr S q;simp only[si]at hr q;split at hr
 ·rename_i k0 a0 e0;split at hr
  ·rename_i k1 b0 O1 e1;split at hr
   ·rename_i hn;cases hr;obtain⟨v,hv,hm⟩:=S.slot e0;obtain⟨F,rp⟩:=S.sl.rd hm;have ev:v=.int a0:=aN ⟨F,rp⟩;subst ev;refine⟨_,hv,he Γ H O Z E _ _ _ hK e1 S λy H1 S1=>?_⟩;have ey:y=.int b0:=aN (S1.rd ymS);subst ey;refine⟨a0,b0,rfl,rfl,q _ H1 ?_⟩;have S2:=((S1.drop rfl).imm (i:=.int (f a0 b0)) (v:=.int (f a0 b0)) (iU rfl)).put hn (by simp[Kd.root]);rw[ag]at S2;exact S2
   ·cases hr
  ·cases hr
 ·cases hr
theorem yA(n:Nat){x:Str}{pos':Pos}(hN:∀i,(C i).N.Nodup)(he:QE C K e m)(hi:∀i,(C i).N[n]?=some x:=by intro _;rfl)(hx:∀i,Loc (C i).env.scope x:=by first|exact λ_=>ON rfl|exact λ_=>NQ rfl)(hf:∀i,(C i).fn x=true\/(C i).env.scope.names.lookup x=some .local:=by first|exact λ_=>.inl rfl|exact λ_=>.inr rfl) :
  QS C K (.AugAssign (.Name x pos') .Sub e pos) (si n (· - ·) m):=by
 obtain⟨t,p,r⟩:=he;exact⟨_,λi=>BY (hN i) (hi i) (hx i) (p i) AM (hf i),yO r⟩
theorem vD{body:List Stmt}(hp:∀i,Ob (LL (C i).prog (C i).w) (C i).A (C i).env (C i).xe)(hc:QT C K c mt)(hb:QSs C K body s1):QS C K (.While c body [] pos) (fk mt s1):=by
 obtain⟨tc,p,r⟩:=hc;obtain⟨tb,p',r'⟩:=hb;exact⟨_,λi=>vq (hp i) (p i) (p' i),sU r r'⟩
theorem Cn{body:List Stmt}(ck:CK C P W K mg base k)(hp:∀i,Ob (LL (C i).prog (C i).w) (C i).A (C i).env (C i).xe)(hi:QI C K tg iter it)(hg:QG C K none tg g)(hb:QSs C K body s1)(hs:∀i x,MD iter (C i).env x=pure x:=by intro _ _;rfl):QS C K (.For tg iter body [] pos) (bQ it g s1):=by
 obtain⟨wi,p,r⟩:=hi;obtain⟨tg',p1,r1,_⟩:=hg;obtain⟨tb,p',r'⟩:=hb;exact⟨_,λi=>BZ (hp i) (ck.calm i) (p i) (p1 i) (p' i) (hs i),yQ r r1 r'⟩
theorem sK{p:Pos}(ck:CK C P W K mg base k)(T:Bi mg)(ha:QA C K [a] ms)(hg:∀i,Gl (C i) "range" :=by intro _;rfl)(hs:bz a=false:=by rfl):QI C K tg (.Call (.Name "range" p) [a] [] pos) (aV ms):=by
 obtain⟨ta,q,_,r⟩:=ha;exact⟨_,λi=>sC (hg i) (by rw[ck.mg i];exact T.b_range) (q i) (by rw[ba hs];rfl),wd r⟩
theorem sM{p:Pos}(ck:CK C P W K mg base k)(T:Bi mg)(ha:QA C K [a,b] ms)(hg:∀i,Gl (C i) "range" :=by intro _;rfl)(hs:bz a=false:=by rfl)(hs2:bz b=false:=by rfl):QI C K tg (.Call (.Name "range" p) [a,b] [] pos) (fR ms):=by
 obtain⟨ta,q,_,r⟩:=ha;exact⟨_,λi=>sD (hg i) (by rw[ck.mg i];exact T.b_range) (q i) (by rw[ba hs,ba hs2];rfl) (by rw[ba hs2];rfl),we r⟩
theorem Ci{p:Pos}(ck:CK C P W K mg base k)(T:Bi mg)(ha:QA C K [a] ms)(hg:∀i,Gl (C i) "reversed" :=by intro _;rfl)(hs:bz a=false:=by rfl):QI C K tg (.Call (.Name "reversed" p) [a] [] pos) (sj ms):=by
 obtain⟨ta,q,_,r⟩:=ha;exact⟨_,λi=>irK (ck.kk i) (hg i) (by rw[ck.mg i];exact T.b_reversed) (q i) (ba hs),yT r⟩
theorem PI.or{X:Cx}{w1 w2:TI}(h1:PI X tg iter w1)(h2:PI X tg iter w2):PI X tg iter (λZ H R=>w1 Z H R\/w2 Z H R):=by
 intro Uq s Z H R I h;rcases h with h|h;exact h1 Uq s Z H R I h;exact h2 Uq s Z H R I h
noncomputable def fh:R->Option (List R)
 | ⟨_,.li is⟩=>some (is.map λi=>⟨.ow,.im i⟩)
 | ⟨.vw ro _,.lst ts⟩=>some (ts.map (partV ro))
 | ⟨_,.im (.tup is)⟩=>some (is.map λi=>⟨.ow,.im i⟩)
 | ⟨_,.im (.str z)⟩=>some ((sL z).map λc=>⟨.ow,.im (.str ⟨#[c]⟩)⟩)
 | ⟨_,.im (.ls is)⟩=>some (is.map λi=>⟨.ow,.im i⟩)
 | _=>none
@[irreducible] noncomputable def mIt(a:ME):MI:=⟨λO=>match a.run O with
 | some (r,O1)=>(match fh r with
  | some rs=>some (([r],rs),O1)
  | none=>none)
 | none=>none,a.mu⟩
theorem zt{Γ:Gm}{z:Str}{v:V}{src:R}:fW Γ (Its z) [v] [src] ((sL z).map λc=>⟨.ow,.im (.str ⟨#[c]⟩)⟩):=λH O Z E S=>by
 refine⟨λi hi=>?_,λi r hr=>?_⟩
 ·show z.cps.size<=i;simpa[sL]using hi
 ·obtain⟨c,hc,rfl⟩:=ay hr;have hc':z.cps[i]?=some c:=by simpa[sL]using hc
  refine⟨?_,λx H' y=>?_⟩
  ·show i<z.cps.size;exact(Array.getElem?_eq_some_iff.mp hc').1
  ·obtain⟨rfl,c',h1,rfl⟩:=y;rw[hc']at h1;cases h1;exact S.imm (iU rfl)
theorem CO{ta:TE}(ha:aT K ta m):jQ K (λZ H R=>qG K ta Z H R\/(xt K ta Z H R\/DM ta Z H R)) (mIt m):=by unhygienic
 intro Γ H O Z E Rr src items O' hK hr S q;simp only[mIt]at hr;split at hr
 ·rename_i r O1 e1;split at hr
  ·rename_i rs e2;cases hr;unfold fh at e2;split at e2
   ·rename_i k0 is;exact .inl (nj ha Γ H O Z E Rr _ items O' hK (by simp only[ut,e1,ib];cases e2;rfl) S q)
   ·exact .inl (nj ha Γ H O Z E Rr _ items O' hK (by simp only[ut,e1,ib];cases e2;rfl) S q)
   ·exact .inr (.inl (yS ha Γ H O Z E Rr _ items O' hK (by simp only[AX,e1,j6];cases e2;rfl) S q))
   ·rename_i k0 z;cases e2;right;right;refine ha Γ H O Z E _ _ _ hK e1 S λx H1 S1=>?_;exact⟨z,cZ (S1.rd ymS),q Γ rfl (λ_ _ _ _ S=>S) _ [x] H1 rfl S1 zt⟩
   ·exact .inl (nj ha Γ H O Z E Rr _ items O' hK (by simp only[ut,e1,ib];cases e2;rfl) S q)
   ·cases e2
  ·cases hr
 ·cases hr
theorem Cj(ck:CK C P W K mg base k)(ha:QE C K iter m):QI C K tg iter (mIt m):=by
 obtain⟨ta,q,r⟩:=ha;exact⟨_,λi=>PI.or (ilK (ck.kk i) (q i)) (PI.or (itK (ck.kk i) (q i)) (yf (q i))),CO r⟩
@[irreducible] noncomputable def mYes:MT:=⟨λO=>some (true,O),[]⟩
theorem y9:eY K Fv mYes:=by unhygienic
 intro Γ H O Z E Q b O' hK hr S q;cases hr;exact q H (by rw[show mYes.mu=[]from rfl,bL];exact S)
theorem yG:QTs C K [] mYes:=⟨_,λ_=>yr,y9⟩
theorem yH(h:QT C K c mt):QTs C K [c] mt:=by
 obtain⟨t,p,r⟩:=h;exact⟨_,λi=>yt (p i),r⟩
section
variable {elt tg2 iter2:Expr}{ifs:List Expr}{scope:MW}
theorem bf{N':List Str}{f:List (Option Nat)}(ck:CK C P W K mg base k)(hB:∀i,Blk (C i).env.scope scope (C i).N N' f)(hi:QI C K tg iter it)(hg:QG (o7 C scope N') K (some f) tg g)(ht:QTs (o7 C scope N') K ifs mt)(he:QE (o7 C scope N') K elt m)(hs:∀i x,MD iter (C i).env x=pure x:=by intro _ _;rfl) :
  QE C K (.ListComp elt [⟨tg,iter,ifs,0⟩] scope pos) (aH f it g mt m):=by
 obtain⟨wi,p0,r0⟩:=hi;obtain⟨gg,p1,r1,kk⟩:=hg;obtain⟨tt,p2,r2⟩:=ht;obtain⟨te,p3,r3⟩:=he;exact⟨_,λi=>xW (ck.calm i) (hB i) (p0 i) (λb=>p1 (i,b)) (kk f rfl) (λb=>p2 (i,b)) (λb=>p3 (i,b)) (hs i),oK r0 (kk f rfl) r1 r2 r3⟩
theorem bu(n:Nat){x:Str}{pos' spos:Pos}{N':List Str}{f:List (Option Nat)}(ck:CK C P W K mg base k)(hN:∀i,(C i).N.Nodup)(hB:∀i,Blk (C i).env.scope scope (C i).N N' f)(hi:QI C K tg iter it)(hg:QG (o7 C scope N') K (some f) tg g)(ht:QTs (o7 C scope N') K ifs mt)(he:QE (o7 C scope N') K elt m)(hn:∀i,(C i).N[n]?=some x:=by intro _;rfl)(hx:∀i,(C i).env.scope.names.lookup x=some .local:=by intro _;rfl)
  (hsw:∀i,Oa (.ListComp elt [⟨tg,iter,ifs,0⟩] scope pos) (some (.Name x pos')) spos.line (C i).env=pure true:=by intro _;rfl) (hs:∀i x,MD iter (C i).env x=pure x:=by intro _ _;rfl) :
  QS C K (.Assign [.Name x pos'] (.ListComp elt [⟨tg,iter,ifs,0⟩] scope pos) spos) (aA (aH f it g mt m) (ae n)):=by
 obtain⟨wi,p0,r0⟩:=hi;obtain⟨gg,p1,r1,kk⟩:=hg;obtain⟨tt,p2,r2⟩:=ht;obtain⟨te,p3,r3⟩:=he;exact⟨_,λi=>pP (ck.calm i) (hN i) (hn i) (hx i) (hB i) (p0 i) (λb=>p1 (i,b)) (kk f rfl) (λb=>p2 (i,b)) (λb=>p3 (i,b)) (hsw i) (hs i),ni (oK r0 (kk f rfl) r1 r2 r3) kH⟩
end
end
structure DI(k:Nat)(name:Str)(st:Stmt) where
 f:Addr
 cdv:LB
 A:LQ
 outer:List Env
 s:LD
 H:Hp
 E:XK
 hr:K8 k (A.deeper (Nz name (aj st) s.heap.objs.size f cdv))
noncomputable abbrev dC(P:LM) (W:LU) (K:yF) (mg:Str->Option LB) (base:Heap) (k:Nat) (N:List Str) (name:Str) (st:Stmt):DI k name st->Cx:=λd=>(kU CX0 P W K mg base N name (aj st) d.f d.cdv d.A d.outer d.s d.H d.E).nox
theorem pc{N:List Str}{name:Str}{st:Stmt}:CK (dC P W K mg base k N name st) P W K mg base k:=
 ⟨λ_=>rfl,λ_=>rfl,λ_=>rfl,λ_=>rfl,λ_=>rfl,λ_=>rfl,λd=>d.hr⟩
theorem Def.qp{name:Str}{st:Stmt}{N ps:List Str}(d:Def K mg name st ps)(S:KT N ps (aj st)){m:MS}(h:QSs (dC P W K mg base k N name st) K (br st) m)
  {run:List T->Option T} (hrun:∀ts,run ts=if ts.length=ps.length then cN m N.length ts else none):Has P W K mg base (k+1) name ps (spP K run):=by
 obtain⟨t,p,r⟩:=h;exact d.mp S (λf cdv A outer s H E hr=>⟨t,p ⟨f,cdv,A,outer,s,H,E,hr⟩,r⟩) hrun
theorem Def.qi{name:Str}{st:Stmt}{N ps:List Str}{j:Nat}(d:Def K mg name st ps)(S:KT N ps (aj st)){m:MS}(h:QSs (dC P W K mg base k N name st) K (br st) m)
  {run:List T->Option (T×T)} (hrun:∀ts,run ts=if ts.length=ps.length then eH m j N.length ts else none):Has P W K mg base (k+1) name ps (spI K j run):=by
 obtain⟨t,p,r⟩:=h;exact d.mi S (λf cdv A outer s H E hr=>⟨t,p ⟨f,cdv,A,outer,s,H,E,hr⟩,r⟩) hrun
section
variable {Γ:Gm}{H H':Hp}{L:List Hd}{O:Rho}{Z:St}{E X:List En}{v w x y:V}{t s:T}{K:yF}{Q:VK}
@[irreducible] noncomputable def mCallT(k:Nat)(run:List T->Option (T×T))(a:MA):ME:=⟨λO=>match a.run O with
 | some (rs,O1)=>(match rs[k]? with
  | some ⟨.ow,_⟩=>(match run (rs.map (·.t))with
   | some (t,_)=>some (⟨.ow,t⟩,O1)
   | none=>none)
  | _=>none)
 | none=>none,a.mu⟩
@[irreducible] noncomputable def ig(j:Nat)(o:ME)(lo hi:ME):MG:=⟨λr O=>match r with
 | ⟨.ow,.li ys⟩=>match o.run O with
  | some (⟨.vw (some j') (some p),.li xs⟩,O1)=>match lo.run O1 with
   | some (⟨_,.im (.int a)⟩,O2)=>match hi.run O2 with
    | some (⟨_,.im (.int c)⟩,O3)=>if(decide (j'=j) && !(lo.mu++hi.mu).contains j&&decide (0<=a/\a<=c/\c<=xs.length/\xs.length+ys.length<=sizeLine))=true then(match O3[j]? with
     | some (some ⟨k,t⟩)=>if k.isOw=true then some ((aq [j] O3).set j (some ⟨k,t.put p (.li (xs.take a.toNat++ys++xs.drop c.toNat))⟩))else none
     | _=>none)else none
    | _=>none
   | _=>none
  | _=>none
 | _=>none,(o.mu++(lo.mu++hi.mu))++[j]⟩
theorem sT{to tl th:TE}{o lo hi:ME}{j:Nat}(ho:aT K to o)(hl:aT K tl lo)(hh:aT K th hi):jP K (ub to (rf tl) (rf th)) (ig j o lo hi):=by
 intro Γ H O Z E Q v r O' hK hr S q;simp only[ig]at hr q;split at hr
 ·rename_i ys;split at hr
  ·rename_i j' p xs O1 e1;split at hr
   ·rename_i k1 a O2 e2;split at hr
    ·rename_i k2 c O3 e3;split at hr
     ·rename_i hc;rw[Gz,Gz,decide_eq_true_eq,Hf,decide_eq_true_eq]at hc;obtain⟨⟨rfl,hmv⟩,hz⟩:=hc;split at hr
      ·rename_i k t e4;split at hr
       ·rename_i hw;cases hr;refine ho Γ H O Z _ _ _ _ hK e1 S λx H1 S1=>?_;refine hl Γ H1 O1 Z _ _ _ _ hK e2 S1 λya H2 S2=>?_;refine⟨a,aN (S2.rd ymS),?_⟩;refine hh Γ H2 O2 Z _ _ _ _ hK e3 (S2.drop rfl) λyc H3 S3=>?_;refine⟨c,aN (S3.rd ymS),?_⟩;have S4:=S3.drop rfl;have k1':aF (lo.mu++hi.mu) ⟨none,x,⟨.vw (some j') (some p),.li xs⟩⟩=true:=by unfold aF;simp only[Kd.root];rw[hmv];rfl
        have k2':∀M:List Nat,aF M ⟨none,v,⟨.ow,.li ys⟩⟩=true:=λM=>rfl;rw[ag,az k1',ag,az (k2' _)]at S4;obtain⟨G,F,h1,h2,h3,h4,h5⟩:=Sim.mut (vs:=[v]) (ts:=[.li ys]) (S4.perm (List.Perm.swap _ _ _)) rfl e4 hw;obtain⟨p0,xs',rfl,g1,g2,rfl⟩:=km h1 λa ha=>h4 a (yaL _ ha);obtain⟨z,ez,g3⟩:=sW h2;cases ez;obtain⟨b0,ys',rfl,g4,g5,rfl⟩:=km g3 λa ha=>h4 a (yaR _ ha);have hne:p0≠b0:=λz=>by
         have:=h3;rw[z]at this;simp at this
        refine⟨p0,b0,xs',ys',a,c,rfl,rfl,rfl,rfl,g1,g4,hne,hz.1,hz.2.1,by rw[g2.length];exact hz.2.2.1,by rw[g2.length,g5.length];exact hz.2.2.2,?_⟩;refine ir (Q:=λ_ H'=>Q Z H') (F:=[b0]) (v:=.non) (i:=.non) g1 (((g2.take _).append g5).append (g2.drop _)) bM λv' H' G' a1 a2 a3 a4 a5 _=>q Z H' ?_;have:=h5 H' _ G' a1 a2 a3 a4 a5;rw[ag]at this;exact this
       ·cases hr
      ·cases hr
     ·cases hr
    ·cases hr
   ·cases hr
  ·cases hr
 ·cases hr
noncomputable def i8:MS:=⟨λ_=>none,[]⟩
theorem sS{t:TS}:dF K t i8:=by
 intro Γ H O Z E D f O' hK hE hr S q;cases hr
end
variable {ι : Type}{C:ι->Cx}{P:LM}{W:LU}{K:yF}{mg:Str->Option LB}{base:Heap}{k:Nat}
section
variable {Γ:Gm}{H H':Hp}{O:Rho}{Z:St}{E:List En}{v w x y:V}{t s:T}{K:yF}{Q:VK}
@[irreducible] noncomputable def aa(n:Nat)(ms:MA):MA:=⟨λO=>match ms.run O with
 | some (rs,O2)=>(match O2[n]? with
  | some (some r)=>(match O[n]? with
   | some (some _)=>some (rdR n r::rs,O2)
   | _=>none)
  | _=>none)
 | none=>none,ms.mu⟩
theorem sQ{n:Nat}{ta:TA}{ms:MA}(h2:eK K ta ms):eK K (q5 (zm n) ta) (aa n ms):=by unhygienic
 intro Γ H O Z E Q rs O' hK hr S q;simp only[aa]at hr;split at hr
 ·rename_i rs1 O2 e2;split at hr
  ·rename_i r e3;split at hr
   ·rename_i r0 e4;cases hr;obtain⟨v,hv,_⟩:=S.var e4;refine⟨v,hv,?_⟩;refine h2 Γ H O Z E _ rs1 _ hK e2 S λvs H2 hl S2=>q (v::vs) H2 (by rw[GI,GI,hl]) ?_;obtain⟨v',hv',S3⟩:=S2.var e3;rw[hv]at hv';cases hv';exact S3
   ·cases hr
  ·cases hr
 ·cases hr
@[irreducible] noncomputable def lI(i j k:Nat)(a:MA):MS:=⟨λO=>match a.run O with
 | some ([r1,r2,r3],O1)=>if(dJ r1&&dJ r2&&cr O1 i&&ax [i] r1&&ax [i] r2&&ax [i] r3&&cr O1 j&&ax [j] r2&&ax [j] r3&&cr O1 k&&ax [k] r3)=true then some (.nx,(aq [k] ((aq [j] ((aq [i] O1).set i (some r1))).set j (some r2))).set k (some r3))else none
 | _=>none,a.mu++[i,j,k]⟩
theorem jb{r:R}(h:dJ r=true):∀n,r.k ≠ .io n:=λn z=>by
 unfold dJ at h;rw[z]at h;cases h
theorem wa{i j k:Nat}{ta:TA}{a:MA}(ha:eK K ta a):dF K (Aj i j k ta) (lI i j k a):=by
 intro Γ H O Z E D f O' hK hE hr S q;simp only[lI]at hr q;split at hr
 ·rename_i r1 r2 r3 O1 e1;split at hr
  ·rename_i hb;cases hr;simp only[Gz]at hb;obtain⟨⟨⟨⟨⟨⟨⟨⟨⟨⟨n1,n2⟩,b1⟩,b2⟩,b3⟩,b4⟩,b5⟩,b6⟩,b7⟩,b8⟩,b9⟩:=hb;refine ha Γ H O Z E _ _ _ hK e1 S λvs H1 hl S1=>?_;obtain⟨v,w,u,rfl⟩:∃v w u,vs=[v,w,u]:=by
    cases vs with
    | nil=>cases hl
    | cons v r=>cases r with
     | nil=>cases hl
     | cons w r=>cases r with
      | nil=>cases hl
      | cons u r=>cases r with
       | nil=>exact⟨v,w,u,rfl⟩
       | cons _ _=>cases hl
   have S1:Sim Γ H1 O1 Z (⟨none,v,r1⟩::⟨none,w,r2⟩::⟨none,u,r3⟩::ah a.mu E):=S1;refine⟨v,w,u,rfl,q _ H1 ?_⟩;have S2:=S1.put b1 (cJ b2);rw[az (bj b3),az (bj b4)]at S2;have S3:=S2.put (gI b5 (jb n1)) (cJ b6);rw[az (bj b7)]at S3;have S4:=S3.put (gI (gI b8 (jb n1)) (jb n2)) (cJ b9);rw[ag,ag,ag]at S4;exact S4
  ·cases hr
 ·cases hr
end
variable {ι : Type}{C:ι->Cx}{P:LM}{W:LU}{K:yF}{mg:Str->Option LB}{base:Heap}{k:Nat}
section
variable {a b c e o tg iter:Expr}{es:List Expr}{ma mb mc m mo mi ml mh:ME}{ms:MA}{pos:Pos}{mt mt':MT}{s1 s2:MS}{g g':MG}{gs:MGs}{it it2:MI}{fr:Option (List (Option Nat))}
theorem vz(n:Nat){x:Str}{p:Pos}(h2:QA C K es ms)(hN:∀i,(C i).N[n]?=some x:=by intro _;rfl)(hv:∀i,Vis (C i).env.scope x:=by first|exact λ_=>ON rfl|exact λ_=>NQ (ON rfl)|exact λ_=>NQ (NQ rfl))(hd:(x==("__debug__" : Str))=false:=by decide)(hcd:(x==("__classdict__" : Str))=false:=by decide):QA C K (.Name x p::es) (aa n ms):=by
 obtain⟨ta,c,n',d⟩:=h2;exact⟨_,λi=>cU (pM (hN i) (hv i) hd hcd) (c i) rfl,by rw[aY,n'];rfl,sQ d⟩
theorem vA(j:Nat){lo hi:Expr}{p2:Pos}(ho:QE C K o mo)(hl:QE C K lo ml)(hh:QE C K hi mh)
  (ha:∀i v,Nh (.Subscript o (.Slice (some lo) (some hi) none p2) pos) (C i).env v=(do
   let ov <-Mo [v] (eval o (C i).env)
   let iv <-Mo [v,ov] (eval (.Slice (some lo) (some hi) none p2) (C i).env)
   NE pos
   Mo [v,ov,iv] (NW ov iv v)
   P5 [iv,v,ov] []):=by intro _ _;rfl):QG C K none (.Subscript o (.Slice (some lo) (some hi) none p2) pos) (ig j mo ml mh):=by
 obtain⟨to,p,r⟩:=ho;obtain⟨tl,p',r'⟩:=hl;obtain⟨th,p'',r''⟩:=hh;exact⟨_,λi=>uR (p i) (m7 (p' i)) (m7 (p'' i)) (ha i),sT r r' r'',λf h=>by cases h⟩
theorem yD(i j l:Nat){x y z:Str}{px py pz pt:Pos}{kt k2 pt2}(ck:CK C P W K mg base k)(hN:∀i,(C i).N.Nodup)(ha:QA C K [a,b,c] ms)(hi:∀n,(C n).N[i]?=some x:=by intro _;rfl)(hj:∀n,(C n).N[j]?=some y:=by intro _;rfl)(hk:∀n,(C n).N[l]?=some z:=by intro _;rfl)(hij:i≠j:=by decide)(hik:i≠l:=by decide)(hjk:j≠l:=by decide)
  (hx:∀n,(C n).env.scope.names.lookup x=some .local:=by intro _;rfl) (hy:∀n,(C n).env.scope.names.lookup y=some .local:=by intro _;rfl) (hz:∀n,(C n).env.scope.names.lookup z=some .local:=by intro _;rfl)
  (hw:∀n,M1 [.Tuple [.Name x px,.Name y py,.Name z pz] kt pt] (.Tuple [a,b,c] k2 pt2) (C n).env=pure (some [x,y,z]):=by intro _;rfl)
  (hs:∀n,M0 [.Tuple [.Name x px,.Name y py,.Name z pz] kt pt] (.Tuple [a,b,c] k2 pt2) pos.line (C n).env=pure false:=by intro _;rfl) :
  QS C K (.Assign [.Tuple [.Name x px,.Name y py,.Name z pz] kt pt] (.Tuple [a,b,c] k2 pt2) pos) (lI i j l ms):=by
 obtain⟨ta,p,_,r⟩:=ha;exact⟨_,λn=>yn (ck.calm n) (hN n) (hi n) (hj n) (hk n) hij hik hjk (hx n) (hy n) (hz n) (p n) (hw n) (hs n),wa r⟩
theorem jf{st:List Stmt}:QSs C K st i8:=⟨λ_ _ _=>False,λ_ _ _ _ _ _ _ h=>h.elim,sS⟩
end
variable {ι : Type}{C:ι->Cx}{P:LM}{W:LU}{K:yF}{mg:Str->Option LB}{base:Heap}{k:Nat}
section
variable {Γ:Gm}{H:Hp}{O:Rho}{Z:St}{E:List En}
noncomputable def fgt(i:Nat) (O:Rho):Rho:=(aq [i] O).set i none
theorem Sim.fgt(S:Sim Γ H O Z E)(i:Nat):Sim Γ H (L2.fgt i O) Z (ah [i] E):=by
 have S1:=S.kill [i];unfold L2.fgt;cases h:(aq [i] O)[i]? with
 | none=>rw[List.set_eq_of_length_le (by simpa using h)];exact S1
 | some o=>
  cases o with
  | none=>
   have:(aq [i] O).set i none=aq [i] O:=by
    apply Ig;intro j;by_cases e:i=j
    ·subst e;have hl:=(Gr.mp h).1;rw[Ho hl,h]
    ·rw[GO e]
   rw[this];exact S1
  | some r=>
   obtain⟨v,hv⟩:=S1.al i r h;have p:=bt (k:=0) hv h;have SL:KW Γ H (⟨some (0+i),v,r⟩::(ah [i] E++aC 0 Z ((aq [i] O).set i none))):=S1.sl.perm ((List.Perm.append_left _ p).trans Ha);obtain⟨L,g,e⟩:=SL;obtain⟨x,L',rfl,ex,eL⟩:=aK e;have hno:∀y∈ah [i] E++aC 0 Z (aq [i] O),y.r.k.root≠some i:=by
    rw[eN,<-aO];exact ko (by simp)
   refine⟨⟨L',g.dropK λy hy j hj hr=>?_,eL⟩,λm r' hm=>?_,by rw[IE];exact S1.len,λy hy j hj=>by rw[IE];exact S1.hi y hy j hj⟩
   ·rw[ex]at hj;have:j=i:=by simpa using hj.symm
    subst this;have:y.e∈L'.map (·.e):=GB.mpr ⟨y,hy,rfl⟩;rw[eL]at this;have hp:=(List.Perm.append_left (ah [j] E) p).trans Ha;exact hno y.e (hp.mem_iff.mpr (ymC _ this)) hr
   ·by_cases e:i=m
    ·subst e;rw[Ho (Gr.mp h).1]at hm;cases hm
    ·rw[GO e]at hm;exact S1.al m r' hm
noncomputable def fgts:List Nat->Rho->Rho
 | [],O=>O
 | i::ks,O=>fgts ks (fgt i O)
theorem Sim.fgts:∀{ks:List Nat} {O:Rho} {E:List En},Sim Γ H O Z E->Sim Γ H (L2.fgts ks O) Z (ah ks E)
 | [],O,E,S=>by rw[bL];exact S
 | i::ks,O,E,S=>by
  have:=Sim.fgts (ks:=ks) (S.fgt i);rw[ag]at this;exact this
@[irreducible] noncomputable def bS(ks:List Nat)(s:MS):MS:=⟨λO=>match s.run O with
 | some (.nx,O1)=>some (.nx,fgts ks O1)
 | some (.ct,O1)=>some (.ct,fgts ks O1)
 | some (.rt t,O1)=>some (.rt t,O1)
 | some (.bk,O1)=>some (.bk,O1)
 | none=>none,s.mu++ks⟩
theorem yP{ks:List Nat}{ts:TS}{s:MS}(h:dF K ts s):dF K ts (bS ks s):=by
 intro Γ H O Z E D f O' hK hE hr S q;simp only[bS]at hr q;split at hr
 ·rename_i O1 e1;cases hr;exact h Γ H O Z E D _ _ hK hE e1 S λZ' H' S'=>q Z' H' (by rw[<-ag];exact S'.fgts)
 ·rename_i O1 e1;cases hr;exact h Γ H O Z E D _ _ hK hE e1 S λZ' H' S'=>q Z' H' (by rw[<-ag];exact S'.fgts)
 ·rename_i t O1 e1;cases hr;exact h Γ H O Z E D _ _ hK hE e1 S q.weak
 ·rename_i O1 e1;cases hr;exact h Γ H O Z E D _ _ hK hE e1 S q.weak
 ·cases hr
theorem yE(ks:List Nat){st:List Stmt}{s:MS}(h:QSs C K st s):QSs C K st (bS ks s):=by
 obtain⟨t,p,r⟩:=h;exact⟨t,p,yP r⟩
end
structure W1{α:Type}(o:Option α)(Q : α->Prop):Prop where
 ex:∃x,o=some x/\Q x
structure W2{α β:Type}(o:Option (α × β))(Q : α->β->Prop):Prop where
 ex:∃x y,o=some (x,y)/\Q x y
structure WE(m:ME)(O:Rho)(Q:R->Rho->Prop):Prop where
 ex:∃x y,m.run O=some (x,y)/\Q x y
structure WT(m:MT)(O:Rho)(Q:Bool->Rho->Prop):Prop where
 ex:∃x y,m.run O=some (x,y)/\Q x y
structure WA(m:MA)(O:Rho)(Q:List R->Rho->Prop):Prop where
 ex:∃x y,m.run O=some (x,y)/\Q x y
structure WS(m:MS)(O:Rho)(Q:Fl->Rho->Prop):Prop where
 ex:∃x y,m.run O=some (x,y)/\Q x y
structure WG(m:MG)(r:R)(O:Rho)(Q:Rho->Prop):Prop where
 ex:∃x,m.run r O=some x/\Q x
structure WGs(m:MGs)(rs:List R)(O:Rho)(Q:Rho->Prop):Prop where
 ex:∃x,m.run rs O=some x/\Q x
structure WI(m:MI)(O:Rho)(Q:List R->List R->Rho->Prop):Prop where
 ex:∃r rs O',m.run O=some ((r,rs),O')/\Q r rs O'
structure WO(m:MO)(O:Rho)(Q:Option Int->Rho->Prop):Prop where
 ex:∃x y,m.run O=some (x,y)/\Q x y
structure Gu(b:Bool)(P:Prop):Prop where
 ex:b=true/\P
structure IsB(t:T)(Q:Bool->Prop):Prop where
 ex:∃b,t=.im (.bl b)/\Q b
structure IsN(t:T)(Q:Int->Prop):Prop where
 ex:∃n,t=.im (.int n)/\Q n
structure AtV(n:Nat)(O:Rho)(Q:R->Prop):Prop where
 ex:∃r,O[n]?=some (some r)/\Q r
structure AtC(k j:Nat)(rs:List R)(O:Rho)(Q:List Ac->Kd->T->Prop):Prop where
 ex:∃p t1 kd t0,rs[k]?=some ⟨.vw (some j) (some p),t1⟩/\((G9 rs.length).all λm=>decide (m=k)||ax [j] (rs.getD m ⟨.ow,.im .non⟩))=true/\O[j]?=some (some ⟨kd,t0⟩)/\kd.isOw=true/\Q p kd t0
structure AtT(k:Nat)(rs:List R)(P:Prop):Prop where
 ex:∃t1,rs[k]?=some ⟨.ow,t1⟩/\P
structure AtM(l:Nat)(O:Rho)(Q:Kd->T->Prop):Prop where
 ex:∃k t,O[l]?=some (some ⟨k,t⟩)/\k.isOw=true/\Q k t
structure AtS(j:Nat)(r:R)(Q:List Ac->T->Prop):Prop where
 ex:∃p s,r=⟨.vw (some j) (some p),s⟩/\Q p s
structure Two(rs:List R)(Q:R->R->Prop):Prop where
 ex:∃r1 r2,rs=[r1,r2]/\Q r1 r2
structure Three(rs:List R)(Q:R->R->R->Prop):Prop where
 ex:∃r1 r2 r3,rs=[r1,r2,r3]/\Q r1 r2 r3
structure Lw(rs:List R)(Q:Int->Prop):Prop where
 ex:∃n,rs.map (·.t)=[.im (.int n)]/\Q n
structure Lz(rs:List R)(Q:Int->Int->Prop):Prop where
 ex:∃m n,rs.map (·.t)=[.im (.int m),.im (.int n)]/\Q m n
theorem F3{b:Bool}{Q:Bool->Prop}(q:Q b):IsB (.im (.bl b)) Q:=⟨b,rfl,q⟩
theorem F4{n:Int}{Q:Int->Prop}(q:Q n):IsN (.im (.int n)) Q:=⟨n,rfl,q⟩
theorem o6{n:Nat}{O:Rho}{r:R}{Q:R->Prop}(h : O[n]?=some (some r))(q:Q r):AtV n O Q:=⟨r,h,q⟩
theorem Ar{k j:Nat}{rs:List R}{O:Rho}{p:List Ac}{t1 t0:T}{kd:Kd}{Q:List Ac->Kd->T->Prop}(h1:rs[k]?=some ⟨.vw (some j) (some p),t1⟩)(h2:((G9 rs.length).all λm=>decide (m=k)||ax [j] (rs.getD m ⟨.ow,.im .non⟩))=true)(h3 : O[j]?=some (some ⟨kd,t0⟩))(h4:kd.isOw=true)(q:Q p kd t0):AtC k j rs O Q:=⟨p,t1,kd,t0,h1,h2,h3,h4,q⟩
theorem As{l:Nat}{O:Rho}{k:Kd}{t:T}{Q:Kd->T->Prop}(h : O[l]?=some (some ⟨k,t⟩))(ho:k.isOw=true)(q:Q k t):AtM l O Q:=⟨k,t,h,ho,q⟩
theorem FP{j:Nat}{p:List Ac}{s:T}{Q:List Ac->T->Prop}(q:Q p s):AtS j ⟨.vw (some j) (some p),s⟩ Q:=⟨p,s,rfl,q⟩
theorem C2{r1 r2:R}{Q:R->R->Prop}(q:Q r1 r2):Two [r1,r2] Q:=⟨r1,r2,rfl,q⟩
theorem wD{r1 r2 r3:R}{Q:R->R->R->Prop}(q:Q r1 r2 r3):Three [r1,r2,r3] Q:=⟨r1,r2,r3,rfl,q⟩
theorem qH{rs:List R}{n:Int}{Q:Int->Prop}(h:rs.map (·.t)=[.im (.int n)])(q:Q n):Lw rs Q:=⟨n,h,q⟩
theorem xv{rs:List R}{m n:Int}{Q:Int->Int->Prop}(h:rs.map (·.t)=[.im (.int m),.im (.int n)])(q:Q m n):Lz rs Q:=⟨m,n,h,q⟩
section
variable {α β:Type}{O:Rho}{a b c m:ME}{ms:MA}{ct ct':MT}{s1 s2:MS}{g:MG}{gs:MGs}{it:MI}{QE':R->Rho->Prop}{QT':Bool->Rho->Prop}{QA':List R->Rho->Prop}{Q:Fl->Rho->Prop}{QG':Rho->Prop}{P:Prop}{o:Option α}{x : α}{Q1 : α->Prop}
theorem W2.mono{o:Option (α × β)}{Q1 Q2 : α->β->Prop}(h:W2 o Q1)(k:∀x y,Q1 x y->Q2 x y):W2 o Q2:=by obtain⟨x,y,e,q⟩:=h;exact⟨x,y,e,k x y q⟩
theorem w1(h:o=some x)(q:Q1 x):W1 o Q1:=⟨x,h,q⟩
theorem W1.mono{Q2 : α->Prop}(h:W1 o Q1)(k:∀x,Q1 x->Q2 x):W1 o Q2:=by obtain⟨x,e,q⟩:=h;exact⟨x,e,k x q⟩
theorem gu{b:Bool}(h:b=true)(p:P):Gu b P:=⟨h,p⟩
theorem WS.mono{Q2:Fl->Rho->Prop}(h:WS s1 O Q)(k:∀f O,Q f O->Q2 f O):WS s1 O Q2:=by obtain⟨x,y,e,q⟩:=h;exact⟨x,y,e,k x y q⟩
theorem WG.mono{r:R}{Q1 Q2:Rho->Prop}(h:WG g r O Q1)(k:∀O,Q1 O->Q2 O):WG g r O Q2:=by obtain⟨x,e,q⟩:=h;exact⟨x,e,k x q⟩
theorem WA.mono{Q1 Q2:List R->Rho->Prop}(h:WA ms O Q1)(k:∀rs O,Q1 rs O->Q2 rs O):WA ms O Q2:=by obtain⟨x,y,e,q⟩:=h;exact⟨x,y,e,k x y q⟩
theorem WT.mono{Q1 Q2:Bool->Rho->Prop}(h:WT ct O Q1)(k:∀b O,Q1 b O->Q2 b O):WT ct O Q2:=by obtain⟨x,y,e,q⟩:=h;exact⟨x,y,e,k x y q⟩
theorem WE.mono{Q2:R->Rho->Prop}(h:WE m O QE')(k:∀f O,QE' f O->Q2 f O):WE m O Q2:=by obtain⟨x,y,e,q⟩:=h;exact⟨x,y,e,k x y q⟩
theorem w_C{i:I}(q:QE' ⟨.ow,.im i⟩ O):WE (mC i) O QE':=by unhygienic exact⟨_,_,rfl,q⟩
theorem fS{n:Nat}{r:R}(h : O[n]?=some (some r))(q:QE' (rdR n r) O):WE (af n) O QE':=⟨rdR n r,O,by simp only[af,h],q⟩
theorem qc{f:T->T->Option T}(h:WE a O λra O1=>WE b O1 λrb O2=>Gu (ax b.mu ra) (W1 (f ra.t rb.t) λt=>QE' ⟨.ow,t⟩ O2)):WE (mOp f a b) O QE':=by
 obtain⟨ra,O1,e1,rb,O2,e2,al,t,e3,q⟩:=h;exact⟨⟨.ow,t⟩,O2,by simp only[mOp,e1,e2,al,if_true,e3],q⟩
theorem Gp{f:T->Option T}(h:WE a O λra O1=>W1 (f ra.t) λt=>QE' ⟨.ow,t⟩ O1):WE (mUn f a) O QE':=by
 obtain⟨ra,O1,e1,t,e3,q⟩:=h;exact⟨⟨.ow,t⟩,O1,by simp only[mUn,e1,e3],q⟩
theorem w_B{f:List T->Option T}(h:WA ms O λrs O1=>W1 (f (rs.map (·.t))) λt=>QE' ⟨.ow,t⟩ O1):WE (mB f ms) O QE':=by
 obtain⟨ra,O1,e1,t,e3,q⟩:=h;exact⟨⟨.ow,t⟩,O1,by simp only[mB,e1,e3],q⟩
theorem w_M{f:T->List T->Option T}(h:WE a O λra O1=>WA ms O1 λrs O2=>Gu (ax ms.mu ra) (W1 (f ra.t (rs.map (·.t))) λt=>QE' ⟨.ow,t⟩ O2)):WE (mM f a ms) O QE':=by
 obtain⟨ra,O1,e1,rb,O2,e2,al,t,e3,q⟩:=h;exact⟨⟨.ow,t⟩,O2,by simp only[mM,e1,e2,al,if_true,e3],q⟩
theorem wN(h:WE a O λra O1=>WE b O1 λrb O2=>Gu (ax b.mu ra) (W1 (ixR ra rb.t) λr=>QE' r O2)):WE (mIx a b) O QE':=by
 obtain⟨ra,O1,e1,rb,O2,e2,al,r,e3,q⟩:=h;exact⟨r,O2,by simp only[mIx,e1,e2,al,if_true,e3],q⟩
theorem zA{QO':Option Int->Rho->Prop}(q:QO' none O):WO mNoPart O QO':=by unhygienic exact⟨_,_,rfl,q⟩
theorem zB{QO':Option Int->Rho->Prop}(h:WE a O λr O1=>IsN r.t λn=>QO' (some n) O1):WO (dH a) O QO':=by
 obtain⟨⟨k,t⟩,O1,e1,n,e2,q⟩:=h;cases e2;exact⟨some n,O1,by simp only[dH,e1],q⟩
theorem Gn{lo hi:MO}(h:WE a O λra O1=>WO lo O1 λl O2=>WO hi O2 λu O3=>Gu (ax (lo.mu++hi.mu) ra) (W1 (slR ra l u) λr=>QE' r O3)):WE (mSl a lo hi) O QE':=by
 obtain⟨ra,O1,e1,l,O2,e2,u,O3,e3,al,r,e4,q⟩:=h;exact⟨r,O3,by simp only[mSl,e1,e2,e3,al,if_true,e4],q⟩
theorem C5(h:WE a O λr O1=>IsB r.t λbb=>(bb=true->WE b O1 QE')/\(bb=false->QE' ⟨.ow,.im (.bl false)⟩ O1)):WE (jr a b) O QE':=by
 obtain⟨⟨k,t⟩,O1,e1,bb,e2,q1,q2⟩:=h;cases e2;cases bb with
 | true=>obtain⟨p,O2,e,q⟩:=q1 rfl;exact⟨p,O2,by simp only[jr,e1,e],q⟩
 | false=>exact⟨_,_,by simp only[jr,e1],q2 rfl⟩
theorem Dd(h:WE a O λr O1=>IsB r.t λbb=>QE' ⟨.ow,.im (.bl !bb)⟩ O1):WE (lH a) O QE':=by
 obtain⟨⟨k,t⟩,O1,e1,bb,e2,q⟩:=h;cases e2;exact⟨_,_,by simp only[lH,e1],q⟩
theorem wP{mv:List Nat}(h:WA ms O λrs O1=>Gu (decide (rs.length<=1000)) (W2 (consL mv rs O1) λts O2=>QE' ⟨.ow,bT ts⟩ O2)):WE (aS mv ms) O QE':=by
 obtain⟨rs,O1,e1,hl,ts,O2,e2,q⟩:=h;exact⟨⟨.ow,bT ts⟩,O2,by simp only[aS,e1,if_pos (of_decide_eq_true hl),e2],q⟩
theorem wS{mv:List Nat}(h:WA ms O λrs O1=>Gu (decide (rs.length<=1000)) (W2 (consL mv rs O1) λts O2=>QE' ⟨.ow,lJ ts⟩ O2)):WE (ar mv ms) O QE':=by
 obtain⟨rs,O1,e1,hl,ts,O2,e2,q⟩:=h;exact⟨⟨.ow,lJ ts⟩,O2,by simp only[ar,e1,if_pos (of_decide_eq_true hl),e2],q⟩
theorem nC{k j:Nat}{run:List T->Option (T×T)}(h:WA ms O λrs O1=>AtC k j rs O1 λp kd t0=>W2 (run (rs.map (·.t))) λt s'=>QE' ⟨.ow,t⟩ ((aq [j] O1).set j (some ⟨kd,t0.put p s'⟩))):WE (ak k j run ms) O QE':=by
 obtain⟨rs,O1,e1,p,t1,kd,t0,e2,al,e3,ow,t,s',e4,q⟩:=h;refine⟨⟨.ow,t⟩,(aq [j] O1).set j (some ⟨kd,t0.put p s'⟩),?_,q⟩;simp only[ak,e1];simp only[e2];rw[if_pos (by rw[Gz];exact⟨rfl,al⟩)];simp only[e4,e3,ow,if_true]
theorem wQ{l:Nat}{mv:List Nat}{f:T->List T->Option (T×I)}(h:WE a O λra O1=>WA ms O1 λrs O2=>Gu (ax ms.mu ra) (W2 (mutR l mv f ra rs O2) QE')):WE (cF l mv f a ms) O QE':=by
 obtain⟨ra,O1,e1,rs,O2,e2,al,p,O3,e3,q⟩:=h;exact⟨p,O3,by simp only[cF,e1,e2,al,if_true,e3],q⟩
theorem Db{l:Nat}{f:T->List T->Option (T×I)}(h:WE a O λra O1=>W2 (mutR l [] f ra [] O1) QE'):WE (f8 l f a) O QE':=by
 obtain⟨ra,O1,e1,p,O3,e3,q⟩:=h;exact⟨p,O3,by simp only[f8,e1,e3],q⟩
theorem qb{l:Nat}{mv:List Nat}{f:T->List T->Option (T×I)}{p:List Ac}{s:T}{rs:List R}{QQ:R->Rho->Prop}(hm:mv.contains l=false)(h:W2 (consL mv rs O) λts O2=>AtM l O2 λk t=>W2 (f s ts) λs' res=>QQ ⟨.ow,.im res⟩ ((aq [l] O2).set l (some ⟨k,t.put p s'⟩))):W2 (mutR l mv f ⟨.vw (some l) (some p),s⟩ rs O) QQ:=by
 obtain⟨ts,O2,hc,k,t,ho,hk,s',res,e,q⟩:=h;refine⟨_,_,?_,q⟩;unfold mutR;simp only[decide_true,hm,hc,e,ho,hk,Kx,ID,if_true]
theorem kQ(q:QA' [] O):WA mNil O QA':=by unhygienic exact⟨_,_,rfl,q⟩
theorem nE(h:WE m O λr O1=>WA ms O1 λrs O2=>Gu (ax ms.mu r) (QA' (r::rs) O2)):WA (ac m ms) O QA':=by
 obtain⟨ra,O1,e1,rb,O2,e2,al,q⟩:=h;exact⟨ra::rb,O2,by simp only[ac,e1,e2,al,if_true],q⟩
theorem dU{n:Nat}{r0:R}(h0 : O[n]?=some (some r0))(h:WA ms O λrs O2=>AtV n O2 λr=>QA' (rdR n r::rs) O2):WA (aa n ms) O QA':=by
 obtain⟨rs,O2,e1,r,e2,q⟩:=h;exact⟨rdR n r::rs,O2,by simp only[aa,e1,e2,h0],q⟩
theorem zD(h:WE a O λr O1=>IsB r.t λbb=>QT' bb O1):WT (aI a) O QT':=by
 obtain⟨⟨k,t⟩,O1,e1,bb,e2,q⟩:=h;cases e2;exact⟨bb,O1,by simp only[aI,e1],q⟩
theorem Dt(h:WE a O λr O1=>W1 (tru r.t) λbb=>QT' bb O1):WT (sk a) O QT':=by
 obtain⟨r,O1,e1,bb,e2,q⟩:=h;exact⟨bb,O1,by simp only[sk,e1,e2],q⟩
theorem Ds(h:WT ct O λbb O1=>QT' (!bb) O1):WT (nY ct) O QT':=by
 obtain⟨r,O1,e1,q⟩:=h;exact⟨_,_,by simp only[nY,e1],q⟩
theorem Dr(h:WT ct O λbb O1=>(bb=true->WT ct' O1 QT')/\(bb=false->QT' false O1)):WT (mT ct ct') O QT':=by
 obtain⟨bb,O1,e1,q1,q2⟩:=h;cases bb with
 | true=>obtain⟨p,O2,e,q⟩:=q1 rfl;exact⟨p,O2,by simp only[mT,e1,e],q⟩
 | false=>exact⟨_,_,by simp only[mT,e1],q2 rfl⟩
theorem FK(h:WT ct O λbb O1=>(bb=true->QT' true O1)/\(bb=false->WT ct' O1 QT')):WT (mOr ct ct') O QT':=by
 obtain⟨bb,O1,e1,q1,q2⟩:=h;cases bb with
 | false=>obtain⟨p,O2,e,q⟩:=q2 rfl;exact⟨p,O2,by simp only[mOr,e1,e],q⟩
 | true=>exact⟨_,_,by simp only[mOr,e1],q1 rfl⟩
theorem jm(q:QT' true O):WT mYes O QT':=by unhygienic exact⟨_,_,rfl,q⟩
theorem zw{i:Nat}{r:R}(h:(cr O i&&ax [i] r)=true)(q:QG' ((aq [i] O).set i (some r))):WG (ae i) r O QG':=⟨(aq [i] O).set i (some r),by simp only[ae,h,if_true],q⟩
theorem zx(q:QG' O):WGs mGNil [] O QG':=by unhygienic exact⟨_,rfl,q⟩
theorem wW{r:R}{rs:List R}(al:rs.all (ax g.mu)=true)(h:WG g r O λO1=>WGs gs rs O1 QG'):WGs (au g gs) (r::rs) O QG':=by
 obtain⟨O1,e1,O2,e2,q⟩:=h;exact⟨O2,by simp only[au,al,if_true,e1,e2],q⟩
theorem Do{r:R}{rs:List R}(hp:parts r=some rs)(h:WGs gs rs O QG'):WG (bq gs) r O QG':=by
 obtain⟨O2,e2,q⟩:=h;exact⟨O2,by simp only[bq,hp,e2],q⟩
theorem Dn{j:Nat}{tv:T}(h:WE a O λra O1=>WE b O1 λrb O2=>AtS j ra λp s=>Gu (!b.mu.contains j) (AtM j O2 λk t=>W1 (wr s rb.t tv) λs'=>QG' ((aq [j] O2).set j (some ⟨k,t.put p s'⟩)))):WG (pA j a b) ⟨.ow,tv⟩ O QG':=by
 obtain⟨ra,O1,e1,rb,O2,e2,p,s,rfl,hm,k,t,e3,ow,s',e4,q⟩:=h;refine⟨_,?_,q⟩;simp only[pA,e1,e2,hm,decide_true,ID,if_true,e4,e3,ow]
theorem wV{j:Nat}{ys:List I}(h:WE a O λra O1=>WE b O1 λrb O2=>WE c O2 λrc O3=>∃p xs k t i n,ra=⟨.vw (some j) (some p),.li xs⟩/\rb.t=.im (.int i)/\rc.t=.im (.int n)/\(b.mu++c.mu).contains j=false/\(0<=i/\i<=n/\n<=xs.length/\xs.length+ys.length<=sizeLine)/\O3[j]?=some (some ⟨k,t⟩)/\k.isOw=true/\QG' ((aq [j] O3).set j (some ⟨k,t.put p (.li (xs.take i.toNat++ys++xs.drop n.toNat))⟩))):WG (ig j a b c) ⟨.ow,.li ys⟩ O QG':=by
 obtain⟨ra,O1,e1,⟨_,_⟩,O2,e2,⟨_,_⟩,O3,e3,p,xs,k,t,i,n,rfl,rfl,rfl,hm,hz,e4,ow,q⟩:=h;refine⟨_,?_,q⟩;simp only[ig,e1,e2,e3,hm,decide_true,Kx,JT];rw[if_pos (decide_eq_true hz)];simp only[e4,ow,if_true]
theorem Dc(q:Q .nx O):WS mNext O Q:=by unhygienic exact⟨_,_,rfl,q⟩
@[irreducible] def AC(b:MS)(Q:Fl->Rho->Prop):Fl->Rho->Prop
 | .nx,O=>WS b O Q
 | .rt t,O=>Q (.rt t) O
 | .bk,O=>Q .bk O
 | .ct,O=>Q .ct O
theorem Al(h:WS s1 O (AC s2 Q)):WS (ao s1 s2) O Q:=by unhygienic
 obtain⟨f,O1,e1,q⟩:=h;cases f with
 | nx=>have q:WS s2 O1 Q:=q;obtain⟨p,O2,e,q⟩:=q;exact⟨p,O2,by simp only[ao,e1,e],q⟩
 | rt t=>exact⟨.rt t,O1,by simp only[ao,e1],q⟩
 | bk=>exact⟨.bk,O1,by simp only[ao,e1],q⟩
 | ct=>exact⟨.ct,O1,by simp only[ao,e1],q⟩
theorem bg(h:WT ct O λbb O1=>(bb=true->WS s1 O1 Q)/\(bb=false->WS s2 O1 Q)):WS (mIf ct s1 s2) O Q:=by
 obtain⟨bb,O1,e1,q1,q2⟩:=h;cases bb with
 | true=>obtain⟨p,O2,e,q⟩:=q1 rfl;exact⟨p,O2,by simp only[mIf,e1,e],q⟩
 | false=>obtain⟨p,O2,e,q⟩:=q2 rfl;exact⟨p,O2,by simp only[mIf,e1,e],q⟩
theorem qa(h:WE m O λ_ O1=>Q .nx O1):WS (bm m) O Q:=by
 obtain⟨r,O1,e1,q⟩:=h;exact⟨.nx,O1,by simp only[bm,e1],q⟩
theorem Fx(h:WE m O λr O1=>WG g r O1 λO2=>Q .nx O2):WS (aA m g) O Q:=by
 obtain⟨r,O1,e1,O2,e2,q⟩:=h;exact⟨.nx,O2,by simp only[aA,e1,e2],q⟩
theorem FF(h:WE m O λr O1=>W2 (sV r O1) λt O2=>Q (.rt t) O2):WS (aX m) O Q:=by
 obtain⟨r,O1,e1,t,O2,e2,q⟩:=h;exact⟨.rt t,O2,by simp only[aX,e1,e2],q⟩
theorem Fy{i:Nat}{f:Int->Int->Int}{k:Kd}{x:Int}(h0 : O[i]?=some (some ⟨k,.im (.int x)⟩))(h:WE m O λr O1=>IsN r.t λy=>Gu (cr O1 i) (Q .nx ((aq [i] O1).set i (some ⟨.ow,.im (.int (f x y))⟩)))):WS (si i f m) O Q:=by
 obtain⟨⟨k',t'⟩,O1,e1,y,e2,hn,q⟩:=h;cases e2;exact⟨_,_,by simp only[si,h0,e1,hn,if_true],q⟩
theorem FE{i j:Nat}(h:WA ms O λrs O1=>Two rs λr1 r2=>Gu (dJ r1&&dJ r2) (Gu (cr O1 i&&ax [i] r1&&ax [i] r2&&cr O1 j&&ax [j] r2) (Q .nx ((aq [j] ((aq [i] O1).set i (some r1))).set j (some r2))))):WS (iL i j ms) O Q:=by
 obtain⟨rs,O1,e1,r1,r2,rfl,hb,hc,q⟩:=h;refine⟨.nx,(aq [j] ((aq [i] O1).set i (some r1))).set j (some r2),?_,q⟩;rw[Gz]at hb;simp only[iL,xE,e1,HL,IZ,hb.1,hb.2,JU,ID,if_true,hc]
theorem Di{i j k:Nat}(h:WA ms O λrs O1=>Three rs λr1 r2 r3=>Gu (dJ r1&&dJ r2&&cr O1 i&&ax [i] r1&&ax [i] r2&&ax [i] r3&&cr O1 j&&ax [j] r2&&ax [j] r3&&cr O1 k&&ax [k] r3) (Q .nx ((aq [k] ((aq [j] ((aq [i] O1).set i (some r1))).set j (some r2))).set k (some r3)))):WS (lI i j k ms) O Q:=by
 obtain⟨rs,O1,e1,r1,r2,r3,rfl,hc,q⟩:=h;exact⟨_,_,by simp only[lI,e1,hc,if_true],q⟩
@[irreducible] def DD(ks:List Nat)(Q:Fl->Rho->Prop):Fl->Rho->Prop
 | .nx,O=>Q .nx (fgts ks O)
 | .ct,O=>Q .ct (fgts ks O)
 | .rt t,O=>Q (.rt t) O
 | .bk,O=>Q .bk O
theorem Fz{ks:List Nat}(h:WS s1 O (DD ks Q)):WS (bS ks s1) O Q:=by unhygienic
 obtain⟨f,O1,e1,q⟩:=h;cases f with
 | nx=>exact⟨_,_,by simp only[bS,e1],q⟩
 | ct=>exact⟨_,_,by simp only[bS,e1],q⟩
 | rt t=>exact⟨_,_,by simp only[bS,e1],q⟩
 | bk=>exact⟨_,_,by simp only[bS,e1],q⟩
def rQ(Inv:Nat->Rho->Prop)(i:Nat)(Q:Fl->Rho->Prop):Fl->Rho->Prop
 | .nx,O=>Inv (i+1) O
 | .ct,O=>Inv (i+1) O
 | .bk,O=>Q .nx O
 | .rt t,O=>Q (.rt t) O
theorem qD{items:List R}(Inv:Nat->Rho->Prop)(hs:∀i r O,items[i]?=some r->Inv i O->WG g r O λO1=>WS s1 O1 (rQ Inv i Q))(he:∀O,Inv items.length O->Q .nx O):∀(l:List R) (i:Nat) (O:Rho),items.drop i=l->i<=items.length->Inv i O->W2 (fe g.run s1.run l O) Q
 | [],i,O,hl,hi,hI=>by
  have:i=items.length:=by have:=congrArg HG hl;simp at this;omega
  subst this;exact⟨_,_,rfl,he O hI⟩
 | r::l,i,O,hl,hi,hI=>by
  have hr:items[i]?=some r:=by rw[<-Ko,hl];rfl
  have hlt:=(Gr.mp hr).1;have hl':items.drop (i+1)=l:=by rw[<-Ky,hl];rfl
  obtain⟨O1,e1,f,O2,e2,q⟩:=hs i r O hr hI;have k:=qD Inv hs he l (i+1) O2 hl' hlt;simp only[fe,e1,e2];cases f with
  | nx=>exact k q
  | ct=>exact k q
  | bk=>exact⟨_,_,rfl,q⟩
  | rt t=>exact⟨_,_,rfl,q⟩
theorem rB(h:WI it O λsrc items O1=>Gu (src.all (ax (g.mu++s1.mu))&&items.all (ax (g.mu++s1.mu))) (∃Inv:Nat->Rho->Prop,Inv 0 O1/\(∀i r O,items[i]?=some r->Inv i O->WG g r O λO1=>WS s1 O1 (rQ Inv i Q))/\∀O,Inv items.length O->Q .nx O)):WS (bQ it g s1) O Q:=by
 obtain⟨src,items,O1,e1,al,Inv,h0,hs,he⟩:=h;obtain⟨p,O2,e,q⟩:=qD (Q:=Q) Inv hs he items 0 O1 rfl (Ie _) h0;exact⟨p,O2,by simp only[bQ,e1];rw[if_pos al];exact e,q⟩
theorem jB{M:List Nat}{items:List R}(h:∀r∈items,r.k=.ow):items.all (ax M)=true:=Hw.mpr λr hr=>by unfold ax dh;rw[h r hr];rfl
theorem C7{i:Nat}(h:WA ms O λrs O1=>∃n:Int,rs.map (·.t)=[.im (.int n)]/\-(2^62)<=n/\n<2^62/\(∃Inv:Nat->Rho->Prop,Inv 0 O1/\(∀(j:Nat) O,(j:Int)<n->Inv j O->WG (ae i) (kD j) O λO1=>WS s1 O1 (rQ Inv j Q))/\∀O,Inv n.toNat O->Q .nx O)):WS (bQ (aV ms) (ae i) s1) O Q:=by
 obtain⟨rs,O1,e1,n,e2,h1,h2,Inv,h0,hs,he⟩:=h;refine rB ⟨[oI],ik 0 n.toNat,O1,by simp only[aV,e1,e2,l1,isI];rw[if_pos ⟨h1,h2⟩],?_,Inv,h0,λj r O hr hI=>?_,λO hI=>he O (by simpa[ik]using hI)⟩
 ·rw[Gz];exact⟨rfl,jB λr hr=>by obtain⟨x,_,rfl⟩:=GB.mp hr;rfl⟩
 ·obtain⟨x,hx,rfl⟩:=ay hr;obtain⟨a1,a2⟩:=Gr.mp hx;simp at a1 a2;subst a2;have:=hs j O (by omega) hI;rw[KD];exact this
theorem zn{i:Nat}(h:WA ms O λrs O1=>∃m n:Int,rs.map (·.t)=[.im (.int m),.im (.int n)]/\(-(2^62)<=m/\m<2^62/\-(2^62)<=n/\n<2^62)/\(∃Inv:Nat->Rho->Prop,Inv 0 O1/\(∀(j:Nat) O,m+(j:Int)<n->Inv j O->WG (ae i) (kD (m+j)) O λO1=>WS s1 O1 (rQ Inv j Q))/\∀O,Inv (n-m).toNat O->Q .nx O)):WS (bQ (fR ms) (ae i) s1) O Q:=by
 obtain⟨rs,O1,e1,m,n,e2,h1,Inv,h0,hs,he⟩:=h;refine rB ⟨[oI],ik m (n-m).toNat,O1,by simp only[fR,e1,e2,l2,l1,ii2,isI];rw[if_pos h1],?_,Inv,h0,λj r O hr hI=>?_,λO hI=>he O (by simpa[ik]using hI)⟩
 ·rw[Gz];exact⟨rfl,jB λr hr=>by obtain⟨x,_,rfl⟩:=GB.mp hr;rfl⟩
 ·obtain⟨x,hx,rfl⟩:=ay hr;obtain⟨a1,a2⟩:=Gr.mp hx;simp at a1 a2;subst a2;exact hs j O (by omega) hI
theorem C6(h:WE m O λr O1=>∃is:List I,fh r=some (is.map λi=>⟨.ow,.im i⟩)/\ax (g.mu++s1.mu) r=true/\(∃Inv:Nat->Rho->Prop,Inv 0 O1/\(∀j x O,is[j]?=some x->Inv j O->WG g ⟨.ow,.im x⟩ O λO1=>WS s1 O1 (rQ Inv j Q))/\∀O,Inv is.length O->Q .nx O)):WS (bQ (mIt m) g s1) O Q:=by
 obtain⟨r,O1,e1,is,e2,al,Inv,h0,hs,he⟩:=h;refine rB ⟨[r],is.map (λi=>⟨.ow,.im i⟩),O1,by simp only[mIt,e1,e2],?_,Inv,h0,λj r O hr hI=>?_,λO hI=>he O (by simpa using hI)⟩
 ·rw[Gz];exact⟨by rw[HL,IZ,al];rfl,jB λr hr=>by obtain⟨x,_,rfl⟩:=GB.mp hr;rfl⟩
 ·obtain⟨x,hx,rfl⟩:=ay hr;exact hs j x O hx hI
theorem zq(Inv:Nat->Rho->Prop)(n:Nat)(h0:Inv n O) (hs:∀n O,Inv n O->WT ct O λbb O1=>(bb=false->Q .nx O1)/\(bb=true->WS s1 O1 λf O2=>match f with
  | .nx=>∃m,m<n/\Inv m O2
  | .ct=>∃m,m<n/\Inv m O2
  | .bk=>Q .nx O2
  | .rt t=>Q (.rt t) O2)):WS (fk ct s1) O Q:=by
 have key:∀n O,Inv n O->W2 (itW ct s1 (n+1) O) Q:=by
  intro n
  induction n using Nat.strongRecOn with
  | _ n ih=>
   intro O hI;obtain⟨bb,O1,e1,q1,q2⟩:=hs n O hI;cases bb with
   | false=>exact⟨.nx,O1,by simp only[itW,e1],q1 rfl⟩
   | true=>
    obtain⟨f,O2,e2,q⟩:=q2 rfl;cases f with
    | nx=>
     obtain⟨m,hm,hI'⟩:=q;obtain⟨p,O3,e,q⟩:=ih m hm O2 hI';exact⟨p,O3,by simp only[itW,e1,e2];exact eS e _ (by omega),q⟩
    | ct=>
     obtain⟨m,hm,hI'⟩:=q;obtain⟨p,O3,e,q⟩:=ih m hm O2 hI';exact⟨p,O3,by simp only[itW,e1,e2];exact eS e _ (by omega),q⟩
    | bk=>exact⟨.nx,O2,by simp only[itW,e1,e2],q⟩
    | rt t=>exact⟨.rt t,O2,by simp only[itW,e1,e2],q⟩
 obtain⟨p,O3,e,q⟩:=key n O h0;exact⟨p,O3,tE e,q⟩
theorem jU{fr:List (Option Nat)}{M:List Nat}{items:List R}{QC:List T->Rho->Prop}(Inv:Nat->List T->Rho->Prop)
  (hs:∀i r acc O,items[i]?=some r->Inv i acc O->WG g (k8 (piF fr) r) (inR fr O) λO1=>WT ct O1 λbb O2=>(bb=true->WE m O2 λr O3=>∃t,r=⟨.ow,t⟩/\Inv (i+1) (acc++[t]) (dw fr M O3 O))/\(bb=false->Inv (i+1) acc (dw fr M O2 O)))
  (he:∀acc O,Inv items.length acc O->QC acc O):∀(l:List R) (i:Nat) (acc:List T) (O:Rho),items.drop i=l->i<=items.length->Inv i acc O->W2 (bZ fr M g ct m l O acc) QC
 | [],i,acc,O,hl,hi,hI=>by
  have:i=items.length:=by have:=congrArg HG hl;simp at this;omega
  subst this;exact⟨_,_,rfl,he acc O hI⟩
 | r::l,i,acc,O,hl,hi,hI=>by
  have hr:items[i]?=some r:=by rw[<-Ko,hl];rfl
  have hlt:=(Gr.mp hr).1;have hl':items.drop (i+1)=l:=by rw[<-Ky,hl];rfl
  obtain⟨O1,e1,bb,O2,e2,q1,q2⟩:=hs i r acc O hr hI;cases bb with
  | true=>
   obtain⟨r',O3,e3,t,rfl,q⟩:=q1 rfl;simp only[bZ,e1,e2,e3];exact jU Inv hs he l (i+1) _ _ hl' hlt q
  | false=>
   simp only[bZ,e1,e2];exact jU Inv hs he l (i+1) _ _ hl' hlt (q2 rfl)
theorem kO{fr:List (Option Nat)} (h:WI it O λsrc items O1=>Gu (ff fr O1.length&&eU (g.mu++(ct.mu++m.mu)) fr.length&&src.all (ax (muF fr (g.mu++(ct.mu++m.mu))))) (items.length<sizeLine/\∃Inv:Nat->List T->Rho->Prop,Inv 0 [] O1 /\
  (∀i r acc O,items[i]?=some r->Inv i acc O->WG g (k8 (piF fr) r) (inR fr O) λO1=>WT ct O1 λbb O2=>(bb=true->WE m O2 λr O3=>∃t,r=⟨.ow,t⟩/\Inv (i+1) (acc++[t]) (dw fr (g.mu++(ct.mu++m.mu)) O3 O))/\(bb=false->Inv (i+1) acc (dw fr (g.mu++(ct.mu++m.mu)) O2 O))) /\
  ∀acc O,Inv items.length acc O->QE' ⟨.ow,bT acc⟩ O)):WE (aH fr it g ct m) O QE':=by
 obtain⟨src,items,O1,e1,al,hl,Inv,h0,hs,he⟩:=h;obtain⟨ts,O2,e,q⟩:=jU (QC:=λacc O=>QE' ⟨.ow,bT acc⟩ O) Inv hs he items 0 [] O1 rfl (Ie _) h0;refine⟨⟨.ow,bT ts⟩,O2,?_,q⟩;simp only[aH,e1];rw[if_pos (by rw[Gz];exact⟨al,decide_eq_true hl⟩)];simp only[e]
theorem zy{QI':List R->List R->Rho->Prop}(h:WA ms O λrs O1=>∃n:Int,rs.map (·.t)=[.im (.int n)]/\(-(2^62)<=n/\n<2^62)/\QI' [oI] (ik 0 n.toNat) O1):WI (aV ms) O QI':=by
 obtain⟨rs,O1,e1,n,e2,h1,q⟩:=h;exact⟨_,_,_,by simp only[aV,e1,e2,l1,isI];rw[if_pos h1],q⟩
theorem zz{QI':List R->List R->Rho->Prop}(h:WA ms O λrs O1=>∃m n:Int,rs.map (·.t)=[.im (.int m),.im (.int n)]/\(-(2^62)<=m/\m<2^62/\-(2^62)<=n/\n<2^62)/\QI' [oI] (ik m (n-m).toNat) O1):WI (fR ms) O QI':=by
 obtain⟨rs,O1,e1,m,n,e2,h1,q⟩:=h;exact⟨_,_,_,by simp only[fR,e1,e2,l2,l1,ii2,isI];rw[if_pos h1],q⟩
theorem Dp{QI':List R->List R->Rho->Prop}(h:WE m O λr O1=>W1 (fh r) λrs=>QI' [r] rs O1):WI (mIt m) O QI':=by
 obtain⟨r,O1,e1,rs,e2,q⟩:=h;exact⟨[r],rs,O1,by simp only[mIt,e1,e2],q⟩
end
section
variable {α β:Type}{O:Rho}{QT1:T->Prop}{QR:R->Prop}{QI1:T->I->Prop}{m:MS}{n k:Nat}{ts:List T}
@[irreducible] def fP(R:T->Prop):Fl->Rho->Prop
 | .rt t,_=>R t
 | .nx,_=>R (.im .non)
 | _,_=>False
@[irreducible] def fI(k:Nat)(R:T->T->Prop):Fl->Rho->Prop
 | .rt t,O=>∃s',O[k]?=some (some ⟨.io 0,s'⟩)/\R t s'
 | .nx,O=>∃s',O[k]?=some (some ⟨.io 0,s'⟩)/\R (.im .non) s'
 | _,_=>False
theorem qX{run:List T->Option T}{l:Nat}(hrun:run ts=if ts.length=l then cN m n ts else none)(hl:ts.length=l)(h:WS m (cM ts n) (fP QT1)):W1 (run ts) QT1:=by unhygienic
 rw[hrun,if_pos hl];obtain⟨f,O,e,q⟩:=h;cases f with
 | nx=>exact⟨_,by simp only[cN,e],q⟩
 | rt t=>exact⟨_,by simp only[cN,e],q⟩
 | bk=>cases q
 | ct=>cases q
theorem gQ{run:List T->Option (T×T)}{l:Nat}{Q2:T->T->Prop}(hrun:run ts=if ts.length=l then eH m k n ts else none)(hl:ts.length=l)(h:WS m (fu k ts n) (fI k Q2)):W2 (run ts) Q2:=by unhygienic
 rw[hrun,if_pos hl];obtain⟨f,O,e,q⟩:=h;cases f with
 | nx=>have q:∃s',O[k]?=some (some ⟨.io 0,s'⟩)/\Q2 (.im .non) s':=q;obtain⟨s',e2,q⟩:=q;exact⟨_,_,by simp only[eH,e,e2],q⟩
 | rt t=>have q:∃s',O[k]?=some (some ⟨.io 0,s'⟩)/\Q2 t s':=q;obtain⟨s',e2,q⟩:=q;exact⟨_,_,by simp only[eH,e,e2],q⟩
 | bk=>cases q
 | ct=>cases q
variable {a b:Int}{s z:Str}{is js:List I}{i j:I}
theorem Bm(q:QT1 (.im (.int (a+b)))):W1 (bd (.im (.int a)) (.im (.int b))) QT1:=by unhygienic exact⟨_,rfl,q⟩
theorem kw(h:s.length+z.length<=sizeLine)(q:QT1 (.im (.str (s++z)))):W1 (bd (.im (.str s)) (.im (.str z))) QT1:=by unhygienic exact⟨_,if_pos h,q⟩
theorem uC(h:is.length+js.length<=sizeLine)(q:QT1 (.im (.tup (is++js)))):W1 (bd (.im (.tup is)) (.im (.tup js))) QT1:=by unhygienic exact⟨_,if_pos h,q⟩
theorem mW(h:is.length+js.length<=sizeLine)(q:QT1 (.li (is++js))):W1 (bd (.li is) (.li js)) QT1:=by unhygienic exact⟨_,if_pos h,q⟩
theorem El(q:QT1 (.im (.int (a-b)))):W1 (bR (.im (.int a)) (.im (.int b))) QT1:=by unhygienic exact⟨_,rfl,q⟩
theorem A2(h1 : -(2^64)<a)(h2:a<2^64):ju a b=true:=by unfold ju;simp only[h1,h2,decide_true,ID,KB]
theorem F7(h1 : -(2^64)<b)(h2:b<2^64):ju a b=true:=by unfold ju;simp only[h1,h2,decide_true,ID,Bool.or_true]
theorem qP(h:ju a b=true)(q:QT1 (.im (.int (a*b)))):W1 (cX (.im (.int a)) (.im (.int b))) QT1:=by unhygienic exact⟨_,if_pos h,q⟩
theorem uH(h:is≠[]/\is.length<=1000/\1<=b/\b<=1000)(q:QT1 (.im (.tup (Gx b.toNat is).flatten))):W1 (cX (.im (.tup is)) (.im (.int b))) QT1:=by unhygienic exact⟨_,if_pos h,q⟩
theorem uG(h : -(2^63)<=b/\b<2^63/\is.length*b.toNat<=sizeLine)(q:QT1 (.li (Gx b.toNat is).flatten)):W1 (cX (.li is) (.im (.int b))) QT1:=by unhygienic exact⟨_,if_pos h,q⟩
theorem Bs(h:0<b/\b<2^64)(q:QT1 (.im (.int (a / b)))):W1 (f6 (.im (.int a)) (.im (.int b))) QT1:=by unhygienic exact⟨_,if_pos h,q⟩
theorem uF(h:0<b)(q:QT1 (.im (.int (a % b)))):W1 (ft (.im (.int a)) (.im (.int b))) QT1:=by unhygienic exact⟨_,if_pos h,q⟩
theorem zT(h:0<=b/\b<=1000000/\a.natAbs<2^64)(q:QT1 (.im (.int (a^b.toNat)))):W1 (sE (.im (.int a)) (.im (.int b))) QT1:=by unhygienic exact⟨_,if_pos h,q⟩
theorem Ei(q:QT1 (.im (.int (-a)))):W1 (ux (.im (.int a))) QT1:=by unhygienic exact⟨_,rfl,q⟩
theorem D6{p:Int->Int->Bool}(q:QT1 (.im (.bl (p a b)))):W1 (hJ p (.im (.int a)) (.im (.int b))) QT1:=by unhygienic exact⟨_,rfl,q⟩
theorem D7(q:QT1 (.im (.bl (decide (a=b))))):W1 (eqT (.im (.int a)) (.im (.int b))) QT1:=by unhygienic exact⟨_,rfl,by simpa using q⟩
theorem Eh(q:QT1 (.im (.bl (!decide (a=b))))):W1 (neT (.im (.int a)) (.im (.int b))) QT1:=by unhygienic exact⟨_,rfl,by simpa using q⟩
theorem D9(q:QT1 (.im (.bl (decide (s=z))))):W1 (eqT (.im (.str s)) (.im (.str z))) QT1:=by unhygienic exact⟨_,rfl,by simpa using q⟩
theorem D8(h:I.doks is=true/\I.doks js=true/\I.deps is<=50)(q:QT1 (.im (.bl (decide (is=js))))):W1 (eqT (.li is) (.li js)) QT1:=⟨_,by simp only[eqT,eqB];rw[if_pos h];rfl,q⟩
theorem DP(h:i.dok=true/\I.doks is=true/\I.deps is<=50):inB (.im i) (.im (.tup is))=some (decide (i∈is)):=by cases i<;>exact if_pos h
theorem Ec(h:i.dok=true/\I.doks is=true/\I.deps is<=50)(q:QT1 (.im (.bl (decide (i∈is))))):W1 (inT (.im i) (.im (.tup is))) QT1:=⟨_,by unfold inT;rw[DP h];rfl,q⟩
theorem DO(h:i.dok=true/\I.doks is=true/\I.deps is<=50):inB (.im i) (.li is)=some (decide (i∈is)):=by cases i<;>exact if_pos h
theorem BE(h:i.dok=true/\I.doks is=true/\I.deps is<=50)(q:QT1 (.im (.bl (!decide (i∈is))))):W1 (sr (.im i) (.li is)) QT1:=⟨_,by unfold sr;rw[DO h];rfl,q⟩
theorem Bx(h:s.length<=sizeLine)(q:QT1 (.im (.int s.length))):W1 (cE [.im (.str s)]) QT1:=by unhygienic exact⟨_,if_pos h,q⟩
theorem By(q:QT1 (.im (.int is.length))):W1 (cE [.im (.tup is)]) QT1:=by unhygienic exact⟨_,rfl,q⟩
theorem Bw(q:QT1 (.im (.int is.length))):W1 (cE [.li is]) QT1:=by unhygienic exact⟨_,rfl,q⟩
theorem xS{us:List T}(q:QT1 (.im (.int us.length))):W1 (cE [.lst us]) QT1:=by unhygienic exact⟨_,rfl,q⟩
theorem Eg(q:QT1 (.im (.int (if b<a then b else a)))):W1 (oe [.im (.int a),.im (.int b)]) QT1:=by unhygienic exact⟨_,rfl,q⟩
theorem Ef(q:QT1 (.im (.int (if b>a then b else a)))):W1 (oa [.im (.int a),.im (.int b)]) QT1:=by unhygienic exact⟨_,rfl,q⟩
theorem Bt{c:Bool}(q:QT1 (.im (.int (if c then 1 else 0)))):W1 (pj [.im (.bl c)]) QT1:=by unhygienic exact⟨_,rfl,q⟩
theorem BJ(q:QT1 (.im (.tup is))):W1 (eJ [.li is]) QT1:=by unhygienic exact⟨_,rfl,q⟩
theorem Bz(q:QT1 (.li is)):W1 (uq [.li is]) QT1:=by unhygienic exact⟨_,rfl,q⟩
theorem Ej(q:QT1 (.im (.tup is.reverse))):W1 (wg (.im (.tup is))) QT1:=by unhygienic exact⟨_,rfl,q⟩
theorem Aq{xs:List α}{x : α}{n:Nat}{i:Int}(hi:i=n)(h:xs[n]?=some x):atI xs i=some x:=by
 subst hi;have:=(Gr.mp h).1;unfold atI ixN;rw[if_pos (by omega),if_pos (by omega)];simpa using h
theorem o4{xs:List α}{i:Int}(h0:0<=i)(h1:i<xs.length):∃x,atI xs i=some x/\xs[i.toNat]?=some x:=by
 have:i.toNat<xs.length:=by omega
 exact⟨xs[i.toNat],Aq (n:=i.toNat) (by omega) (GR this),GR this⟩
theorem zS{kd:Kd}{x:I}(h:atI is a=some x)(q:QR ⟨.ow,.im x⟩):W1 (ixR ⟨kd,.im (.tup is)⟩ (.im (.int a))) QR:=⟨_,by simp only[ixR,isI,ixX,ixI,h,Iy],q⟩
theorem zR{kd:Kd}{x:I}(h:atI is a=some x)(q:QR ⟨.ow,.im x⟩):W1 (ixR ⟨kd,.li is⟩ (.im (.int a))) QR:=⟨_,by simp only[ixR,isI,ixX,ixI,h,Iy],q⟩
theorem Bu{kd:Kd}(h0:0<=a)(h1:a<is.length)(q:∀x,is[a.toNat]?=some x->QR ⟨.ow,.im x⟩):W1 (ixR ⟨kd,.im (.tup is)⟩ (.im (.int a))) QR:=by
 obtain⟨x,h,h'⟩:=o4 h0 h1;exact zS h (q x h')
theorem uE{kd:Kd}(h0:0<=a)(h1:a<is.length)(q:∀x,is[a.toNat]?=some x->QR ⟨.ow,.im x⟩):W1 (ixR ⟨kd,.li is⟩ (.im (.int a))) QR:=by
 obtain⟨x,h,h'⟩:=o4 h0 h1;exact zR h (q x h')
theorem pI{kd:Kd}(hz:s.length<=sizeLine)(h0:0<=a)(h1:a<(sL s).length)(q:∀c,(sL s)[a.toNat]?=some c->QR ⟨.ow,.im (.str ⟨#[c]⟩)⟩):W1 (ixR ⟨kd,.im (.str s)⟩ (.im (.int a))) QR:=by
 obtain⟨x,h,h'⟩:=o4 h0 h1;exact⟨_,by simp only[ixR,isI,ixX,ixI,if_pos hz,h,Iy],q x h'⟩
theorem pH{ro:Option Nat}{p:Option (List Ac)}{us:List T}{u:T}(h0:0<=a)(h1:us[a.toNat]?=some u)(hu:∀i,u ≠ .im i){kd:Kd}(hk:ixK (.vw ro p) (some (.ix a.toNat))=some kd)(q:QR ⟨kd,u⟩):W1 (ixR ⟨.vw ro p,.lst us⟩ (.im (.int a))) QR:=by
 have hl:=(Gr.mp h1).1;refine⟨⟨kd,u⟩,?_,q⟩;unfold ixR;have:ixN us.length a=some a.toNat:=by unfold ixN;rw[if_pos h0,if_pos (by omega)]
 simp only[isI,ixX,this,h1,IN];cases u with
 | im i=>exact absurd rfl (hu i)
 | _=>simp only[ixP,hk]
theorem uI{n:Nat}(ha:a=n)(h:n<is.length)(q:QT1 (.li (is.set n i))):W1 (wr (.li is) (.im (.int a)) (.im i)) QT1:=by
 subst ha;refine⟨_,?_,q⟩;unfold wr;have:ixN is.length (n:Int)=some n:=by unfold ixN;rw[if_pos (by omega),if_pos (by omega)];simp
 simp only[this]
theorem bn(h:is.length<sizeLine)(q:QI1 (.li (is++[i])) .non):W2 (apT (.li is) [.im i]) QI1:=by unhygienic exact⟨_,_,if_pos h,q⟩
theorem Bq(h:is.length+js.length<=sizeLine)(q:QI1 (.li (is++js)) .non):W2 (pi (.li is) [.im (.tup js)]) QI1:=by unhygienic exact⟨_,_,if_pos h,q⟩
theorem lP(q:QI1 (.li is) i):W2 (je (.li (is++[i])) []) QI1:=⟨_,_,by simp[je],q⟩
theorem zQ(h:0<=a/\a<=is.length/\is.length<sizeLine)(q:QI1 (.li (is.take a.toNat++i::is.drop a.toNat)) .non):W2 (mK (.li is) [.im (.int a),.im i]) QI1:=by unhygienic exact⟨_,_,if_pos h,q⟩
theorem Ek{kd:Kd}{lo hi:Option Int}(q:QR ⟨.ow,.li (ca is lo hi)⟩):W1 (slR ⟨kd,.li is⟩ lo hi) QR:=⟨_,by simp only[slR,slX,slI,slX],q⟩
theorem lQ{kd:Kd}{lo hi:Option Int}(h:¬(HT.sIx is.length 0 lo=0/\HT.sIx is.length is.length hi=is.length))(q:QR ⟨.ow,.im (.tup (ca is lo hi))⟩):W1 (slR ⟨kd,.im (.tup is)⟩ lo hi) QR:=⟨_,by simp only[slR,slX,slI,slX];rw[if_neg h],q⟩
theorem uJ{kd:Kd}{lo hi:Option Int}(h:s.length<=sizeLine)(q:QR ⟨.ow,.im (.str (oL (ca (sL s) lo hi)))⟩):W1 (slR ⟨kd,.im (.str s)⟩ lo hi) QR:=⟨_,by simp only[slR,slX,slI,slX];rw[if_pos h],q⟩
theorem BF{t:T}{Q2:T->Rho->Prop}(q:Q2 t O):W2 (sV ⟨.ow,t⟩ O) Q2:=by unhygienic exact⟨_,_,rfl,q⟩
theorem BG{t t':T}{n:Nat}{Q2:T->Rho->Prop}(h : O[n]?=some (some ⟨.ow,t'⟩))(q:Q2 t ((aq [n] O).set n none)):W2 (sV ⟨.vw (some n) (some []),t⟩ O) Q2:=⟨_,_,by simp only[sV,h],q⟩
theorem pd{mv:List Nat}{Q2:List T->Rho->Prop}(q:Q2 [] O):W2 (consL mv [] O) Q2:=⟨_,_,rfl,q⟩
theorem qq{mv:List Nat}{t:T}{rs:List R}{Q2:List T->Rho->Prop}(h:W2 (consL mv rs O) λts O'=>Q2 (t::ts) O'):W2 (consL mv (⟨.ow,t⟩::rs) O) Q2:=by
 obtain⟨ts,O',e,q⟩:=h;exact⟨t::ts,O',by simp only[consL,e],q⟩
theorem uu{is:List I}:bT (is.map T.im)=.li is:=by
 have:ims (is.map T.im)=some is:=by induction is with
  | nil=>rfl
  | cons i is ih=>simp only[Gs,ims,ih,Iy]
 unfold bT;rw[this]
end
theorem dsp{p:Prop}[Decidable p]{A B:Prop}(h1:p->A)(h2:¬p->B):(decide p=true->A)/\(decide p=false->B):=⟨λh=>h1 (of_decide_eq_true h),λh=>h2 (of_decide_eq_false h)⟩
theorem FZ{p:Prop}[Decidable p]{A B:Prop}(h1:¬p->A)(h2:p->B):((!decide p)=true->A)/\((!decide p)=false->B):=⟨λh=>h1 (by simpa using h),λh=>h2 (by simpa using h)⟩
theorem bsp{b:Bool}{A B:Prop}(h1:b=true->A)(h2:b=false->B):(b=true->A)/\(b=false->B):=⟨h1,h2⟩
theorem spT{A B:Prop}(h:A):(true=true->A)/\(true=false->B):=⟨λ_=>h,λz=>absurd z (by decide)⟩
theorem spF{A B:Prop}(h:B):(false=true->A)/\(false=false->B):=⟨λz=>absurd z (by decide),λ_=>h⟩
section
variable {O:Rho}{m:ME}{ms:MA}{g:MG}{ct:MT}{QE':R->Rho->Prop}
theorem rA{i:Nat}{fr:List (Option Nat)} (h:WA ms O λrs O1=>∃n:Int,rs.map (·.t)=[.im (.int n)]/\(-(2^62)<=n/\n<16000000)/\Gu (ff fr O1.length&&eU ([i]++([]++m.mu)) fr.length) (∃Inv:Nat->List T->Rho->Prop,Inv 0 [] O1 /\
  (∀(j:Nat) acc O,(j:Int)<n->Inv j acc O->WG (ae i) (kD j) (inR fr O) λO1=>WE m O1 λr O3=>∃t,r=⟨.ow,t⟩/\Inv (j+1) (acc++[t]) (dw fr ([i]++([]++m.mu)) O3 O)) /\
  ∀acc O,Inv n.toNat acc O->QE' ⟨.ow,bT acc⟩ O)):WE (aH fr (aV ms) (ae i) mYes m) O QE':=by unhygienic
 obtain⟨rs,O1,e1,n,e2,h1,al,Inv,h0,hs,he⟩:=h;refine kO (zy ⟨rs,O1,e1,n,e2,⟨h1.1,by omega⟩,?_,?_,Inv,h0,λj r acc O hr hI=>?_,λacc O hI=>he acc O (by simpa[ik]using hI)⟩)
 ·rw[Gz]at al|-;rw[Gz];exact⟨⟨al.1,al.2⟩,rfl⟩
 ·rw[LG];simp[ik];omega
 ·obtain⟨x,hx,rfl⟩:=ay hr;obtain⟨a1,a2⟩:=Gr.mp hx;simp at a1 a2;subst a2;have:=hs j acc O (by omega) hI;rw[KD];refine WG.mono this λO1 q=>jm ⟨λ_=>q,λz=>by cases z⟩
theorem wL{i:Nat}{fr:List (Option Nat)} (h:WA ms O λrs O1=>∃a n:Int,rs.map (·.t)=[.im (.int a),.im (.int n)]/\(-(2^62)<=a/\a<2^62/\-(2^62)<=n/\n<2^62/\n-a<16000000)/\Gu (ff fr O1.length&&eU ([i]++([]++m.mu)) fr.length) (∃Inv:Nat->List T->Rho->Prop,Inv 0 [] O1 /\
  (∀(j:Nat) acc O,a+(j:Int)<n->Inv j acc O->WG (ae i) (kD (a+j)) (inR fr O) λO1=>WE m O1 λr O3=>∃t,r=⟨.ow,t⟩/\Inv (j+1) (acc++[t]) (dw fr ([i]++([]++m.mu)) O3 O)) /\
  ∀acc O,Inv (n-a).toNat acc O->QE' ⟨.ow,bT acc⟩ O)):WE (aH fr (fR ms) (ae i) mYes m) O QE':=by unhygienic
 obtain⟨rs,O1,e1,a,n,e2,h1,al,Inv,h0,hs,he⟩:=h;refine kO (zz ⟨rs,O1,e1,a,n,e2,⟨h1.1,h1.2.1,h1.2.2.1,h1.2.2.2.1⟩,?_,?_,Inv,h0,λj r acc O hr hI=>?_,λacc O hI=>he acc O (by simpa[ik]using hI)⟩)
 ·rw[Gz]at al|-;rw[Gz];exact⟨⟨al.1,al.2⟩,rfl⟩
 ·rw[LG];simp[ik];omega
 ·obtain⟨x,hx,rfl⟩:=ay hr;obtain⟨a1,a2⟩:=Gr.mp hx;simp at a1 a2;subst a2;have:=hs j acc O (by omega) hI;refine WG.mono this λO1 q=>jm ⟨λ_=>q,λz=>by cases z⟩
theorem rq{fr:List (Option Nat)}{ma:ME} (h:WE ma O λr O1=>∃is:List I,fh r=some (is.map λi=>⟨.ow,.im i⟩)/\is.length<sizeLine/\Gu (ff fr O1.length&&eU (g.mu++(ct.mu++m.mu)) fr.length&&ax (muF fr (g.mu++(ct.mu++m.mu))) r) (∃Inv:Nat->List T->Rho->Prop,Inv 0 [] O1 /\
  (∀(j:Nat) x acc O,is[j]?=some x->Inv j acc O->WG g ⟨.ow,.im x⟩ (inR fr O) λO1=>WT ct O1 λbb O2=>(bb=true->WE m O2 λr O3=>∃t,r=⟨.ow,t⟩/\Inv (j+1) (acc++[t]) (dw fr (g.mu++(ct.mu++m.mu)) O3 O))/\(bb=false->Inv (j+1) acc (dw fr (g.mu++(ct.mu++m.mu)) O2 O))) /\
  ∀acc O,Inv is.length acc O->QE' ⟨.ow,bT acc⟩ O)):WE (aH fr (mIt ma) g ct m) O QE':=by
 obtain⟨r,O1,e1,is,e2,hl,al,Inv,h0,hs,he⟩:=h;refine kO (Dp ⟨r,O1,e1,_,e2,(by rw[HL,IZ,JU];exact al),by simpa using hl,Inv,h0,λj r acc O hr hI=>?_,λacc O hI=>he acc O (by simpa using hI)⟩);obtain⟨x,hx,rfl⟩:=ay hr;exact hs j x acc O hx hI
end
theorem dD{α:Type}{f : α->I}{l:List α}:bT (l.map λx=>T.im (f x))=.li (l.map f):=by
 have:=uu (is:=l.map f);rwa [GQ]at this
section
variable {S α:Type}{O:Rho}{m:ME}{ms:MA}{g:MG}{ct:MT}{s1:MS}{QE':R->Rho->Prop}{Q:Fl->Rho->Prop}{fr:List (Option Nat)}{i:Nat}
theorem bH(st:S->Rho)(emb : α->I)(P:Nat->S->List α->Prop) (h:WA ms O λrs O1=>Lw rs λn=>(-(2^62)<=n/\n<16000000)/\(ff fr O1.length&&eU ([i]++([]++m.mu)) fr.length)=true/\∃s0,O1=st s0/\P 0 s0 [] /\
  (∀(j:Nat) s l,(j:Int)<n->P j s l->WG (ae i) (kD j) (inR fr (st s)) λO1=>WE m O1 λr O3=>∃x s',r=⟨.ow,.im (emb x)⟩/\dw fr ([i]++([]++m.mu)) O3 (st s)=st s'/\P (j+1) s' (l++[x])) /\
  ∀s l,P n.toNat s l->QE' ⟨.ow,.li (l.map emb)⟩ (st s)):WE (aH fr (aV ms) (ae i) mYes m) O QE':=by
 obtain⟨rs,O1,e1,n,e2,h1,al,s0,rfl,h0,hs,he⟩:=h;refine rA ⟨rs,_,e1,n,e2,h1,al,λj acc O=>∃s l,acc=l.map (λx=>T.im (emb x))/\O=st s/\P j s l,⟨s0,[],rfl,rfl,h0⟩,?_,?_⟩
 ·rintro j acc O hj ⟨s,l,rfl,rfl,hP⟩;refine(hs j s l hj hP).mono λO1 q=>q.mono λr O3 ⟨x,s',e,e',hP'⟩=>⟨_,e,s',l++[x],by simp,e',hP'⟩
 ·rintro acc O ⟨s,l,rfl,rfl,hP⟩;rw[dD];exact he s l hP
theorem tz(st:S->Rho)(emb : α->I)(P:Nat->S->List α->Prop) (h:WA ms O λrs O1=>Lz rs λa n=>(-(2^62)<=a/\a<2^62/\-(2^62)<=n/\n<2^62/\n-a<16000000)/\(ff fr O1.length&&eU ([i]++([]++m.mu)) fr.length)=true/\∃s0,O1=st s0/\P 0 s0 [] /\
  (∀(j:Nat) s l,a+(j:Int)<n->P j s l->WG (ae i) (kD (a+j)) (inR fr (st s)) λO1=>WE m O1 λr O3=>∃x s',r=⟨.ow,.im (emb x)⟩/\dw fr ([i]++([]++m.mu)) O3 (st s)=st s'/\P (j+1) s' (l++[x])) /\
  ∀s l,P (n-a).toNat s l->QE' ⟨.ow,.li (l.map emb)⟩ (st s)):WE (aH fr (fR ms) (ae i) mYes m) O QE':=by
 obtain⟨rs,O1,e1,a,n,e2,h1,al,s0,rfl,h0,hs,he⟩:=h;refine wL ⟨rs,_,e1,a,n,e2,h1,al,λj acc O=>∃s l,acc=l.map (λx=>T.im (emb x))/\O=st s/\P j s l,⟨s0,[],rfl,rfl,h0⟩,?_,?_⟩
 ·rintro j acc O hj ⟨s,l,rfl,rfl,hP⟩;refine(hs j s l hj hP).mono λO1 q=>q.mono λr O3 ⟨x,s',e,e',hP'⟩=>⟨_,e,s',l++[x],by simp,e',hP'⟩
 ·rintro acc O ⟨s,l,rfl,rfl,hP⟩;rw[dD];exact he s l hP
theorem bo(st:S->Rho)(emb : α->I)(P:Nat->S->List α->Prop){ma:ME} (h:WE ma O λr O1=>∃is:List I,fh r=some (is.map λi=>⟨.ow,.im i⟩)/\is.length<sizeLine/\(ff fr O1.length&&eU (g.mu++([]++m.mu)) fr.length&&ax (muF fr (g.mu++([]++m.mu))) r)=true/\∃s0,O1=st s0/\P 0 s0 [] /\
  (∀(j:Nat) x s l,is[j]?=some x->P j s l->WG g ⟨.ow,.im x⟩ (inR fr (st s)) λO1=>WE m O1 λr O3=>∃x s',r=⟨.ow,.im (emb x)⟩/\dw fr (g.mu++([]++m.mu)) O3 (st s)=st s'/\P (j+1) s' (l++[x])) /\
  ∀s l,P is.length s l->QE' ⟨.ow,.li (l.map emb)⟩ (st s)):WE (aH fr (mIt ma) g mYes m) O QE':=by unhygienic
 obtain⟨r,O1,e1,is,e2,hl,al,s0,rfl,h0,hs,he⟩:=h;refine rq ⟨r,_,e1,is,e2,hl,al,λj acc O=>∃s l,acc=l.map (λx=>T.im (emb x))/\O=st s/\P j s l,⟨s0,[],rfl,rfl,h0⟩,?_,?_⟩
 ·rintro j x acc O hj ⟨s,l,rfl,rfl,hP⟩;refine(hs j x s l hj hP).mono λO1 q=>jm ⟨λ_=>q.mono λr O3 ⟨x,s',e,e',hP'⟩=>⟨_,e,s',l++[x],by simp,e',hP'⟩,λz=>by cases z⟩
 ·rintro acc O ⟨s,l,rfl,rfl,hP⟩;rw[dD];exact he s l hP
theorem oT(st:S->Rho)(emb : α->I)(P:Nat->S->List α->Prop){ma:ME} (h:WE ma O λr O1=>∃is:List I,fh r=some (is.map λi=>⟨.ow,.im i⟩)/\is.length<sizeLine/\(ff fr O1.length&&eU (g.mu++(ct.mu++m.mu)) fr.length&&ax (muF fr (g.mu++(ct.mu++m.mu))) r)=true/\∃s0,O1=st s0/\P 0 s0 [] /\
  (∀(j:Nat) x s l,is[j]?=some x->P j s l->WG g ⟨.ow,.im x⟩ (inR fr (st s)) λO1=>WT ct O1 λbb O2=>(bb=true->WE m O2 λr O3=>∃x s',r=⟨.ow,.im (emb x)⟩/\dw fr (g.mu++(ct.mu++m.mu)) O3 (st s)=st s'/\P (j+1) s' (l++[x]))/\(bb=false->∃s',dw fr (g.mu++(ct.mu++m.mu)) O2 (st s)=st s'/\P (j+1) s' l)) /\
  ∀s l,P is.length s l->QE' ⟨.ow,.li (l.map emb)⟩ (st s)):WE (aH fr (mIt ma) g ct m) O QE':=by
 obtain⟨r,O1,e1,is,e2,hl,al,s0,rfl,h0,hs,he⟩:=h;refine rq ⟨r,_,e1,is,e2,hl,al,λj acc O=>∃s l,acc=l.map (λx=>T.im (emb x))/\O=st s/\P j s l,⟨s0,[],rfl,rfl,h0⟩,?_,?_⟩
 ·rintro j x acc O hj ⟨s,l,rfl,rfl,hP⟩;refine(hs j x s l hj hP).mono λO1 q=>q.mono λbb O2 ⟨q1,q2⟩=>⟨λhb=>(q1 hb).mono λr O3 ⟨x,s',e,e',hP'⟩=>⟨_,e,s',l++[x],by simp,e',hP'⟩,λhb=>?_⟩;obtain⟨s',e',hP'⟩:=q2 hb;exact⟨s',l,rfl,e',hP'⟩
 ·rintro acc O ⟨s,l,rfl,rfl,hP⟩;rw[dD];exact he s l hP
@[irreducible] def fFs(st:S->Rho)(P:S->Prop)(Q:Fl->Rho->Prop):Fl->Rho->Prop
 | .nx,O=>∃s,O=st s/\P s
 | .ct,O=>∃s,O=st s/\P s
 | .bk,O=>Q .nx O
 | .rt t,O=>Q (.rt t) O
theorem jC{st:S->Rho}{P:Nat->S->Prop}{j:Nat}{f:Fl}{O:Rho}(h:fFs st (P (j+1)) Q f O):rQ (λj O=>∃s,O=st s/\P j s) j Q f O:=by unhygienic cases f<;>exact h
theorem bW(st:S->Rho)(P:Nat->S->Prop) (h:WA ms O λrs O1=>Lw rs λn=>(-(2^62)<=n/\n<2^62)/\∃s0,O1=st s0/\P 0 s0 /\
  (∀(j:Nat) s,(j:Int)<n->P j s->WG (ae i) (kD j) (st s) λO1=>WS s1 O1 (fFs st (P (j+1)) Q))/\∀s,P n.toNat s->Q .nx (st s)):WS (bQ (aV ms) (ae i) s1) O Q:=by
 obtain⟨rs,O1,e1,n,e2,h1,s0,rfl,h0,hs,he⟩:=h;refine C7 ⟨rs,_,e1,n,e2,h1.1,h1.2,λj O=>∃s,O=st s/\P j s,⟨s0,rfl,h0⟩,?_,?_⟩
 ·rintro j O hj ⟨s,rfl,hP⟩;exact(hs j s hj hP).mono λO1 q=>q.mono λf O2 q=>jC q
 ·rintro O ⟨s,rfl,hP⟩;exact he s hP
theorem wM(st:S->Rho)(P:Nat->S->Prop) (h:WA ms O λrs O1=>Lz rs λa n=>(-(2^62)<=a/\a<2^62/\-(2^62)<=n/\n<2^62)/\∃s0,O1=st s0/\P 0 s0 /\
  (∀(j:Nat) s,a+(j:Int)<n->P j s->WG (ae i) (kD (a+j)) (st s) λO1=>WS s1 O1 (fFs st (P (j+1)) Q))/\∀s,P (n-a).toNat s->Q .nx (st s)):WS (bQ (fR ms) (ae i) s1) O Q:=by
 obtain⟨rs,O1,e1,a,n,e2,h1,s0,rfl,h0,hs,he⟩:=h;refine zn ⟨rs,_,e1,a,n,e2,h1,λj O=>∃s,O=st s/\P j s,⟨s0,rfl,h0⟩,?_,?_⟩
 ·rintro j O hj ⟨s,rfl,hP⟩;exact(hs j s hj hP).mono λO1 q=>q.mono λf O2 q=>jC q
 ·rintro O ⟨s,rfl,hP⟩;exact he s hP
theorem fM(st:S->Rho)(P:Nat->S->Prop) (h:WE m O λr O1=>∃is:List I,fh r=some (is.map λi=>⟨.ow,.im i⟩)/\ax (g.mu++s1.mu) r=true/\∃s0,O1=st s0/\P 0 s0 /\
  (∀(j:Nat) x s,is[j]?=some x->P j s->WG g ⟨.ow,.im x⟩ (st s) λO1=>WS s1 O1 (fFs st (P (j+1)) Q))/\∀s,P is.length s->Q .nx (st s)):WS (bQ (mIt m) g s1) O Q:=by
 obtain⟨r,O1,e1,is,e2,al,s0,rfl,h0,hs,he⟩:=h;refine C6 ⟨r,_,e1,is,e2,al,λj O=>∃s,O=st s/\P j s,⟨s0,rfl,h0⟩,?_,?_⟩
 ·rintro j x O hj ⟨s,rfl,hP⟩;exact(hs j x s hj hP).mono λO1 q=>q.mono λf O2 q=>jC q
 ·rintro O ⟨s,rfl,hP⟩;exact he s hP
theorem oU(st:S->Rho)(P:S->Prop)(μ : S->Nat)(s0:S)(e0 : O=st s0)(h0:P s0)(hs:∀s,P s->WT ct (st s) λbb O1=>(bb=true->WS s1 O1 (fFs st (λs'=>μ s' < μ s/\P s') Q))/\(bb=false->Q .nx O1)):WS (fk ct s1) O Q:=by unhygienic
 subst e0;refine zq (λn O=>∃s,O=st s/\P s/\μ s=n) (μ s0) ⟨s0,rfl,h0,rfl⟩ ?_;rintro n O ⟨s,rfl,hP,rfl⟩;refine(hs s hP).mono λbb O1 ⟨q1,q2⟩=>⟨q2,λhb=>(q1 hb).mono λf O2 q=>?_⟩;cases f with
 | nx=>have q:∃s',O2=st s'/\μ s' < μ s/\P s':=q;obtain⟨s',e,hl,hP'⟩:=q;exact⟨μ s',hl,s',e,hP',rfl⟩
 | ct=>have q:∃s',O2=st s'/\μ s' < μ s/\P s':=q;obtain⟨s',e,hl,hP'⟩:=q;exact⟨μ s',hl,s',e,hP',rfl⟩
 | bk=>exact q
 | rt t=>exact q
end
section
variable {S α:Type}{O:Rho}{m:ME}{ms:MA}{QE':R->Rho->Prop}{fr:List (Option Nat)}{i:Nat}
theorem uv{emb : α->T}(hne:∀x i,emb x ≠ .im i):∀{l:List α},l≠[]->bT (l.map emb)=.lst (l.map emb)
 | [],h=>absurd rfl h
 | x::l,_=>by
  unfold bT;have:ims ((x::l).map emb)=none:=by
   rw[Gs];cases h:emb x with
   | im i=>exact absurd h (hne x i)
   | _=>rfl
  rw[this]
theorem kP(st:S->Rho)(emb : α->T)(hne:∀x i,emb x ≠ .im i)(P:Nat->S->List α->Prop) (h:WA ms O λrs O1=>Lw rs λn=>(1<=n/\n<16000000)/\(ff fr O1.length&&eU ([i]++([]++m.mu)) fr.length)=true/\∃s0,O1=st s0/\P 0 s0 [] /\
  (∀(j:Nat) s l,(j:Int)<n->P j s l->WG (ae i) (kD j) (inR fr (st s)) λO1=>WE m O1 λr O3=>∃x s',r=⟨.ow,emb x⟩/\dw fr ([i]++([]++m.mu)) O3 (st s)=st s'/\P (j+1) s' (l++[x])) /\
  ∀s l,P n.toNat s l->l.length=n.toNat->QE' ⟨.ow,.lst (l.map emb)⟩ (st s)):WE (aH fr (aV ms) (ae i) mYes m) O QE':=by
 obtain⟨rs,O1,e1,n,e2,h1,al,s0,rfl,h0,hs,he⟩:=h;refine rA ⟨rs,_,e1,n,e2,⟨by omega,h1.2⟩,al,λj acc O=>∃s l,acc=l.map emb/\l.length=j/\O=st s/\P j s l,⟨s0,[],rfl,rfl,rfl,h0⟩,?_,?_⟩
 ·rintro j acc O hj ⟨s,l,rfl,hl,rfl,hP⟩;refine(hs j s l hj hP).mono λO1 q=>q.mono λr O3 ⟨x,s',e,e',hP'⟩=>⟨_,e,s',l++[x],by simp,by simp[hl],e',hP'⟩
 ·rintro acc O ⟨s,l,rfl,hl,rfl,hP⟩;rw[uv hne (by intro z;rw[z]at hl;simp at hl;omega)];exact he s l hP hl
theorem vx{ts:List T}{n:Nat}{u s:T}(h:ts[n]?=some u):T.put (.lst ts) [.ix n] s=.lst (ts.set n s):=by simp only[T.put,jl,h,B6]
end
section
variable {O:Rho}{b:MS}{Q:Fl->Rho->Prop}{t s':T}{k:Nat}{ks:List Nat}
theorem DG{R:T->T->Prop}(h : O[k]?=some (some ⟨.io 0,s'⟩))(q:R t s'):fI k R (.rt t) O:=by unhygienic exact⟨s',h,q⟩
theorem DJ{R:T->Prop}(q:R t):fP R (.rt t) O:=by unhygienic exact q
theorem qE(h:WS b O Q):AC b Q .nx O:=by unhygienic exact h
theorem xo(h:Q (.rt t) O):AC b Q (.rt t) O:=by unhygienic exact h
theorem xm(h:Q .nx (fgts ks O)):DD ks Q .nx O:=by unhygienic exact h
variable {S:Type}{st:S->Rho}{P:S->Prop}
theorem AD(h:∃s,O=st s/\P s):fFs st P Q .nx O:=by unhygienic exact h
end
section
variable {M:List Nat}{O:Rho}{t s:T}{n i:Nat}{p:Option (List Ac)}{k:Nat}{x:I}
theorem AR:aq M []=[]:=rfl
theorem DS:aq M (some ⟨.ow,t⟩::O)=some ⟨.ow,t⟩::aq M O:=rfl
theorem DR:aq M (some ⟨.io n,t⟩::O)=some ⟨.io n,t⟩::aq M O:=rfl
theorem xy:aq M (none::O)=none::aq M O:=rfl
theorem DT:aq M (some ⟨.vw none p,t⟩::O)=some ⟨.vw none p,t⟩::aq M O:=rfl
theorem m8:T.put t [] s=s:=by cases t<;>rfl
theorem yL{j:Int}:kD j=⟨.ow,.im (.int j)⟩:=rfl
theorem CJ:rdR i ⟨.ow,.im x⟩=⟨.ow,.im x⟩:=rfl
theorem CM{a:Option Nat}:rdR i ⟨.vw a p,t⟩=⟨.vw a p,t⟩:=rfl
theorem CL{l:List I}:rdR i ⟨.ow,.li l⟩=⟨.vw (some i) (some []),.li l⟩:=rfl
theorem yM{l:List T}:rdR i ⟨.ow,.lst l⟩=⟨.vw (some i) (some []),.lst l⟩:=rfl
theorem t5:fgts [] O=O:=rfl
theorem rS{ks:List Nat}:fgts (i::ks) O=fgts ks ((aq [i] O).set i none):=rfl
theorem KY{run:List T->Option T}{l:Nat}{m:MS}{ts:List T}{QT1:T->Prop}(O:Rho)(hrun:run ts=if ts.length=l then cN m n ts else none)(hl:ts.length=l)(he:cM ts n=O)(h:WS m O (fP QT1)):W1 (run ts) QT1:=qX hrun hl (he▸h)
theorem K6{run:List T->Option (T×T)}{l:Nat}{m:MS}{ts:List T}{Q2:T->T->Prop}(O:Rho)(hrun:run ts=if ts.length=l then eH m k n ts else none)(hl:ts.length=l)(he:fu k ts n=O)(h:WS m O (fI k Q2)):W2 (run ts) Q2:=gQ hrun hl (he▸h)
end
end L2
namespace L2
open PySem PySem.Spec PyProof.Rows
noncomputable def less(K:yF) (a:Addr):yF:=K.filter λp=>!(p.1==a)
theorem iJ:∀{K:yF} {a b:Addr},b≠a->(less K a).lookup b=K.lookup b
 | [],_,_,_=>rfl
 | (c,o)::K,a,b,h=>by
  have ih:=iJ (K:=K) h;by_cases e:c=a
  ·subst e;have:less ((c,o)::K) c=less K c:=by simp[less]
   rw[this,ih];show _=match b==c with|true=>some o|false=>IR b K
   rw[beq_eq_false_iff_ne.mpr h]
  ·have:less ((c,o)::K) a=(c,o)::less K a:=by simp[less,e]
   rw[this];show(match b==c with|true=>some o|false=>IR b (less K a))=match b==c with|true=>some o|false=>IR b K
   rw[ih]
theorem i7:∀{K:yF} {a:Addr},(less K a).lookup a=none
 | [],_=>rfl
 | (c,o)::K,a=>by
  have ih:=i7 (K:=K) (a:=a);by_cases e:c=a
  ·subst e;have:less ((c,o)::K) c=less K c:=by simp[less]
   rw[this,ih]
  ·have:less ((c,o)::K) a=(c,o)::less K a:=by simp[less,e]
   rw[this];show(match a==c with|true=>some o|false=>IR a (less K a))=none;rw[beq_eq_false_iff_ne.mpr (LO e)];exact ih
theorem xD{K:yF}{a:Addr}{h:Heap}(X:K.In h):(less K a).In h:=λb o e=>by
 by_cases q:b=a;subst q;rw[i7]at e;cases e;rw[iJ q]at e;exact X b o e
def Lst(o:Obj):Prop:=∃vs:Array LB,o={cls:=.type "list",data:=.seq vs}
def Lu(K:yF)(a:Addr):Prop:=∀o,K.lookup a=some o->Lst o
theorem Lu.get{K:yF}{a b:Addr}{o:Obj}(h:Lu K a)(e:K.lookup b=some o)(n:¬ Lst o):(less K a).lookup b=some o:=by
 rw[iJ (a:=a) λq:b=a=>n (h o (by rw[<-q];exact e))];exact e
def KU(K:yF)(mg:Str->Option LB)(name:Str)(st:Stmt)(ps:List Str):Prop:=
 ∃(f:Addr) (fd:MP),mg name=some (.ref f)/\Fun K name name st f fd/\(∀us:List LB,us.length=ps.length->Qb fd ⟨us,[]⟩=pure (ps.zip us))
theorem KU.to{K:yF}{mg:Str->Option LB}{name:Str}{st:Stmt}{ps:List Str}(d:KU K mg name st ps):Def K mg name st ps:=by
 obtain⟨f,fd,h1,h2,h3⟩:=d;exact⟨f,fd,h1,h2,.all h3⟩
theorem KU.less{K:yF}{mg:Str->Option LB}{name:Str}{st:Stmt}{ps:List Str}{a:Addr}(d:KU K mg name st ps)(h:Lu K a):KU (less K a) mg name st ps:=by
 obtain⟨f,fd,h1,F,h3⟩:=d;obtain⟨oc,od,kV,doc,pm,an,cdv,ct,osl,e,lk,hcd⟩:=F.ex;have lk':=h.get lk (by rintro⟨vs,z⟩;cases z);refine⟨f,fd,h1,⟨⟨oc,od,kV,doc,pm,an,cdv,ct,osl,e,lk',?_⟩,?_⟩,h3⟩
 ·unfold IA at hcd|-;cases cdv with
  | ref c=>
   dsimp only at hcd|-;cases q:IR c K with
   | none=>rw[q]at hcd;cases hcd
   | some o=>
    by_cases w:c=a
    ·subst w;obtain⟨vs,rfl⟩:=h o q;rw[q]at hcd;cases hcd
    ·rw[iJ w];exact hcd
  | _=>cases hcd
 ·unfold HX;dsimp only;rw[lk']
theorem KU.mk'{K:yF}{h:Heap}{mg:Str->Option LB}{name:Str}{st:Stmt}{ps:List Str}(X:K.In h)(G:h.Ns Md mg){f:Addr}{oc:LB}{od an:Option Addr}{osl:Array (Option LB)}{kV doc pm cdv ct:LB}
  (a:Kc K Md name=some (some (.ref f))) (l:K.lookup f=some ⟨oc,od,.func (HK name name (dm st) (br st) (aj st) .none kV doc pm an cdv ct),osl⟩) (c:IA K cdv name=true) (k:HX K (.ref f)=true)
  (hb:∀(kV doc pm:LB) (an:Option Addr) (cdv ct:LB) (us:List LB),us.length=ps.length->Qb (HK name name (dm st) (br st) (aj st) .none kV doc pm an cdv ct) ⟨us,[]⟩=pure (ps.zip us)):KU K mg name st ps:=
 ⟨f,_,PySem.W.mg_of X G a,AF l c k,hb kV doc pm an cdv ct⟩
theorem walkP{l:PySem.W.OpenLaw}{k:Nat}{q:LM}{loose:List Str}{XP:(Str->Option LB)->Heap->Prop}{YP:LU->Heap->Prop}{d:DefRec}{K:Qw->yF}{x:Str}{st:Stmt}{run:List T->Option T}{A:(Str->Option LB)->yF->Prop}
  (hn:l.most=some 63) (hdf:d.params.defaults=[]) (hr:K8 k OR)
  (hY:∀(w:LU) (h:Heap),YP w h->(K w.params).In h)
  (hA:∀(w:LU) (mg:Str->Option LB) (h:Heap),(K w.params).In h->h.Ns Md mg->A mg (K w.params))
  (hL:∀(mg:Str->Option LB) (K:yF) (a:Addr),A mg K->Lu K a->A mg (less K a))
  (hd:∀(mg:Str->Option LB) (K:yF),A mg K->Def K mg d.name st [x])
  (hb:∀(kV doc pm:LB) (an:Option Addr) (cdv ct:LB) (s:LD) (v:LB),OQ s (HK d.name d.name (dm st) (br st) (aj st) .none kV doc pm an cdv ct) ⟨[v],[]⟩ [(x,v)])
  (F:∀(w:LU) (mg:Str->Option LB) (K:yF) (base:Heap),A mg K->Has l.prog w K mg base k d.name [x] (spP K run))
  (law:∀ns:List Int,ns.length<=63->run [.li (ns.map .int)]=some (.im (.bl true))) :
  PySem.W.WalkO q loose XP YP l.row.toRowW d [] (λf vs=>PySem.call f vs):=by
 refine Att.attach_call hn hdf λw s₀ s₁ mg mb fa o pm cd doc a vs ns G Y ho hd' hcd hmg hobj hints hlen hg=>?_;have KX:=hY w _ Y;have a0:=hA w mg _ KX G.T.g;have la:Lu (K w.params) a:=λo e=>by
  have e2:=KX a o e;rw[hobj]at e2;cases e2;exact⟨_,rfl⟩
 have a1:=hL mg _ a a0 la;obtain⟨fd,hb',hF⟩:=uo hmg (hd mg _ a1) hb λbase _ _=>F w mg (less (K w.params) a) base a1;refine um (xD KX) G.T.g G.T.b G.T.builtins G.T.nolimit hg hobj hints (Hj hlen (by decide)) hr hF hb' (λH hO hS=>?_) (λ_ _ _ z=>z);rcases hS with hS|⟨o,its,n,e,_⟩
 ·refine⟨[.li (ns.map .int)],_,?_,law ns hlen,?_⟩
  ·refine⟨_,_,rfl,⟨[a],?_⟩,rfl⟩;exact⟨a,_,rfl,hS,KS.ints ns,rfl⟩
  ·intro v H' z;obtain⟨_,F,z,_⟩:=z;rw[Rp]at z;exact z.1
 ·rw[i7]at e;cases e
noncomputable def vs(x:String) (t:Tok):LB:=.str (LW x) t
noncomputable def vi(n:Int):LB:=.int n 0
noncomputable def vr(a:Addr):LB:=.ref a
noncomputable def eO(p:Qw) (x:String) (t:Tok) (v:LB):PF:=⟨PyData.keyHash p (LW x),.str (LW x) t,v⟩
noncomputable def oC(vs:List LB):Obj:={cls:=.type "code",data:=.fields vs.toArray}
noncomputable def oD(es:List PF) (n:Nat):Obj:={cls:=.type "dict",data:=.dict es.toArray n}
noncomputable def oF(x:String) (st:Stmt) (pm:LB) (c:Addr):Obj:={cls:=.type "function",data:=.func (HK (LW x) (LW x) (dm st) (br st) (aj st) .none .none .none pm none (.ref c) .none)}
noncomputable def oc(x:String) (t l n r:Nat) (v:Option (Nat×Nat)) (d e:Nat):Obj:=oC [vs x t,vs x (t+1),vs "/claim/cut.py" (t+2),vi l,vi n,vi 0,vi 0,vi 3,vr r,.bool true,vi 181,vr (r+1),.none,(match v with|some p=>vr p.1|none=>.none),(match v with|some p=>vr p.2|none=>.none),vr d,vi e,vi l,vs "/claim/cut.py" (e+1)]
theorem KU.mkO{K:yF}{h:Heap}{mg:Str->Option LB}{x:String}{st:Stmt}{ps:List Str}(X:K.In h)(G:h.Ns Md mg)(f:Addr)(pm:LB)(c:Addr)
  (hb:∀(kV doc pm:LB) (an:Option Addr) (cdv ct:LB) (us:List LB),us.length=ps.length->Qb (HK (LW x) (LW x) (dm st) (br st) (aj st) .none kV doc pm an cdv ct) ⟨us,[]⟩=pure (ps.zip us))
  (a:Kc K Md (LW x)=some (some (.ref f)):=by rfl') (l:K.lookup f=some (oF x st pm c):=by rfl') (cd:IA K (.ref c) (LW x)=true:=by rfl'):KU K mg (LW x) st ps:=
 KU.mk' X G a l cd (by unfold HX;dsimp only;rw[l];rfl) hb
theorem bN{K:yF}{h:Heap}{mg:Str->Option LB}(X:K.In h)(G:h.Ns Md mg){n:Str}(e:Kc K Md n=some none:=by rfl'):mg n=none:=PySem.W.mg_none_of X G e
section
variable {α A B C D E F:Type}{f g:A->B->C->D->E->F->List LB->α}
theorem Lm{α:Type}{n:Nat}{l:List α}(h:l.length=n+1):∃a r,l=a::r/\r.length=n:=by
 cases l with
 | nil=>cases h
 | cons a r=>exact⟨a,r,rfl,KP.inj h⟩
theorem by1(h:∀x1 x2 x3 x4 x5 x6 a0,f x1 x2 x3 x4 x5 x6 [a0]=g x1 x2 x3 x4 x5 x6 [a0]):∀x1 x2 x3 x4 x5 x6 (us:List LB),us.length=1->f x1 x2 x3 x4 x5 x6 us=g x1 x2 x3 x4 x5 x6 us:=λx1 x2 x3 x4 x5 x6 us e=>by
 obtain⟨a0,u0,rfl,e0⟩:=Lm e;obtain rfl:=Il.mp e0;exact h x1 x2 x3 x4 x5 x6 a0
theorem by2(h:∀x1 x2 x3 x4 x5 x6 a0 a1,f x1 x2 x3 x4 x5 x6 [a0,a1]=g x1 x2 x3 x4 x5 x6 [a0,a1]):∀x1 x2 x3 x4 x5 x6 (us:List LB),us.length=2->f x1 x2 x3 x4 x5 x6 us=g x1 x2 x3 x4 x5 x6 us:=λx1 x2 x3 x4 x5 x6 us e=>by
 obtain⟨a0,u0,rfl,e0⟩:=Lm e;obtain⟨a1,u1,rfl,e1⟩:=Lm e0;obtain rfl:=Il.mp e1;exact h x1 x2 x3 x4 x5 x6 a0 a1
theorem by3(h:∀x1 x2 x3 x4 x5 x6 a0 a1 a2,f x1 x2 x3 x4 x5 x6 [a0,a1,a2]=g x1 x2 x3 x4 x5 x6 [a0,a1,a2]):∀x1 x2 x3 x4 x5 x6 (us:List LB),us.length=3->f x1 x2 x3 x4 x5 x6 us=g x1 x2 x3 x4 x5 x6 us:=λx1 x2 x3 x4 x5 x6 us e=>by
 obtain⟨a0,u0,rfl,e0⟩:=Lm e;obtain⟨a1,u1,rfl,e1⟩:=Lm e0;obtain⟨a2,u2,rfl,e2⟩:=Lm e1;obtain rfl:=Il.mp e2;exact h x1 x2 x3 x4 x5 x6 a0 a1 a2
end
end L2
namespace L2
open PySem
noncomputable section
noncomputable def bV:MS:=(ao (mIf (aI (mOp eqT (mIx (af 0) (mC (.int 0))) (mC (.str "op")))) (aX (mSl (af 0) (dH (mC (.int 2))) mNoPart)) mNext)
  (ao (mIf (aI (mOp eqT (mIx (af 0) (mC (.int 0))) (mC (.str "if")))) (aX (mSl (af 0) (dH (mC (.int 1))) mNoPart)) mNext)
  (aX (ar [] mNil))))
noncomputable def cY(ts:List T):Option T:=if ts.length=1 then cN bV 1 ts else none
noncomputable def dv:MS:=(ao (aA (aS [] mNil) (ae 1))
  (ao (aA (aS [0] (aa 0 mNil)) (ae 2))
  (ao (fk (sk (af 2))
  (bS [3] (ao (aA (f8 2 je (af 2)) (ae 3))
  (ao (bm (cF 1 [3] apT (af 1) (aa 3 mNil)))
  (bm (cF 2 [] pi (af 2) (ac (mUn wg (mB cY (aa 3 mNil))) mNil)))))))
  (aX (af 1)))))
noncomputable def dA(ts:List T):Option T:=if ts.length=1 then cN dv 4 ts else none
noncomputable def gG:MS:=(aX (mB eJ (ac (aH [none,none] (mIt (mB dA (aa 0 mNil))) (ae 1) (aI (mOp eqT (mIx (af 1) (mC (.int 0))) (mC (.str "at")))) (ar [] (ac (mIx (af 1) (mC (.int 1))) (ac (mIx (af 1) (mC (.int 2))) mNil)))) mNil)))
noncomputable def gO(ts:List T):Option T:=if ts.length=1 then cN gG 1 ts else none
noncomputable def cj:MS:=(ao (aA (aS [] mNil) (ae 2))
  (ao (bQ (mIt (mB gO (aa 1 mNil))) (bq (au (ae 3) (au (ae 4) mGNil)))
  (bS [3,4,5] (ao (aA (ar [0,3,4] (aa 0 (aa 3 (aa 4 mNil)))) (ae 5))
  (mIf (aI (mOp sr (af 5) (af 2))) (bm (cF 2 [5] apT (af 2) (aa 5 mNil))) mNext))))
  (aX (af 2))))
noncomputable def dQ(ts:List T):Option T:=if ts.length=2 then cN cj 6 ts else none
noncomputable def iM:MS:=(ao (aA (mOp bd (mOp cX (mC (.int 7901)) (af 1)) (mC (.int 24697))) (ae 2))
  (ao (mIf (aI (mOp (hJ λi j=>decide (i<j)) (af 1) (mB cE (aa 0 mNil)))) (aA (mIx (af 0) (af 1)) (ae 2)) (mIf (aI (mOp (hJ λi j=>decide (j<i)) (mB cE (aa 0 mNil)) (mC (.int 0)))) (aA (mOp bd (mOp cX (mOp ft (mIx (af 0) (mOp ft (af 1) (mB cE (aa 0 mNil)))) (mC (.int 2147483629))) (mC (.int 31))) (mOp cX (mC (.int 7901)) (af 1))) (ae 2)) mNext))
  (ao (aA (mC (.int 0)) (ae 3))
  (ao (mIf (aI (mOp (hJ λi j=>decide (j<=i)) (af 2) (mOp sE (mC (.int 10)) (mC (.int 18))))) (aA (af 2) (ae 3)) mNext)
  (aX (aS [3] (aa 3 (ac (mOp bd (mOp ft (mOp sE (mOp bd (mOp cX (mOp ft (af 2) (mC (.int 2147483629))) (mC (.int 48271))) (mOp cX (mC (.int 40692)) (af 1))) (mC (.int 5))) (mC (.int 2147483629))) (mC (.int 1))) mNil))))))))
noncomputable def kF(ts:List T):Option T:=if ts.length=2 then cN iM 4 ts else none
noncomputable def iO:MS:=(ao (mIf (aI (mOp (hJ λi j=>decide (j<i)) (mIx (af 0) (mC (.int 0))) (mC (.int 0)))) (ao (aA (mOp ft (mIx (af 0) (mC (.int 0))) (af 1)) (ae 2))
  (ao (aA (mOp f6 (mIx (af 0) (mC (.int 0))) (af 1)) (pA 0 (af 0) (mC (.int 0))))
  (aX (af 2)))) mNext)
  (ao (aA (mOp ft (mOp cX (mIx (af 0) (mC (.int 1))) (mC (.int 48271))) (mC (.int 2147483647))) (ae 3))
  (ao (aA (mOp bd (mOp ft (mOp bd (mOp cX (af 3) (mC (.int 40692))) (mC (.int 30103))) (mC (.int 2147483399))) (mC (.int 1))) (pA 0 (af 0) (mC (.int 1))))
  (aX (mOp ft (mOp f6 (mOp bd (mOp cX (af 3) (mC (.int 2147483647))) (mIx (af 0) (mC (.int 1)))) (mC (.int 8191))) (af 1))))))
noncomputable def ai(ts:List T):Option (T×T):=if ts.length=2 then eH iO 0 4 ts else none
noncomputable def gC:MS:=(ao (aA (mC (.str "abcdefghijklmnopqrstuvwxyz")) (ae 2))
  (ao (aA (mM j7 (mC (.str "")) (ac (aH [some 0,none,some 2,none,none,none,none,none,none] (aV (ac (ak 0 0 ai (aa 0 (ac (mC (.int 6)) mNil))) mNil)) (ae 7) mYes (mIx (af 2) (ak 0 0 ai (aa 0 (ac (mC (.int 26)) mNil))))) mNil)) (ae 3))
  (ao (iL 4 5 (ac (ak 0 0 ai (aa 0 (ac (mC (.int 26)) mNil))) (ac (ak 0 0 ai (aa 0 (ac (mOp bd (mB cE (aa 3 mNil)) (mC (.int 1))) mNil))) mNil)))
  (ao (aA (aS [] mNil) (ae 6))
  (ao (bQ (aV (aa 1 mNil)) (ae 7)
  (bS [7,8] (ao (aA (mOp bd (mOp bd (mSl (af 3) mNoPart (dH (af 5))) (mIx (af 2) (mOp ft (mOp bd (af 4) (mOp cX (mC (.int 5)) (af 7))) (mC (.int 26))))) (mSl (af 3) (dH (af 5)) mNoPart)) (ae 8))
  (ao (mIf (aI (mOp eqT (mOp ft (af 7) (mC (.int 2))) (mC (.int 1)))) (aA (mOp bd (af 8) (mC (.str "q"))) (ae 8)) mNext)
  (ao (mIf (aI (mOp inT (af 8) (ar [] (ac (mC (.str "min")) (ac (mC (.str "max")) (ac (mC (.str "rest")) (ac (mC (.str "less")) (ac (mC (.str "if")) mNil)))))))) (aA (mOp bd (af 8) (mC (.str "w"))) (ae 8)) mNext)
  (bm (cF 6 [8] apT (af 6) (aa 8 mNil))))))))
  (aX (af 6)))))))
noncomputable def gK(ts:List T):Option (T×T):=if ts.length=2 then eH gC 0 9 ts else none
noncomputable def jH:MS:=(ao (mIf (aI (mOp eqT (ak 0 0 ai (aa 0 (ac (mC (.int 4)) mNil))) (mC (.int 0)))) (aX (mOp cX (ar [] (ac (mC (.int 0)) mNil)) (af 1))) mNext)
  (aX (mB eJ (ac (aH [some 0,none,none] (aV (aa 1 mNil)) (ae 2) mYes (mIx (aS [] (ac (mC (.int 0)) (ac (mC (.int 1)) (ac (mOp bR (mC (.int 0)) (mC (.int 1))) (ac (mC (.int 2)) (ac (mOp bR (mC (.int 0)) (mC (.int 2))) mNil)))))) (ak 0 0 ai (aa 0 (ac (mC (.int 5)) mNil))))) mNil))))
noncomputable def jK(ts:List T):Option (T×T):=if ts.length=2 then eH jH 0 2 ts else none
noncomputable def dr:MS:=(ao (aA (ak 0 0 ai (aa 0 (aa 1 mNil))) (ae 2))
  (ao (aA (aH [some 0,none,none,none,none] (fR (ac (mOp bd (af 2) (mC (.int 1))) (aa 1 mNil))) (ae 4) mYes (mIx (aS [] (ac (mC (.int 0)) (ac (mC (.int 1)) (ac (mOp bR (mC (.int 0)) (mC (.int 1))) (ac (mC (.int 2)) (ac (mOp bR (mC (.int 0)) (mC (.int 2))) mNil)))))) (ak 0 0 ai (aa 0 (ac (mC (.int 5)) mNil))))) (ae 3))
  (aX (mB eJ (ac (mOp bd (mOp bd (mOp cX (aS [] (ac (mC (.int 0)) mNil)) (af 2)) (aS [] (ac (mOp bR (mOp bR (mC (.int 0)) (mC (.int 1))) (ak 0 0 ai (aa 0 (ac (mC (.int 2)) mNil)))) mNil))) (af 3)) mNil)))))
noncomputable def dz(ts:List T):Option (T×T):=if ts.length=2 then eH dr 0 4 ts else none
noncomputable def cc:MS:=(ao (aA (aH [none,none,none,none,none,none] (aV (aa 2 mNil)) (ae 4) mYes (aS [] mNil)) (ae 3))
  (ao (bQ (aV (aa 2 mNil)) (ae 4)
  (bS [4,5] (bQ (aV (ac (ak 0 0 ai (aa 0 (ac (mC (.int 4)) mNil))) mNil)) (ae 5)
  (bS [5] (bm (cF 3 [] apT (mIx (af 3) (af 4)) (ac (ar [] (ac (ak 0 0 ai (aa 0 (aa 2 mNil))) (ac (ak 0 0 jK (aa 0 (aa 1 mNil))) mNil))) mNil)))))))
  (aX (af 3))))
noncomputable def dM(ts:List T):Option (T×T):=if ts.length=3 then eH cc 0 6 ts else none
noncomputable def ce:MS:=(ao (aA (aH [none,none,none,none,none,none] (aV (aa 2 mNil)) (ae 4) mYes (aS [] mNil)) (ae 3))
  (ao (bQ (aV (aa 2 mNil)) (ae 4)
  (bS [4,5] (bQ (aV (ac (mOp bd (mC (.int 1)) (ak 0 0 ai (aa 0 (ac (mC (.int 3)) mNil)))) mNil)) (ae 5)
  (bS [5] (mIf (mT (aI (mOp (hJ λi j=>decide (j<i)) (af 4) (mC (.int 0)))) (aI (mOp eqT (ak 0 0 ai (aa 0 (ac (mC (.int 4)) mNil))) (mC (.int 0))))) (bm (cF 3 [] apT (mIx (af 3) (af 4)) (ac (ar [] (ac (ak 0 0 ai (aa 0 (aa 4 mNil))) (ac (mOp cX (ar [] (ac (mC (.int 0)) mNil)) (af 1)) mNil))) mNil))) (bm (cF 3 [] apT (mIx (af 3) (af 4)) (ac (ar [] (ac (ak 0 0 ai (aa 0 (aa 2 mNil))) (ac (ak 0 0 dz (aa 0 (aa 1 mNil))) mNil))) mNil))))))))
  (aX (af 3))))
noncomputable def cv(ts:List T):Option (T×T):=if ts.length=3 then eH ce 0 6 ts else none
noncomputable def ci:MS:=(ao (aA (aS [] mNil) (ae 3))
  (ao (bQ (aV (ac (mB cE (aa 0 mNil)) mNil)) (ae 4)
  (bS [4] (bm (cF 3 [] apT (af 3) (ac (mOp cX (mIx (af 0) (mOp ft (mOp bd (af 4) (af 1)) (mB cE (aa 0 mNil)))) (mIx (af 2) (af 4))) mNil)))))
  (aX (mB eJ (aa 3 mNil)))))
noncomputable def cx(ts:List T):Option T:=if ts.length=3 then cN ci 5 ts else none
noncomputable def bC:MS:=(ao (aA (mOp bd (mC (.int 1)) (ak 0 0 ai (aa 0 (ac (mC (.int 2)) mNil)))) (ae 3))
  (ao (aA (aS [] (ac (ar [] (ac (mC (.int 0)) (ac (mC (.int 0)) (ac (ar [3] (ac (mC (.int 0)) (aa 3 mNil))) mNil)))) (ac (ar [] (ac (mC (.int 1)) (ac (mC (.int 1)) (ac (ar [] (ac (mC (.int 0)) (ac (mOp bR (mOp bR (mC (.int 0)) (mC (.int 1))) (ak 0 0 ai (aa 0 (ac (mC (.int 2)) mNil)))) mNil))) mNil)))) (ac (ar [] (ac (mC (.int 0)) (ac (mC (.int 1)) (ac (ar [] (ac (mOp bR (mC (.int 0)) (mC (.int 1))) (ac (mOp bR (ak 0 0 ai (aa 0 (ac (mC (.int 3)) mNil))) (mC (.int 1))) mNil))) mNil)))) mNil)))) (ae 4))
  (ao (bm (cF 4 [] apT (af 4) (ac (ar [] (ac (mC (.int 1)) (ac (mC (.int 0)) (ac (ar [] (ac (mOp bR (mC (.int 0)) (ak 0 0 ai (aa 0 (ac (mC (.int 2)) mNil)))) (ac (mC (.int 0)) mNil))) mNil)))) mNil)))
  (ao (mIf (aI (mOp eqT (af 1) (mC (.int 3)))) (ao (aA (aS [] (ac (ar [] (ac (mC (.int 0)) (ac (mC (.int 0)) (ac (ar [3] (ac (mC (.int 0)) (ac (mC (.int 0)) (aa 3 mNil)))) mNil)))) (ac (ar [] (ac (mC (.int 1)) (ac (mC (.int 1)) (ac (ar [] (ac (mC (.int 0)) (ac (mC (.int 0)) (ac (mOp bR (mC (.int 0)) (mC (.int 1))) mNil)))) mNil)))) (ac (ar [] (ac (mC (.int 0)) (ac (mC (.int 1)) (ac (ar [] (ac (mC (.int 0)) (ac (mOp bR (mC (.int 0)) (mC (.int 1))) (ac (mC (.int 0)) mNil)))) mNil)))) (ac (ar [] (ac (mC (.int 1)) (ac (mC (.int 0)) (ac (ar [] (ac (mC (.int 0)) (ac (mC (.int 0)) (ac (ak 0 0 ai (aa 0 (ac (mC (.int 2)) mNil))) mNil)))) mNil)))) mNil))))) (ae 4))
  (aA (mOp bd (af 4) (aS [] (ac (ar [] (ac (mC (.int 2)) (ac (mC (.int 2)) (ac (ar [] (ac (mC (.int 0)) (ac (mOp bd (mC (.int 1)) (ak 0 0 ai (aa 0 (ac (mC (.int 2)) mNil)))) (ac (mC (.int 0)) mNil)))) mNil)))) (ac (ar [] (ac (mC (.int 0)) (ac (mC (.int 2)) (ac (ar [] (ac (mOp bR (mC (.int 0)) (mC (.int 1))) (ac (mC (.int 0)) (ac (mC (.int 1)) mNil)))) mNil)))) (ac (ar [] (ac (mC (.int 2)) (ac (mC (.int 0)) (ac (ar [] (ac (mC (.int 0)) (ac (mC (.int 0)) (ac (mC (.int 0)) mNil)))) mNil)))) mNil))))) (ae 4))) mNext)
  (ao (iL 5 6 (ac (ak 0 0 ai (aa 0 (aa 1 mNil))) (ac (aH [some 0,none,none,none,none,none,none,none,none,none,none,none] (aV (aa 1 mNil)) (ae 11) mYes (mOp bR (mC (.int 1)) (mOp cX (mC (.int 2)) (ak 0 0 ai (aa 0 (ac (mC (.int 2)) mNil)))))) mNil)))
  (ao (aA (aH [none,none,none,none,none,none,none,none,none,none,none] (aV (aa 2 mNil)) (ae 8) mYes (aS [] mNil)) (ae 7))
  (ao (bQ (mIt (af 4)) (bq (au (ae 8) (au (ae 9) (au (ae 10) mGNil))))
  (bS [8,9,10] (bm (cF 7 [] apT (mIx (af 7) (af 8)) (ac (ar [9] (aa 9 (ac (mB cx (aa 10 (aa 5 (aa 6 mNil)))) mNil))) mNil)))))
  (ao (bQ (fR (ac (mC (.int 3)) (aa 2 mNil))) (ae 8)
  (bS [8] (bm (cF 7 [] apT (mIx (af 7) (af 8)) (ac (ar [] (ac (ak 0 0 ai (aa 0 (aa 8 mNil))) (ac (ak 0 0 jK (aa 0 (aa 1 mNil))) mNil))) mNil)))))
  (aX (af 7))))))))))
noncomputable def cw(ts:List T):Option (T×T):=if ts.length=3 then eH bC 0 11 ts else none
noncomputable def cg:MS:=(ao (aA (ak 0 0 cv (aa 0 (aa 1 (aa 2 mNil)))) (ae 3))
  (ao (aA (mOp bd (mC (.int 1)) (ak 0 0 ai (aa 0 (aa 2 mNil)))) (ae 4))
  (ao (aA (mOp cX (aS [] (ac (mC (.int 0)) mNil)) (af 1)) (ae 5))
  (ao (bQ (aV (aa 4 mNil)) (ae 6)
  (bS [6,7] (ao (aA (aH [some 0,none,none,none,none,none,none,none,none] (aV (aa 1 mNil)) (ae 8) mYes (mOp bR (ak 0 0 ai (aa 0 (ac (mC (.int 3)) mNil))) (mC (.int 1)))) (ae 7))
  (ao (aA (aH [none,none,none,none,none,some 5,none,some 7,none] (aV (aa 1 mNil)) (ae 8) mYes (mOp bR (mB oa (ac (mOp bR (mC (.int 0)) (mC (.int 2))) (ac (mB oe (ac (mC (.int 2)) (ac (mOp bd (mIx (af 5) (af 8)) (mIx (af 7) (af 8))) mNil))) mNil))) (mIx (af 5) (af 8)))) (ae 7))
  (ao (mIf (aI (mOp eqT (mOp bd (af 6) (mC (.int 1))) (af 4))) (aA (aH [none,none,none,none,none,none,none,none,none] (mIt (af 5)) (ae 8) mYes (mOp bR (mC (.int 0)) (af 8))) (ae 7)) mNext)
  (ao (aA (aH [none,none,none,none,none,some 5,none,some 7,none] (aV (aa 1 mNil)) (ae 8) mYes (mOp bd (mIx (af 5) (af 8)) (mIx (af 7) (af 8)))) (ae 5))
  (bm (cF 3 [] mK (mIx (af 3) (af 6)) (ac (mC (.int 0)) (ac (ar [] (ac (mOp ft (mOp bd (af 6) (mC (.int 1))) (af 4)) (ac (mB eJ (aa 7 mNil)) mNil))) mNil))))))))))
  (aX (af 3))))))
noncomputable def dP(ts:List T):Option (T×T):=if ts.length=3 then eH cg 0 8 ts else none
noncomputable def gE:MS:=(ao (iL 1 2 (ac (ak 0 0 ai (aa 0 (ac (mC (.int 8)) mNil))) (ac (ak 0 0 ai (aa 0 (ac (mC (.int 16)) mNil))) mNil)))
  (ao (aA (mIx (aS [] (ac (mC (.int 1)) (ac (mC (.int 2)) (ac (mC (.int 2)) (ac (mC (.int 2)) (ac (mC (.int 2)) (ac (mC (.int 1)) (ac (mC (.int 2)) (ac (mC (.int 3)) mNil))))))))) (mOp ft (af 2) (mC (.int 8)))) (ae 3))
  (ao (aA (mOp bd (mC (.int 1)) (ak 0 0 ai (aa 0 (ac (mIx (aS [] (ac (mC (.int 3)) (ac (mC (.int 6)) mNil))) (mOp f6 (af 2) (mC (.int 8)))) mNil)))) (ae 4))
  (ao (mIf (aI (mOp (hJ λi j=>decide (i<j)) (af 1) (mC (.int 3)))) (aX (ar [3] (aa 3 (ac (ak 0 0 dM (aa 0 (aa 3 (aa 4 mNil)))) mNil)))) mNext)
  (ao (mIf (aI (mOp (hJ λi j=>decide (i<j)) (af 1) (mC (.int 5)))) (aX (ar [3] (aa 3 (ac (ak 0 0 cv (aa 0 (aa 3 (aa 4 mNil)))) mNil)))) mNext)
  (ao (mIf (aI (mOp eqT (af 1) (mC (.int 5)))) (aX (ar [3] (aa 3 (ac (ak 0 0 dP (aa 0 (aa 3 (aa 4 mNil)))) mNil)))) mNext)
  (ao (aA (mB oa (ac (mC (.int 2)) (aa 3 mNil))) (ae 3))
  (aX (ar [3] (aa 3 (ac (ak 0 0 cw (aa 0 (aa 3 (ac (mB oa (aa 3 (ac (mB oe (aa 4 (ac (mC (.int 5)) mNil))) mNil))) mNil)))) mNil)))))))))))
noncomputable def ji(ts:List T):Option (T×T):=if ts.length=1 then eH gE 0 5 ts else none
noncomputable def gA:MS:=(ao (aA (mB uq (aa 1 mNil)) (ae 2))
  (ao (fk (aI (mOp (hJ λi j=>decide (j<i)) (mB cE (aa 2 mNil)) (mC (.int 1))))
  (bS [3,4] (ao (aA (ak 0 0 ai (aa 0 (ac (mOp bR (mB cE (aa 2 mNil)) (mC (.int 1))) mNil))) (ae 3))
  (bS [3,4] (mIf (mT (aI (mOp (hJ λi j=>decide (j<i)) (mB cE (aa 2 mNil)) (mC (.int 2)))) (aI (mOp eqT (ak 0 0 ai (aa 0 (ac (mC (.int 5)) mNil))) (mC (.int 0))))) (ao (aA (mB oe (aa 3 (ac (mOp bR (mB cE (aa 2 mNil)) (mC (.int 3))) mNil))) (ae 3))
  (aA (aS [] (ac (ar [] (ac (mC (.str "if")) (ac (mIx (af 2) (af 3)) (ac (mIx (af 2) (mOp bd (af 3) (mC (.int 1)))) (ac (mIx (af 2) (mOp bd (af 3) (mC (.int 2)))) mNil))))) mNil)) (ig 2 (af 2) (af 3) (mOp bd (af 3) (mC (.int 3)))))) (ao (aA (mIx (aS [] (ac (mC (.str "+")) (ac (mC (.str "-")) (ac (mC (.str "*")) (ac (mC (.str "min")) (ac (mC (.str "max")) (ac (mC (.str "rest")) (ac (mC (.str "less")) mNil)))))))) (ak 0 0 ai (aa 0 (ac (mC (.int 7)) mNil)))) (ae 4))
  (aA (aS [] (ac (ar [4] (ac (mC (.str "op")) (aa 4 (ac (mIx (af 2) (af 3)) (ac (mIx (af 2) (mOp bd (af 3) (mC (.int 1)))) mNil))))) mNil)) (ig 2 (af 2) (af 3) (mOp bd (af 3) (mC (.int 2)))))))))))
  (aX (mIx (af 2) (mC (.int 0))))))
noncomputable def gJ(ts:List T):Option (T×T):=if ts.length=2 then eH gA 0 5 ts else none
noncomputable def gB:MS:=(ao (aA (ak 0 0 ji (aa 0 mNil)) (bq (au (ae 1) (au (ae 2) mGNil))))
  (ao (aA (mIx (aS [] (ac (mOp bd (mC (.int 2)) (ak 0 0 ai (aa 0 (ac (mC (.int 9)) mNil)))) (ac (mOp bd (mC (.int 2)) (ak 0 0 ai (aa 0 (ac (mC (.int 998)) mNil)))) (ac (mOp bR (mC (.int 1000000000)) (ak 0 0 ai (aa 0 (ac (mC (.int 9)) mNil)))) mNil)))) (ak 0 0 ai (aa 0 (ac (mC (.int 3)) mNil)))) (ae 3))
  (ao (aA (ak 0 0 gK (aa 0 (ac (mB cE (aa 2 mNil)) mNil))) (ae 4))
  (ao (aA (aS [] mNil) (ae 5))
  (ao (bQ (aV (ac (mB cE (aa 2 mNil)) mNil)) (ae 6)
  (bS [6,7,8,9] (ao (aA (aH [none,none,none,none,some 4,none,none,none,none,none,none,none] (mIt (mSl (mIx (af 2) (af 6)) mNoPart (dH (mOp f6 (mC (.int 16)) (mB cE (aa 2 mNil)))))) (bq (au (ae 10) (au (ae 11) mGNil))) mYes (ar [11] (ac (mC (.str "at")) (ac (mIx (af 4) (af 10)) (aa 11 mNil))))) (ae 7))
  (ao (bQ (aV (ac (mOp bd (ak 0 0 ai (aa 0 (ac (mC (.int 2)) mNil))) (mB pj (ac (mOp eqT (af 7) (aS [] mNil)) mNil))) mNil)) (ae 8)
  (bS [8,9] (ao (aA (ak 0 0 ai (aa 0 (ac (mIx (aS [] (ac (mC (.int 9)) (ac (mC (.int 1000000001)) mNil))) (ak 0 0 ai (aa 0 (ac (mC (.int 2)) mNil)))) mNil))) (ae 9))
  (bm (cF 7 [] mK (af 7) (ac (ak 0 0 ai (aa 0 (ac (mOp bd (mB cE (aa 7 mNil)) (mC (.int 1))) mNil))) (ac (ar [9] (ac (mC (.str "num")) (aa 9 mNil))) mNil)))))))
  (bm (cF 5 [] apT (af 5) (ac (ar [] (ac (mIx (af 4) (af 6)) (ac (ak 0 0 gJ (aa 0 (aa 7 mNil))) mNil))) mNil)))))))
  (aX (ar [1,3] (aa 1 (aa 3 (ac (mB eJ (aa 5 mNil)) mNil))))))))))
noncomputable def jg(ts:List T):Option (T×T):=if ts.length=1 then eH gB 0 10 ts else none
end
end L2
namespace L2
open PySem PySem.Spec PyProof.Rows
inductive TyB(K:yF) (H:Hp):V->String->Prop where
 | non:TyB K H .non "NoneType"
 | bl (x:Bool):TyB K H (.bl x) "bool"
 | int (i:Int):TyB K H (.int i) "int"
 | str (x:Str):TyB K H (.str x) "str"
 | tup {a:Addr} {xs:List V}:SqT K H a xs->TyB K H (.ref a) "tuple"
 | lst {a:Addr} {xs:List V}:SqL K H a xs->TyB K H (.ref a) "list"
 | dK {a:Addr} {kvs:List (Key×V)}:H a=some (.dK kvs)->TyB K H (.ref a) "dict"
theorem TyB.kit{X:Cx}{Uq:List (Addr×Obj)}{Z:St}{H:Hp}{s:LD}{x:V}{u:LB}{n:String}(I:Inv X Uq Z H s)(r:RelV x u)(t:TyB X.K H x n):∃Hq,PySem.W.KitX X.K u (.type n) Hq/\Hq s.heap/\u≠N8 "__main__.__loader__#opaque" :=by
 cases t with
 | non=>cases (show u=MH from r);exact⟨_,PySem.W.kitx_none,M6,λz=>nomatch z⟩
 | bl y=>cases (show u=MJ y from r);exact⟨_,PySem.W.kitx_bool,M6,λz=>nomatch z⟩
 | int i=>obtain⟨t,q⟩:=(show∃t,u=Pv i t from r);cases q;exact⟨_,PySem.W.kitx_int,M6,λz=>nomatch z⟩
 | str y=>obtain⟨t,q⟩:=(show∃t,u=Pw y t from r);cases q;exact⟨_,PySem.W.kitx_str,M6,λz=>nomatch z⟩
 | @tup a xs hq=>
  cases r;obtain⟨its,r,p,_⟩:=I.tuple hq;obtain⟨o,h1,h2,_⟩:=p;exact⟨_,PySem.W.kitx_tuple,⟨o,h1,h2⟩,λz=>nomatch z⟩
 | @lst a xs hq=>
  cases r;obtain⟨its,r,p,_⟩:=I.list hq;obtain⟨o,n,h1,h2,_⟩:=p;exact⟨_,PySem.W.kitx_list,⟨o,h1,h2⟩,λz=>nomatch z⟩
 | @dK a kvs e=>
  cases r;obtain⟨_,_,vs,_,p⟩:=(show K0 X.prog X.w H s.heap a (.dK kvs)from I.hok a _ e);obtain⟨o,es,ep,h1,h2,_⟩:=p;exact⟨_,PySem.W.kitx_dict,⟨o,h1,h2.1⟩,λz=>nomatch z⟩
def CC(K:yF)(n:String):List V->Hp->VK->Prop:=λxs H Q=>∃x t b,xs=[x,.ty n]/\TyB K H x t/\JL K (.type t) (.type n)=some b/\Q (.bl b) H
theorem tO{X:Cx}(n:String):K4 X (.builtin "isinstance") (CC X.K n):=by
 intro Uq s Z H xs us Q I rv h;obtain⟨x,t,b,rfl,ty,e,q⟩:=h;obtain⟨u,w',rfl,r1,r2⟩:=l6 rv;cases r2;obtain⟨Hq,h1,h2,h3⟩:=ty.kit I r1;exact PySem.W.kia_one h1 I.kIn h2 e h3 λtk=>⟨.bl b,H,I.tok tk,rfl,q⟩
def CD(K:yF)(ns:List String):List V->Hp->VK->Prop:=λxs H Q=>∃x t b p,xs=[x,.ref p]/\SqT K H p (ns.map V.ty)/\TyB K H x t/\JM K (.type t) (ns.map On)=some b/\Q (.bl b) H
theorem rn:∀{ns:List String} {us:List LB},Vals (ns.map V.ty) us->us=ns.map On
 | [],_,.nil=>rfl
 | n::ns,_,.cons h r=>by
  cases (show _=On n from h);rw[Gs,rn r]
theorem tP{X:Cx}(ns:List String):K4 X (.builtin "isinstance") (CD X.K ns):=by
 intro Uq s Z H xs us Q I rv h;obtain⟨x,t,b,p,rfl,hp,ty,e,q⟩:=h;obtain⟨u,w',rfl,r1,r2⟩:=l6 rv;cases r2;obtain⟨Hq,h1,h2,h3⟩:=ty.kit I r1;obtain⟨its,rv2,⟨o,g1,g2,m,g3⟩,_⟩:=I.tuple hp;rw[rn rv2]at g3;obtain⟨c,d,dt,sl⟩:=o;cases g2;cases g3;exact PySem.W.kia_tup h1 I.kIn h2 g1 e h3 λtk=>⟨.bl b,H,I.tok tk,rfl,q⟩
noncomputable def tyN:T->Option String
 | .im .non=>some "NoneType"
 | .im (.bl _)=>some "bool"
 | .im (.int _)=>some "int"
 | .im (.str _)=>some "str"
 | .im (.tup _)=>some "tuple"
 | .im (.ls _)=>none
 | .im (.fd _ _)=>none
 | .tup _=>some "tuple"
 | .li _=>some "list"
 | .lst _=>some "list"
 | .di _=>some "dict"
 | .dc _=>some "dict"
 | .ins _ _=>none
noncomputable def j5(n m:String):Bool:=n==m||(n == "bool" && m == "int")
@[irreducible] noncomputable def fg(ns:List String)(t:T):Option T:=(tyN t).map λn=>.im (.bl (ns.any (j5 n)))
theorem wG{K:yF}{H:Hp}{x:V}{n:String}:∀{t:T},Rpx K H t x->tyN t=some n->TyB K H x n
 | .im i,r,e=>by
  have h:=bP r;cases i<;>rw[RpI]at h<;>cases e;rw[h];exact .non;rw[h];exact .bl _;rw[h];exact .int _;rw[h];exact .str _;obtain⟨a,xs,rfl,h,_⟩:=h;exact .tup h
 | .tup ts,r,e=>by cases e;obtain⟨a,xs,F,rfl,h,_⟩:=nt r;exact .tup h
 | .li ts,r,e=>by cases e;obtain⟨a,xs,rfl,h,_⟩:=bE r;exact .lst (.inl h)
 | .lst ts,r,e=>by cases e;obtain⟨a,xs,F,rfl,h,_⟩:=gk r;exact .lst (.inl h)
 | .di ts,r,e=>by cases e;obtain⟨F,r⟩:=r;rw[Rp]at r;obtain⟨a,xs,rfl,⟨ys,h,_⟩,_⟩:=r;exact .dK h
 | .dc ts,r,e=>by cases e;obtain⟨F,r⟩:=r;rw[Rp]at r;obtain⟨a,xs,F',rfl,⟨ys,h,_⟩,_⟩:=r;exact .dK h
 | .ins C ts,r,e=>by cases e
noncomputable def jA:List String:=["int","bool","str","tuple","list","dict"]
theorem lD{K:yF}{n m:String}{t:T}(e:tyN t=some n)(hm:m∈jA):JL K (.type n) (.type m)=some (j5 n m):=by
 have hn:n = "NoneType" \/ n∈jA:=by
  unfold tyN at e;split at e<;>cases e<;>first|exact .inl rfl|exact .inr (by decide)
 rcases hn with rfl|hn
 ·rcases ycM hm with rfl|hm;rfl;rcases ycM hm with rfl|hm;rfl;rcases ycM hm with rfl|hm;rfl;rcases ycM hm with rfl|hm;rfl;rcases ycM hm with rfl|hm;rfl;rcases ycM hm with rfl|hm;rfl;cases hm
 ·have key:∀a∈jA,∀b∈jA,JL K (.type a) (.type b)=some (j5 a b):=by
   intro a ha b hb;simp only[jA,G4,Hb,or_false]at ha hb;rcases ha with rfl|rfl|rfl|rfl|rfl|rfl<;>rcases hb with rfl|rfl|rfl|rfl|rfl|rfl<;>rfl
  exact key n hn m hm
theorem lC{K:yF}{n:String}{t:T}(e:tyN t=some n):∀{ms:List String},(∀m∈ms,m∈jA)->JM K (.type n) (ms.map On)=some (ms.any (j5 n))
 | [],_=>rfl
 | m::ms,h=>by
  rw[Gs,PySem.W.kitAny.eq_2,lD e (h m ymS),IP,lC e λx hx=>h x (ymC _ hx)];cases j5 n m<;>rfl
section
variable {ι : Type}{C:ι->Cx}{P:LM}{W:LU}{K:yF}{mg:Str->Option LB}{base:Heap}{k:Nat}{e:Expr}{m:ME}{pos:Pos}
theorem u5{n:String}(hn:n∈jA):qh K (λx H Q=>CC K n [x,.ty n] H Q) (fg [n]):=by
 intro H x tx t Q r e q;unfold fg at e;cases e1:tyN tx with
 | none=>rw[e1]at e;cases e
 | some n'=>
  rw[e1]at e;cases e;refine⟨x,n',_,rfl,wG r e1,lD e1 hn,?_⟩;refine q _ H ⟨K7.refl H,[],?_,HN,λa h=>by cases h⟩;rw[Rp,RpI];exact⟨by simp,rfl⟩
theorem u6{n1 n2:String}(h1:n1∈jA)(h2:n2∈jA):qh K (λx H Q=>[V.ty n1,V.ty n2].length<=sizeLine/\∀p,H p=none->CD K [n1,n2] [x,.ref p] (upd H p (.tup [.ty n1,.ty n2])) Q) (fg [n1,n2]):=by
 intro H x tx t Q r e q;unfold fg at e;cases e1:tyN tx with
 | none=>rw[e1]at e;cases e
 | some n'=>
  rw[e1]at e;cases e;refine⟨by show 2<=sizeLine;decide,λp hp=>?_⟩;have sm:K7 H (upd H p (.tup [.ty n1,.ty n2])):=(K7.refl H).put hp;have r':Rpx K (upd H p (.tup [.ty n1,.ty n2])) tx x:=by
   obtain⟨F,r⟩:=r;exact⟨F,r.same sm⟩
  refine⟨x,n',_,p,rfl,.inl (.inl av),wG r' e1,lC e1 (by simp[h1,h2]),?_⟩;refine q _ _ ⟨sm,[],?_,HN,λa h=>by cases h⟩;rw[Rp,RpI];exact⟨rfl,rfl⟩
theorem EF{n:String}{x:Str}{p p1:Pos}(ck:CK C P W K mg base k)(hb:mg "isinstance" = none)(hx:mg x=none)(bx:Mh x=some (.type n))(hn:n∈jA)(ha:QE C K e m)(hg:∀i,Gl (C i) "isinstance" :=by intro _;rfl)(hg1:∀i,Gl (C i) x:=by intro _;rfl)
  (hs:bz e=false:=by rfl) (hxn:x≠("__name__" : Str):=by decide) (hdb:(x==("__debug__" : Str))=false:=by decide):QE C K (.Call (.Name "isinstance" p) [e,.Name x p1] [] pos) (mUn (fg [n]) m):=by
 obtain⟨ta,q,r⟩:=ha;refine⟨_,λi=>jd (r:=CC K n) (by have:=tO (X:=C i) n;rw[ck.kk i]at this;exact this) (hg i) (by rw[ck.mg i];exact hb) PY (cU (hs:=hs) (q i) (cU (mY (hg1 i) (by rw[ck.mg i];exact hx) bx (wj n) hxn hdb) mX)) (by show(!bz e&&true)=true;rw[hs];rfl),?_⟩;exact pR (u5 hn) r
theorem EG{n1 n2:String}{x1 x2:Str}{p p1 p2 p3:Pos}{j:Nat}(ck:CK C P W K mg base k)(hb:mg "isinstance" = none)(hx1:mg x1=none)(bx1:Mh x1=some (.type n1))(hn1:n1∈jA)(hx2:mg x2=none)(bx2:Mh x2=some (.type n2))(hn2:n2∈jA)(ha:QE C K e m)(hg:∀i,Gl (C i) "isinstance" :=by intro _;rfl)(hg1:∀i,Gl (C i) x1:=by intro _;rfl)(hg2:∀i,Gl (C i) x2:=by intro _;rfl)
  (hs:bz e=false:=by rfl) (hxn1:x1≠("__name__" : Str):=by decide) (hdb1:(x1==("__debug__" : Str))=false:=by decide) (hxn2:x2≠("__name__" : Str):=by decide) (hdb2:(x2==("__debug__" : Str))=false:=by decide):QE C K (.Call (.Name "isinstance" p) [e,.Tuple [.Name x1 p1,.Name x2 p2] j p3] [] pos) (mUn (fg [n1,n2]) m):=by
 obtain⟨ta,q,r⟩:=ha;refine⟨_,λi=>jd (r:=CD K [n1,n2]) (by have:=tP (X:=C i) [n1,n2];rw[ck.kk i]at this;exact this) (hg i) (by rw[ck.mg i];exact hb) PY (cU (hs:=hs) (q i) (cU (uO (cU (mY (hg1 i) (by rw[ck.mg i];exact hx1) bx1 (wj n1) hxn1 hdb1) (cU (mY (hg2 i) (by rw[ck.mg i];exact hx2) bx2 (wj n2) hxn2 hdb2) mX))) mX)) (by show(!bz e&&true)=true;rw[hs];rfl),?_⟩;exact pR (u6 hn1 hn2) r
end
theorem Ed{QT1:T->Prop}{ns:List String}{t:T}{n:String}(h:tyN t=some n)(q:QT1 (.im (.bl (ns.any (j5 n))))):W1 (fg ns t) QT1:=⟨_,by unfold fg;rw[h];rfl,q⟩
theorem w6{prog:LM}{w:LU}{A:LQ}{E:LB->LD->Prop}{s:LD}{z TI TO i1 i2:Addr}{fp1 fp2:List Addr}{n1 n2 i:Nat}{P1 P2:Nat->LB->Prop}{St1 St2:Nat->Heap->Prop}{a b:LB}{Q:LB->LD->Prop}
  (D1:OM prog w A i1 fp1 n1 P1 St1) (D2:OM prog w A i2 fp2 n2 P2 St2)
  (hz:Ql s.heap z TI TO .none) (hTI:MM s.heap TI (.ref i1) (.ref i2)) (hTO:MM s.heap TO a b) (s1:St1 i s.heap) (s2:St2 i s.heap) (l1:i<n1) (l2:i<n2)
  (ap:TI≠z/\TO≠z/\TI≠TO/\TI≠i1/\TI≠i2/\i1≠z/\i2≠z/\i1≠TO/\i2≠TO/\i1≠i2) (f1:z∉fp1/\TO∉fp1/\i2∉fp1) (f2:z∉fp2/\TO∉fp2/\i1∉fp2)
  (k:∀x y h' tk,P1 i x->P2 i y->Ql h' z TI TO (Ny s.heap.objs.size)->MM h' TO x y->St1 (i+1) h'->St2 (i+1) h'->MM h' s.heap.objs.size x y->h'.objs.size=s.heap.objs.size+1 ->
   (∀c o,c≠z->c≠TO->c≠i1->c≠i2->s.heap.get? c=some o->h'.get? c=some o)->Q (.ref s.heap.objs.size) {s with heap:=h',toks:=tk}) :
  LH (LL prog w) A (LJ.«zip.__next__» ⟨[.ref z],[]⟩) (λfin s'=>∃v,fin=Fin.done (Flow.ret v)/\Q v s') E s:=by
 show LH _ _ (Qj (.ref z) 2 >>= _) _ _ _;refine LA (L0 hz rfl (x:=.bool false) rfl ?_);refine LA (L0 hz rfl (x:=.ref TI) rfl ?_);refine LA (Mf hTI rfl ?_);show LH _ _ (M2 (.ref z) >>= _) _ _ _;refine LA ?_;show LH _ _ (Qj (.ref z) 0 >>= _) _ _ _;refine LA (L0 hz rfl (x:=.none) rfl ?_);refine LF ?_;show LH _ _ (rule _ >>= _) _ _ _;refine LA (M4 ?_);refine LA (L0 hz rfl (x:=.ref TO) rfl ?_);refine LA (ML hz rfl (Io _) ?_);have hz1:=Mp (Mb λx_1=>x_1.setIfInBounds 0 MR) hz rfl;have b1:=Ml s.heap z (Mb λx_1=>x_1.setIfInBounds 0 MR);generalize s.heap.update z (Mb λx_1=>x_1.setIfInBounds 0 MR)=h1 at hz1 b1|-;obtain⟨a1,a2,a3,a4,a5,a6,a7,a8,a9,a10⟩:=ap;refine LA ?_;show LH _ _ (forIn [(Mq i1,0),(Mq i2,1)] ((none:Option PySem.Fin),()) _) _ _ _;rw[IF];refine LA (LA (N9 ?_));show LH _ _ (L6 (.ref i1) >>= _) _ _ _;refine LA (D1.item i _ _ _ l1 (D1.frame i _ _ s1 λc hc o e=>(b1.2 c λq=>f1.1 (q▸hc)).trans e) λx h2 t2 px s1' b2=>?_);refine LF ?_;have b2':LY i1 h1 h2:=b2;have hTO2:MM h2 TO a b:=((b2'.2 TO (LO a8)).trans (b1.2 TO a2)).trans hTO;show LH _ _ (Oj (.ref TO) >>= _) _ _ _;refine LA (Mf hTO2 rfl ?_);refine LA (Nu hTO2 λh3 hTO3 b3=>?_);have b3':LY TO h2 h3:=b3;refine LA (OI (LF ?_));show LH _ _ (forIn [(Mq i2,1)] ((none:Option PySem.Fin),()) _) _ _ _;rw[IF];refine LA (LA (N9 ?_));show LH _ _ (L6 (.ref i2) >>= _) _ _ _;have hTO3':MM h3 TO x b:=hTO3;refine LA (D2.item i _ _ _ l2 (D2.frame i _ _ s2 λc hc o e=>(b3'.2 c λq=>f2.2.1 (q▸hc)).trans ((b2'.2 c λq=>f2.2.2 (q▸hc)).trans ((b1.2 c λq=>f2.1 (q▸hc)).trans e))) λy h4 t4 py s2' b4=>?_);refine LF ?_;have b4':LY i2 h3 h4:=b4;have hTO4:MM h4 TO x b:=(b4'.2 TO (LO a9)).trans hTO3';show LH _ _ (Oj (.ref TO) >>= _) _ _ _;refine LA (Mf hTO4 rfl ?_);refine LA (Nu hTO4 λh5 hTO5 b5=>?_);have b5':LY TO h4 h5:=b5;refine LA (OI (LF ?_));have hTO5':MM h5 TO x y:=hTO5;show LH _ _ (forIn ([]:List (LB×Nat)) ((none:Option PySem.Fin),()) _) _ _ _;rw[Ku];refine LF ?_;show LH _ _ (Oj (.ref TO) >>= _) _ _ _;refine LA (Mf hTO5' rfl ?_);refine LA (wpAny_newTuple (items:=[x,y]) ?_ (by show 2<=sizeLine;decide));have hz5:h5.get? z=_:=(b5'.2 z (LO a2)).trans ((b4'.2 z (LO a7)).trans ((b3'.2 z (LO a2)).trans ((b2'.2 z (LO a6)).trans hz1)));have sz:h5.objs.size=s.heap.objs.size:=b5'.1.trans (b4'.1.trans (b3'.1.trans (b2'.1.trans b1.1)));have hz6:=LC {cls:=.type "tuple",data:=.seq [x,y].toArray} hz5;have hn6:=LK h5 (o:={cls:=.type "tuple",data:=.seq [x,y].toArray}) rfl;show LH _ _ (OV (.ref z) (.ref h5.objs.size) >>= _) _ _ _;refine LA ?_;show LH _ _ (setField (.ref z) 0 (Ny h5.objs.size) >>= _) _ _ _;refine LA (ML hz6 rfl (Io _) ?_);have hz7:=Mp (Mb λx_1=>x_1.setIfInBounds 0 (Ny h5.objs.size)) hz6 rfl;have b7:=Ml (h5.push {cls:=.type "tuple",data:=.seq [x,y].toArray}) z (Mb λx_1=>x_1.setIfInBounds 0 (Ny h5.objs.size));generalize (h5.push {cls:=.type "tuple",data:=.seq [x,y].toArray}).update z (Mb λx_1=>x_1.setIfInBounds 0 (Ny h5.objs.size))=h7 at hz7 b7|-;refine ML hz7 rfl (Nat.succ_lt_succ (Io _)) ?_;have hz8:=Mp (Mb λx_1=>x_1.setIfInBounds 1 (MJ false)) hz7 rfl;have b8:=Ml h7 z (Mb λx_1=>x_1.setIfInBounds 1 (MJ false));generalize h7.update z (Mb λx_1=>x_1.setIfInBounds 1 (MJ false))=h8 at hz8 b8|-;have zl:z<s.heap.objs.size:=LI hz;have nz:h5.objs.size≠z:=by rw[sz];exact Iq zl
 have all8:∀c o,c≠z->h5.get? c=some o->h8.get? c=some o:=λc o n e=>(b8.2 c n).trans ((b7.2 c n).trans (LC _ e));refine LF ⟨_,rfl,?_⟩;have e9:(s.heap.objs.size)=h5.objs.size:=sz.symm;rw[<-e9];refine k x y h8 t4 px py ?_ ?_ ?_ ?_ ?_ ?_ ?_;rw[e9];exact hz8;exact all8 TO _ a2 hTO5';refine D1.frame _ _ _ s1' λc hc o e=>all8 c o (λq=>f1.1 (q▸hc)) ((b5'.2 c λq=>f1.2.1 (q▸hc)).trans ((b4'.2 c λq=>f1.2.2 (q▸hc)).trans ((b3'.2 c λq=>f1.2.1 (q▸hc)).trans e)));refine D2.frame _ _ _ s2' λc hc o e=>all8 c o (λq=>f2.1 (q▸hc)) ((b5'.2 c λq=>f2.2.1 (q▸hc)).trans e);rw[e9];exact(b8.2 _ nz).trans ((b7.2 _ nz).trans hn6);rw[b8.1,b7.1,Mg,e9]
 ·intro c o n1 n2 n3 n4 e;exact all8 c o n1 ((b5'.2 c n2).trans ((b4'.2 c n4).trans ((b3'.2 c n2).trans ((b2'.2 c n3).trans ((b1.2 c n1).trans e)))))
theorem zE{prog:LM}{w:LU}{A:LQ}{E:LB->LD->Prop}{s:LD}{z TI TO i1 i2:Addr}{fp1 fp2:List Addr}{n1 n2 i:Nat}{P1 P2:Nat->LB->Prop}{St1 St2:Nat->Heap->Prop}{a b:LB}{Q:PySem.Fin->LD->Prop}
  (D1:OM prog w A i1 fp1 n1 P1 St1) (D2:OM prog w A i2 fp2 n2 P2 St2)
  (hz:Ql s.heap z TI TO .none) (hTI:MM s.heap TI (.ref i1) (.ref i2)) (hTO:MM s.heap TO a b) (s1:St1 i s.heap) (s2:St2 i s.heap) (l:i=n1\/(i<n1/\i=n2))
  (ap:TI≠z/\TO≠z/\TI≠TO/\TI≠i1/\TI≠i2/\i1≠z/\i2≠z/\i1≠TO/\i2≠TO/\i1≠i2) (f1:z∉fp1/\TO∉fp1/\i2∉fp1) (f2:z∉fp2/\TO∉fp2/\i1∉fp2)
  (k:∀h' e tk,(∀c o,c≠z->c≠TO->c≠i1->c≠i2->s.heap.get? c=some o->h'.get? c=some o)->(∃o,h'.get? e=some o/\o.cls=.type "StopIteration")->E (.ref e) {s with heap:=h',toks:=tk}) :
  LH (LL prog w) A (LJ.«zip.__next__» ⟨[.ref z],[]⟩) Q E s:=by
 show LH _ _ (Qj (.ref z) 2 >>= _) _ _ _;refine LA (L0 hz rfl (x:=.bool false) rfl ?_);refine LA (L0 hz rfl (x:=.ref TI) rfl ?_);refine LA (Mf hTI rfl ?_);show LH _ _ (M2 (.ref z) >>= _) _ _ _;refine LA ?_;show LH _ _ (Qj (.ref z) 0 >>= _) _ _ _;refine LA (L0 hz rfl (x:=.none) rfl ?_);refine LF ?_;show LH _ _ (rule _ >>= _) _ _ _;refine LA (M4 ?_);refine LA (L0 hz rfl (x:=.ref TO) rfl ?_);refine LA (ML hz rfl (Io _) ?_);have hz1:=Mp (Mb λx_1=>x_1.setIfInBounds 0 MR) hz rfl;have b1:=Ml s.heap z (Mb λx_1=>x_1.setIfInBounds 0 MR);generalize s.heap.update z (Mb λx_1=>x_1.setIfInBounds 0 MR)=h1 at hz1 b1|-;obtain⟨a1,a2,a3,a4,a5,a6,a7,a8,a9,a10⟩:=ap;refine LA ?_;show LH _ _ (forIn [(Mq i1,0),(Mq i2,1)] ((none:Option PySem.Fin),()) _) _ _ _;rw[IF];refine LA (LA (N9 ?_));show LH _ _ (L6 (.ref i1) >>= _) _ _ _;have q1:St1 i h1:=D1.frame i _ _ s1 λc hc o e=>(b1.2 c λq=>f1.1 (q▸hc)).trans e;have stop:∀(hx:Heap) (e:Addr) (tk:Nat) (zo:Obj),hx.get? z=some zo->(∃vs,zo.data=.fields vs/\0<vs.size)->zo.cls=.type "zip" -> (∀c o,c≠z->c≠TO->c≠i1->c≠i2->s.heap.get? c=some o->hx.get? c=some o)->(∃o,hx.get? e=some o/\o.cls=.type "StopIteration") ->
   LH (LL prog w) A (setField (.ref z) 0 MH) (λ_ s''=>E (.ref e) s'') E {s with heap:=hx,toks:=tk}:=by
  intro hx e tk zo g1 g2 g3 g4 g5;obtain⟨vs,d,lz⟩:=g2;refine ML g1 d lz ?_;have b9:=Ml hx z (Mb λx_1=>x_1.setIfInBounds 0 MH);obtain⟨o,g6,g7⟩:=g5;have nez:e≠z:=λq=>by
   subst q;rw[g1]at g6;cases g6;rw[g3]at g7;exact absurd g7 (by decide +kernel)
  exact k _ e tk (λc o n1 n2 n3 n4 h=>(b9.2 c n1).trans (g4 c o n1 n2 n3 n4 h)) ⟨o,(b9.2 e nez).trans g6,g7⟩
 rcases l with rfl|⟨l1,rfl⟩
 ·refine LA (D1.done _ _ _ q1 λh2 e x2 st=>?_);exact stop h2 e _ _ (x2 z _ (LO a6) hz1) ⟨_,rfl,Io _⟩ rfl (λc o n1 n2 n3 n4 h=>x2 c o n3 ((b1.2 c n1).trans h)) st
 ·refine LA (D1.item i _ _ _ l1 q1 λx h2 t2 px s1' b2=>?_);refine LF ?_;have b2':LY i1 h1 h2:=b2;have hTO2:MM h2 TO a b:=((b2'.2 TO (LO a8)).trans (b1.2 TO a2)).trans hTO;show LH _ _ (Oj (.ref TO) >>= _) _ _ _;refine LA (Mf hTO2 rfl ?_);refine LA (Nu hTO2 λh3 hTO3 b3=>?_);have b3':LY TO h2 h3:=b3;refine LA (OI (LF ?_));show LH _ _ (forIn [(Mq i2,1)] ((none:Option PySem.Fin),()) _) _ _ _;rw[IF];refine LA (LA (N9 ?_));show LH _ _ (L6 (.ref i2) >>= _) _ _ _;refine LA (D2.done _ _ _ (D2.frame i _ _ s2 λc hc o e=>(b3'.2 c λq=>f2.2.1 (q▸hc)).trans ((b2'.2 c λq=>f2.2.2 (q▸hc)).trans ((b1.2 c λq=>f2.1 (q▸hc)).trans e))) λh4 e x4 st=>?_);exact stop h4 e _ _ (x4 z _ (LO a7) ((b3'.2 z (LO a2)).trans ((b2'.2 z (LO a6)).trans hz1))) ⟨_,rfl,Io _⟩ rfl (λc o n1 n2 n3 n4 h=>x4 c o n4 ((b3'.2 c n2).trans ((b2'.2 c n3).trans ((b1.2 c n1).trans h)))) st
theorem k5{prog:LM}{w:LU}{A:LQ}{E:LB->LD->Prop}{s:LD}{z TI TO i1 i2:Addr}{fp1 fp2:List Addr}{n1 n2 i:Nat}{P1 P2:Nat->LB->Prop}{St1 St2:Nat->Heap->Prop}{a b:LB}{Q:Option LB->LD->Prop}
  (D1:OM prog w A.in1 i1 fp1 n1 P1 St1) (D2:OM prog w A.in1 i2 fp2 n2 P2 St2)
  (hz:Ql s.heap z TI TO .none) (hTI:MM s.heap TI (.ref i1) (.ref i2)) (hTO:MM s.heap TO a b) (s1:St1 i s.heap) (s2:St2 i s.heap) (l1:i<n1) (l2:i<n2)
  (ap:TI≠z/\TO≠z/\TI≠TO/\TI≠i1/\TI≠i2/\i1≠z/\i2≠z/\i1≠TO/\i2≠TO/\i1≠i2) (f1:z∉fp1/\TO∉fp1/\i2∉fp1) (f2:z∉fp2/\TO∉fp2/\i1∉fp2)
  (k:∀x y h' tk,P1 i x->P2 i y->Ql h' z TI TO (Ny s.heap.objs.size)->MM h' TO x y->St1 (i+1) h'->St2 (i+1) h'->MM h' s.heap.objs.size x y->h'.objs.size=s.heap.objs.size+1 ->
   (∀c o,c≠z->c≠TO->c≠i1->c≠i2->s.heap.get? c=some o->h'.get? c=some o)->Q (some (.ref s.heap.objs.size)) {s with heap:=h',toks:=tk}) :
  LH (LL prog w) A (OB (.ref z)) Q E s:=by
 have hT:s.TypeIs (.ref z) "zip" :=⟨_,hz,rfl⟩;unfold OB;refine LA (wpAny_attempt (Ma (name:=LW "__next__") hT NC (Mi NC hT PH ?_ (Ps _))));refine w6 D1 D2 hz hTI hTO s1 s2 l1 l2 ap f1 f2 λx y h' tk c1 c2 c3 c4 c5 c6 c7 c8 c9=>?_;exact LF (k x y h' tk c1 c2 c3 c4 c5 c6 c7 c8 c9)
theorem iR{prog:LM}{w:LU}{A:LQ}{E:LB->LD->Prop}{s:LD}{z TI TO i1 i2:Addr}{fp1 fp2:List Addr}{n1 n2 i:Nat}{P1 P2:Nat->LB->Prop}{St1 St2:Nat->Heap->Prop}{a b:LB}{Q:Option LB->LD->Prop}
  (D1:OM prog w A.in1 i1 fp1 n1 P1 St1) (D2:OM prog w A.in1 i2 fp2 n2 P2 St2)
  (hz:Ql s.heap z TI TO .none) (hTI:MM s.heap TI (.ref i1) (.ref i2)) (hTO:MM s.heap TO a b) (s1:St1 i s.heap) (s2:St2 i s.heap) (l:i=n1\/(i<n1/\i=n2))
  (ap:TI≠z/\TO≠z/\TI≠TO/\TI≠i1/\TI≠i2/\i1≠z/\i2≠z/\i1≠TO/\i2≠TO/\i1≠i2) (f1:z∉fp1/\TO∉fp1/\i2∉fp1) (f2:z∉fp2/\TO∉fp2/\i1∉fp2)
  (k:∀h' tk,(∀c o,c≠z->c≠TO->c≠i1->c≠i2->s.heap.get? c=some o->h'.get? c=some o)->Q none {s with heap:=h',toks:=tk}) :
  LH (LL prog w) A (OB (.ref z)) Q E s:=by
 have hT:s.TypeIs (.ref z) "zip" :=⟨_,hz,rfl⟩;unfold OB;refine LA (wpAny_attempt (Ma (name:=LW "__next__") hT NC (Mi NC hT PH ?_ (Ps _))));refine zE D1 D2 hz hTI hTO s1 s2 l ap f1 f2 λh' e tk kk st=>?_;obtain⟨o,ho,hc⟩:=st;refine LA (wpAny_isInstance (T:="StopIteration") (b:=true) ⟨o,ho,hc⟩ isSubtype_stop ?_);exact LF (k _ _ kk)
def Lg(kd:Bool)(h:Heap)(l:Addr)(els:Array LB):Prop:=match kd with|true=>h.IsList l els|false=>h.IsTuple l els
def Ld(kd:Bool)(h:Heap)(it l:Addr)(k:Nat):Prop:=match kd with|true=>h.IsListIter it l k|false=>h.IsTupleIter it l k
noncomputable def itC(kd:Bool):String:=match kd with|true=>"list_iterator" | false=>"tuple_iterator"
noncomputable abbrev itO(kd:Bool) (l:Addr):Obj:={cls:=.type (itC kd),data:=.fields #[.ref l,.int 0 0]}
theorem qT{prog:LM}{w:LU}{A:LQ}{E:LB->LD->Prop}{s:LD}{l:Addr}{els:Array LB}{Q:LB->LD->Prop}(kd:Bool)(h:Lg kd s.heap l els)(q:Q (.ref s.heap.objs.size) {s with heap:=s.heap.push (itO kd l)}):LH (LL prog w) A (Qu (.ref l)) Q E s:=by
 cases kd with
 | true=>exact Nc h q
 | false=>exact NK h q
theorem Lg.keep{kd:Bool}{h h':Heap}{l:Addr}{els:Array LB}(x:Lg kd h l els)(k:∀o,h.get? l=some o->h'.get? l=some o):Lg kd h' l els:=by
 cases kd with
 | true=>obtain⟨o,e,r⟩:=x;exact⟨o,k o e,r⟩
 | false=>obtain⟨o,e,r⟩:=x;exact⟨o,k o e,r⟩
theorem Lg.get{kd:Bool}{h:Heap}{l:Addr}{els:Array LB}(x:Lg kd h l els):∃o,h.get? l=some o:=by
 cases kd with
 | true=>obtain⟨o,e,r⟩:=x;exact⟨o,e⟩
 | false=>obtain⟨o,e,r⟩:=x;exact⟨o,e⟩
noncomputable abbrev zK2(h:Heap) (k1 k2:Bool) (l1 l2:Addr):Heap:=(h.push (itO k1 l1)).push (itO k2 l2)
noncomputable abbrev zK3(h:Heap) (k1 k2:Bool) (l1 l2:Addr):Heap:=(zK2 h k1 k2 l1 l2).push {cls:=.type "tuple",data:=.seq #[.ref h.objs.size,.ref (h.push (itO k1 l1)).objs.size]}
noncomputable abbrev zK4(h:Heap) (k1 k2:Bool) (l1 l2:Addr):Heap:=(zK3 h k1 k2 l1 l2).push {cls:=.type "tuple",data:=.seq #[.none,.none]}
noncomputable abbrev zK5(h:Heap) (k1 k2:Bool) (l1 l2:Addr):Heap:=(zK4 h k1 k2 l1 l2).push {cls:=.type "zip",data:=.fields #[.none,.bool false,.bool false,.ref (zK2 h k1 k2 l1 l2).objs.size,.ref (zK3 h k1 k2 l1 l2).objs.size]}
theorem pC(k1 k2:Bool)(l1 l2:Addr)(xs ys:Array LB) :
  QY (LJ.«zip.__new__» ⟨[.type "zip",.ref l1,.ref l2],[]⟩) (λ_ R s=>Lg k1 s.heap l1 xs/\Lg k2 s.heap l2 ys/\R (.ok (.ret (.ref (zK4 s.heap k1 k2 l1 l2).objs.size))) {s with heap:=zK5 s.heap k1 k2 l1 l2}):=
 .of_wp λpr ww AA RR sh hyp=>by
  obtain⟨hp,g,d,tk,os⟩:=sh;obtain⟨h1,h2,hyp⟩:=hyp;have hsubZ:=sub_zip;have h2':Lg k2 (hp.push (itO k1 l1)) l2 ys:=h2.keep λo e=>LC _ e;wp_walk using qT k1 h1,qT k2 h2'
  exact⟨_,rfl,hyp⟩
theorem rL{prog:LM}{w:LU}{A:LQ}{E:LB->LD->Prop}{s:LD}{k1 k2:Bool}{l1 l2:Addr}{xs ys:Array LB}{Q:LB->LD->Prop}(h1:Lg k1 s.heap l1 xs)(h2:Lg k2 s.heap l2 ys)
  (kk:∀h',Ql h' (s.heap.objs.size+4) (s.heap.objs.size+2) (s.heap.objs.size+3) .none->MM h' (s.heap.objs.size+2) (.ref s.heap.objs.size) (.ref (s.heap.objs.size+1))->MM h' (s.heap.objs.size+3) .none .none ->
   Ld k1 h' s.heap.objs.size l1 0->Ld k2 h' (s.heap.objs.size+1) l2 0->h'.objs.size=s.heap.objs.size+5->(∀c o,s.heap.get? c=some o->h'.get? c=some o)->Q (.ref (s.heap.objs.size+4)) {s with heap:=h'}) :
  LH (LL prog w) A (call (.type "zip") [.ref l1,.ref l2]) Q E s:=by
 refine callType_new F.called_zip (by decide) (F.typeCall_zip_2 _ _) (F.newCall_zip_2 _ _) (λobj=>F.args_object_init_3 obj _ _) F.entry_zip_new (pC k1 k2 l1 l2 xs ys) ⟨h1,h2,?_⟩;have z1:(s.heap.push (itO k1 l1)).objs.size=s.heap.objs.size+1:=Mg ..;have z2:(zK2 s.heap k1 k2 l1 l2).objs.size=s.heap.objs.size+2:=by rw[zK2,Mg,z1]
 have z3:(zK3 s.heap k1 k2 l1 l2).objs.size=s.heap.objs.size+3:=by rw[zK3,Mg,z2]
 have z4:(zK4 s.heap k1 k2 l1 l2).objs.size=s.heap.objs.size+4:=by rw[zK4,Mg,z3]
 have g0:(s.heap.push (itO k1 l1)).get? s.heap.objs.size=some (itO k1 l1):=LK _ rfl;have g1:(zK2 s.heap k1 k2 l1 l2).get? (s.heap.objs.size+1)=some (itO k2 l2):=by have:=LK (s.heap.push (itO k1 l1)) (o:=itO k2 l2) rfl;rw[z1]at this;exact this
 have g2:=LK (zK2 s.heap k1 k2 l1 l2) (o:={cls:=.type "tuple",data:=.seq #[.ref s.heap.objs.size,.ref (s.heap.push (itO k1 l1)).objs.size]}) rfl;have g3:=LK (zK3 s.heap k1 k2 l1 l2) (o:={cls:=.type "tuple",data:=.seq #[.none,.none]}) rfl;have g4:=LK (zK4 s.heap k1 k2 l1 l2) (o:={cls:=.type "zip",data:=.fields #[.none,.bool false,.bool false,.ref (zK2 s.heap k1 k2 l1 l2).objs.size,.ref (zK3 s.heap k1 k2 l1 l2).objs.size]}) rfl;rw[z2,z1]at g2;rw[z3]at g3;rw[z4,z2,z3]at g4;have up:∀c o,(zK2 s.heap k1 k2 l1 l2).get? c=some o->(zK5 s.heap k1 k2 l1 l2).get? c=some o:=λc o e=>LC _ (LC _ (LC _ e));have it:∀(kd:Bool) (h:Heap) (a l:Addr),h.get? a=some (itO kd l)->Ld kd h a l 0:=λkd h a l e=>by
  cases kd;exact⟨_,e,rfl,rfl⟩;exact⟨_,e,rfl,rfl⟩
 show _/\_;rw[z4];have e5:(zK5 s.heap k1 k2 l1 l2).get? (s.heap.objs.size+4)=some {cls:=.type "zip",data:=.fields #[.none,.bool false,.bool false,.ref (s.heap.objs.size+2),.ref (s.heap.objs.size+3)]}:=by
  show(Q4 _ _).get? _=_;rw[z2,z3];exact g4
 refine⟨⟨_,e5,rfl⟩,kk _ e5 ?_ ?_ (it _ _ _ _ (up _ _ (LC _ g0))) (it _ _ _ _ (up _ _ g1)) ?_ λc o e=>up c o (LC _ (LC _ e))⟩
 ·refine LC _ (LC _ ?_);show(Q4 _ _).get? _=_;rw[z1];exact g2
 ·exact LC _ g3
 ·rw[zK5,Mg,z4]
theorem mw{prog:LM}{w:LU}{A:LQ}(hh:A.handled=none)(kd:Bool)(it l:Addr)(ne:l≠it)(els:Array LB):OM prog w A it [it,l] els.size (λk v=>els[k]?=some v) (λk h=>Ld kd h it l k/\Lg kd h l els):=by
 cases kd with
 | true=>exact OM.list hh it l ne els
 | false=>exact nQ hh it l ne els
theorem tX{prog:LM}{w:LU}{A:LQ}(hh:A.handled=none)(kd:Bool)(it l:Addr)(els:Array LB)(i:Nat)(hi:els[i]?=none):OM prog w A it [it,l] i (λk v=>els[k]?=some v) (λk h=>k=i/\Ld kd h it l k/\Lg kd h l els) where
 live:=λk h st=>by
  obtain⟨_,st,_⟩:=st;cases kd;obtain⟨o,e,_⟩:=st;exact⟨o,e⟩;obtain⟨o,e,_⟩:=st;exact⟨o,e⟩
 frame:=λk h h' st hk=>by
  obtain⟨e,st,sq⟩:=st;refine⟨e,?_,sq.keep λo e=>hk l (by simp) o e⟩;cases kd;obtain⟨o,e,r⟩:=st;exact⟨o,hk it (by simp) o e,r⟩;obtain⟨o,e,r⟩:=st;exact⟨o,hk it (by simp) o e,r⟩
 item:=λk s Q E hlt st _=>by
  have:=st.1;omega
 done:=λs Q E st kk=>by
  obtain⟨_,st,sq⟩:=st;cases kd with
  | true=>exact wpAny_nextOf_list_end hh st sq hi kk
  | false=>exact iS hh st sq hi kk
def SqK(K:yF)(H:Hp)(kd:Bool)(a:Addr)(xs:List V):Prop:=match kd with|true=>SqL K H a xs|false=>SqT K H a xs
theorem Inv.seqK{X:Cx}{Uq:List (Addr×Obj)}{Z:St}{H:Hp}{s:LD}{kd:Bool}{a:Addr}{xs:List V}(I:Inv X Uq Z H s)(h:SqK X.K H kd a xs):∃its:List LB,Vals xs its/\Lg kd s.heap a its.toArray:=by
 cases kd with
 | true=>
  obtain⟨its,rv,p,_⟩:=I.list h;obtain⟨o,n,h1,h2,h3,h4⟩:=p;exact⟨its,rv,o,h1,h2,n,h4⟩
 | false=>
  obtain⟨its,rv,p,_⟩:=I.tuple h;exact⟨its,rv,p⟩
theorem Inv.seqK_inj{X:Cx}{Uq:List (Addr×Obj)}{Z:St}{H:Hp}{s:LD}{kd:Bool}{a:Addr}{xs ys:List V}(I:Inv X Uq Z H s)(h:SqK X.K H kd a xs)(h':SqK X.K H kd a ys):xs=ys:=by
 cases kd with
 | true=>exact I.list_inj h h'
 | false=>exact I.tuple_inj h h'
noncomputable def Itz(K:yF) (k1 k2:Bool) (a1 a2:Addr):It:=
 ⟨λi H=>∃xs ys x y,SqK K H k1 a1 xs/\SqK K H k2 a2 ys/\xs[i]?=some x/\ys[i]?=some y,
   λi H v H'=>∃p x y,H p=none/\v=.ref p/\H'=upd H p (.tup [x,y])/\(∀xs,SqK K H k1 a1 xs->xs[i]?=some x)/\∀ys,SqK K H k2 a2 ys->ys[i]?=some y,
   λi H=>∃xs ys,SqK K H k1 a1 xs/\SqK K H k2 a2 ys/\(xs.length<=i\/ys.length<=i)⟩
theorem Inv.turnedL{X:Cx}{Uq:List (Addr×Obj)}{Z:St}{H:Hp}{s:LD}{h':Heap}{t':Nat}{fs:List Addr}(I:Inv X Uq Z H s)(k:∀b o,b∉fs->s.heap.get? b=some o->h'.get? b=some o)(f:∀b∈fs,gX X Uq H b):Inv X Uq Z H {s with heap:=h',toks:=t'}:=by
 have nit:∀b u,H b=some u->b∉fs:=λb u e z=>by rw[(f b z).1]at e;cases e
 have nl:X.env.locals∉fs:=λz=>(f _ z).2.1 rfl;refine I.step (g':=s.gens) (d':=s.drawn) (ch:=fs) (λb hb=>?_) (λb o _ _ hc e _=>k b o hc e) (λb o _ _ hc e _=>⟨o.slots,k b o hc e⟩) (λ_ _ _ _ n=>n)
  (λb o hc e=>⟨o,k b o hc e⟩) (λ_ _ e=>e) (λ_ _ _ e=>e) (λb ps e=>⟨#[],by rw[e];simp⟩) (λm hm=>?_) (λb u e=>?_) I.bare
 ·obtain⟨_,hL,_,h1,h2,h3⟩:=f b hb;exact⟨h1,hL,h2,h3⟩
 ·obtain⟨o,es,ep,ho,r⟩:=hm;exact⟨o,es,ep,k _ o nl ho,r⟩
 ·refine(I.hok b u e).stay (λc v hc q=>k c v ?_ q) (λ_ q=>q) λ_ _ q=>q;rcases hc with z|z;rw[z];exact nit b u e;exact nit c _ z
theorem Ld.get{kd:Bool}{h:Heap}{it l:Addr}{k:Nat}(x:Ld kd h it l k):∃o,h.get? it=some o/\∀v,o.data ≠ .cell v:=by
 cases kd with
 | true=>obtain⟨o,e,c,d⟩:=x;exact⟨o,e,λv z=>by rw[d]at z;cases z⟩
 | false=>obtain⟨o,e,c,d⟩:=x;exact⟨o,e,λv z=>by rw[d]at z;cases z⟩
theorem Ld.keep{kd:Bool}{h h':Heap}{it l:Addr}{k:Nat}(x:Ld kd h it l k)(kp:∀o,h.get? it=some o->h'.get? it=some o):Ld kd h' it l k:=by
 cases kd with
 | true=>obtain⟨o,e,r⟩:=x;exact⟨o,kp o e,r⟩
 | false=>obtain⟨o,e,r⟩:=x;exact⟨o,kp o e,r⟩
structure ZAp(z TI TO i1 i2 l1 l2:Addr):Prop where
 ap:TI≠z/\TO≠z/\TI≠TO/\TI≠i1/\TI≠i2/\i1≠z/\i2≠z/\i1≠TO/\i2≠TO/\i1≠i2
 f1:z∉[i1,l1]/\TO∉[i1,l1]/\i2∉[i1,l1]
 f2:z∉[i2,l2]/\TO∉[i2,l2]/\i1∉[i2,l2]
 n1:l1≠i1
 n2:l2≠i2
theorem wF{P:LM}{w:LU}{K:yF}{elts:List Expr}{k0:Nat}{pos:Pos}(k1 k2:Bool){z TI TO i1 i2 l1 l2:Addr}(A:ZAp z TI TO i1 i2 l1 l2) :
  Lq P w K (.Tuple elts k0 pos) (Itz K k1 k2 l1 l2) [z,TI,TO,i1,i2] z (λi h=>Ql h z TI TO .none/\MM h TI (.ref i1) (.ref i2)/\(∃a b,MM h TO a b)/\Ld k1 h i1 l1 i/\Ld k2 h i2 l2 i) where
 mem:=by simp
 obj:=λi h st b hb=>by
  obtain⟨s1,s2,⟨a,c,s3⟩,s4,s5⟩:=st;simp only[G4,Hb,or_false]at hb;rcases hb with rfl|rfl|rfl|rfl|rfl;exact⟨_,s1,λv z=>by cases z⟩;exact⟨_,s2,λv z=>by cases z⟩;exact⟨_,s3,λv z=>by cases z⟩;exact s4.get;exact s5.get
 keep:=λi h h' st k=>by
  obtain⟨s1,s2,⟨a,c,s3⟩,s4,s5⟩:=st;exact⟨k z (by simp) _ s1,k TI (by simp) _ s2,⟨a,c,k TO (by simp) _ s3⟩,s4.keep λo e=>k i1 (by simp) o e,s5.keep λo e=>k i2 (by simp) o e⟩
 item:=by
  intro X hP hw hK hc i Uq s Z H E I hf st hg;subst hP hw hK;obtain⟨xs,ys,x,y,hq1,hq2,hx,hy⟩:=hg;obtain⟨its1,rv1,p1⟩:=I.seqK hq1;obtain⟨its2,rv2,p2⟩:=I.seqK hq2;obtain⟨u1,hu1,ru1⟩:=rv1.get hx;obtain⟨u2,hu2,ru2⟩:=rv2.get hy;obtain⟨s1,s2,⟨a,c,s3⟩,s4,s5⟩:=st;have hn1:i<its1.toArray.size:=by rw[Gw];exact(Gr.mp hu1).1
  have hn2:i<its2.toArray.size:=by rw[Gw];exact(Gr.mp hu2).1
  have hh:X.A.in1.handled=none:=I.ok.hd hc;refine k5 (mw (A:=X.A.in1) hh k1 i1 l1 A.n1 its1.toArray) (mw (A:=X.A.in1) hh k2 i2 l2 A.n2 its2.toArray) s1 s2 s3 ⟨s4,p1⟩ ⟨s5,p2⟩ hn1 hn2 A.ap A.f1 A.f2 λx' y' h1 tk px py hz1 hTO1 st1 st2 hpr hsz kk=>?_;have ex:x'=u1:=by
   have e1:its1.toArray[i]?=some x':=px;have e2:its1.toArray[i]?=some u1:=by simpa using hu1
   rw[e1]at e2;exact GX.inj e2
  have ey:y'=u2:=by
   have e1:its2.toArray[i]?=some y':=py;have e2:its2.toArray[i]?=some u2:=by simpa using hu2
   rw[e1]at e2;exact GX.inj e2
  subst ex ey;refine⟨_,rfl,wpAny_letOwnedTupleGo_zip hz1 λh2 hz2 sb=>?_⟩;have sb':LY z h1 h2:=sb;have hzl:z<s.heap.objs.size:=LI s1;obtain⟨a1,a2,a3,a4,a5,a6,a7,a8,a9,a10⟩:=A.ap;have k2':∀b o,b∉[z,TO,i1,i2]->s.heap.get? b=some o->h2.get? b=some o:=λb o n q=>by
   simp only[G4,Hb,or_false,not_or]at n;exact(sb'.2 b n.1).trans (kk b o n.1 n.2.1 n.2.2.1 n.2.2.2 q)
  have I1:Inv X Uq Z H {s with heap:=h2,toks:=tk}:=I.turnedL k2' λb hb=>hf b (by
   simp only[G4,Hb,or_false]at hb|-;rcases hb with h|h|h|h<;>simp[h])
  have fz:gX X Uq H s.heap.objs.size:=I.fpOk (GC _) (I.hok.fresh (GC _));have hT2:h2.get? s.heap.objs.size=some {cls:=.type "tuple",data:=.seq #[x',y']}:=(sb'.2 _ (Iq hzl)).trans hpr;have I2:Inv X Uq Z (upd H s.heap.objs.size (.tup [x,y])) {s with heap:=h2,toks:=tk}:=I1.track fz (.inr I.sz) I.sz ⟨by show 2<=sizeLine;decide,[x',y'],.cons ru1 (.cons ru2 .nil),⟨_,hT2,⟨rfl,rfl⟩,_,rfl⟩⟩;refine⟨.ref s.heap.objs.size,_,I2,rfl,⟨_,x,y,fz.1,rfl,rfl,λys' hy'=>by rw[I.seqK_inj hy' hq1];exact hx,λys' hy'=>by rw[I.seqK_inj hy' hq2];exact hy⟩,⟨hz2,?_,⟨_,_,(sb'.2 TO a2).trans hTO1⟩,st1.1.keep λo e=>(sb'.2 i1 a6).trans e,st2.1.keep λo e=>(sb'.2 i2 a7).trans e⟩,λb hb=>?_⟩;exact(sb'.2 TI a1).trans (kk TI _ a1 a3 a4 a5 s2)
  ·have hbo:∃o,s.heap.get? b=some o:=by
    simp only[G4,Hb,or_false]at hb;rcases hb with rfl|rfl|rfl|rfl|rfl;exact⟨_,s1⟩;exact⟨_,s2⟩;exact⟨_,s3⟩;obtain⟨o,e,_⟩:=s4.get;exact⟨o,e⟩;obtain⟨o,e,_⟩:=s5.get;exact⟨o,e⟩
   obtain⟨o,q⟩:=hbo;rw[upd_ne (GN (LI q))];exact(hf b hb).1
 done:=by
  intro X hP hw hK hc i Uq s Z H E I hf st hg;subst hP hw hK;obtain⟨xs,ys,hq1,hq2,hl⟩:=hg;obtain⟨its1,rv1,p1⟩:=I.seqK hq1;obtain⟨its2,rv2,p2⟩:=I.seqK hq2;obtain⟨s1,s2,⟨a,c,s3⟩,s4,s5⟩:=st;have hh:X.A.in1.handled=none:=I.ok.hd hc;have fin:∀h' tk,(∀c o,c≠z->c≠TO->c≠i1->c≠i2->s.heap.get? c=some o->h'.get? c=some o)->(none:Option LB)=none/\Inv X Uq Z H {s with heap:=h',toks:=tk}:=λh' tk kk=>
   ⟨rfl,I.turnedL (fs:=[z,TO,i1,i2]) (λb o n q=>by
    simp only[G4,Hb,or_false,not_or]at n;exact kk b o n.1 n.2.1 n.2.2.1 n.2.2.2 q) λb hb=>hf b (by
    simp only[G4,Hb,or_false]at hb|-;rcases hb with h|h|h|h<;>simp[h])⟩
  have l1':=rv1.length;have l2':=rv2.length;by_cases h1:xs.length<=i
  ·have e1:its1.toArray[i]?=none:=by simp;omega
   exact iR (tX (A:=X.A.in1) hh k1 i1 l1 its1.toArray i e1) (mw (A:=X.A.in1) hh k2 i2 l2 A.n2 its2.toArray) s1 s2 s3 ⟨rfl,s4,p1⟩ ⟨s5,p2⟩ (.inl rfl) A.ap A.f1 A.f2 fin
  ·have h2:ys.length<=i:=by omega
   have e2:its2.toArray[i]?=none:=by simp;omega
   have hn1:i<its1.toArray.size:=by rw[Gw];omega
   exact iR (mw (A:=X.A.in1) hh k1 i1 l1 A.n1 its1.toArray) (tX (A:=X.A.in1) hh k2 i2 l2 its2.toArray i e2) s1 s2 s3 ⟨s4,p1⟩ ⟨rfl,s5,p2⟩ (.inr ⟨hn1,rfl⟩) A.ap A.f1 A.f2 fin
 self:=λ_ _ _ _ _ st h=>PJ st.1 h
def DN(K:yF)(ta:TA):TI:=λZ H R=>ta Z H λvs H1=>∃k1 k2 a1 a2 xs ys,vs=[.ref a1,.ref a2]/\SqK K H1 k1 a1 xs/\SqK K H1 k2 a2 ys/\R (Itz K k1 k2 a1 a2) H1
theorem BV{X:Cx}{a b:Expr}{ta:TA}{elts:List Expr}{k0:Nat}{p pos pt:Pos}(hg:Gl X "zip")(hm:X.mg "zip" = none)(ha:PA X [a,b] ta)(hn:aY [a,b]=true):PI X (.Tuple elts k0 pt) (.Call (.Name "zip" p) [a,b] [] pos) (DN X.K ta):=by
 intro Uq s Z H R I h;have hs1:bz a=false:=by
  cases q:bz a with
  | true=>rw[aY,q]at hn;cases hn
  | false=>rfl
 have hs2:bz b=false:=by
  cases q:bz b with
  | true=>rw[aY,hs1,aY,q]at hn;cases hn
  | false=>rfl
 refine Call_ (ic I hg hm boot_zip (HB (thn (ha pos Uq s Z H _ I h) λus s1 ⟨vs,H1,I1,r1,q1⟩=>?_) (ba hs1) (by rw[ba hs2];rfl)));obtain⟨k1,k2,l1,l2,xs,ys,e,hq1,hq2,q⟩:=q1;subst e;obtain⟨u,u',rfl,ru,ru'⟩:=l6 r1;cases ru;cases ru';obtain⟨its1,rv1,p1⟩:=I1.seqK hq1;obtain⟨its2,rv2,p2⟩:=I1.seqK hq2;have n1:l1<s1.heap.objs.size:=by obtain⟨o,e⟩:=p1.get;exact LI e
 have n2:l2<s1.heap.objs.size:=by obtain⟨o,e⟩:=p2.get;exact LI e
 refine rL p1 p2 λh1 hz hTI hTO it1 it2 hsz kk=>?_;refine PJ hz ?_;have m1:∀c:Nat,s1.heap.objs.size+c≠l1:=λc=>Iq (GP n1 (Hv _ c));have m2:∀c:Nat,s1.heap.objs.size+c≠l2:=λc=>Iq (GP n2 (Hv _ c));have N:∀{c d:Nat},c≠d->s1.heap.objs.size+c≠s1.heap.objs.size+d:=λh z=>h (Nat.add_left_cancel z);refine⟨s1.heap.objs.size+4,[s1.heap.objs.size+4,s1.heap.objs.size+2,s1.heap.objs.size+3,s1.heap.objs.size,s1.heap.objs.size+1],_,_,H1,rfl,I1.kept (t':=s1.toks) λb o e=>kk b o e,wF k1 k2 ⟨?_,?_,?_,?_,?_⟩,⟨hz,hTI,⟨_,_,hTO⟩,it1,it2⟩,λb hb=>?_,q⟩;refine⟨?_,?_,?_,?_,?_,?_,?_,?_,?_,?_⟩<;>first|exact m1 _|exact m2 _|exact m1 0|exact m2 0|exact GN n1|exact GN n2|exact λz=>absurd (show(_:Nat)=_ from z) (by omega)
 ·simp only[G4,Hb,or_false,not_or];refine⟨⟨?_,?_⟩,⟨?_,?_⟩,?_,?_⟩<;>first|exact m1 _|exact m2 _|exact m1 0|exact m2 0|exact GN n1|exact GN n2|exact λz=>absurd (show(_:Nat)=_ from z) (by omega)
 ·simp only[G4,Hb,or_false,not_or];refine⟨⟨?_,?_⟩,⟨?_,?_⟩,?_,?_⟩<;>first|exact m1 _|exact m2 _|exact m1 0|exact m2 0|exact GN n1|exact GN n2|exact λz=>absurd (show(_:Nat)=_ from z) (by omega)
 ·first|exact m1 _|exact m2 _|exact m1 0|exact m2 0|exact GN n1|exact GN n2|exact λz=>absurd (show(_:Nat)=_ from z) (by omega)
 ·first|exact LO (m2 1)|exact m1 _|exact m2 _|exact m1 0|exact m2 0|exact GN n1|exact GN n2|exact λz=>absurd (show(_:Nat)=_ from z) (by omega)
 ·have hb':s1.heap.objs.size<=b:=by
   simp only[G4,Hb,or_false]at hb;rcases hb with rfl|rfl|rfl|rfl|rfl<;>first|exact GC _|exact Hv _ _
  exact I1.fpOk hb' (I1.hok.fresh hb')
noncomputable def ny:T->Option (Bool×List I)
 | .im (.tup is)=>some (false,is)
 | .li is=>some (true,is)
 | _=>none
noncomputable def qd(is js:List I):List R:=(is.zip js).map λp=>⟨.ow,.im (.tup [p.1,p.2])⟩
@[irreducible] noncomputable def kY(a:MA):MI:=⟨λO=>match a.run O with
 | some ([r1,r2],O1)=>(match ny r1.t,ny r2.t with
  | some (_,is),some (_,js)=>some (([r1,r2],qd is js),O1)
  | _,_=>none)
 | _=>none,a.mu⟩
theorem jL{K:yF}{H:Hp}{kd:Bool}{is:List I}{v:V}:∀{t:T},Rpx K H t v->ny t=some (kd,is)->∃a xs,v=.ref a/\SqK K H kd a xs/\KS K H is xs
 | .im (.tup _),r,e=>by cases e;exact bA r
 | .li _,r,e=>by cases e;obtain⟨a,xs,h1,h2,h3⟩:=bE r;exact⟨a,xs,h1,.inl h2,h3⟩
 | .im .non,_,e=>by cases e
 | .im (.bl _),_,e=>by cases e
 | .im (.int _),_,e=>by cases e
 | .im (.str _),_,e=>by cases e
 | .im (.ls _),_,e=>by cases e
 | .im (.fd _ _),_,e=>by cases e
 | .tup _,_,e=>by cases e
 | .lst _,_,e=>by cases e
 | .di _,_,e=>by cases e
 | .dc _,_,e=>by cases e
 | .ins _ _,_,e=>by cases e
theorem Dm{Γ:Gm}{k1 k2:Bool}{a1 a2:Addr}{r1 r2:R}{is js:List I}(e1:ny r1.t=some (k1,is))(e2:ny r2.t=some (k2,js)):fW Γ (Itz Γ.K k1 k2 a1 a2) [.ref a1,.ref a2] [r1,r2] (qd is js):=λH O Z E S=>by
 replace S:Sim Γ H O Z (⟨none,.ref a1,r1⟩::⟨none,.ref a2,r2⟩::E):=S;have R1:Rpx Γ.K H r1.t (.ref a1):=S.rd (e:=⟨none,.ref a1,r1⟩) ymS;have R2:Rpx Γ.K H r2.t (.ref a2):=S.rd (e:=⟨none,.ref a2,r2⟩) (ymC _ ymS);obtain⟨b1,xs,ea,g1,g2⟩:=jL R1 e1;cases ea;obtain⟨b2,ys,ea,h1,h2⟩:=jL R2 e2;cases ea;refine⟨λi hi=>⟨xs,ys,g1,h1,?_⟩,λi r hr=>?_⟩
 ·rw[g2.length,h2.length];unfold qd at hi;rw[Gv,JB]at hi;omega
 ·obtain⟨p,hp,rfl⟩:=ay hr;obtain⟨hp1,hp2⟩:=HZ.mp hp;obtain⟨w1,hw1,rw1⟩:=g2.get hp1;obtain⟨w2,hw2,rw2⟩:=h2.get hp2;refine⟨⟨xs,ys,w1,w2,g1,h1,hw1,hw2⟩,λx H' y=>?_⟩;obtain⟨pp,x',y',hpp,rfl,rfl,hx,hy⟩:=y;have q1:=hx xs g1;rw[hw1]at q1;cases q1;have q2:=hy ys h1;rw[hw2]at q2;cases q2;exact S.fresh (New.tup hpp (.cons rw1 (.cons rw2 (by rw[KS]))))
theorem zc{K:yF}{ta:TA}{a:MA}(ha:eK K ta a):jQ K (DN K ta) (kY a):=by
 intro Γ H O Z E Rr srcs items O' hK hr S q;simp only[kY]at hr q;split at hr
 ·rename_i r1 r2 O1 e1;split at hr
  ·rename_i k1 is k2 js e2 e3;cases hr;refine ha Γ H O Z E _ _ _ hK e1 S λvs H1 hl S1=>?_;obtain⟨v1,v2,rfl⟩:∃v1 v2,vs=[v1,v2]:=by
    cases vs with
    | nil=>cases hl
    | cons v r=>cases r with
     | nil=>cases hl
     | cons w r=>cases r with
      | nil=>exact⟨v,w,rfl⟩
      | cons _ _=>cases hl
   have S2:Sim Γ H1 O' Z (⟨none,v1,r1⟩::⟨none,v2,r2⟩::ah a.mu E):=S1;have R1:Rpx Γ.K H1 r1.t v1:=S2.rd (e:=⟨none,v1,r1⟩) ymS;have R2:Rpx Γ.K H1 r2.t v2:=S2.rd (e:=⟨none,v2,r2⟩) (ymC _ ymS);obtain⟨a1,xs,rfl,g1,g2⟩:=jL R1 e2;obtain⟨a2,ys,rfl,h1,h2⟩:=jL R2 e3;subst hK;exact⟨k1,k2,a1,a2,xs,ys,rfl,g1,h1,q Γ rfl (λ_ _ _ _ S=>S) _ [.ref a1,.ref a2] H1 rfl S1 (Dm e2 e3)⟩
  ·cases hr
 ·cases hr
section
variable {ι : Type}{C:ι->Cx}{P:LM}{W:LU}{K:yF}{mg:Str->Option LB}{base:Heap}{k:Nat}{a b:Expr}{ms:MA}{pos:Pos}
theorem Ck{elts:List Expr}{k0:Nat}{p pt:Pos}(ck:CK C P W K mg base k)(T:Bi mg)(ha:QA C K [a,b] ms)(hg:∀i,Gl (C i) "zip" :=by intro _;rfl):QI C K (.Tuple elts k0 pt) (.Call (.Name "zip" p) [a,b] [] pos) (kY ms):=by
 obtain⟨ta,q,n,r⟩:=ha;refine⟨_,λi=>by have:=BV (X:=C i) (elts:=elts) (k0:=k0) (p:=p) (pos:=pos) (pt:=pt) (hg i) (by rw[ck.mg i];exact T.b_zip) (q i) n;rw[ck.kk i]at this;exact this,zc r⟩
end
theorem Dq{ms:MA}{O:Rho}{QI':List R->List R->Rho->Prop}(h:WA ms O λrs O1=>∃r1 r2 k1 k2 is js,rs=[r1,r2]/\ny r1.t=some (k1,is)/\ny r2.t=some (k2,js)/\QI' [r1,r2] (qd is js) O1):WI (kY ms) O QI':=by
 obtain⟨rs,O1,e1,r1,r2,k1,k2,is,js,rfl,e2,e3,q⟩:=h;exact⟨_,_,_,by simp only[kY,e1,e2,e3],q⟩
section
variable {S α:Type}{O:Rho}{m:ME}{ms:MA}{g:MG}{s1:MS}{QE':R->Rho->Prop}{Q:Fl->Rho->Prop}{fr:List (Option Nat)}
theorem iX(st:S->Rho)(emb : α->I)(P:Nat->S->List α->Prop) (h:WA ms O λrs O1=>∃r1 r2 k1 k2 is js,rs=[r1,r2]/\ny r1.t=some (k1,is)/\ny r2.t=some (k2,js)/\min is.length js.length<sizeLine/\(ff fr O1.length&&eU (g.mu++([]++m.mu)) fr.length&&[r1,r2].all (ax (muF fr (g.mu++([]++m.mu)))))=true/\∃s0,O1=st s0/\P 0 s0 [] /\
  (∀(j:Nat) x y s l,is[j]?=some x->js[j]?=some y->P j s l->WG g ⟨.ow,.im (.tup [x,y])⟩ (inR fr (st s)) λO1=>WE m O1 λr O3=>∃x s',r=⟨.ow,.im (emb x)⟩/\dw fr (g.mu++([]++m.mu)) O3 (st s)=st s'/\P (j+1) s' (l++[x])) /\
  ∀s l,P (min is.length js.length) s l->QE' ⟨.ow,.li (l.map emb)⟩ (st s)):WE (aH fr (kY ms) g mYes m) O QE':=by unhygienic
 obtain⟨rs,O1,e1,r1,r2,k1,k2,is,js,rfl,e2,e3,hl,al,s0,rfl,h0,hs,he⟩:=h;refine kO (Dq ⟨_,_,e1,r1,r2,k1,k2,is,js,rfl,e2,e3,al,by unfold qd;rw[Gv,JB];exact hl,λj acc O=>∃s l,acc=l.map (λx=>T.im (emb x))/\O=st s/\P j s l,⟨s0,[],rfl,rfl,h0⟩,?_,?_⟩)
 ·rintro j r acc O hj ⟨s,l,rfl,rfl,hP⟩;obtain⟨p,hp,rfl⟩:=ay hj;obtain⟨hp1,hp2⟩:=HZ.mp hp;refine WG.mono (hs j p.1 p.2 s l hp1 hp2 hP) λO1 q=>jm ⟨λ_=>q.mono λr O3 ⟨x,s',e,e',hP'⟩=>⟨_,e,s',l++[x],by simp,e',hP'⟩,λz=>by cases z⟩
 ·rintro acc O ⟨s,l,rfl,rfl,hP⟩;rw[dD];refine he s l ?_;have:(qd is js).length=min is.length js.length:=by unfold qd;rw[Gv,JB]
  rw[<-this];exact hP
end
theorem uD{QT1:T->Prop}{ns:List String}{t:T}{n:String}{b:Bool}(h:tyN t=some n)(hb:ns.any (j5 n)=b)(q:QT1 (.im (.bl b))):W1 (fg ns t) QT1:=Ed h (by rw[hb];exact q)
theorem BB{a:Bool}{QT1:T->Prop}(q:QT1 (.im (.bl false))):W1 (neT (.im (.bl a)) (.im (.bl a))) QT1:=w1 (x:=.im (.bl false)) (by unhygienic (cases a<;>rfl)) q
end L2
namespace L2
open PySem
noncomputable section
noncomputable def gz(rec:List T->Option T):MS:=(ao (mIf (aI (mUn (fg ["tuple","list"]) (af 1))) (ao (mIf (mOr (aI (mOp neT (mUn (fg ["tuple"]) (af 0)) (mUn (fg ["tuple"]) (af 1)))) (aI (mOp neT (mUn (fg ["list"]) (af 0)) (mUn (fg ["list"]) (af 1))))) (aX (mC (.bl false))) mNext)
  (aX (jr (mOp eqT (mB cE (aa 0 mNil)) (mB cE (aa 1 mNil))) (mB o3 (ac (aH [none,none,none,none] (kY (aa 0 (aa 1 mNil))) (bq (au (ae 2) (au (ae 3) mGNil))) mYes (mB rec (aa 2 (aa 3 mNil)))) mNil))))) mNext)
  (ao (mIf (mOr (aI (mOp neT (mUn (fg ["bool"]) (af 0)) (mUn (fg ["bool"]) (af 1)))) (aI (mOp neT (mUn (fg ["str"]) (af 0)) (mUn (fg ["str"]) (af 1))))) (aX (mC (.bl false))) mNext)
  (aX (jr (lH (mUn (fg ["tuple","list"]) (af 0))) (mOp eqT (af 0) (af 1))))))
noncomputable def dE:Nat->List T->Option T
 | 0=>λts=>if ts.length=2 then cN i8 2 ts else none
 | n+1=>λts=>if ts.length=2 then cN (gz (dE n)) 2 ts else none
end
end L2
namespace L2
open PySem PySem.Spec PyProof.Rows
section
variable {κ : Type}[DecidableEq κ]
noncomputable def lg(kvs:List (κ×V)) (k : κ):Option V:=(kvs.find? λkv=>decide (kv.1=k)).map (·.2)
theorem kN{p : κ×V}{r:List (κ×V)}{k : κ}(e:p.1=k):lg (p::r) k=some p.2:=by simp[lg,HR,e]
theorem kM{p : κ×V}{r:List (κ×V)}{k : κ}(e:¬ p.1=k):lg (p::r) k=lg r k:=by simp[lg,HR,e]
theorem KV.val{kvs:List (κ×V)}{vs:List (κ×LB)}(r:KV kvs vs)(k : κ):RelO (lg kvs k) (N1 vs k):=by
 unfold KV at r
 induction r with
 | nil=>exact M6
 | @cons p q ps qs h t ih=>
  obtain⟨h1,h2⟩:=h;by_cases e:p.1=k
  ·have e':q.1=k:=h1.symm.trans e;have b:N1 (q::qs) k=some q.2:=by simp[N1,HR,e']
   rw[kN e,b];exact h2
  ·have e':¬ q.1=k:=λz=>e (h1.trans z);have b:N1 (q::qs) k=N1 qs k:=by simp[N1,HR,e']
   rw[kM e,b];exact ih
end
theorem ui{P:LM}{w:LU}{k:Key}{u:LB}(r:RelV (kV k) u):(bD P w).is k u=true:=by
 cases k with
 | inl i=>obtain⟨t,e⟩:=(show∃t,u=Pv i t from r);subst e;exact og P w i t
 | inr x=>obtain⟨t,e⟩:=(show∃t,u=Pw x t from r);subst e;exact oh P w x t
section
variable {P:LM}{w:LU}{H:Hp}{h:Heap}{a:Addr}
theorem Fc{u:HO}(ok:HOk P w H h)(e:Rd H a u):K0 P w H h a u:=e.ok ok
theorem nO{kvs:List (Key×V)}(ok:HOk P w H h)(e:Rd H a (.dK kvs)):kvs.length<=sizeLine/\(a==NI)=false/\∃vs,KV kvs vs/\h.DictOf (bD P w) a vs:=
 show K0 P w H h a (.dK kvs)from Fc ok e
end
def Lr(H:Hp)(a:Addr)(y:V)(r:Option V):Prop:=∃kvs k,Rd H a (.dK kvs)/\y=kV k/\r=lg kvs k
theorem Lr.k{H:Hp}{a:Addr}{kvs:List (Key×V)}{k:Key}(e:H a=some (.dK kvs)):Lr H a (kV k) (lg kvs k):=⟨kvs,k,.inl e,rfl,rfl⟩
section
variable {X:Cx}{Uq:List (Addr×Obj)}{Z:St}{H:Hp}{s:LD}{a:Addr}{y v:V}{u r:LB}{o:Option V}{A:LQ}{E:LB->LD->Prop}
theorem Inv.big(I:Inv X Uq Z H s):NI<s.heap.objs.size:=by
 have h:Md<s.heap.objs.size:=(I.mod.glob.keeps I.bk).lt;exact Ke (by decide) h
theorem rO{Q:LB->LD->Prop}(hu:A.units+1<Mm)(I:Inv X Uq Z H s)(g:Lr H a y (some v))(ry:RelV y u)(h:∀w' s',Inv X Uq Z H s'->RelV v w'->Q w' s') :
  LH (LL X.prog X.w) A (NF (.ref a) u) Q E s:=by
 obtain⟨kvs,k,e,ey,l⟩:=g;subst ey;obtain⟨z,hd,vs,rel,dd⟩:=nO I.hok e;obtain⟨w',hw,rw'⟩:=RelO.some_of (v:=v) (o:=N1 vs k) (by rw[l];exact rel.val k);exact wpAny_getItem_of (ui ry) dd.mapOf hw (h w' _ (I.tok _) rw')
end
def xb(i:Expr):Prop:=∀ov iv,OE i false ov iv=operate [ov,iv] (NF ov iv)
theorem zi{prog:LM}{w:LU}{A:LQ}{E:LB->LD->Prop}{s:LD}{env:Env}{value slice:Expr}{pos:Pos}{T id:String}{Q:LB->LD->Prop}
  (hl:Pa (.type T) "__getitem__" = pure (some (.builtin id))) (hs:xb slice)
  (h:LH (LL prog w) A (eval value env) (λo s₁=>LH (LL prog w) A (eval slice env) (λi s₂=>s₂.TypeIs o T/\LH (LL prog w) A (NF o i) Q E s₂) E s₁) E s) :
  LH (LL prog w) A (eval (.Subscript value slice pos) env) Q E s:=by
 refine Oq (Mr h (λo s₁ h₁=>Mr h₁ (λi s₂ h₂=>?_) λ_ _ x=>x) λ_ _ x=>x);obtain⟨hT,h₂⟩:=h₂;unfold Nr;refine LA ?_;rw[getitemInPython_of_ne hT.not_modules];refine LA (PU hT hl ?_);have fin:LH (LL prog w) A (OE slice false o i) (λr s₃=>LH (LL prog w) A (letTemporaryGo value o r >>= λ_=>pure r) Q E s₃) E s₂:=by
  rw[hs o i];exact wpAny_operating (Mr h₂ (λr s₃ h₃=>LA (wpAny_letTemporaryGo (LF h₃))) λ_ _ x=>x)
 first
  | exact LF (LA fin)
  | exact LA (LF (LA fin))
  | exact LA fin
theorem nN{X:Cx}{Uq:List (Addr×Obj)}{Z:St}{H:Hp}{s:LD}{a:Addr}{y:V}{o:Option V}(I:Inv X Uq Z H s)(g:Lr H a y o):s.TypeIs (.ref a) "dict" :=by
 obtain⟨kvs,k,e,_,_⟩:=g;obtain⟨_,_,vs,_,dd⟩:=nO I.hok e;exact dd.typeIs
def Fi(td ty:TE):TE:=λZ H Q=>td Z H λx H1=>ty Z H1 λy H2=>∃a v,x=.ref a/\Lr H2 a y (some v)/\Q v H2
section
variable {X:Cx}{o i e value:Expr}{pos pos' tpos:Pos}{td ty tv:TE}
theorem qQ(hu:X.A.units+1<Mm)(ho:PE X o td)(hi:PE X i ty)(hs:xb i):PE X (.Subscript o i pos) (Fi td ty):=by
 intro Uq s Z H Q I h;refine zi PySem.F.slot_dict_getitem.lookup hs (thn (ho Uq s Z H _ I h) λu s1 ⟨x,H1,I1,rx,q1⟩=>thn (hi Uq s1 Z H1 _ I1 q1) λiv s2 ⟨y,H2,I2,ry,a,v,ex,g,q2⟩=>?_);subst ex;obtain rfl:u=Mq a:=rx;exact⟨nN I2 g,rO hu I2 g ry λw' s3 I3 rw'=>⟨v,H2,I3,rw',q2⟩⟩
end
theorem tW{P:LM}{w:LU}{H:Hp}(h:Heap)(hb:NI<h.objs.size):K0 P w H (h.push {cls:=.type "dict",data:=.dict #[]}) h.objs.size (.dK []):=
 ⟨Ie _,beq_eq_false_iff_ne.mpr (LO (GN hb)),[],.nil,PZ h⟩
def wz:TE:=λ_ H Q=>∀p,H p=none->Q (.ref p) (upd H p (.dK []))
section
variable {X:Cx}{pos:Pos}
theorem uL:PE X (.Dict [] [] pos) wz:=λUq s Z H Q I h=>
 wpAny_Dict_empty ⟨.ref s.heap.objs.size,_,I.laid (a:=s.heap.objs.size) (o:=.dK []) (t':=s.toks) (λ_ _ q=>LC _ q) (GC _) (tW s.heap I.big),rfl,h _ (I.hok.fresh (GC _))⟩
end
theorem kX:Pa (.type "tuple") "keys" = pure none:=P0 (by decide +kernel)
theorem mR:Pa (.type "list") "keys" = pure none:=P0 (by decide +kernel)
section
variable {prog:LM}{w:LU}{A:LQ}{E:LB->LD->Prop}{s:LD}
theorem jy{a:Addr}{o:Obj}{xs:Array LB}{k:Nat}{Q:Option LB->LD->Prop}(hx:s.heap.get? a=some o)(hc:o.cls=.type "tuple" /\ o.dict=none)(hdat:o.data=.seq xs k)(hA:A.handled=none)
  (h:∀h' tk,(∀b ob,s.heap.get? b=some ob->h'.get? b=some ob)->Q none {s with heap:=h',toks:=tk}):LH (LL prog w) A (Qm (.ref a) "keys") Q E s:=by
 obtain⟨c,dct,dat,sl⟩:=o;obtain⟨hc,hd⟩:=hc;simp only at hc hdat hd;subst hc hdat hd;obtain⟨hp,g,d,tk,os⟩:=s;have hT:∀tk',(⟨hp,g,d,tk',os⟩:LD).TypeIs (.ref a) "tuple" :=λ_=>⟨_,hx,rfl⟩;have f1:=Pf;have f3:=MY.lookup;have f4:=MY.bind (.ref a);have f5:=am_tuple_getattr_none;unfold Qm getAttrBy? getAttrBy;repeat (any_goals (first|assumption|exact hT _|((with_reducible show LH _ _ (call (N8 "tuple.__getattribute__") _ _) _ _ _);refine Ms MY (hT _) am_entry_tuple_getattribute (F.args_tuple_getattribute_2 _ _) (meets_getattribute_miss_tuple a xs k sl (LW "keys") _ kX (by decide +kernel)) ⟨hx,hA,λh' tk' e hx'=>?_⟩)|wp_step))
 obtain⟨t',u',he⟩:=hx'.there;show LH _ _ (M7 _ _ _ _ _ _ _) _ _ _;unfold M7;repeat (any_goals (first|assumption|wp_step))
 all_goals (try exact h _ _ hx'.keeps)
theorem j9{a:Addr}{o:Obj}{xs:Array LB}{k:Nat}{Q:Option LB->LD->Prop}(hx:s.heap.get? a=some o)(hc:o.cls=.type "list" /\ o.dict=none)(hdat:o.data=.seq xs k)(hA:A.handled=none)
  (h:∀h' tk,(∀b ob,s.heap.get? b=some ob->h'.get? b=some ob)->Q none {s with heap:=h',toks:=tk}):LH (LL prog w) A (Qm (.ref a) "keys") Q E s:=by
 obtain⟨c,dct,dat,sl⟩:=o;obtain⟨hc,hd⟩:=hc;simp only at hc hdat hd;subst hc hdat hd;obtain⟨hp,g,d,tk,os⟩:=s;have hT:∀tk',(⟨hp,g,d,tk',os⟩:LD).TypeIs (.ref a) "list" :=λ_=>⟨_,hx,rfl⟩;have f1:=Pf;have f3:=M3.lookup;have f4:=M3.bind (.ref a);have f5:=am_list_getattr_none;unfold Qm getAttrBy? getAttrBy;repeat (any_goals (first|assumption|exact hT _|((with_reducible show LH _ _ (call (N8 "list.__getattribute__") _ _) _ _ _);refine Ms M3 (hT _) am_entry_list_getattribute (F.args_list_getattribute_2 _ _) (meets_getattribute_miss_list a xs k sl (LW "keys") _ mR (by decide +kernel)) ⟨hx,hA,λh' tk' e hx'=>?_⟩)|wp_step))
 obtain⟨t',u',he⟩:=hx'.there;show LH _ _ (M7 _ _ _ _ _ _ _) _ _ _;unfold M7;repeat (any_goals (first|assumption|wp_step))
 all_goals (try exact h _ _ hx'.keeps)
end
theorem dW:entryFor table "dict.update.loop" = some LJ.«dict.update.loop»:=entryFor_of_tree (by rfl')
theorem ef:plainId "dict.update.loop" = true:=by decide +kernel
def ItK(kd:Bool)(h:Heap)(it l:Addr)(k:Nat):Prop:=match kd with|true=>h.IsListIter it l k|false=>h.IsTupleIter it l k
def SeK(kd:Bool)(h:Heap)(l:Addr)(els:Array LB):Prop:=match kd with|true=>h.IsList l els|false=>h.IsTuple l els
noncomputable def sto(ps:List (Key×LB)) (kvs:List (Key×LB)):List (Key×LB):=ps.foldl (λd p=>OO d p.1 p.2) kvs
theorem pU{kvs:List (Key×LB)}{k:Key}{v:LB}:(OO kvs k v).length<=kvs.length+1:=by
 unfold OO;split;rw[Gv];omega;simp
section
variable {prog:LM}{w:LU}
def Dx(w:LU)(prog:LM)(G:Heap)(d it:Addr)(x:LB)(p:Key×LB):Prop:=∃q key,x=.ref q/\q≠d/\q≠it/\(bD prog w).is p.1 key=true/\∃o n,G.get? q=some o/\o.cls=.type "tuple" /\ o.data=.seq #[key,p.2] n
theorem wI{kd:Bool}{d it l:Addr}{els:List LB}{G:Heap}{R:QM->LD->Prop}(n1:d≠it)(n2:d≠l)(n3:it≠l)(hl:SeK kd G l els.toArray) :
  ∀(m:Nat) {A:LQ} (i:Nat) (ps:List (Key×LB)) (kvs:List (Key×LB)) (s:LD),A.handled=none->m+i=els.length->Paired (Dx w prog G d it) (els.drop i) ps->ItK kd s.heap it l i->s.heap.DictOf (bD prog w) d kvs->kvs.length+m<=sizeLine ->
   (∀b o,b≠d->b≠it->G.get? b=some o->s.heap.get? b=some o) ->
   (∀h' tk,(∀b o,b≠d->b≠it->G.get? b=some o->h'.get? b=some o)->h'.DictOf (bD prog w) d (sto ps kvs)->R (.ok (.ret .none)) {s with heap:=h',toks:=tk}) ->
   Np (LL prog w) A (.builtin "dict.update.loop" ⟨[.ref d,.ref it,Ny i,.none],[]⟩) R s:=by
 intro m
 induction m with
 | zero=>
  intro A i ps kvs s hA hm hp hit hd hz hk q;rw[Hk]at hm;subst hm;rw[Jn]at hp;cases hp;refine P3 dW ?_;rw[OP ef _];show LH _ _ (OB (.ref it) >>= _) _ _ _;have fin:∀h',QJ it s.heap h'->R (.ok (.ret .none)) {s with heap:=h'}:=λh' eb=>
   q h' s.toks (λb o nb1 nb2 e=>eb b o nb2 (hk b o nb1 nb2 e)) (hd.extBut eb n1)
  cases kd with
  | true=>
   obtain⟨ol,e1,e2⟩:=hl;exact LA (Oy hA hit ⟨ol,hk _ _ (LO n2) (LO n3) e1,e2⟩ (by simp) λh' eb=>LA (LF (LF (fin h' eb))))
  | false=>
   obtain⟨ol,e1,e2⟩:=hl;exact LA (Op hA hit ⟨ol,hk _ _ (LO n2) (LO n3) e1,e2⟩ (by simp) λh' eb=>LA (LF (LF (fin h' eb))))
 | succ m ih=>
  intro A i ps kvs s hA hm hp hit hd hz hk q;have hi:i<els.length:=by omega
  rw[Ia hi]at hp;cases hp with
  | @cons x p _ ps' hx hp'=>
  obtain⟨a,key,ex,na1,na2,hkey,o,n,ho,hc,hdat⟩:=hx;have hx':els[i]?=some (.ref a):=by rw[GR hi,ex]
  refine P3 dW ?_;rw[OP ef _];show LH _ _ (OB (.ref it) >>= _) _ _ _;have go:∀h',ItK kd h' it l (i+1)->LY it s.heap h'->LH (LL prog w) A.in1 (Mo [Mq a] (do
    let pair <-(Ou (.ref a)).tryCatch λe=>do
     if !(<-isInstance e (.type "TypeError"))then throw e
     rule "dict.update.element-no-sequence"
     raiseError "TypeError" s!"cannot convert dictionary update sequence element #{(i : Int)} to a sequence"
    match pair with
    | [k,v]=>Mo [k,v] (dictSet d k v)
    | l=>
     rule "dict.update.element-length"
     raiseError "ValueError" s!"dictionary update sequence element #{(i : Int)} has length {l.length}; 2 is required") >>= λ_=>again (.builtin "dict.update.loop" ⟨[.ref d,.ref it,Ny ((i:Int)+1),.none],[]⟩))
    (λfin s'=>match fin with|.done f=>R (.ok f) s'|.again c'=>c'.quiet=true/\Np (LL prog w) A c' R s') (λe s'=>R (.error e) s') {s with heap:=h'}:=λh' hit' sb=>by
   have ho':h'.get? a=some o:=(sb.2 a na2).trans (hk a o na1 na2 ho);refine LA (Mj (LA (wpAny_tryCatch ?_)));unfold Ou;refine LA (MV (T:="tuple") ⟨o,ho',hc⟩ ?_);rw[if_pos (by rfl)];refine LA (Mf ho' hdat (LF ?_));show LH _ _ (Mo [key,p.2] (dictSet d key p.2)) _ _ _;refine Mj (wpAny_dictSet_pairs (hsz:=by omega) hkey (hd.sameBut sb n1) λh2 hd2 sb2=>?_);refine LF ⟨NR _ (by decide +kernel),?_⟩;have hit2:ItK kd h2 it l (i+1):=by
    cases kd with
    | true=>obtain⟨oi,e1,e2⟩:=hit';exact⟨oi,(sb2.2 it (LO n1)).trans e1,e2⟩
    | false=>obtain⟨oi,e1,e2⟩:=hit';exact⟨oi,(sb2.2 it (LO n1)).trans e1,e2⟩
   have:=ih (A:=A) (i+1) ps' _ {s with heap:=h2,toks:=s.toks+1} hA (by omega) hp' hit2 hd2 (by have:=pU (kvs:=kvs) (k:=p.1) (v:=p.2);omega) (λb ob nb1 nb2 e=>(sb2.2 b nb1).trans ((sb.2 b nb2).trans (hk b ob nb1 nb2 e))) λh3 tk k3 d3=>q h3 tk k3 d3;exact this
  cases kd with
  | true=>
   obtain⟨ol,e1,e2⟩:=hl;exact LA (Oo hit ⟨ol,hk _ _ (LO n2) (LO n3) e1,e2⟩ (x:=.ref a) (by simpa using hx') λh' hit' sb=>go h' hit' sb)
  | false=>
   obtain⟨ol,e1,e2⟩:=hl;exact LA (Oc hit ⟨ol,hk _ _ (LO n2) (LO n3) e1,e2⟩ (x:=.ref a) (by simpa using hx') λh' hit' sb=>go h' hit' sb)
end
theorem lW:∀(ps kvs:List (Key×LB)),((kvs++ps).map (·.1)).Nodup->sto ps kvs=kvs++ps
 | [],kvs,_=>by simp[sto]
 | p::ps,kvs,h=>by
  have hn:kvs.any (λkv=>decide (kv.1=p.1))=false:=by
   rw[List.any_eq_false];intro kv hkv;rw[GA,Gy]at h;have:=h.2.2 kv.1 (GB.mpr ⟨kv,hkv,rfl⟩) p.1 (by simp);simpa using this
  have e:OO kvs p.1 p.2=kvs++[p]:=by unfold OO;rw[hn];rfl
  have:=lW ps (kvs++[p]) (by rw[GK];exact h);rw[show sto (p::ps) kvs=sto ps (OO kvs p.1 p.2)from rfl,e,this,GK];rfl
section
variable {X:Cx}{Uq:List (Addr×Obj)}{Z:St}{H:Hp}{s:LD}{a:Addr}{xs:List V}
theorem Inv.tupleN(I:Inv X Uq Z H s)(h:SqT X.K H a xs):∃its:List LB,Vals xs its/\La s.heap a its.toArray/\xs.length<=sizeLine:=by
 rcases h with h|⟨o,its,n,hk,hc,hs,hz,r⟩
 ·obtain⟨z,its,r,p⟩:=h.ok I.hok;exact⟨its,r,p,z⟩
 ·refine⟨its.toList,r,⟨o,I.kIn a o hk,hc,n,by simpa using hs⟩,?_⟩;have e:=r.length;simp only[HD]at e;omega
end
def PrV(K:yF)(H:Hp)(y:V)(q:Key×V):Prop:=∃t,y=.ref t/\SqT K H t [kV q.1,q.2]
def qV(K:yF):List V->Hp->VK->Prop:=λxs H Q=>∃p ys ps,xs=[.ref p]/\(SqL K H p ys\/SqT K H p ys)/\Paired (PrV K H) ys ps/\(ps.map (·.1)).Nodup/\∀l,H l=none->Q (.ref l) (upd H l (.dK ps))
section
variable {X:Cx}{Uq:List (Addr×Obj)}{Z:St}{H:Hp}{s:LD}
theorem vo(I:Inv X Uq Z H s){G:Heap}(hG:∀b o,s.heap.get? b=some o->G.get? b=some o){d it:Addr}(hd:s.heap.objs.size<=d)(hi:s.heap.objs.size<=it):∀{ys:List V} {ps:List (Key×V)} {us:List LB},Paired (PrV X.K H) ys ps->Vals ys us ->
  ∃qs:List (Key×LB),Paired (Dx X.w X.prog G d it) us qs/\KV ps qs
 | _,_,_,.nil,.nil=>⟨[],.nil,.nil⟩
 | _,_,_,.cons (b:=p) ⟨t,e,h⟩ hp,.cons (b:=u) r rs=>by
  obtain⟨qs,h1,h2⟩:=vo I hG hd hi hp rs;subst e;have eu:u=Mq t:=r;obtain⟨its,r1,⟨o,e1,e2,n,e3⟩,_⟩:=I.tupleN h;cases r1 with
  | cons r1 r2=>cases r2 with
   | cons r2 r3=>
    cases r3;have lt:=LI e1;exact⟨(p.1,_)::qs,.cons ⟨t,_,eu,GN (GP lt hd),GN (GP lt hi),ui r1,o,n,hG _ _ e1,e2.1,e3⟩ h1,.cons ⟨rfl,r2⟩ h2⟩
theorem mO{ps:List (Key×V)}{qs:List (Key×LB)}(h:KV ps qs):ps.map (·.1)=qs.map (·.1):=by
 induction h with
 | nil=>rfl
 | cons h _ ih=>rw[Gs,Gs,h.1,ih]
theorem mf(hc:X.calm=true):K4 X (.type "dict") (qV X.K):=by
 intro Uq s Z H xs us Q I r h;obtain⟨p,ys,ps,rfl,hq,hp,hn,q⟩:=h;obtain⟨u,rfl,rx⟩:=gv r;cases rx;have hA:=I.ok.hd hc;have src:∃(kd:Bool) (els:List LB) (o:Obj) (n:Nat),s.heap.get? p=some o/\(o.cls=.type (if kd then "list" else "tuple")/\o.dict=none)/\o.data=.seq els.toArray n/\Vals ys els/\ys.length<=sizeLine:=by
  rcases hq with hq|hq
  ·obtain⟨its,r',⟨o,n,e1,e2,e3,e4⟩,hz⟩:=I.list hq;exact⟨true,its,o,n,e1,⟨e2,e3⟩,e4,r',hz⟩
  ·obtain⟨its,r',⟨o,e1,e2,n,e3⟩,hz⟩:=I.tupleN hq;exact⟨false,its,o,n,e1,e2,e3,r',hz⟩
 obtain⟨kd,els,o,n,e1,e2,e3,rv,hz⟩:=src;have hlen:ys.length=els.length:=rv.length;refine callType_codes (Q₁:=λobj s₁=>obj=.ref s.heap.objs.size/\s₁={s with heap:=s.heap.push {cls:=.type "dict",data:=.dict #[]}}) F.kt_called_dict (F.kt_typeCall_dict_1 _) F.entry_dict_init (kt_code_dict_new _ ⟨rfl,rfl⟩) ?_;rintro obj s₁ ⟨rfl,rfl⟩;have hnew:(s.heap.push {cls:=.type "dict",data:=.dict #[]}).DictOf (bD X.prog X.w) s.heap.objs.size []:=PZ s.heap;have k1:∀b ob,s.heap.get? b=some ob->(s.heap.push {cls:=.type "dict",data:=.dict #[]}).get? b=some ob:=λb ob e=>LC _ e;have sz1:(s.heap.push {cls:=.type "dict",data:=.dict #[]}).objs.size=s.heap.objs.size+1:=Mg _ _;generalize s.heap.push {cls:=.type "dict",data:=.dict #[]}=h1 at hnew k1 sz1|-;refine⟨hnew.typeIs,F.args_dict_init_2 _ _,?_⟩;unfold LJ.«dict.__init__»;refine LA ?_;unfold Qo;refine LA (wpAny_notOrdered_dict hnew.typeIs ?_);show LH _ _ (pure (s.heap.objs.size,[Mq p])) _ _ _;refine LF ?_;show LH _ _ (Ol "dict.__init__" s.heap.objs.size (.ref p) [] .none) _ _ _;unfold Ol;have hh:X.A.in1.in1.handled=none:=hA;have last:∀(h2:Heap) (tk:Nat) (it:Addr),(∀b ob,h1.get? b=some ob->h2.get? b=some ob)->s.heap.objs.size<it->ItK kd h2 it p 0 ->
   Np (LL X.prog X.w) X.A.in1 (.builtin "dict.update.loop" ⟨[.ref s.heap.objs.size,.ref it,Ny 0,.none],[]⟩) (wants (λr s₂=>r=.none/\EP X Uq Z Q (.ref s.heap.objs.size) s₂) X.xe) {s with heap:=h2,toks:=tk}:=by
  intro h2 tk it k2 hit hI;obtain⟨qs,p1,p2⟩:=vo I (G:=h2) (λb ob e=>k2 b ob (k1 b ob e)) (d:=s.heap.objs.size) (it:=it) (GC _) (Jq hit) hp rv;have lp:=LI e1;have sl:SeK kd h2 p els.toArray:=by
   cases kd with
   | true=>exact⟨o,k2 _ _ (k1 _ _ e1),e2.1,n,e3⟩
   | false=>exact⟨o,k2 _ _ (k1 _ _ e1),e2.1,n,e3⟩
  refine wI (G:=h2) (kd:=kd) (els:=els) (l:=p) (GN hit) (Iq lp) (Iq (Ke lp hit)) sl els.length 0 qs [] _ hh (by omega) (by simpa using p1) hI ?_ (by simp;omega) (λ_ _ _ _ e=>e) λh3 tk3 k3 d3=>?_
  ·obtain⟨od,es,ep,f1,f2⟩:=hnew;exact⟨od,es,ep,k2 _ _ f1,f2⟩
  ·rw[lW _ _ (by rw[Hn,<-mO p2];exact hn),Hn]at d3;refine⟨rfl,.ref s.heap.objs.size,_,I.laid (t':=tk3) (λb ob e=>?_) (GC _) (show K0 X.prog X.w _ h3 _ (.dK ps)from⟨?_,?_,qs,p2,d3⟩),rfl,q _ (I.hok.fresh (GC _))⟩
   ·have lb:=LI e;exact k3 b ob (GN lb) (GN (Ke lb hit)) (k2 b ob (k1 b ob e))
   ·have:=hp.length;omega
   ·exact beq_eq_false_iff_ne.mpr (LO (GN I.big))
 cases kd with
 | true=>
  refine LA (MV (T:="list") ⟨o,k1 _ _ e1,e2.1⟩ ?_);rw[if_pos (by decide)];refine LA (j9 (k1 _ _ e1) e2 e3 hh λh2 tk k2=>?_);rw[if_pos (by rfl)];refine LA (M4 (LA (Nc ⟨o,k2 _ _ (k1 _ _ e1),e2.1,n,e3⟩ ?_)));refine LF ⟨NR _ (by decide +kernel),?_⟩;exact last _ tk _ (λb ob e=>LC _ (k2 b ob e)) (by obtain⟨_,_,_,f1,_⟩:=hnew;exact LI (k2 _ _ f1)) ⟨_,LK _ rfl,rfl,rfl⟩
 | false=>
  refine LA (MV (T:="tuple") ⟨o,k1 _ _ e1,e2.1⟩ ?_);rw[if_pos (by decide)];refine LA (jy (k1 _ _ e1) e2 e3 hh λh2 tk k2=>?_);rw[if_pos (by rfl)];refine LA (M4 (LA (NK ⟨o,k2 _ _ (k1 _ _ e1),e2.1,n,e3⟩ ?_)));refine LF ⟨NR _ (by decide +kernel),?_⟩;exact last _ tk _ (λb ob e=>LC _ (k2 b ob e)) (by obtain⟨_,_,_,f1,_⟩:=hnew;exact LI (k2 _ _ f1)) ⟨_,LK _ rfl,rfl,rfl⟩
end
noncomputable def mN(i:I):Option Key:=match i with
 | .int n=>some (.inl n)
 | .str x=>some (.inr x)
 | _=>none
noncomputable def pr1(i:I):Option (Key×I):=match i with
 | .tup is=>(match is with
  | []=>none
  | k::r=>(match r with
   | []=>none
   | v::r2=>(match r2 with
    | []=>(mN k).map λq=>(q,v)
    | _::_=>none)))
 | _=>none
noncomputable def oA:List I->Option (List (Key×I))
 | []=>some []
 | i::is=>match pr1 i with
  | some p=>(oA is).map (p :: ·)
  | none=>none
noncomputable def pf(is:List I):Option T:=match oA is with
 | some l=>if(l.map (·.1)).Nodup then some (.di (l.map λp=>(bY p.1,p.2)))else none
 | none=>none
noncomputable def Ff(g:List I->Option T) (t:T):Option T:=match t with
 | .im i=>(match i with
  | .tup is=>g is
  | _=>none)
 | .li is=>g is
 | _=>none
@[irreducible] noncomputable def jW:List T->Option T:=l1 (Ff pf)
section
variable {K:yF}{H:Hp}
theorem gy{i:I}{q:Key}(e:mN i=some q):i=bY q:=by
 unfold mN at e;split at e<;>cases e<;>rfl
theorem jG{i:I}{q:Key}{x:V}(e:mN i=some q)(r:RpI K H i x):x=kV q:=by
 rw[gy e]at r;cases q<;>(rw[bY,RpI]at r;exact r)
theorem BW{i:I}{p:Key×I}{x:V}(e:pr1 i=some p)(r:RpI K H i x):∃w,PrV K H x (p.1,w)/\RpI K H p.2 w:=by
 unfold pr1 at e;split at e
 ·split at e;cases e
  ·split at e;cases e
   ·split at e
    ·rename_i k _ v _ _;obtain⟨q,e1,e2⟩:=Hg.mp e;cases e2;rw[RpI]at r;obtain⟨a,xs,rfl,h1,h2⟩:=r;rw[KS]at h2;obtain⟨y,r2,rfl,g1,h2⟩:=h2;rw[KS]at h2;obtain⟨z,r3,rfl,g2,h2⟩:=h2;rw[KS]at h2;subst h2;rw[jG e1 g1]at h1;exact⟨z,⟨a,rfl,h1⟩,g2⟩
    ·cases e
 ·cases e
theorem qR:∀{is:List I} {l:List (Key×I)} {xs:List V},oA is=some l->KS K H is xs->∃ps:List (Key×V),Paired (PrV K H) xs ps/\ps.map (·.1)=l.map (·.1)/\KS K H (l.map (·.2)) (ps.map (·.2))
 | [],_,_,e,r=>by
  cases e;rw[KS]at r;subst r;exact⟨[],.nil,rfl,by rw[Ic,KS];rfl⟩
 | i::is,l,xs,e,r=>by
  rw[KS]at r;obtain⟨x,xs,rfl,r1,r2⟩:=r;rw[oA]at e;split at e
  ·rename_i p e1;obtain⟨l',e2,rfl⟩:=Hg.mp e;obtain⟨w,h1,h2⟩:=BW e1 r1;obtain⟨ps,h3,h4,h5⟩:=qR e2 r2;refine⟨(p.1,w)::ps,.cons h1 h3,by rw[Gs,Gs,h4],?_⟩;rw[Gs,Gs,KS];exact⟨w,_,rfl,h2,h5⟩
  ·cases e
theorem New.di{ps:List (Key×V)}{kvs:List (I×I)}{p:Addr}(hp:H p=none)(hk:ps.map (λq=>bY q.1)=kvs.map (·.1))(h:KS K H (kvs.map (·.2)) (ps.map (·.2))):New K H (upd H p (.dK ps)) (.di kvs) (.ref p):=by
 refine⟨K7.laid hp,[p],?_,by simp,λa ha=>?_⟩
 ·rw[Rp];refine⟨p,ps.map (λq=>(bY q.1,q.2)),rfl,⟨ps,av,rfl⟩,?_,?_,rfl⟩
  ·have:(ps.map (λq=>(bY q.1,q.2))).map (·.2)=ps.map (·.2):=by rw[GQ];rfl
   rw[this];exact h.same (K7.laid hp)
  ·rw[GQ,<-hk];rfl
 ·cases ysM ha;exact⟨hp,_,av,rfl⟩
theorem qz{is:List I}{t:T}{xs:List V}{p:Addr}{Q:VK}(e:pf is=some t)(r:KS K H is xs)(hs:SqL K H p xs\/SqT K H p xs)(q:∀v H',New K H H' t v->Q v H'):qV K [.ref p] H Q:=by
 unfold pf at e;split at e
 ·rename_i l e1;split at e
  ·rename_i hn;cases e;obtain⟨ps,h1,h2,h3⟩:=qR e1 r;refine⟨p,xs,ps,rfl,hs,h1,by rw[h2];exact hn,λl' hl=>q _ _ (.di hl ?_ ?_)⟩
   ·rw[GQ];have:=congrArg (List.map bY) h2;rw[GQ,GQ]at this;exact this
   ·rw[GQ];exact h3
  ·cases e
 ·cases e
theorem sF:fO K (qV K) jW:=by
 intro H vs ts t Q r e q;unfold jW at e;have e0:=cW e;clear e;obtain⟨x,rfl,e⟩:=e0;obtain⟨v,rfl,r1⟩:=k9 r;unfold Ff at e;split at e
 ·split at e
  ·obtain⟨p,xs,rfl,h1,h2⟩:=bA r1;exact qz e h2 (.inr h1) q
  ·cases e
 ·obtain⟨p,xs,rfl,h1,h2⟩:=bE r1;exact qz e h2 (.inl (aP h1)) q
 ·cases e
theorem b_dict:rE "dict" jW:=⟨_,qV,Jv,λ_ h=>mf h,λ_=>sF⟩
noncomputable def jX:List (I×I)->I->Option I
 | [],_=>none
 | p::r,k=>if p.1=k then some p.2 else jX r k
noncomputable def dg1(kvs:List (I×I)) (k:I):Option T:=match mN k with
 | some _=>(jX kvs k).map T.im
 | none=>none
@[irreducible] noncomputable def dgT(t u:T):Option T:=match t with
 | .di kvs=>(match u with
  | .im k=>dg1 kvs k
  | _=>none)
 | _=>none
def dgR:R2:=λx y H Q=>∃a v,x=.ref a/\Lr H a y (some v)/\Q v H
theorem j8{a b:Key}(h:bY a=bY b):a=b:=by cases a<;>cases b<;>(unfold bY at h;cases h)<;>rfl
theorem nP{q:Key}{v:I}:∀{kvs:List (I×I)} {zs:List (Key×V)},jX kvs (bY q)=some v->zs.map (λz=>bY z.1)=kvs.map (·.1)->KS K H (kvs.map (·.2)) (zs.map (·.2))->∃w,lg zs q=some w/\RpI K H v w
 | [],_,e,_,_=>by cases e
 | p::r,zs,e,h1,h2=>by
  cases zs with
  | nil=>cases h1
  | cons z zs=>
   rw[Gs,Gs,HE.injEq]at h1;rw[Gs,Gs,KS]at h2;obtain⟨x,xs,e1,g1,g2⟩:=h2;rw[HE.injEq]at e1;obtain⟨rfl,rfl⟩:=e1;rw[jX]at e;split at e
   ·rename_i hk;cases e;exact⟨z.2,kN (j8 (h1.1.trans hk)),g1⟩
   ·rename_i hk;obtain⟨w,g3,g4⟩:=nP e h1.2 g2;exact⟨w,by rw[kM λe=>hk (by rw[<-h1.1,e])];exact g3,g4⟩
theorem yi:cH K dgR dgT:=by
 intro H x y tx ty t Q r1 r2 e q;unfold dgT at e;split at e
 ·split at e
  ·unfold dg1 at e;split at e
   ·rename_i kvs k _ q0 e1;obtain⟨v,e2,rfl⟩:=Hg.mp e;obtain⟨F,r1⟩:=r1;rw[Rp]at r1;obtain⟨a,ys,rfl,⟨zs,hz,rfl⟩,h1,h2,_⟩:=r1;rw[GQ]at h1 h2;rw[jG e1 (bP r2)];rw[gy e1]at e2;obtain⟨w,g1,g2⟩:=nP e2 h2 h1;refine⟨a,w,rfl,?_,q _ _ (.im g2)⟩;rw[<-g1];exact Lr.k hz
   ·cases e
  ·cases e
 ·cases e
end
section
variable {ι : Type}{C:ι->Cx}{P:LM}{W:LU}{K:yF}{mg:Str->Option LB}{base:Heap}{k:Nat}{a b:Expr}{ma mb:ME}{pos:Pos}
theorem EA(ck:CK C P W K mg base k)(ha:QE C K a ma)(hb:QE C K b mb)(hs:xb b:=by intro _ _;rfl):QE C K (.Subscript a b pos) (mOp dgT ma mb):=by
 obtain⟨ta,p,r⟩:=ha;obtain⟨tb,p',r'⟩:=hb;exact⟨_,λi=>qQ (zM (ck.room i)) (p i) (p' i) hs,kI (red:=dgR) yi r r'⟩
end
section
variable {X:Cx}{Uq:List (Addr×Obj)}{Z:St}{H:Hp}{s:LD}
theorem Inv.frz{a:Addr}{xs:List V}(I:Inv X Uq Z H s)(h:H a=some (.lst xs)):∃o,Inv X Uq Z (upd H a (.frz o (.lst xs))) s:=by
 obtain⟨z,its,n,r,e⟩:=(show K0 X.prog X.w H s.heap a (.lst xs)from I.hok a _ h);exact⟨_,I.write (t':=s.toks) (h':=s.heap) (by rw[h];exact M6) (.inl rfl) (λb u _ q=>q) ⟨_,e⟩ ⟨e,z,its,n,r,e⟩⟩
end
noncomputable def j2:List I->Option (List Int)
 | []=>some []
 | i::is=>match i with
  | .int n=>(j2 is).map (n :: ·)
  | _=>none
theorem j3{K:yF}{H:Hp}:∀{is:List I} {ns:List Int} {xs:List V},j2 is=some ns->KS K H is xs->xs=ns.map V.int
 | [],_,_,e,r=>by cases e;rw[KS]at r;exact r
 | i::is,ns,xs,e,r=>by
  rw[KS]at r;obtain⟨x,xs,rfl,r1,r2⟩:=r;cases i with
  | int n=>
   obtain⟨ms,e2,rfl⟩:=Hg.mp (show(j2 is).map (n :: ·)=some ns from e);rw[RpI]at r1;rw[r1,j3 e2 r2];rfl
  | _=>cases e
noncomputable def ltB(is js:List I):Option T:=match j2 is with
 | some ns=>(match j2 js with
  | some ms=>some (.im (.bl (HT.lexLt ns ms)))
  | none=>none)
 | none=>none
@[irreducible] noncomputable def ltT(x y:T):Option T:=match uh x with
 | some is=>(match uh y with
  | some js=>ltB is js
  | none=>none)
 | none=>none
theorem u9{K:yF}:cH K (CF K) ltT:=by
 intro H x y tx ty t Q r1 r2 e q;unfold ltT at e;split at e
 ·rename_i is e1;split at e
  ·rename_i js e2;cases iG e1;cases iG e2;unfold ltB at e;split at e
   ·rename_i ns e3;split at e
    ·rename_i ms e4;cases e;obtain⟨a,xs,rfl,g1,g2⟩:=bA r1;obtain⟨b,ys,rfl,h1,h2⟩:=bA r2;rw[j3 e3 g2]at g1;rw[j3 e4 h2]at h1;exact⟨a,b,ns,ms,rfl,rfl,g1,h1,q _ H (.sc rfl)⟩
    ·cases e
   ·cases e
  ·cases e
 ·cases e
theorem DA:fN .Lt ltT:=⟨CF,λ_ hu=>Bb (by omega),λ_=>u9⟩
end L2
namespace L2
open PySem
noncomputable section
noncomputable def dY:MS:=(aX (mOp dgT (mB jW (ac (mIx (af 0) (mC (.int 2))) mNil)) (af 1)))
noncomputable def gi(ts:List T):Option T:=if ts.length=2 then cN dY 2 ts else none
noncomputable def jI:MS:=(aX (mB eJ (ac (aH [none,none,none,none] (kY (aa 0 (aa 1 mNil))) (bq (au (ae 2) (au (ae 3) mGNil))) mYes (mOp bd (af 2) (af 3))) mNil)))
noncomputable def gL(ts:List T):Option T:=if ts.length=2 then cN jI 2 ts else none
noncomputable def cO:MS:=(ao (aA (af 1) (bq (au (ae 2) (au (ae 3) mGNil))))
  (aX (aH [none,none,none,some 3,none,none,none] (mIt (mB dQ (aa 2 (ac (mB gi (aa 0 (aa 2 mNil))) mNil)))) (bq (au (ae 4) (au (ae 5) (au (ae 6) mGNil)))) mYes (ar [5] (aa 5 (ac (mB gL (aa 3 (aa 6 mNil))) mNil))))))
noncomputable def cQ(ts:List T):Option T:=if ts.length=2 then cN cO 4 ts else none
noncomputable def cf:MS:=(ao (lI 1 2 3 (ac (mIx (aS [] (ac (mC (.int 1)) (ac (mC (.int 2)) (ac (mC (.int 6)) mNil)))) (ak 0 0 ai (aa 0 (ac (mC (.int 3)) mNil)))) (ac (ak 0 0 ai (aa 0 (ac (mC (.int 2)) mNil))) (ac (ak 0 0 ai (aa 0 (ac (mC (.int 2)) mNil))) mNil))))
  (ao (aA (ar [] (ac (ak 0 0 gK (aa 0 (aa 1 mNil))) (ac (ak 0 0 ai (aa 0 (aa 1 mNil))) mNil))) (bq (au (ae 4) (au (ae 5) mGNil))))
  (ao (mIf (aI (mOp eqT (af 3) (mC (.int 1)))) (aA (aH [none,none,none,none,some 4,none,none,none,none,none,none,none,none] (aV (aa 1 mNil)) (ae 12) mYes (mOp bd (mSl (mOp cX (mIx (af 4) (mC (.int 0))) (mC (.int 7))) mNoPart (dH (mC (.int 7)))) (mIx (mC (.str "abcdef")) (af 12)))) (ae 4)) mNext)
  (ao (aA (aH [none,none,none,none,none,none,none,none,none,none,none,none,none] (aV (ac (mC (.int 25)) mNil)) (ae 12) mYes (ar [] (ac (mOp bR (mOp ft (af 12) (mC (.int 5))) (mC (.int 2))) (ac (mOp bR (mOp f6 (af 12) (mC (.int 5))) (mC (.int 2))) mNil)))) (ae 6))
  (ao (mIf (aI (mOp eqT (af 2) (mC (.int 1)))) (aA (aH [none,none,none,none,none,none,none,none,none,none,none,none,none,none] (mIt (af 6)) (ae 13) (aI (mOp ltT (af 13) (ar [] (ac (mC (.int 0)) (ac (mC (.int 0)) mNil))))) (af 13)) (ae 6)) mNext)
  (ao (aA (aS [] mNil) (ae 7))
  (ao (bQ (aV (aa 1 mNil)) (ae 8)
  (bS [8,9,10,11,12] (ao (iL 9 10 (ac (ak 0 0 ai (aa 0 (ac (mB cE (aa 6 mNil)) mNil))) (ac (mOp bR (mIx (aS [] (ac (mC (.int 11)) (ac (mC (.int 8)) mNil))) (mB pj (ac (mOp eqT (af 1) (mC (.int 2))) mNil))) (ak 0 0 ai (aa 0 (ac (mC (.int 3)) mNil)))) mNil)))
  (ao (mIf (mT (aI (mOp eqT (af 1) (mC (.int 6)))) (aI (mOp neT (af 8) (af 5)))) (aA (mC (.int 1)) (ae 10)) mNext)
  (ao (aA (aS [] mNil) (ae 11))
  (ao (bQ (aV (aa 10 mNil)) (ae 12)
  (bS [12] (bm (cF 11 [] apT (af 11) (ac (ar [] (ac (mC (.str "at")) (ac (mIx (af 4) (ak 0 0 ai (aa 0 (aa 1 mNil)))) (ac (mIx (af 6) (mOp ft (mOp bd (af 9) (af 12)) (mB cE (aa 6 mNil)))) mNil)))) mNil)))))
  (bm (cF 7 [] apT (af 7) (ac (ar [] (ac (mIx (af 4) (af 8)) (ac (ak 0 0 gJ (aa 0 (aa 11 mNil))) mNil))) mNil)))))))))
  (aX (ar [] (ac (mC (.int 2)) (ac (mOp bd (mC (.int 2)) (ak 0 0 ai (aa 0 (ac (mC (.int 50)) mNil)))) (ac (mB eJ (aa 7 mNil)) mNil))))))))))))
noncomputable def dO(ts:List T):Option (T×T):=if ts.length=1 then eH cf 0 13 ts else none
noncomputable def gD:MS:=(ao (aA (mIx (aS [] (ac (mC (.int 4)) (ac (mC (.int 2001)) mNil))) (ak 0 0 ai (aa 0 (ac (mC (.int 2)) mNil)))) (ae 2))
  (aX (mB eJ (ac (aH [some 0,none,some 2,none] (aV (aa 1 mNil)) (ae 3) mYes (mOp bR (ak 0 0 ai (aa 0 (aa 2 mNil))) (mOp f6 (af 2) (mC (.int 2))))) mNil))))
noncomputable def jh(ts:List T):Option (T×T):=if ts.length=2 then eH gD 0 3 ts else none
end
end L2
namespace L2
open PySem PySem.Spec PyProof.Rows
section
variable {κ : Type}[DecidableEq κ]
noncomputable def bX{α:Type}:List (κ × α)->κ->α->List (κ × α)
 | [],k,v=>[(k,v)]
 | p::r,k,v=>if p.1=k then(p.1,v)::r else p::bX r k v
theorem qL{k : κ}{u:LB}:∀{vs:List (κ×LB)},k∉vs.map (·.1)->vs.map (λkv=>if kv.1=k then(kv.1,u)else kv)=vs
 | [],_=>rfl
 | p::r,h=>by
  rw[Gs,G4,not_or]at h;rw[Gs,if_neg (λz=>h.1 z.symm),qL h.2]
theorem lY(k : κ)(u:LB):∀{vs:List (κ×LB)},(vs.map (·.1)).Nodup->OO vs k u=bX vs k u
 | [],_=>by simp[OO,bX]
 | p::r,h=>by
  rw[Gs,G3]at h;have ih:=lY k u h.2;obtain⟨k',t⟩:=p;unfold OO at ih|-;rw[bX];by_cases e:k'=k
  ·subst e;rw[if_pos (by simp),if_pos rfl,Gs,if_pos rfl,qL h.1]
  ·rw[if_neg e,<-ih,IP];simp only[decide_eq_false e,JS,Gs,if_neg e,G7];split<;>rfl
theorem KV.put{k : κ}{y:V}{u:LB}(ry:RelV y u){kvs:List (κ×V)}{vs:List (κ×LB)}(h:KV kvs vs):KV (bX kvs k y) (bX vs k u):=by
 induction h with
 | nil=>exact .cons ⟨rfl,ry⟩ .nil
 | @cons p q _ _ h t ih=>
  obtain⟨k1,y1⟩:=p;obtain⟨k2,u2⟩:=q;have e:k1=k2:=h.1;subst e;rw[bX,bX];by_cases e:k1=k;rw[if_pos e,if_pos e];exact .cons ⟨rfl,ry⟩ t;rw[if_neg e,if_neg e];exact .cons h ih
end
def z8:xc:=λo i v H Q=>∃a kvs k,o=.ref a/\i=kV k/\H a=some (.dK kvs)/\(bX kvs k v).length<=sizeLine/\Q (upd H a (.dK (bX kvs k v)))
theorem wt{X:Cx}:Ao X z8:=by
 intro Uq s Z H o i v ov iv u Q I ro ri rv h;obtain⟨a,kvs,k,rfl,rfl,e,hl,q⟩:=h;cases ro;obtain⟨z,hd,vs,rel,dd⟩:=(show K0 X.prog X.w H s.heap a (.dK kvs)from I.hok a _ e);have hz:vs.length<=sizeLine:=by have:=Paired.length rel;omega
 refine wpAny_setItem_pairs (hsz:=hz) (ui ri) dd λh' dd' hs=>⟨_,?_,q⟩;have he:∃q,h'.get? a=some q:=let ⟨q,_,_,hq,_⟩:=dd';⟨q,hq⟩
 exact I.write (x:=a) (e:=a) (t':=s.toks+1) (by rw[e];exact M6) (.inl rfl) (λb q hb z=>(hs.2 b hb).trans z) he (show K0 X.prog X.w _ h' a (.dK (bX kvs k v))from⟨hl,hd,_,KV.put rv rel,by rw[lY k u (let ⟨_,_,_,_,_,_,_,_,hn⟩:=dd;hn)]at dd';exact dd'⟩)
@[irreducible] noncomputable def keysT:List T->Option T:=l1 λt=>match t with
 | .di kvs=>some (.li (kvs.map (·.1)))
 | _=>none
noncomputable def jq:List Key->List I->Key->Option I
 | k::ks,i::is,q=>if k=q then some i else jq ks is q
 | _,_,_=>none
@[irreducible] noncomputable def kW(t u:T):Option T:=match t with
 | .im i=>(match i with
  | .fd ks is=>(match u with
   | .im k=>(match mN k with
    | some q=>(jq ks is q).map T.im
    | none=>none)
   | _=>none)
  | _=>none)
 | _=>none
@[irreducible] noncomputable def mDN:ME:=⟨λO=>some (⟨.ow,.di []⟩,O),[]⟩
noncomputable def zJ(kvs:List (I×I)) (k v:I):Option T:=match mN k with
 | some _=>if(bX kvs k v).length<=sizeLine then some (.di (bX kvs k v))else none
 | none=>none
noncomputable def qA(s k v:T):Option T:=match s with
 | .di kvs=>(match k with
  | .im ki=>(match v with
   | .im vi=>zJ kvs ki vi
   | _=>none)
  | _=>none)
 | _=>none
@[irreducible] noncomputable def lG(j:Nat)(o i:ME):MG:=⟨λr O=>match r with
 | ⟨.ow,tv⟩=>match o.run O with
  | some (⟨.vw (some j') (some p),s⟩,O1)=>match i.run O1 with
   | some (ri,O2)=>if(decide (j'=j) && !i.mu.contains j)=true then(match qA s ri.t tv with
    | some s'=>(match O2[j]? with
     | some (some ⟨k,t⟩)=>if k.isOw=true then some ((aq [j] O2).set j (some ⟨k,t.put p s'⟩))else none
     | _=>none)
    | none=>none)else none
   | none=>none
  | _=>none
 | _=>none,(o.mu++i.mu)++[j]⟩
noncomputable def iH:List (I×I)->Option (List Key)
 | []=>some []
 | p::r=>match mN p.1 with
  | some q=>(iH r).map (q :: ·)
  | none=>none
noncomputable def t7(r:R):Option I:=match r.k with
 | .ow=>(match r.t with
  | .di kvs=>(iH kvs).map λks=>.fd ks (kvs.map (·.2))
  | _=>none)
 | _=>none
@[irreducible] noncomputable def iK(a:ME):ME:=⟨λO=>match a.run O with
 | some (r,O1)=>(match t7 r with
  | some i=>some (⟨.ow,.im i⟩,O1)
  | none=>none)
 | none=>none,a.mu⟩
section
variable {K:yF}{H:Hp}
theorem xA(q:Key):RpI K H (bY q) (kV q):=by cases q<;>(rw[bY,RpI];rfl)
theorem nT{q:Key}{v:I}:∀{ks:List Key} {is:List I} {ys:List (Key×V)},jq ks is q=some v->ys.map (·.1)=ks->KS K H is (ys.map (·.2))->∃w,lg ys q=some w/\RpI K H v w
 | [],_,_,e,_,_=>by cases e
 | k::ks,[],_,e,_,_=>by cases e
 | k::ks,i::is,ys,e,h1,h2=>by
  cases ys with
  | nil=>cases h1
  | cons z zs=>
   rw[Gs,HE.injEq]at h1;rw[Gs,KS]at h2;obtain⟨x,xs,e1,g1,g2⟩:=h2;rw[HE.injEq]at e1;obtain⟨rfl,rfl⟩:=e1;rw[jq]at e;split at e
   ·rename_i hk;cases e;exact⟨z.2,kN (h1.1.trans hk),g1⟩
   ·rename_i hk;obtain⟨w,g3,g4⟩:=nT e h1.2 g2;exact⟨w,by rw[kM λe=>hk (by rw[<-h1.1,e])];exact g3,g4⟩
theorem uY:cH K dgR kW:=by
 intro H x y tx ty t Q r1 r2 e q;unfold kW at e;split at e
 ·split at e
  ·split at e
   ·split at e
    ·rename_i q0 e1;obtain⟨v,e2,rfl⟩:=Hg.mp e;have r1:=bP r1;rw[RpI]at r1;obtain⟨a,o,ys,rfl,h1,h2,h3⟩:=r1;rw[jG e1 (bP r2)];obtain⟨w,g1,g2⟩:=nT e2 h2 h3;exact⟨a,w,rfl,⟨ys,q0,.inr ⟨o,h1⟩,rfl,g1.symm⟩,q _ _ (.im g2)⟩
    ·cases e
   ·cases e
  ·cases e
 ·cases e
theorem CN:aT K wz mDN:=by unhygienic
 intro Γ H O Z E Q r O' hK hr S q;simp only[mDN]at hr q;cases hr;refine λp hp=>q _ _ ?_;rw[bL];exact(S.fresh (.di (ps:=[]) (kvs:=[]) hp rfl (by rw[Ic,Ic,KS])))
theorem qS{q:Key}{vi:I}{w:V}(hv:RpI K H vi w):∀{kvs:List (I×I)} {zs:List (Key×V)},zs.map (λz=>bY z.1)=kvs.map (·.1)->KS K H (kvs.map (·.2)) (zs.map (·.2)) ->
  (bX zs q w).map (λz=>bY z.1)=(bX kvs (bY q) vi).map (·.1)/\KS K H ((bX kvs (bY q) vi).map (·.2)) ((bX zs q w).map (·.2))
 | [],zs,h1,h2=>by
  have:zs=[]:=by cases zs with|nil=>rfl|cons _ _=>cases h1
  subst this;exact⟨rfl,by show KS K H [vi] [w];rw[KS];exact⟨w,[],rfl,hv,by rw[KS]⟩⟩
 | p::r,zs,h1,h2=>by
  cases zs with
  | nil=>cases h1
  | cons z zs=>
   rw[Gs,Gs,HE.injEq]at h1;rw[Gs,Gs,KS]at h2;obtain⟨x,xs,e1,g1,g2⟩:=h2;rw[HE.injEq]at e1;obtain⟨rfl,rfl⟩:=e1;rw[bX,bX];by_cases e:z.1=q
   ·rw[if_pos e,if_pos (by rw[<-h1.1,e])];refine⟨by rw[Gs,Gs,h1.1,h1.2],?_⟩;rw[Gs,Gs,KS];exact⟨w,_,rfl,hv,g2⟩
   ·rw[if_neg e,if_neg (λz=>e (j8 (h1.1.trans z)))];obtain⟨g3,g4⟩:=qS hv h1.2 g2;refine⟨by rw[Gs,Gs,h1.1,g3],?_⟩;rw[Gs,Gs,KS];exact⟨z.2,_,rfl,g1,g4⟩
theorem vR{to ti:TE}{o i:ME}{j:Nat}(ho:aT K to o)(hi:aT K ti i):jP K (AH to ti z8) (lG j o i):=by unhygienic
 intro Γ H O Z E Q v r O' hK hr S q;simp only[lG]at hr q;split at hr
 ·rename_i tv;split at hr
  ·rename_i j' p s O1 e1;split at hr
   ·rename_i ri O2 e2;split at hr
    ·rename_i hc;rw[Gz,decide_eq_true_eq,Hf]at hc;obtain⟨rfl,hmv⟩:=hc;split at hr
     ·rename_i s' e3;split at hr
      ·rename_i k t e4;split at hr
       ·rename_i hw;cases hr;refine ho Γ H O Z _ _ _ _ hK e1 S λx H1 S1=>?_;refine hi Γ H1 O1 Z _ _ _ _ hK e2 S1 λy H2 S2=>?_;have k1:aF i.mu ⟨none,x,⟨.vw (some j') (some p),s⟩⟩=true:=by unfold aF;simp only[Kd.root];rw[hmv];rfl
        have k2:∀M:List Nat,aF M ⟨none,v,⟨.ow,tv⟩⟩=true:=λM=>rfl;rw[az k1,ag,az (k2 _)]at S2;have ry:=S2.rd ymS;have S3:=S2.drop rfl;obtain⟨G,F,h1,h2,h3,h4,h5⟩:=Sim.mut (vs:=[v]) (ts:=[tv]) (S3.perm (List.Perm.swap _ _ _)) rfl e4 hw;generalize hri:ri.t=tri at e3;unfold qA at e3;split at e3
        ·split at e3
         ·split at e3
          ·rename_i kvs _ ki _ vi;unfold zJ at e3;split at e3
           ·rename_i q0 e5;split at e3
            ·rename_i hz;cases e3;rw[Rp]at h1;obtain⟨a,ys,rfl,⟨zs,hzs,rfl⟩,g1,g2,rfl⟩:=h1;rw[GQ]at g1 g2;obtain⟨z,ez,g3⟩:=sW h2;cases ez;obtain⟨g4,rfl⟩:=aZ g3;have ry':∃F,Rp Γ.K H2 ri.t y F:=ry;have ey:y=kV q0:=by rw[hri]at ry';exact jG e5 (bP ry')
             subst ey;rw[gy e5]at hz;obtain⟨g5,g6⟩:=qS (q:=q0) g4 g2 g1;have hlen:(bX zs q0 v).length=(bX kvs (bY q0) vi).length:=by have:=congrArg HG g5;simpa using this
             refine⟨a,zs,q0,rfl,rfl,hzs,by rw[hlen];exact hz,q Z _ ?_⟩;have hM:∀b∈[a],Mu H2 b:=λb hb=>by rw[ysM hb];exact⟨_,hzs,rfl⟩
             have:=h5 (upd H2 a (.dK (bX zs q0 v))) (.di (bX kvs ki vi)) [a] KZ.upd (λb hb=>by rw[ysM hb];exact⟨_,av⟩) (by simp) (λb hb=>by rw[ysM hb];exact⟨.inl (by simp),_,av,rfl⟩) (by
              rw[Rp];refine⟨a,(bX zs q0 v).map (λp=>(bY p.1,p.2)),rfl,⟨_,av,rfl⟩,?_,?_,rfl⟩;rw[GQ,gy e5];exact g6.off KZ.upd hM;rw[GQ,gy e5];exact g5)
             rw[ag]at this;exact this
            ·cases e3
           ·cases e3
          ·cases e3
         ·cases e3
        ·cases e3
       ·cases hr
      ·cases hr
     ·cases hr
    ·cases hr
   ·cases hr
  ·cases hr
 ·cases hr
theorem nX:∀{kvs:List (I×I)} {ks:List Key} {zs:List (Key×V)},iH kvs=some ks->zs.map (λz=>bY z.1)=kvs.map (·.1)->zs.map (·.1)=ks
 | [],_,zs,e,h=>by cases e;cases zs with|nil=>rfl|cons _ _=>cases h
 | p::r,ks,zs,e,h=>by
  cases zs with
  | nil=>cases h
  | cons z zs=>
   rw[Gs,Gs,HE.injEq]at h;rw[iH]at e;split at e
   ·rename_i q e1;obtain⟨ks',e2,rfl⟩:=Hg.mp e;rw[Gs,nX e2 h.2,j8 (h.1.trans (gy e1))]
   ·cases e
def Ag(t:TE):TE:=λZ H Q=>t Z H λv H1=>∃a ys,v=.ref a/\H1 a=some (.dK ys)/\∀o,Q v (upd H1 a (.frz o (.dK ys)))
theorem xX{X:Cx}{e:Expr}{t:TE}(h:PE X e t):PE X e (Ag t):=by
 intro Uq s Z H Q I q;refine thn (h Uq s Z H _ I q) λu s1 ⟨v,H1,I1,rv,a,ys,ev,hl,q1⟩=>?_;have ob:∃o,s1.heap.get? a=some o:=by
  obtain⟨_,_,_,_,o,_,_,e,_⟩:=(show K0 X.prog X.w H1 s1.heap a (.dK ys)from I1.hok a _ hl);exact⟨o,e⟩
 obtain⟨o,e⟩:=ob;obtain⟨z1,z2,z3⟩:=(show K0 X.prog X.w H1 s1.heap a (.dK ys)from I1.hok a _ hl);exact⟨v,_,I1.write (t':=s1.toks) (h':=s1.heap) (by rw[hl];exact M6) (.inl rfl) (λb u _ q=>q) ⟨_,e⟩ (show K0 X.prog X.w _ s1.heap a (.frz o (.dK ys))from⟨e,z1,z2,z3⟩),rv,q1 o⟩
theorem t8{r:R}{i:I}(h:t7 r=some i):∃kvs ks,r=⟨.ow,.di kvs⟩/\iH kvs=some ks/\i=.fd ks (kvs.map (·.2)):=by
 obtain⟨k,t⟩:=r;unfold t7 at h;dsimp only at h;split at h
 ·split at h
  ·obtain⟨ks,e,rfl⟩:=Hg.mp h;exact⟨_,ks,rfl,e,rfl⟩
  ·cases h
 ·cases h
theorem vS{ta:TE}{a:ME}(ha:aT K ta a):aT K (Ag ta) (iK a):=by unhygienic
 intro Γ H O Z E Q r O' hK hr S q;simp only[iK]at hr;split at hr
 ·rename_i ra O1 e1;split at hr
  ·rename_i i e2;cases hr;obtain⟨kvs,ks,rfl,e4,rfl⟩:=t8 e2;refine ha Γ H O Z E _ _ _ hK e1 S λx H1 S1=>?_;obtain⟨F,r0,nd,mu,k⟩:=Sim.use (vs:=[x]) (ts:=[.di kvs]) S1 rfl;rw[Rps]at r0;obtain⟨y,r,F1,F2,e3,h1,h2,rfl⟩:=r0;cases e3;rw[Rps]at h2;obtain⟨_,rfl⟩:=h2;rw[Rp]at h1;obtain⟨b,ys,rfl,⟨zs,hz,rfl⟩,g1,g2,rfl⟩:=h1;rw[GQ]at g1 g2;refine⟨b,zs,rfl,hz,λo=>q _ _ (k _ _ _ [] ?_ ?_ HN (by simp) (hC ?_))⟩;exact KZ.upd.mono (by simp)
   ·intro c hc;have:c=b:=by simpa using hc
    subst this;exact⟨_,av⟩
   ·rw[RpI];refine⟨b,o,zs,rfl,av,nX e4 g2,?_⟩;exact KS.off (M:=[b]) KZ.upd (λc hc=>by rw[ysM hc];exact mu _ (by simp)) g1
  ·cases hr
 ·cases hr
end
section
variable {ι : Type}{C:ι->Cx}{P:LM}{W:LU}{K:yF}{mg:Str->Option LB}{base:Heap}{k:Nat}{a b e o:Expr}{es:List Expr}{ma mb mo mi m:ME}{ms:MA}{pos:Pos}
theorem Ca(ck:CK C P W K mg base k)(ha:QE C K a ma)(hb:QE C K b mb)(hs:xb b:=by intro _ _;rfl):QE C K (.Subscript a b pos) (mOp kW ma mb):=by
 obtain⟨ta,p,r⟩:=ha;obtain⟨tb,p',r'⟩:=hb;exact⟨_,λi=>qQ (zM (ck.room i)) (p i) (p' i) hs,kI (red:=dgR) uY r r'⟩
theorem Ga:QE C K (.Dict [] [] pos) mDN:=⟨_,λ_=>uL,CN⟩
theorem Cb(h:QE C K e m):QE C K e (iK m):=by
 obtain⟨t,p,r⟩:=h;exact⟨_,λi=>xX (p i),vS r⟩
theorem yw(j:Nat)(ho:QE C K o mo)(hi:QE C K e mi)
  (ha:∀i v,Nh (.Subscript o e pos) (C i).env v=(do
   let ov <-Mo [v] (eval o (C i).env)
   let iv <-Mo [v,ov] (eval e (C i).env)
   NE pos
   Mo [v,ov,iv] (NW ov iv v)
   P5 [v,ov,iv] []):=by intro _ _;rfl):QG C K none (.Subscript o e pos) (lG j mo mi):=by
 obtain⟨to,p,r⟩:=ho;obtain⟨ti,p',r'⟩:=hi;exact⟨_,λi=>uQ (p i) (p' i) wt (ha i),vR r r',λf h=>by cases h⟩
end
section
variable {a b m:ME}{O:Rho}{QF:R->Rho->Prop}{QG':Rho->Prop}{Q:T->Prop}
theorem Gj(q:QF ⟨.ow,.di []⟩ O):WE mDN O QF:=by unhygienic exact⟨_,_,rfl,q⟩
theorem nD(h:WE m O λr O1=>∃i,t7 r=some i/\QF ⟨.ow,.im i⟩ O1):WE (iK m) O QF:=by unhygienic
 obtain⟨r,O1,e,i,e2,q⟩:=h;exact⟨_,_,by simp only[iK,e,e2],q⟩
theorem zu{j:Nat}{tv:T}(h:WE a O λra O1=>WE b O1 λrb O2=>AtS j ra λp s=>Gu (!b.mu.contains j) (AtM j O2 λk t=>W1 (qA s rb.t tv) λs'=>QG' ((aq [j] O2).set j (some ⟨k,t.put p s'⟩)))):WG (lG j a b) ⟨.ow,tv⟩ O QG':=by
 obtain⟨ra,O1,e1,rb,O2,e2,p,s,rfl,hm,k,t,e3,ow,s',e4,q⟩:=h;refine⟨_,?_,q⟩;simp only[lG,e1,e2,hm,decide_true,ID,if_true,e4,e3,ow]
theorem lO{ks:List Key}{is:List I}{z:Str}{v:I}(h:jq ks is (.inr z)=some v)(q:Q (.im v)):W1 (kW (.im (.fd ks is)) (.im (.str z))) Q:=by unhygienic
 refine w1 (x:=.im v) ?_ q;show(jq ks is (.inr z)).map _=_;rw[h];rfl
theorem Bp{kvs:List (I×I)}{z:Str}{v:I}(h:(bX kvs (.str z) v).length<=sizeLine)(q:Q (.di (bX kvs (.str z) v))):W1 (qA (.di kvs) (.im (.str z)) (.im v)) Q:=by
 refine w1 (x:=.di (bX kvs (.str z) v)) ?_ q;show(if(bX kvs (.str z) v).length<=sizeLine then _ else _)=_;rw[if_pos h]
end
section
variable {K:yF}{H:Hp}
@[irreducible] noncomputable def kh(i:Nat)(mv:List Nat)(f:T->List T->Option (T×I))(a:MA):ME:=⟨λO=>match O[i]? with
 | some (some r0)=>(match f r0.t [.im .non]with
  | some _=>(match a.run O with
   | some (rs,O1)=>(match O1[i]? with
    | some (some r1)=>mutR i mv f (rdR i r1) rs O1
    | _=>none)
   | none=>none)
  | none=>none)
 | _=>none,a.mu++(mv++[i])⟩
theorem vX{T0:String}{red:V->List V->Hp->VK->Prop}{f:T->List T->Option (T×I)}{i:Nat}{mv:List Nat}{ta:TA}{a:MA}(hp:dk K red f)(hty:∀(H:Hp) (x:V) (tx:T) ts r,Rpx K H tx x->f tx ts=some r->tyV K T0 x H)(ha:eK K ta a):aT K (tBM K T0 red (zm i) ta) (kh i mv f a):=by
 intro Γ H O Z E Q r O' hK hr S q;simp only[kh]at hr q;split at hr
 ·rename_i r0 h0;split at hr
  ·rename_i z hz;split at hr
   ·rename_i rs O1 e1;split at hr
    ·rename_i r1 h1;obtain⟨v,hv,S2⟩:=S.var h0;have rx:=S2.rd ymS;rw[hK]at rx;refine⟨v,hv,?_,?_⟩
     ·have et:(rdR i r0).t=r0.t:=by obtain⟨k,t⟩:=r0;unfold rdR;cases k<;>cases t<;>rfl
      refine hty H v r0.t _ _ ?_ hz;obtain⟨F,hF⟩:=rx;exact⟨F,by rw[<-et];exact hF⟩
     ·refine ha Γ H O Z E _ rs _ hK e1 S λvs H2 hl S3=>?_;obtain⟨v',hv',S4⟩:=S3.var h1;have ev:v'=v:=by rw[hv]at hv';cases hv';rfl
      subst ev;exact Sim.mutR hK hp hr hl (S4.perm Ha.symm) λw H' S5=>q w H' (by rw[<-ag];exact S5)
    ·cases hr
   ·cases hr
  ·cases hr
 ·cases hr
end
section
variable {ι : Type}{C:ι->Cx}{P:LM}{W:LU}{K:yF}{mg:Str->Option LB}{base:Heap}{k:Nat}
variable {e:Expr}{es:List Expr}{ms:MA}{pos:Pos}
theorem Ce(l:Nat)(mv:List Nat){x:Str}{xpos:Pos}{T0:String}{name:Str}{f:T->List T->Option (T×I)}{apos:Pos}(ck:CK C P W K mg base k)(hm:jN T0 name f)(ha:QA C K (e::es) ms)(hN:∀i,(C i).N[l]?=some x:=by intro _;rfl)(hv:∀i,Vis (C i).env.scope x:=by first|exact λ_=>ON rfl|exact λ_=>NQ (ON rfl)|exact λ_=>NQ (NQ rfl))(hd:(x==("__debug__" : Str))=false:=by decide)(hcd:(x==("__classdict__" : Str))=false:=by decide)(hlen:decide ((e::es).length<30)=true:=by rfl)
  (hbase:∀i,Mk (.Name x xpos) name (C i).env (eval (.Name x xpos) (C i).env)=eval (.Name x xpos) (C i).env:=by intro _;rfl) (hline:(apos.endLine==pos.line)=true:=by rfl):QE C K (.Call (.Attribute (.Name x xpos) name apos) (e::es) [] pos) (kh l mv f ms):=by
 obtain⟨id,red,h1,h2,h3,h4,h5,h6⟩:=hm;obtain⟨ta,q',n,r'⟩:=ha;exact⟨_,λi=>Av (r:=red K) (ck.kk i) h1 h2 h3 (by have:=h4 (C i);rw[ck.kk i]at this;exact this) (pM (hN i) (hv i) hd hcd) (q' i) n hlen (hbase i) hline,vX (h5 K) (h6 K) r'⟩
end
section
variable {O:Rho}{ms:MA}{QE':R->Rho->Prop}{g:MG}{s1:MS}{Q:Fl->Rho->Prop}{S:Type}
theorem wR{l:Nat}{mv:List Nat}{f:T->List T->Option (T×I)}{r0:R}(h0 : O[l]?=some (some r0))(hz:(f r0.t [.im .non]).isSome=true)(h:WA ms O λrs O1=>∃r1,O1[l]?=some (some r1)/\W2 (mutR l mv f (rdR l r1) rs O1) QE'):WE (kh l mv f ms) O QE':=by
 obtain⟨rs,O1,e1,r1,h1,p,O3,e3,q⟩:=h;obtain⟨z,hz⟩:=Ii.mp hz;exact⟨p,O3,by simp only[kh,h0,hz,e1,h1,e3],q⟩
theorem zp(st:S->Rho)(P:Nat->S->Prop) (h:WA ms O λrs O1=>∃k is,rs=[⟨k,.li is⟩]/\ax (g.mu++s1.mu) ⟨k,.li is⟩=true/\∃s0,O1=st s0/\P 0 s0 /\
  (∀(j:Nat) x s,is.reverse[j]?=some x->P j s->WG g ⟨.ow,.im x⟩ (st s) λO1=>WS s1 O1 (fFs st (P (j+1)) Q))/\∀s,P is.length s->Q .nx (st s)):WS (bQ (sj ms) g s1) O Q:=by
 obtain⟨rs,O1,e1,k,is,rfl,al,s0,rfl,h0,hs,he⟩:=h;refine rB ⟨[⟨k,.li is⟩],is.reverse.map (λi=>⟨.ow,.im i⟩),st s0,by simp only[sj,e1],?_,λj O=>∃s,O=st s/\P j s,⟨s0,rfl,h0⟩,?_,?_⟩
 ·rw[Gz];exact⟨by rw[HL,IZ,al];rfl,jB λr hr=>by obtain⟨x,_,rfl⟩:=GB.mp hr;rfl⟩
 ·rintro j r O hj ⟨s,rfl,hP⟩;obtain⟨x,hx,rfl⟩:=ay hj;exact(hs j x s hx hP).mono λO1 q=>q.mono λf O2 q=>jC q
 ·rintro O ⟨s,rfl,hP⟩;rw[Gv,Ij]at hP;exact he s hP
end
section
variable {X:Cx}
theorem o9:K4 X (.type "dict") (λxs H Q=>∃a kvs,xs=[.ref a]/\Rd H a (.dK kvs)/\∀l,H l=none->Q (.ref l) (upd H l (.dK kvs))):=by
 intro Uq s Z H xs us Q I rv h;obtain⟨a,kvs,rfl,hd,q⟩:=h;obtain⟨u,rfl,ru⟩:=gv rv;cases ru;obtain⟨z,ha,vs,rel,dd⟩:=nO I.hok hd;have hl:kvs.length=vs.length:=Paired.length rel;refine kt_call_dict ha dd (by omega) λh' dd' hs=>?_;refine⟨.ref s.heap.objs.size,_,I.laid (t':=s.toks) (λb o e=>?_) (GC _) (show K0 X.prog X.w _ h' _ (.dK kvs)from⟨z,beq_eq_false_iff_ne.mpr (LO (GN I.big)),vs,rel,dd'⟩),rfl,q _ (I.hok.fresh (GC _))⟩;exact(hs.2 b (GN (LI e))).trans (LC _ e)
end
noncomputable def DF(t:T):Option T:=match t with
 | .im i=>(match i with
  | .fd ks is=>if ks.length=is.length then some (.di (Iu (λk i=>(bY k,i)) ks is))else none
  | _=>none)
 | _=>none
@[irreducible] noncomputable def rR:List T->Option T:=l1 DF
section
variable {K:yF}{H:Hp}
def zX:yF->List V->Hp->VK->Prop:=λ_ xs H Q=>∃a kvs,xs=[.ref a]/\Rd H a (.dK kvs)/\∀l,H l=none->Q (.ref l) (upd H l (.dK kvs))
theorem zk1:∀(ks:List Key) (is:List I),ks.length=is.length->(Iu (λk i=>(bY k,i)) ks is).map (·.1)=ks.map bY
 | [],[],_=>rfl
 | k::ks,i::is,h=>by rw[Iv,Gs,Gs,zk1 ks is (KP.inj h)]
theorem zk2:∀(ks:List Key) (is:List I),ks.length=is.length->(Iu (λk i=>(bY k,i)) ks is).map (·.2)=is
 | [],[],_=>rfl
 | k::ks,i::is,h=>by rw[Iv,Gs,zk2 ks is (KP.inj h)]
theorem uX:fO K (zX K) rR:=by
 intro H vs ts t Q r e q;unfold rR at e;have e0:=cW e;clear e;obtain⟨x,rfl,e⟩:=e0;obtain⟨v,rfl,r1⟩:=k9 r;unfold DF at e;split at e
 ·split at e
  ·rename_i ks is;split at e
   ·rename_i hl;cases e;obtain⟨F,r1⟩:=r1;obtain⟨r1,_⟩:=aZ r1;rw[RpI]at r1;obtain⟨a,o,ys,rfl,hz,h1,h2⟩:=r1;refine⟨a,ys,rfl,.inr ⟨o,hz⟩,λl hf=>q _ _ (.di hf ?_ ?_)⟩;rw[zk1 ks is hl,<-h1,GQ];rfl;rw[zk2 ks is hl];exact h2
   ·cases e
  ·cases e
 ·cases e
end
theorem xi:rE "dict" rR:=⟨_,zX,Jv,λ_ _=>o9,λ_=>uX⟩
section
variable {X:Cx}
theorem qF{A:LQ}{s:LD}{kb:List (Key×LB)}:∀(la pre lb:List (Key×LB)),kb=pre++lb->(kb.map (·.1)).Nodup->la.map (·.1)=lb.map (·.1)->(∀(j:Nat) u v,(la.map (·.2))[j]?=some u->(lb.map (·.2))[j]?=some v->LX A s u v true)->PySem.W.KeqHits A s kb la true
 | [],_,_,_,_,_,_=>.nil
 | p::la,pre,[],_,_,hk,_=>by cases hk
 | p::la,pre,q::lb,h,hn,hk,hE=>by
  rw[Gs,Gs,HE.injEq]at hk;have hv:N1 kb p.1=some q.2:=by
   unfold N1;rw[h,GA,Gs,Gy]at hn;have hp:pre.find? (λkv=>decide (kv.1=p.1))=none:=by
    rw[List.find?_eq_none];intro z hz he;have he:z.1=p.1:=by simpa using he
    exact hn.2.2 z.1 (GB.mpr ⟨z,hz,rfl⟩) q.1 ymS (he.trans hk.1)
   rw[h,List.find?_append,hp,Option.none_or,HR,];simp[hk.1]
  have h0:=hE 0 p.2 q.2 rfl rfl;have hr:=qF la (pre++[q]) lb (by rw[h,GK];rfl) hn hk.2 λj u v hu hv=>hE (j+1) u v (by simpa using hu) (by simpa using hv);exact PySem.W.KeqHits.hit (k:=p.1) (v:=p.2) hv h0 hr
theorem mP:∀{kvs:List (Key×V)} {vs:List (Key×LB)},KV kvs vs->Vals (kvs.map (·.2)) (vs.map (·.2))
 | _,_,.nil=>.nil
 | _,_,.cons h t=>.cons h.2 (mP t)
def CG(K:yF):R2:=λx y H Q=>∃(a b:Addr) (ka kb:List (Key×V)) (ds:List D),x=.ref a/\y=.ref b/\Rd H a (.dK ka)/\Rd H b (.dK kb)/\ka.map (·.1)=kb.map (·.1)/\(kb.map (·.1)).Nodup/\K1 K H ds (ka.map (·.2))/\K1 K H ds (kb.map (·.2))/\aJ ds<=50/\Q (.bl false) H
theorem Be(hu:X.A.units+64<Mm):OpR X (LZ .NotEq) (CG X.K):=by
 intro Uq s Z H x y v u Q I rx ry h;obtain⟨a,b,ka,kb,ds,rfl,rfl,h3,h5,hk,hn,h4,h6,hd,q⟩:=h;cases rx;cases ry;obtain⟨za,ha,va,ra,da⟩:=nO I.hok h3;obtain⟨zb,hb,vb,rb,db⟩:=nO I.hok h5;have hu':X.A.in1.units+aJ ds<Mm:=by show X.A.units+1+aJ ds<Mm;omega
 obtain⟨e,he,hE⟩:=fc I ds ds (A:=X.A.in1) h4 h6 (mP ra) (mP rb) hu';have hall:=(he.mpr rfl).1;rw[Js,Hw]at hall;have hkk:va.map (·.1)=vb.map (·.1):=by rw[<-mO ra,<-mO rb];exact hk
 have hll:va.length=vb.length:=by have:=congrArg HG hkk;simpa using this
 have hlen:(va.map (·.2)).length=ds.length:=by rw[<-(mP ra).length,h4.length]
 refine PySem.W.keq_ne (r:=true) ha hb da db (by omega) (λ_=>qF va [] vb rfl (by rw[<-mO rb];exact hn) hkk λj u v hu hv=>?_) ⟨.bl false,H,I,?_,q⟩
 ·have hj:=(Gr.mp hu).1;have:=hE j u v hu hv;rwa [hall j (HW.mpr (by omega))]at this
 ·rw[hll];simp;rfl
end
@[irreducible] noncomputable def t6(x y:T):Option T:=match x with
 | .im i=>(match i with
  | .fd ks is=>(match y with
   | .im j=>(match j with
    | .fd ks' is'=>if ks=ks'/\is=is'/\ks.Nodup/\I.doks is=true/\I.deps is<=50 then some (.im (.bl false))else none
    | _=>none)
   | _=>none)
  | _=>none)
 | _=>none
section
variable {K:yF}{H:Hp}
theorem uZ:cH K (CG K) t6:=by
 intro H x y tx ty t Q rx ry e q;unfold t6 at e;split at e
 ·split at e
  ·rename_i ks is;split at e
   ·split at e
    ·rename_i ks' is';split at e
     ·rename_i h;cases e;obtain⟨rfl,rfl,h1,h2,h3⟩:=h;have r1:=bP rx;have r2:=bP ry;rw[RpI]at r1 r2;obtain⟨a,o,ya,rfl,ha,ka,ra⟩:=r1;obtain⟨b,o',yb,rfl,hb,kb,rb⟩:=r2;exact⟨a,b,ya,yb,I.toDs is,rfl,rfl,.inr ⟨o,ha⟩,.inr ⟨o',hb⟩,ka.trans kb.symm,by rw[kb];exact h1,eA h2 ra,eA h2 rb,by rw[fb];exact h3,q _ H (.sc rfl)⟩
     ·cases e
    ·cases e
   ·cases e
  ·cases e
 ·cases e
theorem DB:fN .NotEq t6:=⟨CG,λ_ hu=>Be hu,λ_=>uZ⟩
theorem Eb{ks:List Key}{is:List I}{Q:T->Prop}(h1:ks.Nodup)(h2:I.doks is=true/\I.deps is<=50)(q:Q (.im (.bl false))):W1 (t6 (.im (.fd ks is)) (.im (.fd ks is))) Q:=by unhygienic
 exact⟨_,if_pos ⟨rfl,rfl,h1,h2.1,h2.2⟩,q⟩
theorem Ea{ks:List Key}{is:List I}{Q:T->Prop}(h:ks.length=is.length)(q:Q (.di (Iu (λk i=>(bY k,i)) ks is))):W1 (rR [.im (.fd ks is)]) Q:=by unhygienic
 exact⟨_,if_pos h,q⟩
end
noncomputable def Itm(a:Addr) (o:Obj):It:=
 ⟨λi H=>∃ys p,H a=some (.frz o (.dK ys))/\ys[i]?=some p,λi H y H'=>∃l p,H l=none/\y=.ref l/\H'=upd H l (.tup [kV p.1,p.2])/\∀ys,H a=some (.frz o (.dK ys))->ys[i]?=some p,λi H=>∃ys,H a=some (.frz o (.dK ys))/\ys.length<=i⟩
def DE(o:Obj)(n ep:Nat):Prop:=∃es:Array PF,o.data=.dict es ep/\es.size=n
theorem t9{X:Cx}{Uq:List (Addr×Obj)}{Z:St}{H:Hp}{s:LD}{a:Addr}{o:Obj}{ys:List (Key×V)}{n ep:Nat}(I:Inv X Uq Z H s)(h:H a=some (.frz o (.dK ys)))(de:DE o n ep):∃vs,KV ys vs/\vs.length=n/\s.heap.DictAt (bD X.prog X.w) a vs ep:=by
 obtain⟨e,z1,z2,vs,rel,od,es,ep',e1,e2,e3,e4,e5,e6⟩:=(show K0 X.prog X.w H s.heap a (.frz o (.dK ys))from I.hok a _ h);rw[e]at e1;cases e1;obtain⟨es',d1,d2⟩:=de;rw[d1]at e3;cases e3;exact⟨vs,rel,by rw[<-e5.length,<-d2];simp,o,es,e,e2,d1,e4,e5,e6⟩
theorem ul:∀{ys:List (Key×V)} {vs:List (Key×LB)} {i:Nat} {p:Key×V},KV ys vs->ys[i]?=some p->∃q,vs[i]?=some q/\p.1=q.1/\RelV p.2 q.2
 | _,_,_,_,.nil,e=>by cases e
 | _,_,0,_,.cons (b:=q) h _,e=>by cases e;exact⟨q,rfl,h.1,h.2⟩
 | _,_,i+1,_,.cons _ t,e=>ul (i:=i) t (by simpa using e)
theorem pY{P:LM}{w:LU}{K:yF}{elts:List Expr}{k0:Nat}{pos:Pos}(a it:Addr)(o:Obj){n ep:Nat}(de:DE o n ep) :
  Lq P w K (.Tuple elts k0 pos) (Itm a o) [it] it (λi h=>∃ok ov,IsItemIter h it a i n ep ok ov) where
 mem:=by simp
 obj:=λi h st b hb=>by
  have z:b=it:=by simpa using hb
  subst z;obtain⟨ok,ov,e1⟩:=st;exact⟨_,e1,λv z=>by cases z⟩
 keep:=λi h h' st k=>let ⟨ok,ov,e1⟩:=st;⟨ok,ov,k it (by simp) _ e1⟩
 item:=by
  intro X hP hw hK hc i Uq s Z H E I hf st hg;subst hP hw hK;obtain⟨ys,p,hq,hx⟩:=hg;obtain⟨vs,rel,hl,da⟩:=t9 I hq de;obtain⟨⟨k,v⟩,hv,hk1,rv⟩:=ul rel hx;obtain⟨ok,ov,hit⟩:=st;obtain⟨f0,f1,f2,f3,f4,f5⟩:=hf it (by simp);subst hl;refine wpAny_pyNext_items_item hit da hv λkey h1 hkey ho ht hz kk=>?_;refine⟨_,rfl,wpAny_letOwnedTupleGo_items ho λh2 he2 sb=>?_⟩;have sb':LY it h1 h2:=sb;have hel:it<s.heap.objs.size:=LI hit;have k2:∀b o,b≠it->s.heap.get? b=some o->h2.get? b=some o:=λb o n1 q=>(sb'.2 b n1).trans (kk b o n1 q);have I1:Inv X Uq Z H {s with heap:=h2,toks:=s.toks}:=I.turned k2 f0 f1 f3 f4 f5;have fz:gX X Uq H s.heap.objs.size:=I.fpOk (GC _) (I.hok.fresh (GC _));have hT2:h2.get? s.heap.objs.size=some {cls:=.type "tuple",data:=.seq #[key,v]}:=(sb'.2 _ (Iq hel)).trans ht;have rk:RelV (kV p.1) key:=by
   have hk1':p.1=k:=hk1;rw[hk1'];rcases bh hkey with⟨i,t,rfl,rfl⟩|⟨x,t,rfl,rfl⟩;exact⟨_,rfl⟩;exact⟨_,rfl⟩
  have I2:Inv X Uq Z (upd H s.heap.objs.size (.tup [kV p.1,p.2])) {s with heap:=h2,toks:=s.toks}:=I1.track fz (.inr I.sz) I.sz ⟨by show 2<=sizeLine;decide,[key,v],.cons rk (.cons rv .nil),⟨_,hT2,⟨rfl,rfl⟩,_,rfl⟩⟩;refine⟨.ref s.heap.objs.size,_,I2,rfl,⟨_,p,fz.1,rfl,rfl,λys' hy=>by rw[hq]at hy;cases hy;exact hx⟩,⟨key,v,he2⟩,λb hb=>?_⟩;have z:b=it:=by simpa using hb
  subst z;rw[upd_ne (GN hel)];exact f0
 done:=by
  intro X hP hw hK hc i Uq s Z H E I hf st hg;subst hP hw hK;obtain⟨ys,hq,hx⟩:=hg;obtain⟨vs,rel,hl,da⟩:=t9 I hq de;obtain⟨ok,ov,hit⟩:=st;obtain⟨f0,f1,f2,f3,f4,f5⟩:=hf it (by simp);have hlen:ys.length=vs.length:=Paired.length rel;subst hl;refine wpAny_pyNext_items_end (I.ok.hd hc) hit da (IK (by omega)) λh1 eb=>⟨rfl,I.turned (t':=s.toks) (λb o hb e=>eb b o hb e) f0 f1 f3 f4 f5⟩
 self:=λA i s Q E st h=>by
  obtain⟨ok,ov,e1⟩:=st;have hT:s.TypeIs (.ref it) "dict_itemiterator" :=⟨_,e1,rfl⟩;refine wpAny_pyIter_slot hT Nv (Mi Nv hT (by first|exact kcp_entry|exact PySem.W.kcp_entry|exact PySem.kcp_entry) ?_ (F.args_dict_itemiterator_iter_1 _));show LH _ _ (ret (.ref it)) _ _ s;exact LF ⟨_,rfl,"dict_itemiterator",_,hT,F.slot_dict_itemiterator_next.lookup,h⟩
def DL(te:TE):TI:=λZ H R=>te Z H λx H1=>∃a o ys,x=.ref a/\H1 a=some (.frz o (.dK ys))/\R (Itm a o) H1
theorem uT{X:Cx}{o:Expr}{te:TE}{elts:List Expr}{k0:Nat}{apos pos pt:Pos}(ho:PE X o te)
  (hbase:Mk o "items" X.env (eval o X.env)=eval o X.env:=by rfl) (hline:(apos.endLine==pos.line)=true:=by rfl):PI X (.Tuple elts k0 pt) (.Call (.Attribute o "items" apos) [] [] pos) (DL te):=by
 intro Uq s Z H R I h;refine Oe hbase hline (thn (ho Uq s Z H _ I h) λv s1 ⟨x,H1,I1,r1,q1⟩=>?_);obtain⟨a,ob,ys,rfl,hf,q⟩:=q1;cases r1;obtain⟨e,z1,z2,vs,rel,dd⟩:=(show K0 X.prog X.w H1 s1.heap a (.frz ob (.dK ys))from I1.hok a _ hf);obtain⟨od,es,ep,e1,e2,e3,e4,e5,e6⟩:=id dd;have eo:od=ob:=by rw[e]at e1;cases e1;rfl
 subst eo;have de:DE od vs.length ep:=⟨es,e3,by rw[<-e5.length];simp⟩;refine⟨"dict","dict.items",PySem.F.plainAttrs_dict,Pt,F.type_dict_items,dd.typeIs,λb eb=>?_,Nd rfl (JO ?_)⟩
 ·cases eb;exact⟨od,e,e2.2.1⟩
 refine call_meetsIn Pt dd.typeIs F.entry_dict_items (F.args_dict_items_1 _) (meets_dict_items (bD X.prog X.w) a z2) ⟨⟨vs,dd⟩,?_⟩;refine wpAny_pyIter_items (knd:=bD X.prog X.w) (kvs:=vs) (ep:=ep) ⟨_,LK _ rfl,rfl,rfl⟩ ⟨od,es,LC _ e,e2,e3,e4,e5,e6⟩ ?_;have sz:(s1.heap.push {cls:=.type "dict_items",data:=.fields #[.ref a]}).objs.size=s1.heap.objs.size+1:=Mg _ _;refine⟨_,[_],_,Itm a od,H1,rfl,I1.kept (t':=s1.toks) λb o q=>LC _ (LC _ q),pY a _ od de,⟨.none,.none,LK _ rfl⟩,λb hb=>?_,q⟩;have z:=ysM hb;subst z;exact I1.fpOk (by rw[sz];exact JI _) (I1.hok.fresh (by rw[sz];exact JI _))
noncomputable def jx(ks:List Key) (is:List I):List I:=Iu (λk i=>.tup [bY k,i]) ks is
@[irreducible] noncomputable def pw(a:ME):MI:=⟨λO=>match a.run O with
 | some (⟨k,.im (.fd ks is)⟩,O1)=>some (([⟨k,.im (.fd ks is)⟩],(jx ks is).map λi=>⟨.ow,.im i⟩),O1)
 | _=>none,a.mu⟩
section
variable {Γ:Gm}{H H':Hp}{O:Rho}{Z:St}{E:List En}{v w x y:V}{K:yF}
noncomputable def Gm.hold(Γ:Gm) (a:Addr) (o:HO):Gm:=⟨Γ.K,upd Γ.H0 a o,Γ.io.filter (λb=>decide (b≠a)),Γ.iov⟩
theorem jE{a b:Addr}{o:HO}(h:b≠a):b∈(Γ.hold a o).io↔b ∈ Γ.io:=by
 show b ∈ Γ.io.filter _↔_;rw[GF];exact⟨λz=>z.1,λz=>⟨z,decide_eq_true h⟩⟩
theorem xQ{L:List Hd}{h:Hd}(hm:h∈L)(hk:h.e.r.k=.ow){b:Addr}(hb:b∈h.F):b∈L.flatMap Hd.own:=by
 refine Hs.mpr ⟨h,hm,?_⟩;unfold Hd.own;rw[hk];exact hb
theorem GW.hold{L:List Hd}{a:Addr}{o:HO}(g:GW Γ H L)(ha:H a=some o)(hm:AN o=false):GW (Γ.hold a o) H L:=by
 have ne:∀b,Mu H b->b≠a:=λb ⟨u,h1,h2⟩ e=>by
  subst e;rw[ha]at h1;cases h1;rw[hm]at h2;cases h2
 refine⟨g.nd,λb hb=>?_,g.rp,λh hh=>?_,g.ks,λb u hu hn=>?_,λb hb=>g.iol b (GF.mp hb).1⟩
 ·obtain⟨h1,h2⟩:=g.ad b hb;have n:=ne b h1;exact⟨h1,h2.imp (λz=>by show upd Γ.H0 a o b=none;rw[upd_ne n];exact z) (jE n).mpr⟩
 ·have kd:=g.kd h hh;unfold K2 at kd|-;split
  ·rename_i hk;rw[hk]at kd;intro b hb;have n:=ne b (g.ad b (xQ hh hk hb)).1;show upd Γ.H0 a o b=none;rw[upd_ne n];exact kd b hb
  ·rename_i hk;rw[hk]at kd;exact kd
  ·rename_i hk;rw[hk]at kd;exact kd
  ·rename_i hk;rw[hk]at kd;exact kd
 ·by_cases e:b=a
  ·subst e;have hu':upd Γ.H0 b o b=some u:=hu;rw[av]at hu';cases hu';exact ha
  ·have hu':upd Γ.H0 a o b=some u:=hu;rw[upd_ne e]at hu';exact g.fr b u hu' λz=>hn ((jE e).mpr z)
theorem GW.unhold{L:List Hd}{a:Addr}{o:HO}(g:GW (Γ.hold a o) H L)(hz:∀u,Γ.H0 a=some u->a∉Γ.io->u=o):GW Γ H L:=by
 have hn:∀b,(Γ.hold a o).H0 b=none->b≠a/\Γ.H0 b=none:=λb hb=>by
  have hb':upd Γ.H0 a o b=none:=hb;have n:b≠a:=λe=>by subst e;rw[av]at hb';cases hb'
  rw[upd_ne n]at hb';exact⟨n,hb'⟩
 have hio:a∉(Γ.hold a o).io:=λz=>by
  have:=(GF.mp z).2;simp at this
 have ha:H a=some o:=g.fr a o (av) hio;refine⟨g.nd,λb hb=>?_,g.rp,λh hh=>?_,g.ks,λb u hu hni=>?_,λb hb=>?_⟩
 ·obtain⟨h1,h2⟩:=g.ad b hb;exact⟨h1,h2.imp (λz=>(hn b z).2) λz=>(GF.mp z).1⟩
 ·have kd:=g.kd h hh;unfold K2 at kd|-;split
  ·rename_i hk;rw[hk]at kd;exact λb hb=>(hn b (kd b hb)).2
  ·rename_i hk;rw[hk]at kd;exact kd
  ·rename_i hk;rw[hk]at kd;exact kd
  ·rename_i hk;rw[hk]at kd;exact kd
 ·by_cases e:b=a
  ·subst e;rw[hz u hu hni];exact ha
  ·exact g.fr b u (by show upd Γ.H0 a o b=some u;rw[upd_ne e];exact hu) λz=>hni ((jE e).mp z)
 ·by_cases e:b=a;subst e;exact⟨o,ha⟩;exact g.iol b ((jE e).mpr hb)
theorem Sim.hold{a:Addr}{o:HO}(S:Sim Γ H O Z E)(ha:H a=some o)(hm:AN o=false):Sim (Γ.hold a o) H O Z E:=by
 obtain⟨⟨L,g,e⟩,h2,h3,h4⟩:=S;exact⟨⟨L,g.hold ha hm,e⟩,h2,h3,h4⟩
theorem Sim.held{a:Addr}{o:HO}(S:Sim (Γ.hold a o) H O Z E):H a=some o:=by
 obtain⟨⟨L,g,e⟩,h2,h3,h4⟩:=S;exact g.fr a o (av) λz=>by
  have:=(GF.mp z).2;simp at this
theorem Sim.unhold{a:Addr}{o:HO}(hz:∀u,Γ.H0 a=some u->a∉Γ.io->u=o)(S:Sim (Γ.hold a o) H O Z E):Sim Γ H O Z E:=by
 obtain⟨⟨L,g,e⟩,h2,h3,h4⟩:=S;exact⟨⟨L,g.unhold hz,e⟩,h2,h3,h4⟩
theorem Sim.holdz{a:Addr}{o:HO}(S:Sim Γ H O Z E)(ha:H a=some o):∀u,Γ.H0 a=some u->a∉Γ.io->u=o:=by
 obtain⟨⟨L,g,e⟩,h2,h3,h4⟩:=S;intro u h1 h2;have:=g.fr a u h1 h2;rw[ha]at this;cases this;rfl
theorem xx{ks:List Key}{is:List I}{i:Nat}{j:I}:(jx ks is)[i]?=some j->∃k x,ks[i]?=some k/\is[i]?=some x/\j=.tup [bY k,x]:=by
 unfold jx;rw[JF];intro h;cases e1:ks[i]? with
 | none=>rw[e1]at h;cases e2:is[i]?<;>rw[e2]at h<;>cases h
 | some k=>
  cases e2:is[i]? with
  | none=>rw[e1,e2]at h;cases h
  | some x=>rw[e1,e2]at h;cases h;exact⟨k,x,rfl,rfl,rfl⟩
theorem wU{a:Addr}{o:Obj}{ys:List (Key×V)}{k:Kd}{ks:List Key}{is:List I}(h1:ys.map (·.1)=ks)(hl:is.length=ys.length):fW (Γ.hold a (.frz o (.dK ys))) (Itm a o) [.ref a] [⟨k,.im (.fd ks is)⟩] ((jx ks is).map λi=>⟨.ow,.im i⟩):=λH O Z E S=>by
 have ha:=S.held;replace S:Sim (Γ.hold a (.frz o (.dK ys))) H O Z (⟨none,.ref a,⟨k,.im (.fd ks is)⟩⟩::E):=S;have r1:Rpx (Γ.hold a (.frz o (.dK ys))).K H (.im (.fd ks is)) (.ref a):=S.rd (e:=⟨none,.ref a,⟨k,.im (.fd ks is)⟩⟩) ymS;have r2:=bP r1;rw[RpI]at r2;obtain⟨a',o',ys',ea,ha',_,g2⟩:=r2;cases ea;rw[ha]at ha';cases ha';have lk:ks.length=ys.length:=by rw[<-h1,Gv]
 have ln:(jx ks is).length=ys.length:=by unfold jx;rw[IC,lk,hl,Js]
 refine⟨λi hi=>⟨ys,ha,by rw[Gv,ln]at hi;exact hi⟩,λi r hr=>?_⟩;obtain⟨j,hj,rfl⟩:=ay hr;obtain⟨kk,x0,e1,e2,rfl⟩:=xx hj;obtain⟨w0,hw,rw0⟩:=g2.get e2;rw[GE]at hw;obtain⟨p,hp,rfl⟩:=Hg.mp hw;have ek:kk=p.1:=by
  rw[<-h1,GE,hp]at e1;cases e1;rfl
 subst ek;refine⟨⟨ys,p,ha,hp⟩,λx H' y=>?_⟩;obtain⟨l,p',hl',rfl,rfl,hx⟩:=y;have:=hx ys ha;rw[hp]at this;cases this;exact S.fresh (New.tup hl' (.cons (xA _) (.cons rw0 (by rw[KS]))))
theorem yU{ta:TE}{a:ME}(ha:aT K ta a):jQ K (DL ta) (pw a):=by unhygienic
 intro Γ H O Z E Rr src items O' hK hr S q;simp only[pw]at hr;split at hr
 ·rename_i k ks is O1 e1;cases hr;refine ha Γ H O Z E _ _ _ hK e1 S λv H1 S1=>?_;have r1:Rpx Γ.K H1 (.im (.fd ks is)) v:=S1.rd (e:=⟨none,v,⟨k,.im (.fd ks is)⟩⟩) ymS;have r2:=bP r1;rw[RpI]at r2;obtain⟨a',o,ys,rfl,h1,h2,h3⟩:=r2;refine⟨a',o,ys,rfl,h1,q (Γ.hold a' (.frz o (.dK ys))) rfl (λ_ _ _ _ S=>S.unhold (S1.holdz h1)) _ [.ref a'] H1 rfl (S1.hold h1 rfl) (wU h2 (by rw[<-h3.length,Gv]))⟩
 ·cases hr
end
section
variable {ι : Type}{C:ι->Cx}{P:LM}{W:LU}{K:yF}{mg:Str->Option LB}{base:Heap}{k:Nat}{o:Expr}{m:ME}{pos:Pos}
theorem vC{elts:List Expr}{k0:Nat}{apos pt:Pos}(ck:CK C P W K mg base k)(ho:QE C K o m)(hbase:∀i,Mk o "items" (C i).env (eval o (C i).env)=eval o (C i).env:=by intro _;rfl)(hline:(apos.endLine==pos.line)=true:=by rfl):QI C K (.Tuple elts k0 pt) (.Call (.Attribute o "items" apos) [] [] pos) (pw m):=by
 obtain⟨te,q,r⟩:=ho;exact⟨_,λi=>uT (q i) (hbase i) hline,yU r⟩
end
theorem wY{m:ME}{O:Rho}{QI':List R->List R->Rho->Prop}(h:WE m O λr O1=>∃k ks is,r=⟨k,.im (.fd ks is)⟩/\QI' [⟨k,.im (.fd ks is)⟩] ((jx ks is).map λi=>⟨.ow,.im i⟩) O1):WI (pw m) O QI':=by
 obtain⟨r,O1,e1,k,ks,is,rfl,q⟩:=h;exact⟨_,_,_,by simp only[pw,e1],q⟩
theorem lf(its:List LB):Pz its.toArray none none (some (-1))=its.reverse.toArray:=by
 have e:=oO its.toArray;have hb:MF none none (some (-1)) its.toArray.size=((its.toArray.size:Int)-1,-1,-1):=rfl;unfold Pz;rw[hb];dsimp only;unfold sliceRange;have hc:(if(-1:Int)>0 then(if((its.toArray.size:Int)-1) < -1 then(-1-((its.toArray.size:Int)-1) + -1-1) / -1 else 0)else(if((its.toArray.size:Int)-1) > -1 then(((its.toArray.size:Int)-1) - -1 - -1-1) / (- -1)else 0)).toNat=its.toArray.size:=by
  rw[if_neg (by decide)];split;rw[KN,J1];omega;omega
 simp only[hc];rw[Ir];congr 1;refine Eq.trans ?_ e;congr 1;funext k;show its.toArray[(((its.toArray.size:Int)-1) + -1*(k:Int)).toNat]?=_;rw[Int.mul_comm]
section
variable {X:Cx}
def wA(K:yF)(te:TE):TE:=λZ H Q=>te Z H λx H1=>∃a xs,x=.ref a/\SqL K H1 a xs/\∀p,H1 p=none->Q (.ref p) (upd H1 p (.lst xs.reverse))
theorem xY{e:Expr}{te:TE}{j:Nat}{p1 p2 p3 pos:Pos}(he:PE X e te):PE X (.Subscript e (.Slice none none (some (.UnaryOp .USub (.Constant (.int 1) j p1) p2)) p3) pos) (wA X.K te):=by
 intro Uq s Z H Q I h;refine Oq (thn (he Uq s Z H _ I h) λv s1 ⟨x,H1,I1,r1,q1⟩=>?_);obtain⟨a,xs,rfl,hq,q⟩:=q1;cases r1;refine OD ?_;rw[Nq];refine LF (LF ?_);rw[OY];refine thn (uP p9 pK Uq s1 Z H1 (λx H2=>x=.int (-1)/\H2=H1) I1 ⟨1,rfl,rfl,rfl⟩) λvu s2 ⟨y,H2,I2,r2,e1,e2⟩=>?_;subst e1 e2;obtain⟨tt,rfl⟩:=r2;have I3:Inv X Uq Z H2 {s2 with heap:=s2.heap.push {cls:=.type "slice",data:=.fields #[.none,.none,.int (-1) tt]}}:=I2.kept (t':=s2.toks) λb ob q=>LC _ q;obtain⟨its,r,ht,hz⟩:=I3.list hq;have hlen:=r.length;show LH (LL X.prog X.w) X.A (Nr e (.Slice none none (some (.UnaryOp .USub (.Constant (.int 1) j p1) p2)) p3) (.ref a) (.ref s2.heap.objs.size)) (EP X Uq Z Q) X.xe {s2 with heap:=s2.heap.push {cls:=.type "slice",data:=.fields #[.none,.none,.int (-1) tt]}};refine Qe (ops:=[.ref a,.ref s2.heap.objs.size]) ht.isList.typeIs NZ.lookup (N5 (lo:=none) (hi:=none) (st:=some (-1)) ht.isList (M5 ..) .none .none (.int (-1) tt) (by simp) ?_ (by rw[Gw]<;>omega)) (by unhygienic rfl);rw[lf];refine⟨.ref _,_,I3.laid (t':=s2.toks) (o:=.lst xs.reverse) (λb ob q=>LC _ q) (GC _) ?_,rfl,q _ (I3.hok.fresh (GC _))⟩;exact⟨by rw[Ij];exact hz,its.reverse,0,r.reverse,LK _ rfl⟩
theorem Fe{K:yF}{e:Expr}{te:TE}{j:Nat}{p1 p2 p3 pos:Pos}(h:X.K=K)(he:PE X e te):PE X (.Subscript e (.Slice none none (some (.UnaryOp .USub (.Constant (.int 1) j p1) p2)) p3) pos) (wA K te):=h▸xY he
end
@[irreducible] noncomputable def oN:T->Option T
 | .li is=>some (.li is.reverse)
 | _=>none
section
variable {K:yF}
theorem wc{ta:TE}{a:ME}(ha:aT K ta a):aT K (wA K ta) (mUn oN a):=by unhygienic
 intro Γ H O Z E Q r O' hK hr S q;simp only[mUn]at hr;split at hr
 ·rename_i ra O1 e1;split at hr
  ·rename_i t e2;cases hr;refine ha Γ H O Z E _ ra _ hK e1 S λx H1 S1=>?_;have r1:=S1.rd ymS;obtain⟨k,ta⟩:=ra;unfold oN at e2;split at e2
   ·rename_i is e0;cases e2;have e0':ta=.li is:=e0;subst e0';obtain⟨p,xs,ex,g1,g2⟩:=bE r1;exact⟨p,xs,ex,aP g1,λp hp=>q _ _ ((S1.drop rfl).fresh (.li hp g2.reverse))⟩
   ·cases e2
  ·cases hr
 ·cases hr
end
section
variable {ι : Type}{C:ι->Cx}{P:LM}{W:LU}{K:yF}{mg:Str->Option LB}{base:Heap}{k:Nat}{a:Expr}{ma:ME}{pos:Pos}
theorem Cf{j:Nat}{p1 p2 p3:Pos}(ck:CK C P W K mg base k)(ha:QE C K a ma):QE C K (.Subscript a (.Slice none none (some (.UnaryOp .USub (.Constant (.int 1) j p1) p2)) p3) pos) (mUn oN ma):=by
 obtain⟨ta,p,r⟩:=ha;exact⟨_,λi=>Fe (ck.kk i) (p i),wc r⟩
end
theorem BH{is:List I}{Q:T->Prop}(q:Q (.li is.reverse)):W1 (oN (.li is)) Q:=by unhygienic exact⟨_,rfl,q⟩
end L2
namespace L2
open PySem
noncomputable section
noncomputable def cP:MS:=(ao (aA (aS [] mNil) (ae 2))
  (ao (aA (mB cE (aa 1 mNil)) (ae 3))
  (ao (bQ (sj (ac (mB dA (aa 0 mNil)) mNil)) (ae 4)
  (bS [4] (mIf (aI (mOp eqT (mIx (af 4) (mC (.int 0))) (mC (.str "num")))) (bm (cF 2 [4] apT (af 2) (aa 4 mNil))) (mIf (aI (mOp eqT (mIx (af 4) (mC (.int 0))) (mC (.str "at")))) (ao (si 3 (· - ·) (mC (.int 1)))
  (bm (cF 2 [] apT (af 2) (ac (ar [] (ac (mC (.str "at")) (ac (mIx (af 4) (mC (.int 1))) (ac (mIx (af 1) (af 3)) mNil)))) mNil)))) (mIf (aI (mOp eqT (mIx (af 4) (mC (.int 0))) (mC (.str "op")))) (bm (kh 2 [] apT (ac (ar [] (ac (mC (.str "op")) (ac (mIx (af 4) (mC (.int 1))) (ac (f8 2 je (af 2)) (ac (f8 2 je (af 2)) mNil))))) mNil))) (bm (kh 2 [] apT (ac (ar [] (ac (mC (.str "if")) (ac (f8 2 je (af 2)) (ac (f8 2 je (af 2)) (ac (f8 2 je (af 2)) mNil))))) mNil))))))))
  (aX (mIx (af 2) (mC (.int 0)))))))
noncomputable def eG(ts:List T):Option T:=if ts.length=2 then cN cP 5 ts else none
noncomputable def cq:MS:=(ao (aA (mB eJ (ac (aH [none,none,none,none,none] (mIt (mOp kW (af 2) (af 0))) (ae 4) mYes (mUn ux (af 4))) mNil)) (ae 3))
  (aX (mB eG (aa 1 (ac (aH [none,none,some 2,some 3,none,none] (mIt (mB gO (aa 1 mNil))) (bq (au (ae 4) (au (ae 5) mGNil))) mYes (mB gL (ac (mB gL (aa 5 (ac (mOp kW (af 2) (af 4)) mNil))) (aa 3 mNil)))) mNil)))))
noncomputable def dR(ts:List T):Option T:=if ts.length=3 then cN cq 4 ts else none
noncomputable def gF:MS:=(ao (aA (af 0) (bq (au (ae 2) (au (ae 3) (au (ae 4) mGNil)))))
  (aX (ar [2,3] (aa 2 (aa 3 (ac (mB eJ (ac (aH [none,some 1,none,none,none,none,none] (mIt (af 4)) (bq (au (ae 5) (au (ae 6) mGNil))) mYes (ar [5] (aa 5 (ac (mB dR (aa 5 (aa 6 (aa 1 mNil)))) mNil)))) mNil)) mNil))))))
noncomputable def gM(ts:List T):Option T:=if ts.length=2 then cN gF 5 ts else none
noncomputable def cm:MS:=(ao (aA (af 0) (bq (au (ae 2) (au (ae 3) mGNil))))
  (aX (ar [2] (aa 2 (ac (mB gL (aa 3 (ac (mOp kW (af 1) (af 2)) mNil))) mNil)))))
noncomputable def cy(ts:List T):Option T:=if ts.length=2 then cN cm 4 ts else none
noncomputable def iN:MS:=(aX (mB eJ (ac (aH [none,none,some 2,none,none] (kY (aa 0 (aa 1 mNil))) (bq (au (ae 3) (au (ae 4) mGNil))) mYes (mOp bd (af 3) (mOp cX (af 2) (af 4)))) mNil)))
noncomputable def gf(ts:List T):Option T:=if ts.length=3 then cN iN 3 ts else none
noncomputable def fo(rec:List T->Option T):MS:=(ao (mIf (aI (mOp eqT (mIx (af 0) (mC (.int 0))) (mC (.str "num")))) (aX (af 0)) mNext)
  (ao (mIf (aI (mOp eqT (mIx (af 0) (mC (.int 0))) (mC (.str "at")))) (aX (ar [] (ac (mC (.str "at")) (ac (mIx (af 0) (mC (.int 1))) (ac (mB gf (ac (mB gf (ac (mIx (af 0) (mC (.int 2))) (ac (mOp kW (af 1) (mIx (af 0) (mC (.int 1)))) (ac (mC (.int 1)) mNil)))) (aa 2 (ac (mOp bR (mC (.int 0)) (mC (.int 1))) mNil)))) mNil))))) mNext)
  (ao (aA (mOp bd (mC (.int 1)) (mB pj (ac (mOp eqT (mIx (af 0) (mC (.int 0))) (mC (.str "op"))) mNil))) (ae 3))
  (aX (mOp bd (mSl (af 0) mNoPart (dH (af 3))) (mB eJ (ac (aH [none,some 1,some 2,none,none] (mIt (mSl (af 0) (dH (af 3)) mNoPart)) (ae 4) mYes (mB rec (aa 4 (aa 1 (aa 2 mNil))))) mNil)))))))
noncomputable def dN:Nat->List T->Option T
 | 0=>λts=>if ts.length=3 then cN i8 4 ts else none
 | n+1=>λts=>if ts.length=3 then cN (fo (dN n)) 4 ts else none
noncomputable def dX:MS:=(ao (aA (mIx (af 1) (mC (.int 0))) (ae 2))
  (ao (aA (aH [none,none,none,none,none,none,none,none,none] (mIt (mIx (af 1) (mC (.int 2)))) (bq (au (ae 6) (au (ae 8) mGNil))) mYes (af 6)) (ae 3))
  (ao (aA (ak 0 0 ai (aa 0 (ac (mB cE (aa 3 mNil)) mNil))) (ae 4))
  (ao (aA mDN (ae 5))
  (ao (bQ (mIt (mOp bd (mSl (af 3) (dH (af 4)) mNoPart) (mSl (af 3) mNoPart (dH (af 4))))) (ae 6)
  (bS [6,7] (ao (aA (mIx (aS [] (ac (mC (.int 1)) (ac (mC (.int 3)) (ac (mC (.int 7)) mNil)))) (ak 0 0 ai (aa 0 (ac (mC (.int 3)) mNil)))) (ae 7))
  (aA (mB eJ (ac (aH [some 0,none,none,none,none,none,none,some 7,none] (aV (aa 2 mNil)) (ae 8) mYes (mOp bR (ak 0 0 ai (aa 0 (aa 7 mNil))) (mOp f6 (af 7) (mC (.int 2))))) mNil)) (lG 5 (af 5) (af 6))))))
  (aX (af 5)))))))
noncomputable def eg(ts:List T):Option (T×T):=if ts.length=2 then eH dX 0 8 ts else none
noncomputable def du:MS:=(ao (aA (aS [] mNil) (ae 3))
  (ao (bQ (mIt (mIx (af 0) (mC (.int 2)))) (bq (au (ae 4) (au (ae 5) mGNil)))
  (bS [4,5] (bm (cF 3 [] apT (af 3) (ac (ar [4] (aa 4 (ac (mB (dN 24) (aa 5 (aa 1 (ac (mOp kW (af 1) (af 4)) mNil)))) mNil))) mNil)))))
  (ao (aA (iK (mB rR (aa 1 mNil))) (ae 6))
  (ao (aA (mB gM (aa 0 (aa 6 mNil))) (ae 7))
  (ao (aA (iK (mB jW (ac (aH [none,none,none,none,none,none,none,none,none,none,none,none] (pw (af 1)) (bq (au (ae 4) (au (ae 11) mGNil))) mYes (ar [4] (aa 4 (ac (mB eJ (ac (aH [none,none,none,none,none,none,none,none,none,none,none,none,none] (mIt (af 11)) (ae 12) mYes (mOp bR (mC (.int 0)) (af 12))) mNil)) mNil)))) mNil))) (ae 8))
  (ao (mIf (mOr (nY (aI (mB (dE 24) (aa 7 (ac (ar [] (ac (mIx (af 0) (mC (.int 0))) (ac (mIx (af 0) (mC (.int 1))) (ac (mB eJ (aa 3 mNil)) mNil)))) mNil))))) (mOr (aI (mOp neT (mB gM (aa 7 (aa 8 mNil))) (af 0))) (aI (mOp t6 (af 6) (af 1))))) (aX (mC (.bl false))) mNext)
  (ao (bQ (mIt (mIx (af 0) (mC (.int 2)))) (bq (au (ae 4) (au (ae 5) mGNil)))
  (bS [4,5,9,10] (bQ (mIt (af 2)) (ae 9)
  (bS [9,10] (ao (aA (ar [4] (aa 4 (ac (mB gf (aa 9 (ac (mOp kW (af 1) (af 4)) (ac (mC (.int 1)) mNil)))) mNil))) (ae 10))
  (ao (mIf (nY (aI (mB (dE 24) (ac (mB cy (ac (ar [4,9] (aa 4 (aa 9 mNil))) (aa 6 mNil))) (aa 10 mNil))))) (aX (mC (.bl false))) mNext)
  (mIf (aI (mOp neT (mB cQ (aa 7 (aa 10 mNil))) (aH [none,some 1,none,none,none,none,none,none,none,none,none,none] (mIt (mB cQ (aa 0 (ac (ar [4,9] (aa 4 (aa 9 mNil))) mNil)))) (ae 11) mYes (mB cy (aa 11 (aa 1 mNil)))))) (aX (mC (.bl false))) mNext)))))))
  (aX (mC (.bl true))))))))))
noncomputable def fv(ts:List T):Option T:=if ts.length=3 then cN du 11 ts else none
noncomputable def fm:MS:=(ao (bQ (aV (ac (mB oa (ac (mC (.int 2)) (ac (mB oe (ac (mB cE (aa 0 mNil)) (ac (mC (.int 5)) mNil))) mNil))) mNil)) (ae 1)
  (bS [1,2,3,4,5,6,7,8,9,10,11,12] (ao (aA (mB kF (aa 0 (aa 1 mNil))) (ae 2))
  (ao (aA (ar [] (ac (ak 0 2 ai (aa 2 (ac (mC (.int 4)) mNil))) (ac (ak 0 2 jg (aa 2 mNil)) mNil))) (bq (au (ae 3) (au (ae 4) mGNil))))
  (ao (mIf (aI (mOp eqT (af 3) (mC (.int 0)))) (aA (ak 0 2 dO (aa 2 mNil)) (ae 4)) mNext)
  (ao (iL 5 6 (ac (iK (ak 0 2 eg (aa 2 (aa 4 mNil)))) (ac (iK (ak 0 2 eg (aa 2 (aa 4 mNil)))) mNil)))
  (ao (aA (aH [none,none,some 2,none,some 4,none,none,none,none,none,none,none,none,none] (aV (ac (mC (.int 2)) mNil)) (ae 13) mYes (ak 0 2 jh (aa 2 (ac (mIx (af 4) (mC (.int 0))) mNil)))) (ae 7))
  (ao (iL 8 9 (ac (aH [none,none,none,none,none,none,none,none,none,none,none,none,none,none] (mIt (mIx (af 4) (mC (.int 2)))) (ae 13) mYes (mIx (af 13) (mC (.int 0)))) (ac (aH [none,none,none,none,none,none,none,none,none,none,none,none,none,none] (mIt (mIx (af 4) (mC (.int 2)))) (ae 13) mYes (mIx (af 13) (mC (.int 1)))) mNil)))
  (ao (aA (ar [] (ac (mIx (af 4) (mC (.int 0))) (ac (mIx (af 4) (mC (.int 1))) (ac (mB eJ (ac (aH [none,none,none,none,none,none,none,none,none,none,none,none,none,none,none] (kY (aa 8 (ac (mUn oN (af 9)) mNil))) (bq (au (ae 13) (au (ae 14) mGNil))) mYes (ar [13,14] (aa 13 (aa 14 mNil)))) mNil)) mNil)))) (ae 10))
  (bQ (mIt (ar [] (ac (ar [4,5] (aa 4 (aa 5 mNil))) (ac (ar [4,6] (aa 4 (aa 6 mNil))) (ac (ar [10,6] (aa 10 (aa 6 mNil))) (ac (ar [10,5] (aa 10 (aa 5 mNil))) (ac (ar [4,5] (aa 4 (aa 5 mNil))) mNil))))))) (bq (au (ae 11) (au (ae 12) mGNil)))
  (bS [11,12] (mIf (nY (aI (mB fv (aa 11 (aa 12 (aa 7 mNil)))))) (aX (mC (.bl false))) mNext))))))))))))
  (aX (mC (.bl true))))
noncomputable def r_l_law_v6(ts:List T):Option T:=if ts.length=1 then cN fm 13 ts else none
end
end L2
namespace K46
open PySem PySem.Spec PyProof.Rows L2
noncomputable def top(i:Nat):Stmt:=PySem.Challenge.pw_clockhouse_k46_houses_moved.main.body.getD i (.Pass ⟨0,0,0,0⟩)
noncomputable abbrev eI:Stmt:=top 1
noncomputable abbrev iq:Stmt:=top 2
noncomputable abbrev nw:Stmt:=top 3
noncomputable abbrev gt:Stmt:=top 4
noncomputable abbrev fH:Stmt:=top 6
noncomputable abbrev jk:Stmt:=top 7
noncomputable abbrev wp:Stmt:=top 8
noncomputable abbrev gr:Stmt:=top 9
noncomputable abbrev nv:Stmt:=top 11
noncomputable abbrev fK:Stmt:=top 12
noncomputable abbrev fJ:Stmt:=top 13
noncomputable abbrev gn:Stmt:=top 15
noncomputable abbrev gq:Stmt:=top 16
noncomputable abbrev fD:Stmt:=top 17
noncomputable abbrev ip:Stmt:=top 18
noncomputable abbrev dg:Stmt:=top 19
noncomputable abbrev cz:Stmt:=top 20
noncomputable abbrev cA:Stmt:=top 21
noncomputable abbrev cD:Stmt:=top 22
noncomputable abbrev bF:Stmt:=top 23
noncomputable abbrev cC:Stmt:=top 24
noncomputable abbrev fF:Stmt:=top 25
noncomputable abbrev fA:Stmt:=top 26
noncomputable abbrev fB:Stmt:=top 27
noncomputable abbrev cB:Stmt:=top 28
noncomputable abbrev fw:Stmt:=top 29
noncomputable abbrev fE:Stmt:=top 30
noncomputable abbrev gp:Stmt:=top 31
noncomputable abbrev il:Stmt:=top 32
noncomputable abbrev dS:Stmt:=top 33
noncomputable abbrev fG:Stmt:=top 34
noncomputable abbrev s_law:Stmt:=top 35
structure GT(K:yF)(mg:Str->Option LB):Prop where
 triv:True
end K46
namespace L2
open PySem PySem.Spec PyProof.Rows
section
variable {O:Rho}{a b m:ME}{ms:MA}{QE':R->Rho->Prop}{QA':List R->Rho->Prop}
theorem tL{M:List Nat}{t:T}:ax M ⟨.ow,t⟩=true:=by unhygienic rfl
theorem bI{r:R}:ax [] r=true:=by
 obtain⟨k,t⟩:=r;cases k with
 | vw o p=>cases o<;>unhygienic rfl
 | _=>unhygienic rfl
theorem FH{i:I}(h:WA ms O λrs O2=>QA' (⟨.ow,.im i⟩::rs) O2):WA (ac (mC i) ms) O QA':=nE (w_C (WA.mono h λ_ _ q=>gu tL q))
theorem Gq(h:WE m O λr O1=>QA' [r] O1):WA (ac m mNil) O QA':=nE (WE.mono h λ_ _ q=>kQ (gu (by unhygienic exact bI) q))
theorem FC{f:T->T->Option T}{i:I}(h:WE a O λra O1=>W1 (f ra.t (.im i)) λt=>QE' ⟨.ow,t⟩ O1):WE (mOp f a (mC i)) O QE':=qc (WE.mono h λ_ _ q=>w_C (gu (by unhygienic exact bI) q))
theorem FD{f:T->T->Option T}{n:Nat}(h:WE a O λra O1=>WE (af n) O1 λrb O2=>W1 (f ra.t rb.t) λt=>QE' ⟨.ow,t⟩ O2):WE (mOp f a (af n)) O QE':=qc (WE.mono h λ_ _ h=>WE.mono h λ_ _ q=>gu (by unhygienic exact bI) q)
noncomputable def owL:Nat->List R->Option (List T)
 | _,[]=>some []
 | n+1,⟨.ow,t⟩::rs=>match owL n rs with
  | some ts=>some (t::ts)
  | none=>none
 | _,_=>none
theorem ku{mv:List Nat}{O:Rho}:∀{n:Nat} {rs:List R} {ts:List T},owL n rs=some ts->rs.length<=n/\consL mv rs O=some (ts,O)
 | _,[],ts,h=>by rw[owL]at h;cases h;exact⟨Ie _,rfl⟩
 | 0,_::_,ts,h=>by simp[owL]at h
 | n+1,⟨k,t⟩::rs,ts,h=>by
  cases k with
  | ow=>
   rw[owL]at h;cases e:owL n rs with
   | none=>rw[e]at h;cases h
   | some us=>
    rw[e]at h;cases h;obtain⟨h1,h2⟩:=ku (mv:=mv) (O:=O) e;exact⟨Jp h1,by rw[consL,h2]⟩
  | _=>simp[owL]at h
def OwT(rs:List R)(Q:List T->Prop):Prop:=∃ts,owL 1000 rs=some ts/\Q ts
theorem D4{rs:List R}{ts:List T}{Q:List T->Prop}(h:owL 1000 rs=some ts)(q:Q ts):OwT rs Q:=⟨ts,h,q⟩
theorem Dj(h:WA ms O λrs O1=>OwT rs λts=>QE' ⟨.ow,lJ ts⟩ O1):WE (ar [] ms) O QE':=wS (WA.mono h λ_ _ ⟨_,e,q⟩=>gu (decide_eq_true (ku (mv:=[]) (O:=O) e).1) ⟨_,_,(ku e).2,q⟩)
theorem Da(h:WA ms O λrs O1=>OwT rs λts=>QE' ⟨.ow,bT ts⟩ O1):WE (aS [] ms) O QE':=wP (WA.mono h λ_ _ ⟨_,e,q⟩=>gu (decide_eq_true (ku (mv:=[]) (O:=O) e).1) ⟨_,_,(ku e).2,q⟩)
theorem Go{run:List T->Option (T×T)}{k0:Nat}{t:T}{i:I}(h:W2 (run [t,.im i]) λx s=>QE' ⟨.ow,x⟩ (some ⟨.io k0,s⟩::aq [0] O)):WE (ak 0 0 run (aa 0 (ac (mC i) mNil))) (some ⟨.io k0,t⟩::O) QE':=
 nC (dU rfl (FH (kQ (o6 rfl (Ar rfl (by unhygienic rfl) rfl rfl (W2.mono h λx s q=>by rw[m8];exact q))))))
theorem FG{run:List T->Option (T×T)}{k0 n:Nat}{t:T}{r0:R}(h0 : O[n]?=some (some r0))(ha:ax [0] (rdR (n+1) r0)=true)(h:W2 (run [t,(rdR (n+1) r0).t]) λx s=>QE' ⟨.ow,x⟩ (some ⟨.io k0,s⟩::aq [0] O)):WE (ak 0 0 run (aa 0 (aa (n+1) mNil))) (some ⟨.io k0,t⟩::O) QE':=
 nC (dU rfl (dU (r0:=r0) h0 (kQ (o6 (r:=r0) h0 (o6 rfl (Ar rfl (by show(true&&_)=true;simp[G9,G9.loop,ha]) rfl rfl (W2.mono h λx s q=>by rw[m8];exact q)))))))
theorem wT{n:Nat}{r0:R}(h0 : O[n]?=some (some r0))(q:QA' [rdR n r0] O):WA (aa n mNil) O QA':=dU (r0:=r0) h0 (kQ (o6 (r:=r0) h0 q))
theorem FJ{n:Nat}{r0:R}{k:Int}{Q:Int->Rho->Prop}(h0 : O[n]?=some (some r0))(hk:(rdR n r0).t=.im (.int k))(q:Q k O):WA (aa n mNil) O (λrs O1=>Lw rs λk=>Q k O1):=wT h0 (qH (by rw[Gs,hk];rfl) q)
theorem C8{n:Nat}{r0:R}{i:I}(h0 : O[n]?=some (some r0))(h:W1 (ixR (rdR n r0) (.im i)) λr=>QE' r O):WE (mIx (af n) (mC i)) O QE':=wN (fS h0 (w_C (gu (by unhygienic exact bI) h)))
theorem C9{n m:Nat}{r0 r1:R}(h0 : O[n]?=some (some r0))(h1 : O[m]?=some (some r1))(h:W1 (ixR (rdR n r0) (rdR m r1).t) λr=>QE' r O):WE (mIx (af n) (af m)) O QE':=wN (fS h0 (fS h1 (gu (by unhygienic exact bI) h)))
theorem Dh{f:T->T->Option T}{n m:Nat}{r0 r1:R}(h0 : O[n]?=some (some r0))(h1 : O[m]?=some (some r1))(h:W1 (f (rdR n r0).t (rdR m r1).t) λt=>QE' ⟨.ow,t⟩ O):WE (mOp f (af n) (af m)) O QE':=qc (fS h0 (fS h1 (gu (by unhygienic exact bI) h)))
theorem Dg{f:T->T->Option T}{n:Nat}{r0:R}{i:I}(h0 : O[n]?=some (some r0))(h:W1 (f (rdR n r0).t (.im i)) λt=>QE' ⟨.ow,t⟩ O):WE (mOp f (af n) (mC i)) O QE':=qc (fS h0 (w_C (gu (by unhygienic exact bI) h)))
theorem Df{f:T->T->Option T}{n:Nat}{r0:R}{i:I}(h0 : O[n]?=some (some r0))(h:W1 (f (.im i) (rdR n r0).t) λt=>QE' ⟨.ow,t⟩ O):WE (mOp f (mC i) (af n)) O QE':=qc (w_C (fS h0 (gu (by unhygienic exact bI) h)))
theorem De{f:T->T->Option T}{i j:I}(h:W1 (f (.im i) (.im j)) λt=>QE' ⟨.ow,t⟩ O):WE (mOp f (mC i) (mC j)) O QE':=qc (w_C (w_C (gu (by unhygienic exact bI) h)))
theorem Am{n m:Nat}{r0 r1:R}(h0 : O[n]?=some (some r0))(h1 : O[m]?=some (some r1))(q:QA' [rdR n r0,rdR m r1] O):WA (aa n (aa m mNil)) O QA':=dU (r0:=r0) h0 (wT h1 (o6 (r:=r0) h0 q))
theorem FI{n m k:Nat}{r0 r1 r2:R}(h0 : O[n]?=some (some r0))(h1 : O[m]?=some (some r1))(h2 : O[k]?=some (some r2))(q:QA' [rdR n r0,rdR m r1,rdR k r2] O):WA (aa n (aa m (aa k mNil))) O QA':=dU (r0:=r0) h0 (Am h1 h2 (o6 (r:=r0) h0 q))
end
end L2
namespace L2
open PySem
noncomputable section
end
end L2
namespace L2
open PySem PySem.Spec PyProof.Rows
local macro_rules|`(tactic| ac_nf)=>`(tactic| try simp only[AR,DS,DR,xy,DT,List.set_cons_zero,JX,m8,yL,CJ,CM,CL,yM,t5,rS])
local macro_rules|`(tactic| infer_instance)=>`(tactic| first
 | refine qE ?_|refine xo ?_|(refine xm ?_;try ac_nf)|refine AD ?_|refine DG rfl ?_|refine DJ ?_
 | refine Al ?_|refine Fx ?_|refine FF ?_|refine qa ?_|refine Dc ?_|refine Fz ?_|refine FE ?_|refine Di ?_
 | refine w_C ?_|refine fS rfl ?_|refine Dh rfl rfl ?_|refine Dg rfl ?_|refine Df rfl ?_|refine De ?_|refine FC ?_|refine FD ?_|refine qc ?_|refine Gp ?_|refine w_B ?_|refine w_M ?_|refine C8 rfl ?_|refine C9 rfl rfl ?_|refine wN ?_|refine Gn ?_|refine Dj ?_|refine Da ?_|refine D4 (by unhygienic rfl) ?_|refine wP ?_|refine wS ?_|refine C5 ?_|refine Dd ?_|refine Go ?_|refine FG rfl (by unhygienic rfl) ?_|refine nC ?_|refine wQ ?_|refine Db ?_
 | refine zA ?_|refine zB ?_
 | refine kQ ?_|refine FH ?_|refine Gq ?_|refine FJ rfl rfl ?_|refine wT rfl ?_|refine Am rfl rfl ?_|refine FI rfl rfl rfl ?_|refine nE ?_|refine dU rfl ?_
 | refine zD ?_|refine Dt ?_|refine Ds ?_|refine Dr ?_|refine FK ?_|refine jm ?_
 | (refine zw (by unhygienic rfl) ?_;try ac_nf)|refine Do rfl ?_|refine wW (by unhygienic rfl) ?_|refine zx ?_|refine Dn ?_|refine wV ?_
 | refine gu (by unhygienic rfl) ?_
 | refine Bm ?_|refine El ?_|refine Ei ?_|refine D6 ?_|refine D7 ?_|refine Eh ?_|refine D9 ?_|refine By ?_|refine Bw ?_|refine xS ?_|refine Eg ?_|refine Ef ?_|refine Bt ?_|refine BJ ?_|refine Bz ?_|refine Ej ?_|refine Ek ?_|refine BF ?_|refine BG rfl ?_
 | refine zR rfl ?_|refine zS rfl ?_|refine uI (n:=0) rfl (JG rfl) ?_|refine uI (n:=1) rfl (JG rfl) ?_
 | refine qP (F7 (by decide) (by decide)) ?_|refine qP (A2 (by decide) (by decide)) ?_|refine uF (by omega) ?_|refine Bs (by omega) ?_
 | refine qb (by rfl) ?_|refine pd ?_|refine qq ?_
 | refine uD (b:=true) rfl (by decide) ?_|refine uD (b:=false) rfl (by decide) ?_|refine BB ?_
 | refine F3 ?_|refine F4 ?_|refine o6 rfl ?_|refine Ar rfl (by unhygienic rfl) rfl rfl ?_|refine As rfl rfl ?_|refine FP ?_|refine C2 ?_|refine wD ?_|refine qH rfl ?_|refine xv rfl ?_)
local macro_rules|`(tactic| omega)=>`(tactic| decide)
local macro_rules|`(tactic| lia)=>`(tactic| repeat infer_instance)
local macro_rules|`(tactic| cbv)=>`(tactic| unhygienic rfl)
local macro_rules|`(tactic| clear_value $h:ident)=>`(tactic| first|refine dsp (fun $h=>?_) (fun $h=>?_)|refine FZ (fun $h=>?_) (fun $h=>?_)|refine bsp (fun $h=>?_) (fun $h=>?_))
theorem aW{ns:List Int}{kd:Kd}{a:Int}{QR:R->Prop}(h0:0<=a)(h1:a<ns.length)(q:∀y,y∈ns->ns[a.toNat]?=some y->QR ⟨.ow,.im (.int y)⟩):W1 (ixR ⟨kd,.li (ns.map .int)⟩ (.im (.int a))) QR:=by
 refine uE h0 (by simpa using h1) λx hx=>?_;rw[GE]at hx;cases e:ns[a.toNat]? with
 | none=>rw[e]at hx;cases hx
 | some y=>rw[e]at hx;cases hx;exact q y (ymG e) e
theorem sA{ns:List Int}{kd:Kd}{a:Int}{QR:R->Prop}(h0:0<=a)(h1:a<ns.length)(q:∀y,y∈ns->ns[a.toNat]?=some y->QR ⟨.ow,.im (.int y)⟩):W1 (ixR ⟨kd,.im (.tup (ns.map .int))⟩ (.im (.int a))) QR:=by
 refine Bu h0 (by simpa using h1) λx hx=>?_;rw[GE]at hx;cases e:ns[a.toNat]? with
 | none=>rw[e]at hx;cases hx
 | some y=>rw[e]at hx;cases hx;exact q y (ymG e) e
theorem aU{α:Type}{P : α->Prop}{l:List α}{y : α}(h:∀x∈l,P x)(hy:P y):∀x∈l++[y],P x:=λx hx=>(yaM hx).elim (h x) λz=>by rw[ysM z];exact hy
noncomputable def fT(f:Int×Int):T:=.li [.int f.1,.int f.2]
theorem am{f:Int×Int}{n:Int}(h1:0<n)(h2:n<2^64){Q:T->T->Prop}(q:∀d f',0<=d->d<n->Q (.im (.int d)) (fT f')):W2 (ai [fT f,.im (.int n)]) Q:=by
 refine gQ rfl rfl ?_;unfold iO
 lia
 (refine bg ?_;lia;clear_value h)
 ·lia
  exact q _ (f.1 / n,f.2) (Ib _ (by omega)) (HI _ h1)
 ·lia
  exact q _ (f.1,(f.2*48271 % 2147483647*40692+30103) % 2147483399+1) (Ib _ (by omega)) (HI _ h1)
noncomputable def pW(is:List Int):T:=.im (.tup (is.map .int))
theorem wm{f:Int×Int}{n:Int}(h1:1<=n)(h2:n<=3){Q:T->T->Prop}(q:∀is f',is.length=n.toNat->(∀x∈is,-2<=x/\x<=2)->Q (pW is) (fT f')):W2 (jK [fT f,.im (.int n)]) Q:=by
 refine gQ rfl rfl ?_;unfold jH
 lia
 refine bg ?_
 lia
 refine am (by omega) (by omega) λd f hd0 hd1=>?_;ac_nf
 lia
 clear_value h
 ·lia
  refine uH (is:=[.int 0]) ⟨by simp,by decide,by omega,by omega⟩ ?_
  lia
  have:(Gx n.toNat [I.int 0]).flatten=(Gx n.toNat (0:Int)).map .int:=by simp
  rw[this];exact q _ f (by simp) (by intro x hx;rw[(Iw.mp hx).2];decide)
 ·lia
  refine bH (λf:Int×Int=>[some ⟨.io 0,fT f⟩,some ⟨.ow,.im (.int n)⟩]) I.int (λj _ is=>is.length=j/\∀x∈is,-2<=x/\x<=2) ?_
  lia
  refine⟨⟨by omega,by omega⟩,by cbv,f,by cbv,⟨rfl,by simp⟩,λj f is hj ⟨hl,hx⟩=>?_,λf is ⟨hl,hx⟩=>?_⟩
  ·lia
   refine am (by omega) (by omega) λd f hd0 hd1=>?_;ac_nf
   lia
   refine aW (ns:=[0,1,0-1,2,0-2]) hd0 hd1 λy hy _=>⟨y,f,rfl,by cbv,by simp[hl],aU hx (by simp at hy;omega)⟩
  ·lia
   exact q is f hl hx
theorem xj{f:Int×Int}{n:Int}(h1:1<=n)(h2:n<=3){Q:T->T->Prop}(q:∀is f',is.length=n.toNat->(∀x∈is,-2<=x/\x<=2)->(∃(k:Nat) (y:Int) (m:List Int),is=Gx k 0++y::m/\y<0)->Q (pW is) (fT f')):W2 (dz [fT f,.im (.int n)]) Q:=by
 refine gQ rfl rfl ?_;unfold dr
 lia
 refine am (by omega) (by omega) λd f hd0 hd1=>?_;ac_nf
 lia
 refine tz (λf:Int×Int=>[some ⟨.io 0,fT f⟩,some ⟨.ow,.im (.int n)⟩,some ⟨.ow,.im (.int d)⟩,none]) I.int (λj _ is=>is.length=j/\∀x∈is,-2<=x/\x<=2) ?_
 lia
 refine⟨⟨by omega,by omega,by omega,by omega,by omega⟩,by cbv,f,by cbv,⟨rfl,by simp⟩,λj f is hj ⟨hl,hx⟩=>?_,λf is ⟨hl,hx⟩=>?_⟩
 ·lia
  refine am (by omega) (by omega) λd f hd0 hd1=>?_;ac_nf
  lia
  refine aW (ns:=[0,1,0-1,2,0-2]) hd0 hd1 λy hy _=>⟨y,f,rfl,by cbv,by simp[hl],aU hx (by simp at hy;omega)⟩
 ·lia
  refine uG (is:=[.int 0]) ⟨by omega,by omega,by simp;rw[LG];omega⟩ ?_
  lia
  refine am (by omega) (by omega) λd2 f hd20 hd21=>?_;ac_nf
  lia
  refine mW (is:=(Gx d.toNat [I.int 0]).flatten) (js:=[.int (0-1-d2)]) (by simp;rw[LG];omega) ?_
  lia
  refine mW (is:=(Gx d.toNat [I.int 0]).flatten++[.int (0-1-d2)]) (js:=is.map I.int) (by simp;rw[LG];omega) ?_
  lia
  have:(Gx d.toNat [I.int 0]).flatten++[.int (0-1-d2)]++is.map I.int=(Gx d.toNat 0++(0-1-d2)::is).map I.int:=by simp
  rw[this];exact q _ f (by simp;omega) (λx hx'=>by
   rcases yaM hx' with hx'|hx';rw[(Iw.mp hx').2];decide
   ·rcases ycM hx' with rfl|hx';omega;exact hx x hx') ⟨d.toNat,_,is,rfl,by omega⟩
theorem tp{row signs:List Int}{way:Int}(h1:1<=row.length)(h2:row.length<=1000)(hw:0<=way)(hs:signs.length=row.length)(hm:∀x∈row,-(2^64)<x/\x<2^64){Q:T->Prop}(q:∀is:List Int,is.length=row.length->(∀(k:Nat) x s,row[(k+way.toNat) % row.length]?=some x->signs[k]?=some s->is[k]?=some (x*s))->Q (pW is)):W1 (cx [pW row,.im (.int way),.li (signs.map .int)]) Q:=by
 refine qX rfl rfl ?_;unfold ci
 lia
 refine bW (λp:List Int=>[some ⟨.ow,pW row⟩,some ⟨.ow,.im (.int way)⟩,some ⟨.vw none none,.li (signs.map .int)⟩,some ⟨.ow,.li (p.map .int)⟩,none]) (λj p=>p.length=j/\∀(k:Nat),k<j->∀x s,row[(k+way.toNat) % row.length]?=some x->signs[k]?=some s->p[k]?=some (x*s)) ?_
 lia
 rw[Gv];refine⟨⟨by omega,by omega⟩,[],by cbv,⟨rfl,λk hk=>absurd hk (Kq _)⟩,λj is hj ⟨hl,hx⟩=>?_,λis ⟨hl,hx⟩=>?_⟩
 ·lia
  refine uF (by simp;omega) ?_
  lia
  rw[Gv];have e1:((j:Int)+way) % (row.length:Int)=(((j+way.toNat) % row.length:Nat):Int):=by
   rw[Int.natCast_emod,Int.natCast_add];congr 1;omega
  rw[e1];have hlt:(j+way.toNat) % row.length<row.length:=Jc _ (by omega);refine sA (ns:=row) (by omega) (by omega) λy hy ey=>?_
  lia
  refine aW (ns:=signs) (by omega) (by omega) λz hz ez=>?_
  lia
  refine qP (A2 (hm y hy).1 (hm y hy).2) ?_
  lia
  refine bn (by simp[hl];rw[LG];omega) ?_
  lia
  refine⟨is++[y*z],?_,by simp[hl],λk hk x s h1 h2=>?_⟩
  ·show _=[_,_,_,_,_];rw[GA]
   cbv
  ·rcases Nat.lt_succ_iff_lt_or_eq.mp hk with hk|rfl;rw[Hi (by omega)];exact hx k hk x s h1 h2
   ·rw[GU]at ey ez;rw[ey]at h1;rw[ez]at h2;cases h1;cases h2;rw[Hm (by omega),hl];simp
 ·lia
  exact q is (by omega) λk x s h1 h2=>hx k (by have:=(Gr.mp h2).1;omega) x s h1 h2
inductive Ru where
 | num (n:Int)|rd (x:Str) (row:List Int)|op (s:Str) (a b:Ru)|cond (a b c:Ru)
noncomputable def tRu:Ru->I
 | .num n=>.tup [.str "num",.int n]
 | .rd x row=>.tup [.str "at",.str x,.tup (row.map .int)]
 | .op s a b=>.tup [.str "op",.str s,tRu a,tRu b]
 | .cond a b c=>.tup [.str "if",tRu a,tRu b,tRu c]
noncomputable def Ru.leaves:Ru->List Ru
 | .op _ a b=>a.leaves++b.leaves
 | .cond a b c=>a.leaves++(b.leaves++c.leaves)
 | r=>[r]
noncomputable def Ru.depth:Ru->Nat
 | .op _ a b=>max a.depth b.depth+1
 | .cond a b c=>max a.depth (max b.depth c.depth)+1
 | _=>0
noncomputable def pT:List Str:=["+","-","*","min","max","rest","less"]
def Ru.ok:Ru->Prop
 | .op s a b=>s∈pT/\a.ok/\b.ok
 | .cond a b c=>a.ok/\b.ok/\c.ok
 | _=>True
theorem Ru.depth_lt:∀r:Ru,r.depth<r.leaves.length
 | .num _=>Kr
 | .rd _ _=>Kr
 | .op _ a b=>by have:=a.depth_lt;have:=b.depth_lt;simp only[Ru.depth,Ru.leaves,GD];omega
 | .cond a b c=>by have:=a.depth_lt;have:=b.depth_lt;have:=c.depth_lt;simp only[Ru.depth,Ru.leaves,GD];omega
theorem eV{α:Type}{emb : α->I}{ns:List α}{kd:Kd}{a:Int}{QR:R->Prop}(h0:0<=a)(h1:a<ns.length)(q:∀y,ns[a.toNat]?=some y->QR ⟨.ow,.im (emb y)⟩):W1 (ixR ⟨kd,.li (ns.map emb)⟩ (.im (.int a))) QR:=by
 refine uE h0 (by simpa using h1) λx hx=>?_;rw[GE]at hx;cases e:ns[a.toNat]? with
 | none=>rw[e]at hx;cases hx
 | some y=>rw[e]at hx;cases hx;exact q y e
theorem FA{ct:MT}{s1 s2:MS}{O:Rho}{Q:Fl->Rho->Prop}(M:Bool->Rho->Prop)(h:WT ct O M)(h1:∀O,M true O->WS s1 O Q)(h2:∀O,M false O->WS s2 O Q):WS (mIf ct s1 s2) O Q:=bg (WT.mono h λb O m=>⟨λe=>h1 O (e▸m),λe=>h2 O (e▸m)⟩)
theorem FX{α:Type}{l:List α}{n:Nat}{a b : α}(ha:l[n]?=some a)(hb:l[n+1]?=some b):l=l.take n++a::b::l.drop (n+2):=by
 obtain⟨h1,e1⟩:=Gr.mp ha;obtain⟨h2,e2⟩:=Gr.mp hb;rw[<-e1,<-e2,HV,HV,HY]
theorem FY{α:Type}{l:List α}{n:Nat}{a b c : α}(ha:l[n]?=some a)(hb:l[n+1]?=some b)(hc:l[n+2]?=some c):l=l.take n++a::b::c::l.drop (n+3):=by
 obtain⟨h1,e1⟩:=Gr.mp ha;obtain⟨h2,e2⟩:=Gr.mp hb;obtain⟨h3,e3⟩:=Gr.mp hc;rw[<-e1,<-e2,<-e3,HV,HV,HV,HY]
theorem nV{f:Int×Int}{rs:List Ru}(hne:rs≠[])(hl:rs.length<=1000)(hok:∀r∈rs,r.ok){Q:T->T->Prop}(q:∀r f',r.leaves=rs.flatMap Ru.leaves->r.ok->Q (.im (tRu r)) (fT f')):W2 (gJ [fT f,.li (rs.map tRu)]) Q:=by
 refine K6 [some ⟨.io 0,fT f⟩,some ⟨.vw none none,.li (rs.map tRu)⟩,none,none,none] rfl rfl rfl ?_;unfold gA
 lia
 refine oU (λs:(Int×Int)×List Ru=>[some ⟨.io 0,fT s.1⟩,some ⟨.vw none none,.li (rs.map tRu)⟩,some ⟨.ow,.li (s.2.map tRu)⟩,none,none]) (λs=>s.2≠[]/\s.2.length<=1000/\(∀r∈s.2,r.ok)/\s.2.flatMap Ru.leaves=rs.flatMap Ru.leaves) (λs=>s.2.length) (f,rs) (by cbv) ⟨hne,hl,hok,rfl⟩ λs ⟨hne,hl,hok,hfl⟩=>?_;obtain⟨f,cs⟩:=s;dsimp only at hne hl hok hfl|-
 lia
 rw[Gv];clear_value hlen
 ·lia
  rw[Gv];refine am (by omega) (by omega) λat0 f ha0 ha1=>?_;ac_nf
  lia
  refine FA (λb O=>∃f:Int×Int,O=[some ⟨.io 0,fT f⟩,some ⟨.vw none none,.li (rs.map tRu)⟩,some ⟨.ow,.li (cs.map tRu)⟩,some ⟨.ow,.im (.int at0)⟩,none]/\(b=true->2<cs.length)) ?_ ?_ ?_
  ·lia
   rw[Gv];clear_value h2
   ·lia
    refine am (by omega) (by omega) λd f hd0 hd1=>?_;ac_nf
    lia
    exact⟨f,rfl,λ_=>by omega⟩
   ·exact⟨f,rfl,λz=>absurd z (by decide)⟩
  ·rintro O ⟨f,rfl,h2⟩;have h2:=h2 rfl
   lia
   rw[Gv];generalize hat:(if(cs.length:Int)-3<at0 then(cs.length:Int)-3 else at0)=at1;have ha:0<=at1/\at1+3<=cs.length:=by subst hat;split<;>omega
   refine eV (ns:=cs) ha.1 (by omega) λa ea=>?_
   lia
   refine eV (ns:=cs) (by omega) (by omega) λb eb=>?_
   lia
   refine eV (ns:=cs) (by omega) (by omega) λc ec=>?_
   lia
   rw[show(at1+1).toNat=at1.toNat+1 by omega]at eb;rw[show(at1+2).toNat=at1.toNat+2 by omega]at ec;have ecut:=FY ea eb ec;refine⟨[],cs.map tRu,_,_,at1,at1+3,rfl,rfl,rfl,by cbv,⟨ha.1,by omega,by simp;omega,by simp;rw[LG];omega⟩,rfl,rfl,?_⟩;ac_nf
   lia
   refine⟨(f,cs.take at1.toNat++Ru.cond a b c::cs.drop (at1.toNat+3)),?_,?_,by simp,?_,?_,?_⟩
   ·rw[GA,Gs,IQ,Jg,show(at1+3).toNat=at1.toNat+3 by omega,GK]
    cbv
   ·simp;omega
   ·simp;omega
   ·intro r hr;rcases yaM hr with hr|hr;exact hok r (HP hr)
    ·rcases ycM hr with rfl|hr;exact⟨hok a (ymG ea),hok b (ymG eb),hok c (ymG ec)⟩;exact hok r (Ih hr)
   ·rw[<-hfl]
    conv=>rhs;rw[ecut]
    simp[Ru.leaves]
  ·rintro O ⟨f,rfl,_⟩
   lia
   refine am (by omega) (by omega) λd f hd0 hd1=>?_;ac_nf
   lia
   refine eV (emb:=I.str) (ns:=pT) hd0 (by simpa[pT]using hd1) λsg esg=>?_
   lia
   refine eV (ns:=cs) ha0 (by omega) λa ea=>?_
   lia
   refine eV (ns:=cs) (by omega) (by omega) λb eb=>?_
   lia
   rw[show(at0+1).toNat=at0.toNat+1 by omega]at eb;have ecut:=FX ea eb;refine⟨[],cs.map tRu,_,_,at0,at0+2,rfl,rfl,rfl,by cbv,⟨ha0,by omega,by simp;omega,by simp;rw[LG];omega⟩,rfl,rfl,?_⟩;ac_nf
   lia
   refine⟨(f,cs.take at0.toNat++Ru.op sg a b::cs.drop (at0.toNat+2)),?_,?_,by simp,?_,?_,?_⟩
   ·rw[GA,Gs,IQ,Jg,show(at0+2).toNat=at0.toNat+2 by omega,GK]
    cbv
   ·simp;omega
   ·simp;omega
   ·intro r hr;rcases yaM hr with hr|hr;exact hok r (HP hr)
    ·rcases ycM hr with rfl|hr;exact⟨ymG esg,hok a (ymG ea),hok b (ymG eb)⟩;exact hok r (Ih hr)
   ·rw[<-hfl]
    conv=>rhs;rw[ecut]
    simp[Ru.leaves]
 ·lia
  obtain⟨r,rfl⟩:∃r,cs=[r]:=by
   match cs,hne,hlen with
   | [r],_,_=>exact⟨r,rfl⟩
   | _::_::_,_,h=>simp at h;omega
  lia
  exact q r f (by simpa using hfl) (hok r (by simp))
noncomputable def Ru.kids:Ru->List Ru
 | .op _ a b=>[a,b]
 | .cond a b c=>[a,b,c]
 | _=>[]
noncomputable def Ru.pre:Ru->List Ru
 | .num n=>[.num n]
 | .rd x row=>[.rd x row]
 | .op s a b=>.op s a b::(a.pre++b.pre)
 | .cond a b c=>.cond a b c::(a.pre++(b.pre++c.pre))
theorem pN(r:Ru):r.pre=r::r.kids.flatMap Ru.pre:=by cases r<;>simp[Ru.pre,Ru.kids]
theorem yh(r:Ru):1<=r.pre.length:=by rw[pN];simp
theorem gc:∀r:Ru,r.pre.length<2*r.leaves.length
 | .num _=>by simp[Ru.pre,Ru.leaves]
 | .rd _ _=>by simp[Ru.pre,Ru.leaves]
 | .op _ a b=>by have:=gc a;have:=gc b;simp only[Ru.pre,Ru.leaves,GI,GD];omega
 | .cond a b c=>by have:=gc a;have:=gc b;have:=gc c;simp only[Ru.pre,Ru.leaves,GI,GD];omega
theorem uk(r:Ru):r.kids.length<=3:=by cases r<;>simp[Ru.kids]
theorem uf{r:Ru}{Q:T->Prop}(q:Q (.im (.tup (r.kids.map tRu)))):W1 (cY [.im (tRu r)]) Q:=by
 refine KY [some ⟨.ow,.im (tRu r)⟩] rfl rfl rfl ?_;unfold bV;cases r with
 | num k=>
  rw[tRu]
  lia
  (refine bg ?_;lia;clear_value h)
  ·exact absurd h (by decide +kernel)
  lia
  (refine bg ?_;lia;clear_value h')
  ·exact absurd h' (by decide +kernel)
  lia
  exact q
 | rd x row=>
  rw[tRu]
  lia
  (refine bg ?_;lia;clear_value h)
  ·exact absurd h (by decide +kernel)
  lia
  (refine bg ?_;lia;clear_value h')
  ·exact absurd h' (by decide +kernel)
  lia
  exact q
 | op s a b=>
  rw[tRu]
  lia
  (refine bg ?_;lia;clear_value h)
  ·lia
   refine lQ (is:=[.str "op",.str s,tRu a,tRu b]) (show ¬((2:Nat)=0/\4=4) by decide) ?_
   lia
   exact q
  ·exact absurd rfl h
 | cond a b c=>
  rw[tRu]
  lia
  (refine bg ?_;lia;clear_value h)
  ·exact absurd h (by decide +kernel)
  lia
  (refine bg ?_;lia;clear_value h')
  ·lia
   refine lQ (is:=[.str "if",tRu a,tRu b,tRu c]) (show ¬((1:Nat)=0/\4=4) by decide) ?_
   lia
   exact q
  ·exact absurd rfl h'
theorem BI{is:List I}{Q:Bool->Prop}(q:Q (!is.isEmpty)):W1 (tru (.li is)) Q:=w1 rfl q
theorem ot{r:Ru}(hl:r.leaves.length<=1000){Q:T->Prop}(q:Q (.li (r.pre.map tRu))):W1 (dA [.im (tRu r)]) Q:=by
 have hpre:=gc r;refine KY [some ⟨.ow,.im (tRu r)⟩,none,none,none] rfl rfl rfl ?_;unfold dv
 lia
 refine oU (λs:List Ru×List Ru=>[some ⟨.ow,.im (tRu r)⟩,some ⟨.ow,.li (s.1.map tRu)⟩,some ⟨.ow,.li (s.2.map tRu)⟩,none]) (λs=>s.1++s.2.reverse.flatMap Ru.pre=r.pre) (λs=>(s.2.flatMap Ru.pre).length) ([],[r]) (by cbv) (by simp) λs hs=>?_;obtain⟨ps,st⟩:=s;dsimp only at hs|-
 lia
 refine BI ?_;refine bsp (λhne=>?_) (λhe=>?_)
 ·obtain⟨st',p,rfl⟩:∃st' p,st=st'++[p]:=by
   rcases List.eq_nil_or_concat st with z|⟨a,b,z⟩;rw[z]at hne;cases hne;exact⟨a,b,by simpa using z⟩
  rw[GA]at *
  lia
  refine lP ?_;ac_nf
  lia
  have hlen:=congrArg HG hs;simp only[Ik,G6,List.reverse_nil,Hn,GJ,GH,IM,GZ,GD,G7]at hlen hs;have hk:(st'.reverse.flatMap Ru.pre).length=(st'.flatMap Ru.pre).length:=by simp[JQ,IB,Kl]
  have hst:st'.length<=(st'.flatMap Ru.pre).length:=by
   clear hs hne hlen hk
   induction st' with
   | nil=>simp
   | cons a l ih=>rw[GH,GI,GD];have:=yh a;omega
  refine bn (is:=ps.map tRu) (by simp;rw[LG];omega) ?_;ac_nf
  lia
  refine uf ?_
  lia
  have hkid:=uk p;refine Bq (is:=st'.map tRu) (js:=(p.kids.map tRu).reverse) (by simp;rw[LG];omega) ?_;ac_nf
  lia
  refine⟨(ps++[p],st'++p.kids.reverse),?_,?_,?_⟩
  ·rw[GA,GA,IB]
   cbv
  ·rw[GJ,GJ,GD,GD,GH,IM,GZ,pN p,GI];have:(p.kids.reverse.flatMap Ru.pre).length=(p.kids.flatMap Ru.pre).length:=by simp[JQ,IB,Kl]
   omega
  ·rw[<-hs,Ik,List.reverse_reverse,GJ,pN p];simp
 ·have:st=[]:=by cases st<;>first|rfl|cases he
  subst this
  lia
  simp at hs;subst hs;exact q
noncomputable def tRd(p:Int×List Int):I:=.tup [.int p.1,.tup (p.2.map .int)]
noncomputable def aD(l:List (Int×List Int)):T:=.li (l.map tRd)
theorem eW(l:List (Int×List Int))(i:I):aD l ≠ .im i:=by unfold aD;intro z;cases z
theorem vy{ls:List (List (Int×List Int))}{n:Nat}{l:List (Int×List Int)}{p:Int×List Int}(h:ls[n]?=some l):T.put (.lst (ls.map aD)) [.ix n] (.li (l.map tRd++[tRd p]))=.lst ((ls.set n (l++[p])).map aD):=by
 rw[vx (u:=aD l) (by rw[GE,h];rfl),Ju];simp[aD]
theorem wO{O:Rho}{Q:Fl->Rho->Prop}{L X:Nat}{args:MA}{ls:List (List (Int×List Int))}{i:Int}(n:Nat){l:List (Int×List Int)}(hL : O[L]?=some (some ⟨.ow,.lst (ls.map aD)⟩))(hX : O[X]?=some (some ⟨.ow,.im (.int i)⟩))(hi:i=(n:Int))(hl:ls[n]?=some l)(hz:l.length<1000)(hm:args.mu.contains L=false)
  (ha:WA args O λrs O1=>∃p,rs=[⟨.ow,.im (tRd p)⟩]/\O1[L]?=some (some ⟨.ow,.lst (ls.map aD)⟩)/\Q .nx ((aq [L] O1).set L (some ⟨.ow,.lst ((ls.set n (l++[p])).map aD)⟩))):WS (bm (cF L [] apT (mIx (af L) (af X)) args)) O Q:=by
 subst hi;refine qa (wQ (wN (fS hL (fS hX (gu (by cbv) ?_)))));have hl':(ls.map aD)[(n:Int).toNat]?=some (aD l):=by rw[GU,GE,hl];rfl
 refine pH (u:=aD l) (kd:=.vw (some L) (some [.ix (n:Int).toNat])) (by omega) hl' (eW l) rfl ?_;rw[GU];refine WA.mono ha λrs O1 ⟨p,e,hL',q⟩=>?_;subst e;refine gu ?_ (qb rfl (qq (pd (As hL' rfl ?_))))
 ·show dh args.mu ⟨.vw (some L) (some [.ix n]),aD l⟩=true;unfold dh;simp only[Kd.root];rw[hm];rfl
 ·refine bn (is:=l.map tRd) (by simp;rw[LG];omega) ?_;rw[vy hl];exact q
def K5(P:Nat->Int×List Int->Prop)(c:Nat)(m:Nat)(ls:List (List (Int×List Int))):Prop:=ls.length=m/\∀x l,ls[x]?=some l->l.length<=c/\∀p∈l,P x p
theorem K5.get{P:Nat->Int×List Int->Prop}{c m:Nat}{ls:List (List (Int×List Int))}(h:K5 P c m ls){n:Nat}(hn:n<m):∃l,ls[n]?=some l/\l.length<=c/\∀p∈l,P n p:=by
 have:n<ls.length:=by rw[h.1];exact hn
 exact⟨ls[n],GR this,h.2 n _ (GR this)⟩
theorem eB{α:Type}{l:List α}{n x:Nat}{a b : α}(h:(l.set n a)[x]?=some b):(n=x/\b=a)\/(n≠x/\l[x]?=some b):=by
 by_cases e:n=x
 ·subst e;have:=(Gr.mp h).1;rw[Ho (by simpa using this)]at h;cases h;exact .inl ⟨rfl,rfl⟩
 ·rw[GO e]at h;exact .inr ⟨e,h⟩
theorem K5.set{P:Nat->Int×List Int->Prop}{c m:Nat}{ls:List (List (Int×List Int))}{n:Nat}{l l':List (Int×List Int)}(h:K5 P c m ls)(hl:ls[n]?=some l)(hn:l'.length<=c)(hp:∀p∈l',P n p):K5 P c m (ls.set n l'):=by
 refine⟨by rw[IE];exact h.1,λx l' hx=>?_⟩;rcases eB hx with⟨rfl,rfl⟩|⟨_,hx⟩;exact⟨hn,hp⟩;exact h.2 x l' hx
def kS(w m:Int)(p:Int×List Int):Prop:=0<=p.1/\p.1<m/\p.2.length=w.toNat/\∀x∈p.2,-2<=x/\x<=2
theorem xn{f:Int×Int}{w m:Int}(h1:1<=w)(h2:w<=3)(h3:1<=m)(h4:m<=6){Q:T->T->Prop}(q:∀ls f',K5 (λ_ p=>kS w m p) 3 m.toNat ls->Q (.lst (ls.map aD)) (fT f')):W2 (dM [fT f,.im (.int w),.im (.int m)]) Q:=by
 refine gQ rfl rfl ?_;unfold cc
 lia
 refine kP (λ_:Unit=>[some ⟨.io 0,fT f⟩,some ⟨.ow,.im (.int w)⟩,some ⟨.ow,.im (.int m)⟩,none,none,none]) aD eW (λ_ _ l=>∀x∈l,x=[]) ?_
 lia
 refine⟨⟨by omega,by omega⟩,by cbv,(),by cbv,by simp,λj _ l hj hl=>?_,λ_ l hl hn=>?_⟩
 ·lia
  exact⟨[],(),rfl,by cbv,aU hl rfl⟩
 lia
 refine bW (λs:(Int×Int)×List (List (Int×List Int))=>[some ⟨.io 0,fT s.1⟩,some ⟨.ow,.im (.int w)⟩,some ⟨.ow,.im (.int m)⟩,some ⟨.ow,.lst (s.2.map aD)⟩,none,none]) (λj s=>K5 (λ_ p=>kS w m p) 3 m.toNat s.2/\∀y l,j<=y->s.2[y]?=some l->l=[]) ?_
 lia
 refine⟨⟨by omega,by omega⟩,(f,l),by cbv,⟨⟨hn,λx l' hx=>by rw[hl l' (ymG hx)];simp⟩,λy l' _ hx=>hl l' (ymG hx)⟩,λx s hx ⟨hL,hE⟩=>?_,λs ⟨hL,_⟩=>?_⟩
 ·lia
  refine bW (λt:(Int×Int)×List (List (Int×List Int))=>[some ⟨.io 0,fT t.1⟩,some ⟨.ow,.im (.int w)⟩,some ⟨.ow,.im (.int m)⟩,some ⟨.ow,.lst (t.2.map aD)⟩,some ⟨.ow,.im (.int x)⟩,none]) (λj t=>K5 (λ_ p=>kS w m p) 3 m.toNat t.2/\(∀l,t.2[x]?=some l->l.length<=j)/\∀y l,x+1<=y->t.2[y]?=some l->l=[]) ?_
  lia
  refine am (by omega) (by omega) λd f hd0 hd1=>?_;ac_nf
  lia
  refine⟨⟨by omega,by omega⟩,(f,s.2),by cbv,⟨hL,λl hl=>by rw[hE x l (GC _) hl];simp,λy l hy hl=>hE y l (by omega) hl⟩,λj t hj ⟨hL,hc,hE⟩=>?_,λt ⟨hL,_,hE⟩=>by lia;exact⟨t,by cbv,hL,hE⟩⟩;obtain⟨l,hl,hl3,hlP⟩:=hL.get (n:=x) (by omega);iterate 2 infer_instance
  refine wO (ls:=t.2) x rfl rfl rfl hl (by omega) (by cbv) ?_
  lia
  refine am (by omega) (by omega) λe f he0 he1=>?_;ac_nf
  lia
  refine wm h1 h2 λis f hil hib=>?_;ac_nf
  lia
  have:=hc l hl;refine⟨(e,is),rfl,rfl,?_⟩
  lia
  refine⟨(f,t.2.set x (l++[(e,is)])),by cbv,hL.set hl (by simp;omega) (aU hlP ⟨he0,he1,hil,hib⟩),λl' hl'=>?_,λy l' hy hl'=>?_⟩
  ·rcases eB hl' with⟨_,rfl⟩|⟨z,_⟩;simp;omega;exact absurd rfl z
  ·rcases eB hl' with⟨z,_⟩|⟨_,hl'⟩;omega;exact hE y l' hy hl'
 ·lia
  exact q s.2 s.1 hL
def oZ(w m:Int)(x:Nat)(p:Int×List Int):Prop:=kS w m p/\((p.1<x/\∀e∈p.2,e=0) \/ ∃(k:Nat) (y:Int) (r:List Int),p.2=Gx k 0++y::r/\y<0)
theorem qK{f:Int×Int}{w m:Int}(h1:1<=w)(h2:w<=3)(h3:1<=m)(h4:m<=6){Q:T->T->Prop}(q:∀ls f',K5 (oZ w m) 3 m.toNat ls->Q (.lst (ls.map aD)) (fT f')):W2 (cv [fT f,.im (.int w),.im (.int m)]) Q:=by
 refine gQ rfl rfl ?_;unfold ce
 lia
 refine kP (λ_:Unit=>[some ⟨.io 0,fT f⟩,some ⟨.ow,.im (.int w)⟩,some ⟨.ow,.im (.int m)⟩,none,none,none]) aD eW (λ_ _ l=>∀x∈l,x=[]) ?_
 lia
 refine⟨⟨by omega,by omega⟩,by cbv,(),by cbv,by simp,λj _ l hj hl=>?_,λ_ l hl hn=>?_⟩
 ·lia
  exact⟨[],(),rfl,by cbv,aU hl rfl⟩
 lia
 refine bW (λs:(Int×Int)×List (List (Int×List Int))=>[some ⟨.io 0,fT s.1⟩,some ⟨.ow,.im (.int w)⟩,some ⟨.ow,.im (.int m)⟩,some ⟨.ow,.lst (s.2.map aD)⟩,none,none]) (λj s=>K5 (oZ w m) 3 m.toNat s.2/\∀y l,j<=y->s.2[y]?=some l->l=[]) ?_
 lia
 refine⟨⟨by omega,by omega⟩,(f,l),by cbv,⟨⟨hn,λx l' hx=>by rw[hl l' (ymG hx)];simp⟩,λy l' _ hx=>hl l' (ymG hx)⟩,λx s hx ⟨hL,hE⟩=>?_,λs ⟨hL,_⟩=>?_⟩
 ·lia
  refine bW (λt:(Int×Int)×List (List (Int×List Int))=>[some ⟨.io 0,fT t.1⟩,some ⟨.ow,.im (.int w)⟩,some ⟨.ow,.im (.int m)⟩,some ⟨.ow,.lst (t.2.map aD)⟩,some ⟨.ow,.im (.int x)⟩,none]) (λj t=>K5 (oZ w m) 3 m.toNat t.2/\(∀l,t.2[x]?=some l->l.length<=j)/\∀y l,x+1<=y->t.2[y]?=some l->l=[]) ?_
  lia
  refine am (by omega) (by omega) λd f hd0 hd1=>?_;ac_nf
  lia
  refine⟨⟨by omega,by omega⟩,(f,s.2),by cbv,⟨hL,λl hl=>by rw[hE x l (GC _) hl];simp,λy l hy hl=>hE y l (by omega) hl⟩,λj t hj ⟨hL,hc,hE⟩=>?_,λt ⟨hL,_,hE⟩=>by lia;exact⟨t,by cbv,hL,hE⟩⟩;obtain⟨l,hl,hl3,hlP⟩:=hL.get (n:=x) (by omega);have hcl:=hc l hl;have fin:∀(e:Int) (is:List Int) (f:Int×Int),oZ w m x (e,is)->K5 (oZ w m) 3 m.toNat (t.2.set x (l++[(e,is)]))/\(∀l',(t.2.set x (l++[(e,is)]))[x]?=some l'->l'.length<=j+1)/\∀y l',x+1<=y->(t.2.set x (l++[(e,is)]))[y]?=some l'->l'=[]:=λe is f hP=>by
   refine⟨hL.set hl (by simp;omega) (aU hlP hP),λl' hl'=>?_,λy l' hy hl'=>?_⟩
   ·rcases eB hl' with⟨_,rfl⟩|⟨z,_⟩;simp;omega;exact absurd rfl z
   ·rcases eB hl' with⟨z,_⟩|⟨_,hl'⟩;omega;exact hE y l' hy hl'
  have hback:∀f,WS (bm (cF 3 [] apT (mIx (af 3) (af 4)) (ac (ar [] (ac (ak 0 0 ai (aa 0 (aa 2 mNil))) (ac (ak 0 0 dz (aa 0 (aa 1 mNil))) mNil))) mNil))) [some ⟨.io 0,fT f⟩,some ⟨.ow,.im (.int w)⟩,some ⟨.ow,.im (.int m)⟩,some ⟨.ow,.lst (t.2.map aD)⟩,some ⟨.ow,.im (.int x)⟩,some ⟨.ow,.im (.int j)⟩] λfl O=>fl=.nx/\∃e is f,O=[some ⟨.io 0,fT f⟩,some ⟨.ow,.im (.int w)⟩,some ⟨.ow,.im (.int m)⟩,some ⟨.ow,.lst ((t.2.set x (l++[(e,is)])).map aD)⟩,some ⟨.ow,.im (.int x)⟩,some ⟨.ow,.im (.int j)⟩]/\oZ w m x (e,is):=λf=>by
   refine wO (ls:=t.2) x rfl rfl rfl hl (by omega) (by cbv) ?_
   lia
   refine am (by omega) (by omega) λe f he0 he1=>?_;ac_nf
   lia
   refine xj h1 h2 λis f hil hib hb=>?_;ac_nf
   lia
   exact⟨(e,is),rfl,rfl,by trivial,e,is,f,by cbv,⟨he0,he1,hil,hib⟩,.inr hb⟩
  have hzero:∀f,(0:Int)<x->WS (bm (cF 3 [] apT (mIx (af 3) (af 4)) (ac (ar [] (ac (ak 0 0 ai (aa 0 (aa 4 mNil))) (ac (mOp cX (ar [] (ac (mC (.int 0)) mNil)) (af 1)) mNil))) mNil))) [some ⟨.io 0,fT f⟩,some ⟨.ow,.im (.int w)⟩,some ⟨.ow,.im (.int m)⟩,some ⟨.ow,.lst (t.2.map aD)⟩,some ⟨.ow,.im (.int x)⟩,some ⟨.ow,.im (.int j)⟩] λfl O=>fl=.nx/\∃e is f,O=[some ⟨.io 0,fT f⟩,some ⟨.ow,.im (.int w)⟩,some ⟨.ow,.im (.int m)⟩,some ⟨.ow,.lst ((t.2.set x (l++[(e,is)])).map aD)⟩,some ⟨.ow,.im (.int x)⟩,some ⟨.ow,.im (.int j)⟩]/\oZ w m x (e,is):=λf hx0=>by
   refine wO (ls:=t.2) x rfl rfl rfl hl (by omega) (by cbv) ?_
   lia
   refine am (by omega) (by omega) λe f he0 he1=>?_;ac_nf
   lia
   refine uH (is:=[.int 0]) ⟨by simp,by decide,by omega,by omega⟩ ?_;have er:(Gx w.toNat [I.int 0]).flatten=(Gx w.toNat (0:Int)).map .int:=by simp
   rw[er]
   lia
   refine⟨(e,Gx w.toNat 0),rfl,rfl,by trivial,e,_,f,by cbv,⟨he0,by omega,by simp,λy hy=>?_⟩,.inl ⟨he1,λy hy=>(Iw.mp hy).2⟩⟩;rw[(Iw.mp hy).2];decide
  lia
  (refine bg ?_;lia;clear_value hx0)
  ·lia
   refine am (by omega) (by omega) λz f hz0 hz1=>?_;ac_nf
   lia
   clear_value hz
   ·refine WS.mono (hzero f hx0) ?_;rintro fl O ⟨rfl,e,is,f,rfl,hP⟩
    lia
    exact⟨(f,_),by cbv,fin e is f hP⟩
   ·refine WS.mono (hback f) ?_;rintro fl O ⟨rfl,e,is,f,rfl,hP⟩
    lia
    exact⟨(f,_),by cbv,fin e is f hP⟩
  ·refine⟨λz=>absurd z (by decide),λ_=>?_⟩;refine WS.mono (hback _) ?_;rintro fl O ⟨rfl,e,is,f,rfl,hP⟩
   lia
   exact⟨(f,_),by cbv,fin e is f hP⟩
 ·lia
  exact q s.2 s.1 hL
theorem K5.mono{P:Nat->Int×List Int->Prop}{c c' m:Nat}{ls:List (List (Int×List Int))}(h:K5 P c m ls)(hc:c<=c'):K5 P c' m ls:=⟨h.1,λx l hx=>⟨Hj (h.2 x l hx).1 hc,(h.2 x l hx).2⟩⟩
noncomputable def tTr(p:Int×Int×List Int):I:=.tup [.int p.1,.int p.2.1,.tup (p.2.2.map .int)]
def FM(w:Int)(p:Int×Int×List Int):Prop:=0<=p.1/\p.1<w/\0<=p.2.1/\p.2.1<w/\p.2.2.length=w.toNat/\∀x∈p.2.2,-2<=x/\x<=2
theorem p8{row signs:List Int}{way:Int}(h1:1<=row.length)(h2:row.length<=1000)(hw:0<=way)(hs:signs.length=row.length)(hr:∀x∈row,-2<=x/\x<=2)(hg:∀x∈signs,x=1\/x = -1){Q:T->Prop}(q:∀is:List Int,is.length=row.length->(∀x∈is,-2<=x/\x<=2)->(∀(k:Nat) x s,row[(k+way.toNat) % row.length]?=some x->signs[k]?=some s->is[k]?=some (x*s))->Q (pW is)):W1 (cx [pW row,.im (.int way),.li (signs.map .int)]) Q:=by
 refine tp h1 h2 hw hs (λx hx=>by have:=hr x hx;omega) λis hl hi=>q is hl (λy hy=>?_) hi;obtain⟨k,hk⟩:=Iz.mp hy;have hkl:=(Gr.mp hk).1;have hm:(k+way.toNat) % row.length<row.length:=Jc _ (by omega);have e1:row[(k+way.toNat) % row.length]?=some row[(k+way.toNat) % row.length]:=GR hm;have e2:signs[k]?=some signs[k]:=GR (by omega);have e3:=hi k _ _ e1 e2;rw[hk]at e3;have b1:=hr _ (ymG e1);have b2:=hg _ (ymG e2);have:y=row[(k+way.toNat) % row.length]*signs[k]:=by simpa using e3
 rw[this];rcases b2 with z|z<;>rw[z]<;>omega
theorem Bl{f:Int×Int}{w m:Int}(h1:2<=w)(h2:w<=3)(h3:w<=m)(h4:m<=6){Q:T->T->Prop}(q:∀ls f',K5 (λ_ p=>kS w m p) 7 m.toNat ls->Q (.lst (ls.map aD)) (fT f')):W2 (cw [fT f,.im (.int w),.im (.int m)]) Q:=by
 refine K6 [some ⟨.io 0,fT f⟩,some ⟨.ow,.im (.int w)⟩,some ⟨.ow,.im (.int m)⟩,none,none,none,none,none,none,none,none] rfl rfl rfl ?_;unfold bC
 lia
 refine am (by omega) (by omega) λd1 f a1 b1=>?_;ac_nf
 lia
 refine am (by omega) (by omega) λd2 f a2 b2=>?_;ac_nf
 lia
 refine am (by omega) (by omega) λd3 f a3 b3=>?_;ac_nf
 lia
 refine am (by omega) (by omega) λd4 f a4 b4=>?_;ac_nf
 lia
 refine bn (by simp;rw[LG];omega) ?_;refine qE (Al ?_);refine WS.mono (Q:=λfl O=>fl=.nx/\∃(f:Int×Int) (es:List (Int×Int×List Int)),O=[some ⟨.io 0,fT f⟩,some ⟨.ow,.im (.int w)⟩,some ⟨.ow,.im (.int m)⟩,some ⟨.ow,.im (.int (1+d1))⟩,some ⟨.ow,.li (es.map tTr)⟩,none,none,none,none,none,none]/\(∀p∈es,FM w p)/\es.length<=7) ?_ ?_
 ·lia
  (refine bg ?_;lia;clear_value hw)
  ·subst hw
   lia
   refine am (by omega) (by omega) λd5 f a5 b5=>?_;ac_nf
   lia
   refine am (by omega) (by omega) λd6 f a6 b6=>?_;ac_nf
   lia
   refine mW (by simp;rw[LG];omega) ?_
   lia
   refine⟨by trivial,f,[(0,0,[0,0,1+d1]),(1,1,[0,0,0-1]),(0,1,[0,0-1,0]),(1,0,[0,0,d5]),(2,2,[0,1+d6,0]),(0,2,[0-1,0,1]),(2,0,[0,0,0])],by cbv,?_,by simp⟩;simp only[G4,Hb,or_false];rintro p (rfl|rfl|rfl|rfl|rfl|rfl|rfl)<;>(refine⟨by simp,by simp,by simp,by simp,rfl,?_⟩;simp only[G4,Hb,or_false];omega)
  ·have hw2:w=2:=by omega
   subst hw2
   lia
   refine⟨by trivial,f,[(0,0,[0,1+d1]),(1,1,[0,0-1-d2]),(0,1,[0-1,d3-1]),(1,0,[0-d4,0])],by cbv,?_,by simp⟩;simp only[G4,Hb,or_false];rintro p (rfl|rfl|rfl|rfl)<;>(refine⟨by simp,by simp,by simp,by simp,rfl,?_⟩;simp only[G4,Hb,or_false];omega)
 rintro fl O ⟨rfl,f,es,rfl,hes,hel⟩
 lia
 refine am (by omega) (by omega) λway f aw bw=>?_;ac_nf
 lia
 refine bH (λf:Int×Int=>[some ⟨.io 0,fT f⟩,some ⟨.ow,.im (.int w)⟩,some ⟨.ow,.im (.int m)⟩,some ⟨.ow,.im (.int (1+d1))⟩,some ⟨.ow,.li (es.map tTr)⟩,none,none,none,none,none,none]) I.int (λj _ l=>l.length=j/\∀x∈l,x=1\/x = -1) ?_
 lia
 refine⟨⟨by omega,by omega⟩,by cbv,f,by cbv,⟨rfl,by simp⟩,λj f l hj ⟨hl,hx⟩=>?_,λf signs ⟨hsl,hsx⟩=>?_⟩
 ·lia
  refine am (by omega) (by omega) λd f hd0 hd1=>?_;ac_nf
  lia
  exact⟨1-2*d,f,rfl,by cbv,by simp[hl],aU hx (by omega)⟩
 lia
 refine kP (λ_:Unit=>[some ⟨.io 0,fT f⟩,some ⟨.ow,.im (.int w)⟩,some ⟨.ow,.im (.int m)⟩,some ⟨.ow,.im (.int (1+d1))⟩,some ⟨.ow,.li (es.map tTr)⟩,some ⟨.ow,.im (.int way)⟩,some ⟨.ow,.li (signs.map .int)⟩,none,none,none,none]) aD eW (λ_ _ l=>∀x∈l,x=[]) ?_
 lia
 refine⟨⟨by omega,by omega⟩,by cbv,(),by cbv,by simp,λj _ l hj hl=>?_,λ_ l hl hn=>?_⟩
 ·lia
  exact⟨[],(),rfl,by cbv,aU hl rfl⟩
 lia
 refine fM (λt:List (List (Int×List Int))=>[some ⟨.io 0,fT f⟩,some ⟨.ow,.im (.int w)⟩,some ⟨.ow,.im (.int m)⟩,some ⟨.ow,.im (.int (1+d1))⟩,some ⟨.ow,.li (es.map tTr)⟩,some ⟨.ow,.im (.int way)⟩,some ⟨.ow,.li (signs.map .int)⟩,some ⟨.ow,.lst (t.map aD)⟩,none,none,none]) (λj t=>K5 (λ_ p=>kS w m p) j m.toNat t/\∀y l,3<=y->t[y]?=some l->l=[]) ?_
 lia
 refine⟨_,(show fh _=some ((es.map tTr).map _)from rfl),by cbv,l,by cbv,⟨⟨hn,λx l' hx=>by rw[hl l' (ymG hx)];simp⟩,λy l' _ hx=>hl l' (ymG hx)⟩,λj x t hx ⟨hL,hE⟩=>?_,λt ⟨hL,hE⟩=>?_⟩
 ·rw[GE]at hx;cases e:es[j]? with
  | none=>rw[e]at hx;cases hx
  | some p=>
   rw[e]at hx;cases hx;obtain⟨x,o,row⟩:=p;have hp:=hes _ (ymG e);obtain⟨p1,p2,p3,p4,p5,p6⟩:=hp;simp only at p1 p2 p3 p4 p5 p6;have hj:=(Gr.mp e).1;obtain⟨l,hl,hl3,hlP⟩:=hL.get (n:=x.toNat) (by omega);iterate 9 infer_instance
   refine wO (ls:=t) x.toNat rfl rfl (by omega) hl (by omega) (by cbv) ?_
   lia
   refine p8 (row:=row) (signs:=signs) (by omega) (by omega) aw (by omega) p6 hsx λis hil hib _=>?_
   lia
   refine⟨(o,is),rfl,rfl,?_⟩
   lia
   refine⟨t.set x.toNat (l++[(o,is)]),by cbv,(hL.mono (JI j)).set hl (by simp;omega) (aU hlP ⟨p3,(by omega:o<m),hil.trans p5,hib⟩),λy l' hy hl'=>?_⟩;rcases eB hl' with⟨z,_⟩|⟨_,hl'⟩;omega;exact hE y l' hy hl'
 ·lia
  refine wM (λs:(Int×Int)×List (List (Int×List Int))=>[some ⟨.io 0,fT s.1⟩,some ⟨.ow,.im (.int w)⟩,some ⟨.ow,.im (.int m)⟩,some ⟨.ow,.im (.int (1+d1))⟩,some ⟨.ow,.li (es.map tTr)⟩,some ⟨.ow,.im (.int way)⟩,some ⟨.ow,.li (signs.map .int)⟩,some ⟨.ow,.lst (s.2.map aD)⟩,none,none,none]) (λj s=>K5 (λ_ p=>kS w m p) 7 m.toNat s.2/\∀y l,3+j<=y->s.2[y]?=some l->l=[]) ?_
  lia
  rw[Gv]at hL;refine⟨⟨by omega,by omega,by omega,by omega⟩,(f,t),by cbv,⟨hL.mono hel,λy l' hy hl'=>hE y l' (by omega) hl'⟩,λj s hj ⟨hL,hE⟩=>?_,λs ⟨hL,_⟩=>?_⟩
  ·obtain⟨l,hl,hl3,hlP⟩:=hL.get (n:=3+j) (by omega);have hl0:=hE _ l (GC _) hl;iterate 2 infer_instance
   refine wO (ls:=s.2) (3+j) rfl rfl (by omega) hl (by omega) (by cbv) ?_
   lia
   refine am (by omega) (by omega) λe f he0 he1=>?_;ac_nf
   lia
   refine wm (by omega) h2 λis f hil hib=>?_;ac_nf
   lia
   refine⟨(e,is),rfl,rfl,?_⟩
   lia
   refine⟨(f,s.2.set (3+j) (l++[(e,is)])),by cbv,hL.set hl (by simp[hl0]) (aU hlP ⟨he0,(by omega:e<m),hil,hib⟩),λy l' hy hl'=>?_⟩;rcases eB hl' with⟨z,_⟩|⟨_,hl'⟩;omega;exact hE y l' (by omega) hl'
  ·lia
   exact q s.2 s.1 hL
theorem sI{ls:List (List (Int×List Int))}{n:Nat}{l:List (Int×List Int)}{p:Int×List Int}(h:ls[n]?=some l):T.put (.lst (ls.map aD)) [.ix n] (.li (tRd p::l.map tRd))=.lst ((ls.set n (p::l)).map aD):=by
 rw[vx (u:=aD l) (by rw[GE,h];rfl),Ju];simp[aD]
theorem FB{O:Rho}{Q:Fl->Rho->Prop}{L X:Nat}{args:MA}{ls:List (List (Int×List Int))}{i:Int}(n:Nat){l:List (Int×List Int)}(hL : O[L]?=some (some ⟨.ow,.lst (ls.map aD)⟩))(hX : O[X]?=some (some ⟨.ow,.im (.int i)⟩))(hi:i=(n:Int))(hl:ls[n]?=some l)(hz:l.length<1000)(hm:args.mu.contains L=false)
  (ha:WA args O λrs O1=>∃p,rs=[⟨.ow,.im (.int 0)⟩,⟨.ow,.im (tRd p)⟩]/\O1[L]?=some (some ⟨.ow,.lst (ls.map aD)⟩)/\Q .nx ((aq [L] O1).set L (some ⟨.ow,.lst ((ls.set n (p::l)).map aD)⟩))):WS (bm (cF L [] mK (mIx (af L) (af X)) args)) O Q:=by
 subst hi;refine qa (wQ (wN (fS hL (fS hX (gu (by cbv) ?_)))));have hl':(ls.map aD)[(n:Int).toNat]?=some (aD l):=by rw[GU,GE,hl];rfl
 refine pH (u:=aD l) (kd:=.vw (some L) (some [.ix (n:Int).toNat])) (by omega) hl' (eW l) rfl ?_;rw[GU];refine WA.mono ha λrs O1 ⟨p,e,hL',q⟩=>?_;subst e;refine gu ?_ (qb rfl (qq (qq (pd (As hL' rfl ?_)))))
 ·show dh args.mu ⟨.vw (some L) (some [.ix n]),aD l⟩=true;unfold dh;simp only[Kd.root];rw[hm];rfl
 ·refine zQ (is:=l.map tRd) ⟨by omega,by simp,by simp;rw[LG];omega⟩ ?_;show Q _ (List.set _ _ (some ⟨_,T.put _ _ (.li (tRd p::l.map tRd))⟩));rw[sI hl];exact q
def RR(rest row:List Int):Prop:=row.length=rest.length/\∀(i:Nat) y r,row[i]?=some y->rest[i]?=some r->-2<=y/\y<=2/\-2<=r+y/\r+y<=2
theorem zd{f:Int×Int}{w m:Int}(h1:1<=w)(h2:w<=3)(h3:1<=m)(h4:m<=6){Q:T->T->Prop}(q:∀ls f',K5 (λ_ p=>kS w m p) 4 m.toNat ls->Q (.lst (ls.map aD)) (fT f')):W2 (dP [fT f,.im (.int w),.im (.int m)]) Q:=by
 refine K6 [some ⟨.io 0,fT f⟩,some ⟨.ow,.im (.int w)⟩,some ⟨.ow,.im (.int m)⟩,none,none,none,none,none] rfl rfl rfl ?_;unfold cg
 lia
 refine qK h1 h2 h3 h4 λls f hLs=>?_;ac_nf
 lia
 refine am (by omega) (by omega) λd f hd0 hd1=>?_;ac_nf
 lia
 refine uG (is:=[.int 0]) ⟨by omega,by omega,by simp;rw[LG];omega⟩ ?_;have er:(Gx w.toNat [I.int 0]).flatten=(Gx w.toNat (0:Int)).map .int:=by simp
 rw[er]
 lia
 refine bW (λs:(Int×Int)×List (List (Int×List Int))×List Int=>[some ⟨.io 0,fT s.1⟩,some ⟨.ow,.im (.int w)⟩,some ⟨.ow,.im (.int m)⟩,some ⟨.ow,.lst (s.2.1.map aD)⟩,some ⟨.ow,.im (.int (1+d))⟩,some ⟨.ow,.li (s.2.2.map .int)⟩,none,none]) (λj s=>K5 (λ_ p=>kS w m p) 4 m.toNat s.2.1/\(∀y l,j<=y->s.2.1[y]?=some l->l.length<=3)/\s.2.2.length=w.toNat/\∀x∈s.2.2,-2<=x/\x<=2) ?_
 lia
 refine⟨⟨by omega,by omega⟩,(f,ls,Gx w.toNat 0),by cbv,⟨⟨hLs.1,λx l hx=>⟨by have:=(hLs.2 x l hx).1;omega,λp hp=>((hLs.2 x l hx).2 p hp).1⟩⟩,λy l _ hx=>(hLs.2 y l hx).1,by simp,λx hx=>by rw[(Iw.mp hx).2];decide⟩,λk s hk ⟨hL,hE,hrl,hrb⟩=>?_,λs ⟨hL,_⟩=>?_⟩
 ·obtain⟨f,ls,rest⟩:=s;simp only at hL hE hrl hrb;obtain⟨l,hl,hl4,hlP⟩:=hL.get (n:=k) (by omega);have hl3:=hE k l (GC _) hl
  lia
  refine bH (λf:Int×Int=>[some ⟨.io 0,fT f⟩,some ⟨.ow,.im (.int w)⟩,some ⟨.ow,.im (.int m)⟩,some ⟨.ow,.lst (ls.map aD)⟩,some ⟨.ow,.im (.int (1+d))⟩,some ⟨.ow,.li (rest.map .int)⟩,some ⟨.ow,.im (.int k)⟩,none]) I.int (λj _ l=>l.length=j/\∀x∈l,-1<=x/\x<=1) ?_
  lia
  refine⟨⟨by omega,by omega⟩,by cbv,f,by cbv,⟨rfl,by simp⟩,λj f l hj ⟨hl,hx⟩=>?_,λf r1 ⟨hl1,hx1⟩=>?_⟩
  ·lia
   refine am (by omega) (by omega) λd f hd0 hd1=>?_;ac_nf
   lia
   exact⟨d-1,f,rfl,by cbv,by simp[hl],aU hx (by omega)⟩
  lia
  refine bH (λ_:Unit=>[some ⟨.io 0,fT f⟩,some ⟨.ow,.im (.int w)⟩,some ⟨.ow,.im (.int m)⟩,some ⟨.ow,.lst (ls.map aD)⟩,some ⟨.ow,.im (.int (1+d))⟩,some ⟨.ow,.li (rest.map .int)⟩,some ⟨.ow,.im (.int k)⟩,some ⟨.ow,.li (r1.map .int)⟩]) I.int (λj _ l=>l.length=j/\∀(i:Nat) y r,l[i]?=some y->rest[i]?=some r->-2<=y/\y<=2/\-2<=r+y/\r+y<=2) ?_
  lia
  refine⟨⟨by omega,by omega⟩,by cbv,(),by cbv,⟨rfl,by simp⟩,λj _ l hj ⟨hl,hx⟩=>?_,λ_ r2 ⟨hl2,hx2⟩=>?_⟩
  ·lia
   refine aW (ns:=rest) (by omega) (by omega) λr hr er=>?_
   lia
   refine aW (ns:=r1) (by omega) (by omega) λy hy ey=>?_
   lia
   refine aW (ns:=rest) (by omega) (by omega) λr' hr' er'=>?_;rw[er]at er';cases er'
   lia
   have b1:=hrb r hr;have b2:=hx1 y hy;refine⟨_,(),rfl,by cbv,by simp[hl],λi y' r' hy' hr'=>?_⟩;by_cases hij:i<l.length
   ·rw[Hi hij]at hy';exact hx i y' r' hy' hr'
   ·have:=(Gr.mp hy').1;simp at this;have hie:i=j:=by omega
    subst hie;rw[Hm (by omega)]at hy';simp[hl]at hy';rw[GU]at er;rw[er]at hr';cases hr';subst hy';split<;>split<;>omega
  lia
  refine WS.mono (Q:=λfl O=>fl=.nx/\∃r3:List Int,O=[some ⟨.io 0,fT f⟩,some ⟨.ow,.im (.int w)⟩,some ⟨.ow,.im (.int m)⟩,some ⟨.ow,.lst (ls.map aD)⟩,some ⟨.ow,.im (.int (1+d))⟩,some ⟨.ow,.li (rest.map .int)⟩,some ⟨.ow,.im (.int k)⟩,some ⟨.ow,.li (List.map .int r3)⟩]/\RR rest r3) ?_ ?_
  ·(refine bg ?_;lia;clear_value hlast)
   ·lia
    refine bo (λ_:Unit=>[some ⟨.io 0,fT f⟩,some ⟨.ow,.im (.int w)⟩,some ⟨.ow,.im (.int m)⟩,some ⟨.ow,.lst (ls.map aD)⟩,some ⟨.ow,.im (.int (1+d))⟩,some ⟨.ow,.li (rest.map .int)⟩,some ⟨.ow,.im (.int k)⟩,some ⟨.ow,.li (r2.map .int)⟩]) I.int (λj _ l=>l.length=j/\∀(i:Nat) y r,l[i]?=some y->rest[i]?=some r->y = -r) ?_
    lia
    refine⟨rest.map .int,rfl,by simp;rw[LG];omega,by cbv,(),by cbv,⟨rfl,by simp⟩,λj x _ l hx ⟨hl,hq⟩=>?_,λ_ r3 ⟨hl3',hq3⟩=>?_⟩
    ·rw[GE]at hx;cases e:rest[j]? with
     | none=>rw[e]at hx;cases hx
     | some r=>
      rw[e]at hx;cases hx
      lia
      refine⟨0-r,(),rfl,by cbv,by simp[hl],λi y' r' hy' hr'=>?_⟩;by_cases hij:i<l.length
      ·rw[Hi hij]at hy';exact hq i y' r' hy' hr'
      ·have:=(Gr.mp hy').1;simp at this;have hie:i=j:=by omega
       subst hie;rw[Hm (by omega)]at hy';simp[hl]at hy';rw[e]at hr';cases hr';omega
    ·lia
     refine⟨by trivial,r3,by cbv,by simpa using hl3',λi y r hy hr=>?_⟩;have:=hq3 i y r hy hr;have:=hrb r (ymG hr);omega
   ·lia
    exact⟨by trivial,r2,by cbv,by omega,hx2⟩
  ·rintro fl O ⟨rfl,r3,rfl,hr3l,hr3⟩
   lia
   refine bH (λ_:Unit=>[some ⟨.io 0,fT f⟩,some ⟨.ow,.im (.int w)⟩,some ⟨.ow,.im (.int m)⟩,some ⟨.ow,.lst (ls.map aD)⟩,some ⟨.ow,.im (.int (1+d))⟩,some ⟨.ow,.li (rest.map .int)⟩,some ⟨.ow,.im (.int k)⟩,some ⟨.ow,.li (r3.map .int)⟩]) I.int (λj _ l=>l.length=j/\∀x∈l,-2<=x/\x<=2) ?_
   lia
   refine⟨⟨by omega,by omega⟩,by cbv,(),by cbv,⟨rfl,by simp⟩,λj _ l hj ⟨hl,hx⟩=>?_,λ_ r4 ⟨hl4,hx4⟩=>?_⟩
   ·lia
    refine aW (ns:=rest) (by omega) (by omega) λr hr er=>?_
    lia
    refine aW (ns:=r3) (by omega) (by omega) λy hy ey=>?_
    lia
    have:=hr3 _ y r ey er;exact⟨r+y,(),rfl,by cbv,by simp[hl],aU hx (by omega)⟩
   iterate 2 infer_instance
   refine FB (ls:=ls) k rfl rfl rfl hl (by omega) (by cbv) ?_
   lia
   have hkm:((k:Int)+1) % (1+d)<m:=by have:=HI ((k:Int)+1) (show 0<1+d by omega);omega
   have hk0:0<=((k:Int)+1) % (1+d):=Ib _ (by omega);refine⟨(((k:Int)+1) % (1+d),r3),rfl,rfl,?_⟩
   lia
   refine⟨(f,ls.set k ((((k:Int)+1) % (1+d),r3)::l),r4),by cbv,hL.set hl (by simp;omega) (λp hp=>?_),λy l' hy hl'=>?_,by omega,hx4⟩
   ·rcases ycM hp with rfl|hp
    ·refine⟨hk0,hkm,by simpa[hrl]using hr3l,λx hx=>?_⟩;obtain⟨i,hi⟩:=Iz.mp hx;have hil:=(Gr.mp hi).1;have:i<rest.length:=by simp only at hil;omega
     have:=hr3 i x _ hi (GR this);omega
    ·exact hlP p hp
   ·rcases eB hl' with⟨z,_⟩|⟨_,hl'⟩;omega;exact hE y l' (by omega) hl'
 ·lia
  exact q s.2.1 s.1 hL
theorem K5.imp{P P':Nat->Int×List Int->Prop}{c c' m:Nat}{ls:List (List (Int×List Int))}(h:K5 P c m ls)(hc:c<=c')(hp:∀x p,P x p->P' x p):K5 P' c' m ls:=⟨h.1,λx l hx=>⟨Hj (h.2 x l hx).1 hc,λp hm=>hp x p ((h.2 x l hx).2 p hm)⟩⟩
theorem vL{f:Int×Int}{Q:T->T->Prop}(q:∀(w m:Int) ls f',1<=w->w<=3->1<=m->m<=6->K5 (λ_ p=>kS w m p) 7 m.toNat ls->Q (.tup [.im (.int w),.lst (ls.map aD)]) (fT f')):W2 (ji [fT f]) Q:=by
 refine K6 [some ⟨.io 0,fT f⟩,none,none,none,none] rfl rfl rfl ?_;unfold gE
 lia
 refine am (by omega) (by omega) λform f hf0 hf1=>?_;ac_nf
 lia
 refine am (by omega) (by omega) λwide f hw0 hw1=>?_;ac_nf
 lia
 try ac_nf
 refine aW (ns:=[1,2,2,2,2,1,2,3]) (Ib _ (by omega)) (by have:=HI wide (show(0:Int)<8 by omega);simpa using this) λw hw _=>?_;have hw13:1<=w/\w<=3:=by simp at hw;omega
 lia
 refine aW (ns:=[3,6]) (by omega) (by simp;omega) λmm hmm _=>?_;have hmm':3<=mm/\mm<=6:=by simp at hmm;omega
 lia
 refine am (by omega) (by omega) λd f hd0 hd1=>?_;ac_nf
 lia
 (refine bg ?_;lia;clear_value h1)
 ·lia
  refine xn hw13.1 hw13.2 (by omega) (by omega) λls f hL=>?_;ac_nf
  lia
  exact q w (1+d) ls f hw13.1 hw13.2 (by omega) (by omega) (hL.mono (by omega))
 lia
 (refine bg ?_;lia;clear_value h2)
 ·lia
  refine qK hw13.1 hw13.2 (by omega) (by omega) λls f hL=>?_;ac_nf
  lia
  exact q w (1+d) ls f hw13.1 hw13.2 (by omega) (by omega) (hL.imp (by omega) λx p hp=>hp.1)
 lia
 (refine bg ?_;lia;clear_value h3)
 ·lia
  refine zd hw13.1 hw13.2 (by omega) (by omega) λls f hL=>?_;ac_nf
  lia
  exact q w (1+d) ls f hw13.1 hw13.2 (by omega) (by omega) (hL.mono (by omega))
 lia
 try ac_nf
 refine Bl (by split<;>omega) (by split<;>omega) (by split<;>split<;>split<;>omega) (by split<;>split<;>split<;>omega) λls f hL=>?_;ac_nf
 lia
 exact q _ _ ls f (by split<;>omega) (by split<;>omega) (by split<;>split<;>split<;>omega) (by split<;>split<;>split<;>omega) hL
noncomputable def Lk:List Str:=["min","max","rest","less","if"]
noncomputable def nmB(S:List Nat) (a:Nat) (ch k:Nat):List Nat:=S.take a++ch::S.drop a++(if k % 2=1 then [113]else [])
noncomputable def nmS(S:List Nat) (a:Nat) (ch k:Nat):Str:=if oL (nmB S a ch k)∈Lk then oL (nmB S a ch k++[119])else oL (nmB S a ch k)
theorem Gb:113∈sL LET:=by decide +kernel
theorem Gk:119∈sL LET:=by decide +kernel
theorem xa:∀i<26,∀j<26,(sL LET).getD i 0=(sL LET).getD j 0->i=j:=by decide +kernel
theorem AE:∀z∈Lk,oL (sL z++[119])∉Lk:=by decide +kernel
theorem ee{S:List Nat}{a ch k:Nat}:(nmB S a ch k).length=S.length+1+k % 2:=by
 unfold nmB;have h:k % 2=0\/k % 2=1:=by omega
 rw[GD,GD,GI,GY,Hr];rcases h with h|h<;>simp[h]<;>omega
theorem A3{S:List Nat}{a ch k:Nat}(hS:∀c∈S,c∈sL LET)(hc:ch∈sL LET):∀c∈nmB S a ch k,c∈sL LET:=λc h=>by
 unfold nmB at h;rcases yaM h with h|h
 ·rcases yaM h with h|h;exact hS c (HP h)
  ·rcases ycM h with rfl|h;exact hc;exact hS c (Ih h)
 ·split at h;rw[ysM h];exact Gb;cases h
theorem qO{S:List Nat}{a ch ch' k k':Nat}(h:nmB S a ch k=nmB S a ch' k'):ch=ch'/\k % 2=k' % 2:=by
 have hl:=congrArg HG h;rw[ee,ee]at hl;have hk:k % 2=k' % 2:=by omega
 refine⟨?_,hk⟩;unfold nmB at h;rw[hk]at h;have h2:=Jh h;have h3:=List.append_cancel_left h2;exact(HE.inj h3).1
theorem on{S:List Nat}{a ch k:Nat}(hk:k % 2=1):(nmB S a ch k).getLast?=some 113:=by
 unfold nmB;rw[if_pos hk,IS];rfl
theorem kq{x y:List Nat}(h:oL x=oL y):x=y:=congrArg sL h
theorem xJ{S:List Nat}{a ch ch' k k':Nat}(h:nmS S a ch k=nmS S a ch' k'):ch=ch'/\k % 2=k' % 2:=by
 unfold nmS at h;split at h<;>split at h;exact qO (Jh (kq h))
 ·have h':=kq h;have hl:=congrArg HG h';rw[GD,ee,ee]at hl;have hk:k' % 2=1:=by simp at hl;omega
  have:=on (S:=S) (a:=a) (ch:=ch') hk;rw[<-h',IS]at this;cases this
 ·have h':=kq h;have hl:=congrArg HG h';rw[GD,ee,ee]at hl;have hk:k % 2=1:=by simp at hl;omega
  have:=on (S:=S) (a:=a) (ch:=ch) hk;rw[h',IS]at this;cases this
 ·exact qO (kq h)
def jO(z:Str):Prop:=1<=z.length/\z.length<=8/\z∉Lk/\∀c∈sL z,c∈sL LET
theorem A4{S:List Nat}{a ch k:Nat}(hS:∀c∈S,c∈sL LET)(hc:ch∈sL LET)(hl:S.length<=5):jO (nmS S a ch k):=by
 have hb:=A3 (a:=a) (k:=k) hS hc;have hlen:=ee (S:=S) (a:=a) (ch:=ch) (k:=k);unfold jO nmS;split
 ·rename_i c;have h1:(oL (nmB S a ch k++[119])).length=S.length+1+k % 2+1:=by rw[df,cI,GD,hlen];rfl
  refine⟨by omega,by omega,AE _ c,λx hx=>?_⟩;rw[cI]at hx;rcases yaM hx with h|h;exact hb x h;rw[ysM h];exact Gk
 ·rename_i c;have h1:(oL (nmB S a ch k)).length=S.length+1+k % 2:=by rw[df,cI,hlen]
  exact⟨by omega,by omega,c,λx hx=>hb x (by rwa [cI]at hx)⟩
theorem tT{α:Type}{xs:List α}{n:Nat}(h:n<=xs.length):ca xs none (some (n:Int))=xs.take n:=by
 unfold ca;rw[HT.sIx_none,HT.sIx_nat,IW h];simp
theorem tR{α:Type}{xs:List α}{n:Nat}(h:n<=xs.length):ca xs (some (n:Int)) none=xs.drop n:=by
 unfold ca;rw[HT.sIx_none,HT.sIx_nat,IW h];exact GL (by rw[Hr];exact GC _)
theorem lZ:∀{zs:List Str},oS (zs.map I.str)=some zs
 | []=>rfl
 | z::zs=>by rw[Gs,oS,lZ];rfl
theorem Bv{z:Str}{zs:List Str}{QT1:T->Prop}(h:(zs.map (·.length)).sum+zs.length*z.length<=16777216)(q:QT1 (.im (.str (Ng z zs)))):W1 (j7 (.im (.str z)) [.li (zs.map .str)]) QT1:=w1 (by simp only[j7,lZ];rw[if_pos h]) q
theorem pG{β:Type}{g:Nat->β}{n:Nat}(hf:∀x<n,∀y<n,g x=g y->x=y):((G9 n).map g).Nodup:=i9 List.nodup_range λx hx y hy e=>hf x (HW.mp hx) y (HW.mp hy) e
noncomputable def ga(S:List Nat) (a fn m:Nat):List Str:=(G9 m).map λk=>nmS S a ((sL LET).getD ((fn+5*k) % 26) 0) k
theorem qf{i:Nat}(h:i<26):(sL LET)[i]?=some ((sL LET).getD i 0):=by
 rw[GM,GR (by rw[l8];exact h)];rfl
theorem uy{S:List Nat}{a fn m:Nat}(hS:∀c∈S,c∈sL LET)(hl:S.length<=5)(hm:m<=6):(ga S a fn m).length=m/\(ga S a fn m).Nodup/\∀z∈ga S a fn m,jO z:=by
 refine⟨by simp[ga],pG λx hx y hy e=>?_,λz hz=>?_⟩
 ·have:=xa _ (Jc _ (by decide)) _ (Jc _ (by decide)) (xJ e).1;omega
 ·obtain⟨k,hk,rfl⟩:=GB.mp hz;exact A4 hS (ymG (qf (Jc _ (by decide)))) hl
theorem om{f:Int×Int}{m:Int}(h1:0<=m)(h2:m<=6){Q:T->T->Prop}(q:∀(zs:List Str) f',zs.length=m.toNat->zs.Nodup->(∀z∈zs,jO z)->Q (.li (zs.map .str)) (fT f')):W2 (gK [fT f,.im (.int m)]) Q:=by
 refine K6 [some ⟨.io 0,fT f⟩,some ⟨.ow,.im (.int m)⟩,none,none,none,none,none,none,none] rfl rfl rfl ?_;unfold gC
 lia
 refine bH (λf:Int×Int=>[some ⟨.io 0,fT f⟩,some ⟨.ow,.im (.int m)⟩,some ⟨.ow,.im (.str LET)⟩,none,none,none,none,none,none]) I.str (λj _ l=>l.length=j/\∀z∈l,∃ch,ch∈sL LET/\z=⟨#[ch]⟩) ?_
 lia
 refine am (by omega) (by omega) λd f hd0 hd1=>?_;ac_nf
 lia
 refine⟨⟨by omega,by omega⟩,by cbv,f,by cbv,⟨rfl,by simp⟩,λj f l hj ⟨hl,hx⟩=>?_,λf zs ⟨hl,hx⟩=>?_⟩
 ·lia
  refine am (by omega) (by omega) λd f hd0 hd1=>?_;ac_nf
  lia
  refine pI (s:=LET) (by rw[LET_len',LG];omega) hd0 (by rw[l8];exact hd1) λc hc=>?_;exact⟨⟨#[c]⟩,f,rfl,by cbv,by simp[hl],aU hx ⟨c,ymG hc,rfl⟩⟩
 lia
 have sum1:∀zs:List Str,(∀z∈zs,∃ch,ch∈sL LET/\z=⟨#[ch]⟩)->(zs.map (·.length)).sum=zs.length:=λzs h=>by
  induction zs with
  | nil=>rfl
  | cons z zs ih=>
   obtain⟨ch,_,e⟩:=h z ymS;rw[Gs,List.sum_cons,ih λy hy=>h y (ymC _ hy),GI,e];show 1+zs.length=_;omega
 have e0:("" : Str)=oL []:=by decide +kernel
 have e1:(("" : Str)).length=0:=by decide +kernel
 refine Bv (zs:=zs) (by rw[sum1 zs hx,e1];omega) ?_;have hst:sL (Ng "" zs)=(zs.map sL).flatten:=by rw[e0];exact rV zs
 have hSl:(sL (Ng "" zs)).length<=5:=by
  rw[hst,List.length_flatten,GQ];have:(zs.map (HG∘sL)).sum=zs.length:=by rw[<-sum1 zs hx];congr 1
  omega
 have hS:∀c∈sL (Ng "" zs),c∈sL LET:=λc hc=>by
  rw[hst]at hc;obtain⟨l,hl',hc⟩:=Kj.mp hc;obtain⟨z,hz,rfl⟩:=GB.mp hl';obtain⟨ch,hch,rfl⟩:=hx z hz;have:c=ch:=by simpa using hc
  rw[this];exact hch
 generalize Ng "" zs=stem at *;have hst5:stem.length<=5:=by rw[df];exact hSl
 have hlc:∀l:List Nat,(oL l).length=l.length:=λl=>by rw[df,cI]
 lia
 refine am (by omega) (by omega) λfi f hf0 hf1=>?_;ac_nf
 lia
 refine Bx (by rw[LG];omega) ?_
 lia
 refine am (by omega) (by omega) λat0 f ha0 ha1=>?_;ac_nf
 lia
 obtain⟨a,rfl⟩:∃a:Nat,at0=(a:Int):=⟨at0.toNat,by omega⟩;obtain⟨fn,rfl⟩:∃a:Nat,fi=(a:Int):=⟨fi.toNat,by omega⟩;have ha5:a<=(sL stem).length:=by rw[<-df];omega
 try ac_nf
 lia
 refine bW (λk:Nat=>[some ⟨.io 0,fT f⟩,some ⟨.ow,.im (.int m)⟩,some ⟨.ow,.im (.str LET)⟩,some ⟨.ow,.im (.str stem)⟩,some ⟨.ow,.im (.int fn)⟩,some ⟨.ow,.im (.int a)⟩,some ⟨.ow,.li ((ga (sL stem) a fn k).map .str)⟩,none,none]) (λj k=>k=j) ?_
 lia
 refine⟨⟨by omega,by omega⟩,0,by cbv,rfl,λi k hi hk=>?_,λk hk=>?_⟩
 ·subst hk;have hidx:((fn:Int)+5*(k:Int)) % 26=(((fn+5*k) % 26:Nat):Int):=by omega
  have hilt:(fn+5*k) % 26<26:=Jc _ (by decide);have hche:=qf hilt;have hne:ga (sL stem) a fn (k+1)=ga (sL stem) a fn k++[nmS (sL stem) a ((sL LET).getD ((fn+5*k) % 26) 0) k]:=by simp[ga,Ks]
  generalize (sL LET).getD ((fn+5*k) % 26) 0=ch at hche hne
  lia
  refine uJ (by rw[LG];omega) ?_;rw[tT ha5]
  lia
  rw[hidx];refine pI (s:=LET) (by rw[LET_len',LG];omega) (by omega) (by rw[l8];omega) λc hc=>?_;rw[GU,hche]at hc;cases hc
  lia
  refine kw (by rw[hlc,GY,LG];show _+1<=_;omega) ?_
  lia
  refine uJ (by rw[LG];omega) ?_;rw[tR ha5]
  lia
  refine kw (by rw[df,kK,cI,hlc,LG,GD,GY,Hr];show _+1+_<=_;omega) ?_;have en:(oL ((sL stem).take a)++(⟨#[ch]⟩:Str))++oL ((sL stem).drop a)=oL ((sL stem).take a++ch::(sL stem).drop a):=by
   apply nu;rw[kK,kK,cI,cI,cI];simp
  rw[en]
  lia
  refine WS.mono (Q:=λfl O=>fl=.nx/\O=[some ⟨.io 0,fT f⟩,some ⟨.ow,.im (.int m)⟩,some ⟨.ow,.im (.str LET)⟩,some ⟨.ow,.im (.str stem)⟩,some ⟨.ow,.im (.int fn)⟩,some ⟨.ow,.im (.int a)⟩,some ⟨.ow,.li ((ga (sL stem) a fn k).map .str)⟩,some ⟨.ow,.im (.int k)⟩,some ⟨.ow,.im (.str (oL (nmB (sL stem) a ch k)))⟩]) ?_ ?_
  ·(refine bg ?_;lia;clear_value hk2)
   ·lia
    refine kw (by rw[hlc,GD,GI,GY,Hr,LG];show _+1<=_;omega) ?_;have eq:oL ((sL stem).take a++ch::(sL stem).drop a)++("q" : Str)=oL (nmB (sL stem) a ch k):=by
     apply nu;rw[kK,cI,cI];unfold nmB;rw[if_pos (by omega)];rfl
    rw[eq]
    lia
    exact⟨by trivial,by first|trivial|cbv⟩
   ·lia
    have eq:(sL stem).take a++ch::(sL stem).drop a=nmB (sL stem) a ch k:=by
     unfold nmB;rw[if_neg (by omega)];simp
    rw[eq];exact⟨by trivial,by first|trivial|cbv⟩
  rintro fl O ⟨rfl,rfl⟩;have hnl:(oL (nmB (sL stem) a ch k)).length<=7:=by rw[hlc,ee];omega
  lia
  refine WS.mono (Q:=λfl O=>fl=.nx/\O=[some ⟨.io 0,fT f⟩,some ⟨.ow,.im (.int m)⟩,some ⟨.ow,.im (.str LET)⟩,some ⟨.ow,.im (.str stem)⟩,some ⟨.ow,.im (.int fn)⟩,some ⟨.ow,.im (.int a)⟩,some ⟨.ow,.li ((ga (sL stem) a fn k).map .str)⟩,some ⟨.ow,.im (.int k)⟩,some ⟨.ow,.im (.str (nmS (sL stem) a ch k))⟩]) ?_ ?_
  ·refine bg ?_
   lia
   refine Ec (is:=Lk.map .str) ⟨rfl,by decide +kernel,by decide +kernel⟩ ?_
   lia
   clear_value hw
   ·have hw':oL (nmB (sL stem) a ch k)∈Lk:=by simpa using hw
    lia
    have hw1:(("w" : Str)).length=1:=by decide +kernel
    refine kw (by rw[LG];omega) ?_;have eq:oL (nmB (sL stem) a ch k)++("w" : Str)=nmS (sL stem) a ch k:=by
     unfold nmS;rw[if_pos hw'];apply nu;rw[kK,cI,cI];rfl
    rw[eq]
    lia
    exact⟨by trivial,by first|trivial|cbv⟩
   ·have hw':oL (nmB (sL stem) a ch k)∉Lk:=by simpa using hw
    have eq:oL (nmB (sL stem) a ch k)=nmS (sL stem) a ch k:=by unfold nmS;rw[if_neg hw']
    rw[eq]
    lia
    exact⟨by trivial,by first|trivial|cbv⟩
  rintro fl O ⟨rfl,rfl⟩
  lia
  refine bn (by simp[ga];rw[LG];omega) ?_;ac_nf
  lia
  refine⟨k+1,?_,rfl⟩;rw[hne,GA]
  cbv
 ·subst hk
  lia
  obtain⟨n1,n2,n3⟩:=uy (S:=sL stem) (a:=a) (fn:=fn) (m:=m.toNat) hS hSl (by omega);exact q _ f n1 n2 n3
noncomputable def aL(p:Str×Ru):I:=.tup [.str p.1,tRu p.2]
noncomputable def aB(w wh:Int) (ds:List (Str×Ru)):I:=.tup [.int w,.int wh,.tup (ds.map aL)]
def mL:Ru->Prop
 | .num _=>True
 | .rd _ _=>True
 | _=>False
theorem sf{r:Ru}(h:mL r):r.leaves=[r]:=by cases r<;>first|rfl|cases h
theorem lE:∀{rs:List Ru},(∀r∈rs,mL r)->rs.flatMap Ru.leaves=rs
 | [],_=>rfl
 | r::rs,h=>by rw[GH,sf (h r ymS),lE λx hx=>h x (ymC _ hx)];rfl
def Lp(ns:List Str)(w:Int):Ru->Prop
 | .num n=>0<=n/\n<=1000000000
 | .rd x row=>x∈ns/\row.length=w.toNat
 | _=>False
theorem Lp.leaf{ns:List Str}{w:Int}{r:Ru}(h:Lp ns w r):mL r:=by cases r<;>first|trivial|cases h
theorem xC{r:Ru}(h:mL r):r.ok:=by cases r<;>first|trivial|cases h
def Cov(n:Nat)(rs:List Ru):Prop:=∃L:List (Str×List Int),L.length<=n/\∀x row,Ru.rd x row∈rs->(x,row)∈L
def tH(c:Nat)(ns:List Str)(w:Int)(n:Nat)(r:Ru):Prop:=r.ok/\r.leaves.length<=c/\(∀l∈r.leaves,Lp ns w l)/\Cov n r.leaves
def Lo(c:Nat)(w wh:Int)(ds:List (Str×Ru)):Prop:=1<=w/\w<=3/\2<=wh/\wh<=1000000000/\1<=ds.length/\ds.length<=6/\(ds.map (·.1)).Nodup/\(∀z∈ds.map (·.1),jO z)/\∃n,n*ds.length<=16/\∀p∈ds,tH c (ds.map (·.1)) w n p.2
theorem nh:∀{l:List (Str×List Int)},I.doks (l.map λp=>tRu (.rd p.1 p.2))=true/\I.deps (l.map λp=>tRu (.rd p.1 p.2))<=50
 | []=>⟨rfl,by decide⟩
 | p::l=>by
  have ih:=nh (l:=l);have hi:∀row:List Int,I.doks (row.map I.int)=true/\I.deps (row.map I.int)=0:=λrow=>by
   induction row with
   | nil=>exact⟨rfl,rfl⟩
   | cons x row ih=>exact⟨by rw[Gs,I.doks,ih.1];rfl,by rw[Gs,I.deps,ih.2];rfl⟩
  refine⟨?_,?_⟩
  ·rw[Gs,I.doks,ih.1];simp only[tRu,I.dok,I.doks,(hi p.2).1];rfl
  ·rw[Gs,I.deps];have h1:I.dep (tRu (.rd p.1 p.2))<=50:=by simp only[tRu,I.dep,I.deps,(hi p.2).2];decide
   have:=ih.2;omega
theorem i4{α:Type}{xs:List α}{v:Int}(h:0<=v):ca xs none (some v)=xs.take v.toNat:=by
 obtain⟨n,rfl⟩:∃n:Nat,v=n:=⟨v.toNat,by omega⟩;unfold ca;rw[HT.sIx_none,HT.sIx_nat,GU,Kv,Nat.sub_zero];rcases Nat.le_total n xs.length with h|h;rw[IW h];rw[Nat.min_eq_right h,GL h,GL (GC _)]
theorem ud{f:Int×Int}{Q:T->T->Prop}(q:∀w wh ds f',Lo 10 w wh ds->Q (.im (aB w wh ds)) (fT f')):W2 (jg [fT f]) Q:=by
 refine K6 [some ⟨.io 0,fT f⟩,none,none,none,none,none,none,none,none,none] rfl rfl rfl ?_;unfold gB
 lia
 refine vL λw m ls f hw1 hw2 hm1 hm2 hL=>?_;ac_nf
 lia
 refine am (by omega) (by omega) λd1 f a1 b1=>?_;ac_nf
 lia
 refine am (by omega) (by omega) λd2 f a2 b2=>?_;ac_nf
 lia
 refine am (by omega) (by omega) λd3 f a3 b3=>?_;ac_nf
 lia
 refine am (by omega) (by omega) λd4 f a4 b4=>?_;ac_nf
 lia
 refine aW (ns:=[2+d1,2+d2,1000000000-d3]) a4 (by simpa using b4) λwh hwh _=>?_;have hwh':2<=wh/\wh<=1000000000:=by simp at hwh;omega
 lia
 have hlm:((ls.map aD).length:Int)=m:=by rw[Gv,hL.1];omega
 rw[hlm];refine om (by omega) hm2 λzs f hzl hzn hzo=>?_;ac_nf
 lia
 refine bW (λs:(Int×Int)×List (Str×Ru)=>[some ⟨.io 0,fT s.1⟩,some ⟨.ow,.im (.int w)⟩,some ⟨.ow,.lst (ls.map aD)⟩,some ⟨.ow,.im (.int wh)⟩,some ⟨.ow,.li (zs.map .str)⟩,some ⟨.ow,.li (s.2.map aL)⟩,none,none,none,none]) (λj s=>s.2.map (·.1)=zs.take j/\∀p∈s.2,tH 10 zs w (16 / m.toNat) p.2) ?_
 lia
 rw[hlm];refine⟨⟨by omega,by omega⟩,(f,[]),by cbv,⟨rfl,by simp⟩,λx s hx ⟨hd1,hd2⟩=>?_,λs ⟨hd1,hd2⟩=>?_⟩
 ·obtain⟨f,ds⟩:=s;dsimp only at hd1 hd2|-;obtain⟨l,hl,hl7,hlP⟩:=hL.get (n:=x) (by omega)
  lia
  refine bo (λ_:Unit=>[some ⟨.io 0,fT f⟩,some ⟨.ow,.im (.int w)⟩,some ⟨.ow,.lst (ls.map aD)⟩,some ⟨.ow,.im (.int wh)⟩,some ⟨.ow,.li (zs.map .str)⟩,some ⟨.ow,.li (ds.map aL)⟩,some ⟨.ow,.im (.int x)⟩,none,none,none]) (λp:Str×List Int=>tRu (.rd p.1 p.2)) (λj _ L=>L.length=j/\∀p∈L,p.1∈zs/\p.2.length=w.toNat) ?_
  lia
  refine pH (u:=aD l) (kd:=.vw (some 2) (some [.ix x])) (by omega) (by rw[GU,GE,hl];rfl) (eW l) rfl ?_
  lia
  rw[hlm];rw[i4 (Int.ediv_nonneg (by omega) (by omega)),<-IQ];refine⟨(l.take (16 / m).toNat).map tRd,rfl,by simp;rw[LG];omega,by cbv,(),by cbv,⟨rfl,by simp⟩,λj x' _ L hx' ⟨hLl,hLx⟩=>?_,λ_ L ⟨hLl,hLx⟩=>?_⟩
  ·rw[GE]at hx';cases e:(l.take (16 / m).toNat)[j]? with
   | none=>rw[e]at hx';cases hx'
   | some p=>
    rw[e]at hx';cases hx';have hp:=hlP p (HP (ymG e));obtain⟨p0,p1,p2,p3⟩:=hp
    lia
    refine eV (emb:=I.str) (ns:=zs) p0 (by omega) λz hz=>?_
    lia
    exact⟨(z,p.2),(),rfl,by cbv,by simp[hLl],aU hLx ⟨ymG hz,p2⟩⟩
  rw[Gv]at hLl;have hLn:L.length<=16 / m.toNat:=by
   rw[hLl,GY];have:(16 / m).toNat=16 / m.toNat:=by
    obtain⟨n,rfl⟩:∃n:Nat,m=n:=⟨m.toNat,by omega⟩;rw[GU];exact congrArg Int.toNat (Int.natCast_ediv 16 n).symm
   omega
  have hL7:L.length<=7:=by rw[hLl,GY];omega
  lia
  refine bW (λs:(Int×Int)×List Ru=>[some ⟨.io 0,fT s.1⟩,some ⟨.ow,.im (.int w)⟩,some ⟨.ow,.lst (ls.map aD)⟩,some ⟨.ow,.im (.int wh)⟩,some ⟨.ow,.li (zs.map .str)⟩,some ⟨.ow,.li (ds.map aL)⟩,some ⟨.ow,.im (.int x)⟩,some ⟨.ow,.li (s.2.map tRu)⟩,none,none]) (λj s=>s.2.length=L.length+j/\(∀r∈s.2,Lp zs w r)/\∀y row,Ru.rd y row∈s.2->(y,row)∈L) ?_
  lia
  refine am (by omega) (by omega) λd f hd0 hd1'=>?_;ac_nf
  lia
  refine D8 (js:=[]) ⟨nh.1,rfl,nh.2⟩ ?_
  lia
  have hk:∀b:Bool,0<=(if b then 1 else 0:Int)/\(if b then 1 else 0:Int)<=1:=λb=>by cases b<;>decide
  have hk':=hk (decide (L.map (λp=>tRu (.rd p.1 p.2))=[]));have hk0:L=[]->(if(decide (L.map (λp=>tRu (.rd p.1 p.2))=[]))=true then 1 else 0:Int)=1:=λz=>by rw[z];rfl
  generalize (if(decide (L.map (λp=>tRu (.rd p.1 p.2))=[]))=true then 1 else 0:Int)=kk at *;refine⟨⟨by omega,by omega⟩,(f,L.map λp=>.rd p.1 p.2),by rw[GQ];cbv,⟨by simp,λr hr=>?_,λy row hr=>?_⟩,λj s hj ⟨hs1,hs2,hs3⟩=>?_,λs ⟨hs1,hs2,hs3⟩=>?_⟩
  ·obtain⟨p,hp,rfl⟩:=GB.mp hr;exact hLx p hp
  ·obtain⟨p,hp,e⟩:=GB.mp hr;cases e;exact hp
  ·obtain⟨f,rs⟩:=s;dsimp only at hs1 hs2 hs3|-
   lia
   refine am (by omega) (by omega) λe1 f he0 he1=>?_;ac_nf
   lia
   refine aW (ns:=[9,1000000001]) he0 (by simpa using he1) λtop htop _=>?_;have htop':1<=top/\top<=1000000001:=by simp at htop;omega
   lia
   refine am (by omega) (by omega) λnum f hn0 hn1=>?_;ac_nf
   lia
   rw[Gv];refine am (by omega) (by omega) λat0 f ha0 ha1=>?_;ac_nf
   lia
   refine zQ (is:=rs.map tRu) ⟨ha0,by simp;omega,by simp;rw[LG];omega⟩ ?_;ac_nf
   lia
   refine⟨(f,rs.take at0.toNat++Ru.num num::rs.drop at0.toNat),?_,by clear hLl hLn hL7 hk' hj hd0 hd1';simp;omega,λr hr=>?_,λy row hr=>?_⟩
   ·rw[GA,Gs,IQ,Jg]
    cbv
   ·rcases yaM hr with hr|hr;exact hs2 r (HP hr)
    ·rcases ycM hr with rfl|hr;exact⟨hn0,by omega⟩;exact hs2 r (Ih hr)
   ·rcases yaM hr with hr|hr;exact hs3 y row (HP hr)
    ·rcases ycM hr with hr|hr;cases hr;exact hs3 y row (Ih hr)
  ·obtain⟨f,rs⟩:=s;dsimp only at hs1 hs2 hs3|-
   lia
   refine eV (emb:=I.str) (ns:=zs) (by omega) (by omega) λz hz=>?_
   lia
   refine nV (rs:=rs) (λh0=>?_) (by omega) (λr hr=>xC (hs2 r hr).leaf) λr f hrl hro=>?_
   ·rw[h0]at hs1;have hL0:L=[]:=Ip (Nat.add_eq_zero_iff.mp hs1.symm).1;have:=hk0 hL0;simp at hs1;omega
   rw[lE λr hr=>(hs2 r hr).leaf]at hrl;ac_nf
   lia
   refine bn (is:=ds.map aL) (by
    have:ds.length<=zs.length:=by rw[<-Gv (f:=λp:Str×Ru=>p.1),hd1];simp;omega
    simp;rw[LG];omega) ?_
   ac_nf
   lia
   refine⟨(f,ds++[(z,r)]),?_,?_,aU hd2 ⟨hro,by rw[hrl];omega,by rw[hrl];exact hs2,L,hLn,by rw[hrl];exact hs3⟩⟩
   ·rw[GA]
    cbv
   ·rw[GA,hd1,II];rw[GU]at hz;rw[hz];rfl
 ·obtain⟨f,ds⟩:=s;dsimp only at hd1 hd2|-
  lia
  rw[GL (by omega)]at hd1;have hlen:ds.length=m.toNat:=by rw[<-hzl,<-hd1,Gv]
  refine q w wh ds f ⟨hw1,hw2,hwh'.1,hwh'.2,by omega,by omega,by rw[hd1];exact hzn,by rw[hd1];exact hzo,16 / m.toNat,?_,by rw[hd1];exact hd2⟩;rw[hlen];exact Nat.div_mul_le_self 16 m.toNat
noncomputable def tR2(p:Str×List Int):I:=.tup [.str p.1,.tup (p.2.map .int)]
theorem tM:∀{bs:List Bool},bls (bs.map I.bl)=some bs
 | []=>rfl
 | b::bs=>by rw[Gs,bls,tM];rfl
theorem D5{bs:List Bool}{Q:T->Prop}(q:Q (.im (.bl (bs.all id)))):W1 (o3 [.li (bs.map I.bl)]) Q:=w1 (by simp only[o3,tM,Iy]) q
noncomputable def eC(z:Str) (p:Str×List Int):I:=.tup [.str z,.str p.1,.tup (p.2.map .int)]
theorem gR{z:Str}:∀{L:List (Str×List Int)},I.doks (L.map (eC z))=true/\I.deps (L.map (eC z))<=50
 | []=>⟨rfl,Ie _⟩
 | p::l=>by
  have ih:=gR (z:=z) (L:=l);have hi:∀row:List Int,I.doks (row.map I.int)=true/\I.deps (row.map I.int)=0:=λrow=>by
   induction row with
   | nil=>exact⟨rfl,rfl⟩
   | cons x row ih=>exact⟨by rw[Gs,I.doks,ih.1];rfl,by rw[Gs,I.deps,ih.2];rfl⟩
  refine⟨?_,?_⟩
  ·rw[Gs,I.doks,ih.1];simp only[eC,I.dok,I.doks,(hi p.2).1];rfl
  ·rw[Gs,I.deps];have h1:I.dep (eC z p)<=50:=by simp only[eC,I.dep,I.deps,(hi p.2).2];decide
   have:=ih.2;omega
theorem wv{z:Str}{p:Str×List Int}:(eC z p).dok=true:=by
 have:=(gR (z:=z) (L:=[p])).1;rw[Gs,Ic,I.doks,Gz]at this;exact this.1
noncomputable def sN:Ru->Option (Str×List Int)
 | .rd x row=>some (x,row)
 | _=>none
noncomputable def rds(r:Ru):List (Str×List Int):=r.leaves.filterMap sN
theorem gP:∀r:Ru,r.pre.filterMap sN=rds r
 | .num _=>rfl
 | .rd _ _=>rfl
 | .op s a b=>by
  have h1:=gP a;have h2:=gP b;unfold rds at h1 h2|-;rw[Ru.pre,Ru.leaves,Ji rfl,GV,GV,h1,h2]
 | .cond a b c=>by
  have h1:=gP a;have h2:=gP b;have h3:=gP c;unfold rds at h1 h2 h3|-;rw[Ru.pre,Ru.leaves,Ji rfl,GV,GV,GV,GV,h1,h2,h3]
theorem iT(r:Ru):(rds r).length<=r.leaves.length:=List.length_filterMap_le _ _
noncomputable def e8(acc:List (Str×List Int)) (p:Str×List Int):List (Str×List Int):=if p∈acc then acc else acc++[p]
noncomputable def ded(L:List (Str×List Int)):List (Str×List Int):=L.foldl e8 []
theorem tV(L:List (Str×List Int))(p:Str×List Int):ded (L++[p])=e8 (ded L) p:=by unfold ded;rw[List.foldl_append];rfl
theorem qw:∀(L acc:List (Str×List Int)),(L.foldl e8 acc).length<=acc.length+L.length
 | [],acc=>by simp
 | p::L,acc=>by
  have h:=qw L (e8 acc p);have h2:(e8 acc p).length<=acc.length+1:=by unfold e8;split<;>simp
  simp only[Ix,GI]at h|-;omega
theorem pe(L:List (Str×List Int)):(ded L).length<=L.length:=by have:=qw L [];unfold ded;simpa using this
theorem aE{α:Type}{L:List α}{j:Nat}{x : α}(e:L[j]?=some x):L.take (j+1)=L.take j++[x]:=by rw[II,e];rfl
theorem lS{r:Ru}(hl:r.leaves.length<=1000){Q:T->Prop}(q:Q (.im (.tup ((rds r).map tR2)))):W1 (gO [.im (tRu r)]) Q:=by
 have hpre:=gc r;refine KY [some ⟨.ow,.im (tRu r)⟩] rfl rfl rfl ?_;unfold gG
 lia
 refine oT (λ_:Unit=>[some ⟨.ow,.im (tRu r)⟩]) tR2 (λj _ L=>L=(r.pre.take j).filterMap sN) ?_
 lia
 refine ot hl ?_;refine⟨r.pre.map tRu,rfl,by simp;rw[LG];omega,by cbv,(),by cbv,rfl,λj x' _ L hx' hL=>?_,λ_ L hL=>?_⟩
 ·rw[GE]at hx';cases e:r.pre[j]? with
  | none=>rw[e]at hx';cases hx'
  | some y=>
   rw[e]at hx';cases hx';have ht:(r.pre.take (j+1)).filterMap sN=L++(sN y).toList:=by
    rw[aE e,GV,<-hL];cases y<;>rfl
   cases y with
   | num k=>
    rw[tRu]
    lia
    clear_value h
    ·exact absurd h (by decide +kernel)
    ·exact⟨(),by cbv,by rw[ht];exact(GZ _).symm⟩
   | rd x row=>
    rw[tRu]
    lia
    clear_value h
    ·lia
     exact⟨(x,row),(),rfl,by cbv,by rw[ht];rfl⟩
    ·exact absurd rfl h
   | op s a b=>
    rw[tRu]
    lia
    clear_value h
    ·exact absurd h (by decide +kernel)
    ·exact⟨(),by cbv,by rw[ht];exact(GZ _).symm⟩
   | cond a b c=>
    rw[tRu]
    lia
    clear_value h
    ·exact absurd h (by decide +kernel)
    ·exact⟨(),by cbv,by rw[ht];exact(GZ _).symm⟩
 ·rw[Gv,GL (GC _),gP]at hL;subst hL
  lia
  exact q
theorem rP{z:Str}{r:Ru}(hl:r.leaves.length<=1000){Q:T->Prop}(q:Q (.li ((ded (rds r)).map (eC z)))):W1 (dQ [.im (.str z),.im (tRu r)]) Q:=by
 have hrl:=iT r;refine KY [some ⟨.ow,.im (.str z)⟩,some ⟨.ow,.im (tRu r)⟩,none,none,none,none] rfl rfl rfl ?_;unfold cj
 lia
 refine fM (λL:List (Str×List Int)=>[some ⟨.ow,.im (.str z)⟩,some ⟨.ow,.im (tRu r)⟩,some ⟨.ow,.li (L.map (eC z))⟩,none,none,none]) (λj L=>L=ded ((rds r).take j)) ?_
 lia
 refine lS hl ?_;refine⟨(rds r).map tR2,rfl,by cbv,[],by cbv,rfl,λj x' L hx' hL=>?_,λL hL=>?_⟩
 ·rw[GE]at hx';cases e:(rds r)[j]? with
  | none=>rw[e]at hx';cases hx'
  | some p=>
   rw[e]at hx';cases hx';have hj:=(Gr.mp e).1;have hLl:L.length<=1000:=by rw[hL];have:=pe ((rds r).take j);rw[GY]at this;omega
   have hs:ded ((rds r).take (j+1))=e8 L p:=by rw[aE e,tV,hL]
   lia
   refine bg ?_
   lia
   refine BE (i:=eC z p) (is:=L.map (eC z)) ⟨wv,gR.1,gR.2⟩ ?_
   lia
   clear_value h
   ·lia
    refine bn (is:=L.map (eC z)) (i:=eC z p) (by simp;rw[LG];omega) ?_;ac_nf
    lia
    have hp:p∉L:=λm=>h (GB.mpr ⟨_,m,rfl⟩);refine⟨L++[p],?_,?_⟩
    ·rw[GA]
     cbv
    ·rw[hs,e8,if_neg hp]
   ·lia
    have hp:p∈L:=by
     obtain⟨p',m,e'⟩:=GB.mp h;have:p'=p:=by
      unfold eC at e';simp only[I.tup.injEq,HE.injEq,I.str.injEq,and_true,true_and]at e';obtain⟨e1,e2⟩:=e';exact Prod.ext e1 (List.map_inj_right (λa b h=>by cases h;rfl) |>.mp e2)
     exact this▸m
    exact⟨L,by cbv,by rw[hs,e8,if_pos hp]⟩
 ·rw[Gv,GL (GC _)]at hL;subst hL
  lia
  exact q
theorem kB:∀ds:List (Str×Ru),oA (ds.map aL)=some (ds.map λd=>(Mn d.1,tRu d.2))
 | []=>rfl
 | d::ds=>by rw[Gs,oA,kB ds];rfl
theorem Bo{ds:List (Str×Ru)}(hn:(ds.map (·.1)).Nodup){Q:T->Prop}(q:Q (.di (ds.map λd=>(.str d.1,tRu d.2)))):W1 (jW [.im (.tup (ds.map aL))]) Q:=by unhygienic
 refine w1 (x:=.di (ds.map λd=>(.str d.1,tRu d.2))) ?_ q;show pf (ds.map aL)=_;unfold pf;rw[kB];dsimp only;rw[if_pos ?_,GQ];rfl
 ·rw[GQ];have:(ds.map λd=>(Mn d.1:Key))=(ds.map (·.1)).map Mn:=by rw[GQ];rfl
  show(ds.map λd=>(Mn d.1:Key)).Nodup;rw[this];exact List.Pairwise.map _ (λa b h e=>h (NU e)) hn
theorem jo{z:Str}{r:Ru}:∀{ds:List (Str×Ru)},(ds.map (·.1)).Nodup->(z,r)∈ds->jX (ds.map λd=>(.str d.1,tRu d.2)) (.str z)=some (tRu r)
 | d::ds,hn,hm=>by
  rw[Gs,G3]at hn;rw[Gs,jX];rcases ycM hm with rfl|hm;rw[if_pos rfl]
  ·have:d.1≠z:=λe=>hn.1 (e▸GB.mpr ⟨_,hm,rfl⟩);rw[if_neg (λe=>this (I.str.inj e))];exact jo hn.2 hm
theorem F8{kvs:List (I×I)}{z:Str}{v:I}(h:jX kvs (.str z)=some v){Q:T->Prop}(q:Q (.im v)):W1 (dgT (.di kvs) (.im (.str z))) Q:=by unhygienic
 refine w1 (x:=.im v) ?_ q;show dg1 kvs (.str z)=_;unfold dg1 mN;dsimp only;rw[h];rfl
theorem sX{w wh:Int}{ds:List (Str×Ru)}{z:Str}{r:Ru}(hn:(ds.map (·.1)).Nodup)(hm:(z,r)∈ds){Q:T->Prop}(q:Q (.im (tRu r))):W1 (gi [.im (aB w wh ds),.im (.str z)]) Q:=by
 refine KY [some ⟨.ow,.im (aB w wh ds)⟩,some ⟨.ow,.im (.str z)⟩] rfl rfl rfl ?_;unfold dY;rw[aB]
 lia
 refine Bo hn ?_
 lia
 refine F8 (jo hn hm) ?_
 lia
 exact q
theorem kG{s:Str}{a b:Ru}:rds (.op s a b)=rds a++rds b:=by simp[rds,Ru.leaves,GV]
theorem gj{a b c:Ru}:rds (.cond a b c)=rds a++(rds b++rds c):=by simp[rds,Ru.leaves,GV]
noncomputable def Ru.mp(f:Str->List Int->List Int):Ru->Ru
 | .num n=>.num n
 | .rd x row=>.rd x (f x row)
 | .op s a b=>.op s (a.mp f) (b.mp f)
 | .cond a b c=>.cond (a.mp f) (b.mp f) (c.mp f)
noncomputable def wst(F:List (List Int)) (s:List Ru×Nat):Ru->Option (List Ru×Nat)
 | .num k=>some (.num k::s.1,s.2)
 | .rd x _=>match s.2 with
  | 0=>none
  | m+1=>match F[m]? with
   | some v=>some (.rd x v::s.1,m)
   | none=>none
 | .op z _ _=>match s.1 with
  | a::b::P=>some (.op z a b::P,s.2)
  | _=>none
 | .cond _ _ _=>match s.1 with
  | a::b::c::P=>some (.cond a b c::P,s.2)
  | _=>none
noncomputable def rF(f:Str->List Int->List Int) (p:Str×List Int):List Int:=f p.1 p.2
theorem gW(f:Str->List Int->List Int):∀(r:Ru) (F A B:List (List Int)) (P:List Ru),F=A++((rds r).map (rF f)++B)->r.pre.reverse.foldlM (wst F) (P,A.length+(rds r).length)=some (r.mp f::P,A.length)
 | .num k,F,A,B,P,h=>rfl
 | .rd x row,F,A,B,P,h=>by
  have e:F[A.length]?=some (f x row):=by
   rw[h,Hm (GC _),Nat.sub_self];rfl
  show(wst F (P,A.length+1) (.rd x row)).bind _=_;simp only[wst,e];rfl
 | .op s a b,F,A,B,P,h=>by
  rw[kG,GA,GK]at h;have hb:=gW f b F (A++(rds a).map (rF f)) B P (by rw[h,GK]);have ha:=gW f a F A ((rds b).map (rF f)++B) (b.mp f::P) h;rw[GD,Gv]at hb;rw[Ru.pre,G6,Ik,kG,GD,<-JV,Hu,Hu,hb];simp only[IY,IN,ha];rfl
 | .cond a b c,F,A,B,P,h=>by
  rw[gj,GA,GA,GK,GK]at h;have hc:=gW f c F (A++(rds a).map (rF f)++(rds b).map (rF f)) B P (by rw[h,GK,GK]);have hb:=gW f b F (A++(rds a).map (rF f)) ((rds c).map (rF f)++B) (c.mp f::P) (by rw[h,GK]);have ha:=gW f a F A ((rds b).map (rF f)++((rds c).map (rF f)++B)) (b.mp f::c.mp f::P) h;rw[GD,Gv,GD,Gv]at hc;rw[GD,Gv]at hb;rw[Ru.pre,G6,Ik,Ik,gj,GD,GD,<-JV,<-JV,Hu,Hu,Hu,hc];simp only[IY,IN,hb,ha];rfl
theorem tF(f:Str->List Int->List Int)(r:Ru):r.pre.reverse.foldlM (wst ((rds r).map (rF f))) ([],(rds r).length)=some ([r.mp f],0):=by
 have:=gW f r ((rds r).map (rF f)) [] [] [] (by simp);simpa using this
theorem zC{F:List (List Int)}{s s':List Ru×Nat}{p:Ru}(h:wst F s p=some s'):s'.1.length<=s.1.length+1/\s'.2<=s.2:=by
 obtain⟨P,n⟩:=s;unfold wst at h;split at h;cases h;simp
 ·split at h;cases h
  ·rename_i m hm;split at h;cases h;dsimp only at hm|-;simp;omega;cases h
 ·split at h;rename_i hP;cases h;dsimp only at hP|-;rw[hP];simp;cases h
 ·split at h;rename_i hP;cases h;dsimp only at hP|-;rw[hP];simp;cases h
theorem rT{α β:Type}{st : β->α->Option β}{l:List α}{s0 s1 z : β}{j:Nat}{x : α}(h:l.foldlM st s0=some z)(hj:(l.take j).foldlM st s0=some s1)(hx:l[j]?=some x):∃s2,st s1 x=some s2/\(l.take (j+1)).foldlM st s0=some s2:=by
 obtain⟨hlt,hx'⟩:=Gr.mp hx;have e1:l.take (j+1)=l.take j++[x]:=by rw[II,hx];rfl
 have e2:l=l.take (j+1)++l.drop (j+1):=(HY _ _).symm;rw[e2,Hu,e1,Hu,hj]at h;rw[e1,Hu,hj];simp only[IY,IN,List.foldlM_cons,List.foldlM_nil]at h|-;cases e:st s1 x with
 | none=>rw[e]at h;cases h
 | some s2=>exact⟨s2,rfl,rfl⟩
noncomputable def wl(v:List Int):I:=.tup (v.map .int)
theorem apI{is:List I}(h:is.length<sizeLine):(apT (.li is) [.im .non]).isSome=true:=by unhygienic exact congrArg Option.isSome (if_pos h)
theorem nF{r:Ru}{f:Str->List Int->List Int}(hl:r.leaves.length<=1000){Q:T->Prop}(q:Q (.im (tRu (r.mp f)))):W1 (eG [.im (tRu r),.li (((rds r).map (rF f)).map wl)]) Q:=by
 have hpre:=gc r;have hrl:=iT r;have hw:=tF f r;have hF:((rds r).map (rF f)).length=(rds r).length:=Gv _
 revert hw hF
 generalize (rds r).map (rF f)=F;intro hw hF;refine KY [some ⟨.ow,.im (tRu r)⟩,some ⟨.vw none none,.li (F.map wl)⟩,none,none,none] rfl rfl rfl ?_;unfold cP
 lia
 refine zp (λs:List Ru×Nat=>[some ⟨.ow,.im (tRu r)⟩,some ⟨.vw none none,.li (F.map wl)⟩,some ⟨.ow,.li (s.1.reverse.map tRu)⟩,some ⟨.ow,.im (.int s.2)⟩,none]) (λj s=>(r.pre.reverse.take j).foldlM (wst F) ([],(rds r).length)=some s/\s.1.length<=j/\s.2<=F.length) ?_
 lia
 refine ot hl ?_
 lia
 refine⟨_,r.pre.map tRu,rfl,by cbv,([],(rds r).length),?_,⟨rfl,GC _,by omega⟩,λj x s hx hs=>?_,λs hs=>?_⟩
 ·rw[Gv,hF]
  cbv
 ·rw[<-IB,GE]at hx;obtain⟨hs1,hs2,hs3⟩:=hs;cases e:r.pre.reverse[j]? with
  | none=>rw[e]at hx;cases hx
  | some p=>
   rw[e]at hx;cases hx;have hj:=(Gr.mp e).1;rw[Ij]at hj;obtain⟨s2,es,hs4⟩:=rT hw hs1 e;have hb:=zC es;obtain⟨P,n⟩:=s;dsimp only at hs2 hs3 hb|-;cases p with
   | num k=>
    cases es;rw[tRu]
    lia
    (refine bg ?_;lia;clear_value h)
    ·lia
     refine bn (is:=P.reverse.map tRu) (by simp;rw[LG];omega) ?_;ac_nf
     lia
     refine⟨(.num k::P,n),?_,hs4,by simp;omega,hs3⟩;rw[G6,GA]
     cbv
    ·exact absurd rfl h
   | rd x row=>
    rw[tRu]
    lia
    (refine bg ?_;lia;clear_value h)
    ·exact absurd h (by decide +kernel)
    lia
    (refine bg ?_;lia;clear_value h2)
    ·cases n with
     | zero=>cases es
     | succ m=>
      have hm:m<F.length:=by omega
      lia
      refine Fy rfl ?_
      lia
      simp only[show((m+1:Nat):Int)-1=(m:Int) by omega];ac_nf;refine eV (emb:=wl) (Int.natCast_nonneg m) (by omega) λy hy=>?_;rw[GU]at hy;simp only[wst,hy]at es;cases es
      lia
      refine bn (is:=P.reverse.map tRu) (i:=tRu (.rd x y)) (by simp;rw[LG];omega) ?_;ac_nf
      lia
      refine⟨(.rd x y::P,m),?_,hs4,by simp;omega,by dsimp only;omega⟩;rw[G6,GA]
      cbv
    ·exact absurd rfl h2
   | op z a b=>
    rw[tRu]
    lia
    (refine bg ?_;lia;clear_value h)
    ·exact absurd h (by decide +kernel)
    lia
    (refine bg ?_;lia;clear_value h2)
    ·exact absurd h2 (by decide +kernel)
    lia
    (refine bg ?_;lia;clear_value h3)
    ·lia
     cases P with
     | nil=>cases es
     | cons a1 P=>
      cases P with
      | nil=>cases es
      | cons b1 P=>
       cases es;simp only[GI]at hs2;rw[G6,G6,GA,GA];refine wR rfl (apI (by simp;rw[LG];omega)) ?_
       lia
       refine lP ?_;ac_nf
       lia
       refine lP ?_;ac_nf
       lia
       refine⟨_,rfl,?_⟩;ac_nf
       lia
       refine bn (is:=P.reverse.map tRu) (i:=tRu (.op z a1 b1)) (by simp;rw[LG];omega) ?_;ac_nf
       lia
       refine⟨(.op z a1 b1::P,n),?_,hs4,by simp;omega,hs3⟩;rw[G6,GA]
       cbv
    ·exact absurd rfl h3
   | cond a b c=>
    rw[tRu]
    lia
    (refine bg ?_;lia;clear_value h)
    ·exact absurd h (by decide +kernel)
    lia
    (refine bg ?_;lia;clear_value h2)
    ·exact absurd h2 (by decide +kernel)
    lia
    (refine bg ?_;lia;clear_value h3)
    ·exact absurd h3 (by decide +kernel)
    ·lia
     cases P with
     | nil=>cases es
     | cons a1 P=>
      cases P with
      | nil=>cases es
      | cons b1 P=>
       cases P with
       | nil=>cases es
       | cons c1 P=>
        cases es;simp only[GI]at hs2;rw[G6,G6,G6,GA,GA,GA];refine wR rfl (apI (by simp;rw[LG];omega)) ?_
        lia
        refine lP ?_;ac_nf
        lia
        refine lP ?_;ac_nf
        lia
        refine lP ?_;ac_nf
        lia
        refine⟨_,rfl,?_⟩;ac_nf
        lia
        refine bn (is:=P.reverse.map tRu) (i:=tRu (.cond a1 b1 c1)) (by simp;rw[LG];omega) ?_;ac_nf
        lia
        refine⟨(.cond a1 b1 c1::P,n),?_,hs4,by simp;omega,hs3⟩;rw[G6,GA]
        cbv
 ·obtain⟨hs1,-,-⟩:=hs;rw[GL (by simp),hw]at hs1;cases hs1
  lia
  exact q
mutual
noncomputable def I.fit:I->Bool
 | .tup is=>decide (is.length<=1000000)&&I.fits is
 | .ls _=>false
 | .fd _ _=>false
 | _=>true
noncomputable def I.fits:List I->Bool
 | []=>true
 | i::is=>i.fit&&I.fits is
end
theorem nS:∀{is:List I} {i:I},I.fits is=true->i∈is->i.fit=true
 | a::is,i,h,hm=>by
  rw[I.fits,Gz]at h;rcases ycM hm with rfl|hm;exact h.1;exact nS h.2 hm
theorem mD:∀{is:List I},(∀i∈is,i.fit=true)->I.fits is=true
 | [],_=>rfl
 | a::is,h=>by rw[I.fits,h a ymS,mD λi hi=>h i (ymC _ hi)];rfl
theorem nM:∀{is:List I} {i:I},i∈is->i.dep<=I.deps is
 | a::is,i,hm=>by
  rw[I.deps];rcases ycM hm with rfl|hm;omega;have:=nM hm;omega
theorem iA{n:Nat}:∀{is:List I},(∀i∈is,i.dep<=n)->I.deps is<=n
 | [],_=>Ie _
 | a::is,h=>by
  have h1:=h a ymS;have h2:=iA λi hi=>h i (ymC _ hi);rw[I.deps];omega
theorem Bn{l:List Unit}{Q:T->Prop}(q:Q (.im (.bl true))):W1 (o3 [.li (l.map λ_=>I.bl true)]) Q:=by
 have e:(l.map λ_=>I.bl true)=(l.map λ_=>true).map I.bl:=by rw[GQ];rfl
 rw[e];refine D5 ?_;have:(l.map λ_=>true).all id=true:=by simp
 rw[this];exact q
theorem nJ:∀(n:Nat) (i:I),i.dep<n->i.fit=true->W1 (dE n [.im i,.im i]) λt=>t=.im (.bl true):=by
 intro n
 induction n with
 | zero=>intro i h;omega
 | succ n ih=>
  intro i h hf;refine KY [some ⟨.ow,.im i⟩,some ⟨.ow,.im i⟩] rfl rfl rfl ?_;unfold gz;cases i with
  | tup is=>
   rw[I.fit,Gz,decide_eq_true_eq]at hf;rw[I.dep]at h
   (repeat first|infer_instance|refine spT ?_|refine spF ?_|refine bg ?_)
   clear_value hl
   ·lia
    refine iX (λ_:Unit=>[some ⟨.ow,.im (.tup is)⟩,some ⟨.ow,.im (.tup is)⟩]) (λ_:Unit=>I.bl true) (λj _ l=>l.length=j) ?_
    lia
    refine⟨_,_,false,false,is,is,rfl,rfl,rfl,by rw[LG];omega,by cbv,(),by cbv,rfl,λj x y _ l hx hy hP=>?_,λ_ l hP=>?_⟩
    ·rw[hx]at hy;cases hy;have hm:=ymG hx
     lia
     refine W1.mono (ih x (by have:=nM hm;omega) (nS hf.2 hm)) λt ht=>?_;subst ht;exact⟨(),(),rfl,by cbv,by simp[hP]⟩
    ·lia
     refine Bn ?_
     lia
     try rfl
   ·exact absurd rfl hl
  | non=>
   (repeat first|infer_instance|refine spT ?_|refine spF ?_|refine bg ?_)
   refine w1 (x:=.im (.bl true)) (by cbv) ?_
   lia
   try rfl
  | bl b=>
   (repeat first|infer_instance|refine spT ?_|refine spF ?_|refine bg ?_)
   refine w1 (x:=.im (.bl true)) (by unhygienic (cases b<;>rfl)) ?_
   lia
   try rfl
  | int z=>(repeat first|infer_instance|refine spT ?_|refine spF ?_|refine bg ?_);simp
  | str z=>(repeat first|infer_instance|refine spT ?_|refine spF ?_|refine bg ?_);simp
  | ls is=>rw[I.fit]at hf;cases hf
  | fd _ _=>rw[I.fit]at hf;cases hf
noncomputable def bi(a b:List Int):List Int:=Iu (· + ·) a b
noncomputable def tPl(a:List Int):I:=.tup (a.map .int)
noncomputable def bU(c:Str×List Int):I:=.tup [.str c.1,tPl c.2]
theorem tG{a b:List Int}{j:Nat}{x y:Int}(ha:a[j]?=some x)(hb:b[j]?=some y):bi (a.take (j+1)) (b.take (j+1))=bi (a.take j) (b.take j)++[x+y]:=by
 unfold bi;rw[aE ha,aE hb,JR];rfl
 ·have h1:=(Gr.mp ha).1;have h2:=(Gr.mp hb).1;rw[GY,GY];omega
theorem wZ{a b:List Int}:bi (a.take (min a.length b.length)) (b.take (min a.length b.length))=bi a b:=by
 unfold bi;rw[<-Kf];rw[GL (by simp)]
theorem mQ{a b:List Int}(ha:a.length<=1000){Q:T->Prop}(q:Q (.im (tPl (bi a b)))):W1 (gL [.im (tPl a),.im (tPl b)]) Q:=by
 refine KY [some ⟨.ow,.im (tPl a)⟩,some ⟨.ow,.im (tPl b)⟩] rfl rfl rfl ?_;unfold jI
 lia
 refine iX (λ_:Unit=>[some ⟨.ow,.im (tPl a)⟩,some ⟨.ow,.im (tPl b)⟩]) I.int (λj _ l=>l=bi (a.take j) (b.take j)) ?_
 lia
 refine⟨_,_,false,false,a.map .int,b.map .int,rfl,rfl,rfl,by simp;rw[LG];omega,by cbv,(),by cbv,rfl,λj x y _ l hx hy hP=>?_,λ_ l hP=>?_⟩
 ·obtain⟨x',hx',rfl⟩:=ay hx;obtain⟨y',hy',rfl⟩:=ay hy
  lia
  exact⟨x'+y',(),rfl,by cbv,by rw[hP,tG hx' hy']⟩
 ·rw[Gv,Gv]at hP;rw[wZ]at hP;subst hP
  lia
  exact q
abbrev Ofs:=List (Str×List Int)
noncomputable def bp(c:Ofs):I:=.fd (c.map λp=>.inr p.1) (c.map λp=>tPl p.2)
theorem cK{z:Str}{v:List Int}:∀{c:Ofs},(c.map (·.1)).Nodup->(z,v)∈c->jq (c.map λp=>.inr p.1) (c.map λp=>tPl p.2) (.inr z)=some (tPl v)
 | d::ds,hn,hm=>by
  rw[Gs,G3]at hn;rw[Gs,Gs,jq];rcases ycM hm with rfl|hm;rw[if_pos rfl]
  ·have:d.1≠z:=λe=>hn.1 (e▸GB.mpr ⟨_,hm,rfl⟩);rw[if_neg (λe=>this (NU e))];exact cK hn.2 hm
noncomputable def mvF(g:Str->List Int) (z:Str) (o:Str) (row:List Int):List Int:=bi (bi row (g o)) ((g z).map λx=>-x)
theorem kZ{c:Ofs}{g:Str->List Int}{z:Str}{r:Ru}(hl:r.leaves.length<=1000)(hn:(c.map (·.1)).Nodup)(hz:(z,g z)∈c)(hzl:(g z).length<=1000)(hr:∀p∈rds r,(p.1,g p.1)∈c/\p.2.length<=1000){Q:T->Prop}(q:Q (.im (tRu (r.mp (mvF g z))))):W1 (dR [.im (.str z),.im (tRu r),.im (bp c)]) Q:=by
 have hrl:=iT r;refine KY [some ⟨.ow,.im (.str z)⟩,some ⟨.ow,.im (tRu r)⟩,some ⟨.ow,.im (bp c)⟩,none] rfl rfl rfl ?_;unfold cq
 lia
 refine bo (λ_:Unit=>[some ⟨.ow,.im (.str z)⟩,some ⟨.ow,.im (tRu r)⟩,some ⟨.ow,.im (bp c)⟩,none]) I.int (λj _ L=>L=((g z).take j).map λx=>-x) ?_
 lia
 refine lO (cK hn hz) ?_;refine⟨(g z).map .int,rfl,by simp;rw[LG];omega,by cbv,(),by cbv,rfl,λj x _ l hx hP=>?_,λ_ l hP=>?_⟩
 ·obtain⟨x',hx',rfl⟩:=ay hx
  lia
  exact⟨-x',(),rfl,by cbv,by rw[hP,aE hx',GA];rfl⟩
 ·rw[Gv,Hl]at hP;subst hP
  lia
  refine bo (λ_:Unit=>[some ⟨.ow,.im (.str z)⟩,some ⟨.ow,.im (tRu r)⟩,some ⟨.ow,.im (bp c)⟩,some ⟨.ow,.im (tPl ((g z).map λx=>-x))⟩]) wl (λj _ L=>L=((rds r).take j).map (rF (mvF g z))) ?_
  lia
  refine lS hl ?_;refine⟨(rds r).map tR2,rfl,by simp;rw[LG];omega,by cbv,(),by cbv,rfl,λj x _ l hx hP=>?_,λ_ l hP=>?_⟩
  ·obtain⟨p,hp,rfl⟩:=ay hx;have hpr:=hr p (ymG hp);rw[tR2]
   lia
   refine lO (cK hn hpr.1) ?_
   lia
   refine mQ (a:=p.2) (b:=g p.1) hpr.2 ?_
   lia
   refine mQ (a:=bi p.2 (g p.1)) (b:=(g z).map λx=>-x) (by unfold bi;rw[IC];omega) ?_
   lia
   exact⟨rF (mvF g z) p,(),rfl,by cbv,by rw[hP,aE hp,GA];rfl⟩
  ·rw[Gv,Hl]at hP;subst hP
   lia
   refine nF hl ?_
   lia
   exact q
noncomputable def mvD(g:Str->List Int) (p:Str×Ru):Str×Ru:=(p.1,p.2.mp (mvF g p.1))
theorem oj{w wh:Int}{ds:List (Str×Ru)}{c:Ofs}{g:Str->List Int}(hd:ds.length<=1000)(hn:(c.map (·.1)).Nodup)
  (h:∀p∈ds,p.2.leaves.length<=1000/\(p.1,g p.1)∈c/\(g p.1).length<=1000/\∀e∈rds p.2,(e.1,g e.1)∈c/\e.2.length<=1000) {Q:T->Prop} (q:Q (.im (aB w wh (ds.map (mvD g))))):W1 (gM [.im (aB w wh ds),.im (bp c)]) Q:=by
 refine KY [some ⟨.ow,.im (aB w wh ds)⟩,some ⟨.ow,.im (bp c)⟩,none,none,none] rfl rfl rfl ?_;unfold gF;rw[aB]
 lia
 refine bo (λ_:Unit=>[some ⟨.ow,.im (.tup [.int w,.int wh,.tup (ds.map aL)])⟩,some ⟨.ow,.im (bp c)⟩,some ⟨.ow,.im (.int w)⟩,some ⟨.ow,.im (.int wh)⟩,some ⟨.ow,.im (.tup (ds.map aL))⟩]) aL (λj _ L=>L=(ds.take j).map (mvD g)) ?_
 lia
 refine⟨ds.map aL,rfl,by simp;rw[LG];omega,by cbv,(),by cbv,rfl,λj x _ l hx hP=>?_,λ_ l hP=>?_⟩
 ·obtain⟨p,hp,rfl⟩:=ay hx;obtain⟨h1,h2,h3,h4⟩:=h p (ymG hp);rw[aL]
  lia
  refine kZ h1 hn h2 h3 h4 ?_
  lia
  exact⟨mvD g p,(),rfl,by cbv,by rw[hP,aE hp,GA];rfl⟩
 ·rw[Gv,Hl]at hP;subst hP
  lia
  exact q
theorem gZ{c:Ofs}{z:Str}{pl v:List Int}(hl:pl.length<=1000)(hn:(c.map (·.1)).Nodup)(hz:(z,v)∈c){Q:T->Prop}(q:Q (.im (bU (z,bi pl v)))):W1 (cy [.im (bU (z,pl)),.im (bp c)]) Q:=by
 refine KY [some ⟨.ow,.im (bU (z,pl))⟩,some ⟨.ow,.im (bp c)⟩,none,none] rfl rfl rfl ?_;unfold cm;rw[bU]
 lia
 refine lO (cK hn hz) ?_
 lia
 refine mQ hl ?_
 lia
 exact q
noncomputable def zpl(t:Int) (a b:List Int):List Int:=Iu (λx y=>x+t*y) a b
theorem w8{t:Int}{a b:List Int}{j:Nat}{x y:Int}(ha:a[j]?=some x)(hb:b[j]?=some y):zpl t (a.take (j+1)) (b.take (j+1))=zpl t (a.take j) (b.take j)++[x+t*y]:=by
 unfold zpl;rw[aE ha,aE hb,JR];rfl
 ·have h1:=(Gr.mp ha).1;have h2:=(Gr.mp hb).1;rw[GY,GY];omega
theorem zF{t:Int}{a b:List Int}:zpl t (a.take (min a.length b.length)) (b.take (min a.length b.length))=zpl t a b:=by
 unfold zpl;rw[<-Kf];rw[GL (by simp)]
theorem rD(a b:List Int):zpl 1 a b=bi a b:=by unfold zpl bi;congr 1;funext x y;rw[Int.one_mul]
theorem zG(a b:List Int):zpl (-1) a b=bi a (b.map λx=>-x):=by
 unfold zpl bi;rw[List.zipWith_map_right];congr 1;funext x y;omega
theorem mZ{a b:List Int}{t:Int}(ha:a.length<=1000)(ht : -1000<=t/\t<=1000){Q:T->Prop}(q:Q (.im (tPl (zpl t a b)))):W1 (gf [.im (tPl a),.im (tPl b),.im (.int t)]) Q:=by
 refine KY [some ⟨.ow,.im (tPl a)⟩,some ⟨.ow,.im (tPl b)⟩,some ⟨.ow,.im (.int t)⟩] rfl rfl rfl ?_;unfold iN
 lia
 refine iX (λ_:Unit=>[some ⟨.ow,.im (tPl a)⟩,some ⟨.ow,.im (tPl b)⟩,some ⟨.ow,.im (.int t)⟩]) I.int (λj _ l=>l=zpl t (a.take j) (b.take j)) ?_
 lia
 refine⟨_,_,false,false,a.map .int,b.map .int,rfl,rfl,rfl,by simp;rw[LG];omega,by cbv,(),by cbv,rfl,λj x y _ l hx hy hP=>?_,λ_ l hP=>?_⟩
 ·obtain⟨x',hx',rfl⟩:=ay hx;obtain⟨y',hy',rfl⟩:=ay hy
  lia
  refine qP (A2 (by omega) (by omega)) ?_
  lia
  exact⟨x'+t*y',(),rfl,by cbv,by rw[hP,w8 hx' hy']⟩
 ·rw[Gv,Gv]at hP;rw[zF]at hP;subst hP
  lia
  exact q
noncomputable def lmF(g:Str->List Int) (mine:List Int) (o:Str) (row:List Int):List Int:=zpl (-1) (zpl 1 row (g o)) mine
theorem AW(g:Str->List Int)(z:Str):lmF g (g z)=mvF g z:=by funext o row;unfold lmF mvF;rw[zG,rD]
theorem mS{c:Ofs}{g:Str->List Int}{mine:List Int}(hn:(c.map (·.1)).Nodup)(hmi:mine.length<=1000):∀(n:Nat) (r:Ru),r.depth<n->(∀x row,Ru.rd x row∈r.leaves->row.length<=1000/\(x,g x)∈c)->∀{Q:T->Prop},Q (.im (tRu (r.mp (lmF g mine))))->W1 (dN n [.im (tRu r),.im (bp c),.im (tPl mine)]) Q
 | 0,r,hd,_,Q,q=>absurd hd (Kq _)
 | n+1,r,hd,hr,Q,q=>by
  refine KY [some ⟨.ow,.im (tRu r)⟩,some ⟨.ow,.im (bp c)⟩,some ⟨.ow,.im (tPl mine)⟩,none] rfl rfl rfl ?_;unfold fo;cases r with
  | num k=>
   rw[tRu]
   lia
   (refine bg ?_;lia;clear_value h)
   ·lia
    exact q
   ·exact absurd rfl h
  | rd x row=>
   have hrow:=hr x row (by simp[Ru.leaves]);rw[tRu]
   lia
   (refine bg ?_;lia;clear_value h)
   ·exact absurd h (by decide +kernel)
   lia
   (refine bg ?_;lia;clear_value h')
   ·lia
    refine lO (cK hn hrow.2) ?_
    lia
    refine mZ (a:=row) (b:=g x) hrow.1 (by omega) ?_
    lia
    refine mZ (a:=zpl 1 row (g x)) (b:=mine) (by unfold zpl;rw[IC];omega) (by omega) ?_
    lia
    exact q
   ·exact absurd rfl h'
  | op s a b=>
   have ha:a.depth<n/\b.depth<n:=by
    exact Kz.1 (Jw hd)
   rw[tRu]
   lia
   (refine bg ?_;lia;clear_value h)
   ·exact absurd h (by decide +kernel)
   lia
   (refine bg ?_;lia;clear_value h')
   ·exact absurd h' (by decide +kernel)
   lia
   simp only[decide_true,if_true,Int.reduceAdd];refine lQ (is:=[.str "op",.str s,tRu a,tRu b]) (show ¬((0:Nat)=0/\2=4) by decide) ?_
   lia
   refine bo (λ_:Unit=>[some ⟨.ow,.im (.tup [.str "op",.str s,tRu a,tRu b])⟩,some ⟨.ow,.im (bp c)⟩,some ⟨.ow,.im (tPl mine)⟩,some ⟨.ow,.im (.int 2)⟩]) tRu (λj _ L=>L=([a,b].take j).map (Ru.mp (lmF g mine))) ?_
   lia
   refine lQ (is:=[.str "op",.str s,tRu a,tRu b]) (show ¬((2:Nat)=0/\4=4) by decide) ?_;refine⟨[a,b].map tRu,rfl,by simp;rw[LG];omega,by cbv,(),by cbv,rfl,λj x' _ L hx' hL=>?_,λ_ L hL=>?_⟩
   ·rw[GE]at hx';cases e:([a,b]:List Ru)[j]? with
    | none=>rw[e]at hx';cases hx'
    | some y=>
     rw[e]at hx';cases hx';have hy:y=a\/y=b:=by have:=ymG e;simpa using this
     lia
     refine mS hn hmi n y (by rcases hy with rfl|rfl<;>omega) (λx row hm=>hr x row ?_) ?_
     ·rw[Ru.leaves];rcases hy with rfl|rfl;exact yaL _ hm;exact yaR _ hm
     ·exact⟨y.mp (lmF g mine),(),rfl,by cbv,by rw[hL,II,e];simp⟩
   ·rw[Gv,GL (GC _)]at hL;subst hL
    lia
    refine uC (by simp[ca];rw[LG];omega) ?_
    lia
    exact q
  | cond a b c0=>
   have ha:a.depth<n/\b.depth<n/\c0.depth<n:=by
    have h:=Kz.1 (Jw hd);exact⟨h.1,Kz.1 h.2⟩
   rw[tRu]
   lia
   (refine bg ?_;lia;clear_value h)
   ·exact absurd h (by decide +kernel)
   lia
   (refine bg ?_;lia;clear_value h')
   ·exact absurd h' (by decide +kernel)
   lia
   rw[show(1+if decide (("if" : Str) = "op")=true then 1 else 0:Int)=1 by decide +kernel];refine lQ (is:=[.str "if",tRu a,tRu b,tRu c0]) (show ¬((0:Nat)=0/\1=4) by decide) ?_
   lia
   refine bo (λ_:Unit=>[some ⟨.ow,.im (.tup [.str "if",tRu a,tRu b,tRu c0])⟩,some ⟨.ow,.im (bp c)⟩,some ⟨.ow,.im (tPl mine)⟩,some ⟨.ow,.im (.int 1)⟩]) tRu (λj _ L=>L=([a,b,c0].take j).map (Ru.mp (lmF g mine))) ?_
   lia
   refine lQ (is:=[.str "if",tRu a,tRu b,tRu c0]) (show ¬((1:Nat)=0/\4=4) by decide) ?_;refine⟨[a,b,c0].map tRu,rfl,by simp;rw[LG];omega,by cbv,(),by cbv,rfl,λj x' _ L hx' hL=>?_,λ_ L hL=>?_⟩
   ·rw[GE]at hx';cases e:([a,b,c0]:List Ru)[j]? with
    | none=>rw[e]at hx';cases hx'
    | some y=>
     rw[e]at hx';cases hx';have hy:y=a\/y=b\/y=c0:=by have:=ymG e;simpa using this
     lia
     refine mS hn hmi n y (by rcases hy with rfl|rfl|rfl<;>omega) (λx row hm=>hr x row ?_) ?_
     ·rw[Ru.leaves];rcases hy with rfl|rfl|rfl;exact yaL _ hm;exact yaR _ (yaL _ hm);exact yaR _ (yaR _ hm)
     ·exact⟨y.mp (lmF g mine),(),rfl,by cbv,by rw[hL,II,e];simp⟩
   ·rw[Gv,GL (GC _)]at hL;subst hL
    lia
    refine uC (by simp[ca];rw[LG];omega) ?_
    lia
    exact q
noncomputable def big:Int:=1000000000
theorem rN{α:Type}{xs:List α}{v:Int}(h:0<=v)(h2:v.toNat<=xs.length):ca xs (some v) none=xs.drop v.toNat:=by
 obtain⟨n,rfl⟩:∃n:Nat,v=(n:Int):=⟨v.toNat,by omega⟩;unfold ca;rw[HT.sIx_none,HT.sIx_nat,GU,IW (by simpa using h2),GL (by rw[Hr];omega)]
noncomputable def fV(c:Ofs):List (I×I):=c.map λp=>(.str p.1,tPl p.2)
theorem lA:∀c:Ofs,iH (fV c)=some (c.map λp=>.inr p.1)
 | []=>rfl
 | d::ds=>by
  show iH ((.str d.1,tPl d.2)::fV ds)=_;rw[iH,lA ds];rfl
theorem jD(c:Ofs):t7 ⟨.ow,.di (fV c)⟩=some (bp c):=by
 show(iH (fV c)).map _=_;rw[lA];show some (I.fd _ ((fV c).map (·.2)))=_;rw[fV,GQ];rfl
theorem oE{z:Str}{v:List Int}:∀{c:Ofs},z∉c.map (·.1)->bX (fV c) (.str z) (tPl v)=fV (c++[(z,v)])
 | [],_=>rfl
 | d::ds,h=>by
  rw[Gs,G4,not_or]at h;show bX ((.str d.1,tPl d.2)::fV ds) _ _=(.str d.1,tPl d.2)::fV (ds++[(z,v)]);rw[bX,if_neg (λe=>h.1 (I.str.inj e).symm),oE h.2]
theorem kr{w wh:Int}{ds:List (Str×Ru)}{f:Int×Int}(a1:1<=w)(a2:w<=3)(a5:1<=ds.length)(a6:ds.length<=100)(a7:(ds.map (·.1)).Nodup){Q:T->T->Prop}
  (q:∀(c:Ofs) f',(c.map (·.1)).Nodup->(c.map (·.1)).Perm (ds.map (·.1))->(∀p∈c,p.2.length=w.toNat)->Q (.di (fV c)) (fT f')):W2 (eg [fT f,.im (aB w wh ds)]) Q:=by
 refine K6 [some ⟨.io 0,fT f⟩,some ⟨.ow,.im (aB w wh ds)⟩,none,none,none,none,none,none] rfl rfl rfl ?_;unfold dX;rw[aB]
 lia
 refine bo (λ_:Unit=>[some ⟨.io 0,fT f⟩,some ⟨.ow,.im (.tup [.int w,.int wh,.tup (ds.map aL)])⟩,some ⟨.ow,.im (.int w)⟩,none,none,none,none,none]) I.str (λj _ l=>l=(ds.take j).map (·.1)) ?_
 lia
 refine⟨ds.map aL,rfl,by simp;rw[LG];omega,by cbv,(),by cbv,rfl,λj x _ l hx hP=>?_,λ_ l hP=>?_⟩
 ·obtain⟨d,hd,rfl⟩:=ay hx;rw[aL]
  lia
  exact⟨d.1,(),rfl,by cbv,by rw[hP,aE hd,GA];rfl⟩
 rw[Gv,Hl]at hP;subst hP
 lia
 rw[Gv,Gv];refine am (by omega) (by omega) λa f a0 a1'=>?_;ac_nf
 lia
 refine Gj ?_
 lia
 refine fM (λs:(Int×Int)×Ofs=>[some ⟨.io 0,fT s.1⟩,some ⟨.ow,.im (.tup [.int w,.int wh,.tup (ds.map aL)])⟩,some ⟨.ow,.im (.int w)⟩,some ⟨.ow,.li ((ds.map (·.1)).map I.str)⟩,some ⟨.ow,.im (.int a)⟩,some ⟨.ow,.di (fV s.2)⟩,none,none]) (λj s=>s.2.map (·.1)=((ds.map (·.1)).drop a.toNat++(ds.map (·.1)).take a.toNat).take j/\∀p∈s.2,p.2.length=w.toNat) ?_
 lia
 rw[rN a0 (by rw[Gv,Gv];omega),i4 a0,<-Jg,<-IQ];refine mW (by simp;rw[LG];omega) ?_;rw[<-GA];generalize hr:(ds.map (·.1)).drop a.toNat++(ds.map (·.1)).take a.toNat=N;have hp:N.Perm (ds.map (·.1)):=by rw[<-hr];exact JE.trans (by rw[HY])
 have hN:N.Nodup:=hp.nodup_iff.mpr a7;have hNl:N.length=ds.length:=by rw[hp.length_eq,Gv]
 refine⟨N.map .str,rfl,by cbv,(f,[]),by cbv,⟨rfl,by simp⟩,λj x s hx hP=>?_,λs hP=>?_⟩
 ·obtain⟨z,hz,rfl⟩:=ay hx;obtain⟨f,c⟩:=s;obtain⟨p1,p2⟩:=hP;dsimp only at p1 p2
  lia
  refine am (by omega) (by omega) λb f b0 b1=>?_;ac_nf
  lia
  refine aW (ns:=[1,3,7]) b0 b1 λy hy _=>?_;have hy':y=1\/y=3\/y=7:=by simpa using hy
  lia
  refine bH (λf:Int×Int=>[some ⟨.io 0,fT f⟩,some ⟨.ow,.im (.tup [.int w,.int wh,.tup (ds.map aL)])⟩,some ⟨.ow,.im (.int w)⟩,some ⟨.ow,.li ((ds.map (·.1)).map I.str)⟩,some ⟨.ow,.im (.int a)⟩,some ⟨.ow,.di (fV c)⟩,some ⟨.ow,.im (.str z)⟩,some ⟨.ow,.im (.int y)⟩]) I.int (λj _ is=>is.length=j) ?_
  lia
  refine⟨⟨by omega,by omega⟩,by cbv,f,by cbv,rfl,λj f is hj hl=>?_,λf is hl=>?_⟩
  ·lia
   refine am (by omega) (by omega) λd f hd0 hd1=>?_;ac_nf
   lia
   exact⟨_,f,rfl,by cbv,by simp[hl]⟩
  lia
  refine zu ?_
  lia
  have hj:j<N.length:=(Gr.mp hz).1;have hlen:c.length=j:=by have:=congrArg HG p1;simp at this;omega
  have hnew:z∉c.map (·.1):=by
   rw[p1];intro hm;obtain⟨i,hi⟩:=Iz.mp hm;have hij:i<j:=by
    have:=(Gr.mp hi).1;simp at this;omega
   rw[Jf hij]at hi;have:=(List.getElem?_inj (by omega) hN).mp (hi.trans hz.symm);omega
  have e:=oE (v:=is) hnew;refine Bp (v:=tPl is) (by rw[e];simp[fV];rw[LG];omega) ?_;rw[e];ac_nf
  lia
  refine⟨(f,c++[(z,is)]),by cbv,?_,aU p2 hl⟩;rw[GA,p1,aE hz];rfl
 ·obtain⟨f,c⟩:=s;obtain⟨p1,p2⟩:=hP;rw[Gv,Hl]at p1;dsimp only at p1 p2
  lia
  exact q c f (by rw[p1];exact hN) (by rw[p1];exact hp) p2
theorem lL(f f':Str->List Int->List Int):∀r:Ru,(r.mp f).mp f'=r.mp λo row=>f' o (f o row)
 | .num _=>rfl
 | .rd _ _=>rfl
 | .op s a b=>by rw[Ru.mp,Ru.mp,Ru.mp,lL f f' a,lL f f' b]
 | .cond a b c=>by rw[Ru.mp,Ru.mp,Ru.mp,lL f f' a,lL f f' b,lL f f' c]
theorem lK{f:Str->List Int->List Int}:∀r:Ru,(∀p∈rds r,f p.1 p.2=p.2)->r.mp f=r
 | .num _,_=>rfl
 | .rd x row,h=>by rw[Ru.mp,h (x,row) (by simp[rds,Ru.leaves,sN])]
 | .op s a b,h=>by
  rw[kG]at h;rw[Ru.mp,lK a λp hp=>h p (yaL _ hp),lK b λp hp=>h p (yaR _ hp)]
 | .cond a b c,h=>by
  rw[gj]at h;rw[Ru.mp,lK a λp hp=>h p (yaL _ hp),lK b λp hp=>h p (yaR _ (yaL _ hp)),lK c λp hp=>h p (yaR _ (yaR _ hp))]
theorem cL(f:Str->List Int->List Int):∀r:Ru,(r.mp f).leaves.length=r.leaves.length
 | .num _=>rfl
 | .rd _ _=>rfl
 | .op s a b=>by rw[Ru.mp,Ru.leaves,Ru.leaves,GD,GD,cL f a,cL f b]
 | .cond a b c=>by rw[Ru.mp,Ru.leaves,Ru.leaves,GD,GD,GD,GD,cL f a,cL f b,cL f c]
theorem ij(f:Str->List Int->List Int):∀r:Ru,rds (r.mp f)=(rds r).map λp=>(p.1,f p.1 p.2)
 | .num _=>rfl
 | .rd _ _=>rfl
 | .op s a b=>by rw[Ru.mp,kG,kG,ij f a,ij f b,GA]
 | .cond a b c=>by rw[Ru.mp,gj,gj,ij f a,ij f b,ij f c,GA,GA]
theorem bv{a b:List Int}(h:a.length=b.length):(bi a b).length=a.length:=by unfold bi;rw[IC];omega
theorem oX{a b:List Int}(hl:a.length=b.length)(h:∀k<a.length,a.getD k 0=b.getD k 0):a=b:=by
 refine List.ext_getElem hl λk h1 h2=>?_;have:=h k h1;rwa [GM,GM,GR h1,GR h2]at this
theorem eX{a b:List Int}(hl:a.length=b.length){k:Nat}(h:k<a.length):(bi a b).getD k 0=a.getD k 0+b.getD k 0:=by
 unfold bi;rw[GM,GM,GM,JF,GR h,GR (by omega:k<b.length)];rfl
theorem mV{a:List Int}{k:Nat}:(a.map λx=>-x).getD k 0 = -(a.getD k 0):=by
 rw[GM,GM,GE];cases a[k]?<;>simp
theorem iQ{g:Str->List Int}{z o:Str}{row:List Int}(h1:row.length=(g o).length)(h2:row.length=(g z).length):(mvF g z o row).length=row.length:=by
 unfold mvF;rw[bv (by rw[bv h1,Gv];exact h2),bv h1]
theorem mU{g:Str->List Int}{z o:Str}{row:List Int}(h1:row.length=(g o).length)(h2:row.length=(g z).length){k:Nat}(hk:k<row.length):(mvF g z o row).getD k 0=row.getD k 0+(g o).getD k 0-(g z).getD k 0:=by
 unfold mvF;rw[eX (by rw[bv h1,Gv];exact h2) (by rw[bv h1];exact hk),eX h1 hk,mV];omega
theorem kn{g:Str->List Int}{z o:Str}{row:List Int}(h1:row.length=(g o).length)(h2:row.length=(g z).length):mvF (λx=>(g x).map λy=>-y) z o (mvF g z o row)=row:=by
 have hl:=iQ h1 h2;have e1:(mvF g z o row).length=((λx=>(g x).map λy=>-y) o:List Int).length:=by rw[hl,h1];simp
 have e2:(mvF g z o row).length=((λx=>(g x).map λy=>-y) z:List Int).length:=by rw[hl,h2];simp
 refine oX (by rw[iQ e1 e2,hl]) λk hk=>?_;rw[iQ e1 e2]at hk;rw[mU e1 e2 hk,mU h1 h2 (by omega),mV,mV];omega
theorem uw{g:Str->List Int}{p:Str×Ru}(h:∀e∈rds p.2,e.2.length=(g e.1).length/\e.2.length=(g p.1).length):mvD (λx=>(g x).map λy=>-y) (mvD g p)=p:=by
 obtain⟨z,r⟩:=p;unfold mvD;dsimp only at h|-;rw[lL,lK r λe he=>kn (h e he).1 (h e he).2]
theorem zr{g:Str->List Int}{z o:Str}{row pl:List Int}(h1:row.length=(g o).length)(h2:row.length=(g z).length)(h3:pl.length=row.length):bi (bi pl (g z)) (mvF g z o row)=bi (bi pl row) (g o):=by
 have l1:(bi pl (g z)).length=pl.length:=bv (h3.trans h2);have l2:(bi pl row).length=pl.length:=bv h3;have l3:=iQ h1 h2;have e1:(bi pl (g z)).length=(mvF g z o row).length:=by rw[l1,l3];exact h3
 have e2:(bi pl row).length=(g o).length:=by rw[l2];omega
 have m1:(bi (bi pl (g z)) (mvF g z o row)).length=pl.length:=by rw[bv e1,l1]
 have m2:(bi (bi pl row) (g o)).length=pl.length:=by rw[bv e2,l2]
 refine oX (m1.trans m2.symm) λk hk=>?_;rw[m1]at hk;rw[eX e1 (by omega),eX (h3.trans h2) hk,mU h1 h2 (by omega),eX e2 (by omega),eX h3 hk];omega
theorem xI{g:Str->List Int}{z o:Str}{a b:List Int}(h1:a.length=(g o).length)(h2:a.length=(g z).length)(h3:b.length=(g o).length)(h4:b.length=(g z).length)(h:mvF g z o a=mvF g z o b):a=b:=by
 rw[<-kn h1 h2,<-kn h3 h4,h]
theorem qx{F:Str×List Int->Str×List Int}:∀(L acc:List (Str×List Int)),(∀p∈acc++L,∀q∈acc++L,F p=F q->p=q)->(L.map F).foldl e8 (acc.map F)=(L.foldl e8 acc).map F
 | [],acc,_=>rfl
 | p::L,acc,h=>by
  rw[Gs,Ix,Ix];have hm:F p∈acc.map F↔p∈acc:=by
   constructor
   ·intro hm;obtain⟨q,hq,e⟩:=GB.mp hm;rwa [<-h q (yaL _ hq) p (yaR _ ymS) e]
   ·exact λhm=>GB.mpr ⟨p,hm,rfl⟩
  have e:e8 (acc.map F) (F p)=(e8 acc p).map F:=by
   unfold e8;by_cases hp:p∈acc;rw[if_pos hp,if_pos (hm.mpr hp)];rw[if_neg hp,if_neg (λz=>hp (hm.mp z)),GA];rfl
  rw[e];have hs:∀q∈e8 acc p++L,q∈acc++p::L:=by
   intro q hq;rcases yaM hq with hq|hq
   ·unfold e8 at hq;split at hq;exact yaL _ hq
    ·rcases yaM hq with hq|hq;exact yaL _ hq;exact yaR _ (by rw[ysM hq];exact ymS)
   ·exact yaR _ (ymC _ hq)
  exact qx L (e8 acc p) λa ha b hb=>h a (hs a ha) b (hs b hb)
theorem oV{w wh:Int}{ds:List (Str×Ru)}{z:Str}{r:Ru}{pl:List Int}(hn:(ds.map (·.1)).Nodup)(hm:(z,r)∈ds)(hl:r.leaves.length<=22)(hpl:pl.length<=1000){Q:T->Prop}(q:Q (.li ((ded (rds r)).map λp=>bU (p.1,bi pl p.2)))):W1 (cQ [.im (aB w wh ds),.im (bU (z,pl))]) Q:=by
 have hrl:=iT r;have hdl:=pe (rds r);refine KY [some ⟨.ow,.im (aB w wh ds)⟩,some ⟨.ow,.im (bU (z,pl))⟩,none,none] rfl rfl rfl ?_;unfold cO
 lia
 refine bo (λ_:Unit=>[some ⟨.ow,.im (aB w wh ds)⟩,some ⟨.ow,.im (bU (z,pl))⟩,some ⟨.ow,.im (.str z)⟩,some ⟨.ow,.im (tPl pl)⟩]) (λp:Str×List Int=>bU (p.1,bi pl p.2)) (λj _ L=>L=(ded (rds r)).take j) ?_
 lia
 refine sX hn hm ?_
 lia
 refine rP (by omega) ?_;refine⟨(ded (rds r)).map (eC z),rfl,by simp;rw[LG];omega,by cbv,(),by cbv,rfl,λj x' _ L hx' hL=>?_,λ_ L hL=>?_⟩
 ·rw[GE]at hx';cases e:(ded (rds r))[j]? with
  | none=>rw[e]at hx';cases hx'
  | some p=>
   rw[e]at hx';cases hx'
   lia
   refine mQ hpl ?_
   lia
   exact⟨p,(),rfl,by cbv,by rw[hL,aE e]⟩
 ·rw[Gv,GL (GC _)]at hL;subst hL
  lia
  exact q
theorem uU{f:Int×Int}{w:Int}(h1:1<=w)(h2:w<=3){Q:T->T->Prop}(q:∀pl f',pl.length=w.toNat->Q (.im (tPl pl)) (fT f')):W2 (jh [fT f,.im (.int w)]) Q:=by
 refine K6 [some ⟨.io 0,fT f⟩,some ⟨.ow,.im (.int w)⟩,none] rfl rfl rfl ?_;unfold gD
 lia
 refine am (by omega) (by omega) λd f hd0 hd1=>?_;ac_nf
 lia
 refine aW (ns:=[4,2001]) hd0 hd1 λy hy _=>?_;have hy':y=4\/y=2001:=by simpa using hy
 lia
 refine bH (λf:Int×Int=>[some ⟨.io 0,fT f⟩,some ⟨.ow,.im (.int w)⟩,some ⟨.ow,.im (.int y)⟩]) I.int (λj _ is=>is.length=j) ?_
 lia
 refine⟨⟨by omega,by omega⟩,by cbv,f,by cbv,rfl,λj f is hj hl=>?_,λf is hl=>?_⟩
 ·lia
  refine am (by omega) (by omega) λd f hd0 hd1=>?_;ac_nf
  lia
  exact⟨_,f,rfl,by cbv,by simp[hl]⟩
 ·lia
  exact q is f hl
theorem qM{L:List (Str×List Int)}{p:Str×List Int}(h:p∈ded L):p∈L:=by
 have:∀(L acc:List (Str×List Int)),p∈L.foldl e8 acc->p∈acc\/p∈L:=by
  intro L
  induction L with
  | nil=>intro acc h;exact .inl h
  | cons x L ih=>
   intro acc h;rcases ih _ h with h|h
   ·unfold e8 at h;split at h;exact .inl h
    ·rcases yaM h with h|h;exact .inl h;exact .inr (ysM h▸ymS)
   ·exact .inr (ymC _ h)
 rcases this L [] h with h|h;cases h;exact h
theorem qN{r:Ru}{p:Str×List Int}(h:p∈rds r):Ru.rd p.1 p.2∈r.leaves:=by
 obtain⟨l,hl,e⟩:=G5.mp h;cases l with
 | rd x row=>cases e;exact hl
 | _=>cases e
def RuL(r:Ru):Prop:=r.leaves.length<=22/\∀x row,Ru.rd x row∈r.leaves->row.length<=1000
def H6(ds:List (Str×Ru)):Prop:=ds.length<=6/\(ds.map (·.1)).Nodup/\∀p∈ds,RuL p.2
theorem nW(row:List Int)(h:row.length<=1000000):(I.tup (row.map I.int)).fit=true/\(I.tup (row.map I.int)).dep=1:=by
 have h1:I.fits (row.map I.int)=true:=mD λi hi=>by obtain⟨x,_,rfl⟩:=GB.mp hi;rfl
 have h2:I.deps (row.map I.int)=0:=Nat.le_zero.mp (iA λi hi=>by obtain⟨x,_,rfl⟩:=GB.mp hi;exact GC _);rw[I.fit,I.dep,h1,h2];exact⟨by simpa using h,rfl⟩
theorem zI{a b x y:Nat}(ha:a<=x+2)(hb:b<=y+2):max 0 (max 0 (max a (max b 0)))+1<=max x y+1+2:=by
 refine Jp ?_
 repeat' refine Nat.max_le.2 ⟨?_,?_⟩
 all_goals omega
theorem zH{a b c x y z:Nat}(ha:a<=x+2)(hb:b<=y+2)(hc:c<=z+2):max 0 (max a (max b (max c 0)))+1<=max x (max y z)+1+2:=by
 refine Jp ?_
 repeat' refine Nat.max_le.2 ⟨?_,?_⟩
 all_goals omega
theorem gU:∀{r:Ru},(∀x row,Ru.rd x row∈r.leaves->row.length<=1000)->(tRu r).fit=true/\(tRu r).dep<=r.depth+2
 | .num _,_=>⟨rfl,by simp[tRu,I.dep,I.deps,Ru.depth]⟩
 | .rd x row,h=>by
  have h1:=h x row (by simp[Ru.leaves]);have h2:=nW row (by omega);simp only[tRu,I.fit,I.fits,I.dep,I.deps]at h2|-;rw[h2.1];exact⟨by simp,by omega⟩
 | .op s a b,h=>by
  have ha:=gU (r:=a) λx row hm=>h x row (by rw[Ru.leaves];exact yaL _ hm);have hb:=gU (r:=b) λx row hm=>h x row (by rw[Ru.leaves];exact yaR _ hm);simp only[tRu,I.fit,I.fits,I.dep,I.deps,Ru.depth,ha.1,hb.1];exact⟨by simp,zI ha.2 hb.2⟩
 | .cond a b c,h=>by
  have ha:=gU (r:=a) λx row hm=>h x row (by rw[Ru.leaves];exact yaL _ hm);have hb:=gU (r:=b) λx row hm=>h x row (by rw[Ru.leaves];exact yaR _ (yaL _ hm));have hc:=gU (r:=c) λx row hm=>h x row (by rw[Ru.leaves];exact yaR _ (yaR _ hm));simp only[tRu,I.fit,I.fits,I.dep,I.deps,Ru.depth,ha.1,hb.1,hc.1];exact⟨by simp,zH ha.2 hb.2 hc.2⟩
noncomputable def SL(ds:List (Str×Ru)):List (Str×Str×List Int):=ds.flatMap λd=>(ded (rds d.2)).map λp=>(d.1,p)
theorem BA{s:Str}{b:Int}(h:1<=b/\b<=1000/\s.length<=1000){Q:T->Prop}(q:Q (.im (.str (oL (Gx b.toNat (sL s)).flatten)))):W1 (cX (.im (.str s)) (.im (.int b))) Q:=by unhygienic exact⟨_,if_pos h,q⟩
theorem ia:∀ns:List Int,j2 (ns.map .int)=some ns
 | []=>rfl
 | n::ns=>by rw[Gs,j2,ia ns];rfl
theorem Ee{a b:List Int}{Q:T->Prop}(q:Q (.im (.bl (HT.lexLt a b)))):W1 (ltT (.im (tPl a)) (.im (tPl b))) Q:=by unhygienic
 refine w1 (x:=.im (.bl (HT.lexLt a b))) ?_ q;show ltB (a.map .int) (b.map .int)=_;unfold ltB;rw[ia,ia]
noncomputable def abc:Str:="abcdef"
theorem qj:(sL abc).length=6:=by decide +kernel
theorem abc_len':abc.length=6:=by decide +kernel
theorem abc_nd:(sL abc).Nodup:=by decide +kernel
theorem xh{a:List Nat}{c:Nat}:oL a++(⟨#[c]⟩:Str)=oL (a++[c]):=by
 show Str.mk _=Str.mk _;congr 1;simp[oL]
noncomputable def eig(z:Str) (c:Nat):Str:=oL ((Gx 7 (sL z)).flatten.take 7++[c])
noncomputable def CV(k:Nat):List Int:=[(k:Int) % 5-2,(k:Int) / 5-2]
noncomputable def Lc:List (List Int):=(G9 25).map CV
noncomputable def Lx:List (List Int):=Lc.filter λr=>HT.lexLt r [0,0]
theorem lU:Lx.length=12:=by decide +kernel
theorem wn:∀r∈Lc,r.length=2:=by decide +kernel
theorem pD{f:Int×Int}{Q:T->T->Prop}(q:∀wh ds f',1<=ds.length->H6 ds->(∀p∈ds,p.2.leaves.length<=11/\∀x row,Ru.rd x row∈p.2.leaves->x∈ds.map (·.1)/\row.length=2)->Q (.im (aB 2 wh ds)) (fT f')):W2 (dO [fT f]) Q:=by
 refine K6 [some ⟨.io 0,fT f⟩,none,none,none,none,none,none,none,none,none,none,none,none] rfl rfl rfl ?_;unfold cf
 lia
 refine am (by omega) (by omega) λd1 f a1 b1=>?_;ac_nf
 lia
 refine aW (ns:=[1,2,6]) a1 b1 λm hm _=>?_;have hm':m=1\/m=2\/m=6:=by simpa using hm
 replace hm':1<=m/\m<=6:=by omega
 lia
 refine am (by omega) (by omega) λbw f a2 b2=>?_;ac_nf
 lia
 refine am (by omega) (by omega) λei f a3 b3=>?_;ac_nf
 lia
 refine om (by omega) (by omega) λzs f hzl hzn hzo=>?_;ac_nf
 lia
 refine am (by omega) (by omega) λwi f a4 b4=>?_;ac_nf
 lia
 refine WS.mono (Q:=λfl O=>fl=.nx/\∃zs':List Str,zs'.length=m.toNat/\zs'.Nodup/\O=[some ⟨.io 0,fT f⟩,some ⟨.ow,.im (.int m)⟩,some ⟨.ow,.im (.int bw)⟩,some ⟨.ow,.im (.int ei)⟩,some ⟨.ow,.li (zs'.map .str)⟩,some ⟨.ow,.im (.int wi)⟩,none,none,none,none,none,none,none]) ?_ ?_
 ·(refine bg ?_;lia;clear_value h)
  ·lia
   obtain⟨z0,hz0⟩:∃z0,zs[0]?=some z0:=⟨_,GR (by omega)⟩;have hzok:=hzo z0 (ymG hz0);refine bH (λ_:Unit=>[some ⟨.io 0,fT f⟩,some ⟨.ow,.im (.int m)⟩,some ⟨.ow,.im (.int bw)⟩,some ⟨.ow,.im (.int ei)⟩,some ⟨.ow,.li (zs.map .str)⟩,some ⟨.ow,.im (.int wi)⟩,none,none,none,none,none,none,none]) I.str (λj _ L=>L=((sL abc).take j).map (eig z0)) ?_
   lia
   refine⟨⟨by omega,by omega⟩,by cbv,(),by cbv,rfl,λj _ L hj hL=>?_,λ_ L hL=>?_⟩
   ·lia
    refine eV (emb:=I.str) (ns:=zs) (by omega) (by simp;omega) λz hz=>?_;have:z=z0:=by simp at hz hz0;rw[hz0]at hz;exact(GX.inj hz).symm
    subst this
    lia
    refine BA ⟨by omega,by omega,by have:=hzok.2.1;omega⟩ ?_
    lia
    refine uJ (by rw[show∀l:List Nat,(oL l).length=l.length from λl=>by rw[df,cI]];simp;have h8:z.cps.size<=8:=hzok.2.1;rw[LG];omega) ?_
    lia
    refine pI (s:=abc) (by rw[abc_len',LG];omega) (by omega) (by rw[qj];omega) λc hc=>?_
    lia
    rw[cI,i4 (by omega)];refine kw (by rw[show∀l:List Nat,(oL l).length=l.length from λl=>by rw[df,cI]];simp;rw[LG];show _+1<=_;omega) ?_;refine⟨eig z c,(),?_,by cbv,?_⟩;exact congrArg (λz=>(⟨.ow,.im (.str z)⟩:R)) xh;rw[hL,aE (by simpa using hc),GA];rfl
   ·lia
    refine⟨trivial,L,?_,?_,by cbv⟩;rw[hL,Gv,GY,qj];omega
    ·rw[hL];refine List.Pairwise.map _ (λa b hab e=>hab ?_) (abc_nd.sublist (JZ _ _));have:=kq e;simpa using this
  ·lia
   exact⟨rfl,zs,hzl,hzn,by cbv⟩
 rintro fl O ⟨rfl,zs',hzl',hzn',rfl⟩
 lia
 refine bH (λ_:Unit=>[some ⟨.io 0,fT f⟩,some ⟨.ow,.im (.int m)⟩,some ⟨.ow,.im (.int bw)⟩,some ⟨.ow,.im (.int ei)⟩,some ⟨.ow,.li (zs'.map .str)⟩,some ⟨.ow,.im (.int wi)⟩,none,none,none,none,none,none,none]) tPl (λj _ L=>L=(G9 j).map CV) ?_
 lia
 refine⟨⟨by omega,by omega⟩,by cbv,(),by cbv,rfl,λj _ L hj hL=>?_,λ_ L hL=>?_⟩
 ·lia
  exact⟨CV j,(),by cbv,by cbv,by rw[hL,Ks,GA];rfl⟩
 have hL':L=Lc:=hL;subst hL';clear hL
 lia
 refine WS.mono (Q:=λfl O=>fl=.nx/\∃rows:List (List Int),1<=rows.length/\rows.length<=25/\(∀r∈rows,r.length=2)/\O=[some ⟨.io 0,fT f⟩,some ⟨.ow,.im (.int m)⟩,some ⟨.ow,.im (.int bw)⟩,some ⟨.ow,.im (.int ei)⟩,some ⟨.ow,.li (zs'.map .str)⟩,some ⟨.ow,.im (.int wi)⟩,some ⟨.ow,.li (rows.map tPl)⟩,none,none,none,none,none,none]) ?_ ?_
 ·(refine bg ?_;lia;clear_value h)
  ·lia
   refine oT (λ_:Unit=>[some ⟨.io 0,fT f⟩,some ⟨.ow,.im (.int m)⟩,some ⟨.ow,.im (.int bw)⟩,some ⟨.ow,.im (.int ei)⟩,some ⟨.ow,.li (zs'.map .str)⟩,some ⟨.ow,.im (.int wi)⟩,some ⟨.ow,.li (Lc.map tPl)⟩,none,none,none,none,none,none]) tPl (λj _ L=>L=(Lc.take j).filter λr=>HT.lexLt r [0,0]) ?_
   lia
   refine⟨Lc.map tPl,rfl,by rw[Gv,LG];decide,by cbv,(),by cbv,rfl,λj x' _ L hx' hL=>?_,λ_ L hL=>?_⟩
   ·rw[GE]at hx';cases e:Lc[j]? with
    | none=>rw[e]at hx';cases hx'
    | some y=>
     rw[e]at hx';cases hx'
     lia
     refine Ee (a:=y) (b:=[0,0]) ?_;have ht:(Lc.take (j+1)).filter (λr=>HT.lexLt r [0,0])=L++[y].filter (λr=>HT.lexLt r [0,0]):=by rw[aE e,I9,<-hL]
     lia
     clear_value c
     ·lia
      exact⟨y,(),rfl,by cbv,by rw[ht,Hy,if_pos c];rfl⟩
     ·exact⟨(),by cbv,by rw[ht,Hy,c];simp⟩
   ·rw[Gv,GL (GC _)]at hL
    lia
    refine⟨trivial,Lx,by rw[lU];omega,by rw[lU];omega,λr hr=>wn r (GF.mp hr).1,?_⟩;rw[show Lx=L from hL.symm];try cbv
  ·lia
   exact⟨rfl,Lc,by decide,by decide,wn,by cbv⟩
 rintro fl O ⟨rfl,rows,hr1,hr25,hr2,rfl⟩
 lia
 have hzm:(zs'.length:Int)=m:=by omega
 refine bW (λs:(Int×Int)×List (Str×Ru)=>[some ⟨.io 0,fT s.1⟩,some ⟨.ow,.im (.int m)⟩,some ⟨.ow,.im (.int bw)⟩,some ⟨.ow,.im (.int ei)⟩,some ⟨.ow,.li (zs'.map .str)⟩,some ⟨.ow,.im (.int wi)⟩,some ⟨.ow,.li (rows.map tPl)⟩,some ⟨.ow,.li (s.2.map aL)⟩,none,none,none,none,none]) (λj s=>s.2.map (·.1)=zs'.take j/\∀p∈s.2,RuL p.2/\p.2.leaves.length<=11/\∀x row,Ru.rd x row∈p.2.leaves->x∈zs'/\row.length=2) ?_
 lia
 refine⟨⟨by omega,by omega⟩,(f,[]),by cbv,⟨rfl,by simp⟩,λx s hx ⟨hd1,hd2⟩=>?_,λs ⟨hd1,hd2⟩=>?_⟩
 ·obtain⟨f,ds⟩:=s;dsimp only at hd1 hd2|-;have hdl:ds.length=x:=by
   have:=congrArg HG hd1;rw[Gv,GY]at this;omega
  lia
  refine am (by simp;omega) (by simp;omega) λfi f hf0 hf1=>?_;ac_nf
  lia
  refine aW (ns:=[11,8]) (by split<;>omega) (by split<;>(simp;try omega)) λy hy _=>?_;have hy':y=11\/y=8:=by simpa using hy
  replace hy':8<=y/\y<=11:=by omega
  lia
  refine am (by omega) (by omega) λc3 f hc0 hc1=>?_;ac_nf
  lia
  refine WS.mono (Q:=λfl O=>fl=.nx/\∃cn:Int,1<=cn/\cn<=11/\O=[some ⟨.io 0,fT f⟩,some ⟨.ow,.im (.int m)⟩,some ⟨.ow,.im (.int bw)⟩,some ⟨.ow,.im (.int ei)⟩,some ⟨.ow,.li (zs'.map .str)⟩,some ⟨.ow,.im (.int wi)⟩,some ⟨.ow,.li (rows.map tPl)⟩,some ⟨.ow,.li (ds.map aL)⟩,some ⟨.ow,.im (.int x)⟩,some ⟨.ow,.im (.int fi)⟩,some ⟨.ow,.im (.int cn)⟩,none,none]) ?_ ?_
  ·refine bg ?_
   lia
   clear_value c1
   ·lia
    clear_value c2
    ·lia
     exact⟨trivial,1,by omega,by omega,by cbv⟩
    ·lia
     exact⟨rfl,y-c3,by omega,by omega,by cbv⟩
   ·lia
    refine spF ?_
    lia
    exact⟨rfl,y-c3,by omega,by omega,by cbv⟩
  rintro fl O ⟨rfl,cn,hcn1,hcn2,rfl⟩
  lia
  refine bW (λs:(Int×Int)×List Ru=>[some ⟨.io 0,fT s.1⟩,some ⟨.ow,.im (.int m)⟩,some ⟨.ow,.im (.int bw)⟩,some ⟨.ow,.im (.int ei)⟩,some ⟨.ow,.li (zs'.map .str)⟩,some ⟨.ow,.im (.int wi)⟩,some ⟨.ow,.li (rows.map tPl)⟩,some ⟨.ow,.li (ds.map aL)⟩,some ⟨.ow,.im (.int x)⟩,some ⟨.ow,.im (.int fi)⟩,some ⟨.ow,.im (.int cn)⟩,some ⟨.ow,.li (s.2.map tRu)⟩,none]) (λj s=>s.2.length=j/\∀r∈s.2,∃y row,r=Ru.rd y row/\row.length=2/\y∈zs') ?_
  lia
  refine⟨⟨by omega,by omega⟩,(f,[]),by cbv,⟨rfl,by simp⟩,λk s hk ⟨hl1,hl2⟩=>?_,λs ⟨hl1,hl2⟩=>?_⟩
  ·obtain⟨f,ls⟩:=s;dsimp only at hl1 hl2|-
   lia
   refine am (by omega) (by omega) λdn f hn0 hn1=>?_;ac_nf
   lia
   refine eV (emb:=I.str) (ns:=zs') hn0 (by omega) λz hz=>?_
   lia
   refine eV (emb:=tPl) (ns:=rows) (Ib _ (by first|omega|(simp;omega))) (by have:=HI (fi+k) (show(0:Int)<(rows.length:Int) by omega);simpa using this) λrow hrow=>?_
   lia
   refine bn (is:=ls.map tRu) (i:=tRu (.rd z row)) (by simp;rw[LG];omega) ?_;ac_nf
   lia
   refine⟨(f,ls++[Ru.rd z row]),?_,by simp;omega,aU hl2 ⟨z,row,rfl,hr2 row (ymG hrow),ymG hz⟩⟩;dsimp only;rw[GA];try cbv
  obtain⟨f,ls⟩:=s;dsimp only at hl1 hl2|-;have hfl:∀l:List Ru,(∀r∈l,∃y row,r=Ru.rd y row/\row.length=2/\y∈zs')->l.flatMap Ru.leaves=l:=λl h=>by
   induction l with
   | nil=>rfl
   | cons r l ih=>
    obtain⟨y,row,rfl,_⟩:=h r ymS;rw[GH,ih λr hr=>h r (ymC _ hr)];rfl
  lia
  refine eV (emb:=I.str) (ns:=zs') (by omega) (by omega) λz hz=>?_
  lia
  refine nV (rs:=ls) (λe=>by rw[e]at hl1;simp at hl1;omega) (by omega) (λr hr=>by obtain⟨y,row,rfl,_⟩:=hl2 r hr;trivial) λr f hlv hok=>?_;rw[hfl ls hl2]at hlv;ac_nf
  lia
  refine bn (is:=ds.map aL) (i:=aL (z,r)) (by simp;rw[LG];omega) ?_;ac_nf
  lia
  refine⟨(f,ds++[(z,r)]),?_,?_,aU hd2 ⟨⟨by rw[hlv];omega,λy row hm=>?_⟩,by rw[hlv];omega,λy row hm=>?_⟩⟩
  ·dsimp only;rw[GA];try cbv
  ·dsimp only;rw[GA,hd1,aE (by simpa using hz)];rfl
  ·rw[hlv]at hm;obtain⟨y',row',e,h2,_⟩:=hl2 _ hm;cases e;omega
  ·rw[hlv]at hm;obtain⟨y',row',e,h2,h3⟩:=hl2 _ hm;cases e;exact⟨h3,h2⟩
 ·obtain⟨f,ds⟩:=s;dsimp only at hd1 hd2|-;rw[GL (by omega)]at hd1;have hdl:ds.length=zs'.length:=by have:=congrArg HG hd1;rwa [Gv]at this
  lia
  refine am (by omega) (by omega) λwh f hw0 hw1=>?_;ac_nf
  lia
  exact q _ ds f (by omega) ⟨by omega,by rw[hd1];exact hzn',λp hp=>(hd2 p hp).1⟩ (by rw[hd1];exact λp hp=>(hd2 p hp).2)
theorem xl{ns:List Int}{k:Int}(hn:ns.length<=1000)(h1:0<=k)(h2:k<=1000000){Q:T->Prop}(q:∀f,Q (fT f)):W1 (kF [.li (ns.map .int),.im (.int k)]) Q:=by
 refine KY [some ⟨.vw none none,.li (ns.map .int)⟩,some ⟨.ow,.im (.int k)⟩,none,none] rfl rfl rfl ?_;unfold iM
 lia
 refine WS.mono (Q:=λfl O=>fl=.nx/\∃cell:Int,O=[some ⟨.vw none none,.li (ns.map .int)⟩,some ⟨.ow,.im (.int k)⟩,some ⟨.ow,.im (.int cell)⟩,none]) ?_ ?_
 ·(refine bg ?_;lia;clear_value hk)
  ·rw[Gv]at hk
   lia
   refine aW (ns:=ns) h1 hk λy hy _=>?_
   lia
   exact⟨by trivial,y,by first|trivial|cbv⟩
  ·(refine bg ?_;lia;clear_value hl)
   ·rw[Gv]at hl
    lia
    rw[Gv];refine uF (by omega) ?_
    lia
    refine aW (ns:=ns) (Ib _ (by omega)) (HI _ (by omega)) λy hy _=>?_
    lia
    exact⟨by trivial,_,by first|trivial|cbv⟩
   ·lia
    exact⟨by trivial,_,by first|trivial|cbv⟩
 rintro fl O ⟨rfl,cell,rfl⟩
 lia
 refine WS.mono (Q:=λfl O=>fl=.nx/\∃own:Int,O=[some ⟨.vw none none,.li (ns.map .int)⟩,some ⟨.ow,.im (.int k)⟩,some ⟨.ow,.im (.int cell)⟩,some ⟨.ow,.im (.int own)⟩]) ?_ ?_
 ·refine bg ?_
  lia
  refine zT ⟨by omega,by omega,by decide⟩ ?_
  lia
  clear_value hc
  ·lia
   exact⟨by trivial,_,by first|trivial|cbv⟩
  ·lia
   exact⟨by trivial,_,by first|trivial|cbv⟩
 rintro fl O ⟨rfl,own,rfl⟩
 lia
 have m0:=Ib cell (show(2147483629:Int)≠0 by omega);have m1:=HI cell (show(0:Int)<2147483629 by omega);refine zT ⟨by omega,by omega,by omega⟩ ?_
 lia
 exact q (own,_)
theorem eQ:∀row:List Int,I.doks (row.map I.int)=true/\I.deps (row.map I.int)=0
 | []=>⟨rfl,rfl⟩
 | x::row=>⟨by rw[Gs,I.doks,(eQ row).1];rfl,by rw[Gs,I.deps,(eQ row).2];rfl⟩
theorem BC{is js:List I}{Q:T->Prop}(h:I.doks is=true/\I.doks js=true/\I.deps is<=50)(q:Q (.im (.bl (!decide (is=js))))):W1 (neT (.li is) (.li js)) Q:=⟨_,by simp only[neT,eqB];rw[if_pos h];rfl,q⟩
section
variable {O:Rho}{S α:Type}{fr:List (Option Nat)}{g:MG}{m:ME}{QE':R->Rho->Prop}
theorem wK(st:S->Rho)(emb : α->I)(P:Nat->S->List α->Prop){ma:ME} (h:WE ma O λr O1=>∃k ks is,r=⟨k,.im (.fd ks is)⟩/\(jx ks is).length<sizeLine/\(ff fr O1.length&&eU (g.mu++([]++m.mu)) fr.length&&ax (muF fr (g.mu++([]++m.mu))) r)=true/\∃s0,O1=st s0/\P 0 s0 [] /\
  (∀(j:Nat) x s l,(jx ks is)[j]?=some x->P j s l->WG g ⟨.ow,.im x⟩ (inR fr (st s)) λO1=>WE m O1 λr O3=>∃x s',r=⟨.ow,.im (emb x)⟩/\dw fr (g.mu++([]++m.mu)) O3 (st s)=st s'/\P (j+1) s' (l++[x])) /\
  ∀s l,P (jx ks is).length s l->QE' ⟨.ow,.li (l.map emb)⟩ (st s)):WE (aH fr (pw ma) g mYes m) O QE':=by unhygienic
 obtain⟨r,O1,e1,k,ks,is,rfl,hl,al,s0,rfl,h0,hs,he⟩:=h;refine kO (wY ⟨_,_,e1,k,ks,is,rfl,(by rw[HL,IZ,JU];exact al),by simpa using hl,λj acc O=>∃s l,acc=l.map (λx=>T.im (emb x))/\O=st s/\P j s l,⟨s0,[],rfl,rfl,h0⟩,λj r acc O hr hI=>?_,λacc O hI=>?_⟩)
 ·obtain⟨x,hx,rfl⟩:=ay hr;obtain⟨s,l,rfl,rfl,hP⟩:=hI;refine(hs j x s l hx hP).mono λO1 q=>jm ⟨λ_=>q.mono λr O3 ⟨x,s',e,e',hP'⟩=>⟨_,e,s',l++[x],by simp,e',hP'⟩,λz=>by cases z⟩
 ·obtain⟨s,l,rfl,rfl,hP⟩:=hI;rw[dD];exact he s l (by simpa using hP)
end
noncomputable def gOf(c:Ofs) (z:Str):List Int:=((c.find? λp=>decide (p.1=z)).map (·.2)).getD []
theorem mF{z:Str}:∀{c:Ofs},z∈c.map (·.1)->(z,gOf c z)∈c
 | p::c,h=>by
  unfold gOf;rw[HR];by_cases e:p.1=z
  ·rw[decide_eq_true e];subst e;exact ymS
  ·rw[decide_eq_false e];rw[Gs,G4]at h;exact ymC _ (mF (h.resolve_left λx=>e x.symm))
noncomputable def fU(c:Ofs):Ofs:=c.map λp=>(p.1,p.2.map λx=>-x)
theorem ii(c:Ofs):(fU c).map (·.1)=c.map (·.1):=by unfold fU;rw[GQ];rfl
theorem mH(z:Str):∀c:Ofs,gOf (fU c) z=(gOf c z).map λx=>-x
 | []=>rfl
 | p::c=>by
  have ih:=mH z c;unfold gOf at ih|-;show(((((p.1,p.2.map λx=>-x):Str×List Int)::fU c).find? _).map _).getD []=_;rw[HR,HR];by_cases e:p.1=z;rw[decide_eq_true e];rfl;rw[decide_eq_false e];exact ih
noncomputable def tj(p:Str×List Int):I:=.tup [.str p.1,tPl p.2]
theorem oB:∀c:Ofs,oA (c.map tj)=some (c.map λd=>(Mn d.1,tPl d.2))
 | []=>rfl
 | d::ds=>by rw[Gs,oA,oB ds];rfl
theorem xR{c:Ofs}(hn:(c.map (·.1)).Nodup){Q:T->Prop}(q:Q (.di (fV c))):W1 (jW [.li (c.map tj)]) Q:=by unhygienic
 refine w1 (x:=.di (fV c)) ?_ q;show pf (c.map tj)=_;unfold pf;rw[oB];dsimp only;rw[if_pos ?_,GQ];rfl
 ·rw[GQ];have:(c.map λd=>(Mn d.1:Key))=(c.map (·.1)).map Mn:=by rw[GQ];rfl
  show(c.map λd=>(Mn d.1:Key)).Nodup;rw[this];exact List.Pairwise.map _ (λa b h e=>h (NU e)) hn
theorem rC:∀c:Ofs,Iu (λ(k:Key) (i:I)=>(bY k,i)) (c.map λp=>.inr p.1) (c.map λp=>tPl p.2)=fV c
 | []=>rfl
 | d::ds=>by rw[Gs,Gs,Iv,rC ds];rfl
theorem jF:∀c:Ofs,jx (c.map λp=>.inr p.1) (c.map λp=>tPl p.2)=c.map tj
 | []=>rfl
 | d::ds=>by
  have:=jF ds;unfold jx at this|-;rw[Gs,Gs,Iv,this];rfl
theorem Br{c:Ofs}{Q:T->Prop}(q:Q (.di (fV c))):W1 (rR [.im (bp c)]) Q:=by
 refine Ea (by rw[Gv,Gv]) ?_;rw[rC];exact q
theorem uA{c:Ofs}(hn:(c.map (·.1)).Nodup):(c.map λp=>(Mn p.1:Key)).Nodup:=by
 have:(c.map λd=>(Mn d.1:Key))=(c.map (·.1)).map Mn:=by rw[GQ];rfl
 rw[this];exact List.Pairwise.map _ (λa b h e=>h (NU e)) hn
theorem iB:∀{is:List I},(∀i∈is,i.dok=true)->I.doks is=true
 | [],_=>rfl
 | a::is,h=>by rw[I.doks,h a ymS,iB λi hi=>h i (ymC _ hi)];rfl
theorem nB(row:List Int):(tPl row).dok=true/\(tPl row).dep=1:=by
 have:=eQ row;unfold tPl;rw[I.dok,I.dep,this.1,this.2];exact⟨rfl,rfl⟩
theorem gT:∀r:Ru,(tRu r).dok=true
 | .num _=>rfl
 | .rd x row=>by
  have:=(eQ row).1;simp only[tRu,I.dok,I.doks,this];rfl
 | .op s a b=>by simp only[tRu,I.dok,I.doks,gT a,gT b];rfl
 | .cond a b c=>by simp only[tRu,I.dok,I.doks,gT a,gT b,gT c];rfl
theorem tf(p:Str×Ru):(aL p).dok=true:=by simp only[aL,I.dok,I.doks,gT];rfl
theorem gS(c:Str×List Int):(bU c).dok=true/\(bU c).dep=2:=by
 have:=nB c.2;simp only[bU,I.dok,I.doks,I.dep,I.deps,this.1,this.2];exact⟨rfl,by simp⟩
def HM(W:Nat)(ds:List (Str×Ru)):Prop:=1<=ds.length/\ds.length<=6/\(ds.map (·.1)).Nodup/\∀p∈ds,p.2.leaves.length<=11/\∀e∈rds p.2,e.1∈ds.map (·.1)/\e.2.length=W
theorem zk(r:Ru):(tRu r).dep<=r.depth+2:=by
 induction r with
 | num=>simp[tRu,I.dep,I.deps,Ru.depth]
 | rd x row=>
  have:=(eQ row).2;simp only[tRu,I.dep,I.deps,this];omega
 | op s a b ha hb=>simp only[tRu,I.dep,I.deps,Ru.depth];exact zI ha hb
 | cond a b c ha hb hc=>simp only[tRu,I.dep,I.deps,Ru.depth];exact zH ha hb hc
theorem lv{w wh:Int}{ds:List (Str×Ru)}(h:∀p∈ds,p.2.leaves.length<=11):I.doks [.int w,.int wh,.tup (ds.map aL)]=true/\I.deps [.int w,.int wh,.tup (ds.map aL)]<=15:=by
 have h1:I.doks (ds.map aL)=true:=iB λi hi=>by obtain⟨p,_,rfl⟩:=GB.mp hi;exact tf p
 have h2:I.deps (ds.map aL)<=14:=iA λi hi=>by
  obtain⟨p,hp,rfl⟩:=GB.mp hi;have:=h p hp;have:=Ru.depth_lt p.2;have:=zk p.2;simp only[aL,I.dep,I.deps];omega
 simp only[I.doks,I.dok,I.deps,I.dep,h1];exact⟨rfl,by omega⟩
theorem BD{is js:List I}{Q:T->Prop}(h:I.doks is=true/\I.doks js=true/\I.deps is<=50)(q:Q (.im (.bl (!decide (is=js))))):W1 (neT (.im (.tup is)) (.im (.tup js))) Q:=⟨_,by simp only[neT,eqB,eqI];rw[if_pos h];rfl,q⟩
theorem gH(g:Str->List Int)(ds:List (Str×Ru)):(ds.map (mvD g)).map (·.1)=ds.map (·.1):=by rw[GQ];rfl
theorem HM.moved{W:Nat}{ds:List (Str×Ru)}{g:Str->List Int}(h:HM W ds)(hg:∀z∈ds.map (·.1),(g z).length=W):HM W (ds.map (mvD g)):=by
 obtain⟨h1,h2,h3,h4⟩:=h;refine⟨by rw[Gv];exact h1,by rw[Gv];exact h2,by rw[gH];exact h3,λp hp=>?_⟩;obtain⟨d,hd,rfl⟩:=GB.mp hp;obtain⟨h5,h6⟩:=h4 d hd;refine⟨by show(d.2.mp _).leaves.length<=11;rw[cL];exact h5,λe he=>?_⟩;have he':e∈rds (d.2.mp (mvF g d.1)):=he;rw[ij]at he';obtain⟨o,ho,rfl⟩:=GB.mp he';obtain⟨h7,h8⟩:=h6 o ho;rw[gH];refine⟨h7,?_⟩;show(mvF g d.1 o.1 o.2).length=W;rw[iQ (by rw[h8,hg _ h7]) (by rw[h8,hg _ (GB.mpr ⟨d,hd,rfl⟩)])];exact h8
theorem HM.back{W:Nat}{ds:List (Str×Ru)}{g:Str->List Int}(h:HM W ds)(hg:∀z∈ds.map (·.1),(g z).length=W):(ds.map (mvD g)).map (mvD λx=>(g x).map λy=>-y)=ds:=by
 obtain⟨h1,h2,h3,h4⟩:=h;rw[GQ];refine(IX λp hp=>?_).trans (KO ds);have hz:=hg p.1 (GB.mpr ⟨p,hp,rfl⟩);exact uw λe he=>by
  obtain⟨h5,h6⟩:=(h4 p hp).2 e he;exact⟨by rw[h6,hg _ h5],by rw[h6,hz]⟩
theorem rX{w wh:Int}{W:Nat}{ds:List (Str×Ru)}(h:HM W ds)(hW:W<=1000):(aB w wh ds).fit=true:=by
 have h1:I.fits (ds.map aL)=true:=mD λi hi=>by
  obtain⟨p,hp,rfl⟩:=GB.mp hi;have:=(gU (r:=p.2) λx row hm=>by
   have:=((h.2.2.2 p hp).2 (x,row) (G5.mpr ⟨_,hm,rfl⟩)).2;dsimp only at this;omega).1
  simp only[aL,I.fit,I.fits,this];rfl
 have h2:=h.2.1;simp only[aB,I.fit,I.fits,h1,Gv];simp;omega
noncomputable def gN(c:Ofs):Str->List Int:=λx=>(gOf c x).map λy=>-y
theorem DK(c:Ofs):gN c=gOf (fU c):=by funext z;exact(mH z c).symm
theorem tD{g:Str->List Int}{z:Str}{r:Ru}{pl:List Int}{W:Nat}(hg:∀e∈rds r,(g e.1).length=W)(hz:(g z).length=W)(hp:pl.length=W)(hr:∀e∈rds r,e.2.length=W) :
  (ded (rds (r.mp (mvF g z)))).map (λp=>bU (p.1,bi (bi pl (g z)) p.2))=(ded (rds r)).map λp=>bU (p.1,bi (bi pl p.2) (g p.1)):=by
 have e:ded (rds (r.mp (mvF g z)))=(ded (rds r)).map λp=>(p.1,mvF g z p.1 p.2):=by
  rw[ij];unfold ded;refine qx (F:=λp=>(p.1,mvF g z p.1 p.2)) (rds r) [] λp hp q hq h=>?_;rw[Hn]at hp hq;obtain⟨p1,p2⟩:=p;obtain⟨q1,q2⟩:=q;dsimp only at h;rw[Prod.mk.injEq]at h;obtain⟨rfl,h⟩:=h;have a1:=hg _ hp;have a2:=hr _ hp;have a3:=hr _ hq;dsimp only at a1 a2 a3;rw[xI (by omega) (by omega) (by omega) (by omega) h]
 rw[e,GQ];refine IX λp hp'=>?_;have hm:=qM hp';have a1:=hg _ hm;have a2:=hr _ hm;show bU (p.1,bi (bi pl (g z)) (mvF g z p.1 p.2))=_;rw[zr (by omega) (by omega) (by omega)]
theorem tQ{z:Str}{pl:List Int}(h:pl.length<=1000):(bU (z,pl)).fit=true:=by
 have h2:=nW pl (by omega);simp only[bU,tPl,I.fit,I.fits]at h2|-;rw[h2.1];simp
theorem pS{w wh:Int}{ds:List (Str×Ru)}{c:Ofs}{W:Nat}{ps:List (List Int)}(hW:W<=3)(h:HM W ds)(hn:(c.map (·.1)).Nodup)(hp:(c.map (·.1)).Perm (ds.map (·.1)))(hc:∀p∈c,p.2.length=W)(hps:∀p∈ps,p.length=W){Q:T->Prop}(q:Q (.im (.bl true))):W1 (fv [.im (aB w wh ds),.im (bp c),.li (ps.map tPl)]) Q:=by
 obtain⟨h1,h2,h3,h4⟩:=id h;have hp₀:=hp;have hcl:c.length=ds.length:=by have:=hp.length_eq;simpa using this
 have gm:∀z∈ds.map (·.1),(z,gOf c z)∈c:=λz hz=>mF (hp.mem_iff.mpr hz);have gl:∀z∈ds.map (·.1),(gOf c z).length=W:=λz hz=>hc _ (gm z hz);have hM:=h.moved gl;have hB:=h.back gl;refine KY [some ⟨.ow,.im (aB w wh ds)⟩,some ⟨.ow,.im (bp c)⟩,some ⟨.vw none none,.li (ps.map tPl)⟩,none,none,none,none,none,none,none,none] rfl rfl rfl ?_;unfold du
 lia
 refine fM (λL:List (Str×Ru)=>[some ⟨.ow,.im (aB w wh ds)⟩,some ⟨.ow,.im (bp c)⟩,some ⟨.vw none none,.li (ps.map tPl)⟩,some ⟨.ow,.li (L.map aL)⟩,none,none,none,none,none,none,none]) (λj L=>L=(ds.take j).map (mvD (gOf c))) ?_;rw[aB]
 lia
 refine⟨ds.map aL,rfl,by cbv,[],by cbv,rfl,λj x L hx hL=>?_,λL hL=>?_⟩
 ·obtain⟨p,hp',rfl⟩:=ay hx;have hm:=ymG hp';have hz:p.1∈ds.map (·.1):=GB.mpr ⟨p,hm,rfl⟩;obtain⟨a1,a2⟩:=h4 p hm;have hLl:L.length<=6:=by rw[hL];simp;omega
  have hleaf:∀x row,Ru.rd x row∈p.2.leaves->row.length<=1000/\(x,gOf c x)∈c:=λx row hr=>by
   have he:(x,row)∈rds p.2:=G5.mpr ⟨_,hr,rfl⟩;obtain⟨b1,b2⟩:=a2 _ he;exact⟨by have:row.length=W:=b2;omega,gm _ b1⟩
  have hgl:=gl _ hz;have hdp:=Ru.depth_lt p.2;rw[aL]
  lia
  refine lO (cK hn (gm p.1 hz)) ?_
  lia
  refine mS (g:=gOf c) (mine:=gOf c p.1) hn (by omega) 24 p.2 (by omega) hleaf ?_;rw[AW]
  lia
  refine bn (is:=L.map aL) (i:=aL (mvD (gOf c) p)) (by simp;rw[LG];omega) ?_;ac_nf
  lia
  refine⟨L++[mvD (gOf c) p],?_,by rw[hL,aE hp',GA];rfl⟩;rw[GA];try cbv
 rw[Gv,Hl]at hL;subst hL
 lia
 refine nD ?_
 lia
 refine Br ?_;refine⟨_,jD c,?_⟩
 lia
 refine oj (g:=gOf c) (by omega) hn (λp hp=>?_) ?_
 ·have hz:p.1∈ds.map (·.1):=GB.mpr ⟨p,hp,rfl⟩;obtain⟨a1,a2⟩:=h4 p hp;refine⟨by omega,gm _ hz,by have:=gl _ hz;omega,λe he=>?_⟩;obtain⟨b1,b2⟩:=a2 e he;exact⟨gm _ b1,by omega⟩
 lia
 refine nD ?_
 lia
 refine wK (λ_:Unit=>[some ⟨.ow,.im (aB w wh ds)⟩,some ⟨.ow,.im (bp c)⟩,some ⟨.vw none none,.li (ps.map tPl)⟩,some ⟨.ow,.li ((ds.map (mvD (gOf c))).map aL)⟩,none,none,some ⟨.ow,.im (bp c)⟩,some ⟨.ow,.im (aB w wh (ds.map (mvD (gOf c))))⟩,none,none,none]) tj (λj _ L=>L=(fU c).take j) ?_
 lia
 refine⟨.ow,c.map (λp=>.inr p.1),c.map (λp=>tPl p.2),rfl,by rw[jF];simp;rw[LG];omega,by cbv,(),by cbv,rfl,λj x _ l hx hL=>?_,λ_ l hL=>?_⟩
 ·rw[jF]at hx;obtain⟨p,hp',rfl⟩:=ay hx;have hpl:=hc p (ymG hp');rw[tj]
  lia
  refine bo (λ_:Unit=>[none,none,none,none,some ⟨.ow,.im (.str p.1)⟩,none,none,none,none,none,none,some ⟨.ow,.im (tPl p.2)⟩]) I.int (λj _ L=>L=(p.2.take j).map λx=>-x) ?_
  lia
  refine⟨p.2.map .int,rfl,by simp;rw[LG];omega,by cbv,(),by cbv,rfl,λj x _ l hx hP=>?_,λ_ l hP=>?_⟩
  ·obtain⟨x',hx',rfl⟩:=ay hx
   lia
   exact⟨-x',(),by rw[Int.zero_sub],by cbv,by rw[hP,aE hx',GA];rfl⟩
  ·rw[Gv,Hl]at hP;subst hP
   lia
   have e:(fU c)[j]?=some (p.1,p.2.map λx=>-x):=by unfold fU;rw[GE,hp'];rfl
   exact⟨(p.1,p.2.map λx=>-x),(),rfl,by cbv,by rw[hL,aE e]⟩
 rw[jF,Gv]at hL;rw[GL (by unfold fU;rw[Gv];exact GC _)]at hL;subst hL
 lia
 refine xR (by rw[ii];exact hn) ?_;refine⟨_,jD (fU c),?_⟩
 lia
 refine bg ?_
 lia
 refine W1.mono (nJ 24 (aB w wh (ds.map (mvD (gOf c)))) (by have:=(lv (w:=w) (wh:=wh) λp hp=>(hM.2.2.2 p hp).1).2;rw[aB,I.dep];omega) (rX hM (by omega))) λt ht=>?_;subst ht
 lia
 refine spF ?_
 lia
 refine oj (w:=w) (wh:=wh) (c:=fU c) (g:=gOf (fU c)) (ds:=ds.map (mvD (gOf c))) (by rw[Gv];omega) (by rw[ii];exact hn) (λp hp=>?_) ?_
 ·have gm':∀z∈(ds.map (mvD (gOf c))).map (·.1),(z,gOf (fU c) z)∈fU c/\(gOf (fU c) z).length=W:=λz hz=>by
   rw[gH]at hz;refine⟨mF (by rw[ii];exact hp₀.mem_iff.mpr hz),?_⟩;rw[mH,Gv];exact gl z hz
  obtain⟨a1,a2⟩:=hM.2.2.2 p hp;have hz:=gm' p.1 (GB.mpr ⟨p,hp,rfl⟩);refine⟨by omega,hz.1,by omega,λe he=>?_⟩;obtain⟨b1,b2⟩:=a2 e he;exact⟨(gm' _ b1).1,by omega⟩
 rw[<-DK,show(ds.map (mvD (gOf c))).map (mvD (gN c))=ds from hB];have hdk:=lv (w:=w) (wh:=wh) λp hp=>(h4 p hp).1
 lia
 refine BD ⟨hdk.1,hdk.1,by omega⟩ ?_
 lia
 rw[decide_eq_true rfl];refine spF ?_
 lia
 refine Eb (uA hn) ⟨iB λi hi=>by obtain⟨p,_,rfl⟩:=GB.mp hi;exact(nB p.2).1,iA λi hi=>by obtain⟨p,_,rfl⟩:=GB.mp hi;rw[(nB p.2).2];decide⟩ ?_
 lia
 try refine spF ?_
 lia
 refine fM (λ_:Unit=>[some ⟨.ow,.im (aB w wh ds)⟩,some ⟨.ow,.im (bp c)⟩,some ⟨.vw none none,.li (ps.map tPl)⟩,some ⟨.ow,.li ((ds.map (mvD (gOf c))).map aL)⟩,none,none,some ⟨.ow,.im (bp c)⟩,some ⟨.ow,.im (aB w wh (ds.map (mvD (gOf c))))⟩,some ⟨.ow,.im (bp (fU c))⟩,none,none]) (λ_ _=>True) ?_;rw[show aB w wh ds=.tup [.int w,.int wh,.tup (ds.map aL)]from rfl]
 lia
 refine⟨ds.map aL,rfl,by cbv,(),by cbv,trivial,λj x _ hx _=>?_,λ_ _=>?_⟩
 ·obtain⟨p,hp',rfl⟩:=ay hx;have hm:=ymG hp';have hz:p.1∈ds.map (·.1):=GB.mpr ⟨p,hm,rfl⟩;obtain⟨a1,a2⟩:=h4 p hm;have hgl:=gl _ hz;have hgz:=gm _ hz;have hrl:=iT p.2;have hdl:=pe (rds p.2);rw[aL]
  lia
  refine fM (λ_:Unit=>[some ⟨.ow,.im (aB w wh ds)⟩,some ⟨.ow,.im (bp c)⟩,some ⟨.vw none none,.li (ps.map tPl)⟩,some ⟨.ow,.li ((ds.map (mvD (gOf c))).map aL)⟩,some ⟨.ow,.im (.str p.1)⟩,some ⟨.ow,.im (tRu p.2)⟩,some ⟨.ow,.im (bp c)⟩,some ⟨.ow,.im (aB w wh (ds.map (mvD (gOf c))))⟩,some ⟨.ow,.im (bp (fU c))⟩,none,none]) (λ_ _=>True) ?_
  lia
  refine⟨ps.map tPl,rfl,by cbv,(),by cbv,trivial,λi y _ hy _=>?_,λ_ _=>?_⟩
  ·obtain⟨pl,hpl',rfl⟩:=ay hy;have hpl:=hps pl (ymG hpl')
   lia
   refine lO (cK hn hgz) ?_
   lia
   refine mZ (a:=pl) (b:=gOf c p.1) (by omega) (by omega) ?_;rw[rD]
   lia
   refine bg ?_
   lia
   refine gZ (z:=p.1) (pl:=pl) (v:=gOf c p.1) (by omega) hn hgz ?_
   lia
   refine W1.mono (nJ 24 (bU (p.1,bi pl (gOf c p.1))) (by rw[(gS _).2];decide) (tQ (by rw[bv (by omega)];omega))) λt ht=>?_;subst ht
   lia
   refine spF ?_
   lia
   refine bg ?_
   lia
   refine oV (w:=w) (wh:=wh) (ds:=ds.map (mvD (gOf c))) (z:=p.1) (r:=p.2.mp (mvF (gOf c) p.1)) (pl:=bi pl (gOf c p.1)) (by rw[gH];exact h3) (GB.mpr ⟨p,hm,rfl⟩) (by rw[cL];omega) (by rw[bv (by omega)];omega) ?_
   lia
   refine bo (λ_:Unit=>[some ⟨.ow,.im (aB w wh ds)⟩,some ⟨.ow,.im (bp c)⟩,some ⟨.vw none none,.li (ps.map tPl)⟩,some ⟨.ow,.li ((ds.map (mvD (gOf c))).map aL)⟩,some ⟨.ow,.im (.str p.1)⟩,some ⟨.ow,.im (tRu p.2)⟩,some ⟨.ow,.im (bp c)⟩,some ⟨.ow,.im (aB w wh (ds.map (mvD (gOf c))))⟩,some ⟨.ow,.im (bp (fU c))⟩,some ⟨.ow,.im (tPl pl)⟩,some ⟨.ow,.im (bU (p.1,bi pl (gOf c p.1)))⟩]) (λe:Str×List Int=>bU (e.1,bi (bi pl e.2) (gOf c e.1))) (λk _ L=>L=(ded (rds p.2)).take k) ?_
   lia
   refine oV (w:=w) (wh:=wh) (ds:=ds) (z:=p.1) (r:=p.2) (pl:=pl) h3 hm (by omega) (by omega) ?_;refine⟨(ded (rds p.2)).map λe=>bU (e.1,bi pl e.2),rfl,by simp;rw[LG];omega,by cbv,(),by cbv,rfl,λk x' _ L hx' hL=>?_,λ_ L hL=>?_⟩
   ·obtain⟨e,he,rfl⟩:=ay hx';have hem:=qM (ymG he);obtain⟨b1,b2⟩:=a2 e hem
    lia
    refine gZ (z:=e.1) (pl:=bi pl e.2) (v:=gOf c e.1) (by rw[bv (by omega)];omega) hn (gm _ b1) ?_
    lia
    exact⟨e,(),rfl,by cbv,by rw[hL,aE he]⟩
   rw[Gv,Hl]at hL;subst hL
   lia
   refine BC ⟨iB λi hi=>by obtain⟨e,_,rfl⟩:=GB.mp hi;exact(gS _).1,iB λi hi=>by obtain⟨e,_,rfl⟩:=GB.mp hi;exact(gS _).1,iA λi hi=>by obtain⟨e,_,rfl⟩:=GB.mp hi;rw[(gS _).2];decide⟩ ?_;rw[decide_eq_true (tD (g:=gOf c) (z:=p.1) (r:=p.2) (pl:=pl) (W:=W) (λe he=>gl _ (a2 e he).1) hgl hpl λe he=>(a2 e he).2)]
   lia
   refine spF ?_
   lia
   exact⟨(),by cbv,trivial⟩
  ·lia
   exact⟨(),by cbv,trivial⟩
 lia
 exact q
theorem Lo.hm{w wh:Int}{ds:List (Str×Ru)}(h:Lo 10 w wh ds):HM w.toNat ds:=by
 obtain⟨a1,a2,a3,a4,a5,a6,a7,a8,n,a9,a10⟩:=h;refine⟨a5,a6,a7,λp hp=>⟨by have:=(a10 p hp).2.1;omega,λe he=>?_⟩⟩;exact(a10 p hp).2.2.1 _ (qN he)
noncomputable def twin(ds:List (Str×Ru)):List (Str×Ru):=(ds.map (·.1)).zip (ds.map (·.2)).reverse
theorem fL(ds:List (Str×Ru)):(twin ds).map (·.1)=ds.map (·.1):=by
 unfold twin;have:((ds.map (·.1)).zip (ds.map (·.2)).reverse).map Prod.fst=ds.map (·.1):=List.map_fst_zip (by simp);exact this
theorem HM.twin{W:Nat}{ds:List (Str×Ru)}(h:HM W ds):HM W (twin ds):=by
 obtain⟨h1,h2,h3,h4⟩:=h;have hl:(L2.twin ds).length=ds.length:=by unfold L2.twin;simp
 refine⟨by omega,by omega,by rw[fL];exact h3,λp hp=>?_⟩;rw[fL];have hm:p.2∈(ds.map (·.2)).reverse:=(IT (show(p.1,p.2)∈_ from hp)).2;obtain⟨d,hd,e⟩:=GB.mp (List.mem_reverse.mp hm);rw[<-e];exact h4 d hd
theorem k46_law{ns:List Int}(hn:ns.length<=63):W1 (r_l_law_v6 [.li (ns.map .int)]) λt=>t=.im (.bl true):=by
 refine KY [some ⟨.vw none none,.li (ns.map .int)⟩,none,none,none,none,none,none,none,none,none,none,none,none] rfl rfl rfl ?_;unfold fm
 lia
 refine bW (λ_:Unit=>[some ⟨.vw none none,.li (ns.map .int)⟩,none,none,none,none,none,none,none,none,none,none,none,none]) (λ_ _=>True) ?_
 lia
 rw[Gv];generalize hc:(if(if(5:Int)<(ns.length:Int)then 5 else(ns.length:Int))>2 then(if(5:Int)<(ns.length:Int)then 5 else(ns.length:Int))else 2)=c;have hc5:2<=c/\c<=5:=by subst hc;split<;>split<;>omega
 refine⟨⟨by omega,by omega⟩,(),by cbv,trivial,λj _ hj _=>?_,λ_ _=>?_⟩
 ·lia
  refine xl (ns:=ns) (by omega) (by omega) (by omega) λf=>?_
  lia
  refine am (by omega) (by omega) λmany f m0 m1=>?_;ac_nf
  lia
  refine ud λw wh ds f hH=>?_;ac_nf
  lia
  refine WS.mono (Q:=λfl O=>fl=.nx/\∃f w wh ds,(1<=w/\w<=3)/\HM w.toNat ds/\O=[some ⟨.vw none none,.li (ns.map .int)⟩,some ⟨.ow,.im (.int j)⟩,some ⟨.ow,fT f⟩,some ⟨.ow,.im (.int many)⟩,some ⟨.ow,.im (aB w wh ds)⟩,none,none,none,none,none,none,none,none]) ?_ ?_
  ·refine bg ?_
   lia
   clear_value hm
   ·lia
    refine pD λwh ds f g1 g2 g3=>?_;ac_nf
    lia
    exact⟨by trivial,f,2,wh,ds,by omega,⟨g1,g2.1,g2.2.1,λp hp=>⟨(g3 p hp).1,λe he=>(g3 p hp).2 _ _ (qN he)⟩⟩,by cbv⟩
   ·lia
    exact⟨by trivial,f,w,wh,ds,⟨hH.1,hH.2.1⟩,hH.hm,by cbv⟩
  clear hH;rintro fl O ⟨rfl,f,w,wh,ds,hw,hm,rfl⟩
  lia
  refine nD ?_
  lia
  refine kr hw.1 hw.2 hm.1 (by have:=hm.2.1;omega) hm.2.2.1 λc1 f n1 p1 l1=>?_;ac_nf;refine⟨_,jD c1,?_⟩
  lia
  refine nD ?_
  lia
  refine kr hw.1 hw.2 hm.1 (by have:=hm.2.1;omega) hm.2.2.1 λc2 f n2 p2 l2=>?_;ac_nf;refine⟨_,jD c2,?_⟩
  lia
  ac_nf;have hd6:=hm.2.1;have hd1:=hm.1;refine bH (λf:Int×Int=>[some ⟨.vw none none,.li (ns.map .int)⟩,some ⟨.ow,.im (.int j)⟩,some ⟨.ow,fT f⟩,some ⟨.ow,.im (.int many)⟩,some ⟨.ow,.im (aB w wh ds)⟩,some ⟨.ow,.im (bp c1)⟩,some ⟨.ow,.im (bp c2)⟩,none,none,none,none,none,none]) tPl (λk _ L=>L.length=k/\∀p∈L,p.length=w.toNat) ?_
  lia
  refine⟨⟨by omega,by omega⟩,by cbv,f,by cbv,⟨rfl,by simp⟩,λk f L hk hL=>?_,λf L hL=>?_⟩
  ·obtain⟨hL1,hL2⟩:=hL;rw[aB]
   lia
   refine uU hw.1 hw.2 λpl f hpl=>?_;ac_nf
   lia
   exact⟨pl,f,rfl,by cbv,by simp[hL1],aU hL2 hpl⟩
  obtain⟨hL1,hL2⟩:=hL
  lia
  refine bo (λ_:Unit=>[some ⟨.vw none none,.li (ns.map .int)⟩,some ⟨.ow,.im (.int j)⟩,some ⟨.ow,fT f⟩,some ⟨.ow,.im (.int many)⟩,some ⟨.ow,.im (aB w wh ds)⟩,some ⟨.ow,.im (bp c1)⟩,some ⟨.ow,.im (bp c2)⟩,some ⟨.ow,.li (L.map tPl)⟩,none,none,none,none,none]) I.str (λk _ L=>L=(ds.take k).map (·.1)) ?_;rw[aB]
  lia
  refine⟨ds.map aL,rfl,by simp;rw[LG];omega,by cbv,(),by cbv,rfl,λk x _ l hx hP=>?_,λ_ l hP=>?_⟩
  ·obtain⟨d,hd,rfl⟩:=ay hx;rw[aL]
   lia
   exact⟨d.1,(),rfl,by cbv,by rw[hP,aE hd,GA];rfl⟩
  rw[Gv,Hl]at hP;subst hP
  lia
  refine bo (λ_:Unit=>[some ⟨.vw none none,.li (ns.map .int)⟩,some ⟨.ow,.im (.int j)⟩,some ⟨.ow,fT f⟩,some ⟨.ow,.im (.int many)⟩,some ⟨.ow,.im (aB w wh ds)⟩,some ⟨.ow,.im (bp c1)⟩,some ⟨.ow,.im (bp c2)⟩,some ⟨.ow,.li (L.map tPl)⟩,none,none,none,none,none]) tRu (λk _ L=>L=(ds.take k).map (·.2)) ?_;rw[aB]
  lia
  refine⟨ds.map aL,rfl,by simp;rw[LG];omega,by cbv,(),by cbv,rfl,λk x _ l hx hP=>?_,λ_ l hP=>?_⟩
  ·obtain⟨d,hd,rfl⟩:=ay hx;rw[aL]
   lia
   exact⟨d.2,(),rfl,by cbv,by rw[hP,aE hd,GA];rfl⟩
  rw[Gv,Hl]at hP;subst hP
  lia
  ac_nf;refine iX (λ_:Unit=>[some ⟨.vw none none,.li (ns.map .int)⟩,some ⟨.ow,.im (.int j)⟩,some ⟨.ow,fT f⟩,some ⟨.ow,.im (.int many)⟩,some ⟨.ow,.im (aB w wh ds)⟩,some ⟨.ow,.im (bp c1)⟩,some ⟨.ow,.im (bp c2)⟩,some ⟨.ow,.li (L.map tPl)⟩,some ⟨.ow,.li ((ds.map (·.1)).map I.str)⟩,some ⟨.ow,.li ((ds.map (·.2)).map tRu)⟩,none,none,none]) aL (λk _ l=>l=(twin ds).take k) ?_
  lia
  refine BH ?_
  lia
  refine⟨_,_,true,true,(ds.map (·.1)).map I.str,((ds.map (·.2)).map tRu).reverse,rfl,rfl,rfl,by simp;rw[LG];omega,by cbv,(),by cbv,rfl,λk x y _ l hx hy hP=>?_,λ_ l hP=>?_⟩
  ·obtain⟨z,hz,rfl⟩:=ay hx;rw[<-IB]at hy;obtain⟨r,hr,rfl⟩:=ay hy;have e:(twin ds)[k]?=some (z,r):=by unfold twin;rw[HZ];exact⟨hz,hr⟩
   lia
   exact⟨(z,r),(),rfl,by cbv,by rw[hP,aE e]⟩
  rw[show min ((ds.map (·.1)).map I.str).length ((ds.map (·.2)).map tRu).reverse.length=(twin ds).length by unfold twin;simp,Hl]at hP;subst hP
  lia
  refine fM (λ_:Unit=>[some ⟨.vw none none,.li (ns.map .int)⟩,some ⟨.ow,.im (.int j)⟩,some ⟨.ow,fT f⟩,some ⟨.ow,.im (.int many)⟩,some ⟨.ow,.im (aB w wh ds)⟩,some ⟨.ow,.im (bp c1)⟩,some ⟨.ow,.im (bp c2)⟩,some ⟨.ow,.li (L.map tPl)⟩,some ⟨.ow,.li ((ds.map (·.1)).map I.str)⟩,some ⟨.ow,.li ((ds.map (·.2)).map tRu)⟩,some ⟨.ow,.im (aB w wh (twin ds))⟩,none,none]) (λ_ _=>True) ?_
  lia
  refine⟨[(ds,c1),(ds,c2),(twin ds,c2),(twin ds,c1),(ds,c1)].map λq=>.tup [aB w wh q.1,bp q.2],rfl,by cbv,(),by cbv,trivial,λk x _ hx _=>?_,λ_ _=>?_⟩
  ·obtain⟨q,hq,rfl⟩:=ay hx;have hq':HM w.toNat q.1/\(q.2.map (·.1)).Nodup/\(q.2.map (·.1)).Perm (q.1.map (·.1))/\∀p∈q.2,p.2.length=w.toNat:=by
    have hqm:=ymG hq;simp only[G4,Hb,or_false]at hqm;have p1':(c1.map (·.1)).Perm ((twin ds).map (·.1)):=by rw[fL];exact p1
    have p2':(c2.map (·.1)).Perm ((twin ds).map (·.1)):=by rw[fL];exact p2
    rcases hqm with rfl|rfl|rfl|rfl|rfl;exact⟨hm,n1,p1,l1⟩;exact⟨hm,n2,p2,l2⟩;exact⟨hm.twin,n2,p2',l2⟩;exact⟨hm.twin,n1,p1',l1⟩;exact⟨hm,n1,p1,l1⟩
   lia
   refine bg ?_
   lia
   refine pS (W:=w.toNat) (by omega) hq'.1 hq'.2.1 hq'.2.2.1 hq'.2.2.2 hL2 ?_
   lia
   try refine spF ?_
   lia
   exact⟨(),by cbv,trivial⟩
  ·lia
   exact⟨(),by cbv,trivial⟩
 ·lia
  trivial
end L2
namespace K46
open PySem PySem.Spec PyProof.Rows L2
local macro_rules|`(tactic| exfalso)=>`(tactic| exact⟨rfl,rfl,rfl,by decide +kernel,rfl,by decide +kernel,by decide +kernel⟩)
structure Adr(mg:Str->Option LB)(K:yF):Prop where
 d0:KU K mg "_law_feed" gn ["_law_script","_law_k"]
 d1:KU K mg "_law_take" gq ["_law_feed_here","_law_many"]
 d2:KU K mg "_law_turned_row" cD ["_law_row_here","_law_way","_law_signs"]
 d3:KU K mg "_law_row" ip ["_law_feed_here","_law_ways"]
 d4:KU K mg "_law_opposed_reads" bF ["_law_feed_here","_law_ways","_law_many"]
 d5:KU K mg "_law_free_reads" cz ["_law_feed_here","_law_ways","_law_many"]
 d6:KU K mg "_law_back_row" dg ["_law_feed_here","_law_ways"]
 d7:KU K mg "_law_late_reads" cA ["_law_feed_here","_law_ways","_law_many"]
 d8:KU K mg "_law_ring_reads" cC ["_law_feed_here","_law_ways","_law_many"]
 d9:KU K mg "_law_reads" fF ["_law_feed_here"]
 d10:KU K mg "_law_names" fD ["_law_feed_here","_law_many"]
 d11:KU K mg "_law_grown" fA ["_law_feed_here","_law_leaves"]
 d12:KU K mg "_law_house" fB ["_law_feed_here"]
 d13:KU K mg "_law_many_house" cB ["_law_feed_here"]
 d14:KU K mg "_law_offsets" dS ["_law_feed_here","_law_house_here"]
 d15:KU K mg "_law_place" fE ["_law_feed_here","_law_ways"]
 d16:KU K mg "inner_parts" eI ["part"]
 d17:KU K mg "parts_of" iq ["rule"]
 d18:KU K mg "with_rows" gt ["rule","rows"]
 d19:KU K mg "led" wp ["place","row"]
 d20:KU K mg "reads" nw ["rule"]
 d21:KU K mg "moved_rule" fK ["name","rule","offsets"]
 d22:KU K mg "moved" nv ["house","offsets"]
 d23:KU K mg "_law_alike" fw ["_law_found","_law_due"]
 d24:KU K mg "_law_plus" gp ["_law_one","_law_other","_law_times"]
 d25:KU K mg "_law_led" il ["_law_rule","_law_offsets_here","_law_mine"]
 d26:KU K mg "desk_steps" fH ["name","rule"]
 d27:KU K mg "rule_of" jk ["house","name"]
 d28:KU K mg "waits_for" gr ["house","cell"]
 d29:KU K mg "moved_cell" fJ ["cell","offsets"]
 d30:KU K mg "_law_right" fG ["_law_house_here","_law_offsets_here","_law_places"]
 d31:KU K mg "law" s_law ["_law_script"]
 T:Bi mg
 G:GT K mg
theorem adr_less(mg:Str->Option LB)(K:yF)(a:Addr)(A:Adr mg K)(l:Lu K a):Adr mg (less K a):=
 ⟨A.d0.less l,A.d1.less l,A.d2.less l,A.d3.less l,A.d4.less l,A.d5.less l,A.d6.less l,A.d7.less l,A.d8.less l,A.d9.less l,A.d10.less l,A.d11.less l,A.d12.less l,A.d13.less l,A.d14.less l,A.d15.less l,A.d16.less l,A.d17.less l,A.d18.less l,A.d19.less l,A.d20.less l,A.d21.less l,A.d22.less l,A.d23.less l,A.d24.less l,A.d25.less l,A.d26.less l,A.d27.less l,A.d28.less l,A.d29.less l,A.d30.less l,A.d31.less l,A.T,⟨trivial⟩⟩
noncomputable abbrev pm0:LB:=(vs "law_clockhouse_k46_houses_moved" 281)
noncomputable abbrev pm1:LB:=(vs "clockhouse.rules" 187)
noncomputable abbrev pm2:LB:=(vs "clockhouse.houses" 223)
noncomputable abbrev pm3:LB:=(vs "clockhouse.moved" 257)
noncomputable def KF(P:Qw):yF:=[(3,oD [(eO P "__name__" 165 (vs "law_clockhouse_k46_houses_moved" 281)),(eO P "__doc__" 166 .none),(eO P "__package__" 167 .none),(eO P "__loader__" 168 (N8 "__main__.__loader__#opaque")),(eO P "__spec__" 169 .none),(eO P "__annotations__" 170 (vr 6)),(eO P "__builtins__" 171 (vr 4)),(eO P "__file__" 173 (vs "/claim/cut.py" 172)),(eO P "__cached__" 174 .none),(eO P "inner_parts" 195 (vr 21)),(eO P "parts_of" 205 (vr 28)),(eO P "reads" 211 (vr 33)),(eO P "with_rows" 222 (vr 40)),(eO P "desk_steps" 236 (vr 47)),(eO P "rule_of" 244 (vr 54)),(eO P "led" 250 (vr 59)),(eO P "waits_for" 256 (vr 64)),(eO P "moved" 264 (vr 69)),(eO P "moved_rule" 270 (vr 74)),(eO P "moved_cell" 280 (vr 81)),(eO P "_law_feed" 292 (vr 88)),(eO P "_law_take" 302 (vr 95)),(eO P "_law_names" 308 (vr 100)),(eO P "_law_row" 314 (vr 105)),(eO P "_law_back_row" 320 (vr 110)),(eO P "_law_free_reads" 326 (vr 115)),(eO P "_law_late_reads" 332 (vr 120)),(eO P "_law_turned_row" 343 (vr 127)),(eO P "_law_opposed_reads" 349 (vr 132)),(eO P "_law_ring_reads" 355 (vr 137)),(eO P "_law_reads" 366 (vr 144)),(eO P "_law_grown" 377 (vr 151)),(eO P "_law_house" 383 (vr 156)),(eO P "_law_many_house" 389 (vr 161)),(eO P "_law_alike" 395 (vr 166)),(eO P "_law_place" 401 (vr 171)),(eO P "_law_plus" 407 (vr 176)),(eO P "_law_led" 413 (vr 181)),(eO P "_law_offsets" 419 (vr 186)),(eO P "_law_right" 425 (vr 191)),(eO P "law" 431 (vr 196))] 41),
 (88,oF "_law_feed" gn pm0 87),
 (87,oc "_law_feed" 283 58 2 82 (some (84,85)) 86 290),
 (95,oF "_law_take" gq pm0 94),
 (94,oc "_law_take" 293 68 2 89 (some (91,92)) 93 300),
 (127,oF "_law_turned_row" cD pm0 126),
 (126,oc "_law_turned_row" 333 112 3 121 (some (123,124)) 125 341),
 (105,oF "_law_row" ip pm0 104),
 (104,oc "_law_row" 309 89 2 101 none 103 312),
 (132,oF "_law_opposed_reads" bF pm0 131),
 (131,oc "_law_opposed_reads" 344 117 3 128 none 130 347),
 (115,oF "_law_free_reads" cz pm0 114),
 (114,oc "_law_free_reads" 321 97 3 111 none 113 324),
 (110,oF "_law_back_row" dg pm0 109),
 (109,oc "_law_back_row" 315 93 2 106 none 108 318),
 (120,oF "_law_late_reads" cA pm0 119),
 (119,oc "_law_late_reads" 327 103 3 116 none 118 330),
 (137,oF "_law_ring_reads" cC pm0 136),
 (136,oc "_law_ring_reads" 350 131 3 133 none 135 353),
 (144,oF "_law_reads" fF pm0 143),
 (143,oc "_law_reads" 356 143 1 138 (some (140,141)) 142 364),
 (100,oF "_law_names" fD pm0 99),
 (99,oc "_law_names" 303 76 2 96 none 98 306),
 (151,oF "_law_grown" fA pm0 150),
 (150,oc "_law_grown" 367 155 2 145 (some (147,148)) 149 375),
 (156,oF "_law_house" fB pm0 155),
 (155,oc "_law_house" 378 166 1 152 none 154 381),
 (161,oF "_law_many_house" cB pm0 160),
 (160,oc "_law_many_house" 384 178 1 157 none 159 387),
 (186,oF "_law_offsets" dS pm0 185),
 (185,oc "_law_offsets" 414 216 2 182 none 184 417),
 (171,oF "_law_place" fE pm0 170),
 (170,oc "_law_place" 396 204 2 167 none 169 399),
 (21,oF "inner_parts" eI pm1 20),
 (20,oc "inner_parts" 189 2 1 15 (some (17,18)) 19 193),
 (28,oF "parts_of" iq pm1 27),
 (27,oc "parts_of" 196 8 1 22 (some (24,25)) 26 203),
 (40,oF "with_rows" gt pm1 39),
 (39,oc "with_rows" 212 18 2 34 (some (36,37)) 38 220),
 (59,oF "led" wp pm2 58),
 (58,oc "led" 245 42 2 55 none 57 248),
 (33,oF "reads" nw pm1 32),
 (32,oc "reads" 206 16 1 29 none 31 209),
 (74,oF "moved_rule" fK pm3 73),
 (73,oc "moved_rule" 265 51 3 70 none 72 268),
 (69,oF "moved" nv pm3 68),
 (68,oc "moved" 259 48 2 65 none 67 262),
 (166,oF "_law_alike" fw pm0 165),
 (165,oc "_law_alike" 390 196 2 162 none 164 393),
 (176,oF "_law_plus" gp pm0 175),
 (175,oc "_law_plus" 402 207 3 172 none 174 405),
 (181,oF "_law_led" il pm0 180),
 (180,oc "_law_led" 408 209 3 177 none 179 411),
 (47,oF "desk_steps" fH pm2 46),
 (46,oc "desk_steps" 225 33 2 41 (some (43,44)) 45 234),
 (54,oF "rule_of" jk pm2 53),
 (53,oc "rule_of" 237 40 2 48 (some (50,51)) 52 242),
 (64,oF "waits_for" gr pm2 63),
 (63,oc "waits_for" 251 44 2 60 none 62 254),
 (81,oF "moved_cell" fJ pm3 80),
 (80,oc "moved_cell" 271 54 2 75 (some (77,78)) 79 278),
 (191,oF "_law_right" fG pm0 190),
 (190,oc "_law_right" 420 225 3 187 none 189 423),
 (196,oF "law" s_law pm0 195),
 (195,oc "law" 426 242 1 192 none 194 429)]
noncomputable def KL:List Str:=["inner_parts","parts_of","reads","with_rows","desk_steps","rule_of","led","waits_for","moved","moved_rule","moved_cell","_law_feed","_law_take","_law_names","_law_row","_law_back_row","_law_free_reads","_law_late_reads","_law_turned_row","_law_opposed_reads","_law_ring_reads","_law_reads","_law_grown","_law_house","_law_many_house","_law_alike","_law_place","_law_plus","_law_led","_law_offsets","_law_right"].map LW
noncomputable def KH:PySem.W.Hook:=PySem.W.kHook KF [3,88,87,95,94,127,126,105,104,132,131,115,114,110,109,120,119,137,136,144,143,100,99,151,150,156,155,161,160,186,185,171,170,21,20,28,27,40,39,59,58,33,32,74,73,69,68,166,165,176,175,181,180,47,46,54,53,64,63,81,80,191,190,196,195] (λ_=>rfl)
noncomputable def KQ:LM:=PySem.W.view PySem.Challenge.pw_clockhouse_k46_houses_moved [35]
theorem left:PySem.W.LeftO PySem.Challenge.pw_clockhouse_k46_houses_moved KQ KL (λs=>PySem.W.xlAt KQ [] s&&PySem.W.recOk [] s) KH.obs KH.val 4000:=λw=>by rfl'
theorem adr0(w:LU)(mg:Str->Option LB)(h:Heap)(X:(KF w.params).In h)(G:h.Ns Md mg):Adr mg (KF w.params):=
 ⟨KU.mkO X G 88 pm0 87 (by2 λ_ _ _ _ _ _ _ _=>rfl),
   KU.mkO X G 95 pm0 94 (by2 λ_ _ _ _ _ _ _ _=>rfl),
   KU.mkO X G 127 pm0 126 (by3 λ_ _ _ _ _ _ _ _ _=>rfl),
   KU.mkO X G 105 pm0 104 (by2 λ_ _ _ _ _ _ _ _=>rfl),
   KU.mkO X G 132 pm0 131 (by3 λ_ _ _ _ _ _ _ _ _=>rfl),
   KU.mkO X G 115 pm0 114 (by3 λ_ _ _ _ _ _ _ _ _=>rfl),
   KU.mkO X G 110 pm0 109 (by2 λ_ _ _ _ _ _ _ _=>rfl),
   KU.mkO X G 120 pm0 119 (by3 λ_ _ _ _ _ _ _ _ _=>rfl),
   KU.mkO X G 137 pm0 136 (by3 λ_ _ _ _ _ _ _ _ _=>rfl),
   KU.mkO X G 144 pm0 143 (by1 λ_ _ _ _ _ _ _=>rfl),
   KU.mkO X G 100 pm0 99 (by2 λ_ _ _ _ _ _ _ _=>rfl),
   KU.mkO X G 151 pm0 150 (by2 λ_ _ _ _ _ _ _ _=>rfl),
   KU.mkO X G 156 pm0 155 (by1 λ_ _ _ _ _ _ _=>rfl),
   KU.mkO X G 161 pm0 160 (by1 λ_ _ _ _ _ _ _=>rfl),
   KU.mkO X G 186 pm0 185 (by2 λ_ _ _ _ _ _ _ _=>rfl),
   KU.mkO X G 171 pm0 170 (by2 λ_ _ _ _ _ _ _ _=>rfl),
   KU.mkO X G 21 pm1 20 (by1 λ_ _ _ _ _ _ _=>rfl),
   KU.mkO X G 28 pm1 27 (by1 λ_ _ _ _ _ _ _=>rfl),
   KU.mkO X G 40 pm1 39 (by2 λ_ _ _ _ _ _ _ _=>rfl),
   KU.mkO X G 59 pm2 58 (by2 λ_ _ _ _ _ _ _ _=>rfl),
   KU.mkO X G 33 pm1 32 (by1 λ_ _ _ _ _ _ _=>rfl),
   KU.mkO X G 74 pm3 73 (by3 λ_ _ _ _ _ _ _ _ _=>rfl),
   KU.mkO X G 69 pm3 68 (by2 λ_ _ _ _ _ _ _ _=>rfl),
   KU.mkO X G 166 pm0 165 (by2 λ_ _ _ _ _ _ _ _=>rfl),
   KU.mkO X G 176 pm0 175 (by3 λ_ _ _ _ _ _ _ _ _=>rfl),
   KU.mkO X G 181 pm0 180 (by3 λ_ _ _ _ _ _ _ _ _=>rfl),
   KU.mkO X G 47 pm2 46 (by2 λ_ _ _ _ _ _ _ _=>rfl),
   KU.mkO X G 54 pm2 53 (by2 λ_ _ _ _ _ _ _ _=>rfl),
   KU.mkO X G 64 pm2 63 (by2 λ_ _ _ _ _ _ _ _=>rfl),
   KU.mkO X G 81 pm3 80 (by2 λ_ _ _ _ _ _ _ _=>rfl),
   KU.mkO X G 191 pm0 190 (by3 λ_ _ _ _ _ _ _ _ _=>rfl),
   KU.mkO X G 196 pm0 195 (by1 λ_ _ _ _ _ _ _=>rfl),
   ⟨bN X G,bN X G,bN X G,bN X G,bN X G,bN X G,bN X G,bN X G,bN X G,bN X G,bN X G,bN X G,bN X G,bN X G,bN X G,bN X G,bN X G,bN X G,bN X G,bN X G,bN X G⟩,⟨trivial⟩⟩
theorem c0:KT ["_law_script","_law_k","_law_cell","_law_own"] ["_law_script","_law_k"] (aj gn):=by exfalso
theorem c1:KT ["_law_feed_here","_law_many","_law_digit","_law_one"] ["_law_feed_here","_law_many"] (aj gq):=by exfalso
theorem c2:KT ["_law_row_here","_law_way","_law_signs","_law_found","_law_k"] ["_law_row_here","_law_way","_law_signs"] (aj cD):=by exfalso
theorem c3:KT ["_law_feed_here","_law_ways"] ["_law_feed_here","_law_ways"] (aj ip):=by exfalso
theorem c4:KT ["_law_feed_here","_law_ways","_law_many","_law_far","_law_some","_law_way","_law_signs","_law_looks","_law_x","_law_other","_law_row_here"] ["_law_feed_here","_law_ways","_law_many"] (aj bF):=by exfalso
theorem c5:KT ["_law_feed_here","_law_ways","_law_many","_law_looks","_law_x","_law_k"] ["_law_feed_here","_law_ways","_law_many"] (aj cz):=by exfalso
theorem c6:KT ["_law_feed_here","_law_ways","_law_at","_law_more"] ["_law_feed_here","_law_ways"] (aj dg):=by exfalso
theorem c7:KT ["_law_feed_here","_law_ways","_law_many","_law_looks","_law_x","_law_k"] ["_law_feed_here","_law_ways","_law_many"] (aj cA):=by exfalso
theorem c8:KT ["_law_feed_here","_law_ways","_law_many","_law_looks","_law_long","_law_rest","_law_k","_law_row_here"] ["_law_feed_here","_law_ways","_law_many"] (aj cC):=by exfalso
theorem c9:KT ["_law_feed_here","_law_form","_law_wide","_law_ways","_law_many"] ["_law_feed_here"] (aj fF):=by exfalso
theorem c10:KT ["_law_feed_here","_law_many","_law_letters","_law_stem","_law_first","_law_at","_law_found","_law_k","_law_name"] ["_law_feed_here","_law_many"] (aj fD):=by exfalso
theorem c11:KT ["_law_feed_here","_law_leaves","_law_found","_law_at","_law_sign"] ["_law_feed_here","_law_leaves"] (aj fA):=by exfalso
theorem c12:KT ["_law_feed_here","_law_ways","_law_looks","_law_wheel","_law_names_here","_law_desks","_law_x","_law_leaves","_law_k","_law_number"] ["_law_feed_here"] (aj fB):=by exfalso
theorem c13:KT ["_law_feed_here","_law_many","_law_backward","_law_eights","_law_names_here","_law_wide","_law_rows","_law_desks","_law_x","_law_first","_law_count","_law_leaves","_law_k"] ["_law_feed_here"] (aj cB):=by exfalso
theorem c14:KT ["_law_feed_here","_law_house_here","_law_ways","_law_names_here","_law_at","_law_found","_law_name","_law_far"] ["_law_feed_here","_law_house_here"] (aj dS):=by exfalso
theorem c15:KT ["_law_feed_here","_law_ways","_law_far"] ["_law_feed_here","_law_ways"] (aj fE):=by exfalso
theorem c16:KT ["part"] ["part"] (aj eI):=by exfalso
theorem c17:KT ["rule","parts","due","part"] ["rule"] (aj iq):=by exfalso
theorem c18:KT ["rule","rows","pile","reads_left","part"] ["rule","rows"] (aj gt):=by exfalso
theorem c19:KT ["place","row"] ["place","row"] (aj wp):=by exfalso
theorem c20:KT ["rule"] ["rule"] (aj nw):=by exfalso
theorem c21:KT ["name","rule","offsets","back"] ["name","rule","offsets"] (aj fK):=by exfalso
theorem c22:KT ["house","offsets","ways","wheel","desks"] ["house","offsets"] (aj nv):=by exfalso
theorem c23:KT ["_law_found","_law_due"] ["_law_found","_law_due"] (aj fw):=by exfalso
theorem c24:KT ["_law_one","_law_other","_law_times"] ["_law_one","_law_other","_law_times"] (aj gp):=by exfalso
theorem c25:KT ["_law_rule","_law_offsets_here","_law_mine","_law_begun"] ["_law_rule","_law_offsets_here","_law_mine"] (aj il):=by exfalso
theorem c26:KT ["name","rule","steps","other","row","step"] ["name","rule"] (aj fH):=by exfalso
theorem c27:KT ["house","name"] ["house","name"] (aj jk):=by exfalso
theorem c28:KT ["house","cell","name","place"] ["house","cell"] (aj gr):=by exfalso
theorem c29:KT ["cell","offsets","name","place"] ["cell","offsets"] (aj fJ):=by exfalso
theorem c30:KT ["_law_house_here","_law_offsets_here","_law_places","_law_due","_law_name","_law_rule","_law_handed","_law_found","_law_back","_law_place_here","_law_cell"] ["_law_house_here","_law_offsets_here","_law_places"] (aj fG):=by exfalso
theorem c31:KT ["_law_script","_law_k","_law_feed_here","_law_many","_law_house_here","_law_offsets_here","_law_others","_law_places","_law_names_here","_law_rules","_law_twin","_law_some","_law_one"] ["_law_script"] (aj s_law):=by exfalso
local macro_rules|`(tactic| ac_nf)=>`(tactic| first|exact pc|exact CK.blk pc|exact CK.blk (CK.blk pc))
local macro_rules|`(tactic| infer_instance)=>`(tactic| first
 | ((with_reducible show QE _ _ _ _);first|exact ED|exact EU _|exact ER|exact F9|refine Gc (by ac_nf) ?_ ?_|refine ET _ ?_|refine EH _ ?_|refine Ew (by ac_nf) ?_ ?_|refine ES (by ac_nf) ?_ ?_|refine EJ (by ac_nf) ?_ ?_|refine EI (by ac_nf) ?_ ?_|refine B9 (by ac_nf) ?_ ?_|refine EO (by ac_nf) ?_ ?_|refine EB _ (by ac_nf) (by with_reducible assumption) ?_|refine Ey (by ac_nf) (by with_reducible first|exact b_len|exact b_max|exact b_min|exact b_all) ?_ ?_|refine Ge (by ac_nf) (by with_reducible first|exact b_tuple|exact b_int|exact b_list|exact xi|exact b_dict) ?_ ?_|refine EC (by ac_nf) (by with_reducible assumption) ?_|refine Gd (by ac_nf) ?_ ?_ ?_|refine EQ (by ac_nf) ?_|refine Cf (by ac_nf) ?_|refine Ce _ _ (by ac_nf) (by with_reducible first|exact nZ|exact n8|exact n9) ?_|refine EK _ _ (by ac_nf) (by with_reducible first|exact nZ|exact n8|exact n9) ?_ ?_|refine Cd _ (by ac_nf) DW ?_|refine Cc (by ac_nf) AY ?_ ?_|refine Ez (by ac_nf) ?_ ?_ ?_ (by unhygienic rfl)|refine EF (by ac_nf) (Bi.b_isinstance (by assumption)) (by with_reducible first|exact Bi.b_bool (by assumption)|exact Bi.b_list (by assumption)|exact Bi.b_str (by assumption)|exact Bi.b_tuple (by assumption)) (by with_reducible first|exact IJ|exact Is|exact IL|exact Im) (by decide) ?_|refine EG (by ac_nf) (Bi.b_isinstance (by assumption)) (by with_reducible first|exact Bi.b_bool (by assumption)|exact Bi.b_list (by assumption)|exact Bi.b_str (by assumption)|exact Bi.b_tuple (by assumption)) (by with_reducible first|exact IJ|exact Is|exact IL|exact Im) (by decide) (by with_reducible first|exact Bi.b_bool (by assumption)|exact Bi.b_list (by assumption)|exact Bi.b_str (by assumption)|exact Bi.b_tuple (by assumption)) (by with_reducible first|exact IJ|exact Is|exact IL|exact Im) (by decide) ?_|exact Ga|refine Ca (by ac_nf) ?_ ?_|refine Cb ?_|refine EA (by ac_nf) ?_ ?_|refine EM ?_|refine EL ?_|refine Ex ?_ ?_|refine EN ?_)
 | ((with_reducible show QA _ _ _ _);first|exact Cg|refine vz _ ?_|refine yv ?_ ?_)
 | ((with_reducible show QSs _ _ _ _);first|exact Co|exact jf|refine yE _ ?_|refine yB ?_ ?_|refine Cp ?_)
 | ((with_reducible show QS _ _ _ _);first|refine Cs _ ?_ ?_|refine yA _ ?_ ?_|refine Cr ?_|refine yC ?_|refine Cm ?_ ?_|refine Cq _ _ (by ac_nf) ?_ ?_|refine yD _ _ _ (by ac_nf) ?_ ?_|refine EV ?_ ?_ ?_|refine Cn (by ac_nf) (λ_=>P4) ?_ ?_ ?_|refine vD (λ_=>P4) ?_ ?_|refine qs_fgt _ ?_)
 | ((with_reducible show QT _ _ _ _);first|refine Ct (by ac_nf) ?_ ?_ ?_ (by unhygienic rfl)|refine Cu ?_|refine Cv (by ac_nf) ?_|refine Cw ?_|refine QW.t ?_)
 | ((with_reducible show QW _ _ _ _);first|refine Cy ?_ ?_|refine EW ?_ ?_|refine yI ?_|refine Cz ?_)
 | ((with_reducible show QG _ _ _ _ _);first|refine yx _ ?_|refine vB (by ac_nf) (ge ?_ (ge ?_ qU))|refine vB (by ac_nf) (ge ?_ (ge ?_ (ge ?_ qU)))|refine Ch _ ?_ ?_|refine yw _ ?_ ?_|refine vA _ ?_ ?_ ?_)
 | ((with_reducible show QI _ _ _ _ _);first|refine sK (by ac_nf) ?_ ?_|refine sM (by ac_nf) ?_ ?_|refine Ck (by ac_nf) ?_ ?_|refine Ci (by ac_nf) ?_ ?_|refine vC (by ac_nf) ?_|refine Cj (by ac_nf) ?_)
 | ((with_reducible show QO _ _ _ _);first|exact yy|refine yz ?_)
 | ((with_reducible show QTs _ _ _ _);first|exact yG|refine yH ?_)
 | ((with_reducible show fN _ _);first|exact FR|exact FS|exact FT|exact FU|exact FV|exact DA|exact FW|exact DB|exact DC)
 | ((with_reducible show∀_,List.Nodup _);intro _;first|assumption|exact g8 (by rfl'))
 | with_reducible first|assumption|exact Bi.b_all (by assumption)|exact Bi.b_bool (by assumption)|exact Bi.b_dict (by assumption)|exact Bi.b_int (by assumption)|exact Bi.b_isinstance (by assumption)|exact Bi.b_len (by assumption)|exact Bi.b_list (by assumption)|exact Bi.b_max (by assumption)|exact Bi.b_min (by assumption)|exact Bi.b_str (by assumption)|exact Bi.b_tuple (by assumption))
local macro_rules|`(tactic| lia)=>`(tactic| repeat' (first|infer_instance|fail))
section
variable {P:LM}{W:LU}{K:yF}{mg:Str->Option LB}{base:Heap}(A:Adr mg K)
include A
theorem v0:Has P W K mg base 1 "_law_feed" ["_law_script","_law_k"] (spP K kF):=by
 have:=c0.nd;have:=A.T;refine Def.qp A.d0.to c0 (m:=iM) ?_ (λ_=>rfl);unfold iM
 lia
theorem v1:Has P W K mg base 1 "_law_take" ["_law_feed_here","_law_many"] (spI K 0 ai):=by
 have:=c1.nd;have:=A.T;refine Def.qi A.d1.to c1 (m:=iO) ?_ (λ_=>rfl);unfold iO
 lia
theorem v2:Has P W K mg base 1 "_law_turned_row" ["_law_row_here","_law_way","_law_signs"] (spP K cx):=by
 have:=c2.nd;have:=A.T;refine Def.qp A.d2.to c2 (m:=ci) ?_ (λ_=>rfl);unfold ci
 lia
theorem v3:Has P W K mg base 2 "_law_row" ["_law_feed_here","_law_ways"] (spI K 0 jK):=by
 have:=@v1 P W K mg base A;have:=c3.nd;have:=A.T;refine Def.qi A.d3.to c3 (m:=jH) ?_ (λ_=>rfl);unfold jH
 lia
 ·refine bf (N':=["_law_feed_here","_law_ways","_law_k"]) (by ac_nf) (λ_=>Blk.of (by rfl')) ?_ ?_ ?_ ?_<;>lia
theorem v4:Has P W K mg base 3 "_law_opposed_reads" ["_law_feed_here","_law_ways","_law_many"] (spI K 0 cw):=by
 have:=@v1 P W K mg base A;have:=@v2 P W K mg base A;have:=@v3 P W K mg base A;have:=c4.nd;have:=A.T;refine Def.qi A.d4.to c4 (m:=bC) ?_ (λ_=>rfl);unfold bC
 lia
 ·refine bf (N':=["_law_feed_here","_law_ways","_law_many","_law_far","_law_some","_law_way","_law_signs","_law_looks","_law_x","_law_other","_law_row_here","_law_k"]) (by ac_nf) (λ_=>Blk.of (by rfl')) ?_ ?_ ?_ ?_<;>lia
 ·refine bu _ (N':=["_law_feed_here","_law_ways","_law_many","_law_far","_law_some","_law_way","_law_signs","_law_looks","_law_x","_law_other","_law_row_here"]) (by ac_nf) (λ_=>(by first|assumption|exact g8 (by rfl'))) (λ_=>Blk.of (by rfl')) ?_ ?_ ?_ ?_<;>lia
theorem v5:Has P W K mg base 3 "_law_free_reads" ["_law_feed_here","_law_ways","_law_many"] (spI K 0 dM):=by
 have:=@v1 P W K mg base A;have:=@v3 P W K mg base A;have:=c5.nd;have:=A.T;refine Def.qi A.d5.to c5 (m:=cc) ?_ (λ_=>rfl);unfold cc
 lia
 ·refine bu _ (N':=["_law_feed_here","_law_ways","_law_many","_law_looks","_law_x","_law_k"]) (by ac_nf) (λ_=>(by first|assumption|exact g8 (by rfl'))) (λ_=>Blk.of (by rfl')) ?_ ?_ ?_ ?_<;>lia
theorem v6:Has P W K mg base 2 "_law_back_row" ["_law_feed_here","_law_ways"] (spI K 0 dz):=by
 have:=@v1 P W K mg base A;have:=c6.nd;have:=A.T;refine Def.qi A.d6.to c6 (m:=dr) ?_ (λ_=>rfl);unfold dr
 lia
 ·refine bu _ (N':=["_law_feed_here","_law_ways","_law_at","_law_more","_law_k"]) (by ac_nf) (λ_=>(by first|assumption|exact g8 (by rfl'))) (λ_=>Blk.of (by rfl')) ?_ ?_ ?_ ?_<;>lia
theorem v7:Has P W K mg base 3 "_law_late_reads" ["_law_feed_here","_law_ways","_law_many"] (spI K 0 cv):=by
 have:=@v1 P W K mg base A;have:=@v6 P W K mg base A;have:=c7.nd;have:=A.T;refine Def.qi A.d7.to c7 (m:=ce) ?_ (λ_=>rfl);unfold ce
 lia
 ·refine bu _ (N':=["_law_feed_here","_law_ways","_law_many","_law_looks","_law_x","_law_k"]) (by ac_nf) (λ_=>(by first|assumption|exact g8 (by rfl'))) (λ_=>Blk.of (by rfl')) ?_ ?_ ?_ ?_<;>lia
theorem v8:Has P W K mg base 4 "_law_ring_reads" ["_law_feed_here","_law_ways","_law_many"] (spI K 0 dP):=by
 have:=@v7 P W K mg base A;have:=@v1 P W K mg base A;have:=c8.nd;have:=A.T;refine Def.qi A.d8.to c8 (m:=cg) ?_ (λ_=>rfl);unfold cg
 lia
 ·refine bf (N':=["_law_feed_here","_law_ways","_law_many","_law_looks","_law_long","_law_rest","_law_k","_law_row_here","_law_j"]) (by ac_nf) (λ_=>Blk.of (by rfl')) ?_ ?_ ?_ ?_<;>lia
 ·refine bf (N':=["_law_feed_here","_law_ways","_law_many","_law_looks","_law_long","_law_rest","_law_k","_law_row_here","_law_j"]) (by ac_nf) (λ_=>Blk.of (by rfl')) ?_ ?_ ?_ ?_<;>lia
 ·refine bf (N':=["_law_feed_here","_law_ways","_law_many","_law_looks","_law_long","_law_rest","_law_k","_law_row_here","_law_number"]) (by ac_nf) (λ_=>Blk.of (by rfl')) ?_ ?_ ?_ ?_<;>lia
 ·refine bf (N':=["_law_feed_here","_law_ways","_law_many","_law_looks","_law_long","_law_rest","_law_k","_law_row_here","_law_j"]) (by ac_nf) (λ_=>Blk.of (by rfl')) ?_ ?_ ?_ ?_<;>lia
theorem v9:Has P W K mg base 5 "_law_reads" ["_law_feed_here"] (spI K 0 ji):=by
 have:=@v1 P W K mg base A;have:=@v5 P W K mg base A;have:=@v7 P W K mg base A;have:=@v8 P W K mg base A;have:=@v4 P W K mg base A;have:=c9.nd;have:=A.T;refine Def.qi A.d9.to c9 (m:=gE) ?_ (λ_=>rfl);unfold gE
 lia
theorem v10:Has P W K mg base 2 "_law_names" ["_law_feed_here","_law_many"] (spI K 0 gK):=by
 have:=@v1 P W K mg base A;have:=c10.nd;have:=A.T;refine Def.qi A.d10.to c10 (m:=gC) ?_ (λ_=>rfl);unfold gC
 lia
 ·refine bf (N':=["_law_feed_here","_law_many","_law_letters","_law_stem","_law_first","_law_at","_law_found","_law_k","_law_name"]) (by ac_nf) (λ_=>Blk.of (by rfl')) ?_ ?_ ?_ ?_<;>lia
theorem v11:Has P W K mg base 2 "_law_grown" ["_law_feed_here","_law_leaves"] (spI K 0 gJ):=by
 have:=@v1 P W K mg base A;have:=c11.nd;have:=A.T;refine Def.qi A.d11.to c11 (m:=gA) ?_ (λ_=>rfl);unfold gA
 lia
theorem v12:Has P W K mg base 6 "_law_house" ["_law_feed_here"] (spI K 0 jg):=by
 have:=@v9 P W K mg base A;have:=@v1 P W K mg base A;have:=@v10 P W K mg base A;have:=@v11 P W K mg base A;have:=c12.nd;have:=A.T;refine Def.qi A.d12.to c12 (m:=gB) ?_ (λ_=>rfl);unfold gB
 lia
 ·refine bu _ (N':=["_law_feed_here","_law_ways","_law_looks","_law_wheel","_law_names_here","_law_desks","_law_x","_law_leaves","_law_k","_law_number","_law_other","_law_row_here"]) (by ac_nf) (λ_=>(by first|assumption|exact g8 (by rfl'))) (λ_=>Blk.of (by rfl')) ?_ ?_ ?_ ?_<;>lia
theorem v13:Has P W K mg base 3 "_law_many_house" ["_law_feed_here"] (spI K 0 dO):=by
 have:=@v1 P W K mg base A;have:=@v10 P W K mg base A;have:=@v11 P W K mg base A;have:=c13.nd;have:=A.T;refine Def.qi A.d13.to c13 (m:=cf) ?_ (λ_=>rfl);unfold cf
 lia
 ·refine bf (N':=["_law_feed_here","_law_many","_law_backward","_law_eights","_law_names_here","_law_wide","_law_rows","_law_desks","_law_x","_law_first","_law_count","_law_leaves","_law_k"]) (by ac_nf) (λ_=>Blk.of (by rfl')) ?_ ?_ ?_ ?_<;>lia
 ·refine bu _ (N':=["_law_feed_here","_law_many","_law_backward","_law_eights","_law_names_here","_law_wide","_law_rows","_law_desks","_law_x","_law_first","_law_count","_law_leaves","_law_k"]) (by ac_nf) (λ_=>(by first|assumption|exact g8 (by rfl'))) (λ_=>Blk.of (by rfl')) ?_ ?_ ?_ ?_<;>lia
 ·refine bu _ (N':=["_law_feed_here","_law_many","_law_backward","_law_eights","_law_names_here","_law_wide","_law_rows","_law_desks","_law_x","_law_first","_law_count","_law_leaves","_law_k","_law_row_here"]) (by ac_nf) (λ_=>(by first|assumption|exact g8 (by rfl'))) (λ_=>Blk.of (by rfl')) ?_ ?_ ?_ ?_<;>lia
theorem v14:Has P W K mg base 2 "_law_offsets" ["_law_feed_here","_law_house_here"] (spI K 0 eg):=by
 have:=@v1 P W K mg base A;have:=c14.nd;have:=A.T;refine Def.qi A.d14.to c14 (m:=dX) ?_ (λ_=>rfl);unfold dX
 lia
 ·refine bu _ (N':=["_law_feed_here","_law_house_here","_law_ways","_law_names_here","_law_at","_law_found","_law_name","_law_far","_law_rule"]) (by ac_nf) (λ_=>(by first|assumption|exact g8 (by rfl'))) (λ_=>Blk.of (by rfl')) ?_ ?_ ?_ ?_<;>lia
 ·refine bf (N':=["_law_feed_here","_law_house_here","_law_ways","_law_names_here","_law_at","_law_found","_law_name","_law_far","_law_k"]) (by ac_nf) (λ_=>Blk.of (by rfl')) ?_ ?_ ?_ ?_<;>lia
theorem v15:Has P W K mg base 2 "_law_place" ["_law_feed_here","_law_ways"] (spI K 0 jh):=by
 have:=@v1 P W K mg base A;have:=c15.nd;have:=A.T;refine Def.qi A.d15.to c15 (m:=gD) ?_ (λ_=>rfl);unfold gD
 lia
 ·refine bf (N':=["_law_feed_here","_law_ways","_law_far","_law_k"]) (by ac_nf) (λ_=>Blk.of (by rfl')) ?_ ?_ ?_ ?_<;>lia
theorem v16:Has P W K mg base 1 "inner_parts" ["part"] (spP K cY):=by
 have:=c16.nd;have:=A.T;refine Def.qp A.d16.to c16 (m:=bV) ?_ (λ_=>rfl);unfold bV
 lia
theorem v17:Has P W K mg base 2 "parts_of" ["rule"] (spP K dA):=by
 have:=@v16 P W K mg base A;have:=c17.nd;have:=A.T;refine Def.qp A.d17.to c17 (m:=dv) ?_ (λ_=>rfl);unfold dv
 lia
theorem v18:Has P W K mg base 3 "with_rows" ["rule","rows"] (spP K eG):=by
 have:=@v17 P W K mg base A;have:=c18.nd;have:=A.T;refine Def.qp A.d18.to c18 (m:=cP) ?_ (λ_=>rfl);unfold cP
 lia
theorem v19:Has P W K mg base 1 "led" ["place","row"] (spP K gL):=by
 have:=c19.nd;have:=A.T;refine Def.qp A.d19.to c19 (m:=jI) ?_ (λ_=>rfl);unfold jI
 lia
 ·refine bf (N':=["place","row","number","more"]) (by ac_nf) (λ_=>Blk.of (by rfl')) ?_ ?_ ?_ ?_<;>lia
theorem v20:Has P W K mg base 3 "reads" ["rule"] (spP K gO):=by
 have:=@v17 P W K mg base A;have:=c20.nd;have:=A.T;refine Def.qp A.d20.to c20 (m:=gG) ?_ (λ_=>rfl);unfold gG
 lia
 ·refine bf (N':=["rule","part"]) (by ac_nf) (λ_=>Blk.of (by rfl')) ?_ ?_ ?_ ?_<;>lia
theorem v21:Has P W K mg base 4 "moved_rule" ["name","rule","offsets"] (spP K dR):=by
 have:=@v18 P W K mg base A;have:=@v20 P W K mg base A;have:=@v19 P W K mg base A;have:=c21.nd;have:=A.T;refine Def.qp A.d21.to c21 (m:=cq) ?_ (λ_=>rfl);unfold cq
 lia
 ·refine bf (N':=["name","rule","offsets","back","number"]) (by ac_nf) (λ_=>Blk.of (by rfl')) ?_ ?_ ?_ ?_<;>lia
 ·refine bf (N':=["name","rule","offsets","back","other","row"]) (by ac_nf) (λ_=>Blk.of (by rfl')) ?_ ?_ ?_ ?_<;>lia
theorem v22:Has P W K mg base 5 "moved" ["house","offsets"] (spP K gM):=by
 have:=@v21 P W K mg base A;have:=c22.nd;have:=A.T;refine Def.qp A.d22.to c22 (m:=gF) ?_ (λ_=>rfl);unfold gF
 lia
 ·refine bf (N':=["house","offsets","ways","wheel","desks","name","rule"]) (by ac_nf) (λ_=>Blk.of (by rfl')) ?_ ?_ ?_ ?_<;>lia
theorem v23:∀n,Has P W K mg base (1+n) "_law_alike" ["_law_found","_law_due"] (spP K (dE n))
 | 0=>Def.qp A.d23.to c23 (m:=i8) jf (λ_=>rfl)
 | n+1=>by
  have h_l_alike:=v23 n;have:=c23.nd;have:=A.T;refine Def.qp (k:=1+n) A.d23.to c23 (m:=gz (dE n)) ?_ (λ_=>rfl);unfold gz
  lia
  ·refine bf (N':=["_law_found","_law_due","_law_one","_law_other"]) (by ac_nf) (λ_=>Blk.of (by rfl')) ?_ ?_ ?_ ?_<;>lia
theorem v24:Has P W K mg base 1 "_law_plus" ["_law_one","_law_other","_law_times"] (spP K gf):=by
 have:=c24.nd;have:=A.T;refine Def.qp A.d24.to c24 (m:=iN) ?_ (λ_=>rfl);unfold iN
 lia
 ·refine bf (N':=["_law_one","_law_other","_law_times","_law_number","_law_more"]) (by ac_nf) (λ_=>Blk.of (by rfl')) ?_ ?_ ?_ ?_<;>lia
theorem v25:∀n,Has P W K mg base (2+n) "_law_led" ["_law_rule","_law_offsets_here","_law_mine"] (spP K (dN n))
 | 0=>Def.qp A.d25.to c25 (m:=i8) jf (λ_=>rfl)
 | n+1=>by
  have h_l_led:=v25 n;have:=@v24 P W K mg base A;have:=c25.nd;have:=A.T;refine Def.qp (k:=2+n) A.d25.to c25 (m:=fo (dN n)) ?_ (λ_=>rfl);unfold fo
  lia
  ·refine bf (N':=["_law_rule","_law_offsets_here","_law_mine","_law_begun","_law_part"]) (by ac_nf) (λ_=>Blk.of (by rfl')) ?_ ?_ ?_ ?_<;>lia
theorem v26:Has P W K mg base 4 "desk_steps" ["name","rule"] (spP K dQ):=by
 have:=@v20 P W K mg base A;have:=c26.nd;have:=A.T;refine Def.qp A.d26.to c26 (m:=cj) ?_ (λ_=>rfl);unfold cj
 lia
theorem v27:Has P W K mg base 1 "rule_of" ["house","name"] (spP K gi):=by
 have:=c27.nd;have:=A.T;refine Def.qp A.d27.to c27 (m:=dY) ?_ (λ_=>rfl);unfold dY
 lia
theorem v28:Has P W K mg base 5 "waits_for" ["house","cell"] (spP K cQ):=by
 have:=@v26 P W K mg base A;have:=@v27 P W K mg base A;have:=@v19 P W K mg base A;have:=c28.nd;have:=A.T;refine Def.qp A.d28.to c28 (m:=cO) ?_ (λ_=>rfl);unfold cO
 lia
 ·refine bf (N':=["house","cell","name","place","own","other","row"]) (by ac_nf) (λ_=>Blk.of (by rfl')) ?_ ?_ ?_ ?_<;>lia
theorem v29:Has P W K mg base 2 "moved_cell" ["cell","offsets"] (spP K cy):=by
 have:=@v19 P W K mg base A;have:=c29.nd;have:=A.T;refine Def.qp A.d29.to c29 (m:=cm) ?_ (λ_=>rfl);unfold cm
 lia
theorem v30:Has P W K mg base 27 "_law_right" ["_law_house_here","_law_offsets_here","_law_places"] (spP K fv):=by
 have:=@v25 P W K mg base A 24;have:=@v22 P W K mg base A;have:=@v23 P W K mg base A 24;have:=@v24 P W K mg base A;have:=@v29 P W K mg base A;have:=@v28 P W K mg base A;have:=c30.nd;have:=A.T;refine Def.qp A.d30.to c30 (m:=du) ?_ (λ_=>rfl);unfold du
 lia
 ·refine bf (N':=["_law_house_here","_law_offsets_here","_law_places","_law_due","_law_name","_law_rule","_law_handed","_law_found","_law_back","_law_place_here","_law_cell","_law_row_here"]) (by ac_nf) (λ_=>Blk.of (by rfl')) ?_ ?_ ?_ ?_<;>lia;refine bf (N':=["_law_house_here","_law_offsets_here","_law_places","_law_due","_law_name","_law_rule","_law_handed","_law_found","_law_back","_law_place_here","_law_cell","_law_row_here","_law_one"]) (by ac_nf) (λ_=>Blk.of (by rfl')) ?_ ?_ ?_ ?_<;>lia
 ·refine bf (N':=["_law_house_here","_law_offsets_here","_law_places","_law_due","_law_name","_law_rule","_law_handed","_law_found","_law_back","_law_place_here","_law_cell","_law_one"]) (by ac_nf) (λ_=>Blk.of (by rfl')) ?_ ?_ ?_ ?_<;>lia
theorem v31:Has P W K mg base 28 "law" ["_law_script"] (spP K r_l_law_v6):=by
 have:=@v0 P W K mg base A;have:=@v1 P W K mg base A;have:=@v12 P W K mg base A;have:=@v13 P W K mg base A;have:=@v14 P W K mg base A;have:=@v15 P W K mg base A;have:=@v30 P W K mg base A;have:=c31.nd;have:=A.T;refine Def.qp A.d31.to c31 (m:=fm) ?_ (λ_=>rfl);unfold fm
 lia
 ·refine bu _ (N':=["_law_script","_law_k","_law_feed_here","_law_many","_law_house_here","_law_offsets_here","_law_others","_law_places","_law_names_here","_law_rules","_law_twin","_law_some","_law_one","_law_j"]) (by ac_nf) (λ_=>(by first|assumption|exact g8 (by rfl'))) (λ_=>Blk.of (by rfl')) ?_ ?_ ?_ ?_<;>lia
 ·refine bf (N':=["_law_script","_law_k","_law_feed_here","_law_many","_law_house_here","_law_offsets_here","_law_others","_law_places","_law_names_here","_law_rules","_law_twin","_law_some","_law_one","_law_desk"]) (by ac_nf) (λ_=>Blk.of (by rfl')) ?_ ?_ ?_ ?_<;>lia
 ·refine bf (N':=["_law_script","_law_k","_law_feed_here","_law_many","_law_house_here","_law_offsets_here","_law_others","_law_places","_law_names_here","_law_rules","_law_twin","_law_some","_law_one","_law_desk"]) (by ac_nf) (λ_=>Blk.of (by rfl')) ?_ ?_ ?_ ?_<;>lia
 ·refine bf (N':=["_law_script","_law_k","_law_feed_here","_law_many","_law_house_here","_law_offsets_here","_law_others","_law_places","_law_names_here","_law_rules","_law_twin","_law_some","_law_one","_law_name","_law_rule"]) (by ac_nf) (λ_=>Blk.of (by rfl')) ?_ ?_ ?_ ?_<;>lia
end
end K46
open PySem PySem.W PyProof.Rows
set_option maxRecDepth 100000 in
set_option maxHeartbeats 0 in
theorem PySem.Challenge.cw_clockhouse_k46_houses_moved_holds : PySem.Challenge.rw_clockhouse_k46_houses_moved.Holds := by
 refine holds_law K46.ws λsaid=>?_;refine holds_open (q:=K46.KQ) (loose:=K46.KL) (XP:=XL K46.KQ []) (YP:=K46.KH.says) K46.left K46.KH.of K46.KH.keeps (λs e=>xl_of s (JN.mp e).1) XL.keeps (by rfl) (by rfl) (by rfl) (λs e=>recFacts_of (JN.mp e).2) (by rfl) said (by rfl') ⟨rfl,rfl,rfl,rfl,rfl,by decide +kernel⟩ ?hw ?hc
 case hw=>w_witness2
 exact L2.walkP (l:=PySem.Challenge.rw_clockhouse_k46_houses_moved) (k:=28) (x:="_law_script") (st:=K46.s_law) (run:=L2.r_l_law_v6) (A:=K46.Adr) (K:=K46.KF) rfl rfl ⟨rfl,rfl,by decide,by decide⟩ (λw h Y=>Y) K46.adr0 K46.adr_less (λmg K A=>A.d31.to) (λ_ _ _ _ _ _ s v=>.of_eq rfl) (λw mg K base A=>K46.v31 A) (λns hn=>by obtain⟨t,h1,h2⟩:=L2.k46_law (ns:=ns) hn;rw[h1,h2])
