import PyProof.Rows.All
import Wide.All
import OpenK.AllK
import Wide.FinOn
import Lean
import PyProof.EqAt
import PyProof.EqKinds
import PyProof.TupleCall
import PyProof.CompFree
import PyProof.ConsumeWalk
import PyProof.StrWalks
import PyProof.SliceStr2
import PyProof.Rows.StrJoin2
import PyProof.StrOps2
import PyProof.ListMulRoad
import PyProof.TupleOps
import PyProof.NeKinds
import KE.KRevIter
import PyProof.Rows.SortWalk
import PyProof.Draws
import PyProof.EnumMake
import PyProof.AutoListH
import PyProof.ExcClass3
import PyProof.ExcBaseAll.ValueError
import KE.KIsAll
import PyProof.ExcAttrAll.ValueError
import PyProof.ZipIter
import KE.KDictList
import PyProof.SumWalkG
import PyProof.ReprRoads
import PyProof.P3Eq
import PyProof.NeData
import PyProof.P3In
import KE.KDictOf
import PyProof.AttrMissHeap
import KE.KEqDict
import PyProof.DictItems
import KE.KPairComp
import PyProof.DictCompW
import PyProof.ListRange
import PyProof.TupleOfSeq
import PyProof.ListNew
import PyProof.Rows.Tup
import KE.KSortTup
import PySem.Challenge.RW_clockhouse_k01_errors_bear_what_they_wer
set_option Elab.async false
set_option linter.all false
set_option maxRecDepth 100000
set_option maxHeartbeats 4000000
set_option genSizeOf false
set_option compiler.extract_closed false
set_option hygiene false
local macro_rules|`(abbrev $i:declId $s:optDeclSig $v:declVal)=>`(noncomputable def $i:declId $s:optDeclSig $v:declVal)
local macro_rules|`(private def $i:declId $s:optDeclSig $v:declVal)=>`(@[irreducible] noncomputable def $i:declId $s:optDeclSig $v:declVal)
local macro_rules|`(protected def $i:declId $s:optDeclSig $v:declVal)=>`(@[reducible] def $i:declId $s:optDeclSig $v:declVal)
local macro_rules|`(def $i:declId $b:bracketedBinder* : $t $v:declVal)=>`(theorem $i:declId $b:bracketedBinder* : $t $v:declVal)
local macro_rules|`(↥$x)=>`(some ⟨.ow,.im $x⟩)
local macro_rules|`(⇑$x)=>`(some ⟨.ow,$x⟩)
local macro_rules|`(⋯)=>`(by omega)
local macro_rules|`(∅)=>`(by simp)
local macro_rules|`(tactic| dsimp[$l,*]$[at $h]?)=>`(tactic| simp only[$l,*]$[at $h]?)
local macro_rules|`(tactic| exists $e)=>`(tactic| simpa using $e)
local macro_rules|`(tactic| delta $i*)=>`(tactic| rename_i $[$i:ident]*)
local macro_rules|`(tactic| apply $e)=>`(tactic| refine $e)
open PySem renaming Value->EK,wpAny_bind->EL,Shared->EM,wpAny_pure->EO,model->ET,Program->EU,sizeLine_eq->EV,PyData->EW,wpAny->EY,NameKind->EZ,mainGlobals->E3,World->E4,starEach->E5,Builtin->E6,Around->Fa,cellsFrom->Fb,compareOp->Fe,binaryOp->Fh,wpAny_newObj_type->Fk,FuncData->Fm,bootBuiltins->Fq,foldedSetIterable->Fu,assignEach->Fw,wpAny_holding->Fx,cLine->Fz,wpAny_mono->FE,attributeBase->FF,wpAny_Call_Name_kw->FG,behindInMarks->FJ,Scope->FL,backTo->FM,codeAny_call_builtin->FN,wpAny_binaryOp_repeat_ref->FP,wpAny_isSubtype_exc->FQ,wpAny_passesOwn->FR,wpAny_call->FS,call_meets->FT,sliceBounds->FX,wpAny_truthy_bool->FZ,holding->F3,wpAny_loadPart_at->F7,sysModules->F8,swapsWith->F9,typeIs_int->Ga,wpAny_standAt->Gd,codeAny->Ge,letOwnedTupleGo->Gf,codeAny_mono->Gk,DictEntry->Gp,PassesOwn->Gq,keywordEach->Gy,assign->GB,swapsWithSole->GC,swappedStores->GD,wpAny_comprehension_free->GE,wpAny_attempt->GG,noFill_tuple_add->GH,wpAny_callSpecial?_slot->GI,wpAny_call_entry->GJ,standAt->GP,BindsTo->GR,PlainAttrs->GV,callerA->GX,isInstance->GY,wpAny_execs_nil->GZ,pushCells_keeps->G4,wpAny_isTrue_Compare1->G7,int___rmul___int_list->G8,bindArgs->Hb,IsPart->Hc,wpAny_field->He,typeOf->Hf,newFunctionEnv->Hg,excClassObj->Hh,getMethod->Hl,assignInOrder->Hm,seq_tuple_add->Hn,builtinsNs->Hu,CmpOp->HB,wpAny_assign_Name->HC,concat_meets->HG,slot_list_getitem->HH,backToKw->HI,relabel->HK,notedBy->HL,wpAny_pyIter_enum->HR,Params->HU,wpAny_execs_cons->HV,checkBuiltinCall->HZ,wpAny_madeBy_exc->Ia,wpAny_lookBehind->Ib,pastItsLine_dict->Ic,callGetattribute->Ie,seqIndex_of->Ig,noFill_list_mul->Ij,post_val_or_str->Il,getAttrByItsOwn->Im,Keyword->Iq,getItem->Ir,GenState->Iv,wpAny_Name->Iw,bindName->Ix,wpAny_bindName->Iy,recursionLimit->Iz,bindL->IA,bindC->IB,typeIs_str->IE,sliceRange_one->IF,fitsIndex_both->IG,wpAny_loadPart->IJ,boundAndCalled->IL,Arguments->IU,specialOf->IX,handedOut->IY,isTrue->IZ,pyNext->I0,getAttr->I8,pick_run->Jj,compEnvC->Jk,callWith->Jp,ReadsAll->Jq,pyIter->Jt,Result->Ju,Model->JA
open PySem.Heap renaming get?_push_of_some->EN,lt_size->ES,get?_push_size->E9,get?_update_self->FK,get?_update_other->F4,size_push->F5,get?_update_ne->Gj,SameBut->HA,ExtBut->Jl
open PySem.Value renaming type->EQ,ref->Fj,int->Fp,builtin->FD,str->Hj,none->Hs,bool->Ht,isStrOf->IS,isInt->Je,bytes->Jf,float->Jg
open PySem.Str renaming ofString->ER,length->Jw
open Or renaming inr->EX,inl->E8
open PySem.NameKind renaming cell->E7,free->Fy
open PySem.Builtin.Str renaming strSliceIndices->Fc,occurrences->FW,tooLong->Js
open PySem.SeqAt renaming EqAt->Fd,RcNeAt->HM,in_tupleAt->HW,in_listAt->Ii,RcAt->IH,eqv_refl->IN
open Ne renaming symm->Ff
open PySem.PyData renaming depthAll->Fg,canLay0->Fo,strOk->FC,leavesShort->FV,depth->Go,canLayAll0->GA,weightAll->GM,showable->G6,leavesShortAll->Ha,leavesShortKv->Hi,eqv->Hy,showableAll->Hz,showableKv->HS,weightKv->Ip,keyHash->Iu,depthKv->IP,weight->IT
open PySem.Builtin.Tuple renaming tupleExact->Fi,tupleTooMany->Gw,tupleItemsOf->ID
open PySem.Builtin.List renaming listTooLong->Fs
open PySem.W renaming findIn->Ft,specialIn->Gc,looks_findIn->Gn,emptyDict->Hk,handedIn->IK,OpenLaw->Ja,WShape->Jb,findCls->Jc,keepIn->Jd,clsIn->Jm,subIn->Jo,WData->JB,mroIn->JC
open False renaming elim->Fv
open PySem.Builtin.Slice renaming slicePlaces->FA,sliceAdjust->FO,sliceApplied->Gv,slicePartIndex->Ih,sliceFields->IQ
open PySem.F renaming slot_int_rmul->FI,slot_tuple_mul->Gb,args_int_rmul_2->Gz,slot_int_index->GK,entry_int_rmul->GL,fills_int_mul->G3,slot_enumerate_next->G9,args_tuple_mul_2->Hv,args_list_mul_2->HJ,slot_tuple_rmul->HN,entry_tuple_mul->HP,entry_list_mul->HX,slot_list_mul->Ik,entry_bexc_ga->Io,args_bexc_ga->IM
open True renaming intro->FU
open PySem.AutoListH renaming list___mul___list_int_3->FY
open PySem.Txt renaming join->F6,slice->IW
open PyProof.Rows renaming envOfC->Gg,assignInOrder_cons->Gs,AllBare->Gx,subscriptTail_builtinR->GS,boot_isinstance->G5,assignInOrder_nil->HD,IntsAre->Is,slicePart_none->IC,IsTup->Jh
open ForInStep renaming yield->Gh
open PySem.PassesOwn renaming never->Gi
open PySem.Calls renaming Name_function_global->Gr
open PySem.AutoSeq1 renaming wpAny_loadPart'->GF,idx_int->HY
open Sum renaming inl->GN,inr->GO
open PySem.Around renaming under->GQ
open PySem.Obj renaming mapSeq->GU
open PySem.SeqAt.EqAt renaming int_str->Ho,str_int->Hr
open PySem.Code renaming quiet_builtin->Hw,isFrame->HF,isGuard->I9,frames->Ji
open PySem.callAny renaming viaDunder->HQ
open PySem.SeqAt.RcNeAt renaming lists_lengths->II,tuples->Jr,lists->Jz
open PySem.Builtin.SmallTypes renaming nextOf->IR
open PySem.Builtin.Range renaming rangeSize->IV
open PySem.Within renaming cons->Jn
open PySem.Heap.IsSliceOf renaming new->Jv
open PySem.W.WShape renaming has->Jy
open PySem.Flow renaming next->JD
open PySem.W.WData renaming int->JE
open PySem.Data renaming dict->JF
open PySem.Heap.DictOf renaming new->JG
open Bool renaming and_eq_true->A9,false_ne_true->Bl,not_eq_true'->BI,eq_iff_iff->BZ,and_eq_true_iff->B8,and_self->Cs,and_false->CW,false_eq_true->CY,or_true->Dc,or_eq_true->Dh,not_eq_true->DD,false_and->DT,false_or->DX,true_and->DY,and_true->DZ
open List renaming nodup_append->Ba,getElem?_eq_some_iff->Bb,replicate->Bc,size_toArray->Bd,mem_filter->Be,length_cons->Bf,flatMap_cons->Bh,map_cons->Bj,mem_map->Bm,getElem?_set_ne->Bn,flatMap_append->Bo,length_map->Br,lookup_cons->Bs,filterMap_cons->Bt,append_assoc->Bu,getElem?_map->Bv,length_append->Bw,cons_append->Bx,mem_map_of_mem->By,append_nil->BA,nodup_cons->BB,all_eq_true->BC,perm_middle->BD,mem_filterMap->BE,getD_eq_getElem?_getD->BF,replicate_succ->BH,filter_sublist->BK,range->BL,getElem?_cons_succ->BM,nodup_nil->BO,map_append->BQ,getElem?_set_self->BR,mem_of_getElem?->BU,mem_flatMap->BV,contains_eq_mem->BW,flatten_cons->BX,filter_eq_self->BY,mem_cons->B3,lookup->B5,length_eq_zero_iff->B9,getElem?_cons_zero->Ca,nil_append->Cb,length_take->Cd,filter_cons->Ce,filterMap_append->Ch,getElem?_append_left->Ci,map_map->Cj,length_drop->Co,contains_cons->Cp,filter_map->Cq,all_cons->Cr,ext_getElem?->Cu,mem_range->Cv,drop_eq_getElem_cons->Cz,getElem?_eq_getElem->CA,length_set->CB,filterMap_map->CC,append_of_mem->CD,length->CG,cons->CH,take_append_drop->CL,not_mem_nil->CN,eq_nil_of_length_eq_zero->CO,getLast?_append->CP,mem_append->CQ,length_nil->CS,getElem?_append_right->CV,filter_filter->CZ,perm_ext_iff_of_nodup->C0,eq_of_mem_replicate->C3,append_cancel_right->C5,getElem?_replicate->C6,flatMap_eq_nil_iff->C8,foldl->Da,take_of_length_le->Db,sublist_cons_self->Dd,of_mem_zip->Df,foldl_cons->Dg,mem_iff_getElem?->Di,set_append_left->Dl,any_cons->Dn,filter_append->Do,set_cons_succ->Dp,map_nil->Dx,mem_flatten->DE,drop_length->DG,flatMap_nil->DH,head?_drop->DO,range_succ->DS,take_zero->DV,drop_drop->DW,map_set->D6,all_nil->D7
open Nat renaming le_refl->Bg,lt_of_lt_of_le->Bp,le_trans->Bz,ne_of_lt->BG,zero_add->BJ,le_of_ble_eq_true->B2,lt_irrefl->B4,zero_le->B6,lt_of_le_of_lt->Cg,le_add_right->Cy,le_succ->C2,ne_of_gt->C9,mul_le_mul->Dk,mod_lt->Dq,le_of_lt->Dr,mul_comm->Dw,lt_succ_of_lt->Dy,min_le_right->Dz,lt_succ_self->DB,le_max_right->DC,succ_le_succ->DJ,le_max_left->DL,min_le_left->DQ,min_eq_left->DR,succ_mul->D4,min_self->D5,log2_lt->Ea
open Option renaming some->Bq,map_eq_some_iff->BS,map_some->B1,isSome_iff_exists->Ck,bind_some->C7,getD_none->DA
open PySem.W renaming fnOf->BN,nsIn->BP,kitOne->B7,keepIn->Cf,codeIn->Cw,findIn->CI,cellsFrom_some->CJ,callWith_K->CU,methodObj->C1,mg_of->C4,methodCall_KW->Dj,hasDictIn->Ds,specialIn->Dt,isFn->Du,instObj->DK,kia_one->DN,OpenLaw->DP,lookIn->DU,WalkO->D0,Frag->D2
open PySem renaming mem_of_lookup->Cc,wpAt_of_wpAny->Dm,seqSlot_of->DF,wpAt_bind->DM
open PyProof.Rows renaming slot_tuple_getitem->Cm,callWith_type1->Ct,callWith_builtin1->CM,boot_list->De,boot_tuple->D1,boot_repr->D9
open Array renaming length_toList->Cn,toList->D3
open Int renaming emod_lt_of_pos->CF,emod_nonneg->CT,toNat_natCast->Dv,zero_add->D8
local macro_rules|`(tactic| unhygienic $t)=>`(tactic| with_unfolding_all $t)
local macro_rules|`(tactic| rfl')=>`(tactic| kernel_rfl)
def K01.ws:PySem.Challenge.rw_clockhouse_k01_errors_bear_what_they_wer.wellSaid=true:=by rfl'
namespace K01
open PySem
abbrev wF(s:Stmt):IU×List Stmt×FL:=match s with
 | .FunctionDef _ x b _ _ _ c _ _ _=>(x,b,c)
 | _=>({posonlyargs:=[],args:=[],vararg:=none,kwonlyargs:=[],kw_defaults:=[],kwarg:=none,defaults:=[]},[],{kind:=.function,names:=[],isGenerator:=false,isCoroutine:=false})
abbrev vs(x:String) (t:Tok):EK:=.str (ER x) t
abbrev vi(n:Int):EK:=.int n 0
abbrev vr(a:Addr):EK:=.ref a
abbrev eO(p:HU) (x:String) (t:Tok) (v:EK):Gp:=⟨Iu p (ER x),vs x t,v⟩
abbrev oC(vs:List EK):Obj:={cls:=.type "code",data:=.fields vs.toArray}
abbrev oD(es:List Gp) (n:Nat):Obj:={cls:=.type "dict",data:=.dict es.toArray n}
abbrev oFq(x q:String) (st:Stmt) (pm:EK) (c:Addr):Obj:={cls:=.type "function",data:=.func (BN (ER x) (ER q) (wF st).1 (wF st).2.1 (wF st).2.2 .none .none .none pm none (.ref c) .none)}
abbrev oF(x:String) (st:Stmt) (pm:EK) (c:Addr):Obj:=oFq x x st pm c
abbrev ocq(x q:String) (t l n r:Nat) (v:Option (Nat×Nat)) (d e:Nat):Obj:=oC [vs x t,vs q (t+1),vs "/claim/cut.py" (t+2),vi l,vi n,vi 0,vi 0,vi 3,vr r,.bool true,vi 181,vr (r+1),.none,(match v with|some p=>vr p.1|none=>.none),(match v with|some p=>vr p.2|none=>.none),vr d,vi e,vi l,vs "/claim/cut.py" (e+1)]
abbrev oc(x:String) (t l n r:Nat) (v:Option (Nat×Nat)) (d e:Nat):Obj:=ocq x x t l n r v d e
abbrev oK(x:String) (C N:Addr) (b:EK) (m:List EK) (sb:List EK) (s t u:Nat):Obj:={cls:=.type "type",data:=.cls {name:=ER x,bases:=[b],mro:=vr C::m,ns:=N,qualname:=ER x,subclasses:=sb},slots:=#[some (vr s),none,some (vs x t),some (vs x u),some (.builtin "ValueError.__new__"),some (.bool true)]}
abbrev dm(s:Stmt):Stmt:=match s with
 | .ClassDef _ _ _ b _ _ _ _ _ _ _=>b.headD s
 | _=>s
abbrev top(i:Nat):Stmt:=PySem.Challenge.pw_clockhouse_k01_errors_bear_what_they_wer.main.body.getD i (.Pass ⟨0,0,0,0⟩)
noncomputable abbrev lY:Stmt:=top 1
noncomputable abbrev dL:Stmt:=top 15
noncomputable abbrev dM:Stmt:=top 16
noncomputable abbrev dh:Stmt:=top 17
noncomputable abbrev dk:Stmt:=top 18
noncomputable abbrev bq:Stmt:=top 19
noncomputable abbrev br:Stmt:=top 20
noncomputable abbrev s_law:Stmt:=top 21
noncomputable abbrev cL:Stmt:=dm (top 2)
noncomputable abbrev eI:Stmt:=dm (top 3)
noncomputable abbrev fV:Stmt:=dm (top 4)
noncomputable abbrev iz:Stmt:=dm (top 5)
noncomputable abbrev eJ:Stmt:=dm (top 6)
noncomputable abbrev j9:Stmt:=dm (top 7)
noncomputable abbrev iy:Stmt:=dm (top 8)
noncomputable abbrev iB:Stmt:=dm (top 9)
noncomputable abbrev fW:Stmt:=dm (top 10)
noncomputable abbrev fS:Stmt:=dm (top 11)
noncomputable abbrev iA:Stmt:=dm (top 12)
noncomputable abbrev fU:Stmt:=dm (top 13)
noncomputable abbrev pm0:EK:=(vs "law_clockhouse_k01_errors_bear_what_they_wer" 490)
noncomputable abbrev pm1:EK:=(vs "clockhouse.errors" 187)
abbrev KF(P:HU):D2:=[(3,oD [(eO P "__name__" 165 (vs "law_clockhouse_k01_errors_bear_what_they_wer" 490)),(eO P "__doc__" 166 .none),(eO P "__package__" 167 .none),(eO P "__loader__" 168 (FD "__main__.__loader__#opaque")),(eO P "__spec__" 169 .none),(eO P "__annotations__" 170 (vr 6)),(eO P "__builtins__" 171 (vr 4)),(eO P "__file__" 173 (vs "/claim/cut.py" 172)),(eO P "__cached__" 174 .none),(eO P "kept" 195 (vr 21)),(eO P "HouseError" 220 (vr 38)),(eO P "NoHouse" 247 (vr 58)),(eO P "NoText" 272 (vr 77)),(eO P "Loose" 295 (vr 96)),(eO P "TooLong" 320 (vr 115)),(eO P "Ring" 345 (vr 134)),(eO P "Early" 370 (vr 153)),(eO P "NoWay" 393 (vr 172)),(eO P "NoTurn" 416 (vr 191)),(eO P "NoCell" 441 (vr 210)),(eO P "NoRow" 464 (vr 229)),(eO P "NoName" 489 (vr 248)),(eO P "_law_feed" 501 (vr 257)),(eO P "_law_take" 511 (vr 264)),(eO P "_law_names" 517 (vr 269)),(eO P "_law_sorts" 525 (vr 276)),(eO P "_law_fields_right" 536 (vr 283)),(eO P "_law_things_right" 542 (vr 288)),(eO P "law" 548 (vr 293))] 29),
 (257,oF "_law_feed" dL pm0 256),
 (256,oc "_law_feed" 492 61 2 251 (some (253,254)) 255 499),
 (264,oF "_law_take" dM pm0 263),
 (263,oc "_law_take" 502 71 2 258 (some (260,261)) 262 509),
 (283,oF "_law_fields_right" bq pm0 282),
 (282,oc "_law_fields_right" 526 96 5 277 (some (279,280)) 281 534),
 (269,oF "_law_names" dh pm0 268),
 (268,oc "_law_names" 512 79 2 265 none 267 515),
 (276,oF "_law_sorts" dk pm0 275),
 (275,oc "_law_sorts" 518 92 1 270 (some (272,273)) 274 523),
 (21,oF "kept" lY pm1 20),
 (20,oc "kept" 189 2 1 15 (some (17,18)) 19 193),
 (288,oF "_law_things_right" br pm0 287),
 (287,oc "_law_things_right" 537 102 1 284 none 286 540),
 (293,oF "law" s_law pm0 292),
 (292,oc "law" 543 110 1 289 none 291 546),
 (2,{cls:=.none,data:=.dict #[]}),
 (38,oK "HouseError" 38 37 (EQ "ValueError") [EQ "ValueError",EQ "Exception",EQ "BaseException",EQ "object"] [(vr 58),(vr 77),(vr 96),(vr 115),(vr 134),(vr 153),(vr 172),(vr 191),(vr 210),(vr 229),(vr 248)] 22 196 204),
 (37,oD [(eO P "__module__" 203 (vs "clockhouse.errors" 187)),(eO P "__firstlineno__" 207 (Fp 4 206)),(eO P "__init__" 214 (vr 35)),(eO P "__static_attributes__" 215 (vr 36)),(eO P "__weakref__" 217 (vr 39)),(eO P "__doc__" 218 .none)] 3),
 (35,oFq "__init__" "HouseError.__init__" cL pm1 34),
 (34,ocq "__init__" "HouseError.__init__" 208 6 1 29 (some (31,32)) 33 212),
 (58,oK "NoHouse" 58 57 (vr 38) [(vr 38),EQ "ValueError",EQ "Exception",EQ "BaseException",EQ "object"] [] 42 221 229),
 (57,oD [(eO P "__module__" 228 (vs "clockhouse.errors" 187)),(eO P "__firstlineno__" 232 (Fp 8 231)),(eO P "__init__" 241 (vr 55)),(eO P "__static_attributes__" 244 (vr 56)),(eO P "__doc__" 245 .none)] 2),
 (55,oFq "__init__" "NoHouse.__init__" eI pm1 54),
 (54,ocq "__init__" "NoHouse.__init__" 233 10 3 49 (some (51,52)) 53 239),
 (77,oK "NoText" 77 76 (vr 38) [(vr 38),EQ "ValueError",EQ "Exception",EQ "BaseException",EQ "object"] [] 61 248 256),
 (76,oD [(eO P "__module__" 255 (vs "clockhouse.errors" 187)),(eO P "__firstlineno__" 259 (Fp 14 258)),(eO P "__init__" 267 (vr 74)),(eO P "__static_attributes__" 269 (vr 75)),(eO P "__doc__" 270 .none)] 2),
 (74,oFq "__init__" "NoText.__init__" fV pm1 73),
 (73,ocq "__init__" "NoText.__init__" 260 16 2 68 (some (70,71)) 72 265),
 (96,oK "Loose" 96 95 (vr 38) [(vr 38),EQ "ValueError",EQ "Exception",EQ "BaseException",EQ "object"] [] 80 273 281),
 (95,oD [(eO P "__module__" 280 (vs "clockhouse.errors" 187)),(eO P "__firstlineno__" 284 (Fp 19 283)),(eO P "__init__" 291 (vr 93)),(eO P "__static_attributes__" 292 (vr 94)),(eO P "__doc__" 293 .none)] 2),
 (93,oFq "__init__" "Loose.__init__" iz pm1 92),
 (92,ocq "__init__" "Loose.__init__" 285 21 1 87 (some (89,90)) 91 289),
 (115,oK "TooLong" 115 114 (vr 38) [(vr 38),EQ "ValueError",EQ "Exception",EQ "BaseException",EQ "object"] [] 99 296 304),
 (114,oD [(eO P "__module__" 303 (vs "clockhouse.errors" 187)),(eO P "__firstlineno__" 307 (Fp 23 306)),(eO P "__init__" 315 (vr 112)),(eO P "__static_attributes__" 317 (vr 113)),(eO P "__doc__" 318 .none)] 2),
 (112,oFq "__init__" "TooLong.__init__" eJ pm1 111),
 (111,ocq "__init__" "TooLong.__init__" 308 25 2 106 (some (108,109)) 110 313),
 (134,oK "Ring" 134 133 (vr 38) [(vr 38),EQ "ValueError",EQ "Exception",EQ "BaseException",EQ "object"] [] 118 321 329),
 (133,oD [(eO P "__module__" 328 (vs "clockhouse.errors" 187)),(eO P "__firstlineno__" 332 (Fp 28 331)),(eO P "__init__" 340 (vr 131)),(eO P "__static_attributes__" 342 (vr 132)),(eO P "__doc__" 343 .none)] 2),
 (131,oFq "__init__" "Ring.__init__" j9 pm1 130),
 (130,ocq "__init__" "Ring.__init__" 333 30 2 125 (some (127,128)) 129 338),
 (153,oK "Early" 153 152 (vr 38) [(vr 38),EQ "ValueError",EQ "Exception",EQ "BaseException",EQ "object"] [] 137 346 354),
 (152,oD [(eO P "__module__" 353 (vs "clockhouse.errors" 187)),(eO P "__firstlineno__" 357 (Fp 33 356)),(eO P "__init__" 365 (vr 150)),(eO P "__static_attributes__" 367 (vr 151)),(eO P "__doc__" 368 .none)] 2),
 (150,oFq "__init__" "Early.__init__" iy pm1 149),
 (149,ocq "__init__" "Early.__init__" 358 35 2 144 (some (146,147)) 148 363),
 (172,oK "NoWay" 172 171 (vr 38) [(vr 38),EQ "ValueError",EQ "Exception",EQ "BaseException",EQ "object"] [] 156 371 379),
 (171,oD [(eO P "__module__" 378 (vs "clockhouse.errors" 187)),(eO P "__firstlineno__" 382 (Fp 38 381)),(eO P "__init__" 389 (vr 169)),(eO P "__static_attributes__" 390 (vr 170)),(eO P "__doc__" 391 .none)] 2),
 (169,oFq "__init__" "NoWay.__init__" iB pm1 168),
 (168,ocq "__init__" "NoWay.__init__" 383 40 1 163 (some (165,166)) 167 387),
 (191,oK "NoTurn" 191 190 (vr 38) [(vr 38),EQ "ValueError",EQ "Exception",EQ "BaseException",EQ "object"] [] 175 394 402),
 (190,oD [(eO P "__module__" 401 (vs "clockhouse.errors" 187)),(eO P "__firstlineno__" 405 (Fp 42 404)),(eO P "__init__" 412 (vr 188)),(eO P "__static_attributes__" 413 (vr 189)),(eO P "__doc__" 414 .none)] 2),
 (188,oFq "__init__" "NoTurn.__init__" fW pm1 187),
 (187,ocq "__init__" "NoTurn.__init__" 406 44 1 182 (some (184,185)) 186 410),
 (210,oK "NoCell" 210 209 (vr 38) [(vr 38),EQ "ValueError",EQ "Exception",EQ "BaseException",EQ "object"] [] 194 417 425),
 (209,oD [(eO P "__module__" 424 (vs "clockhouse.errors" 187)),(eO P "__firstlineno__" 428 (Fp 46 427)),(eO P "__init__" 436 (vr 207)),(eO P "__static_attributes__" 438 (vr 208)),(eO P "__doc__" 439 .none)] 2),
 (207,oFq "__init__" "NoCell.__init__" fS pm1 206),
 (206,ocq "__init__" "NoCell.__init__" 429 48 2 201 (some (203,204)) 205 434),
 (229,oK "NoRow" 229 228 (vr 38) [(vr 38),EQ "ValueError",EQ "Exception",EQ "BaseException",EQ "object"] [] 213 442 450),
 (228,oD [(eO P "__module__" 449 (vs "clockhouse.errors" 187)),(eO P "__firstlineno__" 453 (Fp 51 452)),(eO P "__init__" 460 (vr 226)),(eO P "__static_attributes__" 461 (vr 227)),(eO P "__doc__" 462 .none)] 2),
 (226,oFq "__init__" "NoRow.__init__" iA pm1 225),
 (225,ocq "__init__" "NoRow.__init__" 454 53 1 220 (some (222,223)) 224 458),
 (248,oK "NoName" 248 247 (vr 38) [(vr 38),EQ "ValueError",EQ "Exception",EQ "BaseException",EQ "object"] [] 232 465 473),
 (247,oD [(eO P "__module__" 472 (vs "clockhouse.errors" 187)),(eO P "__firstlineno__" 476 (Fp 55 475)),(eO P "__init__" 484 (vr 245)),(eO P "__static_attributes__" 486 (vr 246)),(eO P "__doc__" 487 .none)] 2),
 (245,oFq "__init__" "NoName.__init__" fU pm1 244),
 (244,ocq "__init__" "NoName.__init__" 477 57 2 239 (some (241,242)) 243 482)]
abbrev KL:List Str:=["kept","HouseError","NoHouse","NoText","Loose","TooLong","Ring","Early","NoWay","NoTurn","NoCell","NoRow","NoName","_law_feed","_law_take","_law_names","_law_sorts","_law_fields_right","_law_things_right"].map ER
abbrev KH:PySem.W.Hook:=PySem.W.kHook KF [3,257,256,264,263,283,282,269,268,276,275,21,20,288,287,293,292,2,38,37,35,34,58,57,55,54,77,76,74,73,96,95,93,92,115,114,112,111,134,133,131,130,153,152,150,149,172,171,169,168,191,190,188,187,210,209,207,206,229,228,226,225,248,247,245,244] (λ_=>rfl)
abbrev KQ:EU:=PySem.W.view PySem.Challenge.pw_clockhouse_k01_errors_bear_what_they_wer [21]
def left:PySem.W.LeftO PySem.Challenge.pw_clockhouse_k01_errors_bear_what_they_wer KQ KL (λs=>PySem.W.xlAt KQ [] s&&PySem.W.recOk [] s) KH.obs KH.val 4000:=λw=>by rfl'
end K01
def yaR{α:Type}{b : α}(x:List α){y:List α}(h:b∈y):b∈x++y:=List.mem_append_right x h
def yaL{α:Type}{b : α}{x:List α}(y:List α)(h:b∈x):b∈x++y:=List.mem_append_left y h
def ymS{α:Type}{b : α}{x:List α}:b∈b::x:=List.mem_cons_self
def ymC{α:Type}{b : α}(y : α){x:List α}(h:b∈x):b∈y::x:=List.mem_cons_of_mem y h
def yaM{α:Type}{b : α}{x y:List α}(h:b∈x++y):b∈x\/b∈y:=CQ.mp h
def ycM{α:Type}{b a : α}{x:List α}(h:b∈a::x):b=a\/b∈x:=B3.mp h
def ysM{α:Type}{b a : α}(h:b∈[a]):b=a:=List.mem_singleton.mp h
protected def yF:=D2
namespace L2
open PySem PySem.Spec PyProof.Rows
protected def Key:=Sum Int Str
abbrev iX:Key->EK->Bool
 | .inl k,v=>Je k v
 | .inr x,v=>IS x v
abbrev AU(w:E4):Key->Int
 | .inl k=>hashInt k
 | .inr x=>hashStr w x
def aR:∀{k:Key} {v:EK},iX k v=true->(∃i t,k=GN i/\v=Fp i t)\/(∃x t,k=GO x/\v=Hj x t)
 | .inl i,v,h=>by
  obtain⟨t,e⟩:=EK.isInt_shape (k:=i) (v:=v) h;exact .inl ⟨i,t,rfl,e⟩
 | .inr x,v,h=>by
  obtain⟨t,e⟩:=EK.isStrOf_shape (x:=x) (v:=v) h;exact .inr ⟨x,t,rfl,e⟩
def n8(i:Int)(t:Tok):iX (.inl i) (.int i t)=true:=by simp[iX,Je]
def n9(x:Str)(t:Tok):iX (.inr x) (.str x t)=true:=by simp[iX,IS]
def wy(a b:Int):decide ((GN a:Key)=GN b)=(a==b):=by
 by_cases e:a=b;subst e;simp
 ·have h:¬ (GN a:Key)=GN b:=λq=>e (GN.inj q);rw[decide_eq_false h];exact(beq_eq_false_iff_ne.mpr e).symm
def wB(a b:Str):decide ((GO a:Key)=GO b)=decide (a=b):=by
 by_cases e:a=b;subst e;simp
 ·have h:¬ (GO a:Key)=GO b:=λq=>e (GO.inj q);rw[decide_eq_false h,decide_eq_false e]
def wz(a:Int)(b:Str):decide ((GN a:Key)=GO b)=false:=decide_eq_false (λq=>nomatch q)
def wA(a:Str)(b:Int):decide ((GO a:Key)=GN b)=false:=decide_eq_false (λq=>nomatch q)
abbrev cB(prog:EU) (w:E4):PySem.KeyKind prog w Key where
 is:=iX
 hash:=AU w
 inj:=λv a b ha hb=>by
  rcases aR ha with⟨i,t,rfl,rfl⟩|⟨x,t,rfl,rfl⟩
  ·rcases aR hb with⟨j,u,rfl,e⟩|⟨y,u,rfl,e⟩;injection e with e1 _;rw[e1];exact nomatch e
  ·rcases aR hb with⟨j,u,rfl,e⟩|⟨y,u,rfl,e⟩;exact nomatch e;injection e with e1 _;rw[e1]
 byValue:=λk v h=>by
  rcases aR h with⟨i,t,rfl,rfl⟩|⟨x,t,rfl,rfl⟩<;>rfl
 pyHash:=λhv h=>by
  rcases aR hv with⟨i,t,rfl,rfl⟩|⟨x,t,rfl,rfl⟩;exact wpAny_pyHash_int h;exact wpAny_pyHash_str h
 eqBool:=λhu hv h=>by
  rcases aR hu with⟨i,t,rfl,rfl⟩|⟨x,t,rfl,rfl⟩
  ·rcases aR hv with⟨j,u,rfl,rfl⟩|⟨y,u,rfl,rfl⟩;rw[wy]at h;exact wpAny_eqBool_int h;rw[wz]at h;exact Ho i t y u _ _ _ _ h
  ·rcases aR hv with⟨j,u,rfl,rfl⟩|⟨y,u,rfl,rfl⟩;rw[wA]at h;exact Hr x t j u _ _ _ _ h;rw[wB]at h;exact wpAny_eqBool_str h
 «strs»:=λk x t v h=>by
  rcases aR h with⟨i,u,rfl,e⟩|⟨y,u,rfl,e⟩;exact nomatch e
  ·injection e with e1 _;subst e1;cases v<;>rfl
def kM(prog:EU)(w:E4)(i:Int)(t:Tok):(cB prog w).is (.inl i) (.int i t)=true:=n8 i t
def kN(prog:EU)(w:E4)(x:Str)(t:Tok):(cB prog w).is (.inr x) (.str x t)=true:=n9 x t
inductive V where
 | non|bl (b:Bool)|int (i:Int)|str (x:Str)|byt (b:Array UInt8)|flt (b:UInt64)|ref (a:Addr)|ty (n:String)
 deriving DecidableEq
abbrev RelV:V->EK->Prop
 | .non,u=>u=Hs
 | .bl b,u=>u=Ht b
 | .int i,u=>∃t,u=Fp i t
 | .str x,u=>∃t,u=Hj x t
 | .byt b,u=>∃t,u=Jf b t
 | .flt b,u=>∃t,u=Jg b t
 | .ref a,u=>u=Fj a
 | .ty n,u=>u=EQ n
protected def Vals:List V->List EK->Prop:=Paired RelV
def Vals.length{xs:List V}{us:List EK}(r:Vals xs us):xs.length=us.length:=Paired.length r
def Vals.get:∀{xs:List V} {us:List EK} {i:Nat} {x:V},Vals xs us->xs[i]?=some x->∃u,us[i]?=some u/\RelV x u
 | _,_,_,_,.nil,e=>by simp at e
 | _,_,0,_,.cons r _,e=>by simp at e;subst e;exact⟨_,rfl,r⟩
 | _,_,i+1,x,.cons _ t,e=>by
  obtain⟨u,h1,h2⟩:=Vals.get (i:=i) (x:=x) t (by exists e);exact⟨u,by simpa using h1,h2⟩
def Vals.set{x:V}{u:EK}(r:RelV x u):∀{xs:List V} {us:List EK} (i:Nat),Vals xs us->Vals (xs.set i x) (us.set i u)
 | _,_,_,.nil=>.nil
 | _,_,0,.cons _ t=>.cons r t
 | _,_,i+1,.cons q t=>.cons q (Vals.set r i t)
def Vals.append:∀{xs ys:List V} {us ws:List EK},Vals xs us->Vals ys ws->Vals (xs++ys) (us++ws):=by
 intro xs ys us ws h k
 induction h with
 | nil=>exact k
 | cons r t ih=>exact .cons r ih
def Vals.take:∀{xs:List V} {us:List EK} (n:Nat),Vals xs us->Vals (xs.take n) (us.take n)
 | _,_,0,_=>.nil
 | _,_,_+1,.nil=>.nil
 | _,_,n+1,.cons r t=>.cons r (Vals.take n t)
def Vals.drop:∀{xs:List V} {us:List EK} (n:Nat),Vals xs us->Vals (xs.drop n) (us.drop n)
 | _,_,0,r=>r
 | _,_,_+1,.nil=>.nil
 | _,_,n+1,.cons _ t=>Vals.drop n t
abbrev RelO:Option V->Option EK->Prop
 | some v,some u=>RelV v u
 | none,none=>True
 | _,_=>False
abbrev KV{κ : Type}:List (κ×V)->List (κ×EK)->Prop:=Paired λ(p : κ×V) (q : κ×EK)=>p.1=q.1/\RelV p.2 q.2
abbrev kV:Key->V
 | .inl i=>.int i
 | .inr x=>.str x
inductive HO where
 | lst (xs:List V)
 | tup (xs:List V)
 | dK (kvs:List (Key×V))|dT (kvs:List (List Key×V))
 | set (S:Int->Bool) (n:Nat)
 | ins (C dx:Addr) (fs:List (Str×V))
 | own (x:Addr)
 | xd (fs:List (Str×V))
 | met (f x:Addr)
 | rng (lo hi:Int)
 | frz (o:Obj) (u:HO)
 | tbl (ps:Array EK)
 | ext (φ : Heap->Prop)
protected def Hp:=Addr->Option HO
abbrev upd(H:Hp) (a:Addr) (o:HO):Hp:=λb=>if b=a then some o else H b
def aq{H:Hp}{a:Addr}{o:HO}:upd H a o a=some o:=by unfold upd;rw[if_pos rfl]
def upd_ne{H:Hp}{a b:Addr}{o:HO}(h:b≠a):upd H a o b=H b:=by unfold upd;rw[if_neg h]
def uI{H:Hp}{a:Addr}{o u:HO}:upd (upd H a o) a u=upd H a u:=by
 funext b;unfold upd;split<;>rfl
def aN{H:Hp}{a b:Addr}{o:HO}(h:H a=some o)(h':H b=none):a≠b:=by
 intro e;subst e;rw[h]at h';cases h'
abbrev Es(h:Heap)(a:Addr)(items:Array EK):Prop:=∃o,h.get? a=some o/\(o.cls=.type "tuple" /\ o.dict=none)/\∃n,o.data=.seq items n
def Es.to{h:Heap}{a:Addr}{items:Array EK}(x:Es h a items):Jh h a items:=let ⟨o,e,c,d⟩:=x;⟨o,e,c.1,d⟩
def Es.new(h:Heap)(items:Array EK):Es (h.push {cls:=.type "tuple",data:=.seq items}) h.objs.size items:=⟨_,E9 _ rfl,⟨rfl,rfl⟩,_,rfl⟩
section
variable (P:EU)(w:E4)
abbrev Ec(H:Hp)(h:Heap)(a:Addr):HO->Prop
 | .lst xs=>xs.length<=sizeLine/\∃(its:List EK) (n:Nat),Vals xs its/\h.get? a=some {cls:=.type "list",data:=.seq its.toArray n}
 | .tup xs=>xs.length<=sizeLine/\∃its:List EK,Vals xs its/\Es h a its.toArray
 | .dK kvs=>kvs.length<=sizeLine/\(a==F8)=false/\∃vs,KV kvs vs/\h.DictOf (cB P w) a vs
 | .dT kvs=>kvs.length<=sizeLine/\(a==F8)=false/\∃xs:List (List Key×Addr×EK),
   Paired (λ(p:List Key×V) (q:List Key×Addr×EK)=>p.1=q.1/\H q.2.1=some (.tup (p.1.map kV))/\RelV p.2 q.2.2) kvs xs /\
   ∃o es ep,h.get? a=some o/\o.ExactDict/\o.data=.dict es ep/\es.toList=xs.map (entryOfKey (tupleKind (cB P w)))/\(xs.map (·.1)).Nodup
 | .set S n=>h.SetOf (intKind P w) a S n
 | .ins C dx fs=>H dx=some (.own a)/\fs.length<=1000/\dx≠a/\h.get? a=some (DK C dx) /\
   ∃mA,h.Ns1 dx mA/\(∀f,RelO (fs.lookup f) (mA f))/\PySem.Within mA (fs.map (·.1))
 | .own _=>∃o,h.get? a=some o
 | .xd fs=>∃mA,h.Ns1 a mA/\∀f,RelO (fs.lookup f) (mA f)
 | .rng lo hi=>∃t u v,h.get? a=some {cls:=.type "range",data:=.fields #[.int lo t,.int hi u,.int 1 v]}
 | .frz o u=>h.get? a=some o/\Ec H h a u
 | .tbl ps=>h.get? a=some {cls:=.none,data:=.fields ps}
 | .met f x=>h.get? a=some (C1 (.ref f) (.ref x))
 | .ext φ=>φ h/\(∃o,h.get? a=some o)/\∀h1 h2:Heap,φ h1->(∀o,h1.get? a=some o->h2.get? a=some o)->φ h2
abbrev HOk(H:Hp)(h:Heap):Prop:=∀a o,H a=some o->Ec P w H h a o
end
section
variable {P:EU}{w:E4}{H H':Hp}{h h':Heap}{a:Addr}{o:HO}
def Ec.lt(x:Ec P w H h a o):a<h.objs.size:=by
 cases o with
 | lst xs=>obtain⟨_,_,_,_,e⟩:=x;exact ES e
 | tup xs=>obtain⟨_,_,_,p⟩:=x;exact p.to.lt
 | dK kvs=>obtain⟨_,_,_,_,o,_,_,e,_⟩:=x;exact ES e
 | dT kvs=>obtain⟨_,_,_,_,o,_,_,e,_⟩:=x;exact ES e
 | set S n=>obtain⟨o,_,_,_,e,_⟩:=x;exact ES e
 | ins C dx fs=>obtain⟨_,_,_,e,_⟩:=x;exact ES e
 | own y=>obtain⟨_,e⟩:=x;exact ES e
 | xd fs=>obtain⟨_,⟨_,_,_,e,_⟩,_⟩:=x;exact ES e
 | rng lo hi=>obtain⟨_,_,_,e⟩:=x;exact ES e
 | frz ob u=>obtain⟨e,_⟩:=x;exact ES e
 | tbl ps=>exact ES (show h.get? a=some _ from x)
 | met f y=>exact ES (show h.get? a=some _ from x)
 | ext φ=>obtain⟨_,⟨_,e⟩,_⟩:=x;exact ES e
def Paired.mapP{α β:Type}{F G : α->β->Prop}:∀{l₁ : List α} {l₂ : List β},Paired F l₁ l₂->(∀a b,F a b->G a b)->Paired G l₁ l₂:=by
 intro l₁ l₂ h f
 induction h with
 | nil=>exact .nil
 | cons r t ih=>exact .cons (f _ _ r) ih
def Ec.stay(x:Ec P w H h a o)(k:∀b u,(b=a\/H b=some (.own a))->h.get? b=some u->h'.get? b=some u)
  (ho:∀b,H b=some (.own a)->H' b=some (.own a)) (ht:∀b xs,H b=some (.tup xs)->H' b=some (.tup xs)):Ec P w H' h' a o:=by
 induction o with
 | lst xs=>obtain⟨z,its,n,r,e⟩:=x;exact⟨z,its,n,r,k _ _ (.inl rfl) e⟩
 | tup xs=>obtain⟨z,its,r,ob,e,c⟩:=x;exact⟨z,its,r,ob,k _ _ (.inl rfl) e,c⟩
 | dK kvs=>obtain⟨z,y,vs,r,ob,es,ep,e,c⟩:=x;exact⟨z,y,vs,r,ob,es,ep,k _ _ (.inl rfl) e,c⟩
 | dT kvs=>
  obtain⟨z,y,xs,r,ob,es,ep,e,c⟩:=x;exact⟨z,y,xs,Paired.mapP r λp q z=>⟨z.1,ht _ _ z.2.1,z.2.2⟩,ob,es,ep,k _ _ (.inl rfl) e,c⟩
 | set S n=>obtain⟨ob,es,ep,t,e,c⟩:=x;exact⟨ob,es,ep,t,k _ _ (.inl rfl) e,c⟩
 | ins C dx fs=>
  obtain⟨d,z,ne,e,mA,⟨od,es,ep,e2,c⟩,r⟩:=x;exact⟨ho _ d,z,ne,k _ _ (.inl rfl) e,mA,⟨od,es,ep,k _ _ (.inr d) e2,c⟩,r⟩
 | own y=>obtain⟨ob,e⟩:=x;exact⟨ob,k _ _ (.inl rfl) e⟩
 | xd fs=>obtain⟨mA,⟨od,es,ep,e,c⟩,r⟩:=x;exact⟨mA,⟨od,es,ep,k _ _ (.inl rfl) e,c⟩,r⟩
 | rng lo hi=>obtain⟨t,u,v,e⟩:=x;exact⟨t,u,v,k _ _ (.inl rfl) e⟩
 | frz ob u ih=>obtain⟨e,q⟩:=x;exact⟨k _ _ (.inl rfl) e,ih q⟩
 | tbl ps=>
  have e:h.get? a=some {cls:=.none,data:=.fields ps}:=x;show h'.get? a=some {cls:=.none,data:=.fields ps};exact k a _ (.inl rfl) e
 | met f y=>
  have e:h.get? a=some (C1 (.ref f) (.ref y)):=x;show h'.get? a=some (C1 (.ref f) (.ref y));exact k a _ (.inl rfl) e
 | ext φ=>obtain⟨p,⟨o,e⟩,st⟩:=x;exact⟨st _ _ p λo q=>k _ _ (.inl rfl) q,⟨o,k _ _ (.inl rfl) e⟩,st⟩
def HOk.lt(x:HOk P w H h)(e:H a=some o):a<h.objs.size:=(x a o e).lt
def HOk.fresh(x:HOk P w H h)(e:h.objs.size<=a):H a=none:=by
 cases q:H a with
 | none=>rfl
 | some u=>exact absurd (Bp (x.lt q) e) (B4 _)
def HOk.kept(x:HOk P w H h)(k:∀b u,h.get? b=some u->h'.get? b=some u):HOk P w H h':=λa o e=>
 (x a o e).stay (λb u _ q=>k b u q) (λ_ q=>q) λ_ _ q=>q
def HOk.laid(x:HOk P w H h)(k:∀b u,h.get? b=some u->h'.get? b=some u)(hp:h.objs.size<=a)(new:Ec P w (upd H a o) h' a o):HOk P w (upd H a o) h':=λb u e=>by
 have hn:=x.fresh hp;by_cases hb:b=a;subst hb;rw[aq]at e;cases e;exact new
 ·rw[upd_ne hb]at e;exact(x b u e).stay (λc v _ q=>k c v q) (λc q=>by rw[upd_ne (aN q hn)];exact q) λc xs q=>by rw[upd_ne (aN q hn)];exact q
end
abbrev Rd(H:Hp)(a:Addr)(u:HO):Prop:=H a=some u \/ ∃o,H a=some (.frz o u)
def Rd.ok{P:EU}{w:E4}{H:Hp}{h:Heap}{a:Addr}{u:HO}(r:Rd H a u)(x:HOk P w H h):Ec P w H h a u:=by
 rcases r with r|⟨o,r⟩;exact x a u r
 ·obtain⟨_,q⟩:=x a _ r;exact q
abbrev Mut:Option HO->Prop
 | some (.lst _)=>True
 | some (.dK _)=>True
 | some (.dT _)=>True
 | some (.set _ _)=>True
 | some (.ins _ _ _)=>True
 | some (.ext _)=>True
 | _=>False
section
variable {P:EU}{w:E4}{H:Hp}{h h':Heap}{x e:Addr}{o':HO}
def HOk.write(ok:HOk P w H h)(mu:Mut (H x))(he:e=x\/H e=some (.own x))(k:∀b u,b≠e->h.get? b=some u->h'.get? b=some u)(heo:∃u,h'.get? e=some u)
  (new:Ec P w (upd H x o') h' x o'):HOk P w (upd H x o') h':=λb u q=>by
 have nown:∀c y,H c=some (.own y)->c≠x:=λc y r z=>by subst z;rw[r]at mu;exact mu
 have ntup:∀c xs,H c=some (.tup xs)->c≠x:=λc xs r z=>by subst z;rw[r]at mu;exact mu
 by_cases hb:b=x;subst hb;rw[aq]at q;cases q;exact new
 ·rw[upd_ne hb]at q;by_cases hbe:b=e
  ·have q':H b=some (.own x):=by
    rcases he with z|z;exact absurd (hbe.trans z) hb;rw[hbe];exact z
   rw[q]at q';cases q';obtain⟨v,hv⟩:=heo;exact⟨v,by rw[hbe];exact hv⟩
  ·apply(ok b u q).stay (λc v hc r=>k c v ?_ r) (λc r=>by rw[upd_ne (nown c b r)];exact r) λc xs r=>by rw[upd_ne (ntup c xs r)];exact r
   rcases hc with rfl|hc;exact hbe
   ·rintro rfl;rcases he with z|z;exact nown c b hc z;rw[hc]at z;cases z;exact hb rfl
end
structure Un(fs ex:List Addr)(H H':Hp)(h h':Heap):Prop where
 keep:∀b o,h.get? b=some o->H b=none->b∉fs->b∉ex->h'.get? b=some o
 slot:∀b o,h.get? b=some o->H b=none->b∈fs->b∉ex->∃sl,h'.get? b=some {o with slots:=sl}
 free:∀b o,h.get? b=some o->H b=none->b∉ex->H' b=none
 there:∀b o,h.get? b=some o->b∉ex->∃o',h'.get? b=some o'
 tups:∀b xs,H b=some (.tup xs)->H' b=some (.tup xs)
 frzs:∀b o u,H b=some (.frz o u)->H' b=some (.frz o u)
 tbls:∀b ps,H b=some (.tbl ps)->∃more,H' b=some (.tbl (ps++more))
section
variable {fs fs' ex ex':List Addr}{H H1 H2:Hp}{h h1 h2 h':Heap}{a x e:Addr}{o:HO}
def Un.any(u:Un fs ex H H1 h h1){b:Addr}{ob:Obj}(q:h.get? b=some ob)(n:H b=none)(hx:b∉ex):∃sl,h1.get? b=some {ob with slots:=sl}:=by
 by_cases hb:b∈fs;exact u.slot b ob q n hb hx;exact⟨ob.slots,u.keep b ob q n hb hx⟩
def Un.kept(k:∀b u,h.get? b=some u->h'.get? b=some u):Un fs ex H H h h':=
 ⟨λb ob q _ _ _=>k b ob q,λb ob q _ _ _=>⟨ob.slots,k b ob q⟩,λ_ _ _ n _=>n,λb ob q _=>⟨ob,k b ob q⟩,λ_ _ q=>q,λ_ _ _ q=>q,λ_ ps q=>⟨#[],by rw[q];simp⟩⟩
def Un.refl:Un fs ex H H h h:=Un.kept λ_ _ q=>q
def Un.laid(k:∀b u,h.get? b=some u->h'.get? b=some u)(hp:h.objs.size<=a)(hn:H a=none):Un fs ex H (upd H a o) h h' where
 keep:=λb u q _ _ _=>k b u q
 slot:=λb u q _ _ _=>⟨u.slots,k b u q⟩
 free:=λb u q n _=>by rw[upd_ne (BG (Bp (ES q) hp))];exact n
 there:=λb u q _=>⟨u,k b u q⟩
 tups:=λb xs q=>by rw[upd_ne (aN q hn)];exact q
 frzs:=λb u xs q=>by rw[upd_ne (aN q hn)];exact q
 tbls:=λb ps q=>⟨#[],by rw[upd_ne (aN q hn),q];simp⟩
def Un.write(mu:Mut (H x))(he:e=x\/H e=some (.own x))(k:∀b u,b≠e->h.get? b=some u->h'.get? b=some u)(heo:∃u,h'.get? e=some u):Un fs ex H (upd H x o) h h':=by
 have hx:∀b,H b=none->b≠x:=λb n z=>by subst z;rw[n]at mu;exact mu
 have hb:∀b,H b=none->b≠e:=λb n z=>by
  subst z;rcases he with r|r;exact hx b n r;rw[n]at r;cases r
 have hm:∀b u,H b=some u->¬ Mut (some u)->b≠x:=λb u q nm z=>by subst z;rw[q]at mu;exact nm mu
 apply⟨λb u q n _ _=>k b u (hb b n) q,λb u q n _ _=>⟨u.slots,k b u (hb b n) q⟩,λb u q n _=>by rw[upd_ne (hx b n)];exact n,λb u q _=>?_,
  λb xs q=>by rw[upd_ne (hm b _ q λz=>z)];exact q,λb u xs q=>by rw[upd_ne (hm b _ q λz=>z)];exact q,λb ps q=>⟨#[],by rw[upd_ne (hm b _ q λz=>z),q];simp⟩⟩
 by_cases hbe:b=e;subst hbe;exact heo;exact⟨u,k b u hbe q⟩
end
abbrev trk(h:Heap) (H:Hp):List Addr:=(BL h.objs.size).filter λa=>(H a).isSome
abbrev jI(h:Heap) (H:Hp):Heap:=PySem.W.hideAll h (trk h H)
def nX(h:Heap)(H:Hp):(jI h H).objs.size=h.objs.size:=PySem.W.hideAll_size _ _
def pF{h:Heap}{H:Hp}{b:Addr}{o:Obj}(e:h.get? b=some o)(n:H b=none):(jI h H).get? b=some o:=
 PySem.W.hideAll_get _ e λhm=>by
  have q:(H b).isSome=true:=(Be.mp hm).2;rw[n]at q;simp at q
def tH{h:Heap}{H:Hp}{b:Addr}{o:Obj}(e:(jI h H).get? b=some o):h.get? b=some o/\H b=none:=by
 have e':h.get? b=some o:=PySem.W.of_hideAll (trk h H) e;apply⟨e',?_⟩;cases q:H b with
 | none=>rfl
 | some x=>
  have hm:b∈trk h H:=Be.mpr ⟨Cv.mpr (ES e'),by simp[q]⟩;have z:(jI h H).get? b=none:=PySem.W.hideAll_none (trk h H) hm;rw[z]at e;cases e
abbrev su(g h:Heap) (L:Addr):List (Addr×Obj):=(BL h.objs.size).filterMap λa=>if a=L\/(g.get? a).isSome=true then none else(h.get? a).map λo=>(a,o)
abbrev rest(g h:Heap) (L d:Addr):List (Addr×Obj):=(su g h L).filter λp=>decide (p.1≠d)
structure Mod(K:yF)(mg:Str->Option EK)(base:Heap):Prop where
 kin:K.In base
 glob:base.Ns E3 mg
 blt:∃mb,base.Ns Hu mb/\∀x:Str,x ≠ "__name__" -> mb x=Fq x
 nolimit:base.NoLimit
structure Cx where
 prog:EU
 w:E4
 K:yF
 mg:Str->Option EK
 base:Heap
 A:Fa
 N:List Str
 s₀ : EM
 H₀ : Hp
 env:Env
 outer:List Env
 stack:List Env
 ex:List Addr
 fn:Str->Bool
 calm:Bool
 pn:List (Addr×Obj)
 xe:EK->EM->Prop
abbrev frs(l:List Env):List Addr:=l.filterMap (·.frame)
noncomputable abbrev Cx.fs(X:Cx):List Addr:=frs X.outer
abbrev Vis(sc:FL)(x:Str):Prop:=sc.names.lookup x=some .local\/sc.names.lookup x=some .cell\/sc.names.lookup x=some .free
abbrev Loc(sc:FL)(x:Str):Prop:=sc.names.lookup x=some .local\/sc.names.lookup x=some .cell
abbrev AG(env:Env)(h:Heap)(m:Str->Option EK)(x:Str)(u:EK):Prop:=
 (env.kindOf x=some .local/\m x=some u)\/((env.kindOf x=some .cell\/env.kindOf x=some .free)/\∃c,env.cells.lookup x=some c/\h.IsCell c (some u))
structure Cx.Ok(X:Cx):Prop where
 mod:Mod X.K X.mg X.base
 kind:X.env.scope.kind=.function
 glob:X.env.globals=E3
 blt:X.env.builtins=Hu
 above:X.s₀.heap.objs.size<=X.env.locals
 inj:∀x y c,X.env.cells.lookup x=some c->X.env.cells.lookup y=some c->x=y
 has:∀x,(X.env.kindOf x=some .cell\/X.env.kindOf x=some .free)->∃c,X.env.cells.lookup x=some c
 cab:∀x c,X.fn x=true->X.env.cells.lookup x=some c->X.s₀.heap.objs.size<=c
 hd:X.calm=true->X.A.handled=none
 gd:X.calm=true->X.A.guards=some []
 frames:X.A.frames=some X.stack
 stk:X.stack=X.outer\/(X.stack=X.env::X.outer/\X.env.frame=some X.env.locals)
 exf:∀b∈X.ex,b≠X.env.locals/\∀x c,X.env.cells.lookup x=some c->c≠b
 bs:∀b o,X.base.get? b=some o->X.s₀.heap.get? b=some o/\X.H₀ b=none
 bsz:X.base.objs.size<=X.s₀.heap.objs.size
 noex:∀b o,X.base.get? b=some o->b∉X.ex
 exfs:∀b∈X.ex,b∉X.fs
 funs:X.s₀.heap.FunFrames X.base X.outer
 frf:∀b∈X.fs,X.H₀ b=none
structure Inv(X:Cx)(Uq:List (Addr×Obj))(Z:List (Option V))(H:Hp)(s:EM):Prop where
 ok:X.Ok
 os:s.os=X.s₀.os
 bare:Gx s.gens
 base:Un X.fs X.ex X.H₀ H X.s₀.heap s.heap
 loc:∃m,s.heap.Ns X.env.locals m/\∀(i:Nat) (x:Str) (v:V),X.N[i]?=some x->Z[i]?=some (some v)->Vis X.env.scope x->∃u,RelV v u/\AG X.env s.heap m x u
 cell:∀x c,X.env.cells.lookup x=some c->∃v,s.heap.IsCell c v
 free:H X.env.locals=none
 freeC:∀x c,X.env.cells.lookup x=some c->H c=none
 pin:∀p∈X.pn++Uq,s.heap.get? p.1=some p.2/\H p.1=none/\p.1≠X.env.locals/\p.1∉X.fs/\∀v,p.2.data ≠ .cell v
 hok:HOk X.prog X.w H s.heap
 len:Z.length=X.N.length
section
variable {X:Cx}{Uq:List (Addr×Obj)}{Z:List (Option V)}{H H':Hp}{s:EM}{h':Heap}
def Cx.Ok.nofr(ok:X.Ok){b:Addr}{o:Obj}(e:X.base.get? b=some o):b∉X.fs:=λhb=>by
 have:=(ok.funs.mem hb).1;rw[e]at this;cases this
def Inv.bs(I:Inv X Uq Z H s):∀b o,X.base.get? b=some o->s.heap.get? b=some o/\H b=none:=λb o e=>
 ⟨I.base.keep b o (I.ok.bs b o e).1 (I.ok.bs b o e).2 (I.ok.nofr e) (I.ok.noex b o e),I.base.free b o (I.ok.bs b o e).1 (I.ok.bs b o e).2 (I.ok.noex b o e)⟩
def Inv.bk(I:Inv X Uq Z H s):∀b o,X.base.get? b=some o->s.heap.get? b=some o:=λb o e=>(I.bs b o e).1
def Inv.mod(I:Inv X Uq Z H s):Mod X.K X.mg X.base:=I.ok.mod
def Inv.kIn(I:Inv X Uq Z H s):X.K.In s.heap:=I.ok.mod.kin.keeps I.bk
def Inv.fr(I:Inv X Uq Z H s):∃m,Fr X.base X.env.locals s.heap m:=
 let ⟨m,hn,_⟩:=I.loc
 ⟨m,hn,I.bk,Bz I.ok.bsz I.ok.above⟩
def Inv.lt(I:Inv X Uq Z H s):X.env.locals<s.heap.objs.size:=let ⟨_,hn,_⟩:=I.loc;hn.lt
def Inv.sz(I:Inv X Uq Z H s):X.s₀.heap.objs.size<=s.heap.objs.size:=Bz I.ok.above (Dr I.lt)
def Inv.nofs(I:Inv X Uq Z H s){a:Addr}(h:s.heap.objs.size<=a):a∉X.fs:=λhb=>by
 obtain⟨_,o,ho,_⟩:=I.ok.funs.mem hb;exact absurd (Bp (ES ho) (Bz I.sz h)) (B4 _)
def Inv.cne(I:Inv X Uq Z H s):∀x c,X.env.cells.lookup x=some c->c≠X.env.locals:=λx c e z=>by
 obtain⟨v,o,ho,hd⟩:=I.cell x c e;obtain⟨m,⟨o',es,ep,ho',hd',_⟩,_⟩:=I.loc;rw[z,ho']at ho;cases ho;rw[hd']at hd;cases hd
def Inv.funs(I:Inv X Uq Z H s):s.heap.FunFrames X.base X.outer:=by
 have all:∀(l:List Env),(∀b∈frs l,b∈X.fs)->X.s₀.heap.FunFrames X.base l->s.heap.FunFrames X.base l:=by
  intro l
  induction l with
  | nil=>intro _ _;trivial
  | cons env r ih=>
   intro hs hl;obtain⟨hk,⟨L,o,hf,hn,ho,hd⟩,hr⟩:=hl;have hL:L∈X.fs:=hs L (by unfold frs;rw[Bt,hf];exact ymS);obtain⟨sl,e⟩:=I.base.slot L o ho (I.ok.frf L hL) hL λz=>I.ok.exfs L z hL;exact⟨hk,⟨L,_,hf,hn,e,hd⟩,ih (λb hb=>hs b (by unfold frs;rw[Bt,hf];exact ymC _ hb)) hr⟩
 exact all X.outer (λ_ hb=>hb) I.ok.funs
def Inv.stack(I:Inv X Uq Z H s):s.heap.FunFrames X.base X.stack:=by
 rcases I.ok.stk with e|⟨e,hf⟩;rw[e];exact I.funs
 ·rw[e];obtain⟨m,hn,_⟩:=I.loc;apply .cons (by rw[I.ok.kind];decide) hf hn ?_ I.funs;exact Heap.get?_none_of_le (Bz I.ok.bsz I.ok.above)
def Inv.stkSub(I:Inv X Uq Z H s):∀b∈frs X.stack,b∈X.env.locals::X.fs:=λb hb=>by
 rcases I.ok.stk with e|⟨e,hf⟩;rw[e]at hb;exact ymC _ hb
 ·rw[e]at hb;unfold frs at hb;rw[Bt,hf]at hb;exact hb
def Inv.stkFree(I:Inv X Uq Z H s):∀b∈frs X.stack,H b=none:=λb hb=>by
 rcases ycM (I.stkSub b hb)with e|hb;rw[e];exact I.free
 ·obtain⟨_,o,ho,_⟩:=I.ok.funs.mem hb;exact I.base.free b o ho (I.ok.frf b hb) λz=>I.ok.exfs b z hb
def Inv.step{g':Array Iv}{t':Nat}{d':Drawn}{ch:List Addr}(I:Inv X Uq Z H s)
  (hch:∀b∈ch,(b∈X.ex\/X.s₀.heap.objs.size<=b)/\b≠X.env.locals/\(∀x c,X.env.cells.lookup x=some c->c≠b)/\∀p∈X.pn++Uq,p.1≠b)
  (keep:∀b o,b≠X.env.locals->b∉X.fs->b∉ch->s.heap.get? b=some o->H b=none->h'.get? b=some o)
  (slot:∀b o,b≠X.env.locals->b∈X.fs->b∉ch->s.heap.get? b=some o->H b=none->∃sl,h'.get? b=some {o with slots:=sl}) (free:∀b o,b∉ch->s.heap.get? b=some o->H b=none->H' b=none)
  (there:∀b o,b∉ch->s.heap.get? b=some o->∃o',h'.get? b=some o')
  (tups:∀b xs,H b=some (.tup xs)->H' b=some (.tup xs)) (frzs:∀b o u,H b=some (.frz o u)->H' b=some (.frz o u)) (tbls:∀b ps,H b=some (.tbl ps)->∃more,H' b=some (.tbl (ps++more)))
  (ns:∀m,s.heap.Ns X.env.locals m->h'.Ns X.env.locals m) (hok:HOk X.prog X.w H' h') (hg:Gx g') :
  Inv X Uq Z H' {s with heap:=h',gens:=g',drawn:=d',toks:=t'}:=by
 have neL:∀b o,X.s₀.heap.get? b=some o->b≠X.env.locals:=λb o e=>BG (Bp (ES e) I.ok.above);have neC:∀b o,X.s₀.heap.get? b=some o->b∉X.ex->b∉ch:=λb o e hx hb=>by
  rcases(hch b hb).1 with z|z;exact hx z;exact absurd (Bp (ES e) z) (B4 _)
 have cellK:∀x c,X.env.cells.lookup x=some c->∀v,s.heap.IsCell c v->h'.IsCell c v:=λx c e v ⟨o,ho,hd⟩=>by
  have nch:c∉ch:=λz=>(hch c z).2.2.1 x c e rfl;by_cases hc:c∈X.fs
  ·obtain⟨sl,q⟩:=slot c o (I.cne x c e) hc nch ho (I.freeC x c e);exact⟨_,q,hd⟩
  ·exact⟨o,keep c o (I.cne x c e) hc nch ho (I.freeC x c e),hd⟩
 apply⟨I.ok,I.os,hg,⟨λb o e n hb hx=>?_,λb o e n hb hx=>?_,λb o e n hx=>?_,λb o e hx=>?_,λb xs e=>tups b xs (I.base.tups b xs e),λb o xs e=>frzs b o xs (I.base.frzs b o xs e),λb ps e=>?_⟩,?_,λx c e=>?_,?_,λx c e=>?_,λp hp=>?_,hok,I.len⟩;exact keep b o (neL b o e) hb (neC b o e hx) (I.base.keep b o e n hb hx) (I.base.free b o e n hx)
 ·obtain⟨sl,e1⟩:=I.base.slot b o e n hb hx;obtain⟨sl',e2⟩:=slot b _ (neL b o e) hb (neC b o e hx) e1 (I.base.free b o e n hx);exact⟨sl',e2⟩
 ·obtain⟨o',e1⟩:=I.base.there b o e hx;exact free b o' (neC b o e hx) e1 (I.base.free b o e n hx)
 ·obtain⟨o',e1⟩:=I.base.there b o e hx;exact there b o' (neC b o e hx) e1
 ·obtain⟨m1,e1⟩:=I.base.tbls b ps e;obtain⟨m2,e2⟩:=tbls b _ e1;exact⟨m1++m2,by rw[e2,Array.append_assoc]⟩
 ·obtain⟨m,hn,hl⟩:=I.loc;apply⟨m,ns m hn,λi x v e1 e2 e3=>?_⟩;obtain⟨u,r,l⟩:=hl i x v e1 e2 e3;apply⟨u,r,?_⟩;rcases l with l|⟨k,c,e,z⟩;exact .inl l;exact .inr ⟨k,c,e,cellK x c e _ z⟩
 ·obtain⟨v,z⟩:=I.cell x c e;exact⟨v,cellK x c e v z⟩
 ·obtain⟨m,⟨o,_,_,ho,_⟩,_⟩:=I.loc;exact free _ o (λz=>(hch _ z).2.1 rfl) ho I.free
 ·obtain⟨v,o,ho,hd⟩:=I.cell x c e;exact free c o (λz=>(hch c z).2.2.1 x c e rfl) ho (I.freeC x c e)
 ·obtain⟨e,n,ne,nf,d⟩:=I.pin p hp;have nch:p.1∉ch:=λz=>(hch p.1 z).2.2.2 p hp rfl;exact⟨keep p.1 p.2 ne nf nch e n,free p.1 p.2 nch e n,ne,nf,d⟩
def Inv.un{t':Nat}(I:Inv X Uq Z H s)(u:Un X.fs [] H H' s.heap h')(hok:HOk X.prog X.w H' h'):Inv X Uq Z H' {s with heap:=h',toks:=t'}:=by
 obtain⟨m,⟨o,es,ep,ho,r⟩,_⟩:=id I.loc;obtain⟨sl,hL⟩:=u.any ho I.free ∅;exact I.step (g':=s.gens) (d':=s.drawn) (ch:=[]) (λ_ z=>nomatch z) (λb o _ hb _ e n=>u.keep b o e n hb ∅) (λb o _ hb _ e n=>u.slot b o e n hb ∅) (λb o _ e n=>u.free b o e n ∅) (λb o _ e=>u.there b o e ∅) u.tups u.frzs u.tbls (λm' hm=>by
  obtain⟨o',es',ep',ho',r'⟩:=hm;rw[ho]at ho';cases ho';exact⟨_,es',ep',hL,r'⟩) hok I.bare
def Inv.call{g':Array Iv}{t':Nat}{d':Drawn}{ch:List Addr}(I:Inv X Uq Z H s)(u:Un (frs X.stack) ch H H' s.heap h')(hok:HOk X.prog X.w H' h')(hg:Gx g')
  (hch:∀b∈ch,(b∈X.ex\/X.s₀.heap.objs.size<=b)/\b≠X.env.locals/\(∀x c,X.env.cells.lookup x=some c->c≠b)/\∀p∈X.pn++Uq,p.1≠b) :
  Inv X Uq Z H' {s with heap:=h',gens:=g',drawn:=d',toks:=t'}:=by
 obtain⟨m,⟨o,es,ep,ho,r⟩,_⟩:=id I.loc;obtain⟨sl,hL⟩:=u.any ho I.free λz=>(hch _ z).2.1 rfl;exact I.step (ch:=ch) hch (λb o hL hb hc e n=>u.keep b o e n (λz=>(ycM (I.stkSub b z)).elim hL hb) hc) (λb o _ _ hc e n=>u.any e n hc) (λb o hc e n=>u.free b o e n hc) (λb o hc e=>u.there b o e hc) u.tups u.frzs u.tbls (λm' hm=>by
  obtain⟨o',es',ep',ho',r'⟩:=hm;rw[ho]at ho';cases ho';exact⟨_,es',ep',hL,r'⟩) hok hg
def Inv.turned{t':Nat}{it:Addr}(I:Inv X Uq Z H s)(k:∀b o,b≠it->s.heap.get? b=some o->h'.get? b=some o)(hn:H it=none)(hL:it≠X.env.locals)
  (h1:it∈X.ex\/X.s₀.heap.objs.size<=it) (h2:∀x c,X.env.cells.lookup x=some c->c≠it) (h3:∀p∈X.pn++Uq,p.1≠it):Inv X Uq Z H {s with heap:=h',toks:=t'}:=by
 have nit:∀b u,H b=some u->b≠it:=λb u e z=>by rw[z,hn]at e;cases e
 apply I.step (g':=s.gens) (d':=s.drawn) (ch:=[it]) (λb hb=>?_) (λb o _ _ hc e _=>k b o (λz=>hc (by simp[z])) e) (λb o _ _ hc e _=>⟨o.slots,k b o (λz=>hc (by simp[z])) e⟩) (λ_ _ _ _ n=>n)
  (λb o hc e=>⟨o,k b o (λz=>hc (by simp[z])) e⟩) (λ_ _ e=>e) (λ_ _ _ e=>e) (λb ps e=>⟨#[],by rw[e];simp⟩) (λm hm=>?_) (λb u e=>?_) I.bare
 ·have e:b=it:=by exists hb
  subst e;exact⟨h1,hL,h2,h3⟩
 ·obtain⟨o,es,ep,ho,r⟩:=hm;exact⟨o,es,ep,k _ o (Ff hL) ho,r⟩
 ·apply(I.hok b u e).stay (λc v hc q=>k c v ?_ q) (λ_ q=>q) λ_ _ q=>q;rcases hc with z|z;rw[z];exact nit b u e;exact nit c _ z
def Inv.tok(I:Inv X Uq Z H s)(t:Nat):Inv X Uq Z H {s with toks:=t}:=I.un (h':=s.heap) (t':=t) Un.refl I.hok
def Inv.kept{t':Nat}(I:Inv X Uq Z H s)(k:∀b u,s.heap.get? b=some u->h'.get? b=some u):Inv X Uq Z H {s with heap:=h',toks:=t'}:=I.un (Un.kept k) (I.hok.kept k)
def Inv.laid{a:Addr}{o:HO}{t':Nat}(I:Inv X Uq Z H s)(k:∀b u,s.heap.get? b=some u->h'.get? b=some u)(hp:s.heap.objs.size<=a)(new:Ec X.prog X.w (upd H a o) h' a o) :
  Inv X Uq Z (upd H a o) {s with heap:=h',toks:=t'}:=I.un (Un.laid k hp (I.hok.fresh hp)) (I.hok.laid k hp new)
def Inv.write{x e:Addr}{o:HO}{t':Nat}(I:Inv X Uq Z H s)(mu:Mut (H x))(he:e=x\/H e=some (.own x))(k:∀b u,b≠e->s.heap.get? b=some u->h'.get? b=some u)(heo:∃u,h'.get? e=some u)
  (new:Ec X.prog X.w (upd H x o) h' x o):Inv X Uq Z (upd H x o) {s with heap:=h',toks:=t'}:=I.un (Un.write mu he k heo) (I.hok.write mu he k heo new)
def Inv.weak{Z':List (Option V)}(I:Inv X Uq Z H s)(hl:Z'.length=Z.length)(w:∀(i:Nat) v,Z'[i]?=some (some v)->Z[i]?=some (some v)):Inv X Uq Z' H s:=
 ⟨I.ok,I.os,I.bare,I.base,let ⟨m,hn,hl'⟩:=I.loc;⟨m,hn,λi x v e1 e2 e3=>hl' i x v e1 (w i v e2) e3⟩,I.cell,I.free,I.freeC,I.pin,I.hok,hl.trans I.len⟩
def Inv.pins_of{pins':List (Addr×Obj)}(I:Inv X Uq Z H s)(h:∀p∈pins',s.heap.get? p.1=some p.2/\H p.1=none/\p.1≠X.env.locals/\p.1∉X.fs/\∀v,p.2.data ≠ .cell v):Inv X pins' Z H s:=
 ⟨I.ok,I.os,I.bare,I.base,I.loc,I.cell,I.free,I.freeC,λp hp=>(yaM hp).elim (λz=>I.pin p (yaL _ z)) (h p),I.hok,I.len⟩
def kQ{N:List Str}(hN:N.Nodup){i j:Nat}{x:Str}(a:N[i]?=some x)(b:N[j]?=some x):i=j:=by
 obtain⟨h1,e1⟩:=Bb.mp a;obtain⟨h2,e2⟩:=Bb.mp b;exact(List.getElem_inj hN).mp (e1.trans e2.symm)
def jk{M:JA}{A:Fa}{E:EK->EM->Prop}{i:Nat}{x:Str}{v:V}{u:EK}{Q:Unit->EM->Prop}(I:Inv X Uq Z H s)(hN:X.N.Nodup)(hi:X.N[i]?=some x)(hx:Loc X.env.scope x)(r:RelV v u)
  (h:∀s',Inv X Uq (Z.set i (some v)) H s'->(∃a,HA a s.heap s'.heap/\(a=X.env.locals\/X.env.cells.lookup x=some a))->Q () s') (hf:X.fn x=true\/X.env.scope.names.lookup x=some .local:=by first|exact .inl rfl|exact .inr rfl|assumption):EY M A (storeName X.env x u) Q E s:=by
 obtain⟨m,hn,hl⟩:=id I.loc;have hcls:(X.env.scope.kind == .class||(X.env.scope.kind == .module&&X.env.locals != X.env.globals))=false:=by rw[I.ok.kind];rfl
 have hiZ:i<Z.length:=by rw[I.len];exact(Bb.mp hi).1
 have cne:=I.cne;have tracked:∀{a:Addr} {h':Heap},(∃o,s.heap.get? a=some o/\H a=none)->HA a s.heap h'->HOk X.prog X.w H h':=λ{a h'} ha hs b ob e=>by
  obtain⟨_,_,hfree⟩:=ha;apply(I.hok b ob e).stay (λc w' hc q=>(hs.2 c ?_).trans q) (λ_ q=>q) λ_ _ q=>q;rintro rfl;rcases hc with rfl|hc;rw[hfree]at e;cases e;rw[hfree]at hc;cases hc
 rcases hx with hk|hk
 ·apply wpAny_storeName_local hk hn (λh' hn' hs=>?_) hcls;obtain⟨oL,_,_,hoL,_⟩:=id hn;apply h _ ⟨I.ok,I.os,I.bare,⟨λb o e n hb hx=>?_,λb o e n hb hx=>?_,I.base.free,λb o e hx=>?_,I.base.tups,I.base.frzs,I.base.tbls⟩,⟨_,hn',λj y v' e1 e2 e3=>?_⟩,λy c e=>?_,I.free,I.freeC,λp hp=>?_,tracked ⟨oL,hoL,I.free⟩ hs,by simpa using I.len⟩ ⟨_,hs,.inl rfl⟩;exact(hs.2 b (BG (Bp (ES e) I.ok.above))).trans (I.base.keep b o e n hb hx)
  ·obtain⟨sl,e1⟩:=I.base.slot b o e n hb hx;exact⟨sl,(hs.2 b (BG (Bp (ES e) I.ok.above))).trans e1⟩
  ·obtain⟨o',e1⟩:=I.base.there b o e hx;exact⟨o',(hs.2 b (BG (Bp (ES e) I.ok.above))).trans e1⟩
  ·by_cases hj:j=i
   ·subst hj;rw[hi]at e1;cases e1;rw[BR hiZ]at e2;cases e2;exact⟨u,r,.inl ⟨hk,by simp⟩⟩
   ·rw[Bn (Ff hj)]at e2;obtain⟨u',r',q⟩:=hl j y v' e1 e2 e3;apply⟨u',r',?_⟩;rcases q with⟨k,e⟩|⟨k,c,e,z⟩
    ·apply .inl ⟨k,?_⟩;have:y≠x:=λe=>hj (kQ hN e1 (e▸hi));simp[this,e]
    ·exact .inr ⟨k,c,e,z.sameBut hs (cne y c e)⟩
  ·obtain⟨w',z⟩:=I.cell y c e;exact⟨w',z.sameBut hs (cne y c e)⟩
  ·obtain⟨e,n,ne,nf,d⟩:=I.pin p hp;exact⟨(hs.2 p.1 ne).trans e,n,ne,nf,d⟩
 ·have hfn:X.fn x=true:=by
   rcases hf with z|z;exact z;rw[z]at hk;cases hk
  obtain⟨c,hc⟩:=I.ok.has x (.inl hk);obtain⟨w',z⟩:=I.cell x c hc;apply wpAny_storeName_cell I.ok.kind hk hc z (λh' hc' hs=>?_);obtain⟨oc,hoc,hocd⟩:=id z;apply h {s with heap:=h'} ⟨I.ok,I.os,I.bare,⟨λb o e n hb hx=>?_,λb o e n hb hx=>?_,I.base.free,λb o e hx=>?_,I.base.tups,I.base.frzs,I.base.tbls⟩,⟨m,hn.sameBut hs (Ff (cne x c hc)),λj y v' e1 e2 e3=>?_⟩,λy c' e=>?_,I.free,I.freeC,λp hp=>?_,tracked ⟨oc,hoc,I.freeC x c hc⟩ hs,by simpa using I.len⟩ ⟨c,hs,.inr hc⟩;exact(hs.2 b (BG (Bp (ES e) (I.ok.cab x c hfn hc)))).trans (I.base.keep b o e n hb hx)
  ·obtain⟨sl,e1⟩:=I.base.slot b o e n hb hx;exact⟨sl,(hs.2 b (BG (Bp (ES e) (I.ok.cab x c hfn hc)))).trans e1⟩
  ·obtain⟨o',e1⟩:=I.base.there b o e hx;exact⟨o',(hs.2 b (BG (Bp (ES e) (I.ok.cab x c hfn hc)))).trans e1⟩
  ·by_cases hj:j=i
   ·subst hj;rw[hi]at e1;cases e1;rw[BR hiZ]at e2;cases e2;exact⟨u,r,.inr ⟨.inl hk,c,hc,hc'⟩⟩
   ·rw[Bn (Ff hj)]at e2;obtain⟨u',r',q⟩:=hl j y v' e1 e2 e3;apply⟨u',r',?_⟩;rcases q with q|⟨k,c',e,z'⟩;exact .inl q
    ·apply .inr ⟨k,c',e,z'.sameBut hs ?_⟩;rintro rfl;exact hj (kQ hN e1 (I.ok.inj _ _ _ e hc▸hi))
  ·by_cases hcc:c'=c;subst hcc;exact⟨_,hc'⟩
   ·obtain⟨w2,z2⟩:=I.cell y c' e;exact⟨w2,z2.sameBut hs hcc⟩
  ·obtain⟨e,n,ne,nf,d⟩:=I.pin p hp;apply⟨(hs.2 p.1 ?_).trans e,n,ne,nf,d⟩;intro q;rw[q,hoc]at e;have q':oc=p.2:=Bq.inj e;exact d w' (by rw[<-q'];exact hocd)
def fe{M:JA}{A:Fa}{E:EK->EM->Prop}{i:Nat}{x:Str}{v:V}{u:EK}{Q:Unit->EM->Prop}(I:Inv X Uq Z H s)(hN:X.N.Nodup)(hi:X.N[i]?=some x)(hx:Loc X.env.scope x)(r:RelV v u)
  (h:∀s',Inv X Uq (Z.set i (some v)) H s'->Q () s') (hf:X.fn x=true\/X.env.scope.names.lookup x=some .local:=by first|exact .inl rfl|exact .inr rfl|assumption):EY M A (storeName X.env x u) Q E s:=
 jk I hN hi hx r (λs' I' _=>h s' I') hf
def Inv.call'{s':EM}{ch:List Addr}(I:Inv X Uq Z H s)(ho:s'.os=s.os)(u:Un (frs X.stack) ch H H' s.heap s'.heap)(hok:HOk X.prog X.w H' s'.heap)(hg:Gx s'.gens)
  (hch:∀b∈ch,(b∈X.ex\/X.s₀.heap.objs.size<=b)/\b≠X.env.locals/\(∀x c,X.env.cells.lookup x=some c->c≠b)/\∀p∈X.pn++Uq,p.1≠b):Inv X Uq Z H' s':=by
 obtain⟨h',g',d',t',o'⟩:=s';have e:o'=s.os:=ho;subst e;exact I.call (g':=g') (t':=t') (d':=d') u hok hg hch
end
protected def XK:=EK->Option Addr->Hp->Prop
protected def St:=List (Option V)
protected def VK:=V->Hp->Prop
protected def TE:=St->Hp->VK->Prop
protected def TT:=St->Hp->(Bool->Hp->Prop)->Prop
protected def TA:=St->Hp->(List V->Hp->Prop)->Prop
structure EC where
 nx:St->Hp->Prop
 rt:VK
 bk:St->Hp->Prop:=λ_ _=>False
 ct:St->Hp->Prop:=λ_ _=>False
protected def TS:=EC->St->Hp->Prop
abbrev EP(X:Cx)(Uq:List (Addr×Obj))(Z:St)(Q:VK)(u:EK)(s':EM):Prop:=∃v H',Inv X Uq Z H' s'/\RelV v u/\Q v H'
abbrev TP(X:Cx)(Uq:List (Addr×Obj))(Z:St)(Q:Bool->Hp->Prop)(b:Bool)(s':EM):Prop:=∃H',Inv X Uq Z H' s'/\Q b H'
abbrev AP(X:Cx)(Uq:List (Addr×Obj))(Z:St)(Q:List V->Hp->Prop)(us:List EK)(s':EM):Prop:=∃vs H',Inv X Uq Z H' s'/\Vals vs us/\Q vs H'
abbrev SP(X:Cx)(Uq:List (Addr×Obj))(D:EC)(f:Flow)(s':EM):Prop:=
 match f with
 | .next=>∃Z' H',Inv X Uq Z' H' s'/\D.nx Z' H'
 | .brk=>∃Z' H',Inv X Uq Z' H' s'/\D.bk Z' H'
 | .cont=>∃Z' H',Inv X Uq Z' H' s'/\D.ct Z' H'
 | .ret u=>∃v Z' H',Inv X Uq Z' H' s'/\RelV v u/\D.rt v H'
abbrev PE(X:Cx)(e:Expr)(t:TE):Prop:=
 ∀(Uq:List (Addr×Obj)) (s:EM) (Z:St) (H:Hp) (Q:VK),Inv X Uq Z H s->t Z H Q->EY (ET X.prog X.w) X.A (eval e X.env) (EP X Uq Z Q) X.xe s
abbrev PT(X:Cx)(e:Expr)(t:TT):Prop:=
 ∀(Uq:List (Addr×Obj)) (s:EM) (Z:St) (H:Hp) (Q:Bool->Hp->Prop),Inv X Uq Z H s->t Z H Q->EY (ET X.prog X.w) X.A (IZ e X.env (eval e X.env)) (TP X Uq Z Q) X.xe s
abbrev PW(X:Cx)(e:Expr)(t:TT):Prop:=
 ∀(whole:Sem EK) (Uq:List (Addr×Obj)) (s:EM) (Z:St) (H:Hp) (Q:Bool->Hp->Prop),Inv X Uq Z H s->t Z H Q->EY (ET X.prog X.w) X.A (IZ e X.env whole) (TP X Uq Z Q) X.xe s
def PW.pt{X:Cx}{e:Expr}{t:TT}(h:PW X e t):PT X e t:=h _
abbrev PA(X:Cx)(es:List Expr)(t:TA):Prop:=
 ∀(pos:Pos) (Uq:List (Addr×Obj)) (s:EM) (Z:St) (H:Hp) (Q:List V->Hp->Prop),Inv X Uq Z H s->t Z H Q->EY (ET X.prog X.w) X.A (spliced (FM pos (E5 es X.env))) (AP X Uq Z Q) X.xe s
abbrev PS(X:Cx)(st:Stmt)(t:TS):Prop:=
 ∀(Uq:List (Addr×Obj)) (s:EM) (Z:St) (H:Hp) (D:EC),Inv X Uq Z H s->t D Z H->EY (ET X.prog X.w) X.A (exec st X.env) (SP X Uq D) X.xe s
abbrev PSs(X:Cx)(st:List Stmt)(t:TS):Prop:=
 ∀(Uq:List (Addr×Obj)) (s:EM) (Z:St) (H:Hp) (D:EC),Inv X Uq Z H s->t D Z H->EY (ET X.prog X.w) X.A (execs st X.env) (SP X Uq D) X.xe s
def thn{α:Type}{t:Sem α}{Q Q' : α->EM->Prop}{M:JA}{A:Fa}{E:EK->EM->Prop}{s:EM}(h:EY M A t Q E s)(hQ:∀a s,Q a s->Q' a s):EY M A t Q' E s:=FE h hQ λ_ _ x=>x
section
variable {X:Cx}
def bin{a b:Expr}{ta tb:TE}(ha:PE X a ta)(hb:PE X b tb){Uq:List (Addr×Obj)}{s:EM}{Z:St}{H:Hp}{R:V->V->Hp->Prop}(I:Inv X Uq Z H s)(h:ta Z H λx H1=>tb Z H1 λy H2=>R x y H2)
  {α:Type} {Q : α->EM->Prop} {f:EK->EK->Sem α}
  (hf:∀v u s2 x y H2,Inv X Uq Z H2 s2->RelV x v->RelV y u->R x y H2->EY (ET X.prog X.w) X.A (f v u) Q X.xe s2) :
  EY (ET X.prog X.w) X.A (eval a X.env) (λv s₁=>EY (ET X.prog X.w) X.A (eval b X.env) (λu s₂=>EY (ET X.prog X.w) X.A (f v u) Q X.xe s₂) X.xe s₁) X.xe s:=by
 apply thn (ha Uq s Z H _ I h) λv s1 ⟨x,H1,I1,r1,q1⟩=>?_;apply thn (hb Uq s1 Z H1 _ I1 q1) λu s2 ⟨y,H2,I2,r2,q2⟩=>?_;exact hf v u s2 x y H2 I2 r1 r2 q2
abbrev l4(i:Nat):TE:=λZ H Q=>∃v,Z[i]?=some (some v)/\Q v H
abbrev tC(v:V):TE:=λ_ H Q=>Q v H
def bS{i:Nat}{x:Str}{pos:Pos}(hN:X.N[i]?=some x)(hv:Vis X.env.scope x)(hd:(x==("__debug__" : Str))=false:=by decide)(hcd:(x==("__classdict__" : Str))=false:=by decide):PE X (.Name x pos) (l4 i):=by
 intro Uq s Z H Q I h;obtain⟨v,e,h⟩:=h;obtain⟨m,hn,hl⟩:=I.loc;obtain⟨u,r,l⟩:=hl i x v hN e hv;have fin:EP X Uq Z Q u s:=⟨v,H,I,r,h⟩;rcases l with⟨hk,hm⟩|⟨hk,c,hc,hcell⟩;exact Iw (wpAny_loadName_local I.ok.kind hk hn hm fin) hd
 ·rcases hk with hk|hk;exact Iw (wpAny_loadName_cell I.ok.kind hk hc hcell fin) hd;exact Iw (wpAny_loadName_free I.ok.kind hk hc hcell fin hcd) hd
def qz{i j pos}:PE X (.Constant (.int i) j pos) (tC (.int i)):=λ_ _ _ H _ I h=>wpAny_Constant_int ⟨.int i,H,I.tok _,⟨_,rfl⟩,h⟩
def zC{b j pos}:PE X (.Constant (.bool b) j pos) (tC (.bl b)):=λ_ _ _ H _ I h=>Constant_bool ⟨.bl b,H,I,rfl,h⟩
def xm{j pos}:PE X (.Constant .none j pos) (tC .non):=λ_ _ _ H _ I h=>Constant_none ⟨.non,H,I,rfl,h⟩
def xo{x j pos}:PE X (.Constant (.str x) j pos) (tC (.str x)):=λ_ _ _ H _ I h=>Calls.Constant_str ⟨.str x,H,I.tok _,⟨_,rfl⟩,h⟩
abbrev Gl(X:Cx)(x:Str):Prop:=X.env.kindOf x=some .globalImplicit
def eT{E:EK->EM->Prop}{Uq:List (Addr×Obj)}{s:EM}{Z:St}{H:Hp}{x:Str}{u:EK}{pos:Pos}{Q:EK->EM->Prop}(I:Inv X Uq Z H s)(hg:Gl X x)(hm:X.mg x=some u)(h:Q u s)
  (hd:(x==("__debug__" : Str))=false:=by decide):EY (ET X.prog X.w) X.A (eval (.Name x pos) X.env) Q E s:=
 Gr I.ok.kind hg (Calls.loadGlobal_global (by rw[I.ok.glob];exact I.mod.glob.keeps I.bk) hm h) hd
def fB{E:EK->EM->Prop}{Uq:List (Addr×Obj)}{s:EM}{Z:St}{H:Hp}{x:Str}{u:EK}{pos:Pos}{Q:EK->EM->Prop}(I:Inv X Uq Z H s)(hg:Gl X x)(hm:X.mg x=none)(hv:Fq x=some u)(h:Q u s)
  (hn:x ≠ "__name__" :=by decide) (hd:(x==("__debug__" : Str))=false:=by decide):EY (ET X.prog X.w) X.A (eval (.Name x pos) X.env) Q E s:=by
 obtain⟨mb,h1,h2⟩:=I.mod.blt;exact Gr I.ok.kind hg (Calls.loadGlobal_builtin (by rw[I.ok.glob];exact I.mod.glob.keeps I.bk) hm (by rw[I.ok.blt];exact h1.keeps I.bk) ((h2 x hn).trans hv) h) hd
def tU{x:Str}{v:V}{u:EK}{pos:Pos}(hg:Gl X x)(hm:X.mg x=some u)(r:RelV v u)(hd:(x==("__debug__" : Str))=false:=by decide):PE X (.Name x pos) (tC v):=
 λ_ _ _ H _ I h=>eT I hg hm ⟨v,H,I,r,h⟩ hd
def mV{x:Str}{v:V}{u:EK}{pos:Pos}(hg:Gl X x)(hm:X.mg x=none)(hv:Fq x=some u)(r:RelV v u)(hn:x ≠ "__name__" :=by decide)(hd:(x==("__debug__" : Str))=false:=by decide):PE X (.Name x pos) (tC v):=
 λ_ _ _ H _ I h=>fB I hg hm hv ⟨v,H,I,r,h⟩ hn hd
variable {a b:Expr}{ta tb:TE}{pos:Pos}
abbrev PC(X:Cx)(op:HB)(a b:Expr)(t:TE):Prop:=
 ∀(Uq:List (Addr×Obj)) (s:EM) (Z:St) (H:Hp) (Q:VK),Inv X Uq Z H s->t Z H Q ->
  EY (ET X.prog X.w) X.A (eval a X.env) (λv s₁=>EY (ET X.prog X.w) X.A (eval b X.env) (λu s₂=>EY (ET X.prog X.w) X.A (Fe op v u) (EP X Uq Z Q) X.xe s₂) X.xe s₁) X.xe s
abbrev tB(t:TE):TT:=λZ H Q=>t Z H λx H1=>∃c,x=.bl c/\Q c H1
def pt_cmp{op:HB}{t:TE}(h:PC X op a b t)(h1:FJ op b=false:=by first|exact nobehind _ (by decide) (by decide)|rfl):PT X (.Compare a [op] [b] pos) (tB t):=by
 intro Uq s Z H Q I hw;apply G7 (thn (h Uq s Z H _ I hw) λv s1 h1=>thn h1 λu s2 h2=>thn h2 λc s3 ⟨x,H1,I1,r1,q1⟩=>?_) h1;obtain⟨d,rfl,q⟩:=q1;cases r1;exact FZ ⟨H1,I1,q⟩
def xA{e:Expr}{t:TE}(h:PE X e t)(he:∀whole,IZ e X.env whole=(do let v <-whole;GP e.pos;F3 [v] (truthy v)):=by intro _;rfl):PT X e (tB t):=by
 intro Uq s Z H Q I hw;apply isTrue_plain (thn (h Uq s Z H _ I hw) λv s1 ⟨x,H1,I1,r1,q1⟩=>?_) (he _);obtain⟨d,rfl,q⟩:=q1;cases r1;exact FZ ⟨H1,I1,q⟩
variable {tA tB':TT}{rest:List Expr}
abbrev tOr(t u:TT):TT:=λZ H Q=>t Z H λc H1=>if c=true then Q true H1 else u Z H1 Q
abbrev Ai(t:TT):TT:=λZ H Q=>t Z H λc H1=>Q (!c) H1
def xC(ha:PT X a tA):PW X (.BoolOp .Or [a] pos) tA:=by
 intro wh Uq s Z H Q I h;apply isTrue_or (thn (ha Uq s Z H Q I h) λc s1 e=>?_);cases c with
 | false=>exact isTrue_or_nil e
 | true=>exact e
def zK(ha:PT X a tA)(hb:PW X (.BoolOp .Or (b::rest) pos) tB'):PW X (.BoolOp .Or (a::b::rest) pos) (tOr tA tB'):=by
 intro wh Uq s Z H Q I h;apply isTrue_or (thn (ha Uq s Z H _ I h) λc s1 ⟨H1,I1,q1⟩=>?_);cases c with
 | true=>exact⟨H1,I1,q1⟩
 | false=>exact hb wh Uq s1 Z H1 Q I1 q1
def xz(ha:PT X a tA):PT X (.UnaryOp .Not a pos) (Ai tA):=by
 intro Uq s Z H Q I h;exact isTrue_not (ha Uq s Z H (λc H1=>Q (!c) H1) I h)
abbrev vK(ta tb:TE):TE:=λZ H Q=>ta Z H λx H1=>∃c,x=.bl c/\if c=true then tb Z H1 Q else Q (.bl false) H1
def xn{op}{t:TE}(h:PE X a t):PE X (.BoolOp op [a] pos) t:=λUq s Z H Q I hw=>BoolOp_one (h Uq s Z H Q I hw)
def xj(ha:PE X a ta)(hb:PE X (.BoolOp .And (b::rest) pos) tb):PE X (.BoolOp .And (a::b::rest) pos) (vK ta tb):=by
 intro Uq s Z H Q I h;apply BoolOp_and (thn (ha Uq s Z H _ I h) λv s1 ⟨x,H1,I1,r1,q1⟩=>?_);obtain⟨c,rfl,q1⟩:=q1;cases r1;apply FZ ?_;cases c with
 | true=>exact hb Uq s1 Z H1 Q I1 q1
 | false=>exact⟨.bl false,H1,I1,rfl,q1⟩
abbrev tIf(t:TT)(ta tb:TE):TE:=λZ H Q=>t Z H λc H1=>if c=true then ta Z H1 Q else tb Z H1 Q
def qy{c:Expr}(hc:PT X c tA)(ha:PE X a ta)(hb:PE X b tb):PE X (.IfExp c a b pos) (tIf tA ta tb):=by
 intro Uq s Z H Q I h;apply wpAny_IfExp (thn (hc Uq s Z H _ I h) λd s1 ⟨H1,I1,q1⟩=>?_);cases d with
 | true=>exact ha Uq s1 Z H1 Q I1 q1
 | false=>exact hb Uq s1 Z H1 Q I1 q1
end
abbrev SqL(K:yF)(H:Hp)(a:Addr)(xs:List V):Prop:=
 Rd H a (.lst xs) \/
  ∃(o:Obj) (its:Array EK) (n:Nat),K.lookup a=some o/\o.cls=.type "list" /\ o.dict=none/\o.data=.seq its n/\its.size<=sizeLine/\Vals xs its.toList
abbrev SqT(K:yF)(H:Hp)(a:Addr)(xs:List V):Prop:=
 Rd H a (.tup xs) \/
  ∃(o:Obj) (its:Array EK) (n:Nat),K.lookup a=some o/\(o.cls=.type "tuple" /\ o.dict=none)/\o.data=.seq its n/\its.size<=sizeLine/\Vals xs its.toList
abbrev AH:EK->Option V
 | .none=>some .non
 | .bool b=>some (.bl b)
 | .int i _=>some (.int i)
 | .str x _=>some (.str x)
 | .bytes b _=>some (.byt b)
 | .float b _=>some (.flt b)
 | .ref a=>some (.ref a)
 | .type n=>some (.ty n)
 | _=>none
def RelV.abs{x:V}{u:EK}(r:RelV x u):AH u=some x:=by
 cases x with
 | non=>cases r;rfl
 | bl _=>cases r;rfl
 | int _=>obtain⟨t,rfl⟩:=r;rfl
 | str _=>obtain⟨t,rfl⟩:=r;rfl
 | byt _=>obtain⟨t,rfl⟩:=r;rfl
 | flt _=>obtain⟨t,rfl⟩:=r;rfl
 | ref _=>cases r;rfl
 | ty _=>cases r;rfl
def RelV.inj{x y:V}{u:EK}(r:RelV x u)(q:RelV y u):x=y:=Bq.inj (r.abs.symm.trans q.abs)
def Vals.inj:∀{xs ys:List V} {us:List EK},Vals xs us->Vals ys us->xs=ys:=by
 intro xs ys us h k
 induction h generalizing ys with
 | nil=>cases k;rfl
 | cons r t ih=>
  cases k with
  | cons r' t'=>rw[r.inj r',ih t']
section
variable {X:Cx}{Uq:List (Addr×Obj)}{Z:St}{H:Hp}{s:EM}{a:Addr}{xs ys:List V}
def SqL.of{K:yF}(h:H a=some (.lst xs)):SqL K H a xs:=.inl (.inl h)
def SqT.of{K:yF}(h:H a=some (.tup xs)):SqT K H a xs:=.inl (.inl h)
def Inv.list(I:Inv X Uq Z H s)(h:SqL X.K H a xs):∃its:List EK,Vals xs its/\PlainL s.heap a its.toArray/\xs.length<=sizeLine:=by
 rcases h with h|⟨o,its,n,hk,hc,hd,hs,hz,r⟩
 ·obtain⟨z,its,n,r,e⟩:=h.ok I.hok;exact⟨its,r,⟨_,n,e,rfl,rfl,rfl⟩,z⟩
 ·apply⟨its.toList,r,⟨o,n,I.kIn a o hk,hc,hd,by simpa using hs⟩,?_⟩;have e:=r.length;dsimp[Cn]at e;omega
def Inv.tuple(I:Inv X Uq Z H s)(h:SqT X.K H a xs):∃its:List EK,Vals xs its/\Jh s.heap a its.toArray/\xs.length<=sizeLine:=by
 rcases h with h|⟨o,its,n,hk,hc,hs,hz,r⟩
 ·obtain⟨z,its,r,p⟩:=h.ok I.hok;exact⟨its,r,p.to,z⟩
 ·apply⟨its.toList,r,⟨o,I.kIn a o hk,hc.1,n,by simpa using hs⟩,?_⟩;have e:=r.length;dsimp[Cn]at e;omega
def Inv.list_inj(I:Inv X Uq Z H s)(h:SqL X.K H a xs)(h':SqL X.K H a ys):xs=ys:=by
 obtain⟨its,r,⟨o,n,e,_,_,d⟩,_⟩:=I.list h;obtain⟨its',r',⟨o',n',e',_,_,d'⟩,_⟩:=I.list h';rw[e]at e';cases e';rw[d]at d';injection d' with d1 _;have:its=its':=by simpa using congrArg D3 d1
 subst this;exact r.inj r'
def Inv.tuple_inj(I:Inv X Uq Z H s)(h:SqT X.K H a xs)(h':SqT X.K H a ys):xs=ys:=by
 obtain⟨its,r,⟨o,e,_,n,d⟩,_⟩:=I.tuple h;obtain⟨its',r',⟨o',e',_,n',d'⟩,_⟩:=I.tuple h';rw[e]at e';cases e';rw[d]at d';injection d' with d1 _;have:its=its':=by simpa using congrArg D3 d1
 subst this;exact r.inj r'
end
noncomputable abbrev Cx.wish(X:Cx) (E:EK->EM->Prop):Cx:={X with xe:=E}
noncomputable abbrev Cx.nox(X:Cx):Cx:=X.wish λ_ _=>False
def Cx.Ok.wish{X:Cx}(ok:X.Ok)(E:EK->EM->Prop):(X.wish E).Ok:=
 ⟨ok.mod,ok.kind,ok.glob,ok.blt,ok.above,ok.inj,ok.has,ok.cab,ok.hd,ok.gd,ok.frames,ok.stk,ok.exf,ok.bs,ok.bsz,ok.noex,ok.exfs,ok.funs,ok.frf⟩
def Cx.Ok.unwish{X:Cx}{E:EK->EM->Prop}(ok:(X.wish E).Ok):X.Ok:=
 ⟨ok.mod,ok.kind,ok.glob,ok.blt,ok.above,ok.inj,ok.has,ok.cab,ok.hd,ok.gd,ok.frames,ok.stk,ok.exf,ok.bs,ok.bsz,ok.noex,ok.exfs,ok.funs,ok.frf⟩
section
variable {X:Cx}{Uq:List (Addr×Obj)}{Z:St}{H:Hp}{s:EM}{E:EK->EM->Prop}
def Inv.wish(I:Inv X Uq Z H s)(E:EK->EM->Prop):Inv (X.wish E) Uq Z H s:=⟨I.ok.wish E,I.os,I.bare,I.base,I.loc,I.cell,I.free,I.freeC,I.pin,I.hok,I.len⟩
def Inv.unwish(I:Inv (X.wish E) Uq Z H s):Inv X Uq Z H s:=⟨I.ok.unwish,I.os,I.bare,I.base,I.loc,I.cell,I.free,I.freeC,I.pin,I.hok,I.len⟩
def SP.unwish{D:EC}{f:Flow}{s':EM}(h:SP (X.wish E) Uq D f s'):SP X Uq D f s':=by
 cases f with
 | next=>obtain⟨Z',H',I,q⟩:=h;exact⟨Z',H',I.unwish,q⟩
 | brk=>obtain⟨Z',H',I,q⟩:=h;exact⟨Z',H',I.unwish,q⟩
 | cont=>obtain⟨Z',H',I,q⟩:=h;exact⟨Z',H',I.unwish,q⟩
 | ret u=>obtain⟨v,Z',H',I,r,q⟩:=h;exact⟨v,Z',H',I.unwish,r,q⟩
def PSs.nox{st:List Stmt}{t:TS}(h:PSs X.nox st t):PSs X st t:=λUq s Z H D I hw=>
 FE (h Uq s Z H D (I.wish _) hw) (λ_ _ q=>q.unwish) λ_ _ z=>Fv z
end
section
variable {X:Cx}{st:Stmt}{rest:List Stmt}{t u:TS}{e:Expr}{te:TE}{pos:Pos}
abbrev vM:TS:=λD Z H=>D.nx Z H
abbrev Al(t u:TS):TS:=λD Z H=>t {D with nx:=u D} Z H
def t7:PSs X [] vM:=λ_ _ Z H _ I h=>GZ ⟨Z,H,I,h⟩
def eX(h1:PS X st t)(h2:PSs X rest u):PSs X (st::rest) (Al t u):=by
 intro Uq s Z H D I h;apply HV (thn (h1 Uq s Z H {D with nx:=u D} I h) λf s1 q=>?_);cases f with
 | next=>
  obtain⟨Z',H',I',q⟩:=q;exact h2 Uq s1 Z' H' D I' q
 | ret v=>exact q
 | brk=>exact q
 | cont=>exact q
def dU(h1:PS X st t):PSs X [st] t:=by
 intro Uq s Z H D I h;apply HV (thn (h1 Uq s Z H D I h) λf s1 q=>?_);cases f with
 | next=>exact GZ q
 | ret v=>exact q
 | brk=>exact q
 | cont=>exact q
def Inv.quiet{Uq:List (Addr×Obj)}{Z:St}{H:Hp}{s:EM}(I:Inv X Uq Z H s):interactive X.env=false:=by simp[interactive,I.ok.kind]
abbrev nD(te:TE):TS:=λD Z H=>te Z H λ_ H1=>D.nx Z H1
def gA(he:PE X e te)(hs:F9 e none pos.line X.env=pure false:=by rfl):PS X (.Expr e pos) (nD te):=by
 intro Uq s Z H D I h;exact wpAny_Expr_any (thn (he Uq s Z H _ I h) λv s1 ⟨x,H1,I1,r1,q1⟩=>⟨Z,H1,I1,q1⟩) I.quiet hs
abbrev Ak(te:TE):TS:=λD Z H=>te Z H D.rt
def xx(he:PE X e te):PS X (.Return (some e) pos) (Ak te):=by
 intro Uq s Z H D I h;exact wpAny_Return_some (thn (he Uq s Z H _ I h) λv s1 ⟨x,H1,I1,r1,q1⟩=>⟨x,Z,H1,I1,r1,q1⟩)
abbrev Ag(c:TT)(t u:TS):TS:=λD Z H=>c Z H λb H1=>if b=true then t D Z H1 else u D Z H1
def zI{c:Expr}{a b:List Stmt}{tc:TT}(hc:PT X c tc)(ha:PSs X a t)(hb:PSs X b u):PS X (.If c a b pos) (Ag tc t u):=by
 intro Uq s Z H D I h;apply wpAny_If (thn (hc Uq s Z H _ I h) λd s1 ⟨H1,I1,q1⟩=>?_);cases d with
 | true=>exact ha Uq s1 Z H1 D I1 q1
 | false=>exact hb Uq s1 Z H1 D I1 q1
end
protected def TG:=V->St->Hp->(St->Hp->Prop)->Prop
protected def TGs:=List V->St->Hp->(St->Hp->Prop)->Prop
abbrev PG(X:Cx)(target:Expr)(t:TG):Prop:=
 ∀(Uq:List (Addr×Obj)) (s:EM) (Z:St) (H:Hp) (v:V) (u:EK) (Q:St->Hp->Prop),Inv X Uq Z H s->RelV v u->t v Z H Q ->
  EY (ET X.prog X.w) X.A (GB target X.env u) (λ_ s'=>∃Z' H',Inv X Uq Z' H' s'/\Q Z' H') X.xe s
abbrev PGs(X:Cx)(ts:List Expr)(t:TGs):Prop:=
 ∀(Uq:List (Addr×Obj)) (s:EM) (Z:St) (H:Hp) (vs:List V) (us:List EK) (Q:St->Hp->Prop),Inv X Uq Z H s->Vals vs us->t vs Z H Q ->
  EY (ET X.prog X.w) X.A (Hm ((Fw ts X.env).map (·.2)) us) (λ_ s'=>∃Z' H',Inv X Uq Z' H' s'/\Q Z' H') X.xe s
protected def vV:=V->V->V->Hp->(Hp->Prop)->Prop
abbrev yL(X:Cx)(t:vV):Prop:=
 ∀(Uq:List (Addr×Obj)) (s:EM) (Z:St) (H:Hp) (o i v:V) (ov iv u:EK) (Q:Hp->Prop),Inv X Uq Z H s->RelV o ov->RelV i iv->RelV v u->t o i v H Q ->
  EY (ET X.prog X.w) X.A (setItem ov iv u) (λ_ s'=>∃H',Inv X Uq Z H' s'/\Q H') X.xe s
section
variable {X:Cx}{pos:Pos}
abbrev gM(i:Nat):TG:=λv Z H Q=>Q (Z.set i (some v)) H
def mX{i:Nat}{x:Str}(hN:X.N.Nodup)(hi:X.N[i]?=some x)(hx:Loc X.env.scope x)(hf:X.fn x=true\/X.env.scope.names.lookup x=some .local:=by first|exact .inl rfl|exact .inr rfl|assumption):PG X (.Name x pos) (gM i):=by
 intro Uq s Z H v u Q I r h;exact HC (fe I hN hi hx r (λs' I'=>⟨_,H,I',h⟩) hf)
abbrev wm:TGs:=λvs Z H Q=>vs=[]/\Q Z H
abbrev pD(t:TG)(u:TGs):TGs:=λvs Z H Q=>∃v r,vs=v::r/\t v Z H λZ' H'=>u r Z' H' Q
def tW:PGs X [] wm:=by
 intro Uq s Z H vs us Q I r h;obtain⟨e,h⟩:=h;subst e;cases r;exact HD ⟨Z,H,I,h⟩
def qC{e:Expr}{es:List Expr}{t:TG}{u:TGs}(h1:PG X e t)(h2:PGs X es u)
  (hs:(Fw (e::es) X.env).map (·.2)=GB e X.env::(Fw es X.env).map (·.2):=by rfl):PGs X (e::es) (pD t u):=by
 intro Uq s Z H vs us Q I r h;obtain⟨v,vr,e1,h⟩:=h;subst e1;cases r with
 | cons r rr=>
  rw[hs];apply Gs (thn (h1 Uq s Z H _ _ _ I r h) λ_ s1 ⟨Z1,H1,I1,q1⟩=>?_);exact h2 Uq s1 Z1 H1 _ _ Q I1 rr q1
abbrev sR(K:yF)(n:Nat)(t:TGs):TG:=λv Z H Q=>∃a xs,v=.ref a/\SqT K H a xs/\xs.length=n/\t xs Z H Q
def xr{es:List Expr}{k:Nat}{t:TGs}{n:Nat}(hc:X.calm=true)(h:PGs X es t)
  (hn:(Fw es X.env).length=n:=by rfl) (hst:(Fw es X.env).findIdx? (·.1)=none:=by rfl):PG X (.Tuple es k pos) (sR X.K n t):=by
 intro Uq s Z H v u Q I r hw;obtain⟨a,xs,e1,hq,hl,hw⟩:=hw;subst e1;cases r;obtain⟨its,rv,ht,hz⟩:=I.tuple hq;apply assign_Tuple_tuple (I.ok.hd hc) ht (by simp[hn,<-hl,rv.length]) hst λh' hx=>?_;have I1:Inv X Uq Z H {s with heap:=h'}:=I.kept (t':=s.toks) λb o e=>hx b o (BG (ES e)) e;exact h Uq _ Z H xs _ Q I1 (by exists rv) hw
abbrev za(to ti:TE)(t:vV):TG:=λv Z H Q=>to Z H λo H1=>ti Z H1 λi H2=>t o i v H2 λH3=>Q Z H3
def xq{o i:Expr}{to ti:TE}{t:vV}(ho:PE X o to)(hi:PE X i ti)(hs:yL X t)
  (ha:∀v,GB (.Subscript o i pos) X.env v=(do
   let ov <-F3 [v] (eval o X.env)
   let iv <-F3 [v,ov] (eval i X.env)
   GP pos
   F3 [v,ov,iv] (setItem ov iv v)
   release [v,ov,iv] []):=by intro _;rfl):PG X (.Subscript o i pos) (za to ti t):=by
 intro Uq s Z H v u Q I r h;rw[ha];apply EL (Fx (thn (ho Uq s Z H _ I h) λov s1 ⟨x,H1,I1,r1,q1⟩=>?_));apply EL (Fx (thn (hi Uq s1 Z H1 _ I1 q1) λiv s2 ⟨y,H2,I2,r2,q2⟩=>?_));apply EL (Gd (EL (Fx (thn (hs Uq s2 Z H2 x y v ov iv u _ I2 r1 r2 r q2) λ_ s3 ⟨H3,I3,q3⟩=>?_))));exact wpAny_release ⟨Z,H3,I3,q3⟩
abbrev uF(te:TE)(g:TG):TS:=λD Z H=>te Z H λx H1=>g x Z H1 D.nx
def xv{tg e:Expr}{te:TE}{g:TG}(he:PE X e te)(hg:PG X tg g)(hs:GC [tg] e pos.line X.env=pure false:=by rfl)(hw:GD [tg] e X.env=pure none:=by rfl)
  (h1:(Fw [tg] X.env).map (·.2)=[GB tg X.env]:=by rfl):PS X (.Assign [tg] e pos) (uF te g):=by
 intro Uq s Z H D I h;apply wpAny_Assign_stores (thn (he Uq s Z H _ I h) λv s1 ⟨x,H1,I1,r1,q1⟩=>?_) hs hw;rw[h1];exact thn (hg Uq s1 Z H1 x v _ I1 r1 q1) λ_ s2 q=>q
def xy{i:Nat}{x:Str}{e:Expr}{te:TE}{pos':Pos}(hN:X.N.Nodup)(hi:X.N[i]?=some x)(hx:Loc X.env.scope x)(he:PE X e te)(hs:F9 e (some (.Name x pos')) pos.line X.env=pure false:=by rfl)(hf:X.fn x=true\/X.env.scope.names.lookup x=some .local:=by first|exact .inl rfl|exact .inr rfl|assumption) :
  PS X (.Assign [.Name x pos'] e pos) (uF te (gM i)):=by
 intro Uq s Z H D I h;apply wpAny_Assign_Name (thn (he Uq s Z H _ I h) λv s1 ⟨y,H1,I1,r1,q1⟩=>?_) hs;exact fe I1 hN hi hx r1 (λs2 I2=>⟨_,H1,I2,q1⟩) hf
abbrev Aj(i j:Nat)(ta:TA):TS:=λD Z H=>ta Z H λvs H1=>∃v w,vs=[v,w]/\D.nx ((Z.set i (some v)).set j (some w)) H1
def xw{i j:Nat}{x y:Str}{a b:Expr}{ta:TA}{px py pt:Pos}{kt k2 pt2}(hc:X.calm=true)(hN:X.N.Nodup)(hi:X.N[i]?=some x)(hj:X.N[j]?=some y)(hij:i≠j)
  (hx:X.env.scope.names.lookup x=some .local) (hy:X.env.scope.names.lookup y=some .local) (ha:PA X [a,b] ta)
  (hw:GD [.Tuple [.Name x px,.Name y py] kt pt] (.Tuple [a,b] k2 pt2) X.env=pure (some [x,y]))
  (hs:GC [.Tuple [.Name x px,.Name y py] kt pt] (.Tuple [a,b] k2 pt2) pos.line X.env=pure false:=by rfl) :
  PS X (.Assign [.Tuple [.Name x px,.Name y py] kt pt] (.Tuple [a,b] k2 pt2) pos) (Aj i j ta):=by
 intro Uq s Z H D I h;rw[exec_Assign_arm];apply EL (Gd ?_);rw[hs];apply EL (EO ?_);rw[if_neg (by decide)];apply EL (Tuple_ (thn (ha _ Uq s Z H _ I h) λus s1 ⟨vs,H1,I1,r1,q1⟩=>?_));obtain⟨v,w,e1,q1⟩:=q1;subst e1;obtain⟨u1,u2,rfl,rv,rw'⟩:∃u1 u2,us=[u1,u2]/\RelV v u1/\RelV w u2:=by
  cases r1 with
  | cons p q=>
   cases q with
   | cons p' q'=>
    cases q';exact⟨_,_,rfl,p,p'⟩
 apply Fk ?_ (by show 2<=sizeLine;decide);have I2:Inv X Uq Z H1 {s1 with heap:=s1.heap.push {cls:=.type "tuple",data:=.seq [u1,u2].toArray}}:=I1.kept (t':=s1.toks) λb o e=>EN _ e;rw[hw];apply EL (EO ?_);show EY (ET X.prog X.w) X.A (do rule "assign.swapped-stores";let items <-unpackItems (.ref s1.heap.objs.size) 2 none;Hm [λv=>Ix X.env y v,λv=>Ix X.env x v] items.reverse;pure JD) _ _ _;apply EL (wpAny_rule (EL (unpackItems_tuple (items:=#[u1,u2]) (I.ok.hd hc) (Jh.new s1.heap _) λh' hx'=>?_)));have I3:=I2.kept (h':=h') (t':=s1.toks) λb o e=>hx' b o (BG (ES e)) e;show EY _ _ (Hm [λv=>Ix X.env y v,λv=>Ix X.env x v] [u2,u1] >>= λ_=>pure JD) _ _ _;apply EL (Gs (Iy (fe I3 hN hj (.inl hy) rw' (λs2 I4=>?_) (.inr hy))));apply Gs (Iy (fe I4 hN hi (.inl hx) rv (λs3 I5=>HD (EO ?_)) (.inr hx)));rw[List.set_comm _ _ (Ff hij)]at I5;exact⟨_,H1,I5,q1⟩
end
structure It where
 go:Nat->Hp->Prop
 yld:Nat->Hp->V->Hp->Prop
 stop:Nat->Hp->Prop
abbrev dX(X:Cx)(Uq:List (Addr×Obj))(H:Hp)(b:Addr):Prop:=
 H b=none/\b≠X.env.locals/\b∉X.fs/\(b∈X.ex\/X.s₀.heap.objs.size<=b)/\(∀x c,X.env.cells.lookup x=some c->c≠b)/\∀p∈X.pn++Uq,p.1≠b
def Inv.fpOk{X:Cx}{Uq:List (Addr×Obj)}{Z:St}{H H':Hp}{s:EM}{b:Addr}(I:Inv X Uq Z H s)(hb:s.heap.objs.size<=b)(hn:H' b=none):dX X Uq H' b:=by
 apply⟨hn,C9 (Bp I.lt hb),I.nofs hb,.inr (Bz I.sz hb),λx c e z=>?_,λp hp z=>?_⟩
 ·obtain⟨v,q⟩:=I.cell x c e;exact absurd (Bp q.lt (by rw[z];exact hb)) (B4 _)
 ·exact absurd (Bp (ES (I.pin p hp).1) (by rw[z];exact hb)) (B4 _)
structure EI(P:EU)(w:E4)(K:yF)(tg:Expr)(J:It)(fp:List Addr)(it:Addr)(tn:Nat->Heap->Prop):Prop where
 mem:it∈fp
 obj:∀i h,tn i h->∀b∈fp,∃o,h.get? b=some o/\∀v,o.data ≠ .cell v
 keep:∀i h h',tn i h->(∀b∈fp,∀o,h.get? b=some o->h'.get? b=some o)->tn i h'
 item:∀(X:Cx),X.prog=P->X.w=w->X.K=K->X.calm=true->∀(i:Nat) (Uq:List (Addr×Obj)) (s:EM) (Z:St) (H:Hp) (E:EK->EM->Prop),Inv X Uq Z H s->(∀b∈fp,dX X Uq H b)->tn i s.heap->J.go i H ->
  EY (ET P w) X.A (I0 (.ref it)) (λr s1=>∃u,r=some u /\
   EY (ET P w) X.A (Gf tg (.ref it) u) (λ_ s2=>∃x H',Inv X Uq Z H' s2/\RelV x u/\J.yld i H x H'/\tn (i+1) s2.heap/\∀b∈fp,H' b=none) E s1) E s
 done:∀(X:Cx),X.prog=P->X.w=w->X.K=K->X.calm=true->∀(i:Nat) (Uq:List (Addr×Obj)) (s:EM) (Z:St) (H:Hp) (E:EK->EM->Prop),Inv X Uq Z H s->(∀b∈fp,dX X Uq H b)->tn i s.heap->J.stop i H ->
  EY (ET P w) X.A (I0 (.ref it)) (λr s1=>r=none/\Inv X Uq Z H s1) E s
 self:∀(A:Fa) (i:Nat) (s:EM) (Q:EK->EM->Prop) (E:EK->EM->Prop),tn i s.heap->Q (.ref it) s->EY (ET P w) A (Jt (.ref it)) Q E s
protected def TI:=St->Hp->(It->Hp->Prop)->Prop
abbrev PIE(X:Cx)(Uq:List (Addr×Obj))(Z:St)(tg:Expr)(R:It->Hp->Prop)(itv:EK)(s2:EM):Prop:=
 ∃(it:Addr) (fp:List Addr) (tn:Nat->Heap->Prop) (J:It) (H':Hp),itv=.ref it/\Inv X Uq Z H' s2/\EI X.prog X.w X.K tg J fp it tn/\tn 0 s2.heap/\(∀b∈fp,dX X Uq H' b)/\R J H'
abbrev PI(X:Cx)(tg iter:Expr)(wi:TI):Prop:=
 ∀(Uq:List (Addr×Obj)) (s:EM) (Z:St) (H:Hp) (R:It->Hp->Prop),Inv X Uq Z H s->wi Z H R ->
  EY (ET X.prog X.w) X.A (eval iter X.env) (λv s1=>EY (ET X.prog X.w) X.A (Jt v) (PIE X Uq Z tg R) X.xe s1) X.xe s
def mJ{M:JA}{A:Fa}{E:EK->EM->Prop}{s:EM}{tg:Expr}{it:Addr}{u:EK}{o:Obj}{n:String}{vs:Array EK}{Q:Unit->EM->Prop}(ho:s.heap.get? it=some o)(hc:o.cls=.type n)(hd:o.data=.fields vs)
  (hn:["enumerate","zip","dict_itemiterator","dict_reverseitemiterator","odict_iterator","itertools.zip_longest","itertools.pairwise"].contains n=false) (hQ:Q () s):EY M A (Gf tg (.ref it) u) Q E s:=by
 unfold Gf;cases tg<;>first
  | exact EO hQ
  | (cases u<;>first
    | exact EO hQ
    | (refine EL (wpAny_load ho ?_)
       rw[hc,hd];show EY M A (if(["enumerate","zip","dict_itemiterator","dict_reverseitemiterator","odict_iterator","itertools.zip_longest","itertools.pairwise"].contains n&&vs[0]? == some (rawInt _))=true then _ else _) Q E s;rw[if_neg (by intro h;rw[hn,DT]at h;cases h)];exact EO hQ))
abbrev Itl(K:yF) (a:Addr):It:=
 ⟨λi H=>∃xs x,SqL K H a xs/\xs[i]?=some x,λi H x H'=>H'=H/\∀xs,SqL K H a xs->xs[i]?=some x,λi H=>∃xs,SqL K H a xs/\xs.length<=i⟩
abbrev Itt(K:yF) (a:Addr):It:=
 ⟨λi H=>∃xs x,SqT K H a xs/\xs[i]?=some x,λi H x H'=>H'=H/\∀xs,SqT K H a xs->xs[i]?=some x,λi H=>∃xs,SqT K H a xs/\xs.length<=i⟩
abbrev Itr(lo:Int) (n:Nat):It:=⟨λi _=>i<n,λi H x H'=>H'=H/\x=.int (lo+i),λi _=>n<=i⟩
def oQ{P:EU}{w:E4}{K:yF}{tg:Expr}(a it:Addr):EI P w K tg (Itl K a) [it] it (λi h=>h.IsListIter it a i) where
 mem:=by simp
 obj:=λi h st b hb=>by
  have e:b=it:=by exists hb
  subst e;obtain⟨o,e,c,d⟩:=st;exact⟨o,e,λv z=>by rw[d]at z;cases z⟩
 keep:=λi h h' st k=>st.at λo e=>k it ∅ o e
 item:=by
  intro X hP hw hK hc i Uq s Z H E I hf st hg;subst hP hw hK;obtain⟨xs,x,hq,hx⟩:=hg;obtain⟨its,rv,p,hz⟩:=I.list hq;obtain⟨u,hu,ru⟩:=rv.get hx;obtain⟨f0,f1,f2,f3,f4,f5⟩:=hf it ∅;apply wpAny_pyNext_list_item st p.isList (x:=u) (by exists hu) λh' st' sb=>?_;have I1:Inv X Uq Z H {s with heap:=h'}:=I.turned (t':=s.toks) (λb o hb e=>(sb.2 b hb).trans e) f0 f1 f3 f4 f5;obtain⟨o,e,c,d⟩:=id st';exact⟨u,rfl,mJ (s:={s with heap:=h'}) e c d (by decide) ⟨x,H,I1,ru,⟨rfl,λys hy=>by rw[I.list_inj hy hq];exact hx⟩,st',λb hb=>(hf b hb).1⟩⟩
 done:=by
  intro X hP hw hK hc i Uq s Z H E I hf st hg;subst hP hw hK;obtain⟨xs,hq,hx⟩:=hg;obtain⟨its,rv,p,hz⟩:=I.list hq;obtain⟨f0,f1,f2,f3,f4,f5⟩:=hf it ∅;have hl:=rv.length;exact wpAny_pyNext_list_end (I.ok.hd hc) st p.isList (by simp;omega) λh' eb=>⟨rfl,I.turned (t':=s.toks) (λb o hb e=>eb b o hb e) f0 f1 f3 f4 f5⟩
 self:=λ_ _ _ _ _ st h=>wpAny_pyIter_listiter st h
def l7{P:EU}{w:E4}{K:yF}{tg:Expr}(a it:Addr):EI P w K tg (Itt K a) [it] it (λi h=>h.IsTupleIter it a i) where
 mem:=by simp
 obj:=λi h st b hb=>by
  have e:b=it:=by exists hb
  subst e;obtain⟨o,e,c,d⟩:=st;exact⟨o,e,λv z=>by rw[d]at z;cases z⟩
 keep:=λi h h' st k=>st.at λo e=>k it ∅ o e
 item:=by
  intro X hP hw hK hc i Uq s Z H E I hf st hg;subst hP hw hK;obtain⟨xs,x,hq,hx⟩:=hg;obtain⟨its,rv,p,hz⟩:=I.tuple hq;obtain⟨u,hu,ru⟩:=rv.get hx;obtain⟨f0,f1,f2,f3,f4,f5⟩:=hf it ∅;apply wpAny_pyNext_tuple_item st (show s.heap.IsTuple a its.toArray from p) (x:=u) (by exists hu) λh' st' sb=>?_;have I1:Inv X Uq Z H {s with heap:=h'}:=I.turned (t':=s.toks) (λb o hb e=>(sb.2 b hb).trans e) f0 f1 f3 f4 f5;obtain⟨o,e,c,d⟩:=id st';exact⟨u,rfl,mJ (s:={s with heap:=h'}) e c d (by decide) ⟨x,H,I1,ru,⟨rfl,λys hy=>by rw[I.tuple_inj hy hq];exact hx⟩,st',λb hb=>(hf b hb).1⟩⟩
 done:=by
  intro X hP hw hK hc i Uq s Z H E I hf st hg;subst hP hw hK;obtain⟨xs,hq,hx⟩:=hg;obtain⟨its,rv,p,hz⟩:=I.tuple hq;obtain⟨f0,f1,f2,f3,f4,f5⟩:=hf it ∅;have hl:=rv.length;exact wpAny_pyNext_tuple_end (I.ok.hd hc) st (show s.heap.IsTuple a its.toArray from p) (by simp;omega) λh' eb=>⟨rfl,I.turned (t':=s.toks) (λb o hb e=>eb b o hb e) f0 f1 f3 f4 f5⟩
 self:=λ_ _ _ _ _ st h=>wpAny_pyIter_tupleiter st h
def l6{P:EU}{w:E4}{K:yF}{tg:Expr}(it:Addr)(lo:Int)(n:Nat):EI P w K tg (Itr lo n) [it] it (λi h=>IsRangeIter h it (lo+(i:Nat)*1) ((n:Int)-(i:Nat)) 1) where
 mem:=by simp
 obj:=λi h st b hb=>by
  have e:b=it:=by exists hb
  subst e;exact⟨_,st,λv z=>by
   have z':Data.fields _=Data.cell v:=z;cases z'⟩
 keep:=λi h h' st k=>k it ∅ _ st
 item:=by
  intro X hP hw hK hc i Uq s Z H E I hf st hg;subst hP hw hK;obtain⟨f0,f1,f2,f3,f4,f5⟩:=hf it ∅;have W:=Walks.range (prog:=X.prog) (w:=X.w) (I.ok.hd hc) it lo 1 n;apply W.item i s _ _ hg st λv h' tk hv st' kk=>?_;obtain⟨t,rfl⟩:=hv;have I1:Inv X Uq Z H {s with heap:=h',toks:=tk}:=I.turned (λb o hb e=>kk b o (by exists hb) e) f0 f1 f3 f4 f5;apply⟨_,rfl,mJ (s:={s with heap:=h',toks:=tk}) (n:="range_iterator") st' rfl rfl (by decide) ⟨.int (lo+i),H,I1,⟨t,?_⟩,⟨rfl,rfl⟩,st',λb hb=>(hf b hb).1⟩⟩;rw[Int.mul_one]
 done:=by
  intro X hP hw hK hc i Uq s Z H E I hf st hg;subst hP hw hK;obtain⟨f0,f1,f2,f3,f4,f5⟩:=hf it ∅;exact wpAny_pyNext_range_end (I.ok.hd hc) st (by have:n<=i:=hg;omega) λh' eb=>⟨rfl,I.turned (t':=s.toks) (λb o hb e=>eb b o hb e) f0 f1 f3 f4 f5⟩
 self:=λ_ _ _ _ _ st h=>wpAny_pyIter_rangeiter st h
section
variable {X:Cx}{tg:Expr}
abbrev kC(K:yF)(tl:TE):TI:=λZ H R=>tl Z H λx H1=>∃a,x=.ref a/\(∃xs,SqL K H1 a xs)/\R (Itl K a) H1
abbrev sU(K:yF)(tl:TE):TI:=λZ H R=>tl Z H λx H1=>∃a,x=.ref a/\(∃xs,SqT K H1 a xs)/\R (Itt K a) H1
def mY{l:Expr}{tl:TE}(hl:PE X l tl):PI X tg l (kC X.K tl):=by
 intro Uq s Z H R I h;apply thn (hl Uq s Z H _ I h) λv s1 ⟨x,H1,I1,r1,q1⟩=>?_;obtain⟨a,e,⟨xs,hq⟩,q⟩:=q1;subst e;cases r1;obtain⟨its,rv,p,hz⟩:=I1.list hq;apply wpAny_pyIter_list p.isList ?_;apply⟨s1.heap.objs.size,[s1.heap.objs.size],_,_,H1,rfl,I1.kept (t':=s1.toks) λb o e=>EN _ e,oQ a _,⟨_,E9 _ rfl,rfl,rfl⟩,λb hb=>?_,q⟩;have e:b=s1.heap.objs.size:=by exists hb
 subst e;exact I1.fpOk (Bg _) (I1.hok.fresh (Bg _))
def xu{l:Expr}{tl:TE}(hl:PE X l tl):PI X tg l (sU X.K tl):=by
 intro Uq s Z H R I h;apply thn (hl Uq s Z H _ I h) λv s1 ⟨x,H1,I1,r1,q1⟩=>?_;obtain⟨a,e,⟨xs,hq⟩,q⟩:=q1;subst e;cases r1;obtain⟨its,rv,p,hz⟩:=I1.tuple hq;apply wpAny_pyIter_tuple (show s1.heap.IsTuple a its.toArray from p) ?_;apply⟨s1.heap.objs.size,[s1.heap.objs.size],_,_,H1,rfl,I1.kept (t':=s1.toks) λb o e=>EN _ e,l7 a _,⟨_,E9 _ rfl,rfl,rfl⟩,λb hb=>?_,q⟩;have e:b=s1.heap.objs.size:=by exists hb
 subst e;exact I1.fpOk (Bg _) (I1.hok.fresh (Bg _))
def rA{Uq:List (Addr×Obj)}{Z:St}{H:Hp}{s:EM}{R:It->Hp->Prop}{E:EK->EM->Prop}{lo hi:Int}{t u v:Tok}{tk:Nat}(I:Inv X Uq Z H s)(h1 : -(2^62)<=lo)(h2:lo<2^62)(h3 : -(2^62)<=hi)(h4:hi<2^62)
  (q:R (Itr lo (hi-lo).toNat) H):EY (ET X.prog X.w) X.A (Jt (.ref s.heap.objs.size)) (PIE X Uq Z tg R) E {s with heap:=s.heap.push {cls:=.type "range",data:=.fields #[.int lo t,.int hi u,.int 1 v]},toks:=tk}:=by
 apply wpAny_pyIter_range (IsRange.new ..) (small_one h1 h2 h3 h4) ?_;have I1:Inv X Uq Z H {s with heap:=s.heap.push {cls:=.type "range",data:=.fields #[.int lo t,.int hi u,.int 1 v]},toks:=tk}:=I.kept λb o e=>EN _ e;apply⟨(s.heap.push {cls:=.type "range",data:=.fields #[.int lo t,.int hi u,.int 1 v]}).objs.size,[(s.heap.push {cls:=.type "range",data:=.fields #[.int lo t,.int hi u,.int 1 v]}).objs.size],_,_,H,rfl,
  I1.kept (t':=tk) λb o e=>EN _ e,l6 _ lo (hi-lo).toNat,?_,λb hb=>?_,q⟩
 ·have e1:lo+((0:Nat):Int)*1=lo:=by simp
  have e2:(((hi-lo).toNat:Nat):Int)-((0:Nat):Int)=IV lo hi 1:=by rw[rangeSize_one];split<;>omega
  show IsRangeIter _ _ (lo+((0:Nat):Int)*1) ((((hi-lo).toNat:Nat):Int)-((0:Nat):Int)) 1;rw[e1,e2];exact E9 _ rfl
 ·have e:b=(s.heap.push {cls:=.type "range",data:=.fields #[.int lo t,.int hi u,.int 1 v]}).objs.size:=by exists hb
  subst e;exact I1.fpOk (Bg _) (I1.hok.fresh (Bg _))
abbrev u7(ta:TA):TI:=λZ H R=>ta Z H λvs H1=>∃j:Int,vs=[.int j]/\-(2^62)<=j/\j<2^62/\R (Itr 0 j.toNat) H1
def oy{a:Expr}{ta:TA}{p pos:Pos}(hg:Gl X "range")(hm:X.mg "range" = none)(ha:PA X [a] ta)(hs:E5 [a] X.env=[(false,eval a X.env)]:=by rfl):PI X tg (.Call (.Name "range" p) [a] [] pos) (u7 ta):=by
 intro Uq s Z H R I h;apply Call_ (fB I hg hm boot_range (Ct (thn (ha pos Uq s Z H _ I h) λus s1 ⟨vs,H1,I1,r1,q1⟩=>?_) hs rfl));obtain⟨j,e,q1,q2,q⟩:=q1;subst e;cases r1 with
 | cons r rr=>
  cases rr;obtain⟨t,rfl⟩:=r;exact call_range_1 (rA I1 ⋯ ⋯ q1 q2 (by exists q))
abbrev ya(wi:TI)(g:TG)(tb:TS):TS:=λD Z H=>wi Z H λJ H1=>∃W:Nat->Nat->St->Hp->Prop,(∃m,W 0 m Z H1)/\∀i m Z H,W i m Z H ->
 (J.stop i H/\D.nx Z H)\/(J.go i H/\∃N:St->Hp->Prop,(∀Z' H',N Z' H'->∃m',m'<m/\W (i+1) m' Z' H')/\∀x H',J.yld i H x H'->g x Z H' λZ2 H2=>tb {D with nx:=N,ct:=N,bk:=D.nx} Z2 H2)
abbrev ib(fp:List Addr) (h:Heap):List (Addr×Obj):=fp.filterMap λb=>(h.get? b).map λo=>(b,o)
def da{fp:List Addr}{h:Heap}{b:Addr}{o:Obj}(hb:b∈fp)(e:h.get? b=some o):(b,o)∈ib fp h:=BE.mpr ⟨b,hb,by rw[e];rfl⟩
def oo{fp:List Addr}{h:Heap}{p:Addr×Obj}(hp:p∈ib fp h):p.1∈fp/\h.get? p.1=some p.2:=by
 obtain⟨b,hb,e⟩:=BE.mp hp;cases q:h.get? b with
 | none=>rw[q]at e;cases e
 | some o=>
  rw[q]at e;have e':(b,o)=p:=Bq.inj e;subst e';exact⟨hb,q⟩
def Inv.pinned{Uq:List (Addr×Obj)}{Z:St}{H:Hp}{s:EM}{fp:List Addr}(I:Inv X Uq Z H s)(hf:∀b∈fp,dX X Uq H b)(ho:∀b∈fp,∃o,s.heap.get? b=some o/\∀v,o.data ≠ .cell v):Inv X (Uq++ib fp s.heap) Z H s:=
 I.pins_of λp hp=>(yaM hp).elim (λz=>I.pin p (yaR _ z)) λz=>by
  obtain⟨hb,e⟩:=oo z;obtain⟨f0,f1,f2,_⟩:=hf p.1 hb;obtain⟨o,e',d⟩:=ho p.1 hb;rw[e]at e';cases e';exact⟨e,f0,f1,f2,d⟩
def Inv.unpinned{Uq pl:List (Addr×Obj)}{Z:St}{H:Hp}{s:EM}(I:Inv X (Uq++pl) Z H s):Inv X Uq Z H s:=I.pins_of λp hp=>I.pin p (yaR _ (yaL _ hp))
def qW{iter:Expr}{body:List Stmt}{wi:TI}{g:TG}{tb:TS}{pos:Pos}(hp:Gq (ET X.prog X.w) X.A X.env X.xe)(hc:X.calm=true)(hi:PI X tg iter wi)(hg:PG X tg g)(hb:PSs X body tb)
  (hs:∀x,Fu iter X.env x=pure x:=by intro _;rfl):PS X (.For tg iter body [] pos) (ya wi g tb):=by
 intro Uq s Z H D I h;apply wpAny_For (thn (hi Uq s Z H _ I h) λv s1 h1=>thn h1 λitv s2 h2=>?_) hs;obtain⟨it,fp,tn,J,H2,e,I2,T,st2,f2,W,⟨m0,w0⟩,turn⟩:=h2;subst e;have stat:∀{H':Hp},(∀b∈fp,H' b=none)->∀b∈fp,dX X Uq H' b:=λhn b hb=>⟨hn b hb,(f2 b hb).2⟩;apply codeAny_forLoop_any (λn s'=>∃i Z' H',Inv X Uq Z' H' s'/\tn i s'.heap/\(∀b∈fp,H' b=none)/\W i n Z' H') ?_ m0 ⟨0,Z,H2,I2,st2,λb hb=>(f2 b hb).1,w0⟩;rintro n s3 ⟨i,Z3,H3,I3,st3,fr3,w3⟩;rcases turn i n Z3 H3 w3 with⟨stop,qn⟩|⟨go,N,hN,step⟩
 ·apply FR hp (thn (T.done X rfl rfl rfl hc i Uq s3 Z3 H3 X.xe I3 (stat fr3) st3 stop) λr s4 ⟨hr,I4⟩=>?_);subst hr;exact GZ ⟨Z3,H3,I4,qn⟩
 ·apply FR hp (thn (T.item X rfl rfl rfl hc i Uq s3 Z3 H3 X.xe I3 (stat fr3) st3 go) λr s4 ⟨u,hr,h4⟩=>?_);subst hr;apply FR hp (thn h4 λ_ s5 ⟨x,H5,I5,r5,y5,st5,fr5⟩=>?_);have I5':=I5.pinned (stat fr5) (T.obj _ _ st5);apply FR hp (thn (hg _ s5 Z3 H5 x u _ I5' r5 (step x H5 y5)) λ_ s6 ⟨Z6,H6,I6,q6⟩=>?_);apply FR hp (thn (hb _ s6 Z6 H6 _ I6 q6) λf s7 q7=>?_);have again:∀{Z7:St} {H7:Hp},Inv X (Uq++ib fp s5.heap) Z7 H7 s7->N Z7 H7->∃m,m<n/\∃i Z' H',Inv X Uq Z' H' s7/\tn i s7.heap/\(∀b∈fp,H' b=none)/\W i m Z' H':=λ{Z7 H7} I7 n7=>by
   obtain⟨m',hm,w7⟩:=hN Z7 H7 n7;apply⟨m',hm,i+1,Z7,H7,I7.unpinned,T.keep _ _ _ st5 λb hb o e=>(I7.pin (b,o) (yaR _ (yaR _ (da hb e)))).1,λb hb=>?_,w7⟩;obtain⟨o,e,d⟩:=T.obj _ _ st5 b hb;exact(I7.pin (b,o) (yaR _ (yaR _ (da hb e)))).2.1
  cases f with
  | next=>obtain⟨Z7,H7,I7,n7⟩:=q7;exact again I7 n7
  | cont=>obtain⟨Z7,H7,I7,n7⟩:=q7;exact again I7 n7
  | brk=>obtain⟨Z7,H7,I7,q7⟩:=q7;exact⟨Z7,H7,I7.unpinned,q7⟩
  | ret v=>obtain⟨x7,Z7,H7,I7,r7,q7⟩:=q7;exact⟨x7,Z7,H7,I7.unpinned,r7,q7⟩
end
protected def R2:=V->V->Hp->VK->Prop
abbrev OpR(X:Cx)(f:EK->EK->Sem EK)(r:R2):Prop:=
 ∀(Uq:List (Addr×Obj)) (s:EM) (Z:St) (H:Hp) (x y:V) (v u:EK) (Q:VK),Inv X Uq Z H s->RelV x v->RelV y u->r x y H Q ->
  EY (ET X.prog X.w) X.A (f v u) (EP X Uq Z Q) X.xe s
abbrev UnR(X:Cx)(f:EK->Sem EK)(r:V->Hp->VK->Prop):Prop:=
 ∀(Uq:List (Addr×Obj)) (s:EM) (Z:St) (H:Hp) (x:V) (v:EK) (Q:VK),Inv X Uq Z H s->RelV x v->r x H Q ->
  EY (ET X.prog X.w) X.A (f v) (EP X Uq Z Q) X.xe s
abbrev Ej(X:Cx)(f:EK)(r:List V->Hp->VK->Prop):Prop:=
 ∀(Uq:List (Addr×Obj)) (s:EM) (Z:St) (H:Hp) (xs:List V) (us:List EK) (Q:VK),Inv X Uq Z H s->Vals xs us->r xs H Q ->
  EY (ET X.prog X.w) X.A (call f us) (EP X Uq Z Q) X.xe s
abbrev tOp(r:R2)(ta tb:TE):TE:=λZ H Q=>ta Z H λx H1=>tb Z H1 λy H2=>r x y H2 Q
abbrev tUn(r:V->Hp->VK->Prop)(ta:TE):TE:=λZ H Q=>ta Z H λx H1=>r x H1 Q
abbrev rI(C:Int->Int->Prop)(g:Int->Int->V):R2:=λx y H Q=>∃i j,x=.int i/\y=.int j/\C i j/\Q (g i j) H
abbrev rI0(g:Int->Int->V):R2:=λx y H Q=>∃i j,x=.int i/\y=.int j/\Q (g i j) H
abbrev rU(g:Int->V):V->Hp->VK->Prop:=λx H Q=>∃i,x=.int i/\Q (g i) H
section
variable {X:Cx}{a b c:Expr}{ta tb tc:TE}{pos:Pos}
def vZ(ha:PE X a ta)(hb:PE X b tb){Uq:List (Addr×Obj)}{s:EM}{Z:St}{H:Hp}{R:V->V->Hp->Prop}(I:Inv X Uq Z H s)
  (h:ta Z H λx H1=>tb Z H1 λy H2=>R x y H2) {Q:EK->EM->Prop} {f:EK->EK->Sem EK}
  (hf:∀v u s2 x y H2,Inv X Uq Z H2 s2->RelV x v->RelV y u->R x y H2->EY (ET X.prog X.w) X.A (f v u) Q X.xe s2) :
  EY (ET X.prog X.w) X.A (eval a X.env) (λv s₁=>EY (ET X.prog X.w) X.A (eval b X.env) (λu s₂=>EY (ET X.prog X.w) X.A (f v u) Q X.xe s₂) X.xe s₁) X.xe s:=by
 apply thn (ha Uq s Z H _ I h) λv s1 ⟨x,H1,I1,r1,q1⟩=>?_;apply thn (hb Uq s1 Z H1 _ I1 q1) λu s2 ⟨y,H2,I2,r2,q2⟩=>?_;exact hf v u s2 x y H2 I2 r1 r2 q2
def zG{op:Operator}{r:R2}(ho:OpR X (Fh op) r)(ha:PE X a ta)(hb:PE X b tb):PE X (.BinOp a op b pos) (tOp r ta tb):=by
 intro Uq s Z H Q I h;exact wpAny_BinOp (vZ ha hb I h λv u s2 x y H2 I2 rx ry q=>ho Uq s2 Z H2 x y v u Q I2 rx ry q)
def zH{op:UnaryOp}{r:V->Hp->VK->Prop}(ho:UnR X (unaryOp op) r)(ha:PE X a ta):PE X (.UnaryOp op a pos) (tUn r ta):=by
 intro Uq s Z H Q I h;exact UnaryOp_ (thn (ha Uq s Z H _ I h) λv s1 ⟨x,H1,I1,r1,q1⟩=>ho Uq s1 Z H1 x v Q I1 r1 q1)
def opI{f:EK->EK->Sem EK}{C:Int->Int->Prop}{g:Int->Int->Int}
  (rule:∀(i j:Int) (t u:Tok) (s:EM) (Q:EK->EM->Prop) (E:EK->EM->Prop),C i j->Q (.int (g i j) s.toks) {s with toks:=s.toks+1}->EY (ET X.prog X.w) X.A (f (.int i t) (.int j u)) Q E s) :
  OpR X f (rI C λi j=>.int (g i j)):=by
 intro Uq s Z H x y v u Q I rx ry h;obtain⟨i,j,rfl,rfl,hc,q⟩:=h;obtain⟨t,rfl⟩:=rx;obtain⟨t',rfl⟩:=ry;exact rule i j t t' s _ _ hc ⟨.int (g i j),H,I.tok _,⟨_,rfl⟩,q⟩
def zq{f:EK->EK->Sem EK}{g:Int->Int->Int}
  (rule:∀(i j:Int) (t u:Tok) (s:EM) (Q:EK->EM->Prop) (E:EK->EM->Prop),Q (.int (g i j) s.toks) {s with toks:=s.toks+1}->EY (ET X.prog X.w) X.A (f (.int i t) (.int j u)) Q E s) :
  OpR X f (rI0 λi j=>.int (g i j)):=by
 intro Uq s Z H x y v u Q I rx ry h;obtain⟨i,j,rfl,rfl,q⟩:=h;obtain⟨t,rfl⟩:=rx;obtain⟨t',rfl⟩:=ry;exact rule i j t t' s _ _ ⟨.int (g i j),H,I.tok _,⟨_,rfl⟩,q⟩
def wK{f:EK->EK->Sem EK}{g:Int->Int->Bool}
  (rule:∀(i j:Int) (t u:Tok) (s:EM) (Q:EK->EM->Prop) (E:EK->EM->Prop),Q (.bool (g i j)) s->EY (ET X.prog X.w) X.A (f (.int i t) (.int j u)) Q E s) :
  OpR X f (rI0 λi j=>.bl (g i j)):=by
 intro Uq s Z H x y v u Q I rx ry h;obtain⟨i,j,rfl,rfl,q⟩:=h;obtain⟨t,rfl⟩:=rx;obtain⟨t',rfl⟩:=ry;exact rule i j t t' s _ _ ⟨.bl (g i j),H,I,rfl,q⟩
abbrev vT(i j:Int):Prop:=0<=j/\j<=1000000/\i.natAbs<2^64
abbrev EG(i j:Int):Prop:=(-(2^64)<i/\i<2^64)\/(-(2^64)<j/\j<2^64)
def EG.ok{i j:Int}(h:EG i j):IntMulOk i j:=by
 rcases h with⟨h1,h2⟩|⟨h1,h2⟩;exact .of_left (intBits_le_64 h1 h2);exact .of_right (intBits_le_64 h1 h2)
def op_add:OpR X (Fh .Add) (rI0 λi j=>.int (i+j)):=zq λ_ _ _ _ _ _ _ q=>add_int q
def wY:OpR X (Fh .Sub) (rI0 λi j=>.int (i-j)):=zq λ_ _ _ _ _ _ _ q=>sub_int q
def op_mul:OpR X (Fh .Mult) (rI EG λi j=>.int (i*j)):=opI λ_ _ _ _ _ _ _ hc q=>mul_int q hc.ok
def wS:OpR X (Fh .Mod) (rI (λ_ j=>0<j) λi j=>.int (i % j)):=opI λi j _ _ _ _ _ hc q=>by
 have h1:(0:Int)<j:=hc;exact mod_int' ⋯ (by rw[Int.fmod_eq_emod_of_nonneg i ⋯];exact q)
def wX:OpR X (Fh .Pow) (rI vT λi j=>.int (i^j.toNat)):=opI λ_ _ _ _ _ _ _ hc q=>pow_int_small hc.1 hc.2.1 hc.2.2 q
def unI{f:EK->Sem EK}{g:Int->Int}
  (rule:∀(i:Int) (t:Tok) (s:EM) (Q:EK->EM->Prop) (E:EK->EM->Prop),Q (.int (g i) s.toks) {s with toks:=s.toks+1}->EY (ET X.prog X.w) X.A (f (.int i t)) Q E s) :
  UnR X f (rU λi=>.int (g i)):=by
 intro Uq s Z H x v Q I rx h;obtain⟨i,rfl,q⟩:=h;obtain⟨t,rfl⟩:=rx;exact rule i t s _ _ ⟨.int (g i),H,I.tok _,⟨_,rfl⟩,q⟩
def yg:UnR X (unaryOp .USub) (rU λi=>.int (-i)):=unI λ_ _ _ _ _ q=>neg_int q
end
abbrev rR:V->V->Bool
 | .non,.non=>true|.non,.int _=>true|.int _,.non=>true|.non,.bl _=>true|.bl _,.non=>true|.non,.str _=>true|.str _,.non=>true
 | .int _,.int _=>true|.bl _,.bl _=>true|.str _,.str _=>true|.byt _,.byt _=>true
 | .int _,.str _=>true|.str _,.int _=>true|.bl _,.str _=>true|.str _,.bl _=>true
 | _,_=>false
abbrev rEq:R2:=λx y H Q=>rR x y=true/\Q (.bl (decide (x=y))) H
abbrev rNe:R2:=λx y H Q=>rR x y=true/\Q (.bl (!decide (x=y))) H
def mD{i j:Int}:decide (V.int i=V.int j)=(i==j):=by
 rw[BZ];simp
def o9{i j:Bool}:decide (V.bl i=V.bl j)=(i==j):=by
 rw[BZ];simp
def mE{i j:Str}:decide (V.str i=V.str j)=(i==j):=by
 rw[BZ];simp
def mz{i j:Array UInt8}:decide (V.byt i=V.byt j)=(i.toList==j.toList):=by
 rw[BZ];cases i;cases j;simp
section
variable {X:Cx}{a b c:Expr}{ta tb tc:TE}{pos:Pos}
def aI{Uq:List (Addr×Obj)}{Z:St}{H:Hp}{s:EM}{Q:VK}{k k':Bool}(I:Inv X Uq Z H s)(q:Q (.bl k) H)(e:k=k'):EP X Uq Z Q (.bool k') s:=by
 subst e;exact⟨.bl k,H,I,rfl,q⟩
def op_eq:OpR X (Fe .Eq) rEq:=by
 intro Uq s Z H x y v u Q I rx ry h;obtain⟨hs,q⟩:=h;cases x with
 | non=>
  cases rx;cases y with
  | non=>cases ry;exact PySem.EqNone.eq_none_none (aI I q ∅)
  | bl j=>cases ry;exact PySem.EqNone.eq_none_bool (aI I q ∅)
  | int j=>obtain⟨t',rfl⟩:=ry;exact PySem.EqNone.eq_none_int (aI I q ∅)
  | str j=>obtain⟨t',rfl⟩:=ry;exact PySem.EqNone.eq_none_str (aI I q ∅)
  | _=>exact absurd (show false=true from hs) Bl
 | bl i=>
  cases rx;cases y with
  | non=>cases ry;exact PySem.EqNone.eq_bool_none (aI I q ∅)
  | bl j=>cases ry;exact eq_bool (aI I q o9)
  | str j=>obtain⟨t',rfl⟩:=ry;exact PySem.EqMixed.eq_bool_str (aI I q ∅)
  | _=>exact absurd (show false=true from hs) Bl
 | int i=>
  obtain⟨t,rfl⟩:=rx;cases y with
  | non=>cases ry;exact PySem.EqNone.eq_int_none (aI I q ∅)
  | int j=>obtain⟨t',rfl⟩:=ry;exact eq_int (aI I q mD)
  | str j=>obtain⟨t',rfl⟩:=ry;exact PySem.EqMixed.eq_int_str (aI I q ∅)
  | _=>exact absurd (show false=true from hs) Bl
 | str i=>
  obtain⟨t,rfl⟩:=rx;cases y with
  | non=>cases ry;exact PySem.EqNone.eq_str_none (aI I q ∅)
  | bl j=>cases ry;exact PySem.EqMixed.eq_str_bool (aI I q ∅)
  | int j=>obtain⟨t',rfl⟩:=ry;exact PySem.EqMixed.eq_str_int (aI I q ∅)
  | str j=>obtain⟨t',rfl⟩:=ry;exact eq_str (aI I q mE)
  | _=>exact absurd (show false=true from hs) Bl
 | byt i=>
  obtain⟨t,rfl⟩:=rx;cases y with
  | byt j=>obtain⟨t',rfl⟩:=ry;exact PySem.W.eq_bytes (aI I q mz)
  | _=>exact absurd (show false=true from hs) Bl
 | _=>cases y<;>exact absurd (show false=true from hs) Bl
def op_ne:OpR X (Fe .NotEq) rNe:=by
 intro Uq s Z H x y v u Q I rx ry h;obtain⟨hs,q⟩:=h;cases x with
 | non=>
  cases rx;cases y with
  | non=>cases ry;exact PySem.EqNone.ne_none_none (aI I q ∅)
  | bl j=>cases ry;exact PySem.EqNone.ne_none_bool (aI I q ∅)
  | int j=>obtain⟨t',rfl⟩:=ry;exact PySem.EqNone.ne_none_int (aI I q ∅)
  | str j=>obtain⟨t',rfl⟩:=ry;exact PySem.EqNone.ne_none_str (aI I q ∅)
  | _=>exact absurd (show false=true from hs) Bl
 | bl i=>
  cases rx;cases y with
  | non=>cases ry;exact PySem.EqNone.ne_bool_none (aI I q ∅)
  | bl j=>cases ry;exact ne_bool (aI I q (congrArg not o9))
  | str j=>obtain⟨t',rfl⟩:=ry;exact PySem.EqMixed.ne_bool_str (aI I q ∅)
  | _=>exact absurd (show false=true from hs) Bl
 | int i=>
  obtain⟨t,rfl⟩:=rx;cases y with
  | non=>cases ry;exact PySem.EqNone.ne_int_none (aI I q ∅)
  | int j=>obtain⟨t',rfl⟩:=ry;exact ne_int (aI I q (congrArg not mD))
  | str j=>obtain⟨t',rfl⟩:=ry;exact PySem.EqMixed.ne_int_str (aI I q ∅)
  | _=>exact absurd (show false=true from hs) Bl
 | str i=>
  obtain⟨t,rfl⟩:=rx;cases y with
  | non=>cases ry;exact PySem.EqNone.ne_str_none (aI I q ∅)
  | bl j=>cases ry;exact PySem.EqMixed.ne_str_bool (aI I q ∅)
  | int j=>obtain⟨t',rfl⟩:=ry;exact PySem.EqMixed.ne_str_int (aI I q ∅)
  | str j=>obtain⟨t',rfl⟩:=ry;exact ne_str (aI I q (congrArg not mE))
  | _=>exact absurd (show false=true from hs) Bl
 | byt i=>
  obtain⟨t,rfl⟩:=rx;cases y with
  | byt j=>obtain⟨t',rfl⟩:=ry;exact PySem.W.ne_bytes (aI I q (congrArg not mz))
  | _=>exact absurd (show false=true from hs) Bl
 | _=>cases y<;>exact absurd (show false=true from hs) Bl
def zu:OpR X (Fe .Lt) (rI0 λi j=>.bl (decide (i<j))):=wK λ_ _ _ _ _ _ _ q=>lt_int q
def zt:OpR X (Fe .Gt) (rI0 λi j=>.bl (decide (j<i))):=wK λ_ _ _ _ _ _ _ q=>gt_int q
def zr:OpR X (Fe .GtE) (rI0 λi j=>.bl (decide (j<=i))):=wK λ_ _ _ _ _ _ _ q=>ge_int q
def op_in_str:OpR X (Fe .In) (λx y H Q=>∃i j,x=.str i/\y=.str j/\Q (.bl (!(FW j i 0 j.length 1).isEmpty)) H):=by
 intro Uq s Z H x y v u Q I rx ry h;obtain⟨i,j,rfl,rfl,q⟩:=h;obtain⟨t,rfl⟩:=rx;obtain⟨t',rfl⟩:=ry;exact in_str (aI I q rfl)
def OpR.or{f:EK->EK->Sem EK}{r r':R2}(h:OpR X f r)(h':OpR X f r'):OpR X f (λx y H Q=>r x y H Q\/r' x y H Q):=by
 intro Uq s Z H x y v u Q I rx ry q;rcases q with q|q;exact h Uq s Z H x y v u Q I rx ry q;exact h' Uq s Z H x y v u Q I rx ry q
def bH(b:Expr){op:HB}(h:op ≠ .In:=by decide)(h2:op ≠ .NotIn:=by decide):FJ op b=false:=by
 have e1:(op==HB.In)=false:=by cases op<;>first|rfl|exact absurd rfl h
 have e2:(op==HB.NotIn)=false:=by cases op<;>first|rfl|exact absurd rfl h2
 cases b<;>simp[FJ,e1,e2]
def tP{op:HB}{r:R2}(ho:OpR X (Fe op) r)(ha:PE X a ta)(hb:PE X b tb)(hm:FJ op b=false):PE X (.Compare a [op] [b] pos) (tOp r ta tb):=by
 intro Uq s Z H Q I h;exact wpAny_Compare1 (vZ ha hb I h λv u s2 x y H2 I2 rx ry q=>ho Uq s2 Z H2 x y v u Q I2 rx ry q) hm
abbrev vO(t:TE):TT:=λZ H Q=>t Z H λx H'=>∃k,x=.bl k/\Q k H'
def t8{op:HB}{r:R2}(ho:OpR X (Fe op) r)(ha:PE X a ta)(hb:PE X b tb)(hm:FJ op b=false):PT X (.Compare a [op] [b] pos) (vO (tOp r ta tb)):=by
 intro Uq s Z H Q I h;apply G7 (thn (ha Uq s Z H _ I h) λv s1 ⟨x,H1,I1,r1,q1⟩=>thn (hb Uq s1 Z H1 _ I1 q1) λu s2 ⟨y,H2,I2,r2,q2⟩=>
  thn (ho Uq s2 Z H2 x y v u _ I2 r1 r2 q2) λc s3 ⟨z,H3,I3,r3,k,e,q3⟩=>?_) hm
 subst e;cases r3;exact FZ ⟨H3,I3,q3⟩
def fE:(sizeLine:Nat)<2^63:=by rw[EV];decide
def op_add_str:OpR X (Fh .Add) (λx y H Q=>∃i j,x=.str i/\y=.str j/\i.length+j.length<=sizeLine/\Q (.str (i++j)) H):=by
 intro Uq s Z H x y v u Q I rx ry h;obtain⟨i,j,rfl,rfl,hz,q⟩:=h;obtain⟨t,rfl⟩:=rx;obtain⟨t',rfl⟩:=ry;exact add_str (λt' tk=>⟨.str (i++j),H,I.tok _,⟨_,rfl⟩,q⟩) hz
def fj{x:V}{us:List EK}(r:Vals [x] us):∃u,us=[u]/\RelV x u:=by
 cases r with
 | cons r1 r2=>cases r2;exact⟨_,rfl,r1⟩
def vQ{x y:V}{us:List EK}(r:Vals [x,y] us):∃u w',us=[u,w']/\RelV x u/\RelV y w':=by
 cases r with
 | cons r1 r2=>
  cases r2 with
  | cons r3 r4=>cases r4;exact⟨_,_,rfl,r1,r3⟩
end
structure ObjM(h:Heap)(x dx C:Addr)(mA:Str->Option EK):Prop where
 obj:h.get? x=some (DK C dx)
 ns:h.Ns1 dx mA
 ne:dx≠x
def iZ{h:Heap}{dx:Addr}{mA:Str->Option EK}(n:h.Ns1 dx mA):∃od,h.get? dx=some od/\∀name,DU name od=some (mA name):=by
 obtain⟨o,es,ep,ho,hd,hk,_,hm⟩:=n;apply⟨o,ho,λname=>?_⟩;have e:=hm name;unfold nsFind findBy at e;rw[<-Array.find?_toList]at e;unfold DU;rw[hd];dsimp only;split
 ·delta y q;rw[q]at e;exact congrArg some e
 ·delta q;rw[q]at e;have a:es.toList.any (·.refKey)=false:=by
   rw[List.any_eq_false];intro y hy;obtain⟨z,t,hkey⟩:=hk y (Array.mem_toList_iff.mp hy);simp[Gp.refKey,hkey]
  have a':¬ es.toList.any (·.refKey)=true:=by rw[a];exact Bl
  rw[if_neg a'];exact congrArg some e
abbrev gr(f:Str) (v:V):List (Str×V)->List (Str×V)
 | []=>[(f,v)]
 | (g,x)::r=>if g=f then(g,v)::r else(g,x)::gr f v r
def gb(f g:Str)(v:V):∀fs:List (Str×V),(gr f v fs).lookup g=if g=f then some v else fs.lookup g
 | []=>by
  show B5 g [(f,v)]=_;by_cases h:g=f
  ·have hb:(g==f)=true:=beq_iff_eq.mpr h;dsimp[B5,hb,if_pos h]
  ·have hb:(g==f)=false:=beq_eq_false_iff_ne.mpr h;dsimp[B5,hb,if_neg h]
 | (k,x)::r=>by
  have ih:=gb f g v r;rw[show gr f v ((k,x)::r)=(if k=f then(k,v)::r else(k,x)::gr f v r)from rfl];by_cases hk:k=f
  ·rw[if_pos hk];by_cases h:g=k
   ·have hb:(g==k)=true:=beq_iff_eq.mpr h;dsimp[B5,hb,if_pos (h.trans hk)]
   ·have hb:(g==k)=false:=beq_eq_false_iff_ne.mpr h;dsimp[B5,hb,if_neg (λe:g=f=>h (e.trans hk.symm))]
  ·rw[if_neg hk];by_cases h:g=k
   ·have hb:(g==k)=true:=beq_iff_eq.mpr h;dsimp[B5,hb,if_neg (λe:g=f=>hk (h.symm.trans e))]
   ·have hb:(g==k)=false:=beq_eq_false_iff_ne.mpr h;dsimp[B5,hb];exact ih
def fw(f:Str)(v:V):∀fs:List (Str×V),f∈(gr f v fs).map (·.1)/\∀g,g∈fs.map (·.1)->g∈(gr f v fs).map (·.1)
 | []=>⟨by simp[gr],λg h=>by simp at h⟩
 | (k,x)::r=>by
  obtain⟨i1,i2⟩:=fw f v r;rw[show gr f v ((k,x)::r)=(if k=f then(k,v)::r else(k,x)::gr f v r)from rfl];by_cases hk:k=f
  ·rw[if_pos hk];subst hk;exact⟨by simp,λg h=>by simpa using h⟩
  ·rw[if_neg hk];apply⟨?_,λg h=>?_⟩
   ·rw[Bj];exact ymC _ i1
   ·rw[Bj]at h|-;rcases ycM h with e|e;exact B3.mpr (.inl e);exact ymC _ (i2 g e)
def RelO.some_of{v:V}{o:Option EK}(r:RelO (some v) o):∃u,o=some u/\RelV v u:=by
 cases o with
 | none=>exact(show False from r).elim
 | some u=>exact⟨u,rfl,r⟩
def nW{v:V}{u:EK}(r:RelV v u):PySem.W.handedIn u=true:=by
 cases v with
 | non=>cases (show u=Hs from r);rfl
 | bl b=>cases (show u=Ht b from r);rfl
 | int i=>obtain⟨t,e⟩:=(show∃t,u=Fp i t from r);cases e;rfl
 | str x=>obtain⟨t,e⟩:=(show∃t,u=Hj x t from r);cases e;rfl
 | byt b=>obtain⟨t,e⟩:=(show∃t,u=Jf b t from r);cases e;rfl
 | flt b=>obtain⟨t,e⟩:=(show∃t,u=Jg b t from r);cases e;rfl
 | ref a=>cases (show u=Fj a from r);rfl
 | ty n=>cases (show u=EQ n from r);rfl
structure Cls(K:yF)(C:Addr):Prop where
 pg:PySem.W.plainGet K C Str.empty=true
 hd:Ds K C=true
 po:PySem.W.plainOver K C=true
 sa:CI K (.ref C) "__setattr__" = some (some (.builtin "object.__setattr__"))
abbrev El(K:yF)(C:Addr)(f:Str):Prop:=CI K (.ref C) f=some none
structure Con(K:yF)(C:Addr)(f:Str)(v:V)(u:EK):Prop where
 at_:CI K (.ref C) f=some (some u)
 rel:RelV v u
 get:Dt K u "__get__" = some none
 cp:PySem.W.copiedNames.contains f=false
structure Meth(K:yF)(C:Addr)(m:Str)(f:Addr):Prop where
 at_:CI K (.ref C) m=some (some (.ref f))
 fn:Du K (.ref f)=true
 kp:Cf K (.ref f)=true
section
variable {X:Cx}{Uq:List (Addr×Obj)}{Z:St}{H:Hp}{s:EM}{a C dx:Addr}{fs:List (Str×V)}{f:Str}{v:V}{A:Fa}{E:EK->EM->Prop}
def sw{prog:EU}{w:E4}{env:Env}{e:Expr}{f:Str}{pos:Pos}{s:EM}{Q:EK->EM->Prop}(hb:FF e f env (eval e env)=eval e env)
  (h:EY (ET prog w) A (eval e env) (λo s₁=>EY (ET prog w) A (I8 o f true) Q E s₁) E s):EY (ET prog w) A (eval (.Attribute e f pos) env) Q E s:=
 Attribute_any_ h (by rw[arm_eval_Attribute,hb])
end
section
variable {X:Cx}{Uq:List (Addr×Obj)}{Z:St}{H:Hp}{s:EM}{A:Fa}{E:EK->EM->Prop}{Q:EK->EM->Prop}{c:EK}{b:Bool}
inductive EA(K:yF) (H:Hp):V->EK->Prop where
 | non:EA K H .non (.type "NoneType")
 | bl (x:Bool):EA K H (.bl x) (.type "bool")
 | int (i:Int):EA K H (.int i) (.type "int")
 | str (x:Str):EA K H (.str x) (.type "str")
 | flt (x:UInt64):EA K H (.flt x) (.type "float")
 | lst {a:Addr} {xs:List V} (e:H a=some (.lst xs)):EA K H (.ref a) (.type "list")
 | frz {a:Addr} {o:Obj} {xs:List V} (e:H a=some (.frz o (.lst xs))):EA K H (.ref a) (.type "list")
 | tup {a:Addr} {xs:List V} (e:H a=some (.tup xs)):EA K H (.ref a) (.type "tuple")
 | dK {a:Addr} {kvs:List (Key×V)} (e:H a=some (.dK kvs)):EA K H (.ref a) (.type "dict")
 | dT {a:Addr} {kvs:List (List Key×V)} (e:H a=some (.dT kvs)):EA K H (.ref a) (.type "dict")
 | ins {a C dx:Addr} {fs:List (Str×V)} (e:H a=some (.ins C dx fs)) (cl:Cls K C) (ha:CI K (.ref C) "__class__" = some (some (.builtin "object.__class__")))
   (hn:Dt K (.builtin "object.__class__") "__get__" = some (some (.builtin "getset_descriptor.__get__"))) (htk:PySem.W.takesIn K (.builtin "object.__class__")=some true)
   (hm:PySem.W.mroIn K C (.type "object")=some true):EA K H (.ref a) (.ref C)
end
structure Eh(k:Nat)(A:Fa):Prop where
 hd:A.handled=none
 gd:A.guards=some []
 dp:A.depth+3*k+5<Iz
 un:A.units+16*k+200<Fz
def Eh.mono{j k:Nat}{A:Fa}(r:Eh k A)(h:j<=k):Eh j A:=⟨r.hd,r.gd,by have:=r.dp;omega,by have:=r.un;omega⟩
def Eh.deeper{k:Nat}{A:Fa}(r:Eh (k+1) A)(env:Env):Eh k (A.deeper env):=
 ⟨r.hd,r.gd,by have:=r.dp;show A.depth+1+3*k+5<_;omega,by have:=r.un;show A.units+3+16*k+200<_;omega⟩
def lG{A:Fa}{C:Addr}{us:List EK}{kw:List (Str×EK)}:(A.under (.builtin "type.__call__" ⟨.ref C::us,kw⟩)).depth=A.depth+1:=by
 first|rfl|simp[GQ,Code.weight,Code.isCreation,I9,Code.isCaller,Ji,HF,guardIds]
def lH{A:Fa}{C:Addr}{us:List EK}{kw:List (Str×EK)}:(A.under (.builtin "type.__call__" ⟨.ref C::us,kw⟩)).units=A.units+1:=by
 first|rfl|simp[GQ,Code.cUnits,Ji,HF]
def kL{A:Fa}{C:Addr}{us:List EK}{kw:List (Str×EK)}:(A.under (.builtin "type.__call__" ⟨.ref C::us,kw⟩)).guards=A.guards:=by
 cases A with|mk a b c d e=>cases d<;>simp[GQ,pushGuards,Code.guards,I9,guardIds]
def Eh.make{k:Nat}{A:Fa}(r:Eh (k+1) A)(C:Addr)(us:List EK)(kw:List (Str×EK)):Eh k (A.under (.builtin "type.__call__" ⟨.ref C::us,kw⟩)):=
 ⟨r.hd,by rw[kL];exact r.gd,by have:=r.dp;rw[lG];omega,by have:=r.un;rw[lH];omega⟩
def Eh.depth{k:Nat}{A:Fa}(r:Eh k A):A.depth<Iz:=by have:=r.dp;omega
def Eh.units{k:Nat}{A:Fa}(r:Eh k A):A.units+64<Fz:=by have:=r.un;omega
abbrev uG:TA:=λ_ H Q=>Q [] H
abbrev lg(ta:TE)(tr:TA):TA:=λZ H Q=>ta Z H λx H1=>tr Z H1 λxs H2=>Q (x::xs) H2
section
variable {X:Cx}{e:Expr}{es:List Expr}{te:TE}{t:TA}{pos:Pos}
def de:PA X [] uG:=λ_ _ _ _ H Q I h=>Calls.spliced_nil ⟨[],H,I,.nil,h⟩
def dS(ha:PE X e te)(hr:PA X es t)(hs:E5 (e::es) X.env=(false,eval e X.env)::E5 es X.env:=by rfl):PA X (e::es) (lg te t):=by
 intro pos Uq s Z H Q I h;rw[hs];show EY _ _ (spliced ((false,eval e X.env)::FM pos (E5 es X.env))) _ _ s;apply Calls.spliced_cons (thn (ha Uq s Z H _ I h) λu s1 ⟨x,H1,I1,r1,q1⟩=>?_);exact thn (hr pos Uq s1 Z H1 _ I1 q1) λus s2 ⟨xs,H2,I2,r2,q2⟩=>⟨x::xs,H2,I2,.cons r1 r2,q2⟩
abbrev Am(t:TA):TE:=λZ H Q=>t Z H λxs H1=>xs.length<=sizeLine/\∀p,H1 p=none->Q (.ref p) (upd H1 p (.tup xs))
abbrev Ah(t:TA):TE:=λZ H Q=>t Z H λxs H1=>xs.length<=sizeLine/\∀p,H1 p=none->Q (.ref p) (upd H1 p (.lst xs))
def xp{x1}(h:PA X es t):PE X (.Tuple es x1 pos) (Am t):=by
 intro Uq s Z H Q I hq;apply wpAny_Tuple_spliced (thn (h pos Uq s Z H _ I hq) λus s1 ⟨xs,H1,I1,r,z,q⟩=>⟨by rw[<-r.length];exact z,?_⟩);have hf:H1 s1.heap.objs.size=none:=I1.hok.fresh (Bg _);apply⟨.ref s1.heap.objs.size,upd H1 s1.heap.objs.size (.tup xs),I1.laid (t':=s1.toks) (λb u e=>EN _ e) (Bg _) ?_,rfl,q _ hf⟩;exact⟨z,us,r,⟨_,E9 _ rfl,⟨rfl,rfl⟩,_,rfl⟩⟩
def xl(h:PA X es t):PE X (.List es pos) (Ah t):=by
 intro Uq s Z H Q I hq;apply wpAny_List_spliced (thn (h pos Uq s Z H _ I hq) λus s1 ⟨xs,H1,I1,r,z,q⟩=>⟨by rw[<-r.length];exact z,?_⟩);have hf:H1 s1.heap.objs.size=none:=I1.hok.fresh (Bg _);apply⟨.ref s1.heap.objs.size,upd H1 s1.heap.objs.size (.lst xs),I1.laid (t':=s1.toks) (λb u e=>EN _ e) (Bg _) ?_,rfl,q _ hf⟩;exact⟨z,us,0,r,E9 _ rfl⟩
end
protected def Sp:=List V->Hp->VK->XK->Prop
protected def CXT:=List Env->Hp->EM->XK->EK->EM->Prop
structure EF(P:EU)(w:E4)(K:yF)(mg:Str->Option EK)(base:Heap)(A:Fa)(outer:List Env)(s:EM)(H:Hp):Prop where
 frames:A.frames=some outer
 mod:Mod K mg base
 bs:∀b o,base.get? b=some o->s.heap.get? b=some o/\H b=none
 bsz:base.objs.size<=s.heap.objs.size
 funs:s.heap.FunFrames base outer
 frf:∀b∈frs outer,H b=none
 hok:HOk P w H s.heap
 bare:Gx s.gens
abbrev CE(outer:List Env)(P:EU)(w:E4)(H:Hp)(s:EM)(Q:VK)(u:EK)(s':EM):Prop:=
 ∃v H',s'.os=s.os/\Gx s'.gens/\Un (frs outer) [] H H' s.heap s'.heap/\HOk P w H' s'.heap/\RelV v u/\Q v H'
abbrev CR(CX:CXT)(outer:List Env)(P:EU)(w:E4)(H:Hp)(s:EM)(Q:VK)(E:XK)(r:Ju)(s':EM):Prop:=
 match r with
 | .ok (.ret u)=>CE outer P w H s Q u s'
 | .ok _=>False
 | .error e=>CX outer H s E e s'
structure Ep(P:EU)(w:E4)(K:yF)(mg:Str->Option EK)(base:Heap)(CX:CXT)(k:Nat)(f:Addr)(fd:Fm)(ps:List Str)(sp:Sp):Prop where
 len:∀vs H Q E,sp vs H Q E->vs.length=ps.length
 run:∀(A:Fa) (outer:List Env) (s:EM) (H:Hp) (args:Args) (us:List EK) (vs:List V) (Q:VK) (E:XK),Eh k A->EF P w K mg base A outer s H->GR s fd args (ps.zip us)->Vals vs us->sp vs H Q E ->
  Ge (ET P w) A (.call (.ref f) args) (CR CX outer P w H s Q E) s
def EF.make{P:EU}{w:E4}{K:yF}{mg:Str->Option EK}{base:Heap}{A:Fa}{outer:List Env}{s:EM}{H:Hp}(e:EF P w K mg base A outer s H)(C:Addr)(us:List EK)(kw:List (Str×EK)) :
  EF P w K mg base (A.under (.builtin "type.__call__" ⟨.ref C::us,kw⟩)) outer s H:=⟨by first|exact e.frames|(simpa[GQ,Code.envs,HF,pushEnvs]using e.frames),e.mod,e.bs,e.bsz,e.funs,e.frf,e.hok,e.bare⟩
section
variable {X:Cx}{Uq:List (Addr×Obj)}{Z:St}{H:Hp}{s s':EM}
def Inv.env0(I:Inv X Uq Z H s):EF X.prog X.w X.K X.mg X.base X.A X.stack s H:=
 ⟨I.ok.frames,I.ok.mod,I.bs,Bz I.ok.bsz I.sz,I.stack,I.stkFree,I.hok,I.bare⟩
def Inv.after{Q:VK}{u:EK}(I:Inv X Uq Z H s)(h:CE X.stack X.prog X.w H s Q u s'):EP X Uq Z Q u s':=by
 obtain⟨v,H',os,bare,un,hok,r,q⟩:=h;obtain⟨hh,g,d,t,os'⟩:=s';obtain rfl:os'=s.os:=os;exact⟨v,H',I.call (h':=hh) (g':=g) (d':=d) (t':=t) (ch:=[]) un hok bare (λb z=>absurd z ∅),r,q⟩
end
abbrev gj(sp:Sp)(dvs:List V)(E:XK)(t:TA):TE:=λZ H Q=>t Z H λvs H1=>sp (vs++dvs) H1 Q E
abbrev Ek(K:yF)(fd:Fm)(ps:List Str)(ds:List EK):Prop:=
 ∀(s:EM) (us:List EK),K.In s.heap->(us++ds).length=ps.length->GR s fd ⟨us,[]⟩ (ps.zip (us++ds))
def Ek.all{K:yF}{fd:Fm}{ps:List Str}(h:∀us:List EK,us.length=ps.length->Hb fd ⟨us,[]⟩=pure (ps.zip us)):Ek K fd ps []:=λs us _ hl=>by
 rw[BA]at hl|-;exact .of_eq (h us hl)
abbrev ef(CX:CXT)(X:Cx)(E:XK):Prop:=∀(Uq:List (Addr×Obj)) (Z:St) (H:Hp) (s:EM) (e:EK) (s':EM),Inv X Uq Z H s->CX X.stack H s E e s'->X.xe e s'
section
variable {X:Cx}{CX:CXT}{k:Nat}{f C:Addr}{fd:Fm}{ps:List Str}{sp:Sp}{dvs:List V}{ds:List EK}{E:XK}{x m:Str}{p pos apos:Pos}{e o:Expr}{es:List Expr}{ta:TE}{t:TA}
def rP{Uq:List (Addr×Obj)}{Z:St}{H:Hp}{s:EM}{Q:VK}{us:List EK}{vs:List V}(F:Ep X.prog X.w X.K X.mg X.base CX k f fd ps sp)(hr:Eh k X.A)(hb:Ek X.K fd ps ds)(hd:Vals dvs ds)(hx:ef CX X E)
  (I:Inv X Uq Z H s) (r:Vals vs us) (h:sp (vs++dvs) H Q E):EY (ET X.prog X.w) X.A (call (.ref f) us) (EP X Uq Z Q) X.xe s:=by
 have r2:Vals (vs++dvs) (us++ds):=r.append hd;have hl:(us++ds).length=ps.length:=by rw[<-r2.length];exact F.len _ _ _ _ h
 apply FS (Gk (F.run X.A X.stack s H ⟨us,[]⟩ (us++ds) (vs++dvs) Q E hr I.env0 (hb s us I.kIn hl) r2 h) λr s' hq=>?_);cases r with
 | error e=>exact hx Uq Z H s e s' I hq
 | ok fl=>
  cases fl with
  | ret u=>exact I.after hq
  | next=>exact Fv hq
  | brk=>exact Fv hq
  | cont=>exact Fv hq
def tO(F:Ep X.prog X.w X.K X.mg X.base CX k f fd ps sp)(hr:Eh k X.A)(hg:Gl X x)(hm:X.mg x=some (.ref f))(hk:Cf X.K (.ref f)=true)(hb:Ek X.K fd ps ds)(hd:Vals dvs ds)(hx:ef CX X E)
  (ha:PA X (e::es) t) (hdb:(x==("__debug__" : Str))=false:=by decide) (he:E5 (e::es) X.env=(false,eval e X.env)::E5 es X.env:=by rfl) (hpl:(FM pos (E5 es X.env)).any (·.1)=false:=by rfl) :
  PE X (.Call (.Name x p) (e::es) [] pos) (gj sp dvs E t):=by
 intro Uq s Z H Q I h;apply FG (eT I hg hm ?_ hdb);apply CU (h₀:=X.base) I.ok.mod.kin hk (thn (ha pos Uq s Z H _ I h) λus s1 ⟨vs,H1,I1,r,q⟩=>⟨I1.kIn,?_⟩) he hpl;exact rP F hr hb hd hx I1 r q
end
section
variable {X:Cx}{CX:CXT}{k:Nat}{f C:Addr}{fd:Fm}{ps ks:List Str}{sp:Sp}{E:XK}{x m:Str}{p pos apos kpos:Pos}{e o:Expr}{es:List Expr}{kws:List Iq}{te ta:TE}{t tk:TA}{nm:Option Str}
structure KBinds(K:yF)(fd:Fm)(ps ks:List Str)(g:List EK->List EK->List EK)(gV:List V->List V->List V):Prop where
 to:∀(s:EM) (us ws:List EK),K.In s.heap->(g us ws).length=ps.length->GR s fd ⟨us,ks.zip ws⟩ (ps.zip (g us ws))
 rel:∀{vs:List V} {us:List EK} {zs:List V} {ws:List EK},Vals vs us->Vals zs ws->Vals (gV vs zs) (g us ws)
variable {g:List EK->List EK->List EK}{gV:List V->List V->List V}
end
structure vx(N P:List Str)(sc:FL):Prop where
 kind:sc.kind=.function
 co:sc.isCoroutine=false
 gen:sc.isGenerator=false
 nd:N.Nodup
 pre:N.take P.length=P
 par:∀x∈P,sc.names.lookup x=some .local\/sc.names.lookup x=some .cell
 nofree:∀y∈sc.names,y.2 ≠ .free
def iQ{kindOf:Str->Option EZ}{x:Str}:∀{binds:List (Str×EK)} {m:Str->Option EK},(∀v,(x,v)∉binds)->IA kindOf binds m x=m x
 | [],_,_=>rfl
 | (n,v)::r,m,h=>by
  unfold IA;rw[iQ λw hw=>h w (ymC _ hw)];split
  ·have:x≠n:=by rintro rfl;exact h v ymS
   simp[this]
  ·rfl
def iO{kindOf:Str->Option EZ}{x:Str}:∀{binds:List (Str×EK)} {m:Str->Option EK},(∀v,(x,v)∉binds)->IB kindOf binds m x=m x
 | [],_,_=>rfl
 | (n,v)::r,m,h=>by
  unfold IB;rw[iO λw hw=>h w (ymC _ hw)];split;rfl
  ·have:x≠n:=by rintro rfl;exact h v ymS
   simp[this]
def iP{kindOf:Str->Option EZ}{x:Str}{v:EK}:∀{P:List Str} {vs:List EK} {i:Nat} {m:Str->Option EK},P.Nodup->P[i]?=some x->vs[i]?=some v->kindOf x=some .local ->
  IA kindOf (P.zip vs) m x=some v
 | [],_,_,_,_,h,_,_=>by simp at h
 | _::_,[],_,_,_,_,h,_=>by simp at h
 | p::P,w::vs,0,m,nd,h1,h2,hk=>by
  simp at h1 h2;subst h1;subst h2;show IA kindOf ((p,w)::P.zip vs) m p=_;unfold IA;rw[iQ λv hv=>(BB.mp nd).1 (Df hv).1,if_pos hk];simp
 | p::P,w::vs,i+1,m,nd,h1,h2,hk=>by
  show IA kindOf ((p,w)::P.zip vs) m x=_;unfold IA;exact iP (i:=i) (BB.mp nd).2 (by exists h1) (by exists h2) hk
def iN{kindOf:Str->Option EZ}{x:Str}{v:EK}:∀{P:List Str} {vs:List EK} {i:Nat} {m:Str->Option EK},P.Nodup->P[i]?=some x->vs[i]?=some v->kindOf x≠some .local ->
  IB kindOf (P.zip vs) m x=some v
 | [],_,_,_,_,h,_,_=>by simp at h
 | _::_,[],_,_,_,_,h,_=>by simp at h
 | p::P,w::vs,0,m,nd,h1,h2,hk=>by
  simp at h1 h2;subst h1;subst h2;show IB kindOf ((p,w)::P.zip vs) m p=_;unfold IB;rw[iO λv hv=>(BB.mp nd).1 (Df hv).1,if_neg hk];simp
 | p::P,w::vs,i+1,m,nd,h1,h2,hk=>by
  show IB kindOf ((p,w)::P.zip vs) m x=_;unfold IB;exact iN (i:=i) (BB.mp nd).2 (by exists h1) (by exists h2) hk
abbrev bd(N:List Str) (vs:List V):St:=vs.map some++Bc (N.length-vs.length) none
abbrev eN(CX:CXT) (P:EU) (w:E4) (K:yF) (mg:Str->Option EK) (base:Heap) (N:List Str) (qual:Str) (scope:FL) (f:Addr) (cd:EK) (A:Fa) (outer:List Env) (s:EM) (H:Hp) (E:XK):Cx where
 prog:=P
 w:=w
 K:=K
 mg:=mg
 base:=base
 A:=A.deeper (Gg qual scope s.heap.objs.size f cd)
 N:=N
 s₀:=s
 H₀:=H
 env:=Gg qual scope s.heap.objs.size f cd
 outer:=outer
 stack:=Gg qual scope s.heap.objs.size f cd::outer
 ex:=[]
 calm:=true
 fn:=λ_=>true
 pn:=[]
 xe:=λe s'=>EY (ET P w) (A.deeper (Gg qual scope s.heap.objs.size f cd)) (leaving (Gg qual scope s.heap.objs.size f cd) e) (λ_ s''=>CX outer H s E e s'') (λe' s''=>CX outer H s E e' s'') s'
def kq{sc:FL}{n:Nat}{x:Str}(h:sc.names.lookup x=some .cell):∃c,(Fb n sc.names []).lookup x=some c:=by
 have q:=CJ sc.names n [] (.inl h);exact Ck.mp q
def nY{CX:CXT}{P:EU}{w:E4}{K:yF}{mg:Str->Option EK}{base:Heap}{N ps:List Str}{qual:Str}{scope:FL}{f:Addr}{cd:EK}{A:Fa}{outer:List Env}{s s1:EM}{H:Hp}{E:XK}{us:List EK}{vs:List V}
  (S:vx N ps scope) (hd:A.handled=none) (gd:A.guards=some []) (e0:EF P w K mg base A outer s H) (hl:vs.length=ps.length) (r:Vals vs us)
  (x:InCallC s s.heap.objs.size (IA (Gg qual scope s.heap.objs.size f cd).kindOf (ps.zip us) λ_=>none) (Fb (s.heap.objs.size+1) scope.names []) (IB (Gg qual scope s.heap.objs.size f cd).kindOf (ps.zip us) λ_=>none) s1) :
  Inv (eN CX P w K mg base N qual scope f cd A outer s H E) [] (bd N vs) H s1:=by
 have hpl:ps.length<=N.length:=by have:=congrArg CG S.pre;rw[Cd]at this;omega
 obtain⟨h1,tk,rfl,hk⟩:=x.done;have noA:∀b:Addr,b∉(eN CX P w K mg base N qual scope f cd A outer s H E).ex:=λb z=>absurd (show b∈([]:List Addr)from z) ∅;apply⟨⟨e0.mod,S.kind,rfl,rfl,Bg _,λy z c h1 h2=>?_,λy hy=>?_,λy c _ h=>?_,λ_=>hd,λ_=>gd,Fa.frames_deeper e0.frames,.inr ⟨rfl,rfl⟩,λb z=>absurd z (noA b),e0.bs,e0.bsz,λb _ _=>noA b,λb z=>absurd z (noA b),e0.funs,e0.frf⟩,
  rfl,e0.bare,Un.kept hk,⟨_,x.toInCall.ns,λi y v h1 h2 h3=>?_⟩,λy c h=>⟨_,x.cell y c h⟩,e0.hok.fresh (Bg _),λy c h=>?_,λp hp=>absurd (show p∈([]:List (Addr×Obj))from hp) ∅,e0.hok.kept hk,?_⟩
 ·exact name_of_addr x.apart (Cc h1) (Cc h2)
 ·have hy:scope.names.lookup y=some .cell\/scope.names.lookup y=some .free:=hy;rcases hy with hy|hy;exact kq hy;exact absurd rfl (S.nofree _ (Cc hy))
 ·exact Dr (x.above y c (Cc h))
 ·have hi:i<vs.length:=by
   unfold bd at h2;by_cases hi:i<vs.length;exact hi
   ·rw[CV (by exists hi)]at h2;rw[C6]at h2;split at h2<;>cases h2
  have ha:vs[i]?=some v:=by
   unfold bd at h2;rw[Ci (by exists hi),Bv]at h2;cases e:vs[i]? with
   | none=>rw[e]at h2;cases h2
   | some a=>rw[e]at h2;cases h2;rfl
  obtain⟨u,hu,rv⟩:=r.get ha;have hp:ps[i]?=some y:=by
   rw[<-S.pre,List.getElem?_take_of_lt ⋯];exact h1
  have ndP:ps.Nodup:=by rw[<-S.pre];exact S.nd.sublist (List.take_sublist _ _)
  apply⟨u,rv,?_⟩;rcases S.par y (BU hp)with k|k;exact .inl ⟨k,iP ndP hp hu k⟩
  ·obtain⟨c,e⟩:=kq (n:=s.heap.objs.size+1) k;apply .inr ⟨.inl k,c,e,?_⟩;have q:=x.cell y c e;rw[iN ndP hp hu (by show scope.names.lookup y≠_;rw[k];decide)]at q;exact q
 ·exact e0.hok.fresh (Dr (x.above y c (Cc h)))
 ·unfold bd;show _=N.length;rw[Bw,Br,List.length_replicate];omega
def y8{CX:CXT}{P:EU}{w:E4}{K:yF}{mg:Str->Option EK}{base:Heap}{k:Nat}{f:Addr}{name qual:Str}{params:IU}{body:List Stmt}{scope:FL}{dV kV doc pm cdv ct oc:EK}{an od:Option Addr}
  {osl:Array (Option EK)} {N ps:List Str} {sp:Sp} (lk:K.lookup f=some ⟨oc,od,.func (BN name qual params body scope dV kV doc pm an cdv ct),osl⟩) (hcd:Cw K cdv qual=true) (S:vx N ps scope)
  (len:∀vs H Q E,sp vs H Q E->vs.length=ps.length)
  (hbody:∀(A:Fa) (outer:List Env) (s:EM) (H:Hp) (vs:List V) (Q:VK) (E:XK),Eh k (A.deeper (Gg qual scope s.heap.objs.size f cdv))->sp vs H Q E ->
   ∃t,PSs (eN CX P w K mg base N qual scope f cdv A outer s H E) body t/\t {nx:=λ_ H'=>Q .non H',rt:=Q} (bd N vs) H) :
  Ep P w K mg base CX (k+1) f (BN name qual params body scope dV kV doc pm an cdv ct) ps sp:=by
 apply⟨len,λA outer s H args us vs Q E hr e0 hb r hsp=>?_⟩;have hl:=len _ _ _ _ hsp;have KX:K.In s.heap:=e0.mod.kin.keeps λb o e=>(e0.bs b o e).1;have lim:s.heap.NoLimit:=e0.mod.nolimit.keeps λb o e=>(e0.bs b o e).1;have hkind:∀y∈ps.zip us,scope.names.lookup y.1=some .local\/(scope.names.lookup y.1=some .cell/\((Fb (s.heap.objs.size+1) scope.names []).lookup y.1).isSome=true):=fun⟨n,v⟩ hy=>by
  rcases S.par n (Df hy).1 with q|q;exact .inl q;exact .inr ⟨q,CJ _ _ _ (.inl q)⟩
 apply codeAny_call_function hr.depth (KX _ _ lk) rfl S.co S.gen rfl (PySem.W.codeRec_of KX hcd) (hb _ _ _ _ ?_);apply wpAny_newFunctionEnv_cells S.kind hkind λenv he s1 x=>?_;subst he;apply⟨lim.keeps x.toInCall.keep,codeAny_func ?_⟩;obtain⟨t,ht,hq⟩:=hbody A outer s H vs Q E (hr.deeper _) hsp;have I:Inv (eN CX P w K mg base N qual scope f cdv A outer s H E) [] (bd N vs) H s1:=nY S hr.hd hr.gd e0 hl r x;apply FE (ht [] s1 (bd N vs) H _ I hq) (λfl s' hs=>?_) λe s' hs=>hs;have fin:∀{Z':St} {H':Hp} {v:V} {u:EK},Inv (eN CX P w K mg base N qual scope f cdv A outer s H E) [] Z' H' s'->RelV v u->Q v H'->CE outer P w H s Q u s':=
  λ{Z' H' v u} J rv q=>⟨v,H',J.os,J.bare,J.base,J.hok,rv,q⟩
 cases fl with
 | ret u=>
  obtain⟨v,Z',H',J,rv,q⟩:=hs;exact fin J rv q
 | next=>
  obtain⟨Z',H',J,q⟩:=hs;exact fin (v:=V.non) (u:=Hs) J rfl q
 | brk=>
  obtain⟨_,_,_,q⟩:=hs;exact Fv q
 | cont=>
  obtain⟨_,_,_,q⟩:=hs;exact Fv q
section
variable {X:Cx}{x:Str}{p pos:Pos}{e:Expr}{es:List Expr}{t:TA}{id T:String}{r:List V->Hp->VK->Prop}
abbrev tCB(r:List V->Hp->VK->Prop)(t:TA):TE:=λZ H Q=>t Z H λvs H1=>r vs H1 Q
def qu(hc:Ej X (.builtin id) r)(hg:Gl X x)(hm:X.mg x=none)(hv:Fq x=some (.builtin id))(ha:PA X (e::es) t)(hn:x ≠ "__name__" :=by decide)(hdb:(x==("__debug__" : Str))=false:=by decide)
  (he:E5 (e::es) X.env=(false,eval e X.env)::E5 es X.env:=by rfl) (hpl:(FM pos (E5 es X.env)).any (·.1)=false:=by rfl):PE X (.Call (.Name x p) (e::es) [] pos) (tCB r t):=by
 intro Uq s Z H Q I h;apply FG (fB I hg hm hv ?_ hn hdb);exact CM (thn (ha pos Uq s Z H _ I h) λus s1 ⟨vs,H1,I1,r1,q1⟩=>hc Uq s1 Z H1 vs us Q I1 r1 q1) he hpl
def ot(hc:Ej X (.type T) r)(hg:Gl X x)(hm:X.mg x=none)(hv:Fq x=some (.type T))(ha:PA X (e::es) t)(hn:x ≠ "__name__" :=by decide)(hdb:(x==("__debug__" : Str))=false:=by decide)
  (he:E5 (e::es) X.env=(false,eval e X.env)::E5 es X.env:=by rfl) (hpl:(FM pos (E5 es X.env)).any (·.1)=false:=by rfl):PE X (.Call (.Name x p) (e::es) [] pos) (tCB r t):=by
 intro Uq s Z H Q I h;apply FG (fB I hg hm hv ?_ hn hdb);exact Ct (thn (ha pos Uq s Z H _ I h) λus s1 ⟨vs,H1,I1,r1,q1⟩=>hc Uq s1 Z H1 vs us Q I1 r1 q1) he hpl
end
end L2
namespace HT
open PySem PyProof.Rows
section
variable {prog:EU}{w:E4}{A:Fa}{E:EK->EM->Prop}{s:EM}
def cat_tup{t b:Addr}{vs ws:List EK}{Q:EK->EM->Prop}(ht:Jh s.heap t vs.toArray)(hb:Jh s.heap b ws.toArray)(hv:vs≠[])
  (h1:ws=[]->Q (.ref t) s) (h2:ws≠[]->Q (.ref s.heap.objs.size) {s with heap:=s.heap.push {cls:=.type "tuple",data:=.seq (vs++ws).toArray}})
  (hsz:vs.length+ws.length<=sizeLine):EY (ET prog w) A (Fh .Add (.ref t) (.ref b)) Q E s:=by
 obtain⟨⟨cls,dd,data,sl⟩,ho,hc,n,hd⟩:=id ht;obtain⟨⟨cls2,dd2,data2,sl2⟩,ho2,hc2,n2,hd2⟩:=id hb;simp only at hc hd hc2 hd2;subst hc hd hc2 hd2;have e:vs.toArray++ws.toArray=(vs++ws).toArray:=by simp
 by_cases hw:ws=[]
 ·exact HG ⟨_,ho,rfl⟩ ⟨_,ho2,rfl⟩ GH Hn PySem.F.slot_tuple_add PySem.F.entry_tuple_add (PySem.F.args_tuple_add_2 _ _)
   (tuple_addW1 t b vs.toArray ws.toArray n n2 dd dd2 sl sl2 (by exists hv) (by simp[hw])) ⟨ho,ho2,h1 hw⟩
 ·apply HG ⟨_,ho,rfl⟩ ⟨_,ho2,rfl⟩ GH Hn PySem.F.slot_tuple_add PySem.F.entry_tuple_add (PySem.F.args_tuple_add_2 _ _)
   (tuple_addW2 t b vs.toArray ws.toArray n n2 dd dd2 sl sl2 (by exists hv) (by exists hw) (by rw[Bd,Bd];exact hsz)) ⟨ho,ho2,?_⟩
  rw[e];exact h2 hw
abbrev sIx(n d:Nat):Option Int->Nat
 | none=>d
 | some v=>if v<0 then(v+(n:Int)).toNat else min v.toNat n
def sIx_none(n d:Nat):sIx n d none=d:=rfl
def sIx_nat(n d k:Nat):sIx n d (some (k:Int))=min k n:=by
 show(if(k:Int)<0 then((k:Int)+(n:Int)).toNat else min (k:Int).toNat n)=min k n;rw[if_neg ⋯,Dv]
def sIx_le(n d:Nat)(hd:d<=n)(o:Option Int):sIx n d o<=n:=by
 cases o with
 | none=>exact hd
 | some v=>
  show(if v<0 then(v+(n:Int)).toNat else min v.toNat n)<=n;by_cases hv:v<0;rw[if_pos hv];omega;rw[if_neg hv];exact Dz _ _
def clip_eq(v:Int)(n d:Nat):(if v<0 then max (v+(n:Int)) 0 else min v (n:Int))=((sIx n d (some v):Nat):Int):=by
 show(if v<0 then max (v+(n:Int)) 0 else min v (n:Int))=(((if v<0 then(v+(n:Int)).toNat else min v.toNat n):Nat):Int);by_cases hv:v<0;dsimp[if_pos hv];omega;dsimp[if_neg hv];omega
def adjust_gen(lo hi:Option Int)(n:Nat):FO lo hi 1 (n:Int)=(((sIx n 0 lo:Nat):Int),((sIx n n hi:Nat):Int)):=by
 have h1:¬ ((1:Int)<0):=by omega
 unfold FO;dsimp[h1,if_false];apply Prod.ext ?_ ?_
 ·cases lo with
  | none=>rfl
  | some v=>exact clip_eq v n 0
 ·cases hi with
  | none=>rfl
  | some v=>exact clip_eq v n n
def places_gen(i j:Nat):FA (i:Int) (j:Int) 1=j-i:=by
 unfold FA;have h1:(1:Int)>0:=by omega
 dsimp[h1,if_true,Int.ediv_one];split<;>omega
def slicePart_{v:EK}{o:Option Int}{Q:Option Int->EM->Prop}(p:Hc v o)(h:Q o s):EY (ET prog w) A (Ih v) Q E s:=by
 cases p with
 | none=>exact IC h
 | int i t=>exact slicePart_int h
def sliceApplied_gen{sl:Addr}{vl vu:EK}{lo hi:Option Int}{n:Nat}{Q:Int×Int×Nat->EM->Prop}(hs:s.heap.IsSliceOf sl vl vu .none)(pl:Hc vl lo)(pu:Hc vu hi)
  (h:Q (((sIx n 0 lo:Nat):Int),1,sIx n n hi-sIx n 0 lo) s):EY (ET prog w) A (Gv (.ref sl) (pure (n:Int))) Q E s:=by
 obtain⟨os,hos,hcs,hds⟩:=id hs;unfold Gv IQ;apply EL (EL (He hos hds (x:=vl) rfl (EL (He hos hds (x:=vu) rfl (EL (He hos hds (x:=.none) rfl (EO ?_)))))));apply EL (IC ?_);show EY _ _ (if((1:Int)==0)=true then _ else _) _ _ s;rw[if_neg (by decide)];apply EL (slicePart_ pl (EL (slicePart_ pu (EL (EO ?_)))));show EY _ _ (match FO lo hi 1 (n:Int)with|(lo,hi)=>pure (lo,(1:Int),FA lo hi 1)) _ _ s;rw[adjust_gen lo hi n];show EY _ _ (pure (((sIx n 0 lo:Nat):Int),(1:Int),FA ((sIx n 0 lo:Nat):Int) ((sIx n n hi:Nat):Int) 1)) _ _ s;rw[places_gen];exact EO h
def pick_gen(xs:Array EK)(i k:Nat):((BL k).filterMap λ(m:Nat)=>xs[((i:Int)+(m:Int)*1).toNat]?).toArray=((xs.toList.drop i).take k).toArray:=by
 have e:(λ(m:Nat)=>xs[((i:Int)+(m:Int)*1).toNat]?)=λm=>xs[i+m]?:=by
  funext m;have:((i:Int)+(m:Int)*1).toNat=i+m:=by omega
  rw[this]
 rw[e];have:=Jj xs i k;rw[CC]at this;have e2:((λx=>xs[x]?)∘λx=>i+x)=λm=>xs[i+m]?:=rfl;rw[e2]at this;rw[this]
def getItem_tuple_cut{t sl:Addr}{items:Array EK}{vl vu:EK}{lo hi:Option Int}{Q:EK->EM->Prop}(ht:Jh s.heap t items)(hs:s.heap.IsSliceOf sl vl vu .none)(pl:Hc vl lo)(pu:Hc vu hi)
  (hw:¬ (sIx items.size 0 lo=0/\sIx items.size items.size hi=items.size))
  (h:Q (.ref s.heap.objs.size) {s with heap:=s.heap.push {cls:=.type "tuple",data:=.seq ((items.toList.drop (sIx items.size 0 lo)).take (sIx items.size items.size hi-sIx items.size 0 lo)).toArray}})
  (hsz:items.size<=sizeLine):EY (ET prog w) A (Ir (.ref t) (.ref sl)) Q E s:=by
 have htake:sizeOk (.seq ((items.toList.drop (sIx items.size 0 lo)).take (sIx items.size items.size hi-sIx items.size 0 lo)).toArray):=by
  show((items.toList.drop (sIx items.size 0 lo)).take (sIx items.size items.size hi-sIx items.size 0 lo)).toArray.size<=sizeLine;rw[Bd,Cd,Co,Cn];omega
 have hj:sIx items.size items.size hi<=items.size:=sIx_le _ _ (Bg _) hi;obtain⟨os,hos,hcs,hds⟩:=id hs;have hTs:s.TypeIs (.ref sl) "slice" :=⟨os,hos,hcs⟩;unfold Ir;try with_reducible refine Fx ?_
 first|refine EL (EO ?_)|skip
 apply EL (wpAny_sequenceKey ht.typeIs (by decide) ?_);apply EL (GI (name:=ER "__getitem__") ht.typeIs Cm
  (GJ Cm ht.typeIs entry_tuple_getitem ?_ (args_tuple_getitem _ _)))
 show EY _ _ (ID (.ref t) >>= _) _ _ s;apply EL (tupleItemsOf_ ht ?_);apply EL (wpAny_typeOf hTs ?_);rw[if_pos (by decide)];apply EL (sliceApplied_gen hs pl pu ?_);have hno:¬ ((((sIx items.size 0 lo:Nat):Int)==0&&(1:Int)==1&&(sIx items.size items.size hi-sIx items.size 0 lo)==items.size)=true):=by
  intro q;rw[A9,A9]at q;have q1:((sIx items.size 0 lo:Nat):Int)=0:=eq_of_beq q.1.1;have q2:sIx items.size items.size hi-sIx items.size 0 lo=items.size:=eq_of_beq q.2;exact hw ⟨by omega,by omega⟩
 show EY _ _ (if(((sIx items.size 0 lo:Nat):Int)==0&&(1:Int)==1&&(sIx items.size items.size hi-sIx items.size 0 lo)==items.size)=true then _ else _) _ _ s;rw[if_neg hno,pick_gen];first
  | exact EL (m:=Fi _) (Fk (EO ⟨_,rfl,EO h⟩) htake)
  | exact EL (m:=Fi _) (Fk (EL (EO (EO ⟨_,rfl,EO h⟩))) htake)
  | exact EL (EL (m:=Fi _) (Fk (EO (EO ⟨_,rfl,EO h⟩)) htake))
  | exact EL (EL (m:=Fi _) (Fk (EO ⟨_,rfl,EO h⟩) htake))
end
end HT
namespace L2
open PySem PySem.Spec PyProof.Rows
protected def TO:=St->Hp->(Option Int->Hp->Prop)->Prop
abbrev PO(X:Cx)(e:Option Expr)(t:TO):Prop:=
 ∀(Uq:List (Addr×Obj)) (s:EM) (Z:St) (H:Hp) (Q:Option Int->Hp->Prop),Inv X Uq Z H s->t Z H Q ->
  EY (ET X.prog X.w) X.A (evalPart e X.env) (λu s'=>∃o H',Inv X Uq Z H' s'/\Hc u o/\Q o H') X.xe s
abbrev nE:TO:=λ_ H Q=>Q none H
abbrev vN(t:TE):TO:=λZ H Q=>t Z H λx H1=>∃i,x=.int i/\Q (some i) H1
section
variable {X:Cx}{e:Expr}{te:TE}{lo hi:Option Expr}{tl th:TO}{pos p2:Pos}
def tZ:PO X none nE:=by
 intro Uq s Z H Q I h;rw[evalPart_none];exact EO ⟨none,H,I,.none,h⟩
def t3(h:PE X e te):PO X (some e) (vN te):=by
 intro Uq s Z H Q I hw;rw[evalPart_some];apply thn (h Uq s Z H _ I hw) λu s1 ⟨x,H1,I1,r1,q1⟩=>?_;obtain⟨i,rfl,q⟩:=q1;obtain⟨t,rfl⟩:=r1;exact⟨some i,H1,I1,.int i t,q⟩
abbrev SlR(X:Cx)(r:V->Option Int->Option Int->Hp->VK->Prop):Prop:=
 ∀(Uq:List (Addr×Obj)) (s:EM) (Z:St) (H:Hp) (x:V) (v vl vu:EK) (lo hi:Option Int) (sl:Addr) (Q:VK),Inv X Uq Z H s->RelV x v->s.heap.IsSliceOf sl vl vu .none->Hc vl lo->Hc vu hi->r x lo hi H Q ->
  ∃T id,typeLookup (.type T) "__getitem__" = pure (some (.builtin id))/\s.TypeIs v T/\EY (ET X.prog X.w) X.A (Ir v (.ref sl)) (EP X Uq Z Q) X.xe s
def SlR.or{r r':V->Option Int->Option Int->Hp->VK->Prop}(h:SlR X r)(h':SlR X r'):SlR X (λx lo hi H Q=>r x lo hi H Q\/r' x lo hi H Q):=by
 intro Uq s Z H x v vl vu lo hi sl Q I rx hs pl pu q;rcases q with q|q;exact h Uq s Z H x v vl vu lo hi sl Q I rx hs pl pu q;exact h' Uq s Z H x v vl vu lo hi sl Q I rx hs pl pu q
abbrev tSl(r:V->Option Int->Option Int->Hp->VK->Prop)(te:TE)(tl th:TO):TE:=λZ H Q=>te Z H λx H1=>tl Z H1 λl H2=>th Z H2 λu H3=>r x l u H3 Q
def qA{r:V->Option Int->Option Int->Hp->VK->Prop}(hr:SlR X r)(he:PE X e te)(hl:PO X lo tl)(hu:PO X hi th):PE X (.Subscript e (.Slice lo hi none p2) pos) (tSl r te tl th):=by
 intro Uq s Z H Q I h;apply Subscript_ (thn (he Uq s Z H _ I h) λv s1 ⟨x,H1,I1,r1,q1⟩=>?_);apply wpAny_Slice (thn (hl Uq s1 Z H1 _ I1 q1) λvl s2 ⟨l,H2,I2,pl,q2⟩=>thn (hu Uq s2 Z H2 _ I2 q2) λvu s3 ⟨u,H3,I3,pu,q3⟩=>?_);rw[evalPart_none];apply EO ?_;have I4:Inv X Uq Z H3 {s3 with heap:=s3.heap.push {cls:=.type "slice",data:=.fields #[vl,vu,.none]}}:=I3.kept (t':=s3.toks) λb ob q=>EN _ q;obtain⟨T,id,hT,ht,hg⟩:=hr Uq {s3 with heap:=s3.heap.push {cls:=.type "slice",data:=.fields #[vl,vu,.none]}} Z H3 x v vl vu l u s3.heap.objs.size Q I4 r1 (Jv ..) pl pu q3;show EY (ET X.prog X.w) X.A (subscriptTail e (.Slice lo hi none p2) v (.ref s3.heap.objs.size)) (EP X Uq Z Q) X.xe {s3 with heap:=s3.heap.push {cls:=.type "slice",data:=.fields #[vl,vu,.none]}};exact tail_any (ops:=[.ref s3.heap.objs.size,v]) ht hT hg (by unhygienic rfl)
abbrev gH(xs:List V) (lo hi:Option Int):List V:=(xs.drop (HT.sIx xs.length 0 lo)).take (HT.sIx xs.length xs.length hi-HT.sIx xs.length 0 lo)
def f6(xs:List V)(lo hi:Option Int):(gH xs lo hi).length<=xs.length:=by
 unfold gH;rw[Cd,Co];omega
abbrev z8(K:yF):V->Option Int->Option Int->Hp->VK->Prop:=λx lo hi H Q=>∃a xs,x=.ref a/\SqT K H a xs /\
 ¬ (HT.sIx xs.length 0 lo=0/\HT.sIx xs.length xs.length hi=xs.length)/\∀p,H p=none->Q (.ref p) (upd H p (.tup (gH xs lo hi)))
def sl_tup:SlR X (z8 X.K):=by
 intro Uq s Z H x v vl vu lo hi sl Q I rx hs pl pu h;obtain⟨a,xs,rfl,hx,hw,q⟩:=h;cases rx;obtain⟨its,r,ht,hz⟩:=I.tuple hx;have hlen:its.toArray.size=xs.length:=by rw[Bd];exact r.length.symm
 apply⟨"tuple",_,Cm.lookup,ht.typeIs,?_⟩;apply HT.getItem_tuple_cut ht hs pl pu (by rw[hlen];exact hw) ?_ (by rw[hlen];exact hz);rw[hlen];apply⟨.ref s.heap.objs.size,_,I.laid (t':=s.toks) (o:=.tup (gH xs lo hi)) (λb ob q=>EN _ q) (Bg _) ?_,rfl,q _ (I.hok.fresh (Bg _))⟩;exact⟨Bz (f6 xs lo hi) hz,_,(r.drop (HT.sIx xs.length 0 lo)).take (HT.sIx xs.length xs.length hi-HT.sIx xs.length 0 lo),Es.new _ _⟩
abbrev vy(K:yF):R2:=λx y H Q=>∃a b xs ys,x=.ref a/\y=.ref b/\SqT K H a xs/\SqT K H b ys/\xs≠[]/\xs.length+ys.length<=sizeLine /\
 (ys=[]->Q (.ref a) H)/\(ys≠[]->∀p,H p=none->Q (.ref p) (upd H p (.tup (xs++ys))))
def Vals.nil_iff{xs:List V}{us:List EK}(r:Vals xs us):us=[]↔xs=[]:=by
 cases r with
 | nil=>simp
 | cons _ _=>simp
def tJ:OpR X (Fh .Add) (vy X.K):=by
 intro Uq s Z H x y v u Q I rx ry h;obtain⟨a,b,xs,ys,rfl,rfl,ha,hb,hx,hz,q1,q2⟩:=h;cases rx;cases ry;obtain⟨its,r1,p1,_⟩:=I.tuple ha;obtain⟨its2,r2,p2,_⟩:=I.tuple hb;apply HT.cat_tup p1 p2 (λz=>hx (r1.nil_iff.mp z)) (λz=>⟨.ref a,H,I,rfl,q1 (r2.nil_iff.mp z)⟩) (λz=>?_) (by rw[<-r1.length,<-r2.length];exact hz);apply⟨.ref s.heap.objs.size,_,I.laid (t':=s.toks) (o:=.tup (xs++ys)) (λb ob q=>EN _ q) (Bg _) ?_,rfl,q2 (λw=>z (r2.nil_iff.mpr w)) _ (I.hok.fresh (Bg _))⟩;exact⟨by rw[Bw];exact hz,_,r1.append r2,Es.new _ _⟩
end
abbrev ixN(n:Nat) (i:Int):Option Nat:=if 0<=i then(if i<n then some i.toNat else none)else if -(n:Int)<=i then some (i+n).toNat else none
abbrev atI{α:Type} (xs:List α) (i:Int):Option α:=(ixN xs.length i).bind λj=>xs[j]?
def mN{n:Nat}{i:Int}{j:Nat}(h:ixN n i=some j):seqIndex? i n=some j/\j<n/\-(n:Int)<=i/\i<n:=by
 unfold ixN at h;by_cases h0:0<=i
 ·rw[if_pos h0]at h;by_cases h1:i<n
  ·rw[if_pos h1]at h;have e:i.toNat=j:=Bq.inj h;exact⟨by rw[Ig h0 h1,e],by omega,by omega,h1⟩
  ·rw[if_neg h1]at h;cases h
 ·rw[if_neg h0]at h;by_cases h1 : -(n:Int)<=i
  ·rw[if_pos h1]at h;have e:(i+n).toNat=j:=Bq.inj h;exact⟨by rw[seqIndex_neg ⋯ h1,e],by omega,h1,by omega⟩
  ·rw[if_neg h1]at h;cases h
def jw{α:Type}{xs:List α}{i:Int}{v : α}(h:atI xs i=some v):∃j,seqIndex? i xs.length=some j/\xs[j]?=some v/\j<xs.length/\-(xs.length:Int)<=i/\i<xs.length:=by
 unfold atI at h;cases e:ixN xs.length i with
 | none=>rw[e]at h;cases h
 | some j=>
  rw[e]at h;obtain⟨h1,h2,h3,h4⟩:=mN e;exact⟨j,h1,h,h2,h3,h4⟩
abbrev mn(b:Expr):Prop:=∀o i,subscripted b false o i=operate [o,i] (Ir o i)
abbrev IxR(X:Cx)(r:R2):Prop:=
 ∀(value slice:Expr) (Uq:List (Addr×Obj)) (s:EM) (Z:St) (H:Hp) (x y:V) (v u:EK) (Q:VK),Inv X Uq Z H s->RelV x v->RelV y u->r x y H Q ->
  subscripted slice false v u=operate [v,u] (Ir v u)->EY (ET X.prog X.w) X.A (subscriptTail value slice v u) (EP X Uq Z Q) X.xe s
abbrev MtR(X:Cx)(id:String)(r:V->List V->Hp->VK->Prop):Prop:=
 ∀(Uq:List (Addr×Obj)) (s:EM) (Z:St) (H:Hp) (x:V) (xs:List V) (v:EK) (us:List EK) (Q:VK),Inv X Uq Z H s->RelV x v->Vals xs us->r x xs H Q ->
  EY (ET X.prog X.w) X.A (call (.builtin id) (v::us)) (EP X Uq Z Q) X.xe s
section
variable {X:Cx}{a b:Expr}{ta tb:TE}{pos:Pos}
def IxR.or{r r':R2}(h:IxR X r)(h':IxR X r'):IxR X (λx y H Q=>r x y H Q\/r' x y H Q):=by
 intro value slice Uq s Z H x y v u Q I rx ry q hs;rcases q with q|q;exact h value slice Uq s Z H x y v u Q I rx ry q hs;exact h' value slice Uq s Z H x y v u Q I rx ry q hs
def zF{r:R2}(hr:IxR X r)(ha:PE X a ta)(hb:PE X b tb)(hs:mn b):PE X (.Subscript a b pos) (tOp r ta tb):=by
 intro Uq s Z H Q I h;exact Subscript_ (vZ ha hb I h λv u s2 x y H2 I2 rx ry q=>hr a b Uq s2 Z H2 x y v u Q I2 rx ry q (hs _ _))
abbrev zW(K:yF):R2:=λx y H Q=>∃p xs i v,x=.ref p/\y=.int i/\SqL K H p xs/\atI xs i=some v/\Q v H
abbrev zY(K:yF):R2:=λx y H Q=>∃p xs i v,x=.ref p/\y=.int i/\SqT K H p xs/\atI xs i=some v/\Q v H
abbrev zX:R2:=λx y H Q=>∃z i c,x=.str z/\y=.int i/\z.length<=sizeLine/\atI z.cps.toList i=some c/\Q (.str ⟨#[c]⟩) H
def ix_list:IxR X (zW X.K):=by
 intro value slice Uq s Z H x y v u Q I rx ry h hs;obtain⟨p,xs,i,z,rfl,rfl,hq,he,q⟩:=h;cases rx;obtain⟨t,rfl⟩:=ry;obtain⟨its,r,pl,hz⟩:=I.list hq;obtain⟨j,h1,h2,h3,h4,h5⟩:=jw he;obtain⟨w,ew,rw'⟩:=r.get h2;have hl:=r.length;have hn:=fE;have fin:EP X Uq Z Q w s:=⟨z,H,I,rw',q⟩;by_cases h0:0<=i
 ·have hj:i.toNat=j:=by
   rw[Ig h0 h5]at h1;exact Bq.inj h1
  exact item_listR pl.isList h0 ⋯ (by rw[hj];exists ew) fin hs
 ·have hj:(i+(its.toArray.size:Int)).toNat=j:=by
   rw[seqIndex_neg ⋯ h4]at h1;rw[Bd,<-hl];exact Bq.inj h1
  exact GS (x:=w) pl.isList.typeIs HH.lookup
   (wpAny_getItem_list_neg (Q:=λr s'=>r=w/\EP X Uq Z Q r s') pl.isList ⋯ (by rw[Bd]<;>omega) ⋯ (by rw[hj];exists ew) ⟨rfl,fin⟩) hs
def ix_tup:IxR X (zY X.K):=by
 intro value slice Uq s Z H x y v u Q I rx ry h hs;obtain⟨p,xs,i,z,rfl,rfl,hq,he,q⟩:=h;cases rx;obtain⟨t,rfl⟩:=ry;obtain⟨its,r,pl,hz⟩:=I.tuple hq;obtain⟨j,h1,h2,h3,h4,h5⟩:=jw he;obtain⟨w,ew,rw'⟩:=r.get h2;have hl:=r.length;have hn:=fE;have fin:EP X Uq Z Q w s:=⟨z,H,I,rw',q⟩;exact GS (x:=w) pl.typeIs slot_tuple_getitem.lookup
  (getItem_tuple (j:=j) (Q:=λr s'=>r=w/\EP X Uq Z Q r s') pl ⋯ ⋯ (by rw[Bd,<-hl];exact h1) (by exists ew) ⟨rfl,fin⟩) hs
def ww:IxR X zX:=by
 intro value slice Uq s Z H x y v u Q I rx ry h hs;obtain⟨z,i,c,rfl,rfl,hz,he,q⟩:=h;obtain⟨t,rfl⟩:=rx;obtain⟨t',rfl⟩:=ry;obtain⟨j,h1,h2,h3,h4,h5⟩:=jw he;have hl:z.cps.toList.length=z.length:=by simp[Jw]
 rw[hl]at h1 h4 h5;have hn:=fE;exact tail_any (IE s z t) slot_str_getitem.lookup (getItem_str (c:=c) (by
  have e1:decide (i < -(2^63:Int))=false:=decide_eq_false ⋯;have e2:decide (i≥2^63)=false:=decide_eq_false ⋯;rw[e1,e2,Bool.or_false]) (by rw[h1];exists h2) ⟨.str ⟨#[c]⟩,H,I.tok _,⟨_,rfl⟩,q⟩) hs
abbrev rIx(K:yF):R2:=λx y H Q=>zW K x y H Q\/zY K x y H Q\/zX x y H Q
def wv:IxR X (rIx X.K):=ix_list.or (ix_tup.or ww)
def lI(its:List EK)(n j:Nat)(u:EK):GU (·.setIfInBounds j u) {cls:=.type "list",data:=.seq its.toArray n}={cls:=.type "list",data:=.seq (its.set j u).toArray n}:=by
 simp[GU]
def Inv.lst{Uq:List (Addr×Obj)}{Z:St}{H:Hp}{s:EM}{p:Addr}{xs:List V}(I:Inv X Uq Z H s)(h:H p=some (.lst xs)) :
  ∃(its:List EK) (n:Nat),Vals xs its/\s.heap.get? p=some {cls:=.type "list",data:=.seq its.toArray n}/\xs.length<=sizeLine:=by
 obtain⟨z,its,n,r,e⟩:=I.hok p _ h;exact⟨its,n,r,e,z⟩
def Inv.lstUpd{Uq:List (Addr×Obj)}{Z:St}{H:Hp}{s:EM}{p:Addr}{xs ys:List V}{its its':List EK}{n n':Nat}{f:Obj->Obj}(I:Inv X Uq Z H s)(h:H p=some (.lst xs))
  (ho:s.heap.get? p=some {cls:=.type "list",data:=.seq its.toArray n}) (hf:f {cls:=.type "list",data:=.seq its.toArray n}={cls:=.type "list",data:=.seq its'.toArray n'}) (r:Vals ys its') (hz:ys.length<=sizeLine) (t:Nat) :
  Inv X Uq Z (upd H p (.lst ys)) {s with heap:=s.heap.update p f,toks:=t}:=by
 have e:(s.heap.update p f).get? p=some {cls:=.type "list",data:=.seq its'.toArray n'}:=by
  rw[FK f ho (by rw[hf]<;>rfl),hf]
 apply I.write (x:=p) (e:=p) (by rw[h];trivial) (.inl rfl) (λb u hb q=>(F4 _ _ (Ff hb)).trans q) ⟨_,e⟩ ?_;exact⟨hz,its',n',r,e⟩
abbrev vE:V->V->V->Hp->(Hp->Prop)->Prop:=λo i v H Q=>∃p xs k j,o=.ref p/\i=.int k/\H p=some (.lst xs)/\ixN xs.length k=some j/\Q (upd H p (.lst (xs.set j v)))
def rT:yL X vE:=by
 intro Uq s Z H o i v ov iv u Q I ro ri rv h;obtain⟨p,xs,k,j,rfl,rfl,hp,hj,q⟩:=h;cases ro;obtain⟨t,rfl⟩:=ri;obtain⟨its,n,r,ho,hz⟩:=I.lst hp;obtain⟨h1,h2,h3,h4⟩:=mN hj;have hl:=r.length;have hn:=fE;have I':Inv X Uq Z (upd H p (.lst (xs.set j v))) {s with heap:=s.heap.update p (GU (·.setIfInBounds j u))}:=
  I.lstUpd hp ho (lI its n j u) (r.set rv j) (by rw[CB];exact hz) s.toks
 by_cases h0:0<=k
 ·have hk:k.toNat=j:=by
   rw[Ig h0 h4]at h1;exact Bq.inj h1
  exact PySem.W.ki_setAt ho h0 ⋯ (by rw[Bd,<-hl];exact h4) (by rw[hk];exact⟨_,I',q⟩)
 ·have hk:(k+(its.toArray.size:Int)).toNat=j:=by
   rw[seqIndex_neg ⋯ h3]at h1;rw[Bd,<-hl];exact Bq.inj h1
  exact PySem.W.ki_setBack ho ⋯ (by rw[Bd,<-hl];exact h3) ⋯ (by rw[hk];exact⟨_,I',q⟩)
def ka(lo hi:Option Int)(n:Nat):(FX lo hi none n).1=((HT.sIx n 0 lo:Nat):Int)/\(FX lo hi none n).2.1=((HT.sIx n n hi:Nat):Int)/\(FX lo hi none n).2.2=1:=by
 apply⟨?_,?_,rfl⟩
 ·cases lo with
  | none=>simp[FX,HT.sIx]
  | some i=>
   dsimp[FX,HT.sIx,DA,show(1:Int)>0 by decide,if_true];by_cases h:i<0;dsimp[h,if_true]<;>omega;dsimp[h,if_false]<;>omega
 ·cases hi with
  | none=>simp[FX,HT.sIx]
  | some i=>
   dsimp[FX,HT.sIx,DA,show(1:Int)>0 by decide,if_true];by_cases h:i<0;dsimp[h,if_true]<;>omega;dsimp[h,if_false]<;>omega
def iM(its:List EK)(lo hi:Option Int):slicePick its.toArray lo hi none=((its.drop (HT.sIx its.length 0 lo)).take (HT.sIx its.length its.length hi-HT.sIx its.length 0 lo)).toArray:=by
 obtain⟨h1,h2,h3⟩:=ka lo hi its.toArray.size;unfold slicePick;rw[h1,h2,h3];dsimp[IF,Jj,Bd]<;>rfl
abbrev z7(K:yF):V->Option Int->Option Int->Hp->VK->Prop:=λx lo hi H Q=>∃a xs,x=.ref a/\SqL K H a xs/\∀p,H p=none->Q (.ref p) (upd H p (.lst (gH xs lo hi)))
def sl_list:SlR X (z7 X.K):=by
 intro Uq s Z H x v vl vu lo hi sl Q I rx hs pl pu h;obtain⟨a,xs,rfl,hx,q⟩:=h;cases rx;obtain⟨its,r,ht,hz⟩:=I.list hx;have hlen:=r.length;apply⟨"list",_,HH.lookup,ht.isList.typeIs,?_⟩;apply wpAny_getItem_list_slice ht.isList hs pl pu .none ∅ ?_ (by rw[Bd]<;>omega);rw[iM,<-hlen];apply⟨.ref s.heap.objs.size,_,I.laid (t':=s.toks) (o:=.lst (gH xs lo hi)) (λb ob q=>EN _ q) (Bg _) ?_,rfl,q _ (I.hok.fresh (Bg _))⟩;exact⟨Bz (f6 xs lo hi) hz,_,0,(r.drop (HT.sIx xs.length 0 lo)).take (HT.sIx xs.length xs.length hi-HT.sIx xs.length 0 lo),E9 _ rfl⟩
abbrev f7:V->Bool
 | .non=>true
 | .bl _=>true
 | .int _=>true
 | .str _=>true
 | _=>false
abbrev eqV:V->V->Bool
 | .non,.non=>true
 | .bl a,.bl b=>a==b
 | .bl a,.int b=>(if a then 1 else 0)==b
 | .int a,.bl b=>a==(if b then 1 else 0)
 | .int a,.int b=>a==b
 | .str a,.str b=>a==b
 | _,_=>false
def wd{A:Fa}{s:EM}{y x:V}{u v:EK}(ry:RelV y u)(rx:RelV x v)(fy:f7 y=true)(fx:f7 x=true):Fd A s u v (eqV y x):=by
 cases y with
 | non=>
  cases ry;cases x with
  | non=>cases rx;exact Fd.same _
  | bl b=>cases rx;exact Fd.none_bool b
  | int b=>obtain⟨t,rfl⟩:=rx;exact Fd.none_int b t
  | str b=>obtain⟨t,rfl⟩:=rx;exact Fd.none_str b t
  | _=>exact absurd (show false=true from fx) Bl
 | bl a=>
  cases ry;cases x with
  | non=>cases rx;exact Fd.bool_none a
  | bl b=>cases rx;exact Fd.bool_bool a b
  | int b=>obtain⟨t,rfl⟩:=rx;exact Fd.bool_int a b t
  | str b=>obtain⟨t,rfl⟩:=rx;exact Fd.bool_str a b t
  | _=>exact absurd (show false=true from fx) Bl
 | int a=>
  obtain⟨t',rfl⟩:=ry;cases x with
  | non=>cases rx;exact Fd.int_none a t'
  | bl b=>cases rx;exact Fd.int_bool a t' b
  | int b=>obtain⟨t,rfl⟩:=rx;exact Fd.int_int a t' b t
  | str b=>obtain⟨t,rfl⟩:=rx;exact Ho a t' b t
  | _=>exact absurd (show false=true from fx) Bl
 | str a=>
  obtain⟨t',rfl⟩:=ry;cases x with
  | non=>cases rx;exact Fd.str_none a t'
  | bl b=>cases rx;exact Fd.str_bool a t' b
  | int b=>obtain⟨t,rfl⟩:=rx;exact Hr a t' b t
  | str b=>obtain⟨t,rfl⟩:=rx;exact Fd.str_str a t' b t
  | _=>exact absurd (show false=true from fx) Bl
 | _=>exact absurd (show false=true from fy) Bl
abbrev eqU(x:V) (u:EK):Bool:=match u with
 | .none=>eqV .non x
 | .bool b=>eqV (.bl b) x
 | .int i _=>eqV (.int i) x
 | .str z _=>eqV (.str z) x
 | _=>false
def pi{x y:V}{u:EK}(r:RelV y u)(f:f7 y=true):eqU x u=eqV y x:=by
 cases y with
 | non=>cases r;rfl
 | bl b=>cases r;rfl
 | int i=>obtain⟨t,rfl⟩:=r;rfl
 | str z=>obtain⟨t,rfl⟩:=r;rfl
 | _=>exact absurd (show false=true from f) Bl
def ju{x:V}:∀{xs:List V} {us:List EK},Vals xs us->xs.all f7=true->us.any (eqU x)=xs.any λy=>eqV y x
 | _,_,.nil,_=>rfl
 | y::xs,u::us,.cons r t,f=>by
  rw[Cr,A9]at f;rw[Dn,Dn,pi r f.1,ju t f.2]
def g6{A:Fa}{s:EM}{x:V}{v:EK}(rx:RelV x v)(fx:f7 x=true):∀{xs:List V} {us:List EK},Vals xs us->xs.all f7=true->∀u∈us,Fd A s u v (eqU x u)
 | _,_,.nil,_=>λu hu=>by cases hu
 | y::xs,u::us,.cons r t,f=>λu' hu=>by
  rw[Cr,A9]at f;rcases ycM hu with rfl|hu;rw[pi r f.1];exact wd r rx f.1 fx;exact g6 rx fx t f.2 u' hu
abbrev inV(x:V) (xs:List V):Bool:=xs.any λy=>eqV y x
abbrev rIn(K:yF)(neg:Bool):R2:=λx y H Q=>∃p xs,y=.ref p/\(SqL K H p xs\/SqT K H p xs)/\f7 x=true/\xs.all f7=true/\Q (.bl (if neg then !inV x xs else inV x xs)) H
def op_in_seq:OpR X (Fe .In) (rIn X.K false):=by
 intro Uq s Z H x y v u Q I rx ry h;obtain⟨p,xs,rfl,hq,fx,fs,q⟩:=h;cases ry;rcases hq with hq|hq
 ·obtain⟨its,r,pl,hz⟩:=I.list hq;apply Ii (eqU x) pl.isList (λw hw=>g6 rx fx r fs w (by exists hw)) ⟨.bl _,H,I,rfl,?_⟩;rw[show its.toArray.any (eqU x)=its.any (eqU x) by simp,ju r fs];exact q
 ·obtain⟨its,r,pl,hz⟩:=I.tuple hq;apply HW (eqU x) pl (λw hw=>g6 rx fx r fs w (by exists hw)) ⟨.bl _,H,I,rfl,?_⟩;rw[show its.toArray.any (eqU x)=its.any (eqU x) by simp,ju r fs];exact q
def jz:Ej X (.builtin "len") (λxs H Q=>∃p ys,xs=[.ref p]/\(SqL X.K H p ys\/SqT X.K H p ys)/\Q (.int ys.length) H):=by
 intro Uq s Z H xs us Q I r h;obtain⟨p,ys,rfl,hq,q⟩:=h;obtain⟨u,rfl,rx⟩:=fj r;cases rx;have hn:=fE;rcases hq with hq|hq
 ·obtain⟨its,r',pl,hz⟩:=I.list hq;have hlen:=r'.length;exact Calls.call_len_list pl.isList (by dsimp[Bd]<;>omega) ⟨.int ys.length,H,I.tok _,⟨s.toks+1,by rw[Bd,hlen]⟩,q⟩
 ·obtain⟨its,r',pl,hz⟩:=I.tuple hq;have hlen:=r'.length;exact len_tuple pl (by dsimp[Bd]<;>omega) ⟨.int ys.length,H,I.tok _,⟨s.toks+1,by rw[Bd,hlen]⟩,q⟩
def jA:Ej X (.builtin "len") (λxs H Q=>∃z,xs=[.str z]/\z.length<=sizeLine/\Q (.int z.length) H):=by
 intro Uq s Z H xs us Q I r h;obtain⟨z,rfl,hz,q⟩:=h;obtain⟨u,rfl,t,rfl⟩:=fj r;have hn:=fE;exact len_str ⋯ ⟨.int z.length,H,I.tok _,⟨_,rfl⟩,q⟩
def Ej.or{f:EK}{r r':List V->Hp->VK->Prop}(h:Ej X f r)(h':Ej X f r'):Ej X f (λxs H Q=>r xs H Q\/r' xs H Q):=by
 intro Uq s Z H xs us Q I rs q;rcases q with q|q;exact h Uq s Z H xs us Q I rs q;exact h' Uq s Z H xs us Q I rs q
def jB:Ej X (.type "list") (λxs H Q=>∃p ys,xs=[.ref p]/\(SqL X.K H p ys\/SqT X.K H p ys)/\∀l,H l=none->Q (.ref l) (upd H l (.lst ys))):=by
 intro Uq s Z H xs us Q I r h;obtain⟨p,ys,rfl,hq,q⟩:=h;obtain⟨u,rfl,rx⟩:=fj r;cases rx;have fin:∀(its:List EK),Vals ys its->ys.length<=sizeLine->∀(h':Heap) (c':Nat),(∀b o',s.heap.get? b=some o'->h'.get? b=some o') ->
   h'.get? s.heap.objs.size=some {cls:=.type "list",dict:=none,data:=.seq its.toArray c',slots:=#[]}->EP X Uq Z Q (.ref s.heap.objs.size) {s with heap:=h'}:=λits r' hz h' c' kp e=>
  ⟨.ref s.heap.objs.size,_,I.laid (t':=s.toks) kp (Bg _) (show Ec X.prog X.w _ h' _ (.lst ys)from⟨hz,its,c',r',e⟩),rfl,q _ (I.hok.fresh (Bg _))⟩
 rcases hq with hq|hq
 ·obtain⟨its,r',pl,hz⟩:=I.list hq;have hlen:=r'.length;obtain⟨o,ho,hc,n,hd⟩:=pl.isList;exact call_list_seq p (.inl rfl) ho hc hd (λh' c' kp e=>fin its r' hz h' c' kp e) (by dsimp[Bd]<;>omega)
 ·obtain⟨its,r',pl,hz⟩:=I.tuple hq;have hlen:=r'.length;obtain⟨o,ho,hc,n,hd⟩:=pl;exact call_list_seq p (.inr rfl) ho hc hd (λh' c' kp e=>fin its r' hz h' c' kp e) (by dsimp[Bd]<;>omega)
def iF:Ej X (.type "tuple") (λxs H Q=>∃p ys,xs=[.ref p]/\((SqL X.K H p ys/\∀l,H l=none->Q (.ref l) (upd H l (.tup ys)))\/(SqT X.K H p ys/\Q (.ref p) H))):=by
 intro Uq s Z H xs us Q I r h;obtain⟨p,ys,rfl,h⟩:=h;obtain⟨u,rfl,rx⟩:=fj r;cases rx;rcases h with⟨hq,q⟩|⟨hq,q⟩
 ·obtain⟨its,r',pl,hz⟩:=I.list hq;have hlen:=r'.length;apply call_tuple_list pl.isList (λh' kp=>?_) (by dsimp[Bd]<;>omega);have I1:Inv X Uq Z H {s with heap:=h'}:=I.kept (t':=s.toks) kp;have I2:Inv X Uq Z (upd H h'.objs.size (.tup ys)) {s with heap:=h'.push {cls:=.type "tuple",data:=.seq its.toArray}}:=
   I1.laid (t':=s.toks) (λb o e=>EN _ e) (Bg _) (show Ec X.prog X.w _ _ _ (.tup ys)from⟨hz,its,r',Es.new _ _⟩)
  exact⟨.ref h'.objs.size,_,I2,rfl,q _ (I1.hok.fresh (Bg _))⟩
 ·obtain⟨its,r',pl,hz⟩:=I.tuple hq;exact call_tuple_same pl ⟨.ref p,H,I,rfl,q⟩
abbrev tyV(K:yF)(T:String)(x:V)(H:Hp):Prop:=match x with
 | .str _=>T = "str"
 | .int _=>T = "int"
 | .ref p=>(T = "list" /\ ∃xs,SqL K H p xs)\/(T = "tuple" /\ ∃o,K.lookup p=some o/\o.cls=.type "tuple" /\ o.dict=none) \/
   (T = "dict" /\ ((∃kvs,H p=some (.dK kvs)) \/ ∃kvs,H p=some (.dT kvs)))\/(T = "set" /\ ∃S n,H p=some (.set S n))
 | _=>False
def ye{Uq:List (Addr×Obj)}{Z:St}{H:Hp}{s:EM}{T:String}{x:V}{v:EK}(I:Inv X Uq Z H s)(r:RelV x v)(ty:tyV X.K T x H) :
  s.TypeIs v T/\∀a,v=.ref a->∃ob,s.heap.get? a=some ob/\ob.dict=none:=by
 cases x with
 | str z=>
  obtain⟨t,rfl⟩:=r;cases (show T = "str" from ty);exact⟨IE s z t,λ_ e=>nomatch e⟩
 | int i=>
  obtain⟨t,rfl⟩:=r;cases (show T = "int" from ty);exact⟨Ga s i t,λ_ e=>nomatch e⟩
 | ref p=>
  cases r;rcases ty with⟨rfl,xs,hq⟩|⟨rfl,o,hk,hc,hd⟩|⟨rfl,hk⟩|⟨rfl,S,n,hk⟩
  ·obtain⟨its,_,pl,_⟩:=I.list hq;apply⟨pl.isList.typeIs,λa e=>?_⟩;cases e;obtain⟨o,n,e,c,hd,_⟩:=pl;exact⟨o,e,hd⟩
  ·apply⟨⟨o,I.kIn p o hk,hc⟩,λa e=>?_⟩;cases e;exact⟨o,I.kIn _ o hk,hd⟩
  ·have z:∃o,s.heap.get? p=some o/\o.ExactDict:=by
    rcases hk with⟨kvs,hk⟩|⟨kvs,hk⟩
    ·obtain⟨_,_,_,_,o,_,_,e,ex,_⟩:=I.hok p _ hk;exact⟨o,e,ex⟩
    ·obtain⟨_,_,_,_,o,_,_,e,ex,_⟩:=I.hok p _ hk;exact⟨o,e,ex⟩
   obtain⟨o,e,ex⟩:=z;apply⟨⟨o,e,ex.1⟩,λa e2=>?_⟩;cases e2;exact⟨o,e,ex.2.1⟩
  ·obtain⟨o,_,_,_,e,ex,_⟩:=I.hok p _ hk;apply⟨⟨o,e,ex.1⟩,λa e2=>?_⟩;cases e2;exact⟨o,e,ex.2.1⟩
 | _=>exact Fv ty
abbrev tBM(K:yF)(T:String)(r:V->List V->Hp->VK->Prop)(to:TE)(t:TA):TE:=λZ H Q=>to Z H λx H1=>tyV K T x H1/\t Z H1 λxs H2=>r x xs H2 Q
variable {o e:Expr}{es:List Expr}{to:TE}{t:TA}{name:Str}{apos cpos:Pos}{T id:String}{r:V->List V->Hp->VK->Prop}
def zD(pa:GV T)(slot:Slot T name id)(hty:Hf (.builtin id)=pure (.type "method_descriptor"))(hm:MtR X id r)(ho:PE X o to)(ha:PA X (e::es) t)
  (hbase:FF o name X.env (eval o X.env)=eval o X.env:=by rfl)
  (hfew:((FM cpos (E5 (e::es) X.env)).all (λx=>!x.1)&&(HI cpos (Gy [] X.env)).all (λx=>x.1.isSome)
   && decide ((e::es).length+([]:List Iq).length+(if([]:List Iq).isEmpty then 0 else 1)<30))=true:=by rfl)
  (hline:(apos.endLine==cpos.line)=true:=by rfl) (hs:E5 (e::es) X.env=(false,eval e X.env)::E5 es X.env:=by rfl) (hplain:(FM cpos (E5 es X.env)).any (·.1)=false:=by rfl) :
  PE X (.Call (.Attribute o name apos) (e::es) [] cpos) (tBM X.K T r to t):=by
 intro Uq s Z H Q I h;apply wpAny_Call_method_late hbase hfew hline rfl (thn (ho Uq s Z H _ I h) λv s1 ⟨x,H1,I1,r1,ty,q1⟩=>?_);obtain⟨h1,h2⟩:=ye I1 r1 ty;apply⟨T,id,pa,slot,hty,h1,h2,?_⟩;have hA:=ha cpos Uq s1 Z H1 _ I1 q1;rw[hs]at hA|-;apply Calls.callWith_builtin (by show(false||(FM cpos (E5 es X.env)).any (·.1))=false;rw[hplain]<;>rfl) (Calls.evalArgs_plain ?_);exact thn hA λus s2 ⟨vs,H2,I2,r2,q2⟩=>hm Uq s2 Z H2 x vs v us Q I2 r1 r2 q2
end
abbrev MtM(X:Cx)(id:String)(r:V->List V->Hp->VK->Prop):Prop:=
 ∀(Uq:List (Addr×Obj)) (s:EM) (Z:St) (H:Hp) (x:V) (xs:List V) (v:EK) (us:List EK) (Q:VK),Inv X Uq Z H s->RelV x v->Vals xs us->r x xs H Q ->
  EY (ET X.prog X.w) X.A (call (.builtin id) (v::us)) (EP X Uq Z Q) X.xe s
def Vals.one:∀{x:V} {us:List EK},Vals [x] us->∃u,us=[u]/\RelV x u:=by
 intro x us h;cases h with
 | cons r t=>cases t;exact⟨_,rfl,r⟩
def Vals.rep{xs:List V}{us:List EK}(h:Vals xs us):∀k:Nat,Vals (Bc k xs).flatten (Bc k us).flatten
 | 0=>.nil
 | k+1=>by
  rw[BH,BH,BX,BX];exact Vals.append h (Vals.rep h k)
def cQ(its:List EK):∀(k:Nat) (acc:List EK),
  Da (λx1 x2=>x1++x2) acc.toArray (Bc k its.toArray)=(acc++(Bc k its).flatten).toArray
 | 0,acc=>by simp
 | k+1,acc=>by
  have e:acc.toArray++its.toArray=(acc++its).toArray:=by simp
  have e2:(acc++its)++(Bc k its).flatten=acc++(Bc (k+1) its).flatten:=by
   rw[BH,BX,Bu]
  rw[<-e2,<-cQ its k (acc++its),<-e,BH,Dg]
section
variable {X:Cx}{Uq:List (Addr×Obj)}{Z:St}{H:Hp}{s:EM}{l b:Addr}{xs ys zs:List V}
def Inv.lset{its its':List EK}{n:Nat}{f:Array EK->Array EK}{t':Nat}(I:Inv X Uq Z H s)(hH:H l=some (.lst xs))
  (e:s.heap.get? l=some {cls:=.type "list",data:=.seq its.toArray n}) (hf:f its.toArray=its'.toArray) (hv:Vals ys its') (hz:ys.length<=sizeLine) :
  Inv X Uq Z (upd H l (.lst ys)) {s with heap:=s.heap.update l (GU f),toks:=t'}:=by
 have q:=PySem.IsL.update e f;rw[hf]at q;apply I.write (x:=l) (e:=l) (by rw[hH];exact trivial) (.inl rfl) (λb' u hb hu=>(F4 s.heap (GU f) (Ff hb)).trans hu) ⟨_,q⟩ ?_;exact⟨hz,its',_,hv,q⟩
def Inv.lnew{its:List EK}{t':Nat}(I:Inv X Uq Z H s)(hv:Vals ys its)(hz:ys.length<=sizeLine) :
  Inv X Uq Z (upd H s.heap.objs.size (.lst ys)) {s with heap:=s.heap.push {cls:=.type "list",data:=.seq its.toArray},toks:=t'}:=
 I.laid (λ_ _ q=>EN _ q) (Bg _) ⟨hz,its,0,hv,E9 _ rfl⟩
def Inv.fresh(I:Inv X Uq Z H s):H s.heap.objs.size=none:=I.hok.fresh (Bg _)
def Inv.lstM(I:Inv X Uq Z H s)(hH:H l=some (.lst xs)):xs.length<=sizeLine/\∃(its:List EK) (n:Nat),Vals xs its/\xs.length=its.length/\s.heap.get? l=some {cls:=.type "list",data:=.seq its.toArray n}:=by
 obtain⟨z,its,n,r,e⟩:=I.hok l _ hH;exact⟨z,its,n,r,r.length,e⟩
def hR{n:Nat}(h:n<=sizeLine):Fs n=false:=by
 unfold Fs;exact decide_eq_false ⋯
end
section
variable {X:Cx}
abbrev jZ:V->List V->Hp->VK->Prop:=λx vs H Q=>∃l xs y,x=.ref l/\vs=[y]/\H l=some (.lst xs)/\xs.length<sizeLine/\Q .non (upd H l (.lst (xs++[y])))
def ol:MtM X "list.append" jZ:=by
 intro Uq s Z H x vs v us Q I rx rv h;obtain⟨l,xs,y,rfl,rfl,hH,hz,q⟩:=h;cases rx;obtain⟨u,rfl,ru⟩:=rv.one;obtain⟨z,its,n,r,hl,e⟩:=I.lstM hH;apply FT F.slot_list_append ⟨_,e,rfl⟩ F.entry_list_append (F.args_list_append_2 _ _) (PySem.list_append l its.toArray n u (by rw[Bd];omega)) ⟨e,?_⟩;apply⟨.non,_,I.lset (its':=its++[u]) hH e ∅ (r.append (.cons ru .nil)) ?_,rfl,q⟩;rw[Bw,List.length_singleton];omega
abbrev uc:V->List V->Hp->VK->Prop:=λx vs H Q=>∃l b xs zs,x=.ref l/\vs=[.ref b]/\H l=some (.lst xs)/\H b=some (.lst zs)/\xs.length+zs.length<=sizeLine/\Q .non (upd H l (.lst (xs++zs)))
def mt_extend:MtM X "list.extend" uc:=by
 intro Uq s Z H x vs v us Q I rx rv h;obtain⟨l,b,xs,zs,rfl,rfl,hH,hB,hz,q⟩:=h;cases rx;obtain⟨u,rfl,ru⟩:=rv.one;cases ru;obtain⟨z,its,n,r,hl,e⟩:=I.lstM hH;obtain⟨z2,its2,n2,r2,hl2,e2⟩:=I.lstM hB;have hsz:its.toArray.size+its2.toArray.size<=sizeLine:=by rw[Bd,Bd];omega
 have hlong:¬ (!its.toArray.isEmpty&&Fs (its.toArray.size+its2.toArray.size))=true:=by
  rw[hR hsz,CW];exact Bl
 apply FT F.slot_list_extend ⟨_,e,rfl⟩ F.entry_list_extend (F.args_list_extend_2 _ _)
  (AutoSeq1.list_extend_list_list_0 l its.toArray n b its2.toArray n2 hlong (by rw[Bd];omega) ⋯) ⟨e,e2,?_⟩
 apply⟨.non,_,I.lset (its':=its++its2) hH e ∅ (r.append r2) ?_,rfl,q⟩;rw[Bw];omega
abbrev zS:R2:=λx y H Q=>∃l b xs zs,x=.ref l/\y=.ref b/\H l=some (.lst xs)/\H b=some (.lst zs)/\xs.length+zs.length<=sizeLine/\∀p,H p=none->Q (.ref p) (upd H p (.lst (xs++zs)))
def op_cat:OpR X (Fh .Add) zS:=by
 intro Uq s Z H x y v u Q I rx ry h;obtain⟨l,b,xs,zs,rfl,rfl,hH,hB,hz,q⟩:=h;cases rx;cases ry;obtain⟨z,its,n,r,hl,e⟩:=I.lstM hH;obtain⟨z2,its2,n2,r2,hl2,e2⟩:=I.lstM hB;apply PySem.P.add_list e e2 ?_ (by rw[Bd,Bd];omega);have ea:its.toArray++its2.toArray=(its++its2).toArray:=by simp
 rw[ea];exact⟨.ref _,_,I.lnew (t':=s.toks) (r.append r2) (by rw[Bw];omega),rfl,q _ I.fresh⟩
abbrev z6:R2:=λx y H Q=>∃l k xs,x=.ref l/\y=.int k/\H l=some (.lst xs)/\-(2^63)<=k/\k<2^63/\xs.length*k.toNat<=sizeLine /\
 ∀p,H p=none->Q (.ref p) (upd H p (.lst (Bc k.toNat xs).flatten))
def eU{α:Type}(xs:List α)(k:Nat):(Bc k xs).flatten.length=k*xs.length:=by
 induction k with
 | zero=>simp
 | succ k ih=>rw[BH,BX,Bw,ih,D4,Nat.add_comm]
def op_rep:OpR X (Fh .Mult) z6:=by
 intro Uq s Z H x y v u Q I rx ry h;obtain⟨l,k,xs,rfl,rfl,hH,h1,h2,hz,q⟩:=h;cases rx;obtain⟨t,rfl⟩:=ry;obtain⟨z,its,n,r,hl,e⟩:=I.lstM hH;have hlen:its.toArray.size*k.toNat<=sizeLine:=by rw[Bd,<-hl];exact hz
 have hcap:¬ its.toArray.size*k.toNat>(2^63-1) / 8:=by
  have:(sizeLine:Nat)<=(2^63-1) / 8:=by decide
  omega
 have hfit:¬ (!Builtin.List.listFitsIndex k)=true:=by
  rw[IG h1 h2];exact Bl
 have hlong:¬ Fs (its.toArray.size*k.toNat)=true:=by
  rw[hR hlen];exact Bl
 have hnew:Da (λx1 x2=>x1++x2) #[] (Bc (if its.toArray.isEmpty=true then 0 else k.toNat) its.toArray)=(Bc k.toNat its).flatten.toArray:=by
  have f0:∀m:Nat,Da (λx1 x2=>x1++x2) #[] (Bc m its.toArray)=(Bc m its).flatten.toArray:=λm=>by
   have:=cQ its m [];rw[Cb]at this;exact this
  rw[f0];cases its with
  | nil=>simp
  | cons a r'=>rw[if_neg ∅]
 apply FP (T:="list") (U:="int") (by decide) ⟨_,e,rfl⟩ (λs'=>Ga s' k t) Ij G3 FI repeat_list GK.lookup
  (FT FI (Ga s k t) GL (Gz _ _) (G8 k t l its.toArray n)
   ⟨e,rfl,⟨_,e,rfl⟩,FT Ik ⟨_,e,rfl⟩ HX (HJ _ _) (FY l its.toArray n k t hfit hcap hlong) ⟨e,?_⟩⟩)
 rw[hnew];exact⟨.ref _,_,I.lnew (t':=s.toks) (r.rep k.toNat) (by rw[eU,Dw];exact hz),rfl,q _ I.fresh⟩
end
end L2
namespace Att
open PySem PySem.W PySem.Calls PyProof.Rows
def ints_of_wellAll{P:HU}{h:Heap}:∀(ns:List Int) (vs:List EK),WellAll P h vs (ns.map JE)->Is vs ns:=by
 intro ns
 induction ns with
 | nil=>
  intro vs w;rw[Dx]at w;cases w;exact .nil
 | cons n ns ih=>
  intro vs w;rw[Bj]at w;cases w with
  | cons a b=>
   cases a;exact .cons _ _ (ih _ b)
def script_of{l:Ja}{n:Nat}(hn:l.most=some n){P:HU}{h:Heap}{args:List JB}{vals:List EK}
  (hpre:l.row.toRowW.claim.pre args=true) (hwl:WellAll P h vals args) :
  ∃a vs ns,vals=[Fj a]/\args=[JB.list (ns.map JE)]/\h.get? a=some {cls:=.type "list",data:=.seq vs.toArray}/\Is vs ns/\ns.length<=n:=by
 have hsh:Jb.hasAll [] args [.list .int]=true:=(pre_splitW hpre).1;have hc:l.pre.holds [] {args:=args}=true:=(pre_splitW hpre).2;obtain⟨d,r,rfl,h1,h2⟩:=hasAllW_cons hsh;obtain rfl:=hasAllW_nil h2;obtain⟨xs,rfl,h3⟩:=hasW_list h1;obtain⟨ns,rfl⟩:=items_int h3;have hlen:ns.length<=n:=by
  unfold Ja.pre at hc;have h4:(WTm.not (.lt (.lit (.int (n:Int))) (.len (.arg 0)))).holds [] {args:=[.list (ns.map .int)]}=true:=by
   have h4:=(holds_andW hc).1;rw[hn]at h4;exact h4
  have h5:=condW_of h4 (w_not (w_lt w_lit (w_len_list (w_arg rfl))));rw[Br]at h5;apply Nat.le_of_not_lt λq=>?_;have q':(n:Int)<((ns.length:Nat):Int):=by omega
  first
   | (rw[decide_eq_true q']at h5;exact absurd h5 (by decide))
   | (simp at h5;omega)
 cases hwl with
 | cons w1 w2=>
  cases w2;cases w1 with
  | list ho hall=>exact⟨_,_,ns,rfl,rfl,ho,ints_of_wellAll ns _ hall,hlen⟩
def post_true(l:Ja)(args:List JB):l.row.toRowW.claim.post args (.bool true) args=true:=
 postW_of (r:=l.row.toRowW) (X:=(true==true))
  (show Jy [] (.bool true) .bool=true by first|rfl|decide|simp[Jy,Jb.arms,Jb.armsAll])
  (show(WTm.eq .res (.lit (.bool true))).value [] {args:=args,res:=some (.bool true),after:=args}=some (.bool (true==true))from w_eq_bool (w_res rfl) w_lit) rfl
def attach_call{l:Ja}{n:Nat}{q:EU}{loose:List Str}{XP:(Str->Option EK)->Heap->Prop}{YP:E4->Heap->Prop}{d:DefRec}
  (hn:l.most=some n) (hdf:d.params.defaults=[])
  (call:∀(w:E4) (s₀ s₁ : EM) (mg mb:Str->Option EK) (fa:Addr) (o:Obj) (pm cd doc:EK) (a:Addr) (vs:List EK) (ns:List Int),
   Ground q loose [] XP w s₀ mg mb s₁.heap->YP w s₁.heap ->
   s₁.heap.get? fa=some o->o.data=.func (docDef d.name d.params d.body d.scope pm cd doc)->s₁.heap.CodeRec cd d.name->mg d.name=some (.ref fa) ->
   s₁.heap.get? a=some {cls:=.type "list",data:=.seq vs.toArray}->Is vs ns->ns.length<=n->s₁.gens = #[] ->
   Ge (ET l.prog w) GX (.call (.ref fa) ⟨[.ref a],[]⟩) (λr s'=>r=.ok (.ret (.bool true))/\OldK s₁.heap s'.heap/\s'.os=s₁.os/\Gx s'.gens) s₁) :
  WalkO q loose XP YP l.row.toRowW d [] (λf vs=>PySem.call f vs):=by
 intro w s₀ s₁ mg mb G Y fa o pm cd doc dV kV ho hd hcd hD hmg hg args vals as hpre hlay hrd hwl hlo;obtain rfl:dV=.none:=Dflts.none hD hdf;obtain rfl:kV=.none:=Dflts.noKw hD;obtain⟨a,vs,ns,rfl,rfl,hobj,hints,hlen⟩:=script_of hn hpre hwl;apply enter_call (Gk (call w s₀ s₁ mg mb fa o pm cd doc a vs ns G Y ho (fd_plain hd) hcd hmg hobj hints hlen hg) λr s' hq=>?_);obtain⟨rfl,h2,h3,h4⟩:=hq;exact⟨.inl ⟨.bool true,.bool true,[],rfl,λ_=>rfl,.bool true,post_true l _,λ_=>⟨List.Pairwise.nil,λ_ hm=>(nomatch hm)⟩⟩,h2,h3,h4⟩
end Att
namespace L2
open PySem PySem.Spec PyProof.Rows
def jo:∀{vs:List EK} {ns:List Int},Is vs ns->Vals (ns.map V.int) vs
 | _,_,.nil=>.nil
 | _,_,.cons n t h=>.cons ⟨t,rfl⟩ (jo h)
abbrev yJ(H:Hp):Prop:=∀b,H b=none \/ ∃o xs,H b=some (.frz o (.lst xs))
def pU{P:EU}{w:E4}{K:yF}{mg mb:Str->Option EK}{CX:CXT}{k:Nat}{fa a:Addr}{fd:Fm}{x:Str}{sp:Sp}{s₁ : EM}{vs:List EK}{ns:List Int}
  (KX:K.In s₁.heap) (hns:s₁.heap.Ns E3 mg) (hb:s₁.heap.Ns Hu mb) (hbb:∀x:Str,x ≠ "__name__" -> mb x=Fq x) (hlim:s₁.heap.NoLimit) (hg:s₁.gens = #[])
  (ha:s₁.heap.get? a=some {cls:=.type "list",data:=.seq vs.toArray}) (hi:Is vs ns) (hl:ns.length<=sizeLine) (hr:Eh k GX)
  (F:∀base:Heap,K.In base->base.Ns E3 mg->Ep P w K mg base CX k fa fd [x] sp) (hbind:∀(s:EM) (u:EK),GR s fd ⟨[u],[]⟩ [(x,u)])
  (hsp:∀H:Hp,yJ H->SqL K H a (ns.map V.int)->sp [.ref a] H (λv _=>v=.bl true) λ_ _ _=>False)
  (hCX:∀H e s',CX [] H s₁ (λ_ _ _=>False) e s'->False) :
  Ge (ET P w) GX (.call (.ref fa) ⟨[.ref a],[]⟩) (λr s'=>r=.ok (.ret (.bool true))/\OldK s₁.heap s'.heap/\s'.os=s₁.os/\Gx s'.gens) s₁:=by
 have rv:=jo hi;have lenV:=hi.length;have core:∀H:Hp,yJ H->SqL K H a (ns.map V.int)->HOk P w H s₁.heap->(∀b,H b≠none->b=a)->(H a≠none->K.lookup a=none) ->
   Ge (ET P w) GX (.call (.ref fa) ⟨[.ref a],[]⟩) (λr s'=>r=.ok (.ret (.bool true))/\OldK s₁.heap s'.heap/\s'.os=s₁.os/\Gx s'.gens) s₁:=by
  intro H hO hS hok hA hK;have base_of:∀{b:Addr} {o:Obj},s₁.heap.get? b=some o->H b=none->(jI s₁.heap H).get? b=some o:=λe n=>pF e n;have noA:∀{b:Addr} {o:Obj} {es:Array Gp} {ep:Nat},s₁.heap.get? b=some o->o.data=.dict es ep->H b=none:=λ{b o es ep} e d=>by
   cases q:H b with
   | none=>rfl
   | some u=>
    have e':b=a:=hA b (by rw[q];simp);subst e';rw[ha]at e;cases e;have d':Data.seq vs.toArray _=JF es ep:=d;cases d'
  have nsK:∀{b:Addr} {m:Str->Option EK},s₁.heap.Ns b m->(jI s₁.heap H).Ns b m:=λ{b m} ⟨o,es,ep,e,d,r⟩=>⟨o,es,ep,base_of e (noA e d),d,r⟩;have hKb:K.In (jI s₁.heap H):=λb o e=>base_of (KX b o e) (by
   cases q:H b with
   | none=>rfl
   | some u=>
    have e':b=a:=hA b (by rw[q];simp);subst e';rw[hK (by rw[q];simp)]at e;cases e)
  have hM:Mod K mg (jI s₁.heap H):=⟨hKb,nsK hns,⟨mb,nsK hb,hbb⟩,let ⟨mc,h1,h2⟩:=hlim;⟨mc,nsK h1,h2⟩⟩;have e0:EF P w K mg (jI s₁.heap H) GX [] s₁ H:=⟨rfl,hM,λb o e=>tH e,Nat.le_of_eq (nX _ _),trivial,λb hb=>absurd (show b∈([]:List Addr)from hb) ∅,hok,.of_eq hg⟩;apply Gk ((F _ hKb (nsK hns)).run GX [] s₁ H ⟨[.ref a],[]⟩ [.ref a] [.ref a] _ _ hr e0 (hbind s₁ (.ref a)) (.cons rfl .nil) (hsp H hO hS)) λr s' h=>?_;cases r with
  | error e=>exact(hCX H e s' h).elim
  | ok fl=>
   cases fl with
   | next=>exact Fv h
   | brk=>exact Fv h
   | cont=>exact Fv h
   | ret u=>
    obtain⟨v,H',os,bare,un,hok',r',q⟩:=h;have q':v=.bl true:=q;subst q';obtain rfl:u=Ht true:=r';apply⟨rfl,OldK.of_keep λb o e=>?_,os,bare⟩;cases q:H b with
    | none=>exact un.keep b o e q (by intro z;exact absurd (show b∈([]:List Addr)from z) ∅) ∅
    | some u=>
     rcases hO b with z|⟨ob,xs,z⟩;rw[q]at z;cases z
     ·have z2:=un.frzs b ob _ z;obtain⟨e1,_⟩:=hok b _ z;obtain⟨e2,_⟩:=hok' b _ z2;rw[e]at e1;cases e1;exact e2
 cases hk:K.lookup a with
 | some o=>
  have e:=KX a o hk;rw[ha]at e;cases e;apply core (λ_=>none) (λ_=>.inl rfl) (.inr ⟨_,vs.toArray,_,hk,rfl,rfl,rfl,by rw[Bd,lenV];exact hl,by simpa using rv⟩) (λb u z=>by have z':(none:Option HO)=some u:=z;cases z') (λb z=>absurd rfl z) λz=>absurd rfl z
 | none=>
  apply core (λb=>if b=a then some (.frz {cls:=.type "list",data:=.seq vs.toArray} (.lst (ns.map V.int)))else none) (λb=>?_) (.inl (.inr ⟨{cls:=.type "list",data:=.seq vs.toArray},if_pos rfl⟩)) (λb u z=>?_) (λb z=>?_) λ_=>hk
  ·by_cases hb:b=a;exact .inr ⟨_,_,if_pos hb⟩;exact .inl (if_neg hb)
  ·by_cases hb:b=a
   ·have z':=(if_pos hb).symm.trans z;cases z';subst hb;exact⟨ha,by rw[Br];exact hl,vs,_,rv,ha⟩
   ·have z':=(if_neg hb).symm.trans z;cases z'
  ·by_cases hb:b=a;exact hb;exact absurd (if_neg hb) z
abbrev bh(s:Stmt):IU:=match s with
 | .FunctionDef _ a _ _ _ _ _ _ _ _=>a
 | _=>{posonlyargs:=[],args:=[],vararg:=none,kwonlyargs:=[],kw_defaults:=[],kwarg:=none,defaults:=[]}
abbrev aE(s:Stmt):List Stmt:=match s with
 | .FunctionDef _ _ b _ _ _ _ _ _ _=>b
 | _=>[]
abbrev ae(s:Stmt):FL:=match s with
 | .FunctionDef _ _ _ _ _ _ sc _ _ _=>sc
 | _=>{kind:=.function,names:=[],isGenerator:=false,isCoroutine:=false}
protected def CX0:CXT:=λ_ _ _ _ _ _=>False
protected def E0:XK:=λ_ _ _=>False
def mU{X:Cx}:ef CX0 X E0:=λ_ _ _ _ _ _ _ h=>h.elim
structure Fun(K:yF)(x qual:Str)(st:Stmt)(f:Addr)(fd:Fm):Prop where
 ex:∃(oc:EK) (od:Option Addr) (kV doc pm:EK) (an:Option Addr) (cdv ct:EK) (osl:Array (Option EK)),
  fd=BN x qual (bh st) (aE st) (ae st) .none kV doc pm an cdv ct/\K.lookup f=some ⟨oc,od,.func fd,osl⟩/\Cw K cdv qual=true
 kp:Cf K (.ref f)=true
section
variable {P:EU}{w:E4}{K:yF}{mg:Str->Option EK}{base:Heap}
def Fun.ok{x qual:Str}{st:Stmt}{f:Addr}{fd:Fm}{N ps:List Str}{k:Nat}{sp:Sp}(F:Fun K x qual st f fd)(S:vx N ps (ae st))(len:∀vs H Q E,sp vs H Q E->vs.length=ps.length)
  (hbody:∀(cdv:EK) (A:Fa) (outer:List Env) (s:EM) (H:Hp) (vs:List V) (Q:VK) (E:XK),Eh k (A.deeper (Gg qual (ae st) s.heap.objs.size f cdv))->sp vs H Q E ->
   ∃t,PSs (eN CX0 P w K mg base N qual (ae st) f cdv A outer s H E).nox (aE st) t/\t {nx:=λ_ H'=>Q .non H',rt:=Q} (bd N vs) H):Ep P w K mg base CX0 (k+1) f fd ps sp:=by
 obtain⟨oc,od,kV,doc,pm,an,cdv,ct,osl,rfl,lk,hcd⟩:=F.ex;apply y8 lk hcd S len λA outer s H vs Q E hr hsp=>?_;obtain⟨t,h,q⟩:=hbody cdv A outer s H vs Q E hr hsp;exact⟨t,h.nox,q⟩
def Fun.binds{x qual:Str}{st:Stmt}{f:Addr}{fd:Fm}{ps:List Str}(F:Fun K x qual st f fd)
  (h:∀(kV doc pm:EK) (an:Option Addr) (cdv ct:EK) (us:List EK),us.length=ps.length->Hb (BN x qual (bh st) (aE st) (ae st) .none kV doc pm an cdv ct) ⟨us,[]⟩=pure (ps.zip us)):Ek K fd ps []:=by
 obtain⟨oc,od,kV,doc,pm,an,cdv,ct,osl,rfl,lk,hcd⟩:=F.ex;exact .all (h kV doc pm an cdv ct)
def pC{x qual:Str}{st:Stmt}{f:Addr}{oc:EK}{od an:Option Addr}{osl:Array (Option EK)}{kV doc pm cdv ct:EK}(l:K.lookup f=some ⟨oc,od,.func (BN x qual (bh st) (aE st) (ae st) .none kV doc pm an cdv ct),osl⟩)
  (c:Cw K cdv qual=true) (k:Cf K (.ref f)=true):Fun K x qual st f (BN x qual (bh st) (aE st) (ae st) .none kV doc pm an cdv ct):=⟨⟨oc,od,kV,doc,pm,an,cdv,ct,osl,rfl,l,c⟩,k⟩
end
def pN{A B:Prop}(h:B):if false=true then A else B:=by
 rw[if_neg Bl];exact h
def pP{A B:Prop}(h:A):if true=true then A else B:=by
 rw[if_pos rfl];exact h
abbrev Ei(H H':Hp):Prop:=∀b o,H b=some o->H' b=some o
def Ei.refl(H:Hp):Ei H H:=λ_ _ h=>h
abbrev bn(env:Env):List (Str×EZ)->List (Str×Addr)->List (Str×Addr)
 | [],acc=>acc
 | (n,k)::r,acc=>if k == .free then bn env r ((n,(env.cells.lookup n).getD 0)::acc)else bn env r acc
def fo{env:Env}:∀(names:List (Str×EZ)) (acc:List (Str×Addr)),(∀x∈names,x.2=.free->∃c,env.cells.lookup x.1=some c) ->
  (forIn names acc λ(x:Str×EZ) (cs:List (Str×Addr))=>if x.2 == .free then(do let c <-cellOf env x.1;pure (Gh ((x.1,c)::cs)):Sem _)else pure (Gh cs))=(pure (bn env names acc):Sem _)
 | [],acc,_=>rfl
 | (n,k)::r,acc,h=>by
  have hr:∀x∈r,x.2=.free->∃c,env.cells.lookup x.1=some c:=λx hx=>h x (ymC _ hx);rw[List.forIn_cons];unfold bn;by_cases hk:(k==Fy)=true
  ·obtain⟨c,hc⟩:=h (n,k) ymS (by exists hk);have hc':env.cells.lookup n=some c:=hc;have e:cellOf env n=pure c:=by unfold cellOf;rw[hc']
   dsimp[hk,if_true,e,hc',Option.getD_some,pure_bind];exact fo r _ hr
  ·have hk':(k==Fy)=false:=by exists hk
   dsimp[hk',CY,if_false,pure_bind];exact fo r _ hr
def d8{env:Env}{scope:FL}(h:∀x∈scope.names,x.2=.free->∃c,env.cells.lookup x.1=some c):closureFor scope env=pure (bn env scope.names []):=by
 have:=fo (env:=env) scope.names [] h;dsimp[closureFor];rw[this,pure_bind]
def fm{env:Env}{x:Str}{c:Addr}:∀(names:List (Str×EZ)) (acc:List (Str×Addr)),(∀y∈names,y.2=.free->∃c,env.cells.lookup y.1=some c)->(acc.lookup x=some c->env.cells.lookup x=some c) ->
  (bn env names acc).lookup x=some c->env.cells.lookup x=some c
 | [],acc,_,h0,h=>h0 h
 | (n,k)::r,acc,hn,h0,h=>by
  have hr:∀y∈r,y.2=.free->∃c,env.cells.lookup y.1=some c:=λy hy=>hn y (ymC _ hy);unfold bn at h;by_cases hk:(k==Fy)=true
  ·rw[if_pos hk]at h;apply fm r _ hr (λe=>?_) h;obtain⟨c',hc'⟩:=hn (n,k) ymS (by exists hk);have hc'':env.cells.lookup n=some c':=hc';rw[Bs]at e;by_cases hx:(x==n)=true
   ·rw[hx]at e;have hxn:x=n:=by exists hx
    subst hxn;rw[hc'']at e|-;exact e
   ·have hx':(x==n)=false:=by exists hx
    rw[hx']at e;exact h0 e
  ·rw[if_neg hk]at h;exact fm r acc hr h0 h
def fk{env:Env}{x:Str}:∀(names:List (Str×EZ)) (acc:List (Str×Addr)),(acc.lookup x).isSome=true->((bn env names acc).lookup x).isSome=true
 | [],_,h=>h
 | (n,k)::r,acc,h=>by
  unfold bn;by_cases hk:(k==Fy)=true
  ·rw[if_pos hk];apply fk r _ ?_;rw[Bs];cases hx:(x==n)with
   | true=>rfl
   | false=>exact h
  ·rw[if_neg hk];exact fk r acc h
def cZ{env:Env}{x:Str}:∀(names:List (Str×EZ)) (acc:List (Str×Addr)),(x,Fy)∈names->((bn env names acc).lookup x).isSome=true
 | [],_,h=>by cases h
 | (n,k)::r,acc,h=>by
  unfold bn;rcases ycM h with e|h
  ·cases e;rw[if_pos (by rfl)];apply fk r _ ?_;rw[Bs,beq_self_eq_true];rfl
  ·by_cases hk:(k==Fy)=true
   ·rw[if_pos hk];exact cZ r _ h
   ·rw[if_neg hk];exact cZ r _ h
def gD{x:Str}{c:Addr}:∀(names:List (Str×EZ)) (n:Nat) (acc:List (Str×Addr)),(Fb n names acc).lookup x=some c->(n<=c/\(x,E7)∈names)\/acc.lookup x=some c
 | [],_,_,h=>.inr h
 | (y,k)::r,n,acc,h=>by
  unfold Fb at h;by_cases hk:(k==E7)=true
  ·rw[if_pos hk]at h;rcases gD r (n+1) _ h with⟨h1,h2⟩|h1;exact .inl ⟨by omega,ymC _ h2⟩
   ·rw[Bs]at h1;by_cases hx:(x==y)=true
    ·rw[hx]at h1;have hxy:x=y:=by exists hx
     have hkc:k=.cell:=by exists hk
     subst hxy hkc;cases h1;exact .inl ⟨Bg _,ymS⟩
    ·have hx':(x==y)=false:=by exists hx
     rw[hx']at h1;exact .inr h1
  ·rw[if_neg hk]at h;rcases gD r n _ h with⟨h1,h2⟩|h1;exact .inl ⟨h1,ymC _ h2⟩;exact .inr h1
def lu:∀(names:List (Str×EZ)) (n:Nat) (acc:List (Str×Addr)),(∀x c,acc.lookup x=some c->c<n)->(∀x y c,acc.lookup x=some c->acc.lookup y=some c->x=y) ->
  ∀x y c,(Fb n names acc).lookup x=some c->(Fb n names acc).lookup y=some c->x=y
 | [],_,_,_,hi,x,y,c,h1,h2=>hi x y c h1 h2
 | (z,k)::r,n,acc,hb,hi,x,y,c,h1,h2=>by
  unfold Fb at h1 h2;by_cases hk:(k==E7)=true
  ·rw[if_pos hk]at h1 h2;apply lu r (n+1) ((z,n)::acc) (λa b e=>?_) (λa b d e1 e2=>?_) x y c h1 h2
   ·rw[Bs]at e;cases q:(a==z)with
    | true=>rw[q]at e;cases e;exact DB _
    | false=>rw[q]at e;exact Dy (hb a b e)
   ·rw[Bs]at e1 e2;cases q1:(a==z)with
    | true=>
     cases q2:(b==z)with
     | true=>rw[beq_iff_eq.mp q1,beq_iff_eq.mp q2]
     | false=>rw[q1]at e1;rw[q2]at e2;cases e1;exact absurd (hb b n e2) (B4 _)
    | false=>
     cases q2:(b==z)with
     | true=>rw[q1]at e1;rw[q2]at e2;cases e2;exact absurd (hb a n e1) (B4 _)
     | false=>rw[q1]at e1;rw[q2]at e2;exact hi a b d e1 e2
  ·rw[if_neg hk]at h1 h2;exact lu r n acc hb hi x y c h1 h2
def gE{x:Str}:∀(names:List (Str×EZ)) (n:Nat) (acc:List (Str×Addr)),(x,E7)∉names->(Fb n names acc).lookup x=acc.lookup x
 | [],_,_,_=>rfl
 | (y,k)::r,n,acc,h=>by
  unfold Fb;by_cases hk:(k==E7)=true
  ·rw[if_pos hk,gE r _ _ (λz=>h (ymC _ z)),Bs];have hkc:k=.cell:=by exists hk
   have hx:(x==y)=false:=by
    cases q:(x==y)with
    | false=>rfl
    | true=>exact absurd (by rw[beq_iff_eq.mp q,hkc];exact ymS) h
   rw[hx]
  ·rw[if_neg hk];exact gE r _ _ λz=>h (ymC _ z)
def jC{x:Str}{c:Addr}:∀(names:List (Str×EZ)) (n:Nat) (acc:List (Str×Addr)),((x,E7)∈names \/ ∀c',acc.lookup x=some c'->n<=c')->(Fb n names acc).lookup x=some c->∀lo,lo<=n->(∀c',acc.lookup x=some c'->lo<=c')\/(x,E7)∈names->lo<=c
 | [],n,acc,_,h,lo,hl,h2=>by
  rcases h2 with h2|h2;exact h2 c h;cases h2
 | (y,k)::r,n,acc,_,h,lo,hl,h2=>by
  unfold Fb at h;by_cases hk:(k==E7)=true
  ·rw[if_pos hk]at h;have key:(∀c',((y,n)::acc).lookup x=some c'->lo<=c')\/(x,E7)∈r:=by
    by_cases hx:(x==y)=true
    ·apply .inl λc' e=>?_;rw[Bs,hx]at e;cases e;exact hl
    ·have hx':(x==y)=false:=by exists hx
     rcases h2 with h2|h2
     ·apply .inl λc' e=>?_;rw[Bs,hx']at e;exact h2 c' e
     ·rcases ycM h2 with e|h2
      ·cases e;simp at hx
      ·exact .inr h2
   have key2:(x,E7)∈r \/ ∀c',((y,n)::acc).lookup x=some c'->n+1<=c'\/True:=.inr λ_ _=>.inr trivial;rcases key with key|key
   ·by_cases hm:(x,E7)∈r;exact jC r (n+1) _ (.inl hm) h lo ⋯ (.inr hm)
    ·rw[gE r _ _ hm]at h;exact key c h
   ·exact jC r (n+1) _ (.inl key) h lo ⋯ (.inr key)
  ·rw[if_neg hk]at h;have key:(∀c',acc.lookup x=some c'->lo<=c')\/(x,E7)∈r:=by
    rcases h2 with h2|h2;exact .inl h2
    ·rcases ycM h2 with e|h2
     ·cases e;exact absurd rfl hk
     ·exact .inr h2
   by_cases hm:(x,E7)∈r;exact jC r n _ (.inl hm) h lo hl (.inr hm)
   ·rcases key with key|key
    ·rw[gE r _ _ hm]at h;exact key c h
    ·exact absurd key hm
def cI{x:Str}{c:Addr}:∀(names:List (Str×EZ)) (h:Heap) (acc:List (Str×Addr)),(Fb h.objs.size names acc).lookup x=some c->(pushCells h names).IsCell c none\/acc.lookup x=some c
 | [],_,_,e=>.inr e
 | (y,k)::r,h,acc,e=>by
  unfold Fb at e;unfold pushCells;by_cases hk:(k==E7)=true
  ·rw[if_pos hk]at e|-;have e':(Fb (h.push {cls:=.type "cell",data:=.cell none}).objs.size r ((y,h.objs.size)::acc)).lookup x=some c:=by rw[F5];exact e
   rcases cI r (h.push {cls:=.type "cell",data:=.cell none}) ((y,h.objs.size)::acc) e' with q|q;exact .inl q
   ·rw[Bs]at q;cases hx:(x==y)with
    | true=>
     rw[hx]at q;cases q;exact .inl ⟨_,G4 r _ _ _ (E9 _ rfl),rfl⟩
    | false=>rw[hx]at q;exact .inr q
  ·rw[if_neg hk]at e|-;exact cI r h acc e
def iE{M:JA}{A:Fa}{E:EK->EM->Prop}{s:EM}{scope:FL}{globals:Addr}{cl:List (Str×Addr)}{qual:Str}{env:Env}{Q:Env->EM->Prop}
  (hQ:∀h',h'.Ns s.heap.objs.size (λ_=>none)->(∀b o,s.heap.get? b=some o->h'.get? b=some o)->(∀x c,(Fb (s.heap.objs.size+1) scope.names cl).lookup x=some c->h'.IsCell c none\/cl.lookup x=some c) ->
   Q (newEnv scope s.heap.objs.size globals (Fb (s.heap.objs.size+1) scope.names cl) qual none .none (some env) Hu) {s with heap:=h'}) :
  EY M A (Hg scope globals cl [] qual none .none (some env)) Q E s:=by
 dsimp[Hg,Option.isSome_some,if_true];apply EL (wpAny_alloc ?_);apply EL (wpAny_layCells _ (λname kind cells=>by cases hkc:kind==E7<;>simp[hkc]) _ _ _ _ ?_);rw[show({s with heap:=s.heap.push {cls:=.type "dict",data:=.dict #[]}}:EM).heap.objs.size=s.heap.objs.size+1 from F5 ..];rw[List.forIn_nil];apply EL (EO (EO (hQ _ ?_ ?_ ?_)));exact(Heap.Ns.new s.heap (.type "dict")).keeps (G4 _ _);exact λb o e=>G4 _ _ b o (EN _ e)
 ·intro x c e;have e':(Fb (s.heap.push {cls:=.type "dict",data:=.dict #[]}).objs.size scope.names cl).lookup x=some c:=by rw[F5];exact e
  exact cI _ _ _ e'
abbrev rlK(env:Env) (n:Str) (k:EZ):EZ:=if(k == .free&&env.scope.kind == .function&&env.kindOf n==some .cell)then .cell else k
def i3{env:Env}{x:Str}:∀(names:List (Str×EZ)),
  (names.map λ(n,k)=>if(k==Fy&&env.scope.kind == .function&&env.kindOf n==some .cell)then(n,E7)else(n,k)).lookup x=(names.lookup x).map (rlK env x)
 | []=>rfl
 | (n,k)::r=>by
  have ih:=i3 (env:=env) (x:=x) r;rw[Bj,Bs];have e1:(if(k==Fy&&env.scope.kind == .function&&env.kindOf n==some .cell)then(n,E7)else(n,k))=(n,rlK env n k):=by
   unfold rlK;split<;>rfl
  show B5 x ((if(k==Fy&&env.scope.kind == .function&&env.kindOf n==some .cell)then(n,E7)else(n,k))::_)=_;rw[e1,Bs,Bs];cases hx:(x==n)with
  | true=>
   have e2:=beq_iff_eq.mp hx;subst e2;rfl
  | false=>exact ih
def dB{scope:FL}{env:Env}{x:Str}:(HK scope env).names.lookup x=(scope.names.lookup x).map (rlK env x):=i3 scope.names
structure Blk(osc sc:FL)(N N':List Str)(fr:List (Option Nat)):Prop where
 kind:sc.kind=.function
 nd:N'.Nodup
 len:fr.length=N'.length
 free:∀(i j:Nat) (x:Str),fr[i]?=some (some j)->N'[i]?=some x->N[j]?=some x/\sc.names.lookup x=some .free
 out:∀x∈sc.names,x.2=.free->(osc.names.lookup x.1=some .cell\/osc.names.lookup x.1=some .free)/\(x.1,E7)∉sc.names
 locl:∀x∈sc.names,x.2=.local->sc.names.lookup x.1=some .local
abbrev yP(osc sc:FL) (N N':List Str) (fr:List (Option Nat)):Bool:=
 (sc.kind == .function)&&decide N'.Nodup&&(fr.length==N'.length) &&
 (fr.zip N').all (λp=>match p.1 with|none=>true|some j=>N[j]? == some p.2&&sc.names.lookup p.2==some .free) &&
 sc.names.all (λp=>(p.2 != .free||((osc.names.lookup p.1==some .cell||osc.names.lookup p.1==some .free) && !sc.names.contains (p.1,.cell)))&&(p.2 != .local||sc.names.lookup p.1==some .local))
def Blk.of{osc sc:FL}{N N':List Str}{fr:List (Option Nat)}(h:yP osc sc N N' fr=true):Blk osc sc N N' fr:=by
 unfold yP at h;dsimp[A9]at h;obtain⟨⟨⟨⟨h1,h2⟩,h3⟩,h4⟩,h5⟩:=h;apply⟨by simpa using h1,of_decide_eq_true h2,by simpa using h3,λi j x e1 e2=>?_,λx hx hk=>?_,λx hx hk=>?_⟩
 ·have hm:(some j,x)∈fr.zip N':=by
   apply Di.mpr ⟨i,?_⟩;rw[List.getElem?_zip_eq_some];exact⟨e1,e2⟩
  have:=BC.mp h4 _ hm;dsimp[A9]at this;exact⟨by simpa using this.1,by simpa using this.2⟩
 ·have:=BC.mp h5 x hx;dsimp[A9]at this;have t1:=this.1;rw[hk]at t1;dsimp[bne_self_eq_false,DX,A9,Dh,BI]at t1;apply⟨t1.1.imp (λz=>by exists z) (λz=>by exists z),λhm=>?_⟩;have t2:=t1.2;rw[List.contains_iff_mem.mpr hm]at t2;cases t2
 ·have:=BC.mp h5 x hx;dsimp[A9]at this;have t1:=this.2;rw[hk]at t1;dsimp[bne_self_eq_false,DX]at t1;exists t1
abbrev bZ(fr:List (Option Nat)) (Z:St):St:=fr.map λo=>match o with
 | none=>none
 | some j=>Z.getD j none
def eS(fr:List (Option Nat))(Z:St):(bZ fr Z).length=fr.length:=by unfold bZ;rw[Br]
abbrev wa(X:Cx) (scope:FL) (N':List Str) (cells:List (Str×Addr)) (C:Addr) (s:EM) (H:Hp) (ex:List Addr) (pn:List (Addr×Obj)) (xe:EK->EM->Prop):Cx where
 prog:=X.prog
 w:=X.w
 K:=X.K
 mg:=X.mg
 base:=X.base
 A:=X.A
 N:=N'
 s₀:=s
 H₀:=H
 env:=Jk scope cells C X.env
 outer:=X.stack
 stack:=X.stack
 ex:=ex
 fn:=λx=>scope.names.lookup x==some .cell
 calm:=X.calm
 pn:=pn
 xe:=xe
section
variable {X:Cx}{Uq:List (Addr×Obj)}{Z:St}{H H':Hp}{s:EM}{scope:FL}{N':List Str}{fr:List (Option Nat)}{ex:List Addr}{xe:EK->EM->Prop}
def cr{sc:FL}{x:Str}{k:EZ}(h:sc.names.lookup x=some k):(x,k)∈sc.names:=Cc h
def Inv.freeCells(I:Inv X Uq Z H s)(B:Blk X.env.scope scope X.N N' fr):∀x∈scope.names,x.2=.free->∃c,X.env.cells.lookup x.1=some c:=λx hx hk=>I.ok.has x.1 (B.out x hx hk).1
def Inv.enter{h':Heap}(I:Inv X Uq Z H s)(B:Blk X.env.scope scope X.N N' fr)(hex:∀b∈ex,dX X Uq H b/\∃o,s.heap.get? b=some o)
  (hns:h'.Ns s.heap.objs.size (λ_=>none)) (hk:∀b o,s.heap.get? b=some o->h'.get? b=some o)
  (hc:∀x c,(Fb (s.heap.objs.size+1) scope.names (bn X.env scope.names [])).lookup x=some c->h'.IsCell c none\/(bn X.env scope.names []).lookup x=some c) :
  Inv (wa X scope N' (Fb (s.heap.objs.size+1) scope.names (bn X.env scope.names [])) s.heap.objs.size s H ex (X.pn++Uq) xe) [] (bZ fr Z) H {s with heap:=h'}:=by
 have hfc:=I.freeCells B;have old:∀x c,(bn X.env scope.names []).lookup x=some c->X.env.cells.lookup x=some c:=λx c e=>fm scope.names [] hfc (λz=>by cases z) e;have lt:∀x c,X.env.cells.lookup x=some c->c<s.heap.objs.size:=λx c e=>by
  obtain⟨v,q⟩:=I.cell x c e;exact q.lt
 have cases2:∀x c,(Fb (s.heap.objs.size+1) scope.names (bn X.env scope.names [])).lookup x=some c->s.heap.objs.size+1<=c\/X.env.cells.lookup x=some c:=λx c e=>
  (gD _ _ _ e).imp (λz=>z.1) (old x c)
 have hlt:∀b∈ex,b<s.heap.objs.size:=λb hb=>by
  obtain⟨o,e⟩:=(hex b hb).2;exact ES e
 have has:∀x,scope.names.lookup x=some .cell\/scope.names.lookup x=some .free->∃c,(Fb (s.heap.objs.size+1) scope.names (bn X.env scope.names [])).lookup x=some c:=λx hx=>by
  apply Ck.mp (CJ _ _ _ (hx.imp id λz=>cZ _ _ (cr z)))
 apply⟨⟨I.ok.mod,?_,I.ok.glob,I.ok.blt,Bg _,?_,?_,?_,I.ok.hd,I.ok.gd,I.ok.frames,.inl rfl,?_,I.bs,Bz I.ok.bsz I.sz,?_,?_,I.stack,I.stkFree⟩,rfl,I.bare,Un.kept hk,⟨_,hns,?_⟩,?_,?_,?_,?_,I.hok.kept hk,?_⟩;exact B.kind;exact lu _ _ _ (λx c e=>Dy (lt x c (old x c e))) (λx y c e1 e2=>I.ok.inj x y c (old x c e1) (old y c e2))
 ·intro x hx;apply has x ?_;have hx':(HK scope X.env).names.lookup x=some .cell\/(HK scope X.env).names.lookup x=some .free:=hx;rw[dB]at hx';cases q:scope.names.lookup x with
  | none=>rw[q]at hx';rcases hx' with z|z<;>cases z
  | some k=>
   rw[q]at hx';have hx2:rlK X.env x k=.cell\/rlK X.env x k=.free:=hx'.imp (λz=>Bq.inj z) (λz=>Bq.inj z);unfold rlK at hx2;split at hx2
   ·delta hc;dsimp[A9]at hc;have:k=.free:=by exists hc.1.1
    rw[this];exact .inr rfl
   ·rcases hx2 with z|z<;>rw[z];exact .inl rfl;exact .inr rfl
 ·intro x c hf e;have hf':scope.names.lookup x=some .cell:=by
   have:(scope.names.lookup x==some E7)=true:=hf;exists this
  exact jC _ _ _ (.inl (cr hf')) e _ (C2 _) (.inr (cr hf'))
 ·intro b hb;obtain⟨⟨_,_,_,_,f4,_⟩,_⟩:=hex b hb;apply⟨BG (hlt b hb),λx c e z=>?_⟩;rcases cases2 x c e with q|q
  ·rw[z]at q;exact absurd (Bp (hlt b hb) (Nat.le_of_succ_le q)) (B4 _)
  ·exact f4 x c q z
 ·intro b o e hb;obtain⟨⟨_,_,_,f3,_,_⟩,_⟩:=hex b hb;rcases f3 with z|z;exact I.ok.noex b o e z;exact absurd (Bp (ES e) (Bz I.ok.bsz z)) (B4 _)
 ·intro b hb hf;obtain⟨⟨_,f1,f2,_,_,_⟩,_⟩:=hex b hb;rcases ycM (I.stkSub b hf)with z|z;exact f1 z;exact f2 z
 ·intro i x v e1 e2 e3;unfold bZ at e2;rw[Bv]at e2;cases q:fr[i]? with
  | none=>rw[q]at e2;cases e2
  | some o=>
   rw[q]at e2;cases o with
   | none=>simp at e2
   | some j=>
    have e2':Z.getD j none=some v:=by exists e2
    obtain⟨b1,b2⟩:=B.free i j x q e1;have e4:Z[j]?=some (some v):=by
     rw[BF]at e2';cases q2:Z[j]? with
     | none=>rw[q2]at e2';cases e2'
     | some y=>rw[q2]at e2';simp at e2';rw[e2']
    obtain⟨o1,o2⟩:=B.out (x,.free) (cr b2) rfl;obtain⟨m,hn,hl⟩:=I.loc;have vis:Vis X.env.scope x:=o1.elim (λz=>.inr (.inl z)) λz=>.inr (.inr z);obtain⟨u,r,l⟩:=hl j x v b1 e4 vis;apply⟨u,r,.inr ?_⟩;have nl:∃c,X.env.cells.lookup x=some c/\s.heap.IsCell c (some u):=by
     rcases l with⟨kl,_⟩|⟨_,c,h1,h2⟩
     ·have kl':X.env.scope.names.lookup x=some .local:=kl;rcases o1 with z|z<;>· have z':X.env.scope.names.lookup x=_:=z;rw[kl']at z';cases z'
     ·exact⟨c,h1,h2⟩
    obtain⟨c,h1,h2⟩:=nl;have kd:(Jk scope (Fb (s.heap.objs.size+1) scope.names (bn X.env scope.names [])) s.heap.objs.size X.env).kindOf x=some .cell\/(Jk scope (Fb (s.heap.objs.size+1) scope.names (bn X.env scope.names [])) s.heap.objs.size X.env).kindOf x=some .free:=by
     show(HK scope X.env).names.lookup x=some .cell\/(HK scope X.env).names.lookup x=some .free;rw[dB,b2];show some (rlK X.env x .free)=_\/some (rlK X.env x .free)=_;unfold rlK;split;exact .inl rfl;exact .inr rfl
    apply⟨kd,c,?_,h2.keeps hk⟩;show(Fb (s.heap.objs.size+1) scope.names (bn X.env scope.names [])).lookup x=some c;rw[gE _ _ _ o2];obtain⟨c',hc'⟩:=Ck.mp (cZ (env:=X.env) scope.names [] (cr b2));rw[hc'];have:=old x c' hc';rw[h1]at this;exact this.symm
 ·intro x c e;rcases hc x c e with q|q;exact⟨_,q⟩
  ·obtain⟨v,z⟩:=I.cell x c (old x c q);exact⟨v,z.keeps hk⟩
 ·exact I.hok.fresh (Bg _)
 ·intro x c e;rcases cases2 x c e with q|q
  ·exact I.hok.fresh ⋯
  ·exact I.freeC x c q
 ·intro p hp;have hp':p∈X.pn++Uq:=by
   have:p∈(X.pn++Uq)++[]:=hp;rwa [BA]at this
  obtain⟨e,n,ne,nf,d⟩:=I.pin p hp';apply⟨hk _ _ e,n,BG (ES e),λz=>?_,d⟩;rcases ycM (I.stkSub p.1 z)with q|q;exact ne q;exact nf q
 ·show(bZ fr Z).length=N'.length;rw[eS,B.len]
def Inv.leave{cells:List (Str×Addr)}{C:Addr}{pins':List (Addr×Obj)}{Z':St}{s':EM}{pn:List (Addr×Obj)}(I:Inv X Uq Z H s)(hex:∀b∈ex,dX X Uq H b)
  (J:Inv (wa X scope N' cells C s H ex pn xe) pins' Z' H' s'):Inv X Uq Z H' s':=
 I.call' J.os J.base J.hok J.bare λb hb=>by
  obtain⟨_,f1,_,f3,f4,f5⟩:=hex b hb;exact⟨f3,f1,f4,f5⟩
def Inv.track{d:Addr}{o:HO}(I:Inv X Uq Z H s)(hd:dX X Uq H d)(hX:d∉X.ex\/X.s₀.heap.objs.size<=d)(h0:X.s₀.heap.objs.size<=d)(new:Ec X.prog X.w (upd H d o) s.heap d o):Inv X Uq Z (upd H d o) s:=by
 obtain⟨f0,f1,f2,f3,f4,f5⟩:=hd;apply⟨I.ok,I.os,I.bare,⟨I.base.keep,I.base.slot,λb u q n hx=>?_,I.base.there,λb xs q=>?_,λb u xs q=>?_,λb ps q=>?_⟩,I.loc,I.cell,?_,λx c e=>?_,λp hp=>?_,λb u q=>?_,I.len⟩
 ·rw[upd_ne (BG (Bp (ES q) h0))];exact I.base.free b u q n hx
 ·have:=I.base.tups b xs q;rw[upd_ne (aN this f0)];exact this
 ·have:=I.base.frzs b u xs q;rw[upd_ne (aN this f0)];exact this
 ·obtain⟨m,this⟩:=I.base.tbls b ps q;exact⟨m,by rw[upd_ne (aN this f0)];exact this⟩
 ·rw[upd_ne (Ff f1)];exact I.free
 ·rw[upd_ne (f4 x c e)];exact I.freeC x c e
 ·obtain⟨e,n,ne,nf,dd⟩:=I.pin p hp;exact⟨e,by rw[upd_ne (f5 p hp)];exact n,ne,nf,dd⟩
 ·by_cases hb:b=d
  ·subst hb;rw[aq]at q;cases q;exact new
  ·rw[upd_ne hb]at q;exact(I.hok b u q).stay (λ_ _ _ z=>z) (λc z=>by rw[upd_ne (aN z f0)];exact z) λc xs z=>by rw[upd_ne (aN z f0)];exact z
end
noncomputable abbrev nF(ifs:List Expr) (env:Env):Sem Bool:=forIn ifs true λc r=>if r=true then do let ok <-IZ c env (eval c env);pure (Gh ok)else pure (Gh r)
def dw{prog:EU}{w:E4}{A:Fa}{R:Ju->EM->Prop}{s:EM}{elt target iter:Expr}{ifs:List Expr}{scope:FL}{pos:Pos}{it acc:EK}{env:Env}(I:Nat->EM->Prop)
  (turn:∀n s,I n s->EY (ET prog w) A (I0 it) (λr s₁=>match r with
   | none=>R (.ok .next) s₁
   | some v=>EY (ET prog w) A (Gf target it v) (λ_ s₁'=>EY (ET prog w) A (GB target env v) (λ_ s₂=>
     EY (ET prog w) A (nF ifs env) (λok s₃=>
      if ok=true then EY (ET prog w) A (eval elt env) (λx s₄=>
       EY (ET prog w) A (call (.builtin "list.append") [acc,x]) (λ_ s₅=>∃m,m<n/\I m s₅) (HL (ET prog w) A env λe s'=>R (.error e) s') s₄) (HL (ET prog w) A env λe s'=>R (.error e) s') s₃
      else∃m,m<n/\I m s₃) (HL (ET prog w) A env λe s'=>R (.error e) s') s₂) (HL (ET prog w) A env λe s'=>R (.error e) s') s₁') (HL (ET prog w) A env λe s'=>R (.error e) s') s₁) (HL (ET prog w) A env λe s'=>R (.error e) s') s)
  (n:Nat) (h:I n s):Ge (ET prog w) A (.compLoop (.ListComp elt [⟨target,iter,ifs,0⟩] scope pos) 0 it acc env) R s:=by
 apply codeAny_loop rfl I (λn s hI=>?_) n h;show EY _ A ((compTurn (.ListComp elt [⟨target,iter,ifs,0⟩] scope pos) 0 it acc env).onRaise (λx=>do noteFrame x env;theTreesLotGoes x)) _ _ s;apply wpAny_noted ?_;rw[compTurn_list];apply EL (Gd (EL (FE (turn n s hI) (λr s₁ h₁=>?_) λ_ _ h'=>h')));cases r with
 | none=>exact EO h₁
 | some v=>
  apply EL (FE h₁ (λ_ s₁' h₁'=>?_) λ_ _ h'=>h');apply EL (FE h₁' (λ_ s₂ h₂=>EL (FE h₂ (λok s₃ h₃=>?_) λ_ _ h'=>h')) λ_ _ h'=>h');cases ok with
  | false=>exact EO ⟨rfl,h₃⟩
  | true=>
   exact EL (EL (FE h₃ (λx s₄ h₄=>EL (FE h₄ (λ_ s₅ h₅=>EO (EO ⟨rfl,h₅⟩)) λ_ _ h'=>h')) λ_ _ h'=>h'))
abbrev PTs(X:Cx)(ifs:List Expr)(t:TT):Prop:=
 ∀(Uq:List (Addr×Obj)) (s:EM) (Z:St) (H:Hp) (Q:Bool->Hp->Prop),Inv X Uq Z H s->t Z H Q->EY (ET X.prog X.w) X.A (nF ifs X.env) (TP X Uq Z Q) X.xe s
abbrev An:TT:=λ_ H Q=>Q true H
def t9{X:Cx}:PTs X [] An:=λ_ _ _ H _ I h=>wpAny_tests_nil ⟨H,I,h⟩
abbrev Kp(fr:List (Option Nat))(Z Z':St):Prop:=Z'.length=Z.length/\∀i j:Nat,fr[i]?=some (some j)->Z'[i]?=Z[i]?
def Kp.refl(fr:List (Option Nat))(Z:St):Kp fr Z Z:=⟨rfl,λ_ _ _=>rfl⟩
def Kp.trans{fr:List (Option Nat)}{Z Z' Z'':St}(a:Kp fr Z Z')(b:Kp fr Z' Z''):Kp fr Z Z'':=⟨b.1.trans a.1,λi j e=>(b.2 i j e).trans (a.2 i j e)⟩
abbrev eK(fr:List (Option Nat))(g:TG):Prop:=∀v Z H (Q Q':St->Hp->Prop),(∀Z' H',Q Z' H'->Kp fr Z Z'->Q' Z' H')->g v Z H Q->g v Z H Q'
abbrev gB(fr:List (Option Nat))(g:TGs):Prop:=∀v Z H (Q Q':St->Hp->Prop),(∀Z' H',Q Z' H'->Kp fr Z Z'->Q' Z' H')->g v Z H Q->g v Z H Q'
def sT{fr:List (Option Nat)}{i:Nat}(h:fr[i]?=some none):eK fr (gM i):=λv Z H Q Q' k q=>by
 apply k _ _ q ⟨CB,λi' j e=>?_⟩;have:i≠i':=λz=>by subst z;rw[h]at e;cases e
 exact Bn this
def wn{fr:List (Option Nat)}:gB fr wm:=λv Z H Q Q' k q=>⟨q.1,k _ _ q.2 (Kp.refl _ _)⟩
def sS{fr:List (Option Nat)}{g:TG}{gs:TGs}(h1:eK fr g)(h2:gB fr gs):gB fr (pD g gs):=λvs Z H Q Q' k q=>by
 obtain⟨v,r,e,q⟩:=q;apply⟨v,r,e,h1 v Z H _ _ (λZ1 H1 q1 k1=>h2 r Z1 H1 _ _ (λZ2 H2 q2 k2=>k Z2 H2 q2 (k1.trans k2)) q1) q⟩
def wo{fr:List (Option Nat)}{K:yF}{n:Nat}{gs:TGs}(h:gB fr gs):eK fr (sR K n gs):=λv Z H Q Q' k q=>by
 obtain⟨a,xs,e1,e2,e3,q⟩:=q;exact⟨a,xs,e1,e2,e3,h xs Z H Q Q' k q⟩
structure Bk where
 cells:List (Str×Addr)
 C:Addr
 s:EM
 H:Hp
 ex:List Addr
 pn:List (Addr×Obj)
noncomputable abbrev cxB(X:Cx) (scope:FL) (N':List Str) (b:Bk):Cx:=wa X scope N' b.cells b.C b.s b.H b.ex b.pn λ_ _=>False
abbrev rZ(wi:TI)(fr:List (Option Nat))(g:TG)(tc:TT)(te:TE):TE:=λZ H Q=>
 wi Z H λJ H1=>∃W:Nat->Nat->List V->Hp->Prop,(∃m,W 0 m [] H1)/\∀i m acc H,W i m acc H->acc.length<sizeLine /\
  ((J.stop i H/\∀d,H d=none->Q (.ref d) (upd H d (.lst acc))) \/
  (J.go i H/\∃N:List V->Hp->Prop,(∀acc' H',N acc' H'->∃m',m'<m/\W (i+1) m' acc' H') /\
   ∀x H',J.yld i H x H'->g x (bZ fr Z) H' λZ2 H2=>tc Z2 H2 λb H3=>if b=true then te Z2 H3 λv H4=>N (acc++[v]) H4 else N acc H3))
section
variable {X:Cx}{elt tg iter:Expr}{ifs:List Expr}{scope:FL}{pos:Pos}{N':List Str}{fr:List (Option Nat)}{wi:TI}{g:TG}{tc:TT}{te:TE}
def gF(hc:X.calm=true)(B:Blk X.env.scope scope X.N N' fr)
  (hg:∀b,PG (cxB X scope N' b) tg g) (hgk:eK fr g) (ht:∀b,PTs (cxB X scope N' b) ifs tc) (he:∀b,PE (cxB X scope N' b) elt te)
  {Uq:List (Addr×Obj)} {Z:St} {Q:VK} {itv:EK} {s2:EM} {E:EK->EM->Prop} {RR:EK->Addr->Ju->EM->Prop}
  (h2:PIE X Uq Z tg (λJ H1=>∃W:Nat->Nat->List V->Hp->Prop,(∃m,W 0 m [] H1)/\∀i m acc H,W i m acc H->acc.length<sizeLine /\
   ((J.stop i H/\∀d,H d=none->Q (.ref d) (upd H d (.lst acc))) \/
   (J.go i H/\∃N:List V->Hp->Prop,(∀acc' H',N acc' H'->∃m',m'<m/\W (i+1) m' acc' H') /\
    ∀x H',J.yld i H x H'->g x (bZ fr Z) H' λZ2 H2=>tc Z2 H2 λb H3=>if b=true then te Z2 H3 λv H4=>N (acc++[v]) H4 else N acc H3))) itv s2)
  (hRR:∀(d C:Addr) (v:V) (H':Hp) (s':EM) m',Inv X Uq Z H' s'->v=.ref d->Q v H'->s'.heap.Ns C m'->dX X Uq H' C->C≠d->RR (.ref d) C (.ok .next) s') :
  EY (ET X.prog X.w) X.A (newList []) (λacc s₃=>EY (ET X.prog X.w) X.A (Hg scope X.env.globals (bn X.env scope.names []) [] X.env.qual none .none (some X.env)) (λcenv s₄=>
   Ge (ET X.prog X.w) X.A (.compStart (.ListComp elt [⟨tg,iter,ifs,0⟩] scope pos) 0 itv acc {cenv with scope:=HK scope X.env}) (RR acc cenv.locals) s₄) E s₃) E s2:=by
 obtain⟨it,fp,tn,J,H2,rfl,I2,T,st2,f2,W,⟨m0,w0⟩,turn⟩:=h2;apply Fk ?_;generalize hd:s2.heap.objs.size=d;have I3:Inv X Uq Z H2 {s2 with heap:=s2.heap.push {cls:=.type "list",dict:=none,data:=.seq ([]:List EK).toArray}}:=I2.kept (t':=s2.toks) λb o e=>EN _ e;have fd:dX X Uq H2 d:=I2.fpOk (by rw[hd];exact Bg _) (I2.hok.fresh (by rw[hd];exact Bg _));have od:(s2.heap.push {cls:=.type "list",dict:=none,data:=.seq ([]:List EK).toArray}).get? d=some {cls:=.type "list",dict:=none,data:=.seq ([]:List EK).toArray}:=by rw[<-hd];exact E9 _ rfl
 have st3:tn 0 (s2.heap.push {cls:=.type "list",dict:=none,data:=.seq ([]:List EK).toArray}):=T.keep _ _ _ st2 λb _ o e=>EN _ e;have ne_d:∀b∈fp,b≠d:=λb hb=>by
  obtain⟨o,e,_⟩:=T.obj _ _ st2 b hb;rw[<-hd];exact BG (ES e)
 have hd0:X.s₀.heap.objs.size<=d:=by rw[<-hd];exact I2.sz
 generalize hs3:({s2 with heap:=s2.heap.push {cls:=.type "list",dict:=none,data:=.seq ([]:List EK).toArray}}:EM)=s3 at I3;have od3:s3.heap.get? d=some {cls:=.type "list",dict:=none,data:=.seq ([]:List EK).toArray}:=by rw[<-hs3];exact od
 have st3':tn 0 s3.heap:=by rw[<-hs3];exact st3
 have hex:∀b∈d::fp,dX X Uq H2 b/\∃o,s3.heap.get? b=some o:=λb hb=>by
  rcases ycM hb with e|hb;subst e;exact⟨fd,_,od3⟩
  ·obtain⟨o,e,_⟩:=T.obj _ _ st3' b hb;exact⟨f2 b hb,o,e⟩
 apply iE λh4 hns hk hcl=>?_;have J0:=I3.enter (ex:=d::fp) (xe:=λ_ _=>False) B hex hns hk hcl;generalize hCs:Fb (s3.heap.objs.size+1) scope.names (bn X.env scope.names [])=cells at J0;have hCd:s3.heap.objs.size≠d:=λz=>by have:=ES od3;rw[z]at this;exact B4 _ this
 let bk:Bk:=⟨cells,s3.heap.objs.size,s3,H2,d::fp,X.pn++Uq⟩
 have J0':Inv (cxB X scope N' bk) [] (bZ fr Z) H2 {s3 with heap:=h4}:=J0;show Ge (ET X.prog X.w) X.A (.compStart (.ListComp elt [⟨tg,iter,ifs,0⟩] scope pos) 0 (.ref it) (.ref d) (cxB X scope N' bk).env) (RR (.ref d) s3.heap.objs.size) {s3 with heap:=h4};have ne_pn:∀p∈X.pn++Uq,p.1≠d/\∀b∈fp,p.1≠b:=λp hp=>⟨fd.2.2.2.2.2 p hp,λb hb=>(f2 b hb).2.2.2.2.2 p hp⟩;have fpk:∀{Hx:Hp} {o:Obj},(∀b∈fp,Hx b=none)->∀b∈fp,dX (cxB X scope N' bk) [(d,o)] Hx b:=λ{Hx o} hn b hb=>by
  have hb':b∈d::fp:=ymC _ hb;apply⟨hn b hb,(J0'.ok.exf b hb').1,J0'.ok.exfs b hb',.inl hb',λx c e=>(J0'.ok.exf b hb').2 x c e,λp hp=>?_⟩;have hp':p∈(X.pn++Uq)++[(d,o)]:=hp;rcases yaM hp' with z|z;exact(ne_pn p z).2 b hb
  ·have:p=(d,o):=by exists z
   rw[this];exact Ff (ne_d b hb)
 have loop:∀s4:EM,Inv (cxB X scope N' bk) [] (bZ fr Z) H2 s4->tn 0 s4.heap->s4.heap.PlainList d #[] ->
   Ge (ET X.prog X.w) X.A (.compLoop (.ListComp elt [⟨tg,iter,ifs,0⟩] scope pos) 0 (.ref it) (.ref d) (cxB X scope N' bk).env) (RR (.ref d) s3.heap.objs.size) s4:=by
  intro s4 J4 st4 pl4;apply dw (λn s'=>∃i acc its H' Z',Inv (cxB X scope N' bk) [] Z' H' s'/\Kp fr (bZ fr Z) Z'/\tn i s'.heap/\(∀b∈fp,H' b=none)/\H' d=none/\s'.heap.PlainList d (List.toArray its)/\Vals acc its/\W i n acc H') ?_ m0
   ⟨0,[],[],H2,bZ fr Z,J4,Kp.refl _ _,st4,λb hb=>(f2 b hb).1,fd.1,pl4,.nil,w0⟩
  rintro n s5 ⟨i,acc,its,H5,Z5,J5,kp5,st5,fr5,hd5,⟨n5,pl5⟩,va5,w5⟩;obtain⟨hz,cs⟩:=turn i n acc H5 w5;have J5p:Inv (cxB X scope N' bk) [(d,{cls:=.type "list",data:=.seq its.toArray n5})] Z5 H5 s5:=J5.pins_of λp hp=>by
   have:p=(d,{cls:=.type "list",data:=.seq its.toArray n5}):=by exists hp
   subst this;exact⟨pl5,hd5,(J0'.ok.exf d ymS).1,J0'.ok.exfs d ymS,λv z=>by cases z⟩
  rcases cs with⟨stop,q⟩|⟨go,N,hN,step⟩
  ·apply thn (T.done (cxB X scope N' bk) rfl rfl rfl hc i _ s5 Z5 H5 _ J5p (fpk fr5) st5 stop) λr s6 ⟨hr,J6⟩=>?_;subst hr;obtain⟨e6,n6,_⟩:=J6.pin (d,{cls:=.type "list",data:=.seq its.toArray n5}) (yaR _ ∅);have I6:Inv X Uq Z H5 s6:=I3.leave (λb hb=>(hex b hb).1) J6;have I6t:Inv X Uq Z (upd H5 d (.lst acc)) s6:=I6.track ⟨hd5,fd.2⟩ (.inr hd0) hd0 ⟨by omega,its,n5,va5,e6⟩;obtain⟨m6,hn6,_⟩:=J6.loc;apply hRR d s3.heap.objs.size (.ref d) _ s6 m6 I6t rfl (q d hd5) hn6 ?_ hCd;exact I3.fpOk (Bg _) (by rw[upd_ne hCd];exact J6.free)
  ·apply thn (T.item (cxB X scope N' bk) rfl rfl rfl hc i _ s5 Z5 H5 _ J5p (fpk fr5) st5 go) λr s6 ⟨u,hr,h6⟩=>?_;subst hr;apply thn h6 λ_ s7 ⟨x,H7,J7,r7,y7,st7,fr7⟩=>?_;have J7w:Inv (cxB X scope N' bk) [(d,{cls:=.type "list",data:=.seq its.toArray n5})] (bZ fr Z) H7 s7:=J7.weak kp5.1.symm λk v e=>by
    cases q:fr[k]? with
    | none=>
     unfold bZ at e;rw[Bv,q]at e;cases e
    | some o=>
     cases o with
     | none=>
      unfold bZ at e;rw[Bv,q]at e;simp at e
     | some j=>rw[kp5.2 k j q];exact e
   have J7p:=J7w.pinned (fpk fr7) (T.obj _ _ st7);have never:∀{α:Type} {t:Sem α} {QQ : α->EM->Prop} {EE:EK->EM->Prop} {ss:EM},EY (ET X.prog X.w) X.A t QQ (λ_ _=>False) ss->EY (ET X.prog X.w) X.A t QQ EE ss:=λhh=>FE hh (λ_ _ z=>z) λ_ _ z=>z.elim;have G:=hgk x (bZ fr Z) H7 _ (λZ2 H2=>(tc Z2 H2 λb H3=>if b=true then te Z2 H3 λv H4=>N (acc++[v]) H4 else N acc H3)/\Kp fr (bZ fr Z) Z2) (λZ' H' a b=>⟨a,b⟩) (step x H7 y7);apply never (thn (hg bk _ s7 (bZ fr Z) H7 x u _ J7p r7 G) λ_ s8 ⟨Z8,H8,J8,q8,kp8⟩=>?_);apply never (thn (ht bk _ s8 Z8 H8 _ J8 q8) λok s9 ⟨H9,J9,q9⟩=>?_);have keepT:∀{Zx:St} {Hx:Hp} {sx:EM},Inv (cxB X scope N' bk) ([(d,{cls:=.type "list",data:=.seq its.toArray n5})]++ib fp s7.heap) Zx Hx sx->(∀b∈fp,∀o,s7.heap.get? b=some o->sx.heap.get? b=some o)/\(∀b∈fp,Hx b=none)/\sx.heap.get? d=some {cls:=.type "list",data:=.seq its.toArray n5}/\Hx d=none:=λ{Zx Hx sx} Jx=>by
    apply⟨λb hb o e=>(Jx.pin (b,o) (yaR _ (yaR _ (da hb e)))).1,λb hb=>?_,?_⟩
    ·obtain⟨o,e,_⟩:=T.obj _ _ st7 b hb;exact(Jx.pin (b,o) (yaR _ (yaR _ (da hb e)))).2.1
    ·have:=Jx.pin (d,{cls:=.type "list",data:=.seq its.toArray n5}) (yaR _ (yaL _ ∅));exact⟨this.1,this.2.1⟩
   cases ok with
   | false=>
    rw[if_neg (by decide)]at q9|-;obtain⟨m',hm,w9⟩:=hN _ _ q9;obtain⟨k1,k2,k3,k4⟩:=keepT J9;exact⟨m',hm,i+1,acc,its,H9,Z8,J9.pins_of (λp hp=>by simp at hp),kp8,T.keep _ _ _ st7 k1,k2,k4,⟨n5,k3⟩,va5,w9⟩
   | true=>
    rw[if_pos rfl]at q9|-;apply never (thn (he bk _ s9 Z8 H9 _ J9 q9) λy s10 ⟨v,H10,J10,r10,q10⟩=>?_);obtain⟨m',hm,w10⟩:=hN _ _ q10;obtain⟨k1,k2,k3,k4⟩:=keepT J10;have hzs:its.toArray.size<=sizeLine:=by rw[Bd,<-va5.length];omega
    apply wpAny_list_append_plain (hsz:=hzs) ⟨n5,k3⟩ λh11 pl11 sb11=>?_;have J10':Inv (cxB X scope N' bk) [] Z8 H10 s10:=J10.pins_of (λp hp=>by simp at hp);have J11:Inv (cxB X scope N' bk) [] Z8 H10 {s10 with heap:=h11}:=J10'.turned (it:=d) (t':=s10.toks) (λb o hb e=>(sb11.2 b hb).trans e) k4 (J0'.ok.exf d ymS).1 (.inl ymS) (λx c e=>(J0'.ok.exf d ymS).2 x c e) λp hp=>by
     have hp':p∈(X.pn++Uq)++[]:=hp;rw[BA]at hp';exact(ne_pn p hp').1
    apply⟨m',hm,i+1,acc++[v],its++[y],H10,Z8,J11,kp8,T.keep _ _ _ st7 (λb hb o e=>(sb11.2 b (ne_d b hb)).trans (k1 b hb o e)),k2,k4,?_,va5.append (.cons r10 .nil),w10⟩;have:(its++[y]).toArray=its.toArray.push y:=by simp
    rw[this];exact pl11
 have st4:tn 0 h4:=T.keep _ _ _ st3' λb _ o e=>hk b o e;have pl4:h4.PlainList d #[]:=⟨0,hk d _ od3⟩;have L4:=loop {s3 with heap:=h4} J0' st4 pl4;exact codeAny_compStart_list L4 (T.self X.A 0 _ _ _ st4 L4)
def tQ(hc:X.calm=true)(B:Blk X.env.scope scope X.N N' fr)(hi:PI X tg iter wi)
  (hg:∀b,PG (cxB X scope N' b) tg g) (hgk:eK fr g) (ht:∀b,PTs (cxB X scope N' b) ifs tc) (he:∀b,PE (cxB X scope N' b) elt te)
  (hs:∀x,Fu iter X.env x=pure x:=by intro _;rfl):PE X (.ListComp elt [⟨tg,iter,ifs,0⟩] scope pos) (rZ wi fr g tc te):=by
 intro Uq s Z H Q I h;rw[eval_ListComp];apply GE (use:=none) rfl hs (d8 (I.freeCells B)) B.kind B.locl (thn (hi Uq s Z H _ I h) λv s1 h1=>thn h1 λitv s2 h2=>?_);apply gF (RR:=λacc C=>compPost (ET X.prog X.w) X.A X.xe none (EP X Uq Z Q) acc C) hc B hg hgk ht he h2 ?_;intro d C v H' s' m' I' hv q hn fC hCd;apply⟨m',hn,λh'' sb=>?_⟩;obtain⟨c0,c1,c2,c3,c4,c5⟩:=fC;exact⟨v,H',I'.turned (it:=C) (t':=s'.toks) (λb o hb e=>(sb.2 b hb).trans e) c0 c1 c3 c4 c5,by rw[hv];rfl,q⟩
def lQ{i:Nat}{x:Str}{pos' spos:Pos}(hc:X.calm=true)(hN:X.N.Nodup)(hi':X.N[i]?=some x)(hx:X.env.scope.names.lookup x=some .local)(B:Blk X.env.scope scope X.N N' fr)(hi:PI X tg iter wi)
  (hg:∀b,PG (cxB X scope N' b) tg g) (hgk:eK fr g) (ht:∀b,PTs (cxB X scope N' b) ifs tc) (he:∀b,PE (cxB X scope N' b) elt te)
  (hsw:F9 (.ListComp elt [⟨tg,iter,ifs,0⟩] scope pos) (some (.Name x pos')) spos.line X.env=pure true:=by rfl)
  (hs:∀x,Fu iter X.env x=pure x:=by intro _;rfl):PS X (.Assign [.Name x pos'] (.ListComp elt [⟨tg,iter,ifs,0⟩] scope pos) spos) (uF (rZ wi fr g tc te) (gM i)):=by
 intro Uq s Z H D I h;rw[exec_Assign_Name_used _ _ _ _ hsw];apply EL (Gd (EL ?_));show EY _ _ (do let _ <-comprehension (.ListComp elt [⟨tg,iter,ifs,0⟩] scope pos) scope X.env _ (newList []) false (eval iter X.env) (some (GB (.Name x pos') X.env))) _ _ s;apply EL (FE (GE (use:=some (GB (.Name x pos') X.env)) (Q:=λ_ s'=>SP X Uq D .next s') rfl hs (d8 (I.freeCells B)) B.kind B.locl (thn (hi Uq s Z H _ I h) λv s1 h1=>thn h1 λitv s2 h2=>?_)) (λ_ s' hq=>EO (EO hq)) λ_ _ e=>e);apply gF (Q:=λv H1=>gM i v Z H1 D.nx) (RR:=λacc C=>compPost (ET X.prog X.w) X.A X.xe (some (GB (.Name x pos') X.env)) (λ_ s'=>SP X Uq D .next s') acc C) hc B hg hgk ht he h2 ?_;intro d C v H' s' m' I' hv q hn fC hCd;obtain⟨c0,c1,c2,c3,c4,c5⟩:=fC;subst hv;apply HC (jk I' hN hi' (.inl hx) (show RelV (.ref d) (.ref d)from rfl) (λs6 I6 ⟨a,sa,ha⟩=>?_) (.inr hx));have haC:C≠a:=by
  rcases ha with z|z;rw[z];exact c1;exact λz'=>c4 x a z z'.symm
 apply⟨m',hn.sameBut sa haC,λh'' sb=>?_⟩;exact⟨_,H',I6.turned (it:=C) (t':=s6.toks) (λb o hb e=>(sb.2 b hb).trans e) c0 c1 c3 c4 c5,q⟩
end
inductive D where
 | int (i:Int)|str (x:Str)|tup (ds:List D)
mutual
def Rep(K:yF)(H:Hp):D->V->Prop
 | .int i,v=>v=.int i
 | .str x,v=>v=.str x
 | .tup ds,v=>∃a xs,v=.ref a/\SqT K H a xs/\Eg K H ds xs
def Eg(K:yF)(H:Hp):List D->List V->Prop
 | [],xs=>xs=[]
 | d::ds,xs=>∃x r,xs=x::r/\Rep K H d x/\Eg K H ds r
end
mutual
noncomputable def D.depth:D->Nat
 | .int _=>0
 | .str _=>0
 | .tup ds=>aH ds+1
noncomputable def aH:List D->Nat
 | []=>0
 | d::ds=>max d.depth (aH ds)
end
def iS{d:D}:∀{ds:List D},d∈ds->d.depth<=aH ds
 | [],h=>by cases h
 | e::ds,h=>by
  rw[aH];rcases ycM h with z|z;rw[z];exact DL _ _;exact Bz (iS z) (DC _ _)
def Eg.length{K:yF}{H:Hp}:∀{ds:List D} {xs:List V},Eg K H ds xs->xs.length=ds.length
 | [],xs,h=>by rw[Eg]at h;rw[h];rfl
 | d::ds,xs,h=>by
  rw[Eg]at h;obtain⟨x,r,rfl,_,h3⟩:=h;rw[Bf,Bf,h3.length]
def Rep.tup_iff{K:yF}{H:Hp}{ds:List D}{v:V}:Rep K H (.tup ds) v ↔ ∃a xs,v=.ref a/\SqT K H a xs/\Eg K H ds xs:=by rw[Rep]
def Ei.laid{H:Hp}{p:Addr}{o:HO}(hp:H p=none):Ei H (upd H p o):=λb u e=>by rw[upd_ne (aN e hp)];exact e
section
variable {X:Cx}{Uq:List (Addr×Obj)}{Z:St}{H:Hp}{s:EM}
mutual
theorem Rep.inj(I:Inv X Uq Z H s):∀{d e:D} {v:V},Rep X.K H d v->Rep X.K H e v->d=e
 | .int i,.int j,v,h,h'=>by dsimp[Rep]at h h';subst h;cases h';rfl
 | .int i,.str j,v,h,h'=>by dsimp[Rep]at h h';subst h;cases h'
 | .int i,.tup j,v,h,h'=>by dsimp[Rep]at h h';subst h;obtain⟨_,_,z,_⟩:=h';cases z
 | .str i,.int j,v,h,h'=>by dsimp[Rep]at h h';subst h;cases h'
 | .str i,.str j,v,h,h'=>by dsimp[Rep]at h h';subst h;cases h';rfl
 | .str i,.tup j,v,h,h'=>by dsimp[Rep]at h h';subst h;obtain⟨_,_,z,_⟩:=h';cases z
 | .tup i,.int j,v,h,h'=>by dsimp[Rep]at h h';subst h';obtain⟨_,_,z,_⟩:=h;cases z
 | .tup i,.str j,v,h,h'=>by dsimp[Rep]at h h';subst h';obtain⟨_,_,z,_⟩:=h;cases z
 | .tup ds,.tup es,v,h,h'=>by
  dsimp[Rep]at h h';obtain⟨a,xs,rfl,h2,h3⟩:=h;obtain⟨b,ys,z,h4,h5⟩:=h';cases z;rw[I.tuple_inj h4 h2]at h5;rw[Eg.inj I h3 h5]
theorem Eg.inj(I:Inv X Uq Z H s):∀{ds es:List D} {xs:List V},Eg X.K H ds xs->Eg X.K H es xs->ds=es
 | [],[],xs,h,h'=>rfl
 | [],e::es,xs,h,h'=>by dsimp[Eg]at h h';subst h;obtain⟨_,_,z,_⟩:=h';cases z
 | d::ds,[],xs,h,h'=>by dsimp[Eg]at h h';subst h';obtain⟨_,_,z,_⟩:=h;cases z
 | d::ds,e::es,xs,h,h'=>by
  dsimp[Eg]at h h';obtain⟨x,r,rfl,h2,h3⟩:=h;obtain⟨y,q,z,h4,h5⟩:=h';cases z;rw[Rep.inj I h2 h4,Eg.inj I h3 h5]
end
open SeqAt in
mutual
theorem pf(I:Inv X Uq Z H s):∀(d e:D) {x y:V} {u v:EK} {A:Fa},Rep X.K H d x->Rep X.K H e y->RelV x u->RelV y v->A.units+d.depth<Fz->∃b,(b=true↔d=e)/\EqAt A s u v b
 | .int i,.int j,x,y,u,v,A,h,h',r,r',_=>by
  dsimp[Rep]at h h';subst h h';obtain⟨t,rfl⟩:=r;obtain⟨t',rfl⟩:=r';exact⟨_,by simp,EqAt.int_int i t j t'⟩
 | .int i,.str j,x,y,u,v,A,h,h',r,r',_=>by
  dsimp[Rep]at h h';subst h h';obtain⟨t,rfl⟩:=r;obtain⟨t',rfl⟩:=r';exact⟨_,by simp,EqAt.int_str i t j t'⟩
 | .str i,.int j,x,y,u,v,A,h,h',r,r',_=>by
  dsimp[Rep]at h h';subst h h';obtain⟨t,rfl⟩:=r;obtain⟨t',rfl⟩:=r';exact⟨_,by simp,EqAt.str_int i t j t'⟩
 | .str i,.str j,x,y,u,v,A,h,h',r,r',_=>by
  dsimp[Rep]at h h';subst h h';obtain⟨t,rfl⟩:=r;obtain⟨t',rfl⟩:=r';exact⟨_,by simp,EqAt.str_str i t j t'⟩
 | .int i,.tup j,x,y,u,v,A,h,h',r,r',hu=>by
  dsimp[Rep]at h h';subst h;obtain⟨t,rfl⟩:=r;obtain⟨a,xs,rfl,h2,_⟩:=h';cases r';obtain⟨its,_,p,_⟩:=I.tuple h2;exact⟨false,by simp,EqAt.int_tuple i t (show s.heap.IsTuple a its.toArray from p) (Cg (Cy _ _) hu)⟩
 | .str i,.tup j,x,y,u,v,A,h,h',r,r',hu=>by
  dsimp[Rep]at h h';subst h;obtain⟨t,rfl⟩:=r;obtain⟨a,xs,rfl,h2,_⟩:=h';cases r';obtain⟨its,_,p,_⟩:=I.tuple h2;exact⟨false,by simp,EqAt.str_tuple i t (show s.heap.IsTuple a its.toArray from p) (Cg (Cy _ _) hu)⟩
 | .tup j,.int i,x,y,u,v,A,h,h',r,r',hu=>by
  dsimp[Rep]at h h';subst h';obtain⟨t,rfl⟩:=r';obtain⟨a,xs,rfl,h2,_⟩:=h;cases r;obtain⟨its,_,p,_⟩:=I.tuple h2;exact⟨false,by simp,EqAt.tuple_int i t (show s.heap.IsTuple a its.toArray from p) (Cg (Cy _ _) hu)⟩
 | .tup j,.str i,x,y,u,v,A,h,h',r,r',hu=>by
  dsimp[Rep]at h h';subst h';obtain⟨t,rfl⟩:=r';obtain⟨a,xs,rfl,h2,_⟩:=h;cases r;obtain⟨its,_,p,_⟩:=I.tuple h2;exact⟨false,by simp,EqAt.tuple_str i t (show s.heap.IsTuple a its.toArray from p) (Cg (Cy _ _) hu)⟩
 | .tup ds,.tup es,x,y,u,v,A,h,h',r,r',hu=>by
  by_cases hne:u=v
  ·subst hne;have hxy:x=y:=r.inj r';subst hxy;exact⟨true,by simp[Rep.inj I h h'],EqAt.same u⟩
  ·dsimp[Rep]at h h';obtain⟨a,xs,rfl,h2,h3⟩:=h;obtain⟨b,ys,rfl,h4,h5⟩:=h';cases r;cases r';obtain⟨its,rv,p,_⟩:=I.tuple h2;obtain⟨its',rv',p',_⟩:=I.tuple h4;have hab:a≠b:=λz=>hne (by rw[z]);have hu':A.in1.units+aH ds<Fz:=by
    have:A.units+(aH ds+1)<Fz:=by rw[D.depth]at hu;exact hu
    show A.units+1+aH ds<Fz;omega
   obtain⟨e,he,hE⟩:=dQ I ds es (A:=A.in1) h3 h5 rv rv' hu';have R:=RcAt.tuples (A:=A) (s:=s) (l:=a) (b:=b) (items:=its.toArray) (items2:=its'.toArray) (e:=e) (show s.heap.IsTuple a its.toArray from p) (show s.heap.IsTuple b its'.toArray from p') (Cg (Cy _ _) hu) (λj h1 h2=>by
    simpa using hE j (its[j]'(by exists h1)) (its'[j]'(by exists h2)) ∅ ∅)
   apply⟨_,?_,EqAt.of_refs hab R⟩;rw[he.symm];have l1:its.toArray.size=ds.length:=by rw[Bd,<-rv.length,h3.length]
   have l2:its'.toArray.size=es.length:=by rw[Bd,<-rv'.length,h5.length]
   rw[l1,l2];simp
theorem dQ(I:Inv X Uq Z H s):∀(ds es:List D) {xs ys:List V} {us vs:List EK} {A:Fa},Eg X.K H ds xs->Eg X.K H es ys->Vals xs us->Vals ys vs->A.units+aH ds<Fz ->
  ∃e:Nat->Bool,(((BL (min ds.length es.length)).all e=true/\ds.length=es.length)↔D.tup ds=D.tup es)/\∀(j:Nat) u v,us[j]?=some u->vs[j]?=some v->EqAt A s u v (e j)
 | [],es,xs,ys,us,vs,A,h,h',r,r',_=>by
  rw[Eg]at h;subst h;cases r;apply⟨λ_=>true,?_,λj u v e=>by simp at e⟩;cases es<;>simp
 | d::ds,[],xs,ys,us,vs,A,h,h',r,r',_=>by
  rw[Eg]at h';subst h';cases r';exact⟨λ_=>true,by simp,λj u v _ e=>by simp at e⟩
 | d::ds,e::es,xs,ys,us,vs,A,h,h',r,r',hu=>by
  dsimp[Eg]at h h';obtain⟨x,q,rfl,h2,h3⟩:=h;obtain⟨y,q',rfl,h4,h5⟩:=h';cases r with
  | cons r1 r2=>
   cases r' with
   | cons r3 r4=>
    rw[aH]at hu;have m1:=DL d.depth (aH ds);have m2:=DC d.depth (aH ds);obtain⟨b,hb,hB⟩:=pf I d e (A:=A) h2 h4 r1 r3 ⋯;obtain⟨f,hf,hF⟩:=dQ I ds es (A:=A) h3 h5 r2 r4 ⋯;apply⟨λj=>match j with|0=>b|j+1=>f j,?_,λj u v e1 e2=>?_⟩
    ·have hf':((BL (min ds.length es.length)).all f=true/\ds.length=es.length)↔ds=es:=by rw[hf];simp
     rw[Bf,Bf,Nat.succ_min_succ,List.range_succ_eq_map,Cr,List.all_map];dsimp[D.tup.injEq,CH.injEq,A9,Nat.add_right_cancel_iff];rw[<-hf',<-hb];constructor;rintro⟨⟨a1,a2⟩,a3⟩;exact⟨a1,a2,a3⟩;rintro⟨a1,a2,a3⟩;exact⟨⟨a1,a2⟩,a3⟩
    ·cases j with
     | zero=>simp at e1 e2;subst e1 e2;exact hB
     | succ j=>exact hF j u v (by exists e1) (by exists e2)
end
end
section
variable {X:Cx}
abbrev zT(K:yF):R2:=λx y H Q=>∃ds es,Rep K H (.tup ds) x/\Rep K H (.tup es) y/\aH ds<=50/\∀b,(b=true↔ds=es)->Q (.bl b) H
abbrev zZ(K:yF):R2:=λx y H Q=>∃ds es,Rep K H (.tup ds) x/\Rep K H (.tup es) y/\aH ds<=50/\∀b,(b=true↔ds≠es)->Q (.bl b) H
def wL(hu:X.A.units+64<Fz):OpR X (Fe .Eq) (zT X.K):=by
 intro Uq s Z H x y v u Q I rx ry h;obtain⟨ds,es,h1,h2,hd,q⟩:=h;rw[Rep.tup_iff]at h1 h2;obtain⟨a,xs,rfl,h3,h4⟩:=h1;obtain⟨b,ys,rfl,h5,h6⟩:=h2;cases rx;cases ry;obtain⟨its,rv,p,_⟩:=I.tuple h3;obtain⟨its',rv',p',_⟩:=I.tuple h5;have hu':X.A.in1.units+aH ds<Fz:=by show X.A.units+1+aH ds<Fz;omega
 obtain⟨e,he,hE⟩:=dQ I ds es (A:=X.A.in1) h4 h6 rv rv' hu';have R:=IH.tuples (A:=X.A) (s:=s) (l:=a) (b:=b) (items:=its.toArray) (items2:=its'.toArray) (e:=e) (show s.heap.IsTuple a its.toArray from p) (show s.heap.IsTuple b its'.toArray from p') ⋯ (λj h1 h2=>by
  simpa using hE j (its[j]'(by exists h1)) (its'[j]'(by exists h2)) ∅ ∅)
 apply R X.prog X.w X.xe _ ⟨.bl _,H,I,rfl,q _ ?_⟩;have l1:its.toArray.size=ds.length:=by rw[Bd,<-rv.length,h4.length]
 have l2:its'.toArray.size=es.length:=by rw[Bd,<-rv'.length,h6.length]
 have he':((BL (min ds.length es.length)).all e=true/\ds.length=es.length)↔ds=es:=by rw[he];simp
 rw[l1,l2,<-he'];simp
def wT(hu:X.A.units+64<Fz):OpR X (Fe .NotEq) (zZ X.K):=by
 intro Uq s Z H x y v u Q I rx ry h;obtain⟨ds,es,h1,h2,hd,q⟩:=h;rw[Rep.tup_iff]at h1 h2;obtain⟨a,xs,rfl,h3,h4⟩:=h1;obtain⟨b,ys,rfl,h5,h6⟩:=h2;cases rx;cases ry;obtain⟨its,rv,p,_⟩:=I.tuple h3;obtain⟨its',rv',p',_⟩:=I.tuple h5;have hu':X.A.in1.units+aH ds<Fz:=by show X.A.units+1+aH ds<Fz;omega
 obtain⟨e,he,hE⟩:=dQ I ds es (A:=X.A.in1) h4 h6 rv rv' hu';have R:=Jr (A:=X.A) (s:=s) (l:=a) (b:=b) (items:=its.toArray) (items2:=its'.toArray) (e:=e) (show s.heap.IsTuple a its.toArray from p) (show s.heap.IsTuple b its'.toArray from p') ⋯ (λj h1 h2=>by
  simpa using hE j (its[j]'(by exists h1)) (its'[j]'(by exists h2)) ∅ ∅)
 apply R X.prog X.w X.xe _ ⟨.bl _,H,I,rfl,q _ ?_⟩;have l1:its.toArray.size=ds.length:=by rw[Bd,<-rv.length,h4.length]
 have l2:its'.toArray.size=es.length:=by rw[Bd,<-rv'.length,h6.length]
 have he':((BL (min ds.length es.length)).all e=true/\ds.length=es.length)↔ds=es:=by rw[he];simp
 rw[l1,l2,ne_eq,<-not_congr he',BI,<-DD,A9,beq_iff_eq]
abbrev zU(K:yF):R2:=λx y H Q=>∃a b xs ys ds es,x=.ref a/\y=.ref b/\SqL K H a xs/\SqL K H b ys/\Eg K H ds xs/\Eg K H es ys/\aH ds<=50/\∀c,(c=true↔ds=es)->Q (.bl c) H
abbrev z0(K:yF):R2:=λx y H Q=>∃a b xs ys ds es,x=.ref a/\y=.ref b/\SqL K H a xs/\SqL K H b ys/\Eg K H ds xs/\Eg K H es ys/\aH ds<=50/\∀c,(c=true↔ds≠es)->Q (.bl c) H
def wN(hu:X.A.units+64<Fz):OpR X (Fe .Eq) (zU X.K):=by
 intro Uq s Z H x y v u Q I rx ry h;obtain⟨a,b,xs,ys,ds,es,rfl,rfl,h3,h5,h4,h6,hd,q⟩:=h;cases rx;cases ry;obtain⟨its,rv,p,_⟩:=I.list h3;obtain⟨its',rv',p',_⟩:=I.list h5;have hu':X.A.in1.units+aH ds<Fz:=by show X.A.units+1+aH ds<Fz;omega
 obtain⟨e,he,hE⟩:=dQ I ds es (A:=X.A.in1) h4 h6 rv rv' hu';have l1:its.toArray.size=ds.length:=by rw[Bd,<-rv.length,h4.length]
 have l2:its'.toArray.size=es.length:=by rw[Bd,<-rv'.length,h6.length]
 have he':((BL (min ds.length es.length)).all e=true/\ds.length=es.length)↔ds=es:=by rw[he];simp
 by_cases hl:ds.length=es.length
 ·have R:=IH.lists (A:=X.A) (s:=s) (l:=a) (b:=b) (items:=its.toArray) (items2:=its'.toArray) (e:=e) p.isList p'.isList (by rw[l1,l2];exact hl) ⋯ (λj h1 h2=>by
   simpa using hE j (its[j]'(by exists h1)) (its'[j]'(by exists h2)) ∅ ∅)
  apply R X.prog X.w X.xe _ ⟨.bl _,H,I,rfl,q _ ?_⟩;rw[l1,<-he',<-hl,D5];simp
 ·have R:=IH.lists_lengths (A:=X.A) (s:=s) (l:=a) (b:=b) (items:=its.toArray) (items2:=its'.toArray) p.isList p'.isList (by rw[l1,l2];exists hl) ⋯;apply R X.prog X.w X.xe _ ⟨.bl _,H,I,rfl,q _ ?_⟩;constructor;intro z;cases z;intro z;exact absurd (by rw[z]) hl
def wV(hu:X.A.units+64<Fz):OpR X (Fe .NotEq) (z0 X.K):=by
 intro Uq s Z H x y v u Q I rx ry h;obtain⟨a,b,xs,ys,ds,es,rfl,rfl,h3,h5,h4,h6,hd,q⟩:=h;cases rx;cases ry;obtain⟨its,rv,p,_⟩:=I.list h3;obtain⟨its',rv',p',_⟩:=I.list h5;have hu':X.A.in1.units+aH ds<Fz:=by show X.A.units+1+aH ds<Fz;omega
 obtain⟨e,he,hE⟩:=dQ I ds es (A:=X.A.in1) h4 h6 rv rv' hu';have l1:its.toArray.size=ds.length:=by rw[Bd,<-rv.length,h4.length]
 have l2:its'.toArray.size=es.length:=by rw[Bd,<-rv'.length,h6.length]
 have he':((BL (min ds.length es.length)).all e=true/\ds.length=es.length)↔ds=es:=by rw[he];simp
 by_cases hl:ds.length=es.length
 ·have R:=Jz (A:=X.A) (s:=s) (l:=a) (b:=b) (items:=its.toArray) (items2:=its'.toArray) (e:=e) p.isList p'.isList (by rw[l1,l2];exact hl) ⋯ (λj h1 h2=>by
   simpa using hE j (its[j]'(by exists h1)) (its'[j]'(by exists h2)) ∅ ∅)
  apply R X.prog X.w X.xe _ ⟨.bl _,H,I,rfl,q _ ?_⟩;rw[l1,ne_eq,<-not_congr he',<-hl,D5];simp
 ·have R:=II (A:=X.A) (s:=s) (l:=a) (b:=b) (items:=its.toArray) (items2:=its'.toArray) p.isList p'.isList (by rw[l1,l2];exists hl) ⋯;apply R X.prog X.w X.xe _ ⟨.bl _,H,I,rfl,q _ ?_⟩;constructor;intro _ z;exact absurd (by rw[z]) hl;intro _;rfl
open Classical in
abbrev isD(K:yF) (H:Hp) (d:D) (u:EK):Bool:=decide (∃v,RelV v u/\Rep K H d v)
open Classical in
def mL{K:yF}{H:Hp}{d:D}{u:EK}:isD K H d u=true ↔ ∃v,RelV v u/\Rep K H d v:=by
 unfold isD;exact decide_eq_true_iff
def jv{Uq:List (Addr×Obj)}{Z:St}{H:Hp}{s:EM}(I:Inv X Uq Z H s){d:D}:∀{ds:List D} {xs:List V} {us:List EK},Eg X.K H ds xs->Vals xs us->(us.any (isD X.K H d)=true↔d∈ds)
 | [],xs,us,h,r=>by rw[Eg]at h;subst h;cases r;simp
 | e::ds,xs,us,h,r=>by
  rw[Eg]at h;obtain⟨x,q,rfl,h2,h3⟩:=h;cases r with
  | @cons _ u0 _ us0 r1 r2=>
   rw[Dn,Dh,jv I h3 r2,B3];have:isD X.K H d u0=true↔d=e:=by
    rw[mL];constructor
    ·rintro⟨v,rv,hv⟩;rw[rv.inj r1]at hv;exact Rep.inj I hv h2
    ·intro z;subst z;exact⟨x,r1,h2⟩
   rw[this]
def gJ{Uq:List (Addr×Obj)}{Z:St}{H:Hp}{s:EM}(I:Inv X Uq Z H s){A:Fa}{d:D}{x:V}{v:EK}(hx:Rep X.K H d x)(rx:RelV x v){ds:List D}(hu:A.units+aH ds<Fz) :
  ∀{es:List D} {xs:List V} {us:List EK},(∀e∈es,e∈ds)->Eg X.K H es xs->Vals xs us->∀u∈us,Fd A s u v (isD X.K H d u)
 | [],xs,us,_,h,r=>by rw[Eg]at h;subst h;cases r;intro u hu;cases hu
 | e::es,xs,us,hs,h,r=>by
  rw[Eg]at h;obtain⟨y,q,rfl,h2,h3⟩:=h;cases r with
  | cons r1 r2=>
   intro u hu';rcases ycM hu' with z|z
   ·subst z;obtain⟨b,hb,hB⟩:=pf I e d (A:=A) h2 hx r1 rx (Cg (Nat.add_le_add_left (iS (hs e ymS)) _) hu);have:isD X.K H d u=b:=by
     have h5:isD X.K H d u=true↔e=d:=by
      rw[mL];constructor
      ·rintro⟨w,rw',hw⟩;rw[rw'.inj r1]at hw;exact(Rep.inj I hw h2).symm
      ·intro z;subst z;exact⟨y,r1,h2⟩
     rw[BZ,h5,hb]
    rw[this];exact hB
   ·exact gJ I hx rx hu (λe' h'=>hs e' (ymC _ h')) h3 r2 u z
abbrev zV(K:yF)(neg:Bool):R2:=λx y H Q=>∃p xs d ds,y=.ref p/\(SqL K H p xs\/SqT K H p xs)/\Rep K H d x/\Eg K H ds xs/\aH ds<=50/\∀b,(b=true↔(if neg=true then d∉ds else d∈ds))->Q (.bl b) H
def wP(hu:X.A.units+64<Fz):OpR X (Fe .In) (zV X.K false):=by
 intro Uq s Z H x y v u Q I rx ry h;obtain⟨p,xs,d,ds,rfl,hq,hx,hs,hd,q⟩:=h;cases ry;have hu':X.A.in1.units+aH ds<Fz:=by show X.A.units+1+aH ds<Fz;omega
 rcases hq with hq|hq
 ·obtain⟨its,rv,pl,_⟩:=I.list hq;apply Ii (isD X.K H d) pl.isList (λy hy=>gJ I hx rx hu' (λ_ z=>z) hs rv y (by exists hy)) ⟨.bl _,H,I,rfl,q _ ?_⟩;rw[if_neg (by decide),<-jv I hs rv];simp
 ·obtain⟨its,rv,pl,_⟩:=I.tuple hq;apply HW (isD X.K H d) (show s.heap.IsTuple p its.toArray from pl) (λy hy=>gJ I hx rx hu' (λ_ z=>z) hs rv y (by exists hy)) ⟨.bl _,H,I,rfl,q _ ?_⟩;rw[if_neg (by decide),<-jv I hs rv];simp
abbrev ll(i j:Int):Prop:=0<j/\j<2^64
def oq:OpR X (Fh .FloorDiv) (rI ll λi j=>.int (i / j)):=opI λi j _ _ _ _ _ hc q=>by
 have h1:(0:Int)<j:=hc.1;have h2:j<2^64:=hc.2;apply floordiv_int ⋯ (by rw[Int.fdiv_eq_ediv_of_nonneg i ⋯];exact q) (.inl (PyProof.noPylong_of_log2 ?_));have h3:j.natAbs<2^64:=by omega
 have h4:j.natAbs≠0:=by omega
 have:=(Ea h4).mpr h3;omega
def xt{tg e:Expr}{te:TE}(he:PE X e te):PI X tg e (λZ H R=>te Z H λx H1=>∃z:Str,x=.str z/\R ⟨λi _=>i<z.cps.size,λi H y H'=>H'=H/\∃c,z.cps[i]?=some c/\y=.str ⟨#[c]⟩,λi _=>z.cps.size<=i⟩ H1):=by
 intro Uq s Z H R I h;apply thn (he Uq s Z H _ I h) λv s1 ⟨x,H1,I1,r1,q1⟩=>?_;obtain⟨z,rfl,q⟩:=q1;obtain⟨t,rfl⟩:=r1;have main:∀(n:String) (o:Obj),(["enumerate","zip","dict_itemiterator","dict_reverseitemiterator","odict_iterator","itertools.zip_longest","itertools.pairwise"].contains n=false) ->
   o={cls:=.type n,data:=.fields #[.str z t,.int 0 0]}->(∀A':Fa,A'.handled=none->Walks X.prog X.w A' s1.heap.objs.size [s1.heap.objs.size] [s1.heap.objs.size] z.cps.size (SignAt z) (λi h=>h.IsStrIter s1.heap.objs.size n z t i)) ->
   (∀(A:Fa) (i:Nat) (s:EM) (Q:EK->EM->Prop) (E:EK->EM->Prop),s.heap.IsStrIter s1.heap.objs.size n z t i->Q (.ref s1.heap.objs.size) s->EY (ET X.prog X.w) A (Jt (.ref s1.heap.objs.size)) Q E s) ->
   PIE X Uq Z tg R (.ref s1.heap.objs.size) {s1 with heap:=s1.heap.push o}:=by
  intro n o hn ho W hself;subst ho;apply⟨s1.heap.objs.size,[s1.heap.objs.size],λi h=>h.IsStrIter s1.heap.objs.size n z t i/\i<=z.cps.size,_,H1,rfl,I1.kept (t':=s1.toks) λb o e=>EN _ e,?_,⟨⟨_,E9 _ rfl,rfl,rfl⟩,B6 _⟩,λb hb=>?_,q⟩
  ·apply⟨by simp,λi h st b hb=>?_,λi h h' st k=>⟨?_,st.2⟩,?_,?_,λA i s Q E st h=>?_⟩
   ·have e:b=s1.heap.objs.size:=by exists hb
    subst e;obtain⟨o,e,c,d⟩:=st.1;exact⟨o,e,λv z=>by rw[d]at z;cases z⟩
   ·obtain⟨o,ho,r⟩:=st.1;exact⟨o,k _ ∅ o ho,r⟩
   ·intro Y hP hw hK hc i pins' s' Z' H' E I' hf st hg;obtain⟨f0,f1,f2,f3,f4,f5⟩:=hf s1.heap.objs.size ∅;apply(W Y.A (I'.ok.hd hc)).item i s' _ _ hg st.1 λv h' tk hv st' kk=>?_;obtain⟨c,u,hc',rfl⟩:=hv;have I1':Inv Y pins' Z' H' {s' with heap:=h',toks:=tk}:=I'.turned (λb o hb e=>kk b o (by exists hb) e) f0 f1 f3 f4 f5;obtain⟨o,e,cl,d⟩:=id st';exact⟨_,rfl,mJ (s:={s' with heap:=h',toks:=tk}) e cl d hn ⟨.str ⟨#[c]⟩,H',I1',⟨u,rfl⟩,⟨rfl,c,hc',rfl⟩,⟨st',hg⟩,λb hb=>(hf b hb).1⟩⟩
   ·intro Y hP hw hK hc i pins' s' Z' H' E I' hf st hg;obtain⟨f0,f1,f2,f3,f4,f5⟩:=hf s1.heap.objs.size ∅;have hi:i=z.cps.size:=Nat.le_antisymm st.2 hg;apply(W Y.A (I'.ok.hd hc)).done s' _ _ (hi▸st.1) λh' tk kk=>⟨rfl,?_⟩;exact I'.turned (λb o hb e=>kk b o (by exists hb) e) f0 f1 f3 f4 f5
   ·exact hself A i s Q E st.1 h
  ·have e:b=s1.heap.objs.size:=by exists hb
   subst e;exact I1.fpOk (Bg _) (I1.hok.fresh (Bg _))
 cases ha:z.cps.all (· < 128);exact wpAny_pyIter_wide ha (main "str_iterator" _ (by decide) rfl (λA' hA=>Walks.strWide hA _ z t) λA i s Q E st h=>wpAny_pyIter_striter_wide st h);exact wpAny_pyIter_ascii ha (main "str_ascii_iterator" _ (by decide) rfl (λA' hA=>Walks.strAscii hA _ z t) λA i s Q E st h=>wpAny_pyIter_striter_ascii st h)
end
noncomputable abbrev sL(z:Str):List Nat:=z.cps.toList
noncomputable abbrev oL(l:List Nat):Str:=⟨l.toArray⟩
def cw(l:List Nat):sL (oL l)=l:=rfl
def qh(z:Str):oL (sL z)=z:=by cases z;rfl
def cK(z:Str):z.length=(sL z).length:=by unfold Jw sL;rw[Cn]
def ir(x y:Str):sL (x++y)=sL x++sL y:=by
 show(x.cps++y.cps).toList=_;rw[Array.toList_append]
def j7{x y:Str}(h:sL x=sL y):x=y:=by rw[<-qh x,h,qh]
abbrev cF{α:Type} (xs:List α) (lo hi:Option Int):List α:=(xs.drop (HT.sIx xs.length 0 lo)).take (HT.sIx xs.length xs.length hi-HT.sIx xs.length 0 lo)
def le(lo hi:Option Int)(n:Nat):Fc lo hi 1 n=(BL (HT.sIx n n hi-HT.sIx n 0 lo)).map (HT.sIx n 0 lo + ·):=by
 have h1:(1:Int)>0:=by omega
 have clip:∀(v:Option Int) (d:Nat),(match v with|none=>(d:Int)|some i=>(if(1:Int)>0 then max 0 (min (if i<0 then i+(n:Int)else i) (n:Int))else max (-1) (min (if i<0 then i+(n:Int)else i) ((n:Int)-1))))=((HT.sIx n d v:Nat):Int):=by
  intro v d;cases v with
  | none=>rfl
  | some i=>
   show(if(1:Int)>0 then max 0 (min (if i<0 then i+(n:Int)else i) (n:Int))else _)=(((if i<0 then(i+(n:Int)).toNat else min i.toNat n):Nat):Int);rw[if_pos h1];by_cases hi:i<0;dsimp[if_pos hi];omega;dsimp[if_neg hi];omega
 have e:Fc lo hi 1 n=sliceRange ((HT.sIx n 0 lo:Nat):Int) ((HT.sIx n n hi:Nat):Int) 1:=by
  unfold Fc;dsimp[h1,if_true];have c1:=clip lo 0;have c2:=clip hi n;dsimp[h1,if_true]at c1 c2;rw[<-c1,<-c2];rfl
 rw[e,IF]
def jr(x:Str)(lo hi:Option Int):IW x lo hi=oL (cF (sL x) lo hi):=by
 have hn:x.length=(sL x).length:=cK x;have key:((Fc lo hi 1 x.length).filterMap (x.cps[·]?))=cF (sL x) lo hi:=by
  rw[le,hn];unfold cF;exact Jj x.cps _ _
 unfold IW;split
 ·delta h;have h2:(Fc lo hi 1 x.length).length=x.length:=by
   dsimp[A9]at h;exists h.2
  have h3:(cF (sL x) lo hi)=sL x:=by
   unfold cF;rw[le,Br,List.length_range,hn]at h2;have a1:=HT.sIx_le (sL x).length (sL x).length (Bg _) hi;have a2:HT.sIx (sL x).length 0 lo=0\/(sL x).length=0:=by omega
   rcases a2 with a2|a2
   ·rw[a2,List.drop_zero];exact Db ⋯
   ·rw[CO a2];simp
  rw[h3,qh]
 ·rw[key]
section
variable {X:Cx}
def xZ:SlR X (λx lo hi H Q=>∃z,x=.str z/\z.length<=sizeLine/\Q (.str (oL (cF (sL z) lo hi))) H):=by
 intro Uq s Z H x v vl vu lo hi sl Q I rx hs pl pu h;obtain⟨z,rfl,hz,q⟩:=h;obtain⟨t,rfl⟩:=rx;have hp:∀{v:EK} {o:Option Int},Hc v o->∃p:Option (Int×Tok),v=partValue p/\p.map (·.1)=o:=λ{v o} p=>by
  cases p with
  | none=>exact⟨none,rfl,rfl⟩
  | int i t=>exact⟨some (i,t),rfl,rfl⟩
 obtain⟨l,rfl,rfl⟩:=hp pl;obtain⟨u,rfl,rfl⟩:=hp pu;apply⟨"str",_,F.slot_str_getitem.lookup,IE _ _ _,?_⟩;apply wpAny_getItem_str_slice (l:=l) (u:=u) (st:=none) hs rfl ?_;have e:sliceMade z t l u none=if((1:Int)==1&&(Fc (l.map (·.1)) (u.map (·.1)) 1 z.length).length==z.length)=true then Made.val (.str z t)else Made.str ⟨((Fc (l.map (·.1)) (u.map (·.1)) 1 z.length).filterMap (z.cps[·]?)).toArray⟩:=rfl;rw[e];apply Il ⟨Bz (Txt.slice_le z _ _) hz,λt' k=>?_⟩;apply⟨.str (IW z (l.map (·.1)) (u.map (·.1))),H,I.tok k,⟨t',rfl⟩,?_⟩;rw[jr];exact q
abbrev rSl(K:yF):V->Option Int->Option Int->Hp->VK->Prop:=λx lo hi H Q=>z8 K x lo hi H Q\/z7 K x lo hi H Q \/ ∃z,x=.str z/\z.length<=sizeLine/\Q (.str (oL (cF (sL z) lo hi))) H
def l3{zs:List Str}:∀{us:List EK},Vals (zs.map V.str) us->StrsAre us zs:=by
 induction zs with
 | nil=>intro us r;rw[Dx]at r;cases r;exact .nil
 | cons n ns ih=>
  intro us r;rw[Bj]at r;cases r with
  | cons r1 r2=>
   obtain⟨t,e⟩:=r1;subst e;exact .cons n t (ih r2)
def tD:MtR X "str.join" (λx vs H Q=>∃z a zs,x=.str z/\vs=[.ref a]/\SqL X.K H a (zs.map V.str)/\(zs.map (·.length)).sum+zs.length*z.length<=16777216/\Q (.str (F6 z zs)) H):=by
 intro Uq s Z H x xs v us Q I rx rv h;obtain⟨z,a,zs,rfl,rfl,hq,hz,q⟩:=h;obtain⟨t,rfl⟩:=rx;obtain⟨u,rfl,ru⟩:=fj rv;cases ru;obtain⟨its,r,p,_⟩:=I.list hq;exact join_list p.isList (by simpa using l3 r) hz λt' k=>⟨.str (F6 z zs),H,I.tok k,⟨t',rfl⟩,q⟩
def nV(zs:List Str):sL (F6 (oL []) zs)=(zs.map sL).flatten:=by
 have key:∀(zs:List Str) (acc:Array Nat),(zs.foldl (λacc p=>acc++(oL []).cps++p.cps) acc).toList=acc.toList++(zs.map sL).flatten:=by
  intro zs
  induction zs with
  | nil=>intro acc;simp
  | cons z zs ih=>
   intro acc;rw[Dg,ih];simp
 cases zs with
 | nil=>rfl
 | cons z zs=>
  show(zs.foldl (λacc p=>acc++(oL []).cps++p.cps) z.cps).toList=_;rw[key];simp
def op_mulS:OpR X (Fh .Mult) (λx y H Q=>∃z n,x=.str z/\y=.int n/\1<=n/\n<=1000/\z.length<=1000/\Q (.str (oL (Bc n.toNat (sL z)).flatten)) H):=by
 intro Uq s Z H x y v u Q I rx ry h;obtain⟨z,n,rfl,rfl,h1,h2,h3,q⟩:=h;obtain⟨t,rfl⟩:=rx;obtain⟨t',rfl⟩:=ry;have hf:∀(m:Nat) (acc:Array Nat),(Bc m z.cps).foldl (· ++ ·) acc=acc++(Bc m (sL z)).flatten.toArray:=by
  intro m
  induction m with
  | zero=>intro acc;simp
  | succ m ih=>intro acc;rw[BH,Dg,ih,BH,BX];apply Array.ext';simp
 have hlen:z.length*n.toNat<=1000*1000:=Dk h3 ⋯;have e3:¬ n<1:=by omega
 apply P.mul_str ?_ ?_ ?_ ?_;rw[decide_eq_false ⋯,decide_eq_false ⋯];rfl
 ·intro _ _;have a1:n*9223372036854775<=2^63-1:=by omega
  have:(9223372036854775:Int)<=(2^63-1) / n:=(Int.le_ediv_iff_mul_le ⋯).mpr ⋯;omega
 ·intro _ _;unfold Js;exact decide_eq_false (by rw[EV];omega)
 ·rw[if_neg e3];apply Il ?_;have hv:(if(n==1||z.length==0)=true then z else(⟨(Bc n.toNat z.cps).foldl (· ++ ·) #[]⟩:Str))=oL (Bc n.toNat (sL z)).flatten:=by
   split
   ·delta hc;rcases Bool.or_eq_true_iff.mp hc with c|c
    ·have:n=1:=by exists c
     subst this;show z=oL (Bc 1 (sL z)).flatten;dsimp[BH,List.replicate_zero,BX,List.flatten_nil,BA]
    ·have h0:(sL z).length=0:=by rw[<-cK];exists c
     have h00:sL z=[]:=CO h0;rw[h00];apply j7;rw[h00,cw];symm;exact List.eq_nil_iff_forall_not_mem.mpr λa ha=>by
      obtain⟨l,hl,hal⟩:=DE.mp ha;rw[C3 hl]at hal;cases hal
   ·rw[hf];simp
  rw[hv];apply⟨?_,λt2 k=>⟨.str (oL (Bc n.toNat (sL z)).flatten),H,I.tok k,⟨t2,rfl⟩,q⟩⟩;rw[cK,cw,eU,<-cK,EV,Dw];omega
def fM:fillsNumberSlot (.type "tuple") "mul" = pure false:=
 PySem.fillsNumberSlot_seq (id:="tuple.__mul__") (r:=some (.builtin "tuple.__rmul__")) Gb.lookup (by decide +kernel) HN.lookup (by decide +kernel)
def j3:seqRepeat? (.type "tuple")=pure (some (.builtin "tuple.__mul__")):=by
 unfold seqRepeat?;rw[DF (T:="tuple") (name:="__mul__") (id:="tuple.__mul__") Gb.lookup (by decide +kernel),DF (T:="tuple") (name:="__rmul__") (id:="tuple.__rmul__") HN.lookup (by decide +kernel)];rfl
def gP(a:Int)(t:Tok)(l:Addr)(items:Array EK)(n:Nat)(dd:Option Addr)(sl:Array (Option EK)) :
  Meets (E6.«int.__rmul__» ⟨[.int a t,.ref l],[]⟩) (λ_ R s=>s.heap.get? l=some {cls:=.type "tuple",dict:=dd,data:=.seq items n,slots:=sl}/\R (.ok (.ret EK.notImplemented)) s):=
 .of_wp λprog w A R s h=>by obtain⟨hp,g,d,tk,os⟩:=s;obtain⟨hl,h⟩:=h;wp_walk;exact⟨_,rfl,h⟩
def gv(l:Addr)(items:Array EK)(n:Nat)(dd:Option Addr)(sl:Array (Option EK))(k:Int)(t:Tok)(h1:2<=k)(h2:k<=1000)(hne:items.isEmpty=false)(hz:items.size<=1000) :
  Meets (E6.«tuple.__mul__» ⟨[.ref l,.int k t],[]⟩) (λ_ R s=>s.heap.get? l=some {cls:=.type "tuple",dict:=dd,data:=.seq items n,slots:=sl} /\
   R (.ok (.ret (.ref s.heap.objs.size))) {s with heap:=s.heap.push {cls:=.type "tuple",data:=.seq ((Bc k.toNat items).foldl (· ++ ·) #[])}}):=
 .of_wp λprog w A R s h=>by
  obtain⟨hp,g,d,tk,os⟩:=s;obtain⟨hl,h⟩:=h;have c1:¬ (decide (k < -(2^63))||decide (k≥2^63))=true:=by rw[decide_eq_false ⋯,decide_eq_false ⋯];decide
  have c2:¬ (items.isEmpty||k==1)=true:=by rw[hne];simp;omega
  have c3:¬ (decide (k<=0)||items.isEmpty)=true:=by rw[hne,decide_eq_false ⋯];decide
  have c0:((items.size:Nat):Int)*k<=1000*1000:=Int.mul_le_mul ⋯ h2 ⋯ ⋯;have c4:¬ ((items.size:Int)*k>(2^63-1) / 8):=by omega
  have c5:¬ Gw ((items.size:Int)*k)=true:=by unfold Gw;simp;rw[EV];omega
  have f1:=HY;wp_walk using GF hl
  rw[if_neg c1];apply EL (tupleItemsOf_ ⟨_,hl,rfl,n,rfl⟩ ?_);dsimp only;rw[if_neg c2,if_neg c3,if_neg c4,if_neg c5];have hsz:sizeOk (.seq ((Bc k.toNat items).foldl (· ++ ·) #[])):=by
   show((Bc k.toNat items).foldl (· ++ ·) #[]).size<=sizeLine;have f0:=cQ items.toList k.toNat [];have e0:(Bc k.toNat items.toList.toArray).foldl (· ++ ·) #[]=(Bc k.toNat items.toList).flatten.toArray:=by exists f0
   have e1:items.toList.toArray=items:=by simp
   rw[e1]at e0;rw[e0,Bd,eU,Cn,EV];have a1:k.toNat*items.size<=1000*1000:=Dk ⋯ hz;omega
  first
   | exact EL (m:=Fi _) (Fk (EO ⟨_,rfl,h⟩) hsz)
   | exact EL (EL (m:=Fi _) (Fk (EO ⟨_,rfl,h⟩) hsz))
abbrev vD(K:yF):R2:=λx y H Q=>∃l k xs,x=.ref l/\y=.int k/\SqT K H l xs/\xs≠[]/\xs.length<=1000/\1<=k/\k<=1000 /\
 (k=1->Q (.ref l) H)/\(2<=k->∀p,H p=none->Q (.ref p) (upd H p (.tup (Bc k.toNat xs).flatten)))
def tM:OpR X (Fh .Mult) (vD X.K):=by
 intro Uq s Z H x y v u Q I rx ry h;obtain⟨l,k,xs,rfl,rfl,hH,hne,hlen,h1,h2,q1,q2⟩:=h;cases rx;obtain⟨t,rfl⟩:=ry;obtain⟨its,r,p,hz⟩:=I.tuple (X:=X) hH;obtain⟨⟨cls,dd,data,sl⟩,ho,hc,n,hd⟩:=id p;simp only at hc hd;subst hc hd;have hl:=r.length;have hne':its.toArray.isEmpty=false:=by
  cases its with
  | nil=>cases r;exact absurd rfl hne
  | cons a r'=>rfl
 have hTy:s.TypeIs (.ref l) "tuple" :=⟨_,ho,rfl⟩;apply FP (T:="tuple") (U:="int") (by decide) hTy (λs'=>Ga s' k t) fM G3 FI j3 GK.lookup
  (FT FI (Ga s k t) GL (Gz _ _) (gP k t l its.toArray n dd sl)
   ⟨ho,rfl,hTy,?_⟩)
 by_cases hk:k=1
 ·subst hk;apply GJ Gb hTy HP ?_ (Hv _ _);have f1:=HY;have c1:¬ (decide ((1:Int) < -(2^63))||decide ((1:Int)≥2^63))=true:=by decide
  obtain⟨hp,g,d,tk,os⟩:=s;wp_walk using GF ho
  exact⟨_,rfl,.ref l,H,I,rfl,q1 rfl⟩
 ·apply FT Gb hTy HP (Hv _ _) (gv l its.toArray n dd sl k t ⋯ h2 hne' (by rw[Bd,<-hl];exact hlen)) ⟨ho,?_⟩;have e0:(Bc k.toNat its.toArray).foldl (· ++ ·) #[]=(Bc k.toNat its).flatten.toArray:=by simpa using cQ its k.toNat []
  rw[e0];apply⟨.ref s.heap.objs.size,_,I.laid (t':=s.toks) (o:=.tup (Bc k.toNat xs).flatten) (λb ob q=>EN _ q) (Bg _) ?_,rfl,q2 ⋯ _ (I.hok.fresh (Bg _))⟩;apply⟨?_,_,r.rep k.toNat,Es.new _ _⟩;rw[eU,EV];have a1:k.toNat*xs.length<=1000*1000:=Dk ⋯ hlen;omega
end
abbrev Has(P:EU)(w:E4)(K:yF)(mg:Str->Option EK)(base:Heap)(k:Nat)(name:Str)(ps:List Str)(sp:Sp):Prop:=
 ∃(f:Addr) (fd:Fm),mg name=some (.ref f)/\Cf K (.ref f)=true/\Ek K fd ps []/\Ep P w K mg base CX0 k f fd ps sp/\∃oc od osl,K.lookup f=some ⟨oc,od,.func fd,osl⟩
abbrev Def(K:yF)(mg:Str->Option EK)(name:Str)(st:Stmt)(ps:List Str):Prop:=
 ∃(f:Addr) (fd:Fm),mg name=some (.ref f)/\Fun K name name st f fd/\Ek K fd ps []
def Def.has{P:EU}{w:E4}{K:yF}{mg:Str->Option EK}{base:Heap}{k:Nat}{name:Str}{st:Stmt}{N ps:List Str}{sp:Sp}(d:Def K mg name st ps)(S:vx N ps (ae st))(len:∀vs H Q E,sp vs H Q E->vs.length=ps.length)
  (hbody:∀(f:Addr) (cdv:EK) (A:Fa) (outer:List Env) (s:EM) (H:Hp) (vs:List V) (Q:VK) (E:XK),Eh k (A.deeper (Gg name (ae st) s.heap.objs.size f cdv))->sp vs H Q E ->
   ∃t,PSs (eN CX0 P w K mg base N name (ae st) f cdv A outer s H E).nox (aE st) t/\t {nx:=λ_ H'=>Q .non H',rt:=Q} (bd N vs) H):Has P w K mg base (k+1) name ps sp:=by
 obtain⟨f,fd,h1,F,b⟩:=d;obtain⟨oc,od,kV,doc,pm,an,cdv,ct,osl,e,lk,hcd⟩:=F.ex;exact⟨f,fd,h1,F.kp,b,F.ok S len (hbody f),oc,od,osl,lk⟩
def pV{P:EU}{w:E4}{K:yF}{mg:Str->Option EK}{fa:Addr}{name:Str}{st:Stmt}{x:Str}{k:Nat}{sp:Sp}(hfa:mg name=some (.ref fa))(d:Def K mg name st [x])
  (hb:∀(kV doc pm:EK) (an:Option Addr) (cdv ct:EK) (s:EM) (v:EK),GR s (BN name name (bh st) (aE st) (ae st) .none kV doc pm an cdv ct) ⟨[v],[]⟩ [(x,v)])
  (H:∀base:Heap,K.In base->base.Ns E3 mg->Has P w K mg base k name [x] sp) :
  ∃fd:Fm,(∀(s:EM) (v:EK),GR s fd ⟨[v],[]⟩ [(x,v)])/\∀base:Heap,K.In base->base.Ns E3 mg->Ep P w K mg base CX0 k fa fd [x] sp:=by
 obtain⟨f,fd,h1,F,b⟩:=d;rw[hfa]at h1;cases h1;obtain⟨oc,od,kV,doc,pm,an,cdv,ct,osl,e,lk,hcd⟩:=F.ex;apply⟨fd,λs v=>by rw[e];exact hb _ _ _ _ _ _ s v,λbase kb nb=>?_⟩;obtain⟨f',fd',g1,_,_,g4,oc',od',osl',lk'⟩:=H base kb nb;rw[hfa]at g1;cases g1;rw[lk]at lk';cases lk';exact g4
section
variable {X:Cx}{x:Str}{e:Expr}{es:List Expr}{p pos:Pos}{k:Nat}{ps:List Str}{sp:Sp}{t:TA}
def mW(h:Has X.prog X.w X.K X.mg X.base k x ps sp)(hr:Eh k X.A)(hg:Gl X x)(ha:PA X (e::es) t)(hdb:(x==("__debug__" : Str))=false:=by decide)
  (he:E5 (e::es) X.env=(false,eval e X.env)::E5 es X.env:=by rfl) (hpl:(FM pos (E5 es X.env)).any (·.1)=false:=by rfl) :
  PE X (.Call (.Name x p) (e::es) [] pos) (gj sp [] E0 t):=by
 obtain⟨f,fd,h1,h2,h3,h4,_⟩:=h;exact tO h4 hr hg h1 h2 h3 .nil mU ha hdb he hpl
end
section
variable {X:Cx}
abbrev vt(K:yF):R2:=λx y H Q=>rI0 (λi j=>.int (i+j)) x y H Q\/((∃i j,x=.str i/\y=.str j/\i.length+j.length<=sizeLine/\Q (.str (i++j)) H)\/(zS x y H Q\/vy K x y H Q))
def op_addX:OpR X (Fh .Add) (vt X.K):=op_add.or (op_add_str.or (op_cat.or tJ))
abbrev vA(K:yF):R2:=λx y H Q=>rI EG (λi j=>.int (i*j)) x y H Q\/((∃z n,x=.str z/\y=.int n/\1<=n/\n<=1000/\z.length<=1000/\Q (.str (oL (Bc n.toNat (sL z)).flatten)) H)\/(z6 x y H Q\/vD K x y H Q))
def op_mulX:OpR X (Fh .Mult) (vA X.K):=op_mul.or (op_mulS.or (op_rep.or tM))
abbrev xJ(K:yF):R2:=λx y H Q=>rEq x y H Q\/(zT K x y H Q\/zU K x y H Q)
def wO(hu:X.A.units+64<Fz):OpR X (Fe .Eq) (xJ X.K):=op_eq.or ((wL hu).or (wN hu))
abbrev xO(K:yF):R2:=λx y H Q=>rNe x y H Q\/(zZ K x y H Q\/z0 K x y H Q)
def wW(hu:X.A.units+64<Fz):OpR X (Fe .NotEq) (xO X.K):=op_ne.or ((wT hu).or (wV hu))
abbrev xL(K:yF):R2:=λx y H Q=>(∃i j,x=.str i/\y=.str j/\Q (.bl (!(FW j i 0 j.length 1).isEmpty)) H)\/(rIn K false x y H Q\/zV K false x y H Q)
def wR(hu:X.A.units+64<Fz):OpR X (Fe .In) (xL X.K):=op_in_str.or (op_in_seq.or (wP hu))
def A2:SlR X (rSl X.K):=sl_tup.or (sl_list.or xZ)
abbrev rl(K:yF):List V->Hp->VK->Prop:=λxs H Q=>(∃p ys,xs=[.ref p]/\(SqL K H p ys\/SqT K H p ys)/\Q (.int ys.length) H)\/(∃z,xs=[.str z]/\z.length<=sizeLine/\Q (.int z.length) H)
def nL:Ej X (.builtin "len") (rl X.K):=Ej.or jz jA
def vF(n:String):RelV (.ty n) (.type n):=rfl
end
abbrev Its(z:Str):It:=⟨λi _=>i<z.cps.size,λi H y H'=>H'=H/\∃c,z.cps[i]?=some c/\y=.str ⟨#[c]⟩,λi _=>z.cps.size<=i⟩
abbrev zd(te:TE):TI:=λZ H R=>te Z H λx H1=>∃z:Str,x=.str z/\R (Its z) H1
def tY{X:Cx}{tg e:Expr}{te:TE}(he:PE X e te):PI X tg e (zd te):=xt he
def kO{N:List Str}(h:decide N.Nodup=true):N.Nodup:=of_decide_eq_true h
section
variable {X:Cx}{K:yF}
def AT(h:X.K=K):IxR X (rIx K):=h▸wv
abbrev rq(K:yF):List V->Hp->VK->Prop:=λxs H Q=>∃p ys,xs=[.ref p]/\((SqL K H p ys/\∀l,H l=none->Q (.ref l) (upd H l (.tup ys)))\/(SqT K H p ys/\Q (.ref p) H))
abbrev rm(K:yF):List V->Hp->VK->Prop:=λxs H Q=>∃p ys,xs=[.ref p]/\(SqL K H p ys\/SqT K H p ys)/\∀l,H l=none->Q (.ref l) (upd H l (.lst ys))
abbrev vz(K:yF):V->List V->Hp->VK->Prop:=λx vs H Q=>∃z a zs,x=.str z/\vs=[.ref a]/\SqL K H a (zs.map V.str)/\(zs.map (·.length)).sum+zs.length*z.length<=16777216/\Q (.str (F6 z zs)) H
def tgK{es:List Expr}{k:Nat}{t:TGs}{n:Nat}{pos:Pos}(h:X.K=K)(hc:X.calm=true)(hs:PGs X es t)
  (hn:(Fw es X.env).length=n:=by rfl) (hst:(Fw es X.env).findIdx? (·.1)=none:=by rfl):PG X (.Tuple es k pos) (sR K n t):=h▸xr hc hs hn hst
def ilK{tg l:Expr}{tl:TE}(h:X.K=K)(hl:PE X l tl):PI X tg l (kC K tl):=h▸mY hl
def itK{tg l:Expr}{tl:TE}(h:X.K=K)(hl:PE X l tl):PI X tg l (sU K tl):=h▸xu hl
variable {o e:Expr}{es:List Expr}{to:TE}{t:TA}{name:Str}{apos cpos:Pos}{T id:String}{r:V->List V->Hp->VK->Prop}
def bmK(h:X.K=K)(pa:GV T)(slot:Slot T name id)(hty:Hf (.builtin id)=pure (.type "method_descriptor"))(hm:MtR X id r)(ho:PE X o to)(ha:PA X (e::es) t)
  (hbase:FF o name X.env (eval o X.env)=eval o X.env:=by rfl)
  (hfew:((FM cpos (E5 (e::es) X.env)).all (λx=>!x.1)&&(HI cpos (Gy [] X.env)).all (λx=>x.1.isSome)
   && decide ((e::es).length+([]:List Iq).length+(if([]:List Iq).isEmpty then 0 else 1)<30))=true:=by rfl)
  (hline:(apos.endLine==cpos.line)=true:=by rfl) (hs:E5 (e::es) X.env=(false,eval e X.env)::E5 es X.env:=by rfl) (hplain:(FM cpos (E5 es X.env)).any (·.1)=false:=by rfl) :
  PE X (.Call (.Attribute o name apos) (e::es) [] cpos) (tBM K T r to t):=h▸zD pa slot hty hm ho ha hbase hfew hline hs hplain
end
def Ei.put{H H1:Hp}{l:Addr}{o:HO}(s:Ei H H1)(hl:H l=none):Ei H (L2.upd H1 l o):=λb u h=>by rw[L2.upd_ne (aN h hl)];exact s b u h
structure Bi(mg:Str->Option EK):Prop where
 b_len:mg "len" = none
 b_all:mg "all" = none
 b_any:mg "any" = none
 b_tuple:mg "tuple" = none
 b_list:mg "list" = none
 b_range:mg "range" = none
 b_min:mg "min" = none
 b_max:mg "max" = none
 b_int:mg "int" = none
 b_bool:mg "bool" = none
 b_isinstance:mg "isinstance" = none
 b_str:mg "str" = none
 b_sorted:mg "sorted" = none
 b_sum:mg "sum" = none
 b_zip:mg "zip" = none
 b_enumerate:mg "enumerate" = none
 b_dict:mg "dict" = none
 b_abs:mg "abs" = none
 b_repr:mg "repr" = none
 b_reversed:mg "reversed" = none
 b_set:mg "set" = none
noncomputable abbrev LET:Str:="abcdefghijklmnopqrstuvwxyz"
def jp:(sL LET).length=26:=by decide +kernel
def LET_len':LET.length=26:=by decide +kernel
abbrev rd:D->Option D
 | .tup [.str x,nm,row]=>if x=("at" : Str)then some (.tup [nm,row])else none
 | _=>none
abbrev yI(J2:It)(Zi:St)(g2:TG)(tc2:TT)(te:TE)(acc0:List V)(H3:Hp)(N:List V->Hp->Prop):Prop:=
 ∃W2:Nat->Nat->List V->Hp->Prop,(∃m,W2 0 m acc0 H3)/\∀i m acc H,W2 i m acc H->acc.length<sizeLine /\
  ((J2.stop i H/\N acc H) \/
  (J2.go i H/\∃N2:List V->Hp->Prop,(∀acc' H',N2 acc' H'->∃m',m'<m/\W2 (i+1) m' acc' H') /\
   ∀x H',J2.yld i H x H'->g2 x Zi H' λZ3 H4=>tc2 Z3 H4 λb H5=>if b=true then te Z3 H5 λv H6=>N2 (acc++[v]) H6 else N2 acc H5))
open PySem.AutoSeq1 (wpAny_loadPart')
def Inv.turned2{X:Cx}{Uq:List (Addr×Obj)}{Z:St}{H:Hp}{s:EM}{h':Heap}{t':Nat}{i1 i2:Addr}(I:Inv X Uq Z H s)(k:∀b o,b≠i1->b≠i2->s.heap.get? b=some o->h'.get? b=some o)(f1:dX X Uq H i1)(f2:dX X Uq H i2):Inv X Uq Z H {s with heap:=h',toks:=t'}:=by
 have nit:∀b u,H b=some u->b≠i1/\b≠i2:=λb u e=>⟨λz=>(by rw[z,f1.1]at e;cases e),λz=>(by rw[z,f2.1]at e;cases e)⟩;apply I.step (g':=s.gens) (d':=s.drawn) (ch:=[i1,i2]) (λb hb=>?_) (λb o _ _ hc e _=>k b o (λz=>hc (by simp[z])) (λz=>hc (by simp[z])) e) (λb o _ _ hc e _=>⟨o.slots,k b o (λz=>hc (by simp[z])) (λz=>hc (by simp[z])) e⟩) (λ_ _ _ _ n=>n)
  (λb o hc e=>⟨o,k b o (λz=>hc (by simp[z])) (λz=>hc (by simp[z])) e⟩) (λ_ _ e=>e) (λ_ _ _ e=>e) (λb ps e=>⟨#[],by rw[e];simp⟩) (λm hm=>?_) (λb u e=>?_) I.bare
 ·have e:b=i1\/b=i2:=by exists hb
  rcases e with e|e
  ·subst e;obtain⟨_,hL,_,h1,h2,h3⟩:=f1;exact⟨h1,hL,h2,h3⟩
  ·subst e;obtain⟨_,hL,_,h1,h2,h3⟩:=f2;exact⟨h1,hL,h2,h3⟩
 ·obtain⟨o,es,ep,ho,r⟩:=hm;exact⟨o,es,ep,k _ o (Ff f1.2.1) (Ff f2.2.1) ho,r⟩
 ·apply(I.hok b u e).stay (λc v hc q=>k c v ?_ ?_ q) (λ_ q=>q) λ_ _ q=>q
  ·rcases hc with z|z;rw[z];exact(nit b u e).1;exact(nit c _ z).1
  ·rcases hc with z|z;rw[z];exact(nit b u e).2;exact(nit c _ z).2
def wc{prog:EU}{w:E4}{A:Fa}{E:EK->EM->Prop}{ss:EM}{e jt:Addr}{i:Int}{old:EK}{Q:Option EK->EM->Prop}
  (D:∀(Q:EK->EM->Prop) (E:EK->EM->Prop),(∀h1 x,Jl jt ss.heap h1->(∃o,h1.get? x=some o/\o.cls=.type "StopIteration")->E (.ref x) {ss with heap:=h1})->EY (ET prog w) A.in1 (IR (.ref jt)) Q E ss)
  (he:IsEnum ss.heap e jt i old) (kk:∀h1,Jl jt ss.heap h1->Q none {ss with heap:=h1}):EY (ET prog w) A (I0 (.ref e)) Q E ss:=by
 have hT:ss.TypeIs (.ref e) "enumerate" :=⟨_,he,rfl⟩;unfold I0;apply EL (GG (GI (name:=ER "__next__") hT G9 (GJ G9 hT F.entry_enumerate_next ?_ (F.args_enumerate_next_1 _))));show EY _ _ (field (.ref e) 2 >>= _) _ _ _;apply EL (He he rfl (x:=.ref jt) rfl ?_);apply EL (D _ _ λh1 x he1 hx1=>?_);obtain⟨o,ho,hc⟩:=hx1;apply EL (wpAny_isInstance (T:="StopIteration") (b:=true) ⟨o,ho,hc⟩ isSubtype_stop ?_);exact EO (kk _ he1)
abbrev bo:Expr->Bool
 | .Starred _ _=>true
 | _=>false
def aV{e:Expr}{es:List Expr}{env:Env}(h:bo e=false):E5 (e::es) env=(false,eval e env)::E5 es env:=by
 cases e<;>first|rfl|cases h
abbrev aT:List Expr->Bool
 | []=>true
 | e::es=>(!bo e)&&aT es
def bC{env:Env}{pos:Pos}:∀{es:List Expr},aT es=true->(FM pos (E5 es env)).any (·.1)=false
 | [],_=>rfl
 | e::es,h=>by
  rw[aT,A9]at h;have h1:bo e=false:=by exists h.1
  rw[aV h1];show(false||(FM pos (E5 es env)).any (·.1))=false;rw[bC h.2];rfl
def gi{env:Env}{pos:Pos}:∀{es:List Expr},aT es=true->(FM pos (E5 es env)).all (λx=>!x.1)=true
 | [],_=>rfl
 | e::es,h=>by
  rw[aT,A9]at h;have h1:bo e=false:=by exists h.1
  rw[aV h1];show(!false&&(FM pos (E5 es env)).all (λx=>!x.1))=true;rw[gi h.2];rfl
section
variable {X:Cx}{K:yF}{e:Expr}{es:List Expr}{te:TE}{t:TA}{x:Str}{p pos:Pos}{k:Nat}{ps:List Str}{sp:Sp}
def b6(ha:PE X e te)(hr:PA X es t)(hs:bo e=false:=by rfl):PA X (e::es) (lg te t):=dS ha hr (aV hs)
def qx(h:Has X.prog X.w X.K X.mg X.base k x ps sp)(hr:Eh k X.A)(hg:Gl X x)(ha:PA X (e::es) t)(hn:aT (e::es)=true:=by rfl)(hdb:(x==("__debug__" : Str))=false:=by decide):PE X (.Call (.Name x p) (e::es) [] pos) (gj sp [] E0 t):=by
 rw[aT,A9]at hn;exact mW h hr hg ha hdb (aV (by exists hn.1)) (bC hn.2)
def cT{id:String}{r:List V->Hp->VK->Prop}(hc:Ej X (.builtin id) r)(hg:Gl X x)(hm:X.mg x=none)(hb:Fq x=some (.builtin id))(ha:PA X (e::es) t)(hn:aT (e::es)=true:=by rfl)(hx:x≠("__name__" : Str):=by decide)(hdb:(x==("__debug__" : Str))=false:=by decide):PE X (.Call (.Name x p) (e::es) [] pos) (tCB r t):=by
 rw[aT,A9]at hn;exact qu hc hg hm hb ha hx hdb (aV (by exists hn.1)) (bC hn.2)
def lO{T:String}{r:List V->Hp->VK->Prop}(hc:Ej X (.type T) r)(hg:Gl X x)(hm:X.mg x=none)(hb:Fq x=some (.type T))(ha:PA X (e::es) t)(hn:aT (e::es)=true:=by rfl)(hx:x≠("__name__" : Str):=by decide)(hdb:(x==("__debug__" : Str))=false:=by decide):PE X (.Call (.Name x p) (e::es) [] pos) (tCB r t):=by
 rw[aT,A9]at hn;exact ot hc hg hm hb ha hx hdb (aV (by exists hn.1)) (bC hn.2)
def yQ{o:Expr}{to:TE}{name:Str}{apos cpos:Pos}{T id:String}{r:V->List V->Hp->VK->Prop}(h:X.K=K)(pa:GV T)(slot:Slot T name id)(hty:Hf (.builtin id)=pure (.type "method_descriptor"))(hm:MtR X id r)(ho:PE X o to)(ha:PA X (e::es) t)(hn:aT (e::es)=true:=by rfl)(hlen:decide ((e::es).length<30)=true:=by rfl)
  (hbase:FF o name X.env (eval o X.env)=eval o X.env:=by rfl) (hline:(apos.endLine==cpos.line)=true:=by rfl):PE X (.Call (.Attribute o name apos) (e::es) [] cpos) (tBM K T r to t):=by
 have hn':=hn;rw[aT,A9]at hn';apply bmK h pa slot hty hm ho ha hbase ?_ hline (aV (by exists hn'.1)) (bC hn'.2);rw[gi hn];have:=of_decide_eq_true hlen;dsimp[DY,CS,Nat.add_zero,List.isEmpty_nil,if_true];rw[decide_eq_true this];rfl
end
end L2
namespace L2
open PySem PySem.Spec PySem.Calls PyProof.Rows PySem.W
noncomputable abbrev bz(C t:Addr):Obj:={cls:=.ref C,data:=.fields #[.ref t,.none,.none,.none,.bool false,.none]}
noncomputable abbrev gl(vs:List EK):Obj:={cls:=.type "tuple",data:=.seq vs.toArray}
section
variable {prog:EU}{w:E4}{A:Fa}{R:Ju->EM->Prop}{h:Heap}{g:Array Iv}{d:Drawn}{t:Nat}{os:OsState}
variable {nm q:Str}{C N f:Addr}{bs bm:List EK}{hdct:Bool}{sn:List Str}{sub:List EK}{ab:Bool}{col:Option Bool}{dd:Option Addr}{k0 k1 k2 k3 k5:Option EK}
def sH(hV:bm.contains (.type "ValueError")=true)(hA:bm.contains (.type "AttributeError")=false)(hN:bm.contains (.type "NameError")=false){rest:List EK}(hC:h.get? C=some (Hh nm q C N bs bm hdct sn sub ab col dd k0 k1 k2 k3 k5 "ValueError.__new__"))(hrest:rest.length<=sizeLine)
  (hq:R (.ok (.ret (.ref (h.objs.size+1)))) ⟨(h.push (gl rest)).push (bz C h.objs.size),g,d,t,os⟩) :
  Ge (ET prog w) A (.call (.builtin "ValueError.__new__") ⟨.ref C::rest,[]⟩) R ⟨h,g,d,t,os⟩:=by
 have Fn:=PySem.F.excBase_ValueError;have hcB:(Fj C::bm).contains (.type "ValueError")=true:=by rw[Cp,hV,Dc]
 have hcA:(Fj C::bm).contains (.type "AttributeError")=false:=by rw[Cp,hA];rfl
 have hcN:(Fj C::bm).contains (.type "NameError")=false:=by rw[Cp,hN];rfl
 have hstar:=Fn.noStar;have hends:=Fn.ends;apply codeAny_call_builtin_code (Hw _ Fn.quiet) ?_;dsimp[HZ,Fn.newKind,Fn.newSplit,Fn.newRow];repeat (first|refine F7 hC ?_|(refine FQ hC ?_;rw[hcB])|refine wpAny_staticBase_exc hC ?_|refine Ia hC ?_|dsimp[bne_self_eq_false,CY,if_false]|wp_step)
 apply codeAny_builtinAt Fn.entry ?_;unfold E6.«BaseException.__new__»;apply DM ?_;show PySem.wpAt _ _ _ (stack >>= _) _ _ _;apply DM (PySem.wpAt_stack λp below=>Dm ?_);wp_walk
 apply Dm ?_;rw[Fn.owner];repeat (first|with_reducible refine wpAny_madeHere_exc Fn.canon hC ?_|with_reducible refine F7 hC ?_|(with_reducible refine FQ hC ?_;first|rw[hcB]|rw[hcA]|rw[hcN])|wp_step)
 show R _ _;rw[F5];exact hq
def pz(hV:bm.contains (.type "ValueError")=true)(hA:bm.contains (.type "AttributeError")=false)(hN:bm.contains (.type "NameError")=false){rest:List EK}(hC:h.get? C=some (Hh nm q C N bs bm hdct sn sub ab col dd k0 k1 k2 k3 k5 "ValueError.__new__"))(hrest:rest.length<=sizeLine)
  (call:Looks (ET prog w) h (IX (.ref C) "__call__") (some (.builtin "type.__call__"))) (typ:Looks (ET prog w) h (GY (.ref C) (.type "type")) true)
  (hi:Looks (ET prog w) h (typeLookup (.ref C) "__init__") (some (.ref f))) (hb:∀self,Looks (ET prog w) h (bindSpecial (.ref f) self) (.ref f,[self]))
  (hq:Ge (ET prog w) (A.under (.builtin "type.__call__" ⟨.ref C::rest,[]⟩)) (.call (.ref f) ⟨.ref (h.objs.size+1)::rest,[]⟩) (InitBack (h.objs.size+1) R) ⟨(h.push (gl rest)).push (bz C h.objs.size),g,d,t,os⟩) :
  Ge (ET prog w) A (.call (.ref C) ⟨rest,[]⟩) R ⟨h,g,d,t,os⟩:=by
 have made:Looks (ET prog w) h (Bind.madeBy (.ref C)) (some "ValueError.__new__"):=λA Q E s k q=>by
  obtain⟨hp,g,d,tk,os⟩:=s;exact Ia (k _ _ hC) q
 have hm:Looks (ET prog w) h (mroOf (.ref C)) (.ref C::bm):=λA Q E s k q=>by
  obtain⟨hp,g,d,tk,os⟩:=s;exact wpAny_mroOf_exc (k _ _ hC) q
 have self:Looks (ET prog w) h (isSubtype (.ref C) (.ref C)) true:=λA Q E s k q=>by
  obtain⟨hp,g,d,tk,os⟩:=s;apply FQ (k _ _ hC) ?_;rw[show(Fj C::bm).contains (.ref C)=true by simp];exact q
 have e4:(Fj C::bm).isEmpty=false:=rfl;apply codeAny_of_tree ?_;show EY _ _ (callAny (.ref C) _) _ _ _;apply nd_load hC ?_;show EY _ _ (HQ (.ref C) _) _ _ _;unfold HQ;apply EL (call.at ?_);dsimp only;rw[tc_bind];apply EL (EO (EL (EO ?_)));apply EO (a:=Fin.again (.call (.builtin "type.__call__") ⟨.ref C::rest,[]⟩)) (And.intro rfl ?_);apply codeAny_call_builtin_at (Hw _ (by decide +kernel)) entry_typeCall (check_slot tc_kind tc_split typ (tc_args _ _ _) ?_);unfold E6.«type.__call__»;repeat (first|dsimp[e4,CY,if_false]|with_reducible refine FS ?_|lk)
 apply sH hV hA hN hC hrest ?_;have k:∀b o,h.get? b=some o->((h.push (gl rest)).push (bz C h.objs.size)).get? b=some o:=λb o e=>EN _ (EN _ e);have hx:((h.push (gl rest)).push (bz C h.objs.size)).get? (h.objs.size+1)=some (bz C h.objs.size):=by heap_get
 have t1:Looks (ET prog w) ((h.push (gl rest)).push (bz C h.objs.size)) (Hf (.ref (h.objs.size+1))) (.ref C):=(Looks.ld hx).andThen .now;have s1:=self.keeps k;have i1:=hi.keeps k;have b1:=(hb (.ref (h.objs.size+1))).keeps k;unfold GY callSpecial? IX;repeat (first|with_reducible refine FS ?_|lk)
 apply Gk hq λr s' z=>?_;rcases r with e|(v|_|_|_)<;>first|exact z|exact z.elim|skip
 obtain⟨rfl,z⟩:=z;exact EO (EO z)
end
section
variable {prog:EU}{w:E4}{A:Fa}{E:EK->EM->Prop}{h:Heap}{g:Array Iv}{d:Drawn}{t:Nat}{os:OsState}
variable {nm q:Str}{C N x a:Addr}{bs bm:List EK}{hdct:Bool}{sn:List Str}{sub:List EK}{ab:Bool}{col:Option Bool}{dd:Option Addr}{k0 k1 k2 k3 k5:Option EK}
def pw(hV:bm.contains (.type "ValueError")=true)(hC:h.get? C=some (Hh nm q C N bs bm hdct sn sub ab col dd k0 k1 k2 k3 k5 "ValueError.__new__"))(hx:h.get? x=some (bz C a)){Q:EK->EM->Prop}
  (hq:∀h':Heap,h'.get? x=some (bz C h.objs.size)->(∀b o,b≠x->h.get? b=some o->h'.get? b=some o)->Q .none ⟨h',g,d,t,os⟩) :
  EY (ET prog w) A (call (.builtin "ValueError.__init__") [.ref x]) Q E ⟨h,g,d,t,os⟩:=by
 have F:=PySem.F.excBase_ValueError;have hcB:(Fj C::bm).contains (.type "ValueError")=true:=by rw[Cp,hV,Dc]
 have hshort:=F.noStar;apply FS (FN F.init.plain F.initEntry ?_);dsimp[HZ,F.initKind,F.initSplit,F.initRow];repeat (first|with_reducible refine F7 hx ?_|with_reducible refine F7 hC ?_|(with_reducible refine FQ hC ?_;rw[hcB])|wp_step)
 apply hq _ (FK _ (EN _ hx) rfl) λb o hb e=>?_;exact(F4 _ _ (Ff hb)).trans (EN _ e)
end
abbrev c8:List EK->Bool
 | .ref _::r=>c8 r
 | .type n::r=>n == "ValueError" && r==[.type "Exception",.type "BaseException",.type "object"]
 | _=>false
open Builtin Builtin.ObjectAttr
def gL(self:EK):∀{l:List EK},c8 l=true->refuseLoop self "__setattr__" l=pure ()/\l.contains (.type "object")=true/\l.isEmpty=false
 | .ref c::r,e=>by
  have:=gL self (l:=r) e;rw[refuseLoop_ref,Cp];exact⟨this.1,by rw[this.2.1,Dc],rfl⟩
 | .type n::r,e=>by
  rw[c8,A9,beq_iff_eq,beq_iff_eq]at e;obtain⟨rfl,rfl⟩:=e;exact⟨by rfl',by decide,rfl⟩
section
variable {prog:EU}{w:E4}{A:Fa}{E:EK->EM->Prop}{s:EM}{K:Frag}{x C:Addr}{mA:Str->Option EK}{name:Str}{v:EK}{cd:ClassData}
def iV{Q:Unit->EM->Prop}{ns:List Str}{o:Obj}(X:K.In s.heap)(hc:Jm K C=some cd)(ho:c8 cd.mro=true)(hh:cd.hasDict=true)(hs:Ft K (.ref C) "__setattr__" = some (some (.builtin "object.__setattr__")))(hna:Ft K (.ref C) name=some none)
  (hx:s.heap.get? x=some o) (hcl:o.cls=.ref C) (hnc:∀c,o.data ≠ .cls c) (hd:o.dict=none \/ ∃dx,o.dict=some dx/\dx≠x/\s.heap.Ns1 dx mA) (hw:Within mA ns) (hsz:ns.length<sizeLine)
  (q0:o.dict=none->∀(h':Heap) tk',h'.get? x=some {cls:=o.cls,dict:=some s.heap.objs.size,data:=o.data,slots:=o.slots}->h'.Ns1 s.heap.objs.size (λy=>if y=name then some v else none)->(∀b ob,b≠x->s.heap.get? b=some ob->h'.get? b=some ob)->Q () {s with heap:=h',toks:=tk'})
  (q1:∀dx,o.dict=some dx->∀(h':Heap) tk',h'.Ns1 dx (λy=>if y=name then some v else mA y)->(∀b ob,b≠dx->s.heap.get? b=some ob->h'.get? b=some ob)->Q () {s with heap:=h',toks:=tk'}) :
  EY (ET prog w) A (setAttr (.ref x) name v) Q E s:=by
 have SF:=PySem.F.store_object;have ty:Looks (ET prog w) s.heap (Hf (.ref x)) (.ref C):=hcl▸(Looks.ld hx).andThen .now;obtain⟨r1,r2,r3⟩:=gL (.ref x) ho;have hm:Looks (ET prog w) s.heap (mroOf (.ref C)) cd.mro:=(looks_clsIn X hc).andThen .now;have sub:Looks (ET prog w) s.heap (GY (.ref x) (.type "object")) true:=ty.andThen (looks_mroIn X (by unfold JC;rw[hc,C7,if_neg (by rw[r3];decide),r2]));have J:∃od,InstAt s.heap x o C od:=by
  have no:notCls o=true:=by
   unfold notCls;split;delta c e;exact absurd e (hnc c);rfl
  rcases hd with hdn|⟨dx,hdx,_,oD,_,_,e1,_⟩;exact⟨none,hx,hcl,no,by rw[hdn];trivial⟩;exact⟨some oD,hx,hcl,no,by rw[hdx];exact e1⟩
 obtain⟨od,J⟩:=J;apply set_plain X J hs ?_;apply FN SF.slot.plain SF.entry (@check_slot (ET prog w) _ _ {s with toks:=s.toks+1} "object.__setattr__" "object" "__setattr__" (.ref x) [.str name s.toks,v] [] _ SF.kind SF.split sub (SF.args (.ref x) (.str name s.toks) v) ?_);rw[osa_eq,refuse_eq];apply EL (EL (Looks.here (s:={s with toks:=s.toks+1}) ty (EL (Looks.here (s:={s with toks:=s.toks+1}) hm ?_))));rw[r1];apply EO (EL (Looks.here (s:={s with toks:=s.toks+1}) ty (EL (Looks.here (s:={s with toks:=s.toks+1}) (Gn X hna) (EL (EO ?_))))));apply EL (EO (EL (EL (IJ hx ?_))));rw[hcl];apply EL (Looks.here (s:={s with toks:=s.toks+1}) (looks_clsIn X hc) ?_);rw[hh];rcases hd with hdn|⟨dx,hdx,hne,hns⟩
 ·rw[hdn];have hx1:(s.heap.push Hk).get? x=some o:=EN _ hx;have hxs:x≠s.heap.objs.size:=BG (ES hx);rw[if_neg (by decide)];dsimp only;rw[if_neg (by simp[typeHasDict])];have go:∀{P:Option Addr->EM->Prop},P (some s.heap.objs.size) {s with heap:=(s.heap.push Hk).update x λo=>{cls:=o.cls,dict:=some s.heap.objs.size,data:=o.data,slots:=o.slots},toks:=s.toks+1} ->
    ∀E',EY (ET prog w) A.in1 (match o.data with
     | Data.cls c=>pure none
     | _=>do
      let d <-alloc {cls:=EQ "dict",data:=JF #[]}
      update x λo=>{cls:=o.cls,dict:=some d,data:=o.data,slots:=o.slots}
      dictMade (Fj C) x d) P E' {s with toks:=s.toks+1}:=λ{P} p E'=>by
   split;delta c e;exact absurd e (hnc c);exact EL (wpAny_alloc (EL (wpAny_update (s:={s with heap:=s.heap.push Hk,toks:=s.toks+1}) hx1 (EO p))))
  apply go ?_ _;generalize hg:((s.heap.push Hk).update x λo=>{cls:=o.cls,dict:=some s.heap.objs.size,data:=o.data,slots:=o.slots})=g;have hgd:g.get? s.heap.objs.size=some Hk:=by rw[<-hg];exact(Gj _ _ _ _ hxs.symm).trans (Heap.get?_push_at rfl rfl)
  have hgx:g.get? x=some {cls:=o.cls,dict:=some s.heap.objs.size,data:=o.data,slots:=o.slots}:=by
   rw[<-hg];apply FK _ hx1 ?_;have hfr:=(Heap.get?_some_iff.mp hx).2;obtain⟨oc,od,odt,osl⟩:=o;cases odt<;>first|rfl|exact hfr
  have hgo:∀b ob,b≠x->s.heap.get? b=some ob->g.get? b=some ob:=λb ob hb e=>by rw[<-hg];exact(Gj _ _ _ _ hb).trans (EN _ e)
  have hnd:g.Ns s.heap.objs.size (λ_=>none):=⟨_,#[],_,hgd,rfl,λe he=>absurd he ∅,λ_=>rfl⟩;show EY _ _ (storeInDict s.heap.objs.size (.str name s.toks) name v) _ _ _;unfold storeInDict newKeyGuard;apply EL (EO (EL (wpAny_nsSet1 (s:={s with heap:=g,toks:=s.toks+1}) (Heap.Ns1.of_empty hnd) λh' hn' hs2=>?_)));obtain⟨oD,esD,epD,hoD,hdD,hcD⟩:=hn'.count (Jn name v Within.nil);apply EL (Ib hoD (by rw[hdD];exact Ic (Bz hcD (by rw[Bf,CS,EV];omega))) ?_);have hx':h'.get? x=some {cls:=o.cls,dict:=some s.heap.objs.size,data:=o.data,slots:=o.slots}:=(hs2.2 x hxs).trans hgx;exact EO (q0 hdn h' _ hx' hn' λb ob hbx hb=>(hs2.2 b (BG (ES hb))).trans (hgo b ob hbx hb))
 ·rw[hdx];apply EO (a:=some dx) (EL (EO (EL ?_)));apply wpAny_nsSet1 (s:={s with toks:=s.toks+1}) hns λh' hn' hs2=>?_;obtain⟨oD,esD,epD,hoD,hdD,hcD⟩:=hn'.count (Jn name v hw);apply EL (Ib hoD (by rw[hdD];exact Ic (Bz hcD (by rw[Bf];omega))) ?_);exact EO (q1 dx hdx h' _ hn' λb ob hbd hb=>(hs2.2 b hbd).trans hb)
end
end L2
namespace L2
open PySem PySem.Spec PySem.Calls PyProof.Rows PySem.W Builtin Builtin.ObjectAttr
section
variable {prog:EU}{w:E4}{A:Fa}{E:EK->EM->Prop}{s:EM}{K:Frag}{x C:Addr}{ox:Obj}{od:Option Obj}{name:Str}{v:EK}{expr:Bool}{Q:EK->EM->Prop}
def sG(X:K.In s.heap)(hga:Ft K (.ref C) "__getattribute__" = some (some (.builtin "BaseException.__getattribute__")))(hg0:Ft K (.ref C) "__getattr__" = some none)(hsub:Jo K (.ref C) (.type "BaseException")=some true)
  (J:InstAt s.heap x ox C od) (hf:findObj K C od name=some (.value v)) (hh:IK v=true) (h:Q v {s with toks:=s.toks+1}):EY (ET prog w) A (I8 (.ref x) name expr) Q E s:=by
 have FB:=PySem.F.attrBase_ValueError;have f3:=FB.ga.bind (.ref x);have L0:=J.type (M:=ET prog w);have L1:=Gn (M:=ET prog w) X hga;have L2:=Gn (M:=ET prog w) X hg0;have L3:=looks_find (M:=ET prog w) X J hf;have L4:Looks (ET prog w) s.heap (GY (.ref x) (.type "BaseException")) true:=L0.andThen (looks_subIn X hsub);obtain⟨hp,g,d,t,os⟩:=s;unfold I8 getAttrBy;apply EL (wpAny_mkText (Fx (EL (L0.at (EL (L1.at ?_))))));have hx2:(FD "BaseException.__getattribute__" == FD "object.__getattribute__")=false:=by decide +kernel
 dsimp only;rw[hx2,CW,if_neg (by decide)];unfold Im hookBefore;rw[if_pos (by rfl)];apply EL (L2.at (EL (GG (Fx ?_))));unfold Ie;rw[show(expr&&onTheHeap (FD "BaseException.__getattribute__"))=false from CW _,if_neg (by decide)];unfold IL;rw[f3];apply EL (EO ?_);show EY _ _ (call (.builtin "BaseException.__getattribute__") [.ref x,.str name t]) _ _ _;apply FS ?_;apply FN FB.ga.plain Io ?_;apply @check_slot (ET prog w) _ _ ⟨hp,g,d,t+1,os⟩ "BaseException.__getattribute__" "BaseException" "__getattribute__" (.ref x) [.str name t] [] _ (by decide +kernel) (by decide +kernel) L4 (IM (.ref x) (.str name t)) ?_;unfold E6.«object.__getattribute__»;apply EL (EO ?_);dsimp only;apply EL (EO (EL (L0.at (EL (L3.at ?_)))));apply EO ?_;show EY _ _ (IY v) _ _ _;rw[handedOut_of hh];exact EO h
def nS{Q:Option EK->EM->Prop}(X:K.In s.heap)(hga:Ft K (.ref C) "__getattribute__" = some (some (.builtin "BaseException.__getattribute__")))(hg0:Ft K (.ref C) "__getattr__" = some none)(hsub:Jo K (.ref C) (.type "BaseException")=some true)
  (J:InstAt s.heap x ox C od) (hf:findObj K C od "__class__" = some (.bind (.builtin "getset_descriptor.__get__") (.builtin "object.__class__"))) (hm:JC K C (.type "object")=some true) (h:Q (some (.ref C)) {s with toks:=s.toks+1}):EY (ET prog w) A (getAttr? (.ref x) "__class__") Q E s:=by
 have FB:=PySem.F.attrBase_ValueError;have f3:=FB.ga.bind (.ref x);have L0:=J.type (M:=ET prog w);have L1:=Gn (M:=ET prog w) X hga;have L2:=Gn (M:=ET prog w) X hg0;have L3:=looks_find (M:=ET prog w) X J hf;have L4:Looks (ET prog w) s.heap (GY (.ref x) (.type "BaseException")) true:=L0.andThen (looks_subIn X hsub);obtain⟨hp,g,d,t,os⟩:=s;unfold getAttr? getAttrBy? getAttrBy;apply EL (wpAny_mkText (EL (GG (Fx (EL (L0.at (EL (L1.at ?_))))))));have hx2:(FD "BaseException.__getattribute__" == FD "object.__getattribute__")=false:=by decide +kernel
 dsimp only;rw[hx2,CW,if_neg (by decide)];unfold Im hookBefore;rw[if_pos (by rfl)];apply EL (L2.at (EL (GG (Fx ?_))));unfold Ie;rw[if_neg (by decide)];unfold IL;rw[f3];apply EL (EO ?_);show EY _ _ (call (.builtin "BaseException.__getattribute__") [.ref x,.str "__class__" t]) _ _ _;apply FS ?_;apply FN FB.ga.plain Io ?_;apply @check_slot (ET prog w) _ _ ⟨hp,g,d,t+1,os⟩ "BaseException.__getattribute__" "BaseException" "__getattribute__" (.ref x) [.str "__class__" t] [] _ (by decide +kernel) (by decide +kernel) L4 (IM (.ref x) (.str "__class__" t)) ?_;unfold E6.«object.__getattribute__»;apply EL (EO ?_);dsimp only;apply EL (EO (EL (L0.at (EL (L3.at ?_)))));show EY _ _ (F3 [FD "object.__class__"] (call (.builtin "getset_descriptor.__get__") [.builtin "object.__class__",.ref x,.ref C]) >>= ret) _ _ _;apply EL (Fx (FS (class_get (s:=⟨hp,g,d,t+1,os⟩) (ox:=ox) (od:=od) X J hm ?_)));apply EO ?_;show EY _ _ (IY (.ref C)) _ _ _;exact handed_on rfl (EO h)
def pT(hga:Ft K (.ref C) "__getattribute__" = some (some (.builtin "BaseException.__getattribute__")))(hg0:Ft K (.ref C) "__getattr__" = some none)(hsub:Jo K (.ref C) (.type "BaseException")=some true)
  (hdct:(Jm K C).isSome=true) (ha:Ft K (.ref C) "__class__" = some (some (.builtin "object.__class__")))
  (hn:Gc K (.builtin "object.__class__") "__get__" = some (some (.builtin "getset_descriptor.__get__"))) (htk:takesIn K (.builtin "object.__class__")=some true) (hm:JC K C (.type "object")=some true) :
  KitX K (.ref x) (.ref C) (λh=>InstAt h x ox C od) where
 ty:=λ_ _ _ I=>I.type
 it:=λ_ _ X _=>by
  unfold Jm at hdct;split at hdct
  ·delta ho;intro A' Q' E' s' k q;unfold isType loadHead;exact EL (IJ (k _ _ (X _ _ ho)) (EO q))
  ·cases hdct
 ne:=λh tp dd its n sl X htp=>by
  apply Bool.eq_false_iff.mpr λq=>?_;have e:C=tp:=Fj.inj (beq_iff_eq.mp q);subst e;unfold Jm at hdct;split at hdct
  ·delta ho;have z:=(X _ _ ho).symm.trans htp;cases z
  ·cases hdct
 ca:=λX I k=>nS X hga hg0 hsub I (by obtain⟨cd,hc⟩:=Ck.mp hdct;dsimp[findObj,hc,ha,hn,htk,C7]) hm k
end
end L2
namespace L2
open PySem PySem.Spec PyProof.Rows
open PySem.W (Frag clsIn findIn subIn specialIn instIn mroIn takesIn InstAt Looks)
abbrev exF(C x:Addr):HO:=.ext λh=>∃t,h.get? x=some (bz C t)
noncomputable abbrev gK(C dx t:Addr):Obj:={cls:=.ref C,dict:=some dx,data:=.fields #[.ref t,.none,.none,.none,.bool false,.none]}
abbrev exD(C dx x:Addr):HO:=.ext λh=>∃t,h.get? x=some (gK C dx t)
def pj{P:EU}{w:E4}{H:Hp}{h:Heap}{C x t:Addr}(e:h.get? x=some (bz C t)):Ec P w H h x (exF C x):=
 ⟨⟨t,e⟩,⟨_,e⟩,λh1 h2 ⟨t,e1⟩ k=>⟨t,k _ e1⟩⟩
def wf{P:EU}{w:E4}{H:Hp}{h:Heap}{C dx x t:Addr}(e:h.get? x=some (gK C dx t)):Ec P w H h x (exD C dx x):=
 ⟨⟨t,e⟩,⟨_,e⟩,λh1 h2 ⟨t,e1⟩ k=>⟨t,k _ e1⟩⟩
def lz{P:EU}{w:E4}{H:Hp}{h:Heap}{C x:Addr}(ok:HOk P w H h)(e:H x=some (exF C x)):∃t,h.get? x=some (bz C t):=(show Ec P w H h x (exF C x)from ok x _ e).1
def ly{P:EU}{w:E4}{H:Hp}{h:Heap}{C dx x:Addr}(ok:HOk P w H h)(e:H x=some (exD C dx x)):∃t,h.get? x=some (gK C dx t):=(show Ec P w H h x (exD C dx x)from ok x _ e).1
abbrev sE(K:Frag) (C:Addr):Bool:=match K.lookup C with
 | some ⟨.type "type",_,.cls cd,sl⟩=>(match cd.mro,sl.toList with
  | .ref C'::bm,[_,_,_,_,some (.builtin n),_]=>C'==C&&n == "ValueError.__new__" && !cd.hasDel&&cd.hasDict&&c8 bm && !bm.contains (.type "AttributeError") && !bm.contains (.type "NameError")&&bm.contains (.type "ValueError")
  | _,_=>false)
 | _=>false
structure ExK(K:Frag)(C:Addr):Prop where
 obj:sE K C=true
 sa:Ft K (.ref C) "__setattr__" = some (some (.builtin "object.__setattr__"))
 ga:Ft K (.ref C) "__getattribute__" = some (some (.builtin "BaseException.__getattribute__"))
 g0:Ft K (.ref C) "__getattr__" = some none
 sub:Jo K (.ref C) (.type "BaseException")=some true
 call:Gc K (.ref C) "__call__" = some (some (.builtin "type.__call__"))
 typ:instIn K (.ref C) (.type "type")=some true
 ca:Ft K (.ref C) "__class__" = some (some (.builtin "object.__class__"))
 cn:Gc K (.builtin "object.__class__") "__get__" = some (some (.builtin "getset_descriptor.__get__"))
 ct:takesIn K (.builtin "object.__class__")=some true
 cm:JC K C (.type "object")=some true
def jG{K:Frag}{C:Addr}(e:sE K C=true):∃nm q N bs bm hdct sn sub ab col dd k0 k1 k2 k3 k5,K.lookup C=some (Hh nm q C N bs bm hdct sn sub ab col dd k0 k1 k2 k3 k5 "ValueError.__new__") /\
  bm.contains (.type "ValueError")=true/\bm.contains (.type "AttributeError")=false/\bm.contains (.type "NameError")=false/\c8 bm=true/\hdct=true:=by
 unfold sE at e;split at e
 ·delta dd cd sl ho;split at e
  ·delta C' bm k0 k1 k2 k3 n k5 hm hs;dsimp[A9,beq_iff_eq,BI]at e;obtain⟨⟨⟨⟨⟨⟨⟨rfl,rfl⟩,hdel⟩,hd⟩,ho'⟩,ha⟩,hn⟩,hv⟩:=e;obtain⟨nm,bs,mro,ns,qn,hdc,sn,sub,ab,col,del⟩:=cd;dsimp only at hm hdel hd;subst hm hdel hd;have hsl:sl = #[k0,k1,k2,k3,some (.builtin "ValueError.__new__"),k5]:=by
    obtain⟨l⟩:=sl;simp only at hs;rw[hs]
   subst hsl;exact⟨nm,qn,ns,bs,bm,true,sn,sub,ab,col,dd,k0,k1,k2,k3,k5,ho,hv,ha,hn,ho',rfl⟩
  ·cases e
 ·cases e
section
variable {X:Cx}{CX:CXT}{k:Nat}{C f:Addr}{fd:Fm}{ps:List Str}{sp:Sp}{E:XK}{Uq:List (Addr×Obj)}{Z:St}{H:Hp}{s:EM}
structure EMk(K:Frag)(C f:Addr):Prop where
 ex:ExK K C
 init:Ft K (.ref C) "__init__" = some (some (.ref f))
 fn:Du K (.ref f)=true
 kp:Cf K (.ref C)=true
def jj{Q:VK}{us:List EK}{vs:List V}(M:EMk X.K C f)(F:Ep X.prog X.w X.K X.mg X.base CX k f fd ps sp)(hr:Eh (k+1) X.A)(hb:Ek X.K fd ps [])(hx:ef CX X E)(I:Inv X Uq Z H s)(r:Vals vs us)(hz:us.length<=sizeLine)
  (h:∀x,H x=none->sp (.ref x::vs) (upd H x (exF C x)) (λv H2=>v=.non/\Q (.ref x) H2) E) :
  EY (ET X.prog X.w) X.A (call (.ref C) us) (EP X Uq Z Q) X.xe s:=by
 have hq:=h (s.heap.objs.size+1) (I.hok.fresh (C2 _));obtain⟨nm,q,N,bs,bm,hdct,sn,sub,ab,col,dd,k0,k1,k2,k3,k5,lk,c1,c2,c3,c4,c5⟩:=jG M.ex.obj;have hget:((s.heap.push (gl us)).push (bz C s.heap.objs.size)).get? (s.heap.objs.size+1)=some (bz C s.heap.objs.size):=by
  have:=E9 (s.heap.push (gl us)) (o:=bz C s.heap.objs.size) rfl;rwa [F5]at this
 have I2:Inv X Uq Z (upd H (s.heap.objs.size+1) (exF C (s.heap.objs.size+1))) {s with heap:=(s.heap.push (gl us)).push (bz C s.heap.objs.size)}:=
  I.laid (t':=s.toks) (λb u e=>EN _ (EN _ e)) (C2 _) (pj hget)
 have r2:Vals (V.ref (s.heap.objs.size+1)::vs) (Fj (s.heap.objs.size+1)::us):=.cons rfl r;have hl:(Fj (s.heap.objs.size+1)::us++[]).length=ps.length:=by
  have e:=r2.length;rw[F.len _ _ _ _ hq]at e;rw[BA];exact e.symm
 have hbb:=hb _ (Fj (s.heap.objs.size+1)::us) I2.kIn hl;rw[BA]at hbb;have Y:=Gk (F.run _ X.stack _ _ ⟨Fj (s.heap.objs.size+1)::us,[]⟩ (Fj (s.heap.objs.size+1)::us) _ _ E (hr.make C us []) (I2.env0.make C us []) hbb r2 hq) (R':=PySem.W.InitBack (s.heap.objs.size+1) (wants (EP X Uq Z Q) X.xe)) λr s' hq'=>?_
 ·apply FS ?_;obtain⟨hp,g,d,t,os⟩:=s;exact pz c1 c2 c3 (I.kIn _ _ lk) hz (PySem.W.looks_specialIn I.kIn M.ex.call) (PySem.W.looks_instIn I.kIn M.ex.typ) (PySem.W.looks_findIn I.kIn M.init) (λself=>PySem.W.bind_fn I.kIn self (beq_iff_eq.mp M.fn)) Y
 ·cases r with
  | error e=>exact hx Uq Z _ _ e s' I2 hq'
  | ok fl=>
   cases fl with
   | ret u=>
    obtain⟨v,H',I3,rv,ev,q3⟩:=I2.after hq';subst ev;exact⟨rv,⟨V.ref (s.heap.objs.size+1),H',I3,rfl,q3⟩⟩
   | next=>exact Fv hq'
   | brk=>exact Fv hq'
   | cont=>exact Fv hq'
end
open PySem.W (Frag clsIn findIn subIn specialIn instIn mroIn takesIn InstAt Looks)
abbrev exX(fs:List (Str×V)) (dx:Addr):HO:=.ext λh=>∃mA,h.Ns1 dx mA/\(∀f,RelO (fs.lookup f) (mA f))/\PySem.Within mA (fs.map (·.1))
def pv{P:EU}{w:E4}{H:Hp}{h:Heap}{dx:Addr}{fs:List (Str×V)}{mA:Str->Option EK}(n:h.Ns1 dx mA)(r:∀f,RelO (fs.lookup f) (mA f))(wi:PySem.Within mA (fs.map (·.1))):Ec P w H h dx (exX fs dx):=
 ⟨⟨mA,n,r,wi⟩,let ⟨o,_,_,e,_⟩:=n;⟨o,e⟩,λh1 h2 ⟨mA,n,q⟩ k=>⟨mA,n.at k,q⟩⟩
def lA{P:EU}{w:E4}{H:Hp}{h:Heap}{dx:Addr}{fs:List (Str×V)}(ok:HOk P w H h)(e:H dx=some (exX fs dx)):∃mA,h.Ns1 dx mA/\(∀f,RelO (fs.lookup f) (mA f))/\PySem.Within mA (fs.map (·.1)):=(show Ec P w H h dx (exX fs dx)from ok dx _ e).1
def ExK.cls{K:Frag}{C:Addr}(x:ExK K C):∃cd,Jm K C=some cd/\c8 cd.mro=true/\cd.hasDict=true:=by
 obtain⟨nm,q,N,bs,bm,hdct,sn,sub,ab,col,dd,k0,k1,k2,k3,k5,lk,c1,c2,c3,c4,c5⟩:=jG x.obj;exact⟨_,by unfold Jm;rw[lk],c4,c5⟩
section
variable {X:Cx}{Uq:List (Addr×Obj)}{Z:St}{H:Hp}{s:EM}{a C dx:Addr}{f:Str}{y v:V}{u:EK}{A:Fa}{E:EK->EM->Prop}{fs:List (Str×V)}
def lx{Q:Unit->EM->Prop}(I:Inv X Uq Z H s)(e:H a=some (exF C a))(ex:ExK X.K C)(n:El X.K C f)(ry:RelV y u)
  (h:∀dx s',H dx=none->dx≠a->Inv X Uq Z (upd (upd H dx (exX [(f,y)] dx)) a (exD C dx a)) s'->Q () s'):EY (ET X.prog X.w) A (setAttr (.ref a) f u) Q E s:=by
 obtain⟨t,hx⟩:=lz I.hok e;obtain⟨cd,c1,c2,c3⟩:=ex.cls;have ha:a<s.heap.objs.size:=ES hx;have hf:H s.heap.objs.size=none:=I.hok.fresh (Bg _);apply iV (mA:=λ_=>none) (ns:=[]) (o:=bz C t) I.kIn c1 c2 c3 ex.sa n hx rfl (λc z=>nomatch z) (.inl rfl) (λy hy=>absurd rfl hy) (by rw[EV];decide) (λ_ h' tk' hx' hn' ho'=>h s.heap.objs.size _ hf (C9 ha) ?_) λdx e=>nomatch e;have hback:(h'.update a λ_=>bz C t).get? a=some (bz C t):=FK _ hx' rfl;have hoth:∀b,b≠a->(h'.update a λ_=>bz C t).get? b=h'.get? b:=λb hb=>Gj _ _ _ _ hb;have I1:Inv X Uq Z (upd H s.heap.objs.size (exX [(f,y)] s.heap.objs.size)) {s with heap:=h'.update a λ_=>bz C t,toks:=tk'}:=by
  apply I.laid (t':=tk') (λb o q=>?_) (Bg _) (pv (mA:=λy=>if y=f then some u else none) ?_ (λg=>?_) λg hg=>?_)
  ·by_cases hb:b=a;subst hb;rw[hx]at q;cases q;exact hback;rw[hoth b hb];exact ho' b o hb q
  ·exact hn'.at λo q=>by rw[hoth _ (C9 ha)];exact q
  ·by_cases q:g=f;subst q;rw[if_pos rfl,Bs,beq_self_eq_true];exact ry;rw[if_neg q,Bs,beq_eq_false_iff_ne.mpr q];trivial
  ·by_cases q:g=f;subst q;exact ymS;exact absurd (if_neg q) hg
 have hH:(upd H s.heap.objs.size (exX [(f,y)] s.heap.objs.size)) a=some (exF C a):=by rw[upd_ne (BG ha)];exact e
 exact I1.write (t':=tk') (x:=a) (e:=a) (by rw[hH];trivial) (.inl rfl) (λb o hb q=>by rw[hoth b hb]at q;exact q) ⟨_,hx'⟩ (wf hx')
def nR{Q:Unit->EM->Prop}(I:Inv X Uq Z H s)(e:H a=some (exD C dx a))(ed:H dx=some (exX fs dx))(hne:dx≠a)(ex:ExK X.K C)(n:El X.K C f)(hl:fs.length<1000)(ry:RelV y u)
  (h:∀s',Inv X Uq Z (upd H dx (exX (gr f y fs) dx)) s'->Q () s'):EY (ET X.prog X.w) A (setAttr (.ref a) f u) Q E s:=by
 obtain⟨t,hx⟩:=ly I.hok e;obtain⟨mA,hn,r,wi⟩:=lA I.hok ed;obtain⟨cd,c1,c2,c3⟩:=ex.cls;apply iV (mA:=mA) (ns:=fs.map (·.1)) (o:=gK C dx t) I.kIn c1 c2 c3 ex.sa n hx rfl (λc z=>nomatch z) (.inr ⟨dx,rfl,hne,hn⟩) wi (by rw[Br,EV];omega) (λz=>nomatch z) λdx' e' h' tk' hn' ho'=>h _ ?_;cases e';apply I.write (t':=tk') (x:=dx) (e:=dx) (by rw[ed];trivial) (.inl rfl) ho' (let ⟨o,_,_,q,_⟩:=hn';⟨o,q⟩) (pv hn' (λg=>?_) λg hg=>?_)
 ·rw[gb];by_cases q:g=f;rw[if_pos q,if_pos q];exact ry;rw[if_neg q,if_neg q];exact r g
 ·by_cases q:g=f;rw[q];exact(fw f y fs).1
  ·apply(fw f y fs).2 g (wi g λz=>hg ?_);show(if g=f then some u else mA g)=none;rw[if_neg q];exact z
def sC{b:Bool}{Q:EK->EM->Prop}(I:Inv X Uq Z H s)(e:H a=some (exD C dx a))(ed:H dx=some (exX fs dx))(ex:ExK X.K C)(n:El X.K C f)(l:fs.lookup f=some v)
  (h:∀u s',Inv X Uq Z H s'->RelV v u->Q u s'):EY (ET X.prog X.w) A (I8 (.ref a) f b) Q E s:=by
 obtain⟨t,hx⟩:=ly I.hok e;obtain⟨mA,hn,r,wi⟩:=lA I.hok ed;obtain⟨u,hu,ru⟩:=RelO.some_of (v:=v) (o:=mA f) (by rw[<-l];exact r f);obtain⟨cd,c1,c2,c3⟩:=ex.cls;obtain⟨od,h1,hl⟩:=iZ hn;exact sG I.kIn ex.ga ex.g0 ex.sub (ox:=gK C dx t) (od:=some od) ⟨hx,rfl,rfl,h1⟩ (v:=u) (PySem.W.findObj_own (by unfold Ds;rw[c1];exact c3) n rfl (by rw[hl,hu])) (nW ru) (h u _ (I.tok _) ru)
def pc{c:EK}{b:Bool}{Q:EK->EM->Prop}(I:Inv X Uq Z H s)(e:H a=some (exF C a) \/ ∃dx fs,H a=some (exD C dx a)/\H dx=some (exX fs dx))(ex:ExK X.K C)(k:B7 X.K (.ref C) c=some b)(h:∀tk,Q (.bool b) {s with toks:=tk}) :
  EY (ET X.prog X.w) A (call (.builtin "isinstance") [.ref a,c]) Q E s:=by
 have J:∃ox od,InstAt s.heap a ox C od:=by
  rcases e with e|⟨dx,fs,e,ed⟩
  ·obtain⟨t,hx⟩:=lz I.hok e;exact⟨_,none,hx,rfl,rfl,trivial⟩
  ·obtain⟨t,hx⟩:=ly I.hok e;obtain⟨mA,hn,_⟩:=lA I.hok ed;obtain⟨od,h1,_⟩:=iZ hn;exact⟨_,some od,hx,rfl,rfl,h1⟩
 obtain⟨ox,od,J⟩:=J;obtain⟨cd,c1,_⟩:=ex.cls;exact DN (pT ex.ga ex.g0 ex.sub (by rw[c1];rfl) ex.ca ex.cn ex.ct ex.cm) I.kIn J k (λz=>nomatch z) h
end
end L2
namespace L2
open PySem PySem.Spec PySem.Calls PyProof.Rows PySem.W Builtin Builtin.ObjectAttr
def uJ{K:Frag}:Jc K (.type "ValueError") (.type "type") "__init__" = some (.val (.builtin "ValueError.__init__")):=by rfl'
def vR:Hf (.type "ValueError")=pure (.type "type"):=by rfl'
def Aq{K:Frag}:Ft K (.type "type") "__getattribute__" = some (some (.builtin "type.__getattribute__")):=by rfl'
def yi{K:Frag}:Jo K (.type "type") (.type "type")=some true:=by rfl'
def As:IX (.type "ValueError") "__getattribute__" = pure (some (.builtin "type.__getattribute__")):=by
 show Hf (.type "ValueError") >>= _=_;rw[vR,pure_bind,typeLookup_type,builtinLookup_eq_fast]
 rfl'
def Ar:opaqueClassAbove (.type "ValueError")=pure none:=by rfl'
def uK{prog:EU}{w:E4}{A:Fa}{E:EK->EM->Prop}{s:EM}{K:Frag}{pl:Sem Bool}{Q:EK×List EK->EM->Prop}(X:K.In s.heap)(h:Q (.builtin "ValueError.__init__",[]) {s with toks:=s.toks+1}) :
  EY (ET prog w) A (Hl (.type "ValueError") "__init__" pl) Q E s:=by
 unfold Hl;apply EL (wpAny_of_eq As ?_);dsimp only;rw[if_pos canon_tga];apply EL (cls_open X (Looks.of_pure Ar) (Looks.of_pure vR) Aq (Looks.of_pure (r:=none) (by rfl')) yi uJ ?_);apply EO ?_;show EY _ _ (IY (.builtin "ValueError.__init__")) _ _ _;exact handed_on (by rfl') (EO h)
section
variable {X:Cx}{CX:CXT}{k:Nat}{C f:Addr}{fd:Fm}{ps:List Str}{sp:Sp}{E:XK}{e o:Expr}{es:List Expr}{t:TA}{te ta tv:TE}{x:Str}{p ap pos:Pos}
abbrev r6(C:Addr)(sp:Sp)(E:XK)(t:TA):TE:=λZ H Q=>t Z H λvs H1=>vs.length<=100/\∀x,H1 x=none->sp (.ref x::vs) (upd H1 x (exF C x)) (λv H2=>v=.non/\Q (.ref x) H2) E
def qw(M:EMk X.K C f)(F:Ep X.prog X.w X.K X.mg X.base CX k f fd ps sp)(hr:Eh (k+1) X.A)(hg:Gl X x)(hm:X.mg x=some (.ref C))(hb:Ek X.K fd ps [])(hx:ef CX X E)
  (ha:PA X (e::es) t) (hn:aT (e::es)=true) (hdb:(x==("__debug__" : Str))=false:=by decide):PE X (.Call (.Name x p) (e::es) [] pos) (r6 C sp E t):=by
 rw[aT,A9]at hn;intro Uq s Z H Q I h;apply FG (eT I hg hm ?_ hdb);apply CU (h₀:=X.base) I.ok.mod.kin M.kp (thn (ha pos Uq s Z H _ I h) λus s1 ⟨vs,H1,I1,r,hz,q⟩=>⟨I1.kIn,?_⟩) (aV (by exists hn.1)) (bC hn.2);exact jj (us:=us) M F hr hb hx I1 r (by rw[<-r.length,EV];omega) q
def ou(M:EMk X.K C f)(F:Ep X.prog X.w X.K X.mg X.base CX k f fd ps sp)(hr:Eh (k+1) X.A)(hg:Gl X x)(hm:X.mg x=some (.ref C))(hb:Ek X.K fd ps [])(hx:ef CX X E)
  (hdb:(x==("__debug__" : Str))=false:=by decide):PE X (.Call (.Name x p) [] [] pos) (r6 C sp E uG):=by
 intro Uq s Z H Q I h;apply FG (eT I hg hm ?_ hdb);exact PySem.W.callWith_K0 I.kIn M.kp (jj (us:=[]) M F hr hb hx I .nil (by rw[EV];decide) h.2)
abbrev yb(K:Frag)(t:TA):TE:=λZ H Q=>t Z H λvs H1=>∃a C,vs=[.ref a]/\H1 a=some (exF C a)/\ExK K C/\Q .non H1
def yh{H:Hp}{a:Addr}{o:HO}(e:H a=some o):upd H a o=H:=by
 funext b;by_cases hb:b=a;subst hb;rw[aq,e];rw[upd_ne hb]
def qB{pl:Sem Bool}(hg:Gl X "ValueError")(hm:X.mg "ValueError" = none)(ha:PA X [e] t)(hs:bo e=false)
  (ht:eval (.Call (.Attribute (.Name "ValueError" p) "__init__" ap) [e] [] pos) X.env=(do
   let ov <-eval (.Name "ValueError" p) X.env
   GP ap.atName
   let (f,first) <-F3 [ov] (Hl ov "__init__" pl)
   Jp pos f first (FM pos (E5 [e] X.env)) (HI pos (Gy [] X.env))):=by rfl) :
  PE X (.Call (.Attribute (.Name "ValueError" p) "__init__" ap) [e] [] pos) (yb X.K t):=by
 intro Uq s Z H Q I h;apply Dj (pl:=pl) (fB (u:=.type "ValueError") I hg hm (by rfl') ?_) ht;apply uK I.kIn ?_;apply CM (thn (ha pos Uq _ Z H _ (I.tok _) h) λus s1 ⟨vs,H1,I1,r,a,C,ev,ea,ex,q⟩=>?_) (aV hs) rfl;subst ev;obtain⟨u,rfl,ru⟩:=fj r;cases ru;obtain⟨b,hx⟩:=lz I1.hok ea;obtain⟨nm,qn,N,bs,bm,hdct,sn,sub,ab,col,dd,k0,k1,k2,k3,k5,lk,c1,c2,c3,c4,c5⟩:=jG ex.obj;obtain⟨hp,g,d,tk,os⟩:=s1;apply pw c1 (I1.kIn _ _ lk) hx λh' hx' ho'=>⟨.non,H1,?_,rfl,q⟩;have:=I1.write (t':=tk) (x:=a) (e:=a) (o:=exF C a) (h':=h') (by rw[ea];trivial) (.inl rfl) (λb o hb q=>ho' b o hb q) ⟨_,hx'⟩ (pj hx');rw[yh ea]at this;exact this
def qv{pl:Sem Bool}{B:Addr}{mc:EK}(hg:Gl X x)(hm:X.mg x=some (.ref B))(h1:Gc X.K (.ref B) "__getattribute__" = some (some (.builtin "type.__getattribute__")))(h2:readsIn X.K B mc=true)(h3:Jc X.K (.ref B) mc "__init__" = some (.val (.ref f)))
  (kp:Jd X.K (.ref f)=true) (hh:IK (.ref f)=true) (F:Ep X.prog X.w X.K X.mg X.base CX k f fd ps sp) (hr:Eh k X.A) (hb:Ek X.K fd ps []) (hx:ef CX X E) (ha:PA X [e] t) (hs:bo e=false) (hdb:(x==("__debug__" : Str))=false:=by decide)
  (ht:eval (.Call (.Attribute (.Name x p) "__init__" ap) [e] [] pos) X.env=(do
   let ov <-eval (.Name x p) X.env
   GP ap.atName
   let (f,first) <-F3 [ov] (Hl ov "__init__" pl)
   Jp pos f first (FM pos (E5 [e] X.env)) (HI pos (Gy [] X.env))):=by rfl) :
  PE X (.Call (.Attribute (.Name x p) "__init__" ap) [e] [] pos) (gj sp [] E t):=by
 intro Uq s Z H Q I h;apply Dj (pl:=pl) (eT I hg hm ?_ hdb) ht;apply method_cls I.kIn h1 (cls_value I.kIn h2 h3 hh ?_);have I':=I.tok (s.toks+1);apply CU (first:=[]) (h₀:=X.base) I.ok.mod.kin kp (thn (ha pos Uq _ Z H _ I' h) λus s2 ⟨vs,H2,I2,r,q2⟩=>⟨I2.kIn,?_⟩) (aV hs) rfl;exact rP (us:=us) (vs:=vs) F hr hb .nil hx I2 r q2
end
end L2
namespace L2
open PySem PySem.Spec PyProof.Rows
open PySem.W (Frag clsIn findIn subIn specialIn instIn mroIn takesIn InstAt Looks keepIn readsIn findCls handedIn)
abbrev Ad(K:Frag)(ta tv:TE)(f:Str):TS:=λD Z H=>tv Z H λy H1=>ta Z H1 λx H2=>∃a C,x=.ref a/\ExK K C/\El K C f /\
 ((H2 a=some (exF C a)/\∀dx,H2 dx=none->dx≠a->D.nx Z (upd (upd H2 dx (exX [(f,y)] dx)) a (exD C dx a))) \/
  ∃dx fs,H2 a=some (exD C dx a)/\H2 dx=some (exX fs dx)/\dx≠a/\fs.length<1000/\D.nx Z (upd H2 dx (exX (gr f y fs) dx)))
abbrev Ae(K:Frag)(ta:TE)(f:Str):TE:=λZ H Q=>ta Z H λx H1=>∃a C dx fs v,x=.ref a/\H1 a=some (exD C dx a)/\H1 dx=some (exX fs dx)/\ExK K C/\El K C f/\fs.lookup f=some v/\Q v H1
section
variable {X:Cx}{o e value:Expr}{f:Str}{pos pos':Pos}{ta tv:TE}
def jV(ha:PE X o ta)(hv:PE X value tv)(hs:F9 value (some (.Attribute o f pos')) pos.line X.env=pure false):PS X (.Assign [.Attribute o f pos'] value pos) (Ad X.K ta tv f):=by
 intro Uq s Z H D I h;apply plainObj_wpAny_Assign_Attribute (thn (hv Uq s Z H _ I h) λu s1 ⟨y,H1,I1,ry,q⟩=>thn (ha Uq s1 Z H1 _ I1 q) λov s2 ⟨x,H2,I2,rx,a,C,ex,ek,n,q2⟩=>?_) hs;subst ex;obtain rfl:ov=Fj a:=rx;rcases q2 with⟨ea,q2⟩|⟨dx,fs,ea,ed,ne,l,q2⟩;exact lx I2 ea ek n ry λdx s3 hd hne I3=>⟨Z,_,I3,q2 dx hd hne⟩;exact nR I2 ea ed ne ek n l ry λs3 I3=>⟨Z,_,I3,q2⟩
def tR(he:PE X e ta)(hb:FF e f X.env (eval e X.env)=eval e X.env):PE X (.Attribute e f pos) (Ae X.K ta f):=by
 intro Uq s Z H Q I h;apply sw hb (thn (he Uq s Z H _ I h) λu s1 ⟨x,H1,I1,rx,a,C,dx,fs,v,ex,ea,ed,c,n,l,q⟩=>?_);subst ex;obtain rfl:u=Fj a:=rx;exact sC I1 ea ed c n l λu' s2 I2 ru=>⟨v,H1,I2,ru,q⟩
end
abbrev kc(K:Frag):Sp:=λvs H Q _=>∃a C,vs=[.ref a]/\H a=some (exF C a)/\ExK K C/\Q .non H
abbrev vI(K:Frag)(F:Str)(spk:Sp):Sp:=λvs H Q _=>∃a C v,vs=[.ref a,v]/\H a=some (exF C a)/\ExK K C/\El K C F /\
 spk [v] H (λw H1=>H1 a=some (exF C a)/\∀dx,H1 dx=none->dx≠a->Q .non (upd (upd H1 dx (exX [(F,w)] dx)) a (exD C dx a))) E0
abbrev vJ(K:Frag)(F G:Str)(spk:Sp):Sp:=λvs H Q _=>∃a C v u,vs=[.ref a,v,u]/\H a=some (exF C a)/\ExK K C/\El K C F/\El K C G /\
 spk [v] H (λw H1=>H1 a=some (exF C a)/\∀dx,H1 dx=none->dx≠a->spk [u] (upd (upd H1 dx (exX [(F,w)] dx)) a (exD C dx a)) (λz H2=>H2 a=some (exD C dx a)/\H2 dx=some (exX [(F,w)] dx)/\Q .non (upd H2 dx (exX [(F,w),(G,z)] dx))) E0) E0
abbrev lm(sp:Sp):Prop:=∀vs H (Q Q':VK) E,sp vs H Q E->(∀v H',Q v H'->Q' v H')->sp vs H Q' E
abbrev be(o:Str)(e:Expr)(p1 p2 p4:Pos):Prop:=∀env:Env,∃pl:Sem Bool,eval (.Call (.Attribute (.Name o p1) "__init__" p2) [e] [] p4) env=(do
 let ov <-eval (.Name o p1) env
 GP p2.atName
 let (f,first) <-F3 [ov] (Hl ov "__init__" pl)
 Jp p4 f first (FM p4 (E5 [e] env)) (HI p4 (Gy [] env)))
structure CIn(K:Frag)(B f:Addr):Prop where
 sp:Gc K (.ref B) "__getattribute__" = some (some (.builtin "type.__getattribute__"))
 rd:readsIn K B (.type "type")=true
 fc:Jc K (.ref B) (.type "type") "__init__" = some (.val (.ref f))
 kp:Jd K (.ref f)=true
 hh:IK (.ref f)=true
section
variable {P:EU}{W:E4}{K:Frag}{mg:Str->Option EK}{base:Heap}{k j:Nat}{f g:Addr}{fd gd:Fm}{st:Stmt}{qn:Str}{p1 p2 p3 p4 p5 p6 p7 p8 p9 p10 p11 p12 p13 p14 p15 p16 p17:Pos}{spk:Sp}{A B:Str}{F G:Str}{HE:Addr}
def sV(Fn:Fun K "__init__" qn st f fd)(S:vx ["self"] ["self"] (ae st))(hB:aE st=[.Expr (.Call (.Attribute (.Name "ValueError" p1) "__init__" p2) [.Name "self" p3] [] p4) p5])(hm:mg "ValueError" = none)
  (hg:(ae st).names.lookup (ER "ValueError")=some .globalImplicit) (hv:Vis (ae st) "self") (ht:be "ValueError" (.Name "self" p3) p1 p2 p4):Ep P W K mg base CX0 (k+1) f fd ["self"] (kc K):=by
 apply Fn.ok S (λvs H Q E ⟨a,C,e,_⟩=>by rw[e];rfl) λcdv A outer s H vs Q E hr h=>?_;obtain⟨a,C,rfl,ea,ex,q⟩:=h;rw[hB];obtain⟨pl,e⟩:=ht (eN CX0 P W K mg base ["self"] qn (ae st) f cdv A outer s H E).nox.env;exact⟨_,dU (gA (qB hg hm (dS (bS (i:=0) rfl hv) de) rfl e)),.ref a,rfl,a,C,rfl,ea,ex,q⟩
def jy{X:Cx}(hK:X.K=K)(hP:X.prog=P)(hW:X.w=W)(hM:X.mg=mg)(hbs:X.base=base)(hr:Eh k X.A)(ci:CIn K HE g)(FH:Ep P W K mg base CX0 k g gd ["self"] (kc K))(hb:Ek K gd ["self"] [])(hm:mg "HouseError" = some (.ref HE))(hg:Gl X "HouseError"){i:Nat}(hN:X.N[i]?=some "self")(hv:Vis X.env.scope "self")(ht:be "HouseError" (.Name "self" p3) p1 p2 p4) :
  PS X (.Expr (.Call (.Attribute (.Name "HouseError" p1) "__init__" p2) [.Name "self" p3] [] p4) p5) (nD (gj (kc K) [] E0 (lg (l4 i) uG))):=by
 subst hK hP hW hM hbs;obtain⟨pl,e⟩:=ht X.env;exact gA (qv hg hm ci.sp ci.rd ci.fc ci.kp ci.hh FH hr hb mU (dS (bS hN hv) de) rfl (by decide) e)
def wq(Fn:Fun K "__init__" qn st f fd)(S:vx ["self"] ["self"] (ae st))(hB:aE st=[.Expr (.Call (.Attribute (.Name "HouseError" p1) "__init__" p2) [.Name "self" p3] [] p4) p5])(ci:CIn K HE g)(FH:Ep P W K mg base CX0 k g gd ["self"] (kc K))(hb:Ek K gd ["self"] [])(hm:mg "HouseError" = some (.ref HE))
  (hg:(ae st).names.lookup (ER "HouseError")=some .globalImplicit) (hv:Vis (ae st) "self") (ht:be "HouseError" (.Name "self" p3) p1 p2 p4):Ep P W K mg base CX0 (k+1) f fd ["self"] (kc K):=by
 apply Fn.ok S (λvs H Q E ⟨a,C,e,_⟩=>by rw[e];rfl) λcdv A outer s H vs Q E hr h=>?_;obtain⟨a,C,rfl,ea,ex,q⟩:=h;rw[hB];exact⟨_,dU (jy (X:=(eN CX0 P W K mg base ["self"] qn (ae st) f cdv A outer s H E).nox) rfl rfl rfl rfl rfl hr ci FH hb hm hg (i:=0) rfl hv ht),.ref a,rfl,a,C,rfl,ea,ex,q⟩
def wr(Fn:Fun K "__init__" qn st f fd)(S:vx ["self",A] ["self",A] (ae st))(hB:aE st=[.Expr (.Call (.Attribute (.Name "HouseError" p1) "__init__" p2) [.Name "self" p3] [] p4) p5,.Assign [.Attribute (.Name "self" p6) F p7] (.Call (.Name "kept" p8) [.Name A p9] [] p10) p11])(ci:CIn K HE g)(FH:Ep P W K mg base CX0 k g gd ["self"] (kc K))(hb:Ek K gd ["self"] [])(hm:mg "HouseError" = some (.ref HE))
  (hk:Has P W K mg base k "kept" ["thing"] spk) (mo:lm spk) (hg:(ae st).names.lookup (ER "HouseError")=some .globalImplicit) (hg2:(ae st).names.lookup (ER "kept")=some .globalImplicit) (hv:Vis (ae st) "self") (hva:Vis (ae st) A) (hA1:(A==("__debug__" : Str))=false) (hA2:(A==("__classdict__" : Str))=false) (ht:be "HouseError" (.Name "self" p3) p1 p2 p4) :
  Ep P W K mg base CX0 (k+1) f fd ["self",A] (vI K F spk):=by
 apply Fn.ok S (λvs H Q E ⟨a,C,v,e,_⟩=>by rw[e];rfl) λcdv A' outer s H vs Q E hr h=>?_;obtain⟨a,C,v,rfl,ea,ex,n,q⟩:=h;rw[hB];apply⟨_,eX (jy (X:=(eN CX0 P W K mg base ["self",A] qn (ae st) f cdv A' outer s H E).nox) rfl rfl rfl rfl rfl hr ci FH hb hm hg (i:=0) rfl hv ht) (dU (jV (bS (i:=0) rfl hv) (mW hk hr hg2 (dS (bS (i:=1) rfl hva hA1 hA2) de)) rfl)),?_⟩;apply⟨.ref a,rfl,a,C,rfl,ea,ex,?_⟩;exact⟨v,rfl,mo _ _ _ _ _ q λw H1 ⟨e1,q1⟩=>⟨.ref a,rfl,a,C,rfl,ex,n,.inl ⟨e1,q1⟩⟩⟩
def wt(Fn:Fun K "__init__" qn st f fd)(S:vx ["self",A,B] ["self",A,B] (ae st))(hB:aE st=[.Expr (.Call (.Attribute (.Name "HouseError" p1) "__init__" p2) [.Name "self" p3] [] p4) p5,.Assign [.Attribute (.Name "self" p6) F p7] (.Call (.Name "kept" p8) [.Name A p9] [] p10) p11,.Assign [.Attribute (.Name "self" p12) G p13] (.Call (.Name "kept" p14) [.Name B p15] [] p16) p17])(ci:CIn K HE g)(FH:Ep P W K mg base CX0 k g gd ["self"] (kc K))(hb:Ek K gd ["self"] [])(hm:mg "HouseError" = some (.ref HE))
  (hk:Has P W K mg base k "kept" ["thing"] spk) (mo:lm spk) (hFG:F≠G) (hg:(ae st).names.lookup (ER "HouseError")=some .globalImplicit) (hg2:(ae st).names.lookup (ER "kept")=some .globalImplicit) (hv:Vis (ae st) "self") (hva:Vis (ae st) A) (hA1:(A==("__debug__" : Str))=false) (hA2:(A==("__classdict__" : Str))=false) (hvb:Vis (ae st) B) (hB1:(B==("__debug__" : Str))=false) (hB2:(B==("__classdict__" : Str))=false) (ht:be "HouseError" (.Name "self" p3) p1 p2 p4) :
  Ep P W K mg base CX0 (k+1) f fd ["self",A,B] (vJ K F G spk):=by
 apply Fn.ok S (λvs H Q E ⟨a,C,v,u,e,_⟩=>by rw[e];rfl) λcdv A' outer s H vs Q E hr h=>?_;obtain⟨a,C,v,u,rfl,ea,ex,n,n2,q⟩:=h;rw[hB];apply⟨_,eX (jy (X:=(eN CX0 P W K mg base ["self",A,B] qn (ae st) f cdv A' outer s H E).nox) rfl rfl rfl rfl rfl hr ci FH hb hm hg (i:=0) rfl hv ht) (eX (jV (bS (i:=0) rfl hv) (mW hk hr hg2 (dS (bS (i:=1) rfl hva hA1 hA2) de)) rfl) (dU (jV (bS (i:=0) rfl hv) (mW hk hr hg2 (dS (bS (i:=2) rfl hvb hB1 hB2) de)) rfl))),?_⟩;apply⟨.ref a,rfl,a,C,rfl,ea,ex,?_⟩;apply⟨v,rfl,mo _ _ _ _ _ q λw H1 ⟨e1,q1⟩=>⟨.ref a,rfl,a,C,rfl,ex,n,.inl ⟨e1,λdx hd hne=>?_⟩⟩⟩;apply⟨u,rfl,mo _ _ _ _ _ (q1 dx hd hne) λz H2 ⟨e2,e3,q2⟩=>⟨.ref a,rfl,a,C,rfl,ex,n2,.inr ⟨dx,[(F,w)],e2,e3,hne,(show 1<1000 by decide),?_⟩⟩⟩;have:gr G z [(F,w)]=[(F,w),(G,z)]:=by show(if F=G then _ else _)=_;rw[if_neg hFG];rfl
 rw[this];exact q2
end
inductive I where
 | non|bl (b:Bool)|int (i:Int)|str (x:Str)|tup (is:List I)|ls (is:List I)
 | fd (ks:List Key) (is:List I)
 | exn (x:Str) (ks:List Str) (is:List I)
mutual
def I.beq:I->I->Bool
 | .non,.non=>true
 | .bl a,.bl b=>a==b
 | .int a,.int b=>decide (a=b)
 | .str a,.str b=>decide (a=b)
 | .tup a,.tup b=>I.beqs a b
 | .ls a,.ls b=>I.beqs a b
 | .fd k a,.fd j b=>decide (k=j)&&I.beqs a b
 | .exn x k a,.exn y j b=>decide (x=y/\k=j)&&I.beqs a b
 | _,_=>false
def I.beqs:List I->List I->Bool
 | [],[]=>true
 | a::as,b::bs=>I.beq a b&&I.beqs as bs
 | _,_=>false
end
mutual
theorem I.beq_iff:∀{a b:I},I.beq a b=true↔a=b
 | .non,b=>by cases b<;>simp[I.beq]
 | .bl x,b=>by cases b<;>simp[I.beq]
 | .int x,b=>by cases b<;>simp[I.beq]
 | .str x,b=>by cases b<;>simp[I.beq]
 | .tup x,b=>by
  cases b with
  | tup y=>rw[I.beq,I.beqs_iff,I.tup.injEq]
  | _=>simp[I.beq]
 | .ls x,b=>by
  cases b with
  | ls y=>rw[I.beq,I.beqs_iff,I.ls.injEq]
  | _=>simp[I.beq]
 | .fd k x,b=>by
  cases b with
  | fd j y=>rw[I.beq,A9,I.beqs_iff,I.fd.injEq,decide_eq_true_iff]
  | _=>simp[I.beq]
 | .exn z k x,b=>by
  cases b with
  | exn w j y=>rw[I.beq,A9,I.beqs_iff,I.exn.injEq,decide_eq_true_iff,and_assoc]
  | _=>simp[I.beq]
theorem I.beqs_iff:∀{a b:List I},I.beqs a b=true↔a=b
 | [],b=>by cases b<;>simp[I.beqs]
 | x::xs,b=>by
  cases b with
  | nil=>simp[I.beqs]
  | cons y ys=>rw[I.beqs,A9,I.beq_iff,I.beqs_iff,CH.injEq]
end
instance:DecidableEq I:=λa b=>decidable_of_iff (I.beq a b=true) I.beq_iff
inductive T where
 | im (i:I)|tup (ts:List T)|li (is:List I)|lst (ts:List T)|di (kvs:List (I×I))|dc (kvs:List (I×T))|ins (C:Addr) (fs:List (Str×T))
abbrev jM:Key->I
 | .inl i=>.int i
 | .inr x=>.str x
abbrev DAt(K:yF)(H:Hp)(a:Addr)(ks:List (I×V)):Prop:=∃ys:List (Key×V),H a=some (.dK ys)/\ks=ys.map λp=>(jM p.1,p.2)
mutual
def RpI(K:yF)(H:Hp):I->V->Prop
 | .non,v=>v=.non
 | .bl b,v=>v=.bl b
 | .int i,v=>v=.int i
 | .str x,v=>v=.str x
 | .tup is,v=>∃a xs,v=.ref a/\SqT K H a xs/\td K H is xs
 | .ls is,v=>∃a o xs,v=.ref a/\H a=some (.frz o (.lst xs))/\td K H is xs
 | .fd ks is,v=>∃a o ys,v=.ref a/\H a=some (.frz o (.dK ys))/\ys.map (·.1)=ks/\td K H is (ys.map (·.2))
 | .exn x ks is,v=>∃C a,v=.ref a/\BP K E3 x=some (some (.ref C))/\(ks=[]/\is=[]/\H a=some (exF C a) \/ ∃dx ys,H a=some (exD C dx a)/\H dx=some (exX ys dx)/\ys.map (·.1)=ks/\td K H is (ys.map (·.2)))
def td(K:yF)(H:Hp):List I->List V->Prop
 | [],xs=>xs=[]
 | t::ts,xs=>∃x r,xs=x::r/\RpI K H t x/\td K H ts r
end
mutual
def Rp(K:yF)(H:Hp):T->V->List Addr->Prop
 | .im i,v,F=>RpI K H i v/\F=[]
 | .tup ts,v,F=>∃a xs,v=.ref a/\SqT K H a xs/\Rps K H ts xs F
 | .li is,v,F=>∃a xs,v=.ref a/\Rd H a (.lst xs)/\td K H is xs/\F=[a]
 | .lst ts,v,F=>∃a xs F',v=.ref a/\Rd H a (.lst xs)/\Rps K H ts xs F'/\F=a::F'
 | .di kvs,v,F=>∃a ys,v=.ref a/\DAt K H a ys/\td K H (kvs.map (·.2)) (ys.map (·.2))/\ys.map (·.1)=kvs.map (·.1)/\F=[a]
 | .dc kvs,v,F=>∃a ys F',v=.ref a/\DAt K H a ys/\Rpk K H kvs ys F'/\F=a::F'
 | .ins C fs,v,F=>∃a dx ys F',v=.ref a/\H a=some (.ins C dx ys)/\Rpf K H fs ys F'/\F=a::F'
def Rps(K:yF)(H:Hp):List T->List V->List Addr->Prop
 | [],xs,F=>xs=[]/\F=[]
 | t::ts,xs,F=>∃x r F1 F2,xs=x::r/\Rp K H t x F1/\Rps K H ts r F2/\F=F1++F2
def Rpk(K:yF)(H:Hp):List (I×T)->List (I×V)->List Addr->Prop
 | [],xs,F=>xs=[]/\F=[]
 | (k,t)::ts,xs,F=>∃x r F1 F2,xs=(k,x)::r/\Rp K H t x F1/\Rpk K H ts r F2/\F=F1++F2
def Rpf(K:yF)(H:Hp):List (Str×T)->List (Str×V)->List Addr->Prop
 | [],xs,F=>xs=[]/\F=[]
 | (k,t)::ts,xs,F=>∃x r F1 F2,xs=(k,x)::r/\Rp K H t x F1/\Rpf K H ts r F2/\F=F1++F2
end
abbrev AQ:HO->Bool
 | .lst _=>true|.dK _=>true|.dT _=>true|.ins _ _ _=>true|_=>false
abbrev Mu(H:Hp)(a:Addr):Prop:=∃o,H a=some o/\AQ o=true
abbrev Ed(M:List Addr)(H H':Hp):Prop:=∀b o,H b=some o->b∉M->H' b=some o
def Ei.offM{H H':Hp}(s:Ei H H')(M:List Addr):Ed M H H':=λb o h _=>s b o h
def Ed.refl(M:List Addr)(H:Hp):Ed M H H:=λb o h _=>h
def Ed.mono{M M':List Addr}{H H1:Hp}(x:Ed M H H1)(y:∀a∈M,a∈M'):Ed M' H H1:=λb o h n=>x b o h λz=>n (y b z)
def Ed.upd{H:Hp}{a:Addr}{o:HO}:Ed [a] H (upd H a o):=λb u h n=>by rw[upd_ne (by exists n)];exact h
def Ed.rd{M:List Addr}{H H':Hp}{a:Addr}{o:HO}(x:Ed M H H')(n:a∉M)(h:Rd H a o):Rd H' a o:=by
 rcases h with h|⟨u,h⟩;exact .inl (x a _ h n);exact .inr ⟨u,x a _ h n⟩
def Ed.sqT{K:yF}{M:List Addr}{H H':Hp}{a:Addr}{xs:List V}(x:Ed M H H')(hM:∀b∈M,Mu H b)(h:SqT K H a xs):SqT K H' a xs:=by
 rcases h with(h|⟨u,h⟩)|h;exact .inl (.inl (x a _ h λz=>by obtain⟨o,e,m⟩:=hM a z;rw[h]at e;cases e;cases m));exact .inl (.inr ⟨u,x a _ h λz=>by obtain⟨o,e,m⟩:=hM a z;rw[h]at e;cases e;cases m⟩);exact .inr h
def DAt.off{K:yF}{M:List Addr}{H H':Hp}{a:Addr}{ks:List (I×V)}(x:Ed M H H')(n:a∉M)(h:DAt K H a ks):DAt K H' a ks:=by
 obtain⟨ys,h1,h2⟩:=h;exact⟨ys,x a _ h1 n,h2⟩
def DAt.dom{K:yF}{H:Hp}{a:Addr}{ks:List (I×V)}(h:DAt K H a ks):∃o,H a=some o:=by
 obtain⟨ys,h1,h2⟩:=h;exact⟨_,h1⟩
def Rd.dom{H:Hp}{a:Addr}{u:HO}(h:Rd H a u):∃o,H a=some o:=by
 rcases h with h|⟨o,h⟩;exact⟨_,h⟩;exact⟨_,h⟩
mutual
theorem RpI.off{K:yF}{M:List Addr}{H H':Hp}(x:Ed M H H')(hM:∀b∈M,Mu H b):∀{t:I} {v:V},RpI K H t v->RpI K H' t v
 | .non,_,h=>by rw[RpI]at h|-;exact h
 | .bl _,_,h=>by rw[RpI]at h|-;exact h
 | .int _,_,h=>by rw[RpI]at h|-;exact h
 | .str _,_,h=>by rw[RpI]at h|-;exact h
 | .tup ts,_,h=>by rw[RpI]at h|-;obtain⟨a,xs,h1,h2,h3⟩:=h;exact⟨a,xs,h1,x.sqT hM h2,td.off x hM h3⟩
 | .ls ts,_,h=>by
  rw[RpI]at h|-;obtain⟨a,o,xs,h1,h2,h3⟩:=h;exact⟨a,o,xs,h1,x a _ h2 (λz=>by obtain⟨u,e,m⟩:=hM a z;rw[h2]at e;cases e;cases m),td.off x hM h3⟩
 | .fd ks ts,_,h=>by
  rw[RpI]at h|-;obtain⟨a,o,ys,h1,h2,h3,h4⟩:=h;exact⟨a,o,ys,h1,x a _ h2 (λz=>by obtain⟨u,e,m⟩:=hM a z;rw[h2]at e;cases e;cases m),h3,td.off x hM h4⟩
 | .exn z ks ts,_,h=>by
  have off:∀{b:Addr} {φ : Heap->Prop},H b=some (.ext φ)->H' b=some (.ext φ):=λ{b φ} h2=>x b _ h2 λz=>by obtain⟨u,e,m⟩:=hM b z;rw[h2]at e;cases e;cases m
  rw[RpI]at h|-;obtain⟨C,a,h1,h2,h3⟩:=h;apply⟨C,a,h1,h2,?_⟩;rcases h3 with⟨k1,k2,k3⟩|⟨dx,ys,k1,k2,k3,k4⟩;exact .inl ⟨k1,k2,off k3⟩;exact .inr ⟨dx,ys,off k1,off k2,k3,td.off x hM k4⟩
theorem td.off{K:yF}{M:List Addr}{H H':Hp}(x:Ed M H H')(hM:∀b∈M,Mu H b):∀{ts:List I} {xs:List V},td K H ts xs->td K H' ts xs
 | [],_,h=>by rw[td]at h|-;exact h
 | t::ts,_,h=>by
  rw[td]at h|-;obtain⟨y,r,h1,h2,h3⟩:=h;exact⟨y,r,h1,RpI.off x hM h2,td.off x hM h3⟩
end
mutual
theorem Rp.off{K:yF}{M:List Addr}{H H':Hp}(x:Ed M H H')(hM:∀b∈M,Mu H b):∀{t:T} {v:V} {F:List Addr},(∀a∈F,a∉M)->Rp K H t v F->Rp K H' t v F
 | .im _,_,_,_,h=>by rw[Rp]at h|-;exact⟨RpI.off x hM h.1,h.2⟩
 | .tup ts,_,_,n,h=>by rw[Rp]at h|-;obtain⟨a,xs,h1,h2,h3⟩:=h;exact⟨a,xs,h1,x.sqT hM h2,Rps.off x hM n h3⟩
 | .li ts,_,_,n,h=>by
  rw[Rp]at h|-;obtain⟨a,xs,h1,h2,h3,rfl⟩:=h;exact⟨a,xs,h1,x.rd (n a ymS) h2,td.off x hM h3,rfl⟩
 | .lst ts,_,_,n,h=>by
  rw[Rp]at h|-;obtain⟨a,xs,F',h1,h2,h3,rfl⟩:=h;exact⟨a,xs,F',h1,x.rd (n a ymS) h2,Rps.off x hM (λb hb=>n b (ymC _ hb)) h3,rfl⟩
 | .di kvs,_,_,n,h=>by
  rw[Rp]at h|-;obtain⟨a,xs,h1,h2,h3,h4,rfl⟩:=h;exact⟨a,xs,h1,h2.off x (n a ymS),td.off x hM h3,h4,rfl⟩
 | .dc kvs,_,_,n,h=>by
  rw[Rp]at h|-;obtain⟨a,xs,F',h1,h2,h3,rfl⟩:=h;exact⟨a,xs,F',h1,h2.off x (n a ymS),Rpk.off x hM (λb hb=>n b (ymC _ hb)) h3,rfl⟩
 | .ins C fs,_,_,n,h=>by
  rw[Rp]at h|-;obtain⟨a,dx,xs,F',h1,h2,h3,rfl⟩:=h;exact⟨a,dx,xs,F',h1,x a _ h2 (n a ymS),Rpf.off x hM (λb hb=>n b (ymC _ hb)) h3,rfl⟩
theorem Rps.off{K:yF}{M:List Addr}{H H':Hp}(x:Ed M H H')(hM:∀b∈M,Mu H b):∀{ts:List T} {xs:List V} {F:List Addr},(∀a∈F,a∉M)->Rps K H ts xs F->Rps K H' ts xs F
 | [],_,_,_,h=>by rw[Rps]at h|-;exact h
 | t::ts,_,_,n,h=>by
  rw[Rps]at h|-;obtain⟨y,r,F1,F2,h1,h2,h3,rfl⟩:=h;exact⟨y,r,F1,F2,h1,Rp.off x hM (λb hb=>n b (yaL _ hb)) h2,Rps.off x hM (λb hb=>n b (yaR _ hb)) h3,rfl⟩
theorem Rpk.off{K:yF}{M:List Addr}{H H':Hp}(x:Ed M H H')(hM:∀b∈M,Mu H b):∀{ts:List (I×T)} {xs:List (I×V)} {F:List Addr},(∀a∈F,a∉M)->Rpk K H ts xs F->Rpk K H' ts xs F
 | [],_,_,_,h=>by rw[Rpk]at h|-;exact h
 | (k,t)::ts,_,_,n,h=>by
  rw[Rpk]at h|-;obtain⟨y,r,F1,F2,h1,h2,h3,rfl⟩:=h;exact⟨y,r,F1,F2,h1,Rp.off x hM (λb hb=>n b (yaL _ hb)) h2,Rpk.off x hM (λb hb=>n b (yaR _ hb)) h3,rfl⟩
theorem Rpf.off{K:yF}{M:List Addr}{H H':Hp}(x:Ed M H H')(hM:∀b∈M,Mu H b):∀{ts:List (Str×T)} {xs:List (Str×V)} {F:List Addr},(∀a∈F,a∉M)->Rpf K H ts xs F->Rpf K H' ts xs F
 | [],_,_,_,h=>by rw[Rpf]at h|-;exact h
 | (k,t)::ts,_,_,n,h=>by
  rw[Rpf]at h|-;obtain⟨y,r,F1,F2,h1,h2,h3,rfl⟩:=h;exact⟨y,r,F1,F2,h1,Rp.off x hM (λb hb=>n b (yaL _ hb)) h2,Rpf.off x hM (λb hb=>n b (yaR _ hb)) h3,rfl⟩
end
def Rp.same{K:yF}{H H':Hp}(x:Ei H H'){t:T}{v:V}{F:List Addr}(h:Rp K H t v F):Rp K H' t v F:=Rp.off (x.offM []) ∅ ∅ h
def Rps.same{K:yF}{H H':Hp}(x:Ei H H'){t:List T}{v:List V}{F:List Addr}(h:Rps K H t v F):Rps K H' t v F:=Rps.off (x.offM []) ∅ ∅ h
def RpI.same{K:yF}{H H':Hp}(x:Ei H H'){t:I}{v:V}(h:RpI K H t v):RpI K H' t v:=RpI.off (x.offM []) ∅ h
def td.same{K:yF}{H H':Hp}(x:Ei H H'){t:List I}{v:List V}(h:td K H t v):td K H' t v:=td.off (x.offM []) ∅ h
mutual
theorem Rp.dom{K:yF}{H:Hp}:∀{t:T} {v:V} {F:List Addr},Rp K H t v F->∀a∈F,∃o,H a=some o
 | .im _,_,_,h=>by rw[Rp]at h;rw[h.2];simp
 | .tup ts,_,_,h=>by rw[Rp]at h;obtain⟨_,_,_,_,h⟩:=h;exact Rps.dom h
 | .li ts,_,_,h=>by
  rw[Rp]at h;obtain⟨a,xs,h1,h2,h3,rfl⟩:=h;intro b hb;rw[ysM hb];exact h2.dom
 | .lst ts,_,_,h=>by
  rw[Rp]at h;obtain⟨a,xs,F',h1,h2,h3,rfl⟩:=h;intro b hb;rcases ycM hb with rfl|hb;exact h2.dom;exact Rps.dom h3 b hb
 | .di ts,_,_,h=>by
  rw[Rp]at h;obtain⟨a,xs,h1,h2,h3,h4,rfl⟩:=h;intro b hb;rw[ysM hb];exact h2.dom
 | .dc ts,_,_,h=>by
  rw[Rp]at h;obtain⟨a,xs,F',h1,h2,h3,rfl⟩:=h;intro b hb;rcases ycM hb with rfl|hb;exact h2.dom;exact Rpk.dom h3 b hb
 | .ins C ts,_,_,h=>by
  rw[Rp]at h;obtain⟨a,dx,xs,F',h1,h2,h3,rfl⟩:=h;intro b hb;rcases ycM hb with rfl|hb;exact⟨_,h2⟩;exact Rpf.dom h3 b hb
theorem Rps.dom{K:yF}{H:Hp}:∀{ts:List T} {xs:List V} {F:List Addr},Rps K H ts xs F->∀a∈F,∃o,H a=some o
 | [],_,_,h=>by rw[Rps]at h;rw[h.2];simp
 | t::ts,_,_,h=>by
  rw[Rps]at h;obtain⟨y,r,F1,F2,h1,h2,h3,rfl⟩:=h;intro b hb;rcases yaM hb with hb|hb;exact Rp.dom h2 b hb;exact Rps.dom h3 b hb
theorem Rpk.dom{K:yF}{H:Hp}:∀{ts:List (I×T)} {xs:List (I×V)} {F:List Addr},Rpk K H ts xs F->∀a∈F,∃o,H a=some o
 | [],_,_,h=>by rw[Rpk]at h;rw[h.2];simp
 | (k,t)::ts,_,_,h=>by
  rw[Rpk]at h;obtain⟨y,r,F1,F2,h1,h2,h3,rfl⟩:=h;intro b hb;rcases yaM hb with hb|hb;exact Rp.dom h2 b hb;exact Rpk.dom h3 b hb
theorem Rpf.dom{K:yF}{H:Hp}:∀{ts:List (Str×T)} {xs:List (Str×V)} {F:List Addr},Rpf K H ts xs F->∀a∈F,∃o,H a=some o
 | [],_,_,h=>by rw[Rpf]at h;rw[h.2];simp
 | (k,t)::ts,_,_,h=>by
  rw[Rpf]at h;obtain⟨y,r,F1,F2,h1,h2,h3,rfl⟩:=h;intro b hb;rcases yaM hb with hb|hb;exact Rp.dom h2 b hb;exact Rpf.dom h3 b hb
end
def td.nil{K:yF}{H:Hp}:td K H [] []:=by rw[td]
def td.cons{K:yF}{H:Hp}{t:I}{ts:List I}{x:V}{xs:List V}(h:RpI K H t x)(hs:td K H ts xs):td K H (t::ts) (x::xs):=by rw[td];exact⟨x,xs,rfl,h,hs⟩
def td.cons_inv{K:yF}{H:Hp}{t:I}{ts:List I}{xs:List V}(h:td K H (t::ts) xs):∃x r,xs=x::r/\RpI K H t x/\td K H ts r:=by rw[td]at h;exact h
def td.nil_inv{K:yF}{H:Hp}{xs:List V}(h:td K H [] xs):xs=[]:=by rw[td]at h;exact h
def td.length{K:yF}{H:Hp}:∀{ts:List I} {xs:List V},td K H ts xs->xs.length=ts.length
 | [],xs,h=>by rw[h.nil_inv];rfl
 | d::ds,xs,h=>by obtain⟨x,r,rfl,_,h3⟩:=h.cons_inv;rw[Bf,Bf,h3.length]
def td.get{K:yF}{H:Hp}:∀{ts:List I} {xs:List V} {i:Nat} {t:I},td K H ts xs->ts[i]?=some t->∃x,xs[i]?=some x/\RpI K H t x
 | [],_,_,_,_,e=>by simp at e
 | d::ds,xs,0,d',h,e=>by
  obtain⟨x,r,rfl,h2,h3⟩:=h.cons_inv;simp at e;subst e;exact⟨x,rfl,h2⟩
 | d::ds,xs,i+1,d',h,e=>by
  obtain⟨x,r,rfl,h2,h3⟩:=h.cons_inv;obtain⟨y,h4,h5⟩:=td.get (i:=i) h3 (by exists e);exact⟨y,by simpa using h4,h5⟩
def td.append{K:yF}{H:Hp}:∀{ds es:List I} {xs ys:List V},td K H ds xs->td K H es ys->td K H (ds++es) (xs++ys)
 | [],es,xs,ys,h,h'=>by obtain rfl:=h.nil_inv;exact h'
 | d::ds,es,xs,ys,h,h'=>by
  obtain⟨x,r,rfl,h2,h3⟩:=h.cons_inv;exact td.cons h2 (td.append h3 h')
def td.take{K:yF}{H:Hp}:∀{ds:List I} {xs:List V} (n:Nat),td K H ds xs->td K H (ds.take n) (xs.take n)
 | ds,xs,0,h=>by dsimp[DV];exact td.nil
 | [],xs,n+1,h=>by obtain rfl:=h.nil_inv;exact td.nil
 | d::ds,xs,n+1,h=>by
  obtain⟨x,r,rfl,h2,h3⟩:=h.cons_inv;exact td.cons h2 (td.take n h3)
def td.drop{K:yF}{H:Hp}:∀{ds:List I} {xs:List V} (n:Nat),td K H ds xs->td K H (ds.drop n) (xs.drop n)
 | ds,xs,0,h=>h
 | [],xs,n+1,h=>by obtain rfl:=h.nil_inv;exact td.nil
 | d::ds,xs,n+1,h=>by
  obtain⟨x,r,rfl,h2,h3⟩:=h.cons_inv;exact td.drop n h3
def td.one{K:yF}{H:Hp}{t:I}{x:V}(h:RpI K H t x):td K H [t] [x]:=.cons h .nil
def td.set{K:yF}{H:Hp}{t:I}{x:V}(hx:RpI K H t x):∀{ds:List I} {xs:List V} (n:Nat),td K H ds xs->td K H (ds.set n t) (xs.set n x)
 | [],xs,n,h=>by obtain rfl:=h.nil_inv;exact td.nil
 | d::ds,xs,0,h=>by obtain⟨y,r,rfl,h2,h3⟩:=h.cons_inv;exact td.cons hx h3
 | d::ds,xs,n+1,h=>by obtain⟨y,r,rfl,h2,h3⟩:=h.cons_inv;exact td.cons h2 (td.set hx n h3)
def td.ints{K:yF}{H:Hp}:∀(ns:List Int),td K H (ns.map I.int) (ns.map V.int)
 | []=>td.nil
 | n::ns=>td.cons (by rw[RpI]) (td.ints ns)
def Rps.nil{K:yF}{H:Hp}:Rps K H [] [] []:=by rw[Rps];exact⟨rfl,rfl⟩
def Rps.cons{K:yF}{H:Hp}{t:T}{ts:List T}{x:V}{xs:List V}{F F':List Addr}(h:Rp K H t x F)(hs:Rps K H ts xs F'):Rps K H (t::ts) (x::xs) (F++F'):=by rw[Rps];exact⟨x,xs,F,F',rfl,h,hs,rfl⟩
def Rps.cons_inv{K:yF}{H:Hp}{t:T}{ts:List T}{xs:List V}{F:List Addr}(h:Rps K H (t::ts) xs F):∃x r F1 F2,xs=x::r/\Rp K H t x F1/\Rps K H ts r F2/\F=F1++F2:=by rw[Rps]at h;exact h
def Rps.nil_inv{K:yF}{H:Hp}{xs:List V}{F:List Addr}(h:Rps K H [] xs F):xs=[]/\F=[]:=by rw[Rps]at h;exact h
def Rps.length{K:yF}{H:Hp}:∀{ts:List T} {xs:List V} {F:List Addr},Rps K H ts xs F->xs.length=ts.length
 | [],xs,_,h=>by rw[h.nil_inv.1];rfl
 | d::ds,xs,_,h=>by obtain⟨x,r,_,_,rfl,_,h3,_⟩:=h.cons_inv;rw[Bf,Bf,h3.length]
def Rps.append{K:yF}{H:Hp}:∀{ds es:List T} {xs ys:List V} {F G:List Addr},Rps K H ds xs F->Rps K H es ys G->Rps K H (ds++es) (xs++ys) (F++G)
 | [],es,xs,ys,F,G,h,h'=>by obtain⟨rfl,rfl⟩:=h.nil_inv;exact h'
 | d::ds,es,xs,ys,F,G,h,h'=>by
  obtain⟨x,r,F1,F2,rfl,h2,h3,rfl⟩:=h.cons_inv;rw[Bu];exact Rps.cons h2 (Rps.append h3 h')
def Rps.at{K:yF}{H:Hp}:∀{ts:List T} {xs:List V} {F:List Addr} {i:Nat} {t:T},Rps K H ts xs F->ts[i]?=some t ->
  ∃x A G B,xs[i]?=some x/\Rp K H t x G/\F=A++G++B/\Rps K H (ts.take i) (xs.take i) A/\Rps K H (ts.drop (i+1)) (xs.drop (i+1)) B
 | [],_,_,_,_,_,e=>by simp at e
 | d::ds,xs,_,0,d',h,e=>by
  obtain⟨x,r,F1,F2,rfl,h2,h3,rfl⟩:=h.cons_inv;simp at e;subst e;exact⟨x,[],F1,F2,rfl,h2,by simp,Rps.nil,by simpa using h3⟩
 | d::ds,xs,_,i+1,d',h,e=>by
  obtain⟨x,r,F1,F2,rfl,h2,h3,rfl⟩:=h.cons_inv;obtain⟨y,A,G,B,h4,h5,h6,h7,h8⟩:=Rps.at (i:=i) h3 (by exists e);apply⟨y,F1++A,G,B,by simpa using h4,h5,by rw[h6];simp,?_,by simpa using h8⟩;simpa using Rps.cons h2 h7
def Rps.take{K:yF}{H:Hp}:∀{ds:List T} {xs:List V} {F:List Addr} (n:Nat),Rps K H ds xs F->∃G G',Rps K H (ds.take n) (xs.take n) G/\Rps K H (ds.drop n) (xs.drop n) G'/\F=G++G'
 | ds,xs,F,0,h=>⟨[],F,by dsimp[DV];exact Rps.nil,by simpa using h,rfl⟩
 | [],xs,F,n+1,h=>by obtain⟨rfl,rfl⟩:=h.nil_inv;exact⟨[],[],Rps.nil,Rps.nil,rfl⟩
 | d::ds,xs,F,n+1,h=>by
  obtain⟨x,r,F1,F2,rfl,h2,h3,rfl⟩:=h.cons_inv;obtain⟨G,G',g1,g2,rfl⟩:=Rps.take n h3;exact⟨F1++G,G',Rps.cons h2 g1,g2,by rw[Bu]⟩
def Rps.ims{K:yF}{H:Hp}:∀{is:List I} {xs:List V} {F:List Addr},Rps K H (is.map T.im) xs F↔(td K H is xs/\F=[])
 | [],xs,F=>by rw[Dx,Rps,td]
 | i::is,xs,F=>by
  rw[Bj,Rps,td];constructor
  ·rintro⟨x,r,F1,F2,rfl,h1,h2,rfl⟩;rw[Rp]at h1;have:=Rps.ims.mp h2;exact⟨⟨x,r,rfl,h1.1,this.1⟩,by rw[h1.2,this.2];rfl⟩
  ·rintro⟨⟨x,r,rfl,h1,h2⟩,rfl⟩;exact⟨x,r,[],[],rfl,by rw[Rp];exact⟨h1,rfl⟩,Rps.ims.mpr ⟨h2,rfl⟩,rfl⟩
def cu{K:yF}{H:Hp}{i:I}{v:V}(h:RpI K H i v):Rp K H (.im i) v []:=by rw[Rp];exact⟨h,rfl⟩
def aS{K:yF}{H:Hp}{i:I}{v:V}{F:List Addr}(h:Rp K H (.im i) v F):RpI K H i v/\F=[]:=by rw[Rp]at h;exact h
abbrev I.sc:I->Option V
 | .non=>some .non|.bl b=>some (.bl b)|.int i=>some (.int i)|.str x=>some (.str x)|.tup _=>none|.ls _=>none|.fd _ _=>none|.exn _ _ _=>none
def iw{t:I}{K:yF}{H:Hp}{v:V}(h:t.sc=some v):RpI K H t v:=by
 cases t<;>dsimp[I.sc]at h<;>cases h<;>rw[RpI]
def vG{t:I}{K:yF}{H:Hp}{v w:V}(h:t.sc=some v)(r:RpI K H t w):w=v:=by
 cases t<;>dsimp[I.sc]at h<;>cases h<;>rw[RpI]at r<;>exact r
inductive Ac where
 | ix (n:Nat)|ky (k:I)|fd (f:Str)
 deriving DecidableEq
abbrev bK{κ α:Type} [DecidableEq κ]:List (κ × α)->κ->Option α
 | [],_=>none
 | (k',t)::r,k=>if k'=k then some t else bK r k
abbrev ie{κ α:Type} [DecidableEq κ]:List (κ × α)->κ->α->List (κ × α)
 | [],_,_=>[]
 | (k',t)::r,k,s=>if k'=k then(k',s)::r else(k',t)::ie r k s
abbrev gt:T->Ac->Option T
 | .lst ts,.ix n=>ts[n]?
 | .dc kvs,.ky k=>bK kvs k
 | .ins _ fs,.fd f=>bK fs f
 | _,_=>none
abbrev zJ:T->Ac->T->T
 | .lst ts,.ix n,s=>.lst (ts.set n s)
 | .dc kvs,.ky k,s=>.dc (ie kvs k s)
 | .ins C fs,.fd f,s=>.ins C (ie fs f s)
 | t,_,_=>t
abbrev T.sub:T->List Ac->Option T
 | t,[]=>some t
 | t,a::p=>(gt t a).bind λs=>s.sub p
abbrev T.put:T->List Ac->T->T
 | _,[],s=>s
 | t,a::p,s=>match gt t a with
  | some u=>zJ t a (u.put p s)
  | none=>t
abbrev at1(K:yF)(H:Hp):V->Ac->V->Prop
 | v,.ix n,w=>∃a xs,v=.ref a/\H a=some (.lst xs)/\xs[n]?=some w
 | v,.ky k,w=>∃a ys,v=.ref a/\DAt K H a ys/\bK ys k=some w
 | v,.fd f,w=>∃a C dx ys,v=.ref a/\H a=some (.ins C dx ys)/\bK ys f=some w
abbrev atP(K:yF)(H:Hp):V->List Ac->V->Prop
 | v,[],w=>w=v
 | v,a::p,w=>∃u,at1 K H v a u/\atP K H u p w
def DAt.det{K:yF}{H:Hp}{a:Addr}{xs ys:List (I×V)}(h:DAt K H a xs)(g:DAt K H a ys):xs=ys:=by
 obtain⟨zs,h1,rfl⟩:=h;obtain⟨zs',h2,rfl⟩:=g;rw[h1]at h2;cases h2;rfl
def mr{K:yF}{H:Hp}{v w w':V}{a:Ac}(h:at1 K H v a w)(g:at1 K H v a w'):w=w':=by
 cases a with
 | ix n=>
  obtain⟨a,xs,rfl,h1,h2⟩:=h;obtain⟨a',xs',e,g1,g2⟩:=g;cases e;rw[h1]at g1;cases g1;rw[h2]at g2;cases g2;rfl
 | ky k=>
  obtain⟨a,xs,rfl,h1,h2⟩:=h;obtain⟨a',xs',e,g1,g2⟩:=g;cases e;have:=h1.det g1;subst this;rw[h2]at g2;cases g2;rfl
 | fd f=>
  obtain⟨a,C,dx,xs,rfl,h1,h2⟩:=h;obtain⟨a',C',dx',xs',e,g1,g2⟩:=g;cases e;rw[h1]at g1;cases g1;rw[h2]at g2;cases g2;rfl
def eM{K:yF}{H:Hp}:∀{p:List Ac} {v w w':V},atP K H v p w->atP K H v p w'->w=w'
 | [],v,w,w',h,g=>by rw[atP]at h g;rw[h,g]
 | a::p,v,w,w',h,g=>by
  rw[atP]at h g;obtain⟨u,h1,h2⟩:=h;obtain⟨u',g1,g2⟩:=g;have:=mr h1 g1;subst this;exact eM h2 g2
def mw{K:yF}{H:Hp}{a:Ac}:∀{p:List Ac} {v w u:V},atP K H v p w->at1 K H w a u->atP K H v (p++[a]) u
 | [],v,w,u,h,g=>by rw[atP]at h;subst h;exact⟨u,g,rfl⟩
 | b::p,v,w,u,h,g=>by
  rw[atP]at h;obtain⟨x,h1,h2⟩:=h;exact⟨x,h1,mw h2 g⟩
def nC{a:Ac}:∀{p:List Ac} {t s u:T},t.sub p=some s->gt s a=some u->t.sub (p++[a])=some u
 | [],t,s,u,h,g=>by rw[T.sub]at h;cases h;rw[Cb,T.sub,g];rfl
 | b::p,t,s,u,h,g=>by
  rw[T.sub]at h;rw[Bx,T.sub];cases e:gt t b with
  | none=>rw[e]at h;cases h
  | some x=>rw[e]at h;exact nC (p:=p) h g
section
variable {K:yF}{H:Hp}
def Rpk.at{k:I}:∀{ts:List (I×T)} {xs:List (I×V)} {F:List Addr} {t:T},Rpk K H ts xs F->bK ts k=some t ->
  ∃x A G B,bK xs k=some x/\Rp K H t x G/\F=A++G++B/\∀H' s' G',(∀{u:T} {w:V} {F':List Addr},(∀a∈F',a∈A\/a∈B)->Rp K H u w F'->Rp K H' u w F')->Rp K H' s' x G'->Rpk K H' (ie ts k s') xs (A++G'++B)
 | [],xs,F,t,h,e=>by simp[bK]at e
 | (k',d)::ds,xs,F,t,h,e=>by
  rw[Rpk]at h;obtain⟨x,r,F1,F2,rfl,h2,h3,rfl⟩:=h;by_cases hk:k'=k
  ·subst hk;simp[bK]at e;subst e;apply⟨x,[],F1,F2,by simp[bK],h2,by simp,λH' s' G' st q=>?_⟩;dsimp[ie,if_pos];rw[Rpk];apply⟨x,r,G',F2,rfl,q,?_,by simp⟩;have:∀{ts:List (I×T)} {xs:List (I×V)} {F:List Addr},(∀a∈F,a∈F2)->Rpk K H ts xs F->Rpk K H' ts xs F:=by
    intro ts
    induction ts with
    | nil=>intro xs F _ h;rw[Rpk]at h|-;exact h
    | cons p ts ih=>
     intro xs F hF h;obtain⟨k2,t2⟩:=p;rw[Rpk]at h|-;obtain⟨y,r,G1,G2,h1,h2,h3,rfl⟩:=h;exact⟨y,r,G1,G2,h1,st (λa ha=>.inr (hF a (yaL _ ha))) h2,ih (λa ha=>hF a (yaR _ ha)) h3,rfl⟩
   exact this (λa ha=>ha) h3
  ·simp[bK,hk]at e;obtain⟨y,A,G,B,h4,h5,h6,h7⟩:=Rpk.at h3 e;apply⟨y,F1++A,G,B,by simp[bK,hk,h4],h5,by rw[h6];simp,λH' s' G' st q=>?_⟩;dsimp[ie,if_neg hk];rw[Rpk];exact⟨x,r,F1,A++G'++B,rfl,st (λa ha=>.inl (yaL _ ha)) h2,h7 H' s' G' (λha=>st (λa h=>(ha a h).imp (yaR _) id)) q,by simp⟩
def Rpf.at{k:Str}:∀{ts:List (Str×T)} {xs:List (Str×V)} {F:List Addr} {t:T},Rpf K H ts xs F->bK ts k=some t ->
  ∃x A G B,bK xs k=some x/\Rp K H t x G/\F=A++G++B/\∀H' s' G',(∀{u:T} {w:V} {F':List Addr},(∀a∈F',a∈A\/a∈B)->Rp K H u w F'->Rp K H' u w F')->Rp K H' s' x G'->Rpf K H' (ie ts k s') xs (A++G'++B)
 | [],xs,F,t,h,e=>by simp[bK]at e
 | (k',d)::ds,xs,F,t,h,e=>by
  rw[Rpf]at h;obtain⟨x,r,F1,F2,rfl,h2,h3,rfl⟩:=h;by_cases hk:k'=k
  ·subst hk;simp[bK]at e;subst e;apply⟨x,[],F1,F2,by simp[bK],h2,by simp,λH' s' G' st q=>?_⟩;dsimp[ie,if_pos];rw[Rpf];apply⟨x,r,G',F2,rfl,q,?_,by simp⟩;have:∀{ts:List (Str×T)} {xs:List (Str×V)} {F:List Addr},(∀a∈F,a∈F2)->Rpf K H ts xs F->Rpf K H' ts xs F:=by
    intro ts
    induction ts with
    | nil=>intro xs F _ h;rw[Rpf]at h|-;exact h
    | cons p ts ih=>
     intro xs F hF h;obtain⟨k2,t2⟩:=p;rw[Rpf]at h|-;obtain⟨y,r,G1,G2,h1,h2,h3,rfl⟩:=h;exact⟨y,r,G1,G2,h1,st (λa ha=>.inr (hF a (yaL _ ha))) h2,ih (λa ha=>hF a (yaR _ ha)) h3,rfl⟩
   exact this (λa ha=>ha) h3
  ·simp[bK,hk]at e;obtain⟨y,A,G,B,h4,h5,h6,h7⟩:=Rpf.at h3 e;apply⟨y,F1++A,G,B,by simp[bK,hk,h4],h5,by rw[h6];simp,λH' s' G' st q=>?_⟩;dsimp[ie,if_neg hk];rw[Rpf];exact⟨x,r,F1,A++G'++B,rfl,st (λa ha=>.inl (yaL _ ha)) h2,h7 H' s' G' (λha=>st (λa h=>(ha a h).imp (yaR _) id)) q,by simp⟩
def Mu.lst{a:Addr}{xs:List V}(m:Mu H a)(h:Rd H a (.lst xs)):H a=some (.lst xs):=by
 rcases h with h|⟨o,h⟩;exact h;obtain⟨u,e,m⟩:=m;rw[h]at e;cases e;cases m
def Rps.stay{H':Hp}:∀{ts:List T} {xs:List V} {F:List Addr},(∀{u:T} {w:V} {F':List Addr},(∀a∈F',a∈F)->Rp K H u w F'->Rp K H' u w F')->Rps K H ts xs F->Rps K H' ts xs F
 | [],_,_,_,h=>by rw[Rps]at h|-;exact h
 | t::ts,_,_,n,h=>by
  rw[Rps]at h|-;obtain⟨y,r,F1,F2,h1,h2,h3,rfl⟩:=h;exact⟨y,r,F1,F2,h1,n (λa ha=>yaL _ ha) h2,Rps.stay (λha=>n λa h=>yaR _ (ha a h)) h3,rfl⟩
def Rp.at1{t s:T}{v:V}{F:List Addr}{a:Ac}(h:Rp K H t v F)(mu:∀b∈F,Mu H b)(nd:F.Nodup)(e:gt t a=some s) :
  ∃w A G B,L2.at1 K H v a w/\Rp K H s w G/\F=A++G++B/\∀H' s' G',Ed G H H'->Rp K H' s' w G'->Rp K H' (zJ t a s') v (A++G'++B):=by
 have dj:∀{A G B:List Addr},F=A++G++B->∀b,(b∈A\/b∈B)->b∉G:=by
  intro A G B e b hb hg;rw[e]at nd;rcases hb with hb|hb;exact(Ba.mp (Ba.mp nd).1).2.2 b hb b hg rfl;exact(Ba.mp nd).2.2 b (yaR _ hg) b hb rfl
 have muG:∀{A G B:List Addr},F=A++G++B->∀b∈G,Mu H b:=λe b hb=>mu b (by rw[e];simp[hb]);cases t with
 | lst ts=>
  cases a with
  | ix n=>
   rw[Rp]at h;obtain⟨a,xs,F',rfl,h2,h3,rfl⟩:=h;have ha:=(mu a ymS).lst h2;obtain⟨x,A,G,B,h4,h5,h6,h7,h8⟩:=h3.at e;have e':a::F'=(a::A)++G++B:=by rw[h6];simp
   apply⟨x,a::A,G,B,⟨a,xs,rfl,ha,h4⟩,h5,e',λH' s' G' off q=>?_⟩;have st:∀{u:T} {w:V} {F':List Addr},(∀b∈F',b∈A\/b∈B)->Rp K H u w F'->Rp K H' u w F':=λhb r=>r.off off (muG e') (λb z=>dj e' b ((hb b z).imp (ymC _) id));show Rp K H' (.lst (ts.set n s')) (.ref a) _;rw[Rp];apply⟨a,xs,A++G'++B,rfl,.inl (off a _ ha (dj e' a (.inl ymS))),?_,by simp⟩;have hn:n<ts.length:=(Bb.mp e).1;have hn':n<xs.length:=(Bb.mp h4).1;have e1:ts.set n s'=ts.take n++s'::ts.drop (n+1):=by rw[List.set_eq_take_append_cons_drop,if_pos hn]
   have e2:xs=xs.take n++x::xs.drop (n+1):=by
    have:=Bb.mp h4;obtain⟨hl,hx⟩:=this
    conv=>lhs;rw[<-CL n xs,Cz hl,hx]
   rw[e1,e2,Bu];exact Rps.append (Rps.stay (λhb=>st λb z=>.inl (hb b z)) h7) (Rps.cons q (Rps.stay (λhb=>st λb z=>.inr (hb b z)) h8))
  | ky k=>cases e
  | fd k=>cases e
 | dc kvs=>
  cases a with
  | ky k=>
   rw[Rp]at h;obtain⟨a,xs,F',rfl,h2,h3,rfl⟩:=h;obtain⟨x,A,G,B,h4,h5,h6,h7⟩:=h3.at e;have e':a::F'=(a::A)++G++B:=by rw[h6];simp
   apply⟨x,a::A,G,B,⟨a,xs,rfl,h2,h4⟩,h5,e',λH' s' G' off q=>?_⟩;have st:∀{u:T} {w:V} {F':List Addr},(∀b∈F',b∈A\/b∈B)->Rp K H u w F'->Rp K H' u w F':=λhb r=>r.off off (muG e') (λb z=>dj e' b ((hb b z).imp (ymC _) id));show Rp K H' (.dc (ie kvs k s')) (.ref a) _;rw[Rp];exact⟨a,xs,A++G'++B,rfl,h2.off off (dj e' a (.inl ymS)),h7 H' s' G' st q,by simp⟩
  | ix k=>cases e
  | fd k=>cases e
 | ins C fs=>
  cases a with
  | fd k=>
   rw[Rp]at h;obtain⟨a,dx,xs,F',rfl,h2,h3,rfl⟩:=h;obtain⟨x,A,G,B,h4,h5,h6,h7⟩:=h3.at e;have e':a::F'=(a::A)++G++B:=by rw[h6];simp
   apply⟨x,a::A,G,B,⟨a,C,dx,xs,rfl,h2,h4⟩,h5,e',λH' s' G' off q=>?_⟩;have st:∀{u:T} {w:V} {F':List Addr},(∀b∈F',b∈A\/b∈B)->Rp K H u w F'->Rp K H' u w F':=λhb r=>r.off off (muG e') (λb z=>dj e' b ((hb b z).imp (ymC _) id));show Rp K H' (.ins C (ie fs k s')) (.ref a) _;rw[Rp];exact⟨a,dx,xs,A++G'++B,rfl,off a _ h2 (dj e' a (.inl ymS)),h7 H' s' G' st q,by simp⟩
  | ix k=>cases e
  | ky k=>cases e
 | im _=>cases a<;>cases e
 | tup _=>cases a<;>cases e
 | li _=>cases a<;>cases e
 | di _=>cases a<;>cases e
def Rp.atP:∀{p:List Ac} {t s:T} {v:V} {F:List Addr},Rp K H t v F->(∀b∈F,Mu H b)->F.Nodup->t.sub p=some s ->
  ∃w A G B,L2.atP K H v p w/\Rp K H s w G/\F=A++G++B/\∀H' s' G',Ed G H H'->Rp K H' s' w G'->Rp K H' (t.put p s') v (A++G'++B)
 | [],t,s,v,F,h,mu,nd,e=>by
  rw[T.sub]at e;cases e;exact⟨v,[],F,[],rfl,h,by simp,λH' s' G' _ q=>by rw[T.put];simpa using q⟩
 | a::p,t,s,v,F,h,mu,nd,e=>by
  rw[T.sub]at e;cases e1:gt t a with
  | none=>rw[e1]at e;cases e
  | some u=>
   rw[e1]at e;obtain⟨w,A,G,B,h1,h2,rfl,h4⟩:=h.at1 mu nd e1;have nd2:=(Ba.mp (Ba.mp nd).1).2.1;obtain⟨x,A',G',B',g1,g2,rfl,g4⟩:=Rp.atP (p:=p) h2 (λb hb=>mu b (yaL _ (yaR _ hb))) nd2 e;apply⟨x,A++A',G',B'++B,⟨w,h1,g1⟩,g2,by simp,λH' s' G2 off q=>?_⟩;rw[T.put,e1];have:=h4 H' (u.put p s') (A'++G2++B') (off.mono λb hb=>by simp[hb]) (g4 H' s' G2 off q);exists this
end
inductive Kd where
 | ow|io (k:Nat)|vw (r:Option Nat) (p:Option (List Ac))
structure R where
 k:Kd
 t:T
structure En where
 key:Option Nat
 v:V
 r:R
structure Hd where
 e:En
 F:List Addr
structure Gm where
 K:yF
 H0:Hp
 io:List Addr
 iov:List V
abbrev Kd.isOw:Kd->Bool
 | .vw _ _=>false|_=>true
abbrev Kd.root:Kd->Option Nat
 | .vw r _=>r|_=>none
abbrev Hd.own(h:Hd):List Addr:=if h.e.r.k.isOw=true then h.F else []
abbrev Ef(Γ:Gm)(H:Hp)(L:List Hd)(h:Hd):Prop:=match h.e.r.k with
 | .ow=>∀a∈h.F,Γ.H0 a=none
 | .io k=>Γ.iov[k]?=some h.e.v
 | .vw none _=>∀a∈h.F,a∉L.flatMap Hd.own
 | .vw (some j) p=>∃g∈L,g.e.key=some j/\g.e.r.k.isOw=true/\(∀a∈h.F,a∈g.F\/a∉L.flatMap Hd.own)/\∀q,p=some q->g.e.r.t.sub q=some h.e.r.t/\atP Γ.K H g.e.v q h.e.v
structure GW(Γ:Gm)(H:Hp)(L:List Hd):Prop where
 nd:(L.flatMap Hd.own).Nodup
 ad:∀a∈L.flatMap Hd.own,Mu H a/\(Γ.H0 a=none\/a ∈ Γ.io)
 rp:∀h∈L,Rp Γ.K H h.e.r.t h.e.v h.F
 kd:∀h∈L,Ef Γ H L h
 ks:(L.filterMap λh=>h.e.key).Nodup
 fr:∀b o,Γ.H0 b=some o->b∉Γ.io->H b=some o
 iol:∀a ∈ Γ.io,∃o,H a=some o
section
variable {Γ:Gm}{H H':Hp}{L L':List Hd}{h:Hd}
def Ef.sub(k:Ef Γ H L h)(s:∀g∈L,g.e.r.k.isOw=true->g∈L')(o:∀a∈L'.flatMap Hd.own,a∈L.flatMap Hd.own):Ef Γ H L' h:=by
 unfold Ef at k|-;split at k;exact k;exact k;exact λa ha z=>k a ha (o a z)
 ·obtain⟨g,h1,h2,h3,h4,h5⟩:=k;exact⟨g,s g h1 h3,h2,h3,λa ha=>(h4 a ha).imp id λz w=>z (o a w),h5⟩
def GW.perm(G:GW Γ H L)(p:L.Perm L'):GW Γ H L':=
 ⟨(p.flatMap_right _).nodup_iff.mp G.nd,λa ha=>G.ad a ((p.flatMap_right _).mem_iff.mpr ha),λh hh=>G.rp h (p.mem_iff.mpr hh),λh hh=>(G.kd h (p.mem_iff.mpr hh)).sub (λg hg _=>p.mem_iff.mp hg) (λa ha=>(p.flatMap_right _).mem_iff.mpr ha),(p.filterMap _).nodup_iff.mp G.ks,G.fr,G.iol⟩
def gz(s:L'.Sublist L):(L'.flatMap Hd.own).Sublist (L.flatMap Hd.own):=by
 induction s with
 | slnil=>exact List.Sublist.refl _
 | cons a s ih=>rw[Bh];exact ih.trans (List.sublist_append_right _ _)
 | cons_cons a s ih=>rw[Bh,Bh];exact(List.Sublist.refl _).append ih
def GW.sub(G:GW Γ H L)(s:L'.Sublist L)(ro:∀h∈L',∀j,h.e.r.k.root=some j->∀g∈L,g.e.key=some j->g.e.r.k.isOw=true->g∈L'):GW Γ H L':=by
 apply⟨(gz s).nodup G.nd,λa ha=>G.ad a ((gz s).subset ha),λh hh=>G.rp h (s.subset hh),λh hh=>?_,(s.filterMap _).nodup G.ks,G.fr,G.iol⟩;have k:=G.kd h (s.subset hh);unfold Ef at k|-;split at k;exact k;exact k;exact λa ha z=>k a ha ((gz s).subset z)
 ·delta j p e;obtain⟨g,h1,h2,h3,h4,h5⟩:=k;exact⟨g,ro h hh j (by rw[e];rfl) g h1 h2 h3,h2,h3,λa ha=>(h4 a ha).imp id λz w=>z ((gz s).subset w),h5⟩
def GW.drop(G:GW Γ H (h::L))(hk:h.e.key=none):GW Γ H L:=by
 apply G.sub (Dd _ _) λg hg j _ x hx hj _=>?_;rcases ycM hx with rfl|hx;rw[hk]at hj;cases hj;exact hx
def GW.dropK(G:GW Γ H (h::L))(hr:∀g∈L,∀j,h.e.key=some j->g.e.r.k.root≠some j):GW Γ H L:=by
 apply G.sub (Dd _ _) λg hg j hj x hx hk _=>?_;rcases ycM hx with rfl|hx;exact absurd hj (hr g hg j hk);exact hx
def GW.filter(G:GW Γ H L)(p:Hd->Bool)(hp:∀h∈L,h.e.r.k.isOw=true->p h=true):GW Γ H (L.filter p):=
 G.sub BK λh hh j hj g hg hk ho=>Be.mpr ⟨hg,hp g hg ho⟩
def GW.new0(G:GW Γ H L){a:Addr}(e:H a=none) : Γ.H0 a=none:=by
 cases q : Γ.H0 a with
 | none=>rfl
 | some o=>
  exfalso;by_cases hio:a ∈ Γ.io;obtain⟨o,e'⟩:=G.iol a hio;rw[e]at e';cases e';have:=G.fr a o q hio;rw[e]at this;cases this
def GW.push(G:GW Γ H L){v:V}{r:R}{F:List Addr}(hr:Rp Γ.K H r.t v F)(hk:Ef Γ H L ⟨⟨none,v,r⟩,F⟩)(hF:r.k.isOw=false\/F=[]):GW Γ H (⟨⟨none,v,r⟩,F⟩::L):=by
 have e:Hd.own ⟨⟨none,v,r⟩,F⟩=[]:=by
  unfold Hd.own;rcases hF with h|h;simp[h];simp[h]
 apply⟨by rw[Bh,e];exact G.nd,λa ha=>G.ad a (by rw[Bh,e]at ha;exact ha),λx hx=>?_,λx hx=>?_,?_,G.fr,G.iol⟩
 ·rcases ycM hx with rfl|hx;exact hr;exact G.rp x hx
 ·rcases ycM hx with rfl|hx;exact hk.sub (λg hg _=>ymC _ hg) (λa ha=>by rw[Bh,e]at ha;exact ha);exact(G.kd x hx).sub (λg hg _=>ymC _ hg) (λa ha=>by rw[Bh,e]at ha;exact ha)
 ·rw[Bt];exact G.ks
def GW.rekey(G:GW Γ H (h::L))(hk:h.e.key=none){key:Option Nat}(hn:∀j,key=some j->j∉L.filterMap λh=>h.e.key):GW Γ H (⟨⟨key,h.e.v,h.e.r⟩,h.F⟩::L):=by
 have eo:((⟨⟨key,h.e.v,h.e.r⟩,h.F⟩:Hd)::L).flatMap Hd.own=(h::L).flatMap Hd.own:=rfl;have ro:∀x∈L,Ef Γ H (h::L) x->Ef Γ H (⟨⟨key,h.e.v,h.e.r⟩,h.F⟩::L) x:=λx hx k=>by
  unfold Ef at k|-;split at k;exact k;exact k;exact k
  ·obtain⟨g,h1,h2,h3⟩:=k;rcases ycM h1 with rfl|h1;rw[hk]at h2;cases h2;exact⟨g,ymC _ h1,h2,h3⟩
 apply⟨G.nd,G.ad,λx hx=>?_,λx hx=>?_,?_,G.fr,G.iol⟩
 ·rcases ycM hx with rfl|hx;exact G.rp h ymS;exact G.rp x (ymC _ hx)
 ·rcases ycM hx with rfl|hx
  ·have k:=G.kd h ymS;unfold Ef at k|-;split at k;delta e;dsimp[e];exact k;delta e;dsimp[e];exact k;delta e;dsimp[e];exact k
   ·delta e;dsimp[e];obtain⟨g,h1,h2,h3⟩:=k;rcases ycM h1 with rfl|h1;rw[hk]at h2;cases h2;exact⟨g,ymC _ h1,h2,h3⟩
  ·exact ro x hx (G.kd x (ymC _ hx))
 ·have g:=G.ks;rw[Bt,hk]at g;rw[Bt];cases key with
  | none=>exact g
  | some j=>exact BB.mpr ⟨hn j rfl,g⟩
def eV{a:Addr}(ho:h.e.r.k.isOw=true)(ha:a∈h.F):a∈h.own:=by unfold Hd.own;rw[if_pos ho];exact ha
def GW.apart{hs:List Hd}(G:GW Γ H (hs++L))(hr:∀g∈L,∀h∈hs,∀j,h.e.key=some j->g.e.r.k.root≠some j)(ho:∀h∈hs,h.e.r.k.isOw=true):∀g∈L,∀a∈g.F,∀h∈hs,a∉h.F:=by
 intro g hg a ha h hh hah;have nd:=G.nd;rw[Bo]at nd;have h1:a∈hs.flatMap Hd.own:=BV.mpr ⟨h,hh,eV (ho h hh) hah⟩;have out:a∉(hs++L).flatMap Hd.own->False:=λn=>n (by rw[Bo];exact yaL _ h1);have k:=G.kd g (yaR _ hg);have own:∀x∈L,x.e.r.k.isOw=true->a∈x.F->False:=λx hx ox hax=>
  (Ba.mp nd).2.2 a h1 a (BV.mpr ⟨x,hx,eV ox hax⟩) rfl
 unfold Ef at k;split at k;delta e;exact own g hg (by rw[e];rfl) ha;delta e;exact own g hg (by rw[e];rfl) ha;exact out (k a ha)
 ·delta j p e;obtain⟨x,h1',h2,h3,h4,_⟩:=k;rcases h4 a ha with z|z
  ·rcases yaM h1' with hx|hx;exact hr g hg x hx j h2 (by rw[e];rfl);exact own x hx h3 z
  ·exact out z
def jx{M:List Addr}(off:Ed M H H'){F:List Addr}(hF:∀a∈F,a∉M)(mu:∀a∈F,Mu H a):∀{q:List Ac} {t s:T} {v w:V} {F':List Addr},(∀a∈F',a∈F)->F'.Nodup->Rp Γ.K H t v F'->t.sub q=some s->atP Γ.K H v q w->atP Γ.K H' v q w
 | [],_,_,_,_,_,_,_,_,_,h=>h
 | a::q,t,s,v,w,F',hs,nd,r,e,h=>by
  rw[atP]at h|-;obtain⟨u,h1,h2⟩:=h;rw[T.sub]at e;cases e1:gt t a with
  | none=>rw[e1]at e;cases e
  | some x=>
   rw[e1]at e;obtain⟨y,A,G,B,g1,g2,rfl,_⟩:=r.at1 (λb hb=>mu b (hs b hb)) nd e1;have:=mr h1 g1;subst this;apply⟨u,?_,jx off hF mu (λb hb=>hs b (yaL _ (yaR _ hb))) (Ba.mp (Ba.mp nd).1).2.1 g2 e h2⟩;cases a with
   | ix n=>
    obtain⟨b,xs,rfl,z1,z2⟩:=h1;apply⟨b,xs,rfl,off b _ z1 (hF b ?_),z2⟩;cases t<;>dsimp[gt]at e1<;>try cases e1
    rw[Rp]at r;obtain⟨b',xs',F'',eb,_,_,eF⟩:=r;cases eb;exact hs b (by rw[eF];exact ymS)
   | ky n=>
    obtain⟨b,xs,rfl,z1,z2⟩:=h1;apply⟨b,xs,rfl,z1.off off (hF b ?_),z2⟩;cases t<;>dsimp[gt]at e1<;>try cases e1
    rw[Rp]at r;obtain⟨b',xs',F'',eb,_,_,eF⟩:=r;cases eb;exact hs b (by rw[eF];exact ymS)
   | fd n=>
    obtain⟨b,C,dx,xs,rfl,z1,z2⟩:=h1;apply⟨b,C,dx,xs,rfl,off b _ z1 (hF b ?_),z2⟩;cases t<;>dsimp[gt]at e1<;>try cases e1
    rw[Rp]at r;obtain⟨b',dx',xs',F'',eb,_,_,eF⟩:=r;cases eb;exact hs b (by rw[eF];exact ymS)
def GW.ndF(G:GW Γ H L)(hh:h∈L)(ho:h.e.r.k.isOw=true):h.F.Nodup:=by
 have nd:=G.nd;obtain⟨s,t,rfl⟩:=CD hh;rw[Bo,Bh]at nd;have:=(Ba.mp (Ba.mp nd).2.1).1;unfold Hd.own at this;rw[if_pos ho]at this;exact this
def GW.muF(G:GW Γ H L)(hh:h∈L)(ho:h.e.r.k.isOw=true):∀a∈h.F,Mu H a:=λa ha=>(G.ad a (BV.mpr ⟨h,hh,eV ho ha⟩)).1
def dE{hs:List Hd}(ho:∀h∈hs,h.e.r.k.isOw=true):hs.flatMap Hd.own=hs.flatMap (·.F):=by
 induction hs with
 | nil=>rfl
 | cons x xs ih=>
  rw[Bh,Bh,ih λh hh=>ho h (ymC _ hh)];unfold Hd.own;rw[if_pos (ho x ymS)]
def GW.step{hs:List Hd}(G:GW Γ H (hs++L))(ho:∀h∈hs,h.e.r.k.isOw=true)(hr:∀g∈L,∀h∈hs,∀j,h.e.key=some j->g.e.r.k.root≠some j)
  (off:Ed (hs.flatMap (·.F)) H H') (dom:∀a∈hs.flatMap (·.F),∃o,H' a=some o) {key:Option Nat} {v:V} {r:R} {F:List Addr} (nd:F.Nodup) (hF:∀a∈F,(a∈hs.flatMap (·.F)\/H a=none)/\Mu H' a) (hp:Rp Γ.K H' r.t v F)
  (hk:(r.k=.ow/\∀h∈hs,h.e.r.k=.ow) \/ ∃k,r.k=.io k/\Γ.iov[k]?=some v) (hkey:∀j,key=some j->j∉L.filterMap λh=>h.e.key):GW Γ H' (⟨⟨key,v,r⟩,F⟩::L):=by
 have iow:r.k.isOw=true:=by rcases hk with⟨e,_⟩|⟨k,e,_⟩<;>rw[e]<;>rfl
 have eo:=dE ho;have G':=G.nd;rw[Bo,eo]at G';have nd1:=(Ba.mp G').2.1;have dj:=(Ba.mp G').2.2;have adL:∀a∈L.flatMap Hd.own,Mu H a/\(Γ.H0 a=none\/a ∈ Γ.io):=λa ha=>G.ad a (by rw[Bo];exact yaR _ ha);have adM:∀a∈hs.flatMap (·.F),Mu H a/\(Γ.H0 a=none\/a ∈ Γ.io):=λa ha=>G.ad a (by rw[Bo,eo];exact yaL _ ha);have ap:=G.apart hr ho;have apM:∀g∈L,∀a∈g.F,a∉hs.flatMap (·.F):=λg hg a ha hm=>by
  obtain⟨h,hh,hah⟩:=BV.mp hm;exact ap g hg a ha h hh hah
 have eF:Hd.own ⟨⟨key,v,r⟩,F⟩=F:=by unfold Hd.own;rw[if_pos iow]
 have f0:∀a∈F,Γ.H0 a=none\/a ∈ Γ.io:=λa ha=>by
  rcases(hF a ha).1 with z|z;exact(adM a z).2;exact .inl (G.new0 z)
 apply⟨?_,λa ha=>?_,λx hx=>?_,λx hx=>?_,?_,λb o e n=>?_,λa ha=>?_⟩
 ·rw[Bh,eF];apply Ba.mpr ⟨nd,nd1,λa ha b hb=>?_⟩;rintro rfl;rcases(hF a ha).1 with z|z;exact dj a z a hb rfl
  ·obtain⟨o,e,_⟩:=(adL a hb).1;rw[z]at e;cases e
 ·rw[Bh,eF]at ha;rcases yaM ha with ha|ha;exact⟨(hF a ha).2,f0 a ha⟩
  ·obtain⟨⟨o,e,m⟩,z⟩:=adL a ha;exact⟨⟨o,off a o e λhm=>dj a hm a ha rfl,m⟩,z⟩
 ·rcases ycM hx with rfl|hx;exact hp;exact(G.rp x (yaR _ hx)).off off (λa ha=>(adM a ha).1) (apM x hx)
 ·rcases ycM hx with rfl|hx
  ·unfold Ef;rcases hk with⟨e,eh⟩|⟨k,e,ek⟩
   ·dsimp[e];intro a ha;rcases(hF a ha).1 with z|z
    ·obtain⟨h,hh,hah⟩:=BV.mp z;have q:=G.kd h (yaL _ hh);unfold Ef at q;rw[eh h hh]at q;exact q a hah
    ·exact G.new0 z
   ·dsimp[e];exact ek
  ·have k:=G.kd x (yaR _ hx);have st:∀a∈x.F,a∉(hs++L).flatMap Hd.own->a∉((⟨⟨key,v,r⟩,F⟩:Hd)::L).flatMap Hd.own:=λa ha n z=>by
    rw[Bh,eF]at z;rcases yaM z with z|z
    ·rcases(hF a z).1 with w|w;exact n (by rw[Bo,eo];exact yaL _ w)
     ·obtain⟨o,e⟩:=(G.rp x (yaR _ hx)).dom a ha;rw[w]at e;cases e
    ·exact n (by rw[Bo];exact yaR _ z)
   unfold Ef at k|-;split at k;exact k;exact k;exact λa ha=>st a ha (k a ha)
   ·delta j p e;obtain⟨g,h1,h2,h3,h4,h5⟩:=k;rcases yaM h1 with hg|hg;exact absurd (by rw[e];rfl) (hr x hx g hg j h2)
    ·apply⟨g,ymC _ hg,h2,h3,λa ha=>(h4 a ha).imp id (st a ha),λq hq=>⟨(h5 q hq).1,?_⟩⟩;exact jx off (F:=g.F) (apM g hg) (G.muF (yaR _ hg) h3) (λa ha=>ha) (G.ndF (yaR _ hg) h3) (G.rp g (yaR _ hg)) (h5 q hq).1 (h5 q hq).2
 ·have g:=G.ks;rw[Ch]at g;have g2:=(Ba.mp g).2.1;rw[Bt];cases key with
  | none=>exact g2
  | some j=>exact BB.mpr ⟨hkey j rfl,g2⟩
 ·apply off b o (G.fr b o e n) λhm=>?_;rcases(adM b hm).2 with z|z;rw[z]at e;cases e;exact n z
 ·obtain⟨o,e⟩:=G.iol a ha;by_cases hm:a∈hs.flatMap (·.F);exact dom a hm;exact⟨o,off a o e hm⟩
end
def je{α β:Type}{f : α->β}{N M:List β}(p:N.Perm M):∀L:List α,L.map f=N->∃L',L.Perm L'/\L'.map f=M:=by
 induction p with
 | nil=>intro L h;exact⟨L,List.Perm.refl _,h⟩
 | cons x p ih=>
  intro L h;cases L with
  | nil=>cases h
  | cons a L=>
   rw[Bj,CH.injEq]at h;obtain⟨L',h1,h2⟩:=ih L h.2;exact⟨a::L',h1.cons a,by rw[Bj,h.1,h2]⟩
 | swap x y l=>
  intro L h;cases L with
  | nil=>cases h
  | cons a L=>
   cases L with
   | nil=>cases h
   | cons b L=>
    dsimp[Bj,CH.injEq]at h;exact⟨b::a::L,List.Perm.swap _ _ _,by simp[h.1,h.2.1,h.2.2]⟩
 | trans p q ih1 ih2=>
  intro L h;obtain⟨L1,h1,h2⟩:=ih1 L h;obtain⟨L2,h3,h4⟩:=ih2 L1 h2;exact⟨L2,h1.trans h3,h4⟩
abbrev Eb(Γ:Gm)(H:Hp)(X:List En):Prop:=∃L,GW Γ H L/\L.map (·.e)=X
section
variable {Γ:Gm}{H H':Hp}{X Y:List En}{e:En}
def Eb.perm(S:Eb Γ H X)(p:X.Perm Y):Eb Γ H Y:=by
 obtain⟨L,g,e⟩:=S;obtain⟨L',h1,h2⟩:=je p L e;exact⟨L',g.perm h1,h2⟩
def ay{α β:Type}{f : α->β}{L:List α}{b : β}{X:List β}(h:L.map f=b::X):∃a L',L=a::L'/\f a=b/\L'.map f=X:=by
 cases L with
 | nil=>cases h
 | cons a L=>rw[Bj,CH.injEq]at h;exact⟨a,L,rfl,h.1,h.2⟩
def bA{α β:Type}{f : α->β}:∀{A:List β} {L:List α} {B:List β},L.map f=A++B->∃L1 L2,L=L1++L2/\L1.map f=A/\L2.map f=B
 | [],L,B,h=>⟨[],L,rfl,rfl,h⟩
 | a::A,L,B,h=>by
  obtain⟨x,L',rfl,h1,h2⟩:=ay h;obtain⟨L1,L2,rfl,h3,h4⟩:=bA h2;exact⟨x::L1,L2,rfl,by rw[Bj,h1,h3],h4⟩
def Eb.drop(S:Eb Γ H (e::X))(hk:e.key=none):Eb Γ H X:=by
 obtain⟨L,g,h⟩:=S;obtain⟨x,L',rfl,h1,h2⟩:=ay h;subst h1;exact⟨L',g.drop hk,h2⟩
def Eb.dropK(S:Eb Γ H (e::X))(hr:∀g∈X,∀j,e.key=some j->g.r.k.root≠some j):Eb Γ H X:=by
 obtain⟨L,g,h⟩:=S;obtain⟨x,L',rfl,h1,h2⟩:=ay h;subst h1;apply⟨L',g.dropK λy hy j hj=>hr y.e (by rw[<-h2];exact By hy) j hj,h2⟩
abbrev aA(M:List Nat) (e:En):Bool:=match e.r.k.root with
 | some j=>!M.contains j
 | none=>true
abbrev af(M:List Nat) (E:List En):List En:=E.filter (aA M)
def nZ(e:En):aA [] e=true:=by unfold aA;split<;>rfl
def bj(E:List En):af [] E=E:=by unfold af;rw[BY];intro a _;exact nZ a
def aF(M:List Nat)(A B:List En):af M (A++B)=af M A++af M B:=Do ..
def ft(M N:List Nat)(e:En):aA (M++N) e=(aA N e&&aA M e):=by
 unfold aA;split
 ·rename_i j _;by_cases h1:j∈M<;>by_cases h2:j∈N<;>simp[h1,h2]
 ·rfl
def ag(M N:List Nat)(E:List En):af N (af M E)=af (M++N) E:=by
 unfold af;rw[CZ];congr 1;funext e;rw[ft]
def Eb.kill(S:Eb Γ H X)(M:List Nat):Eb Γ H (af M X):=by
 obtain⟨L,g,h⟩:=S;apply⟨L.filter λx=>aA M x.e,g.filter _ λx _ ho=>?_,?_⟩
 ·unfold aA;cases k:x.e.r.k with
  | vw r p=>rw[k]at ho;cases ho
  | ow=>rfl
  | io _=>rfl
 ·rw[<-h];unfold af;rw[Cq];rfl
def Eb.push(S:Eb Γ H X){v:V}{i:I}(h:RpI Γ.K H i v):Eb Γ H (⟨none,v,⟨.ow,.im i⟩⟩::X):=by
 obtain⟨L,g,hX⟩:=S;exact⟨_,g.push (v:=v) (r:=⟨.ow,.im i⟩) (cu h) (λa ha=>by cases ha) (.inr rfl),by rw[Bj,hX]⟩
def Eb.rekey(S:Eb Γ H (e::X))(hk:e.key=none){key:Option Nat}(hn:∀j,key=some j->∀g∈X,g.key≠some j):Eb Γ H (⟨key,e.v,e.r⟩::X):=by
 obtain⟨L,g,h⟩:=S;obtain⟨x,L',rfl,h1,h2⟩:=ay h;subst h1;apply⟨_,g.rekey hk (key:=key) λj hj hm=>?_,by rw[Bj,h2]⟩;obtain⟨y,hy,hyk⟩:=BE.mp hm;exact hn j hj y.e (by rw[<-h2];exact By hy) hyk
def Eb.rd(S:Eb Γ H X)(he:e∈X):∃F,Rp Γ.K H e.r.t e.v F:=by
 obtain⟨L,g,rfl⟩:=S;obtain⟨h,hh,rfl⟩:=Bm.mp he;exact⟨h.F,g.rp h hh⟩
def Eb.view(S:Eb Γ H X)(he:e∈X){j:Nat}(hk:e.key=some j)(ho:e.r.k.isOw=true):Eb Γ H (⟨none,e.v,⟨.vw (some j) (some []),e.r.t⟩⟩::X):=by
 obtain⟨L,g,rfl⟩:=S;obtain⟨h,hh,rfl⟩:=Bm.mp he;exact⟨_,g.push (v:=h.e.v) (r:=⟨.vw (some j) (some []),h.e.r.t⟩) (g.rp h hh) ⟨h,hh,hk,ho,λa ha=>.inl ha,λq hq=>by cases hq;exact⟨rfl,rfl⟩⟩ (.inl rfl),rfl⟩
def Eb.copy(S:Eb Γ H X)(he:e∈X)(ho:e.r.k.isOw=false):Eb Γ H (⟨none,e.v,e.r⟩::X):=by
 obtain⟨L,g,rfl⟩:=S;obtain⟨h,hh,rfl⟩:=Bm.mp he;exact⟨_,g.push (v:=h.e.v) (r:=h.e.r) (F:=h.F) (g.rp h hh) (g.kd h hh) (.inl ho),rfl⟩
def Eb.part(S:Eb Γ H X)(he:e∈X){ro:Option Nat}{p:Option (List Ac)}(ho:e.r.k=.vw ro p){P:V->Prop}{s:T}(hp:∀F,Rp Γ.K H e.r.t e.v F->∃w G,P w/\Rp Γ.K H s w G/\∀a∈G,a∈F):∃w,P w/\Eb Γ H (⟨none,w,⟨.vw ro none,s⟩⟩::X):=by
 obtain⟨L,g,rfl⟩:=S;obtain⟨h,hh,rfl⟩:=Bm.mp he;obtain⟨w,G,h1,h2,h3⟩:=hp h.F (g.rp h hh);apply⟨w,h1,_,g.push (v:=w) (r:=⟨.vw ro none,s⟩) (F:=G) h2 ?_ (.inl rfl),rfl⟩;have k:=g.kd h hh;unfold Ef at k|-;rw[ho]at k;cases ro with
 | none=>exact λa ha=>k a (h3 a ha)
 | some j=>
  obtain⟨x,x1,x2,x3,x4,x5⟩:=k;exact⟨x,x1,x2,x3,λa ha=>x4 a (h3 a ha),λq hq=>by cases hq⟩
def Eb.partP(S:Eb Γ H X)(he:e∈X){j:Nat}{q:List Ac}(ho:e.r.k=.vw (some j) (some q)){a:Ac}{s:T}(hs:gt e.r.t a=some s):∃w,at1 Γ.K H e.v a w/\Eb Γ H (⟨none,w,⟨.vw (some j) (some (q++[a])),s⟩⟩::X):=by
 obtain⟨L,g,rfl⟩:=S;obtain⟨h,hh,rfl⟩:=Bm.mp he;have k:=g.kd h hh;unfold Ef at k;rw[ho]at k;obtain⟨x,x1,x2,x3,x4,x5⟩:=k;obtain⟨y1,y2⟩:=x5 q rfl;have ms:x.e.r.t.sub (q++[a])=some s:=nC y1 hs;obtain⟨w,A,G,B,z1,z2,z3,_⟩:=(g.rp x x1).atP (g.muF x1 x3) (g.ndF x1 x3) ms;obtain⟨w0,A0,G0,B0,u1,u2,u3,_⟩:=(g.rp x x1).atP (g.muF x1 x3) (g.ndF x1 x3) y1;have ew:=eM u1 y2;subst ew;have nG:G0.Nodup:=by
  have:=g.ndF x1 x3;rw[u3]at this;exact(Ba.mp (Ba.mp this).1).2.1
 have mG:∀b∈G0,Mu H b:=λb hb=>g.muF x1 x3 b (by rw[u3];exact yaL _ (yaR _ hb));obtain⟨w',A',G',B',v1,v2,v3,_⟩:=u2.at1 mG nG hs;have e2:=eM (mw u1 v1) z1;subst e2;apply⟨w',v1,_,g.push (v:=w') (r:=⟨.vw (some j) (some (q++[a])),s⟩) (F:=G) z2 ⟨x,x1,x2,x3,λb hb=>.inl (by rw[z3];exact yaL _ (yaR _ hb)),λq' hq=>?_⟩ (.inl rfl),rfl⟩;cases hq;exact⟨ms,z1⟩
abbrev aM:List V->List T->List En
 | v::vs,t::ts=>⟨none,v,⟨.ow,t⟩⟩::aM vs ts
 | _,_=>[]
def iC:∀{vs:List V} {ts:List T} {L:List Hd},vs.length=ts.length->L.map (·.e)=aM vs ts->(∀h∈L,Rp Γ.K H h.e.r.t h.e.v h.F)->Rps Γ.K H ts vs (L.flatMap (·.F))/\∀h∈L,h.e.r.k=.ow/\h.e.key=none
 | [],[],L,_,h,_=>by
  have:L=[]:=List.map_eq_nil_iff.mp h;subst this;exact⟨Rps.nil,by simp⟩
 | v::vs,t::ts,L,hl,h,hr=>by
  obtain⟨x,L',rfl,h1,h2⟩:=ay h;obtain⟨r1,r2⟩:=iC (vs:=vs) (ts:=ts) (by exists hl) h2 λy hy=>hr y (ymC _ hy);have rx:=hr x ymS;rw[h1]at rx;rw[Bh];apply⟨Rps.cons rx r1,λy hy=>?_⟩;rcases ycM hy with rfl|hy;rw[h1];exact⟨rfl,rfl⟩;exact r2 y hy
 | [],_::_,_,h,_,_=>by cases h
 | _::_,[],_,h,_,_=>by cases h
def Eb.use{vs:List V}{ts:List T}(S:Eb Γ H (aM vs ts++X))(hl:vs.length=ts.length):∃F,Rps Γ.K H ts vs F/\F.Nodup/\(∀a∈F,Mu H a) /\
  ∀H' v t F',Ed F H H'->(∀a∈F,∃o,H' a=some o)->F'.Nodup->(∀a∈F',(a∈F\/H a=none)/\Mu H' a)->Rp Γ.K H' t v F'->Eb Γ H' (⟨none,v,⟨.ow,t⟩⟩::X):=by
 obtain⟨L,g,h⟩:=S;obtain⟨hs,L2,rfl,h1,h2⟩:=bA h;obtain⟨r1,r2⟩:=iC hl h1 λy hy=>g.rp y (yaL _ hy);have ho:∀h∈hs,h.e.r.k.isOw=true:=λh hh=>by rw[(r2 h hh).1];rfl
 have nd:=g.nd;rw[Bo,dE ho]at nd;apply⟨_,r1,(Ba.mp nd).1,λa ha=>(g.ad a (by rw[Bo,dE ho];exact yaL _ ha)).1,λH' v t F' off dom nd' hF rp=>?_⟩;apply⟨_,g.step ho (λx _ y hy j hj=>by rw[(r2 y hy).2]at hj;cases hj) off dom (key:=none) (v:=v) (r:=⟨.ow,t⟩) nd' hF rp (.inl ⟨rfl,λy hy=>(r2 y hy).1⟩) (λj hj=>by cases hj),by rw[Bj,h2]⟩
def Eb.mutP{vs:List V}{ts:List T}{p:List Ac}{s:T}(S:Eb Γ H (e::aM vs ts++X))(hl:vs.length=ts.length)(ho:e.r.k.isOw=true)(hr:∀g∈X,∀j,e.key=some j->g.r.k.root≠some j)(hs:e.r.t.sub p=some s)(hX:∀j,e.key=some j->∀g∈X,g.key≠some j) :
  ∃w G F,atP Γ.K H e.v p w/\Rp Γ.K H s w G/\Rps Γ.K H ts vs F/\(G++F).Nodup/\(∀a∈G++F,Mu H a) /\
  ∀H' s' G',Ed G H H'->(∀a∈G,∃o,H' a=some o)->G'.Nodup->(∀a∈G',(a∈G++F\/H a=none)/\Mu H' a)->Rp Γ.K H' s' w G'->Eb Γ H' (⟨e.key,e.v,⟨e.r.k,e.r.t.put p s'⟩⟩::X):=by
 obtain⟨L,g,h⟩:=S;rw[Bx]at h;obtain⟨x,L',rfl,h1,h2⟩:=ay h;obtain⟨hs',L2,rfl,h3,h4⟩:=bA h2;subst h1;obtain⟨r1,r2⟩:=iC hl h3 λy hy=>g.rp y (ymC _ (yaL _ hy));have ho':∀h∈x::hs',h.e.r.k.isOw=true:=λh hh=>by
  rcases ycM hh with rfl|hh;exact ho;rw[(r2 h hh).1];rfl
 have nx:=g.ndF ymS ho;obtain⟨w,A,G,B,z1,z2,z3,z4⟩:=(g.rp x ymS).atP (g.muF ymS ho) nx hs;have nd:=g.nd;rw[show x::(hs'++L2)=(x::hs')++L2 from rfl,Bo,dE ho']at nd;have nd1:=(Ba.mp nd).1;rw[Bh,z3]at nd1;have mu:∀a∈(x::hs').flatMap (·.F),Mu H a:=λa ha=>(g.ad a (by rw[show x::(hs'++L2)=(x::hs')++L2 from rfl,Bo,dE ho'];exact yaL _ ha)).1;have inM:∀a,a∈G++hs'.flatMap (·.F)->a∈(x::hs').flatMap (·.F):=λa ha=>by
  rw[Bh,z3];rcases yaM ha with z|z;exact yaL _ (yaL _ (yaR _ z));exact yaR _ z
 have ndA:=(Ba.mp nd1);have ndG:(G++hs'.flatMap (·.F)).Nodup:=Ba.mpr ⟨(Ba.mp (Ba.mp ndA.1).1).2.1,ndA.2.1,λa ha b hb=>ndA.2.2 a (yaL _ (yaR _ ha)) b hb⟩;apply⟨w,G,hs'.flatMap (·.F),z1,z2,r1,ndG,λa ha=>mu a (inM a ha),λH' s' G' off dom nd' hG rp=>?_⟩;have apAB:∀a,(a∈A\/a∈B)->a∉G++hs'.flatMap (·.F):=λa ha hm=>by
  rcases yaM hm with z|z
  ·rcases ha with q|q;exact(Ba.mp (Ba.mp ndA.1).1).2.2 a q a z rfl;exact(Ba.mp ndA.1).2.2 a (yaR _ z) a q rfl
  ·rcases ha with q|q;exact ndA.2.2 a (yaL _ (yaL _ q)) a z rfl;exact ndA.2.2 a (yaR _ q) a z rfl
 have rp':=z4 H' s' G' off rp;apply⟨_,g.step (hs:=x::hs') (L:=L2) ho' (λy hy z hz j hj=>?_) (off.mono λa ha=>inM a (yaL _ ha)) (λa ha=>?_) (key:=x.e.key) (v:=x.e.v) (r:=⟨x.e.r.k,x.e.r.t.put p s'⟩) (F:=A++G'++B) ?_ (λa ha=>?_) rp' ?_ (λj hj hm=>?_),by rw[Bj,h4]⟩
 ·rcases ycM hz with rfl|hz;exact hr y.e (by rw[<-h4];exact By hy) j hj;rw[(r2 z hz).2]at hj;cases hj
 ·by_cases hm:a∈G;exact dom a hm
  ·obtain⟨o,e1,_⟩:=mu a ha;exact⟨o,off a o e1 hm⟩
 ·have ab:=Ba.mp ndA.1;have aG:=Ba.mp ab.1;have nG:∀a,(a∈A\/a∈B)->a∉G':=λa ha hg=>by
   rcases(hG a hg).1 with z|z;exact apAB a ha z
   ·have:Mu H a:=mu a (by
     rw[Bh,z3];rcases ha with q|q;exact yaL _ (yaL _ (yaL _ q));exact yaL _ (yaR _ q))
    obtain⟨o,e1,_⟩:=this;rw[z]at e1;cases e1
  apply Ba.mpr ⟨Ba.mpr ⟨aG.1,nd',λa ha b hb e=>nG a (.inl ha) (e▸hb)⟩,ab.2.1,λa ha b hb e=>?_⟩;subst e;rcases yaM ha with z|z;exact ab.2.2 a (yaL _ z) a hb rfl;exact nG a (.inr hb) z
 ·have old:a∈A\/a∈B->(a∈(x::hs').flatMap (·.F)\/H a=none)/\Mu H' a:=λq=>by
   have hm:a∈(x::hs').flatMap (·.F):=by
    rw[Bh,z3];rcases q with q|q;exact yaL _ (yaL _ (yaL _ q));exact yaL _ (yaR _ q)
   obtain⟨o,e1,m1⟩:=mu a hm;exact⟨.inl hm,o,off a o e1 (λz=>apAB a q (yaL _ z)),m1⟩
  rcases yaM ha with z|z
  ·rcases yaM z with z|z;exact old (.inl z);exact⟨(hG a z).1.imp (inM a) id,(hG a z).2⟩
  ·exact old (.inr z)
 ·have k:=g.kd x ymS;unfold Ef at k;cases ek:x.e.r.k with
  | ow=>
   apply .inl ⟨rfl,λy hy=>?_⟩;rcases ycM hy with rfl|hy;exact ek;exact(r2 y hy).1
  | io n=>rw[ek]at k;exact .inr ⟨n,rfl,k⟩
  | vw a b=>rw[ek]at ho;cases ho
 ·obtain⟨y,hy,hyk⟩:=BE.mp hm;exact hX j hj y.e (by rw[<-h4];exact By hy) hyk
end
protected def Rho:=List (Option R)
abbrev az:Nat->List (Option V)->Rho->List En
 | i,some v::Z,some r::O=>⟨some i,v,r⟩::az (i+1) Z O
 | i,none::Z,_::O=>az (i+1) Z O
 | i,some _::Z,none::O=>az (i+1) Z O
 | _,_,_=>[]
def aX{r:R}:∀{k:Nat} {Z:List (Option V)} {O:Rho} {i:Nat} {v:V},Z[i]?=some (some v)->O[i]?=some (some r)->(az k Z O).Perm (⟨some (k+i),v,r⟩::az k Z (O.set i none))
 | _,[],_,_,_,h,_=>by simp at h
 | _,_::_,[],_,_,_,h=>by simp at h
 | k,x::Z,y::O,0,v,h1,h2=>by
  simp at h1 h2;subst h1 h2;simp[az]
 | k,x::Z,y::O,i+1,v,h1,h2=>by
  have ih:=aX (k:=k+1) (Z:=Z) (O:=O) (i:=i) (v:=v) (r:=r) (by exists h1) (by exists h2);rw[show k+1+i=k+(i+1) by omega]at ih;cases x with
  | none=>simpa[az]using ih
  | some x=>
   cases y with
   | none=>simpa[az]using ih
   | some y=>
    dsimp[az,Dp];exact(List.Perm.cons _ ih).trans (List.Perm.swap _ _ _)
def iT:∀{k:Nat} {Z:List (Option V)} {O:Rho} {i:Nat} {x:Option V},az k (Z.set i x) (O.set i none)=az k Z (O.set i none)
 | _,[],O,_,_=>rfl
 | _,x::Z,[],i,y=>by cases i<;>cases x<;>simp[az]<;>cases y<;>simp[az]
 | _,x::Z,y::O,0,z=>by cases x<;>cases z<;>simp[az]
 | k,x::Z,y::O,i+1,z=>by
  have ih:=iT (k:=k+1) (Z:=Z) (O:=O) (i:=i) (x:=z);cases x<;>cases y<;>simp[az,ih]
def dz{k:Nat}{Z:List (Option V)}{O:Rho}{i:Nat}{v:V}{r:R}(h1:i<Z.length)(h2:i < O.length):(az k (Z.set i (some v)) (O.set i (some r))).Perm (⟨some (k+i),v,r⟩::az k Z (O.set i none)):=by
 have:=aX (k:=k) (Z:=Z.set i (some v)) (O:=O.set i (some r)) (i:=i) (v:=v) (r:=r) (by simp[h1]) (by simp[h2]);rw[List.set_set,iT]at this;exact this
def bY{e:En}:∀{k:Nat} {Z:List (Option V)} {O:Rho},e∈az k Z O->∃i,e.key=some (k+i)/\O[i]?=some (some e.r)/\Z[i]?=some (some e.v)
 | _,[],_,h=>by simp[az]at h
 | _,x::_,[],h=>by cases x<;>simp[az]at h
 | k,x::Z,y::O,h=>by
  have go:e∈az (k+1) Z O->∃i,e.key=some (k+i)/\(y::O)[i]?=some (some e.r)/\(x::Z)[i]?=some (some e.v):=λh=>by
   obtain⟨i,h1,h2,h3⟩:=bY h;exact⟨i+1,by rw[h1];congr 1;omega,by simpa using h2,by simpa using h3⟩
  cases x with
  | none=>dsimp[az]at h;exact go h
  | some x=>
   cases y with
   | none=>dsimp[az]at h;exact go h
   | some y=>
    dsimp[az]at h;rcases ycM h with rfl|h;exact⟨0,rfl,rfl,rfl⟩;exact go h
abbrev dn(M:List Nat) (r:R):Bool:=match r.k.root with
 | some j=>!M.contains j
 | none=>true
abbrev bG(M:List Nat):Option R->Option R
 | some r=>if dn M r=true then some r else none
 | none=>none
abbrev au(M:List Nat) (O:Rho):Rho:=O.map (bG M)
def aD(M:List Nat)(O:Rho):(au M O).length=O.length:=by unfold au;rw[Br]
def cN(M:List Nat):∀{k:Nat} {Z:List (Option V)} {O:Rho},az k Z (au M O)=af M (az k Z O)
 | _,[],_=>rfl
 | _,x::_,[]=>by cases x<;>rfl
 | k,x::Z,y::O=>by
  have ih:=cN M (k:=k+1) (Z:=Z) (O:=O);have e:au M (y::O)=bG M y::au M O:=rfl;rw[e];cases x with
  | none=>simpa[az]using ih
  | some v=>
   cases y with
   | none=>simpa[az,bG]using ih
   | some r=>
    have hk:aA M ⟨some k,v,r⟩=dn M r:=rfl;cases q:dn M r with
    | true=>dsimp[az,bG,q,if_true,af,Ce,hk,ih]
    | false=>
     dsimp[az,bG,q,af,Ce,hk,ih];simp[az,ih,af]
def iY{M:List Nat}{O:Rho}{i:Nat}{r:R}(h:(au M O)[i]?=some (some r)) : O[i]?=some (some r):=by
 unfold au at h;rw[Bv]at h;cases q : O[i]? with
 | none=>rw[q]at h;cases h
 | some o=>
  rw[q]at h;cases o with
  | none=>cases h
  | some x=>
   have h':bG M (some x)=some r:=by exists h
   dsimp[bG]at h';split at h';rw[Bq.inj h'];exact absurd h' ∅
def oa{M:List Nat}{O:Rho}{i:Nat}{r:R}(h : O[i]?=some (some r))(ho:r.k.isOw=true):(au M O)[i]?=some (some r):=by
 unfold au;rw[Bv,h];have:dn M r=true:=by
  unfold dn;cases e:r.k with
  | vw a b=>rw[e]at ho;cases ho
  | ow=>rfl
  | io _=>rfl
 simp[bG,this]
structure Sim(Γ:Gm)(H:Hp)(O:Rho)(Z:St)(E:List En):Prop where
 sl:Eb Γ H (E++az 0 Z O)
 al:∀(i:Nat) r,O[i]?=some (some r)->∃v,Z[i]?=some (some v)
 len:Z.length=O.length
 hi:∀e∈E,∀j,e.key=some j->O.length<=j
section
variable {Γ:Gm}{H H':Hp}{O:Rho}{Z:St}{E E':List En}{e:En}{r:R}{v w x:V}{i j:Nat}{t s:T}
def Sim.perm(S:Sim Γ H O Z E)(p:E.Perm E'):Sim Γ H O Z E':=⟨S.sl.perm (p.append_right _),S.al,S.len,λe he=>S.hi e (p.mem_iff.mpr he)⟩
def Sim.drop(S:Sim Γ H O Z (e::E))(hk:e.key=none):Sim Γ H O Z E:=⟨S.sl.drop hk,S.al,S.len,λx hx=>S.hi x (ymC _ hx)⟩
def Sim.swap{f:En}(S:Sim Γ H O Z (e::f::E)):Sim Γ H O Z (f::e::E):=S.perm (List.Perm.swap _ _ _)
def Sim.imm(S:Sim Γ H O Z E){i:I}(h:RpI Γ.K H i v):Sim Γ H O Z (⟨none,v,⟨.ow,.im i⟩⟩::E):=
 ⟨S.sl.push h,S.al,S.len,λx hx j hj=>by
  rcases ycM hx with rfl|hx;cases hj;exact S.hi x hx j hj⟩
def Sim.rd(S:Sim Γ H O Z E)(he:e∈E):∃F,Rp Γ.K H e.r.t e.v F:=S.sl.rd (yaL _ he)
def Sim.slot(S:Sim Γ H O Z E)(h : O[i]?=some (some r)):∃v,Z[i]?=some (some v)/\(⟨some i,v,r⟩:En)∈E++az 0 Z O:=by
 obtain⟨v,hv⟩:=S.al i r h;apply⟨v,hv,yaR _ ((aX hv h).mem_iff.mpr ?_)⟩;rw[BJ];exact ymS
abbrev rdR(i:Nat):R->R
 | ⟨.ow,.im x⟩=>⟨.ow,.im x⟩
 | ⟨.vw a b,t⟩=>⟨.vw a b,t⟩
 | ⟨_,t⟩=>⟨.vw (some i) (some []),t⟩
def Sim.cons(S:Sim Γ H O Z E)(h:Eb Γ H' (⟨none,v,r⟩::(E++az 0 Z O))):Sim Γ H' O Z (⟨none,v,r⟩::E):=
 ⟨h,S.al,S.len,λx hx j hj=>by
  rcases ycM hx with rfl|hx;cases hj;exact S.hi x hx j hj⟩
def Sim.var(S:Sim Γ H O Z E)(h : O[i]?=some (some r)):∃v,Z[i]?=some (some v)/\Sim Γ H O Z (⟨none,v,rdR i r⟩::E):=by
 obtain⟨v,hv,hm⟩:=S.slot h;apply⟨v,hv,S.cons ?_⟩;obtain⟨k,t⟩:=r;cases k with
 | vw a b=>exact S.sl.copy (e:=⟨some i,v,⟨.vw a b,t⟩⟩) hm rfl
 | io n=>
  have:=S.sl.view (e:=⟨some i,v,⟨.io n,t⟩⟩) hm rfl rfl;cases t<;>exact this
 | ow=>
  cases t with
  | im x=>
   obtain⟨F,rp⟩:=S.sl.rd hm;exact S.sl.push (aS rp).1
  | tup _=>exact S.sl.view (e:=⟨some i,v,⟨.ow,_⟩⟩) hm rfl rfl
  | li _=>exact S.sl.view (e:=⟨some i,v,⟨.ow,_⟩⟩) hm rfl rfl
  | lst _=>exact S.sl.view (e:=⟨some i,v,⟨.ow,_⟩⟩) hm rfl rfl
  | di _=>exact S.sl.view (e:=⟨some i,v,⟨.ow,_⟩⟩) hm rfl rfl
  | dc _=>exact S.sl.view (e:=⟨some i,v,⟨.ow,_⟩⟩) hm rfl rfl
  | ins _ _=>exact S.sl.view (e:=⟨some i,v,⟨.ow,_⟩⟩) hm rfl rfl
def Sim.kill(S:Sim Γ H O Z E)(M:List Nat):Sim Γ H (au M O) Z (af M E):=by
 apply⟨?_,λi r h=>S.al i r (iY h),by rw[aD];exact S.len,λx hx j hj=>by rw[aD];exact S.hi x (Be.mp hx).1 j hj⟩;rw[cN,<-aF];exact S.sl.kill M
def g9{M:List Nat}{X:List En}(hi:i∈M):∀g∈af M X,g.r.k.root≠some i:=λg hg z=>by
 have:=(Be.mp hg).2;unfold aA at this;rw[z]at this;simp[hi]at this
def Sim.out(S:Sim Γ H O Z E)(h : O[i]?=some (some r))(ho:r.k.isOw=true):∃v,Z[i]?=some (some v)/\Eb Γ H (⟨some i,v,r⟩::(af [i] E++az 0 Z ((au [i] O).set i none))) /\
  (∀g∈af [i] E++az 0 Z ((au [i] O).set i none),g.r.k.root≠some i)/\∀g∈af [i] E++az 0 Z ((au [i] O).set i none),g.key≠some i:=by
 obtain⟨v,hv⟩:=S.al i r h;have S2:=S.kill [i];have h2:=oa (M:=[i]) h ho;have hil:i < O.length:=(Bb.mp h).1;apply⟨v,hv,S2.sl.perm ?_,λg hg=>?_,λg hg hk=>?_⟩
 ·have:=(aX (k:=0) hv h2).append_left (af [i] E);rw[BJ]at this;exact this.trans BD
 ·rcases yaM hg with z|z;exact g9 ∅ g z
  ·have:g∈az 0 Z (au [i] O):=by
    obtain⟨m,h1,h3,h4⟩:=bY z;have hm:m≠i:=λe=>by subst e;simp[aD,hil]at h3
    rw[Bn (Ff hm)]at h3;have:=(aX (k:=0) h4 h3).mem_iff.mpr (ymS);have e:g=⟨some (0+m),g.v,g.r⟩:=by cases g;dsimp[En.mk.injEq,and_self,and_true];exact h1
    rw[e];exact this
   rw[cN]at this;exact g9 ∅ g this
 ·rcases yaM hg with z|z
  ·have:=S2.hi g z i hk;rw[aD]at this;omega
  ·obtain⟨m,h1,h3,h4⟩:=bY z;rw[hk,BJ]at h1;cases h1;simp[aD,hil]at h3
def Sim.back(S:Sim Γ H O Z E){O':Rho}{Z':St}(h:Eb Γ H' (E'++az 0 Z' O'))(hl : O'.length=O.length)(hZ:Z'.length=Z.length)(al:∀(i:Nat) r,O'[i]?=some (some r)->∃v,Z'[i]?=some (some v))(hi:∀e∈E',∀j,e.key=some j->e∈E):Sim Γ H' O' Z' E':=
 ⟨h,al,by rw[hl,hZ];exact S.len,λe he j hj=>by rw[hl];exact S.hi e (hi e he j hj) j hj⟩
abbrev cS(O:Rho) (i:Nat):Bool:=match O[i]? with
 | some (some ⟨.io _,_⟩)=>false
 | some _=>true
 | none=>false
def vX{O:Rho}{Z:St}(al:∀(i:Nat) r,O[i]?=some (some r)->∃v,Z[i]?=some (some v))(h1:i<Z.length):∀(m:Nat) r',(O.set i (some r))[m]?=some (some r')->∃v',(Z.set i (some v))[m]?=some (some v'):=λm r' hm=>by
 by_cases e:m=i;subst e;exact⟨v,by simp[h1]⟩;rw[Bn (Ff e)]at hm|-;exact al m r' hm
def Sim.put(S:Sim Γ H O Z (⟨none,v,r⟩::E))(hi:cS O i=true)(hr:r.k.root≠some i):Sim Γ H ((au [i] O).set i (some r)) (Z.set i (some v)) (af [i] E):=by
 have hil:i < O.length:=by
  unfold cS at hi;cases q : O[i]? with
  | none=>rw[q]at hi;cases hi
  | some o=>exact(Bb.mp q).1
 have hiZ:i<Z.length:=by rw[S.len];exact hil
 have hkeep:aA [i] ⟨none,v,r⟩=true:=by
  unfold aA;split
  ·delta j hj;have:j≠i:=λz=>hr (z▸hj);simp[this]
  ·rfl
 have ek:af [i] (⟨none,v,r⟩::E)=⟨none,v,r⟩::af [i] E:=by unfold af;rw[Ce,if_pos hkeep]
 have S2:=S.kill [i];rw[ek]at S2;have S3:Eb Γ H (⟨none,v,r⟩::(af [i] E++az 0 Z ((au [i] O).set i none)))/\∀g∈af [i] E++az 0 Z ((au [i] O).set i none),g.key≠some i:=by
  cases q:(au [i] O)[i]? with
  | none=>rw[List.getElem?_eq_none_iff,aD]at q;omega
  | some o=>
   cases o with
   | none=>
    have e:(au [i] O).set i none=au [i] O:=by
     apply Cu;intro m;by_cases hm:m=i;subst hm;rw[q];simp[aD,hil];rw[Bn (Ff hm)]
    rw[e];apply⟨S2.sl,λg hg hk=>?_⟩;rcases yaM hg with z|z
    ·have:=S2.hi g (ymC _ z) i hk;rw[aD]at this;omega
    ·obtain⟨m,h1,h3,h4⟩:=bY z;rw[hk,BJ]at h1;cases h1;rw[q]at h3;cases h3
   | some r0=>
    have q0:=iY q;by_cases ho:r0.k.isOw=true
    ·obtain⟨v0,hv0,h1,h2,h3⟩:=S.out q0 ho;rw[ek]at h1 h2 h3;apply⟨h1.dropK λg hg j hj=>by cases hj;exact h2 g hg,λg hg=>h3 g (ymC _ hg)⟩
    ·obtain⟨v0,hv0⟩:=S.al i r0 q0;have p:=(aX (k:=0) hv0 q).append_left (⟨none,v,r⟩::af [i] E);rw[BJ]at p;have h1:=S2.sl.perm (p.trans BD);apply⟨h1.dropK λg hg j hj=>?_,λg hg hk=>?_⟩
     ·cases hj;have h1':g∈af [i] (⟨none,v,r⟩::E)++af [i] (az 0 Z O):=by
       rw[ek,<-cN];rcases yaM hg with z|z;exact yaL _ z
       ·apply yaR _ ?_;obtain⟨m,h1,h3,h4⟩:=bY z;have hm:m≠i:=λe=>by subst e;simp[aD,hil]at h3
        rw[Bn (Ff hm)]at h3;have:=(aX (k:=0) h4 h3).mem_iff.mpr (ymS);have e:g=⟨some (0+m),g.v,g.r⟩:=by cases g;dsimp[En.mk.injEq,and_self,and_true];exact h1
        rw[e];exact this
      rw[<-aF]at h1';exact g9 ∅ g h1'
     ·rcases yaM hg with z|z
      ·have:=S2.hi g (ymC _ z) i hk;rw[aD]at this;omega
      ·obtain⟨m,h1,h3,h4⟩:=bY z;rw[hk,BJ]at h1;cases h1;simp[aD,hil]at h3
 obtain⟨S3,hks⟩:=S3;have S4:=S3.rekey (e:=⟨none,v,r⟩) rfl (key:=some i) λj hj g hg=>by cases hj;exact hks g hg
 apply S2.back (S4.perm ?_) (by simp[aD]) ∅ (vX S2.al hiZ) (λe he j hj=>ymC _ he);have p:=(dz (k:=0) (Z:=Z) (O:=au [i] O) (v:=v) (r:=r) hiZ (by rw[aD];exact hil)).append_left (af [i] E);rw[BJ]at p;exact(BD.symm).trans p.symm
def Sim.mut{vs:List V}{ts:List T}{p:List Ac}{k:Kd}(S:Sim Γ H O Z (aM vs ts++⟨none,w,⟨.vw (some i) (some p),s⟩⟩::E))(hl:vs.length=ts.length)(h : O[i]?=some (some ⟨k,t⟩))(ho:k.isOw=true) :
  ∃G F,Rp Γ.K H s w G/\Rps Γ.K H ts vs F/\(G++F).Nodup/\(∀a∈G++F,Mu H a) /\
  ∀H' s' G',Ed G H H'->(∀a∈G,∃o,H' a=some o)->G'.Nodup->(∀a∈G',(a∈G++F\/H a=none)/\Mu H' a)->Rp Γ.K H' s' w G'->Sim Γ H' ((au [i] O).set i (some ⟨k,t.put p s'⟩)) Z (af [i] E):=by
 have hil:i < O.length:=(Bb.mp h).1;obtain⟨v0,hv0,hm⟩:=S.slot h;have pl:t.sub p=some s/\atP Γ.K H v0 p w:=by
  obtain⟨L,g,e⟩:=S.sl;have:(⟨none,w,⟨.vw (some i) (some p),s⟩⟩:En)∈L.map (·.e):=by rw[e];simp
  obtain⟨y,hy,ey⟩:=Bm.mp this;have kd:=g.kd y hy;unfold Ef at kd;rw[ey]at kd;obtain⟨x,x1,x2,x3,x4,x5⟩:=kd;have hm':(⟨some i,v0,⟨k,t⟩⟩:En)∈L.map (·.e):=by rw[e];exact hm
  obtain⟨z,hz,ez⟩:=Bm.mp hm';have:x=z:=by
   have nk:=g.ks;by_cases q:x=z;exact q
   ·exfalso;obtain⟨A,B,rfl⟩:=CD x1;rw[Ch,Bt,x2]at nk;rcases yaM hz with hz|hz;exact(Ba.mp nk).2.2 i (BE.mpr ⟨z,hz,by rw[ez]⟩) i ymS rfl
    ·rcases ycM hz with hz|hz;exact q hz.symm;exact(BB.mp (Ba.mp nk).2.1).1 (BE.mpr ⟨z,hz,by rw[ez]⟩)
  subst this;have:=x5 p rfl;rw[ez]at this;exact this
 obtain⟨v1,hv1,h1,h2,h3⟩:=S.out h ho;rw[hv0]at hv1;cases hv1;have ktemps:∀{vs:List V} {ts:List T},af [i] (aM vs ts)=aM vs ts:=by
  intro vs
  induction vs with
  | nil=>intro ts;rfl
  | cons v vs ih=>
   intro ts;cases ts with
   | nil=>rfl
   | cons t ts=>show List.filter _ _=_;rw[aM,Ce,if_pos (show aA [i] ⟨none,v,⟨.ow,t⟩⟩=true from rfl)];exact congrArg _ ih
 have kv:aA [i] ⟨none,w,⟨.vw (some i) (some p),s⟩⟩=false:=by unfold aA;simp[Kd.root]
 have ek:af [i] (aM vs ts++⟨none,w,⟨.vw (some i) (some p),s⟩⟩::E)=aM vs ts++af [i] E:=by
  rw[aF,ktemps];unfold af;rw[Ce,if_neg (by rw[kv];simp)]
 rw[ek]at h1 h2 h3;rw[Bu]at h1 h2 h3;obtain⟨w',G,F,m1,m2,m3,m4,m5,m6⟩:=Eb.mutP (e:=⟨some i,v0,⟨k,t⟩⟩) (X:=af [i] E++az 0 Z ((au [i] O).set i none)) (by rw[Bx];exact h1) hl ho (λg hg j hj=>by cases hj;exact h2 g (yaR _ hg)) pl.1 (λj hj g hg=>by cases hj;exact h3 g (yaR _ hg));have ew:=eM m1 pl.2;subst ew;apply⟨G,F,m2,m3,m4,m5,λH' s' G' off dom nd hG rp=>?_⟩;have S5:=m6 H' s' G' off dom nd hG rp;have S2:=S.kill [i];apply S2.back (S5.perm ?_) (by simp[aD]) rfl (λm r' hm=>?_) (λe he j hj=>by rw[ek];exact yaR _ he)
 ·have p:=(dz (k:=0) (Z:=Z) (O:=au [i] O) (v:=v0) (r:=⟨k,t.put p s'⟩) (by rw[S.len];exact hil) (by rw[aD];exact hil)).append_left (af [i] E);rw[BJ]at p;have eZ:Z.set i (some v0)=Z:=by
   apply Cu;intro m;by_cases hm:m=i;subst hm;rw[hv0];simp[S.len,hil];rw[Bn (Ff hm)]
  rw[eZ]at p;exact(BD.symm).trans p.symm
 ·by_cases e:m=i;subst e;exact⟨v0,hv0⟩;rw[Bn (Ff e)]at hm;exact S2.al m r' hm
def Sim.move(S:Sim Γ H O Z (⟨none,w,⟨.vw (some i) (some []),s⟩⟩::E))(h : O[i]?=some (⇑t)):Sim Γ H ((au [i] O).set i none) Z (⟨none,w,⟨.ow,s⟩⟩::af [i] E):=by
 have hil:i < O.length:=(Bb.mp h).1;obtain⟨v0,hv0,hm⟩:=S.slot h;have pl:s=t/\w=v0:=by
  obtain⟨L,g,e⟩:=S.sl;have:(⟨none,w,⟨.vw (some i) (some []),s⟩⟩:En)∈L.map (·.e):=by rw[e];simp
  obtain⟨y,hy,ey⟩:=Bm.mp this;have kd:=g.kd y hy;unfold Ef at kd;rw[ey]at kd;obtain⟨x,x1,x2,x3,x4,x5⟩:=kd;have hm':(⟨some i,v0,⟨.ow,t⟩⟩:En)∈L.map (·.e):=by rw[e];exact hm
  obtain⟨z,hz,ez⟩:=Bm.mp hm';have:x=z:=by
   have nk:=g.ks;by_cases q:x=z;exact q
   ·exfalso;obtain⟨A,B,rfl⟩:=CD x1;rw[Ch,Bt,x2]at nk;rcases yaM hz with hz|hz;exact(Ba.mp nk).2.2 i (BE.mpr ⟨z,hz,by rw[ez]⟩) i ymS rfl
    ·rcases ycM hz with hz|hz;exact q hz.symm;exact(BB.mp (Ba.mp nk).2.1).1 (BE.mpr ⟨z,hz,by rw[ez]⟩)
  subst this;have:=x5 [] rfl;rw[ez]at this;obtain⟨q1,q2⟩:=this;rw[T.sub]at q1;cases q1;exact⟨rfl,q2⟩
 obtain⟨rfl,rfl⟩:=pl;obtain⟨v1,hv1,h1,h2,h3⟩:=S.out h rfl;rw[hv0]at hv1;cases hv1;have kv:aA [i] ⟨none,w,⟨.vw (some i) (some []),s⟩⟩=false:=by unfold aA;simp[Kd.root]
 have ek:af [i] (⟨none,w,⟨.vw (some i) (some []),s⟩⟩::E)=af [i] E:=by
  unfold af;rw[Ce,if_neg (by rw[kv];simp)]
 rw[ek]at h1 h2 h3;have S2:=S.kill [i];apply S2.back (E':=⟨none,w,⟨.ow,s⟩⟩::af [i] E) ?_ (by simp[aD]) rfl (λm r' hm=>?_) (λe he j hj=>?_)
 ·obtain⟨L,g,e⟩:=h1;obtain⟨x,L',rfl,e1,e2⟩:=ay e;have:=g.step (hs:=[x]) (L:=L') (H':=H) (λy hy=>by rw[ysM hy,e1];rfl) (λy hy z hz j hj=>by
   rw[ysM hz,e1]at hj;cases hj;exact h2 y.e (by rw[<-e2];exact By hy)) (Ed.refl _ _) (λa ha=>by
    obtain⟨y,hy,ha⟩:=BV.mp ha;rw[ysM hy]at ha;exact(g.rp x ymS).dom a ha) (key:=none) (v:=w) (r:=⟨.ow,s⟩) (F:=x.F) (g.ndF ymS (by rw[e1];rfl)) (λa ha=>⟨.inl (by exists ha),g.muF ymS (by rw[e1];rfl) a ha⟩)
    (by have:=g.rp x ymS;rw[e1]at this;exact this) (.inl ⟨rfl,λy hy=>by rw[ysM hy,e1]⟩) (λj hj=>by cases hj)
  exact⟨_,this,by rw[Bj,e2];rfl⟩
 ·by_cases e:m=i;subst e;simp[aD,hil]at hm;rw[Bn (Ff e)]at hm;exact S2.al m r' hm
 ·rcases ycM he with rfl|he;cases hj;rw[ek];exact he
def Sim.use{vs:List V}{ts:List T}(S:Sim Γ H O Z (aM vs ts++E))(hl:vs.length=ts.length):∃F,Rps Γ.K H ts vs F/\F.Nodup/\(∀a∈F,Mu H a) /\
  ∀H' v t F',Ed F H H'->(∀a∈F,∃o,H' a=some o)->F'.Nodup->(∀a∈F',(a∈F\/H a=none)/\Mu H' a)->Rp Γ.K H' t v F'->Sim Γ H' O Z (⟨none,v,⟨.ow,t⟩⟩::E):=by
 have S1:=S.sl;rw[Bu]at S1;obtain⟨F,h1,h2,h3,h4⟩:=S1.use hl;apply⟨F,h1,h2,h3,λH' v t F' a b c d e=>?_⟩;exact⟨h4 H' v t F' a b c d e,S.al,S.len,λx hx j hj=>by
  rcases ycM hx with rfl|hx;cases hj;exact S.hi x (yaR _ hx) j hj⟩
def Sim.part(S:Sim Γ H O Z E)(he:e∈E){ro:Option Nat}{p:Option (List Ac)}(ho:e.r.k=.vw ro p){P:V->Prop}(hp:∀F,Rp Γ.K H e.r.t e.v F->∃w G,P w/\Rp Γ.K H s w G/\∀a∈G,a∈F):∃w,P w/\Sim Γ H O Z (⟨none,w,⟨.vw ro none,s⟩⟩::E):=by
 obtain⟨w,h1,h2⟩:=S.sl.part (yaL _ he) ho hp;exact⟨w,h1,S.cons h2⟩
def Sim.partP(S:Sim Γ H O Z E)(he:e∈E){q:List Ac}(ho:e.r.k=.vw (some j) (some q)){a:Ac}(hs:gt e.r.t a=some s):∃w,at1 Γ.K H e.v a w/\Sim Γ H O Z (⟨none,w,⟨.vw (some j) (some (q++[a])),s⟩⟩::E):=by
 obtain⟨w,h1,h2⟩:=S.sl.partP (yaL _ he) ho hs;exact⟨w,h1,S.cons h2⟩
end
structure ME where
 run:Rho->Option (R×Rho)
 mu:List Nat
structure MT where
 run:Rho->Option (Bool×Rho)
 mu:List Nat
structure MA where
 run:Rho->Option (List R×Rho)
 mu:List Nat
inductive Fl where
 | nx|rt (t:T)|bk|ct
structure MS where
 run:Rho->Option (Fl×Rho)
 mu:List Nat
structure MG where
 run:R->Rho->Option Rho
 mu:List Nat
structure MGs where
 run:List R->Rho->Option Rho
 mu:List Nat
abbrev ens:List V->List R->List En
 | v::vs,r::rs=>⟨none,v,r⟩::ens vs rs
 | _,_=>[]
abbrev aC(M:List Nat) (r:R):Bool:=dn M r
def ba{M:List Nat}{r:R}{v:V}(h:aC M r=true):aA M ⟨none,v,r⟩=true:=h
def aJ{M:List Nat}{e:En}{E:List En}(h:aA M e=true):af M (e::E)=e::af M E:=by unfold af;rw[Ce,if_pos h]
def fA{M:List Nat}:∀{vs:List V} {rs:List R},rs.all (aC M)=true->af M (ens vs rs)=ens vs rs
 | [],_,_=>by cases ‹List R›<;>rfl
 | _::_,[],_=>rfl
 | v::vs,r::rs,h=>by
  rw[Cr,A9]at h;rw[ens,aJ (ba h.1),fA h.2]
def Sim.weak{Γ:Gm}{H:Hp}{O:Rho}{Z:St}{E:List En}(S:Sim Γ H O Z E)(M:List Nat):Sim Γ H O Z (af M E):=by
 apply⟨?_,S.al,S.len,λe he=>S.hi e (Be.mp he).1⟩;obtain⟨L,g,h⟩:=S.sl;obtain⟨A,B,rfl,h1,h2⟩:=bA h;apply⟨A.filter (λx=>aA M x.e)++B,g.sub (BK.append (List.Sublist.refl _)) λx hx j hj y hy hk ho=>?_,?_⟩
 ·rcases yaM hy with z|z
  ·apply yaL _ (Be.mpr ⟨z,?_⟩);unfold aA;cases e:y.e.r.k with
   | vw a b=>rw[e]at ho;cases ho
   | ow=>rfl
   | io _=>rfl
  ·exact yaR _ z
 ·rw[BQ,h2,<-h1];unfold af;rw[Cq];rfl
abbrev aP(K:yF)(te:TE)(m:ME):Prop:=∀(Γ:Gm) (H:Hp) (O:Rho) (Z:St) (E:List En) (Q:VK) (r:R) (O':Rho),Γ.K=K->m.run O=some (r,O')->Sim Γ H O Z E->(∀v H',Sim Γ H' O' Z (⟨none,v,r⟩::af m.mu E)->Q v H')->te Z H Q
abbrev eg(K:yF)(te:TT)(m:MT):Prop:=∀(Γ:Gm) (H:Hp) (O:Rho) (Z:St) (E:List En) (Q:Bool->Hp->Prop) (b:Bool) (O':Rho),Γ.K=K->m.run O=some (b,O')->Sim Γ H O Z E->(∀H',Sim Γ H' O' Z (af m.mu E)->Q b H')->te Z H Q
abbrev dY(K:yF)(ta:TA)(m:MA):Prop:=∀(Γ:Gm) (H:Hp) (O:Rho) (Z:St) (E:List En) (Q:List V->Hp->Prop) (rs:List R) (O':Rho),Γ.K=K->m.run O=some (rs,O')->Sim Γ H O Z E->(∀vs H',vs.length=rs.length->Sim Γ H' O' Z (ens vs rs++af m.mu E)->Q vs H')->ta Z H Q
abbrev Ey(Γ:Gm)(O':Rho)(E:List En)(D:EC):Fl->Prop
 | .nx=>∀Z' H',Sim Γ H' O' Z' E->D.nx Z' H'
 | .bk=>∀Z' H',Sim Γ H' O' Z' E->D.bk Z' H'
 | .ct=>∀Z' H',Sim Γ H' O' Z' E->D.ct Z' H'
 | .rt t=>∀v Z' H',Sim Γ H' O' Z' [⟨none,v,⟨.ow,t⟩⟩]->D.rt v H'
abbrev cY(K:yF)(ts:TS)(m:MS):Prop:=∀(Γ:Gm) (H:Hp) (O:Rho) (Z:St) (E:List En) (D:EC) (f:Fl) (O':Rho),Γ.K=K->(∀e∈E,e.key=none)->m.run O=some (f,O')->Sim Γ H O Z E->Ey Γ O' (af m.mu E) D f->ts D Z H
abbrev jq(K:yF)(g:TG)(m:MG):Prop:=∀(Γ:Gm) (H:Hp) (O:Rho) (Z:St) (E:List En) (Q:St->Hp->Prop) (v:V) (r:R) (O':Rho),Γ.K=K->m.run r O=some O'->Sim Γ H O Z (⟨none,v,r⟩::E)->(∀Z' H',Sim Γ H' O' Z' (af m.mu E)->Q Z' H')->g v Z H Q
abbrev kh(K:yF)(g:TGs)(m:MGs):Prop:=∀(Γ:Gm) (H:Hp) (O:Rho) (Z:St) (E:List En) (Q:St->Hp->Prop) (vs:List V) (rs:List R) (O':Rho),Γ.K=K->m.run rs O=some O'->vs.length=rs.length->Sim Γ H O Z (ens vs rs++E)->(∀Z' H',Sim Γ H' O' Z' (af m.mu E)->Q Z' H')->g vs Z H Q
abbrev yK(X:Cx)(st:List Stmt)(m:MS):Prop:=∃ts,PSs X st ts/\cY X.K ts m
section
variable {K:yF}{X:Cx}
private def mC(i:I):ME:=⟨λO=>some (⟨.ow,.im i⟩,O),[]⟩
private def av(i:Nat):ME:=⟨λO=>match O[i]? with
 | some (some r)=>some (rdR i r,O)
 | _=>none,[]⟩
def nt{i:I}{v:V}(h:i.sc=some v):aP K (tC v) (mC i):=by unhygienic
 intro Γ H O Z E Q r O' hK hr S q;cases hr;exact q v H (by rw[show(mC i).mu=[]from rfl,bj];exact S.imm (iw h))
def uv{i:Nat}:aP K (l4 i) (av i):=by unhygienic
 intro Γ H O Z E Q r O' hK hr S q;dsimp[av]at hr;split at hr
 ·delta r0 h0;cases hr;obtain⟨v,hv,S2⟩:=S.var h0;exact⟨v,hv,q v H (by rw[show(av i).mu=[]from rfl,bj];exact S2)⟩
 ·cases hr
private def mNil:MA:=⟨λO=>some ([],O),[]⟩
private def ah(m:ME)(ms:MA):MA:=⟨λO=>match m.run O with
 | some (r,O1)=>match ms.run O1 with
  | some (rs,O2)=>if aC ms.mu r=true then some (r::rs,O2)else none
  | none=>none
 | none=>none,m.mu++ms.mu⟩
def nu:dY K uG mNil:=by unhygienic
 intro Γ H O Z E Q rs O' hK hr S q;cases hr;exact q [] H rfl (by rw[show mNil.mu=[]from rfl,bj];exact S)
def sD{v:V}{r:R}{E:List En}:∀{vs:List V} {rs:List R},(ens vs rs++⟨none,v,r⟩::E).Perm (⟨none,v,r⟩::(ens vs rs++E)):=BD
def rC{te:TE}{ta:TA}{m:ME}{ms:MA}(h1:aP K te m)(h2:dY K ta ms):dY K (lg te ta) (ah m ms):=by unhygienic
 intro Γ H O Z E Q rs O' hK hr S q;dsimp[ah]at hr;split at hr
 ·delta r O1 e1;split at hr
  ·delta rs1 O2 e2;split at hr
   ·delta al;cases hr;apply h1 Γ H O Z E _ r O1 hK e1 S λv H1 S1=>?_;apply h2 Γ H1 O1 Z _ _ rs1 _ hK e2 S1 λvs H2 hl S2=>q (v::vs) H2 (by rw[Bf,Bf,hl]) ?_;rw[aJ (ba al),ag]at S2;exact S2.perm sD
   ·cases hr
  ·cases hr
 ·cases hr
private def mNext:MS:=⟨λO=>some (.nx,O),[]⟩
private def aQ(a b:MS):MS:=⟨λO=>match a.run O with
 | some (.nx,O1)=>b.run O1
 | some (.rt t,O1)=>some (.rt t,O1)
 | some (.bk,O1)=>some (.bk,O1)
 | some (.ct,O1)=>some (.ct,O1)
 | none=>none,a.mu++b.mu⟩
private def mIf(c:MT)(a b:MS):MS:=⟨λO=>match c.run O with
 | some (true,O1)=>a.run O1
 | some (false,O1)=>b.run O1
 | none=>none,c.mu++(a.mu++b.mu)⟩
private def i4(e:ME):MS:=⟨λO=>match e.run O with
 | some (_,O1)=>some (.nx,O1)
 | none=>none,e.mu⟩
private def aZ(e:ME)(g:MG):MS:=⟨λO=>match e.run O with
 | some (r,O1)=>match g.run r O1 with
  | some O2=>some (.nx,O2)
  | none=>none
 | none=>none,e.mu++g.mu⟩
private def oN:R->Rho->Option (T×Rho)
 | ⟨.ow,t⟩,O=>some (t,O)
 | ⟨.vw (some i) (some []),t⟩,O=>match O[i]? with
  | some (⇑_)=>some (t,(au [i] O).set i none)
  | _=>none
 | _,_=>none
private def cH(e:ME):MS:=⟨λO=>match e.run O with
 | some (r,O1)=>match oN r O1 with
  | some (t,O2)=>some (.rt t,O2)
  | none=>none
 | none=>none,e.mu⟩
def Ey.weak{Γ:Gm}{O':Rho}{E:List En}{D:EC}{f:Fl}{M N:List Nat}(h:Ey Γ O' (af (M++N) E) D f):Ey Γ O' (af M E) D f:=by
 cases f with
 | rt t=>exact h
 | nx=>exact λZ' H' S=>h Z' H' (by rw[<-ag];exact S.weak N)
 | bk=>exact λZ' H' S=>h Z' H' (by rw[<-ag];exact S.weak N)
 | ct=>exact λZ' H' S=>h Z' H' (by rw[<-ag];exact S.weak N)
def lD(M N:List Nat)(E:List En):af M (af N E)=af N (af M E):=by
 unfold af;rw[CZ,CZ];congr 1;funext e;exact Bool.and_comm _ _
def Ey.weak2{Γ:Gm}{O':Rho}{E:List En}{D:EC}{f:Fl}{M N:List Nat}(h:Ey Γ O' (af (M++N) E) D f):Ey Γ O' (af N E) D f:=by
 apply Ey.weak (N:=M) ?_;rwa [<-ag,lD,ag]
def bi{M:List Nat}{E:List En}(h:∀e∈E,e.key=none):∀e∈af M E,e.key=none:=λe he=>h e (Be.mp he).1
def rK:cY K vM mNext:=by unhygienic
 intro Γ H O Z E D f O' hK hE hr S q;cases hr;exact q Z H (by rw[show mNext.mu=[]from rfl,bj];exact S)
def ut{t u:TS}{a b:MS}(h1:cY K t a)(h2:cY K u b):cY K (Al t u) (aQ a b):=by
 intro Γ H O Z E D f O' hK hE hr S q;show t {D with nx:=u D} Z H;dsimp[aQ]at hr q;split at hr
 ·delta O1 e1;apply h1 Γ H O Z E _ .nx O1 hK hE e1 S λZ1 H1 S1=>?_;apply h2 Γ H1 O1 Z1 _ D f O' hK (bi hE) hr S1 ?_;rw[ag];exact q
 ·delta t1 O1 e1;cases hr;exact h1 Γ H O Z E _ (.rt t1) _ hK hE e1 S q
 ·delta O1 e1;cases hr;exact h1 Γ H O Z E _ .bk _ hK hE e1 S (show Ey Γ _ (af a.mu E) D .bk from q.weak)
 ·delta O1 e1;cases hr;exact h1 Γ H O Z E _ .ct _ hK hE e1 S (show Ey Γ _ (af a.mu E) D .ct from q.weak)
 ·cases hr
def ul{c:TT}{t u:TS}{mc:MT}{a b:MS}(hc:eg K c mc)(h1:cY K t a)(h2:cY K u b):cY K (Ag c t u) (mIf mc a b):=by
 intro Γ H O Z E D f O' hK hE hr S q;dsimp[mIf]at hr q;rw[<-ag]at q;split at hr
 ·delta O1 e1;apply hc Γ H O Z E _ true O1 hK e1 S λH1 S1=>pP ?_;exact h1 Γ H1 O1 Z _ D f O' hK (bi hE) hr S1 q.weak
 ·delta O1 e1;apply hc Γ H O Z E _ false O1 hK e1 S λH1 S1=>pN ?_;exact h2 Γ H1 O1 Z _ D f O' hK (bi hE) hr S1 q.weak2
 ·cases hr
def rD{te:TE}{m:ME}(h:aP K te m):cY K (nD te) (i4 m):=by unhygienic
 intro Γ H O Z E D f O' hK hE hr S q;dsimp[i4]at hr;split at hr
 ·delta r O1 e1;cases hr;exact h Γ H O Z E _ r _ hK e1 S λv H1 S1=>q Z H1 (S1.drop rfl)
 ·cases hr
def j0{te:TE}{g:TG}{m:ME}{mg:MG}(h:aP K te m)(hg:jq K g mg):cY K (uF te g) (aZ m mg):=by
 intro Γ H O Z E D f O' hK hE hr S q;dsimp[aZ]at hr q;split at hr
 ·delta r O1 e1;split at hr
  ·delta O2 e2;cases hr;apply h Γ H O Z E _ r O1 hK e1 S λv H1 S1=>?_;exact hg Γ H1 O1 Z _ _ v r _ hK e2 S1 λZ2 H2 S2=>q Z2 H2 (by rw[<-ag];exact S2)
  ·cases hr
 ·cases hr
def Sim.only{Γ:Gm}{H:Hp}{O:Rho}{Z:St}{e:En}{E:List En}(S:Sim Γ H O Z (e::E))(hE:∀x∈E,x.key=none):Sim Γ H O Z [e]:=by
 induction E with
 | nil=>exact S
 | cons x E ih=>exact ih (S.swap.drop (hE x ymS)) λy hy=>hE y (ymC _ hy)
def ur{te:TE}{m:ME}(h:aP K te m):cY K (Ak te) (cH m):=by unhygienic
 intro Γ H O Z E D f O' hK hE hr S q;dsimp[cH]at hr;split at hr
 ·delta r O1 e1;split at hr
  ·delta t O2 e2;cases hr;apply h Γ H O Z E _ r O1 hK e1 S λv H1 S1=>?_;obtain⟨k,t0⟩:=r;cases k with
   | ow=>
    cases e2;exact q v Z H1 (S1.only (bi hE))
   | io n=>cases e2
   | vw a b=>
    cases a with
    | none=>cases e2
    | some i=>
     cases b with
     | none=>cases e2
     | some p=>
      cases p with
      | cons _ _=>cases e2
      | nil=>
       dsimp[oN]at e2;split at e2
       ·delta t1 h1;cases e2;exact q v Z H1 ((S1.move h1).only (bi (bi hE)))
       ·cases e2
  ·cases hr
 ·cases hr
private def ax(i:Nat):MG:=⟨λr O=>if(cS O i&&aC [i] r)=true then some ((au [i] O).set i (some r))else none,[i]⟩
def er{i:Nat}{r:R}(h:aC [i] r=true):r.k.root≠some i:=λz=>by
 unfold aC dn at h;rw[z]at h;simp at h
def ik{i:Nat}:jq K (gM i) (ax i):=by unhygienic
 intro Γ H O Z E Q v r O' hK hr S q;dsimp[ax]at hr;split at hr
 ·delta h;cases hr;rw[A9]at h;exact q _ H (S.put h.1 (er h.2))
 ·cases hr
end
section
variable {X:Cx}
def Inv.lstR{Uq:List (Addr×Obj)}{Z:St}{H:Hp}{s:EM}{l:Addr}{xs:List V}(I:Inv X Uq Z H s)(hH:Rd H l (.lst xs)):xs.length<=sizeLine/\∃(its:List EK) (n:Nat),Vals xs its/\xs.length=its.length/\s.heap.get? l=some {cls:=.type "list",data:=.seq its.toArray n}:=by
 obtain⟨z,its,n,r,e⟩:=hH.ok I.hok;exact⟨z,its,n,r,r.length,e⟩
abbrev vv:R2:=λx y H Q=>∃l b xs zs,x=.ref l/\y=.ref b/\Rd H l (.lst xs)/\Rd H b (.lst zs)/\xs.length+zs.length<=sizeLine/\∀p,H p=none->Q (.ref p) (upd H p (.lst (xs++zs)))
def op_catR:OpR X (Fh .Add) vv:=by
 intro Uq s Z H x y v u Q I rx ry h;obtain⟨l,b,xs,zs,rfl,rfl,hH,hB,hz,q⟩:=h;cases rx;cases ry;obtain⟨z,its,n,r,hl,e⟩:=I.lstR hH;obtain⟨z2,its2,n2,r2,hl2,e2⟩:=I.lstR hB;apply PySem.P.add_list e e2 ?_ (by rw[Bd,Bd];omega);have ea:its.toArray++its2.toArray=(its++its2).toArray:=by simp
 rw[ea];exact⟨.ref _,_,I.lnew (t':=s.toks) (r.append r2) (by rw[Bw];omega),rfl,q _ I.fresh⟩
abbrev rk(K:yF):R2:=λx y H Q=>∃a b ys,x=.ref a/\y=.ref b/\SqT K H a []/\SqT K H b ys/\Q (.ref b) H
def qj:OpR X (Fh .Add) (rk X.K):=by
 intro Uq s Z H x y v u Q I rx ry h;obtain⟨a,b,ys,rfl,rfl,ha,hb,q⟩:=h;cases rx;cases ry;obtain⟨its,r1,p1,_⟩:=I.tuple ha;obtain⟨its2,r2,p2,_⟩:=I.tuple hb;have hv:its=[]:=r1.nil_iff.mpr rfl;subst hv;obtain⟨⟨cls,dd,data,sl⟩,ho,hc,n,hd⟩:=id p1;obtain⟨⟨cls2,dd2,data2,sl2⟩,ho2,hc2,n2,hd2⟩:=id p2;simp only at hc hd hc2 hd2;subst hc hd hc2 hd2;exact HG ⟨_,ho,rfl⟩ ⟨_,ho2,rfl⟩ GH Hn PySem.F.slot_tuple_add PySem.F.entry_tuple_add (PySem.F.args_tuple_add_2 _ _)
   (tuple_addW0 a b #[] its2.toArray n n2 dd dd2 sl sl2 rfl) ⟨ho,ho2,⟨.ref b,H,I,rfl,q⟩⟩
abbrev rh(K:yF):R2:=λx y H Q=>vt K x y H Q\/(vv x y H Q\/rk K x y H Q)
def tI:OpR X (Fh .Add) (rh X.K):=op_addX.or (op_catR.or qj)
abbrev vC:R2:=λx y H Q=>∃l k xs,x=.ref l/\y=.int k/\Rd H l (.lst xs)/\-(2^63)<=k/\k<2^63/\xs.length*k.toNat<=sizeLine/\∀p,H p=none->Q (.ref p) (upd H p (.lst (Bc k.toNat xs).flatten))
def tL:OpR X (Fh .Mult) vC:=by
 intro Uq s Z H x y v u Q I rx ry h;obtain⟨l,k,xs,rfl,rfl,hH,h1,h2,hz,q⟩:=h;cases rx;obtain⟨t,rfl⟩:=ry;obtain⟨z,its,n,r,hl,e⟩:=I.lstR hH;have hlen:its.toArray.size*k.toNat<=sizeLine:=by rw[Bd,<-hl];exact hz
 have hcap:¬ its.toArray.size*k.toNat>(2^63-1) / 8:=by
  have:(sizeLine:Nat)<=(2^63-1) / 8:=by decide
  omega
 have hfit:¬ (!Builtin.List.listFitsIndex k)=true:=by
  rw[IG h1 h2];exact Bl
 have hlong:¬ Fs (its.toArray.size*k.toNat)=true:=by
  rw[hR hlen];exact Bl
 have hnew:Da (λx1 x2=>x1++x2) #[] (Bc (if its.toArray.isEmpty=true then 0 else k.toNat) its.toArray)=(Bc k.toNat its).flatten.toArray:=by
  have f0:∀m:Nat,Da (λx1 x2=>x1++x2) #[] (Bc m its.toArray)=(Bc m its).flatten.toArray:=λm=>by
   have:=cQ its m [];rw[Cb]at this;exact this
  rw[f0];cases its with
  | nil=>simp
  | cons a r'=>rw[if_neg ∅]
 apply FP (T:="list") (U:="int") (by decide) ⟨_,e,rfl⟩ (λs'=>Ga s' k t) Ij G3 FI repeat_list GK.lookup
  (FT FI (Ga s k t) GL (Gz _ _) (G8 k t l its.toArray n)
   ⟨e,rfl,⟨_,e,rfl⟩,FT Ik ⟨_,e,rfl⟩ HX (HJ _ _) (FY l its.toArray n k t hfit hcap hlong) ⟨e,?_⟩⟩)
 rw[hnew];exact⟨.ref _,_,I.lnew (t':=s.toks) (r.rep k.toNat) (by rw[eU,Dw];exact hz),rfl,q _ I.fresh⟩
abbrev rn(K:yF):R2:=λx y H Q=>vA K x y H Q\/vC x y H Q
def tK:OpR X (Fh .Mult) (rn X.K):=op_mulX.or tL
end
abbrev Rpx(K:yF)(H:Hp)(t:T)(v:V):Prop:=∃F,Rp K H t v F
abbrev New(K:yF)(H H':Hp)(t:T)(v:V):Prop:=Ei H H'/\∃F,Rp K H' t v F/\F.Nodup/\∀a∈F,H a=none/\Mu H' a
section
variable {K:yF}{H H':Hp}{Γ:Gm}{O:Rho}{Z:St}{E:List En}{t:T}{v x y:V}{Q:VK}
def Sim.fresh(S:Sim Γ H O Z E)(n:New Γ.K H H' t v):Sim Γ H' O Z (⟨none,v,⟨.ow,t⟩⟩::E):=by
 obtain⟨sm,F,h1,h2,h3⟩:=n;obtain⟨F0,r0,_,_,k⟩:=Sim.use (vs:=[]) (ts:=[]) S rfl;have:=r0.nil_inv.2;subst this;exact k H' v t F (sm.offM _) ∅ h2 (λa ha=>⟨.inr (h3 a ha).1,(h3 a ha).2⟩) h1
def New.im{i:I}(h:RpI K H i v):New K H H (.im i) v:=⟨Ei.refl H,[],cu h,BO,by simp⟩
def New.sc{i:I}(h:i.sc=some v):New K H H (.im i) v:=.im (iw h)
def New.tup{is:List I}{xs:List V}{p:Addr}(hp:H p=none)(h:td K H is xs):New K H (upd H p (.tup xs)) (.im (.tup is)) (.ref p):=by
 apply⟨Ei.laid hp,[],cu ?_,BO,by simp⟩;rw[RpI];exact⟨p,xs,rfl,SqT.of aq,h.same (Ei.laid hp)⟩
def New.li{is:List I}{xs:List V}{p:Addr}(hp:H p=none)(h:td K H is xs):New K H (upd H p (.lst xs)) (.li is) (.ref p):=by
 apply⟨Ei.laid hp,[p],?_,by simp,λa ha=>?_⟩;rw[Rp];exact⟨p,xs,rfl,.inl aq,h.same (Ei.laid hp),rfl⟩;rw[ysM ha];exact⟨hp,_,aq,rfl⟩
def bE{i:I}(h:Rpx K H (.im i) v):RpI K H i v:=by obtain⟨F,h⟩:=h;exact(aS h).1
def aU{n:Int}(h:Rpx K H (.im (.int n)) v):v=.int n:=by have:=bE h;rw[RpI]at this;exact this
def cv{n:Str}(h:Rpx K H (.im (.str n)) v):v=.str n:=by have:=bE h;rw[RpI]at this;exact this
def rQ{n:Bool}(h:Rpx K H (.im (.bl n)) v):v=.bl n:=by have:=bE h;rw[RpI]at this;exact this
def cb{is:List I}(h:Rpx K H (.im (.tup is)) v):∃a xs,v=.ref a/\SqT K H a xs/\td K H is xs:=by have:=bE h;rw[RpI]at this;exact this
def bO{is:List I}(h:Rpx K H (.li is) v):∃a xs,v=.ref a/\Rd H a (.lst xs)/\td K H is xs:=by
 obtain⟨F,h⟩:=h;rw[Rp]at h;obtain⟨a,xs,h1,h2,h3,_⟩:=h;exact⟨a,xs,h1,h2,h3⟩
def iq{is:List I}(h:Rpx K H (.im (.ls is)) v):∃a xs,v=.ref a/\Rd H a (.lst xs)/\td K H is xs:=by
 have:=bE h;rw[RpI]at this;obtain⟨a,o,xs,h1,h2,h3⟩:=this;exact⟨a,xs,h1,.inr ⟨o,h2⟩,h3⟩
def dg{ts:List T}(h:Rpx K H (.lst ts) v):∃a xs F,v=.ref a/\Rd H a (.lst xs)/\Rps K H ts xs F:=by
 obtain⟨F,h⟩:=h;rw[Rp]at h;obtain⟨a,xs,F',h1,h2,h3,_⟩:=h;exact⟨a,xs,F',h1,h2,h3⟩
def aB{a:Addr}{xs:List V}(h:Rd H a (.lst xs)):SqL K H a xs:=.inl h
abbrev fY(K:yF)(red:V->Hp->VK->Prop)(f:T->Option T):Prop:=∀(H:Hp) (x:V) (tx t:T) (Q:VK),Rpx K H tx x->f tx=some t->(∀v H',New K H H' t v->Q v H')->red x H Q
abbrev cc(K:yF)(red:R2)(f:T->T->Option T):Prop:=∀(H:Hp) (x y:V) (tx ty t:T) (Q:VK),Rpx K H tx x->Rpx K H ty y->f tx ty=some t->(∀v H',New K H H' t v->Q v H')->red x y H Q
abbrev Et(K:yF)(H:Hp):List T->List V->Prop
 | [],vs=>vs=[]
 | t::ts,vs=>∃v r,vs=v::r/\Rpx K H t v/\Et K H ts r
abbrev fZ(K:yF)(red:List V->Hp->VK->Prop)(f:List T->Option T):Prop:=∀(H:Hp) (vs:List V) (ts:List T) (t:T) (Q:VK),Et K H ts vs->f ts=some t->(∀v H',New K H H' t v->Q v H')->red vs H Q
private def mOp(f:T->T->Option T)(a b:ME):ME:=⟨λO=>match a.run O with
 | some (ra,O1)=>match b.run O1 with
  | some (rb,O2)=>if aC b.mu ra=true then(match f ra.t rb.t with
   | some t=>some (⟨.ow,t⟩,O2)
   | none=>none)else none
  | none=>none
 | none=>none,a.mu++b.mu⟩
def lX{red:R2}{f:T->T->Option T}{ta tb:TE}{a b:ME}(hp:cc K red f)(ha:aP K ta a)(hb:aP K tb b):aP K (tOp red ta tb) (mOp f a b):=by unhygienic
 intro Γ H O Z E Q r O' hK hr S q;dsimp[mOp]at hr;split at hr
 ·delta ra O1 e1;split at hr
  ·delta rb O2 e2;split at hr
   ·delta al;split at hr
    ·delta t e3;cases hr;apply ha Γ H O Z E _ ra O1 hK e1 S λx H1 S1=>?_;apply hb Γ H1 O1 Z _ _ rb _ hK e2 S1 λy H2 S2=>?_;rw[aJ (ba al),ag]at S2;have r1:=S2.rd (ymC _ ymS);have r2:=S2.rd ymS;rw[hK]at r1 r2;apply hp H2 x y ra.t rb.t t Q r1 r2 e3 λv H3 n=>q v H3 ?_;rw[<-hK]at n;exact((S2.drop rfl).drop rfl).fresh n
    ·cases hr
   ·cases hr
  ·cases hr
 ·cases hr
private def mUn(f:T->Option T)(a:ME):ME:=⟨λO=>match a.run O with
 | some (ra,O1)=>(match f ra.t with
  | some t=>some (⟨.ow,t⟩,O1)
  | none=>none)
 | none=>none,a.mu⟩
def il{red:V->Hp->VK->Prop}{f:T->Option T}{ta:TE}{a:ME}(hp:fY K red f)(ha:aP K ta a):aP K (tUn red ta) (mUn f a):=by unhygienic
 intro Γ H O Z E Q r O' hK hr S q;dsimp[mUn]at hr;split at hr
 ·delta ra O1 e1;split at hr
  ·delta t e3;cases hr;apply ha Γ H O Z E _ ra _ hK e1 S λx H1 S1=>?_;have r1:=S1.rd ymS;rw[hK]at r1;apply hp H1 x ra.t t Q r1 e3 λv H3 n=>q v H3 ?_;rw[<-hK]at n;exact(S1.drop rfl).fresh n
  ·cases hr
 ·cases hr
def Sim.rds:∀{vs:List V} {rs:List R} {E:List En},Sim Γ H O Z (ens vs rs++E)->vs.length=rs.length->Et Γ.K H (rs.map (·.t)) vs
 | [],[],E,S,_=>rfl
 | v::vs,r::rs,E,S,h=>by
  rw[ens,Bx]at S;exact⟨v,vs,rfl,S.rd ymS,Sim.rds (S.drop rfl) (by exists h)⟩
 | [],_::_,_,_,h=>by cases h
 | _::_,[],_,_,h=>by cases h
def Sim.drops:∀{vs:List V} {rs:List R} {E:List En},Sim Γ H O Z (ens vs rs++E)->Sim Γ H O Z E
 | [],rs,E,S=>by cases rs<;>exact S
 | v::vs,[],E,S=>S
 | v::vs,r::rs,E,S=>by
  rw[ens,Bx]at S;exact Sim.drops (S.drop rfl)
private def mB(f:List T->Option T)(a:MA):ME:=⟨λO=>match a.run O with
 | some (rs,O1)=>(match f (rs.map (·.t))with
  | some t=>some (⟨.ow,t⟩,O1)
  | none=>none)
 | none=>none,a.mu⟩
def jh{red:List V->Hp->VK->Prop}{f:List T->Option T}{ta:TA}{a:MA}(hp:fZ K red f)(ha:dY K ta a):aP K (tCB red ta) (mB f a):=by unhygienic
 intro Γ H O Z E Q r O' hK hr S q;dsimp[mB]at hr;split at hr
 ·delta rs O1 e1;split at hr
  ·delta t e3;cases hr;apply ha Γ H O Z E _ rs _ hK e1 S λvs H1 hl S1=>?_;have r1:=S1.rds hl;rw[hK]at r1;apply hp H1 vs _ t Q r1 e3 λv H3 n=>q v H3 ?_;rw[<-hK]at n;exact S1.drops.fresh n
  ·cases hr
 ·cases hr
private def mM(f:T->List T->Option T)(o:ME)(a:MA):ME:=⟨λO=>match o.run O with
 | some (r,O0)=>match a.run O0 with
  | some (rs,O1)=>if aC a.mu r=true then(match f r.t (rs.map (·.t))with
   | some t=>some (⟨.ow,t⟩,O1)
   | none=>none)else none
  | none=>none
 | none=>none,o.mu++a.mu⟩
abbrev oT(K:yF)(T0:String)(red:V->List V->Hp->VK->Prop)(f:T->List T->Option T):Prop:=∀(H:Hp) (x:V) (vs:List V) (tx:T) (ts:List T) (t:T) (Q:VK),Rpx K H tx x->Et K H ts vs->f tx ts=some t->(∀v H',New K H H' t v->Q v H')->red x vs H Q
def Aa{T0:String}{red:V->List V->Hp->VK->Prop}{f:T->List T->Option T}{to:TE}{ta:TA}{o:ME}{a:MA}(hp:oT K T0 red f)(hty:∀(H:Hp) (x:V) (tx:T) ts t,Rpx K H tx x->f tx ts=some t->tyV K T0 x H)(ho:aP K to o)(ha:dY K ta a):aP K (tBM K T0 red to ta) (mM f o a):=by unhygienic
 intro Γ H O Z E Q r O' hK hr S q;dsimp[mM]at hr;split at hr
 ·delta r0 O0 e0;split at hr
  ·delta rs O1 e1;split at hr
   ·delta al;split at hr
    ·delta t e3;cases hr;apply ho Γ H O Z E _ r0 _ hK e0 S λx H1 S1=>?_;have r0':=S1.rd ymS;rw[hK]at r0';apply⟨hty H1 x _ _ _ r0' e3,?_⟩;apply ha Γ H1 O0 Z _ _ rs _ hK e1 S1 λvs H2 hl S2=>?_;rw[aJ (ba al),ag]at S2;have r1:=S2.rds hl;have S3:=S2.drops;have r2:=S3.rd ymS;rw[hK]at r1 r2;apply hp H2 x vs _ _ t Q r2 r1 e3 λv H3 n=>q v H3 ?_;rw[<-hK]at n;exact(S3.drop rfl).fresh n
    ·cases hr
   ·cases hr
  ·cases hr
 ·cases hr
private def a9(a:ME):MT:=⟨λO=>match a.run O with
 | some (⟨_,.im (.bl b)⟩,O1)=>some (b,O1)
 | _=>none,a.mu⟩
def k7{ta:TE}{a:ME}(ha:aP K ta a):eg K (vO ta) (a9 a):=by unhygienic
 intro Γ H O Z E Q b O' hK hr S q;dsimp[a9]at hr;split at hr
 ·delta k b0 O1 e1;cases hr;apply ha Γ H O Z E _ _ _ hK e1 S λx H1 S1=>⟨b,?_,q H1 (S1.drop rfl)⟩;have r1:=S1.rd ymS;exact rQ r1
 ·cases hr
def xX{ta:TE}{a:ME}(ha:aP K ta a):eg K (tB ta) (a9 a):=k7 ha
private def mAnd(a b:MT):MT:=⟨λO=>match a.run O with
 | some (true,O1)=>b.run O1
 | some (false,O1)=>some (false,O1)
 | none=>none,a.mu++b.mu⟩
private def mOr(a b:MT):MT:=⟨λO=>match a.run O with
 | some (true,O1)=>some (true,O1)
 | some (false,O1)=>b.run O1
 | none=>none,a.mu++b.mu⟩
private def jP(a:MT):MT:=⟨λO=>match a.run O with
 | some (b,O1)=>some (!b,O1)
 | none=>none,a.mu⟩
def xV{ta tb:TT}{a b:MT}(ha:eg K ta a)(hb:eg K tb b):eg K (tOr ta tb) (mOr a b):=by
 intro Γ H O Z E Q c O' hK hr S q;dsimp[mOr]at hr q;split at hr
 ·delta O1 e1;cases hr;exact ha Γ H O Z E _ _ _ hK e1 S λH1 S1=>pP (q H1 (by rw[<-ag];exact S1.weak _))
 ·delta O1 e1;apply ha Γ H O Z E _ _ _ hK e1 S λH1 S1=>pN ?_;exact hb Γ H1 O1 Z _ _ _ _ hK hr S1 λH2 S2=>q H2 (by rw[<-ag];exact S2)
 ·cases hr
def up{ta:TT}{a:MT}(ha:eg K ta a):eg K (Ai ta) (jP a):=by
 intro Γ H O Z E Q c O' hK hr S q;dsimp[jP]at hr q;split at hr
 ·delta b O1 e1;cases hr;exact ha Γ H O Z E _ _ _ hK e1 S λH1 S1=>q H1 S1
 ·cases hr
private def ge(a b:ME):ME:=⟨λO=>match a.run O with
 | some (⟨_,.im (.bl true)⟩,O1)=>b.run O1
 | some (⟨_,.im (.bl false)⟩,O1)=>some (⟨.ow,.im (.bl false)⟩,O1)
 | _=>none,a.mu++b.mu⟩
def rB{ta tb:TE}{a b:ME}(ha:aP K ta a)(hb:aP K tb b):aP K (vK ta tb) (ge a b):=by
 intro Γ H O Z E Q c O' hK hr S q;dsimp[ge]at hr q;split at hr
 ·delta k O1 e1;apply ha Γ H O Z E _ _ _ hK e1 S λx H1 S1=>⟨true,rQ (S1.rd ymS),pP ?_⟩;exact hb Γ H1 O1 Z _ _ _ _ hK hr (S1.drop rfl) λv H2 S2=>q v H2 (by rw[<-ag];exact S2)
 ·delta k O1 e1;cases hr;apply ha Γ H O Z E _ _ _ hK e1 S λx H1 S1=>⟨false,rQ (S1.rd ymS),pN (q _ H1 ?_)⟩;rw[<-ag];exact((S1.drop rfl).weak _).imm (iw rfl)
 ·cases hr
private def tu(c:MT)(a b:ME):ME:=⟨λO=>match c.run O with
 | some (true,O1)=>a.run O1
 | some (false,O1)=>b.run O1
 | none=>none,c.mu++(a.mu++b.mu)⟩
def uk{tc:TT}{ta tb:TE}{c:MT}{a b:ME}(hc:eg K tc c)(ha:aP K ta a)(hb:aP K tb b):aP K (tIf tc ta tb) (tu c a b):=by
 intro Γ H O Z E Q r O' hK hr S q;dsimp[tu]at hr q;split at hr
 ·delta O1 e1;apply hc Γ H O Z E _ _ _ hK e1 S λH1 S1=>pP ?_;apply ha Γ H1 O1 Z _ _ _ _ hK hr S1 λv H2 S2=>q v H2 ?_;rw[ag]at S2;rw[<-Bu,<-ag];apply⟨?_,S2.al,S2.len,λe he=>S2.hi e ?_⟩
  ·have h:=(S2.drop rfl).weak b.mu;have h2:Sim Γ H2 O' Z (⟨none,v,r⟩::af (c.mu++a.mu) E):=S2;obtain⟨L,g,e⟩:=h2.sl;obtain⟨x,L',rfl,z1,z2⟩:=ay e;obtain⟨A,B,rfl,y1,y2⟩:=bA z2;apply⟨x::(A.filter (λw=>aA b.mu w.e)++B),g.sub (List.Sublist.cons_cons _ (BK.append (List.Sublist.refl _))) λw hw j hj y hy hk ho=>?_,?_⟩
   ·rcases ycM hy with rfl|hy;exact ymS
    ·apply ymC _ ?_;rcases yaM hy with hy|hy
     ·apply yaL _ (Be.mpr ⟨hy,?_⟩);unfold aA;cases e:y.e.r.k with
      | vw a b=>rw[e]at ho;cases ho
      | ow=>rfl
      | io _=>rfl
     ·exact yaR _ hy
   ·rw[Bj,z1,BQ,y2,<-y1];unfold af;rw[Cq];rfl
  ·rcases ycM he with rfl|he;exact ymS;exact ymC _ (Be.mp he).1
 ·delta O1 e1;apply hc Γ H O Z E _ _ _ hK e1 S λH1 S1=>pN ?_;apply hb Γ H1 O1 Z _ _ _ _ hK hr S1 λv H2 S2=>q v H2 ?_;rw[ag]at S2;have ek:af (c.mu++(a.mu++b.mu)) E=af a.mu (af (c.mu++b.mu) E):=by
   rw[ag];unfold af;congr 1;funext e;dsimp[ft];rcases aA c.mu e<;>rcases aA a.mu e<;>rcases aA b.mu e<;>rfl
  rw[ek];apply⟨?_,S2.al,S2.len,λe he=>S2.hi e ?_⟩
  ·obtain⟨L,g,e⟩:=S2.sl;obtain⟨x,L',rfl,z1,z2⟩:=ay e;obtain⟨A,B,rfl,y1,y2⟩:=bA z2;apply⟨x::(A.filter (λw=>aA a.mu w.e)++B),g.sub (List.Sublist.cons_cons _ (BK.append (List.Sublist.refl _))) λw hw j hj y hy hk ho=>?_,?_⟩
   ·rcases ycM hy with rfl|hy;exact ymS
    ·apply ymC _ ?_;rcases yaM hy with hy|hy
     ·apply yaL _ (Be.mpr ⟨hy,?_⟩);unfold aA;cases e:y.e.r.k with
      | vw a b=>rw[e]at ho;cases ho
      | ow=>rfl
      | io _=>rfl
     ·exact yaR _ hy
   ·rw[Bj,z1,BQ,y2,<-y1];unfold af;rw[Cq];rfl
  ·rcases ycM he with rfl|he;exact ymS;exact ymC _ (Be.mp he).1
 ·cases hr
end
mutual
noncomputable def I.dok:I->Bool
 | .int _=>true|.str _=>true|.tup is=>I.doks is|_=>false
noncomputable def I.doks:List I->Bool
 | []=>true
 | i::is=>i.dok&&I.doks is
end
mutual
noncomputable def I.toD:I->D
 | .int i=>.int i|.str x=>.str x|.tup is=>.tup (I.toDs is)|_=>.int 0
noncomputable def I.toDs:List I->List D
 | []=>[]
 | i::is=>i.toD::I.toDs is
end
mutual
noncomputable def I.dep:I->Nat
 | .tup is=>I.deps is+1|_=>0
noncomputable def I.deps:List I->Nat
 | []=>0
 | i::is=>max i.dep (I.deps is)
end
mutual
theorem wb:∀(i:I),i.toD.depth=i.dep
 | .non=>rfl|.bl _=>rfl|.int _=>rfl|.str _=>rfl|.ls _=>rfl|.fd _ _=>rfl|.exn _ _ _=>rfl
 | .tup is=>by rw[I.toD,D.depth,I.dep,dP is]
theorem dP:∀(is:List I),aH (I.toDs is)=I.deps is
 | []=>rfl
 | i::is=>by rw[I.toDs,aH,I.deps,wb i,dP is]
end
mutual
theorem nH:∀{a b:I},a.dok=true->b.dok=true->(a.toD=b.toD↔a=b)
 | .non,_,h,_=>by simp[I.dok]at h
 | .bl _,_,h,_=>by simp[I.dok]at h
 | .ls _,_,h,_=>by simp[I.dok]at h
 | .fd _ _,_,h,_=>by simp[I.dok]at h
 | .exn _ _ _,_,h,_=>by simp[I.dok]at h
 | .int x,b,_,h=>by cases b<;>simp[I.dok]at h<;>simp[I.toD]
 | .str x,b,_,h=>by cases b<;>simp[I.dok]at h<;>simp[I.toD]
 | .tup x,b,h1,h=>by
  cases b with
  | tup y=>
   rw[I.dok]at h h1;rw[I.toD,I.toD,D.tup.injEq,I.tup.injEq];exact fh h1 h
  | non=>simp[I.dok]at h
  | bl _=>simp[I.dok]at h
  | ls _=>simp[I.dok]at h
  | fd _ _=>simp[I.dok]at h
  | exn _ _ _=>simp[I.dok]at h
  | int _=>simp[I.toD]
  | str _=>simp[I.toD]
theorem fh:∀{a b:List I},I.doks a=true->I.doks b=true->(I.toDs a=I.toDs b↔a=b)
 | [],b,_,_=>by cases b<;>simp[I.toDs]
 | x::xs,b,h1,h=>by
  cases b with
  | nil=>simp[I.toDs]
  | cons y ys=>
   rw[I.doks,A9]at h h1;rw[I.toDs,I.toDs,CH.injEq,CH.injEq,nH h1.1 h.1,fh h1.2 h.2]
end
section
variable {K:yF}{H:Hp}
mutual
theorem ip:∀{i:I} {v:V},i.dok=true->RpI K H i v->Rep K H i.toD v
 | .non,_,h,_=>by simp[I.dok]at h
 | .bl _,_,h,_=>by simp[I.dok]at h
 | .ls _,_,h,_=>by simp[I.dok]at h
 | .fd _ _,_,h,_=>by simp[I.dok]at h
 | .exn _ _ _,_,h,_=>by simp[I.dok]at h
 | .int _,_,_,r=>by rw[RpI]at r;rw[I.toD,Rep];exact r
 | .str _,_,_,r=>by rw[RpI]at r;rw[I.toD,Rep];exact r
 | .tup is,_,h,r=>by
  rw[RpI]at r;rw[I.dok]at h;obtain⟨a,xs,h1,h2,h3⟩:=r;rw[I.toD,Rep];exact⟨a,xs,h1,h2,dW h h3⟩
theorem dW:∀{is:List I} {vs:List V},I.doks is=true->td K H is vs->Eg K H (I.toDs is) vs
 | [],_,_,r=>by rw[td]at r;rw[I.toDs,Eg];exact r
 | i::is,_,h,r=>by
  rw[td]at r;rw[I.doks,A9]at h;obtain⟨x,xs,h1,h2,h3⟩:=r;rw[I.toDs,Eg];exact⟨x,xs,h1,ip h.1 h2,dW h.2 h3⟩
end
def g7{i:I}:∀{is:List I},i.dok=true->I.doks is=true->(i.toD∈I.toDs is↔i∈is)
 | [],_,_=>by simp[I.toDs]
 | x::xs,h,hs=>by
  rw[I.doks,A9]at hs;rw[I.toDs,B3,B3,nH h hs.1,g7 h hs.2]
abbrev isI:T->Option Int
 | .im i=>(match i with|.int a=>some a|_=>none)
 | _=>none
abbrev isS:T->Option Str
 | .im i=>(match i with|.str a=>some a|_=>none)
 | _=>none
abbrev zg:T->Option (List I)
 | .im i=>(match i with|.tup a=>some a|_=>none)
 | _=>none
abbrev zf:T->Option (List I)
 | .li a=>some a
 | _=>none
def dR{t:T}{a:Int}(h:isI t=some a):t=.im (.int a):=by
 cases t with
 | im i=>cases i<;>cases h;rfl
 | _=>cases h
def sW{t:T}{a:Str}(h:isS t=some a):t=.im (.str a):=by
 cases t with
 | im i=>cases i<;>cases h;rfl
 | _=>cases h
def pK{t:T}{a:List I}(h:zg t=some a):t=.im (.tup a):=by
 cases t with
 | im i=>cases i<;>cases h;rfl
 | _=>cases h
def pI{t:T}{a:List I}(h:zf t=some a):t=.li a:=by
 cases t with
 | li i=>cases h;rfl
 | _=>cases h
abbrev i2(g:Int->Int->Option T) (x y:T):Option T:=match isI x with
 | some a=>(match isI y with
  | some b=>g a b
  | none=>none)
 | none=>none
def gN{g:Int->Int->Option T}{x y t:T}(h:i2 g x y=some t):∃a b,x=.im (.int a)/\y=.im (.int b)/\g a b=some t:=by
 unfold i2 at h;split at h
 ·delta a ea;split at h
  ·delta b eb;exact⟨a,b,dR ea,dR eb,h⟩
  ·cases h
 ·cases h
def aL{α:Type}{c:Prop}[Decidable c]{t u : α}(h:(if c then some t else none)=some u):c/\t=u:=by
 by_cases hc:c;rw[if_pos hc]at h;exact⟨hc,Bq.inj h⟩;rw[if_neg hc]at h;cases h
abbrev yN(i:I) (y:T):Option T:=match i with
 | .int a=>(match isI y with|some b=>some (.im (.int (a+b)))|none=>none)
 | .str a=>(match isS y with|some b=>if a.length+b.length<=sizeLine then some (.im (.str (a++b)))else none|none=>none)
 | .tup a=>(match zg y with|some b=>if a.length+b.length<=sizeLine then some (.im (.tup (a++b)))else none|none=>none)
 | _=>none
private def bP(x y:T):Option T:=match x with
 | .im i=>yN i y
 | .li a=>(match zf y with|some b=>if a.length+b.length<=sizeLine then some (.li (a++b))else none|none=>none)
 | _=>none
def td.nil_iff{is:List I}{xs:List V}(h:td K H is xs):xs=[]↔is=[]:=by
 have:=h.length;cases is<;>cases xs<;>first|(simp;done)|(cases this;done)
def qE:cc K (rh K) bP:=by
 intro H x y tx ty t Q rx ry e q;unfold bP at e;split at e
 ·delta i;unfold yN at e;split at e
  ·split at e
   ·delta b eb;cases dR eb;cases e;rw[aU rx,aU ry];exact .inl (.inl ⟨_,_,rfl,rfl,q _ H (.sc rfl)⟩)
   ·cases e
  ·split at e
   ·delta b eb;cases sW eb;obtain⟨hl,rfl⟩:=aL e;rw[cv rx,cv ry];exact .inl (.inr (.inl ⟨_,_,rfl,rfl,hl,q _ H (.sc rfl)⟩))
   ·cases e
  ·delta a;split at e
   ·delta b eb;cases pK eb;obtain⟨hl,rfl⟩:=aL e;obtain⟨p,xs,rfl,h1,h2⟩:=cb rx;obtain⟨p',ys,rfl,g1,g2⟩:=cb ry;by_cases ha:a=[]
    ·subst ha;have:=h2.nil_inv;subst this;apply .inr (.inr ⟨p,p',ys,rfl,rfl,h1,g1,q _ H (.im ?_)⟩);rw[RpI];exact⟨p',ys,rfl,g1,g2⟩
    ·apply .inl (.inr (.inr (.inr ⟨p,p',xs,ys,rfl,rfl,h1,g1,λz=>ha (h2.nil_iff.mp z),by rw[h2.length,g2.length];exact hl,λz=>q _ H (.im ?_),λz p hp=>q _ _ (.tup hp (h2.append g2))⟩)));have:=g2.nil_iff.mp z;subst this;rw[BA,RpI];exact⟨p,xs,rfl,h1,h2⟩
   ·cases e
  ·cases e
 ·split at e
  ·delta b eb;cases pI eb;obtain⟨hl,rfl⟩:=aL e;obtain⟨p,xs,rfl,h1,h2⟩:=bO rx;obtain⟨p',ys,rfl,g1,g2⟩:=bO ry;exact .inr (.inl ⟨p,p',xs,ys,rfl,rfl,h1,g1,by rw[h2.length,g2.length];exact hl,λp hp=>q _ _ (.li hp (h2.append g2))⟩)
  ·cases e
 ·cases e
private def oO:T->T->Option T:=i2 λa b=>some (.im (.int (a-b)))
def qT:cc K (rI0 λi j=>.int (i-j)) oO:=by
 intro H x y tx ty t Q rx ry e q;unfold oO at e;obtain⟨a,b,rfl,rfl,e⟩:=gN e;cases e;rw[aU rx,aU ry];exact⟨_,_,rfl,rfl,q _ H (.sc rfl)⟩
abbrev gf(i j:Int):Bool:=(decide (-(2^64)<i)&&decide (i<2^64))||(decide (-(2^64)<j)&&decide (j<2^64))
def tE{i j:Int}(h:gf i j=true):EG i j:=by
 unfold gf at h;dsimp[Dh,A9,decide_eq_true_eq]at h;exact h
abbrev zo(i:I) (b:Int):Option T:=match i with
 | .int a=>if gf a b=true then some (.im (.int (a*b)))else none
 | .str a=>if 1<=b/\b<=1000/\a.length<=1000 then some (.im (.str (oL (Bc b.toNat (sL a)).flatten)))else none
 | .tup a=>if a≠[]/\a.length<=1000/\1<=b/\b<=1000 then some (.im (.tup (Bc b.toNat a).flatten))else none
 | _=>none
private def dZ(x y:T):Option T:=match isI y with
 | some b=>(match x with
  | .im i=>zo i b
  | .li a=>if -(2^63)<=b/\b<2^63/\a.length*b.toNat<=sizeLine then some (.li (Bc b.toNat a).flatten)else none
  | _=>none)
 | none=>none
def td.reps{is:List I}{xs:List V}(h:td K H is xs):∀n:Nat,td K H (Bc n is).flatten (Bc n xs).flatten
 | 0=>.nil
 | n+1=>by
  rw[BH,BH,BX,BX];exact h.append (h.reps n)
def qO:cc K (rn K) dZ:=by
 intro H x y tx ty t Q rx ry e q;unfold dZ at e;split at e
 ·delta b eb;cases dR eb;split at e
  ·unfold zo at e;split at e
   ·obtain⟨h,rfl⟩:=aL e;rw[aU rx,aU ry];exact .inl (.inl ⟨_,_,rfl,rfl,tE h,q _ H (.sc rfl)⟩)
   ·obtain⟨h,rfl⟩:=aL e;rw[cv rx,aU ry];exact .inl (.inr (.inl ⟨_,_,rfl,rfl,h.1,h.2.1,h.2.2,q _ H (.sc rfl)⟩))
   ·delta a;obtain⟨h,rfl⟩:=aL e;obtain⟨p,xs,rfl,h1,h2⟩:=cb rx;rw[aU ry];apply .inl (.inr (.inr (.inr ⟨p,b,xs,rfl,rfl,h1,λz=>h.1 (h2.nil_iff.mp z),by rw[h2.length];exact h.2.1,h.2.2.1,h.2.2.2,λz=>q _ H (.im ?_),λz p hp=>q _ _ (.tup hp (h2.reps _))⟩)));subst z;have e1:(Bc (1:Int).toNat a).flatten=a:=by simp
    rw[e1,RpI];exact⟨p,xs,rfl,h1,h2⟩
   ·cases e
  ·obtain⟨h,rfl⟩:=aL e;obtain⟨p,xs,rfl,h1,h2⟩:=bO rx;rw[aU ry];exact .inr ⟨p,b,xs,rfl,rfl,h1,h.1,h.2.1,by rw[h2.length];exact h.2.2,λp hp=>q _ _ (.li hp (h2.reps _))⟩
  ·cases e
 ·cases e
private def iW:T->T->Option T:=i2 λa b=>if 0<b/\b<2^64 then some (.im (.int (a / b)))else none
def oz:cc K (rI ll λi j=>.int (i / j)) iW:=by
 intro H x y tx ty t Q rx ry e q;unfold iW at e;obtain⟨a,b,rfl,rfl,e⟩:=gN e;obtain⟨h,rfl⟩:=aL e;rw[aU rx,aU ry];exact⟨_,_,rfl,rfl,h,q _ H (.sc rfl)⟩
private def eW:T->T->Option T:=i2 λa b=>if 0<b then some (.im (.int (a % b)))else none
def qN:cc K (rI (λ_ j=>0<j) λi j=>.int (i % j)) eW:=by
 intro H x y tx ty t Q rx ry e q;unfold eW at e;obtain⟨a,b,rfl,rfl,e⟩:=gN e;obtain⟨h,rfl⟩:=aL e;rw[aU rx,aU ry];exact⟨_,_,rfl,rfl,h,q _ H (.sc rfl)⟩
private def lP:T->T->Option T:=i2 λa b=>if 0<=b/\b<=1000000/\a.natAbs<2^64 then some (.im (.int (a^b.toNat)))else none
def qR:cc K (rI vT λi j=>.int (i^j.toNat)) lP:=by
 intro H x y tx ty t Q rx ry e q;unfold lP at e;obtain⟨a,b,rfl,rfl,e⟩:=gN e;obtain⟨h,rfl⟩:=aL e;rw[aU rx,aU ry];exact⟨_,_,rfl,rfl,h,q _ H (.sc rfl)⟩
private def om:T->Option T
 | .im (.int a)=>some (.im (.int (-a)))
 | _=>none
def qP:fY K (rU λi=>.int (-i)) om:=by
 intro H x tx t Q rx e q;unfold om at e;split at e;cases e;rw[aU rx];exact⟨_,rfl,q _ H (.sc rfl)⟩;cases e
private def iH(p:Int->Int->Bool):T->T->Option T:=i2 λa b=>some (.im (.bl (p a b)))
def ic{p:Int->Int->Bool}:cc K (rI0 λi j=>.bl (p i j)) (iH p):=by
 intro H x y tx ty t Q rx ry e q;unfold iH at e;obtain⟨a,b,rfl,rfl,e⟩:=gN e;cases e;rw[aU rx,aU ry];exact⟨_,_,rfl,rfl,q _ H (.sc rfl)⟩
abbrev vH(a b:I):Bool:=match a.sc with
 | some v=>(match b.sc with
  | some w=>rR v w
  | none=>false)
 | none=>false
abbrev ofV:V->I
 | .bl b=>.bl b
 | .int i=>.int i
 | .str x=>.str x
 | _=>.non
def va{a:I}{v:V}(h:a.sc=some v):ofV v=a:=by cases a<;>cases h<;>rfl
abbrev eqI:I->I->Option Bool
 | .tup a,.tup b=>if I.doks a=true/\I.doks b=true/\I.deps a<=50 then some (decide (a=b))else none
 | a,b=>if vH a b=true then some (decide (a=b))else none
abbrev eqB:T->T->Option Bool
 | .im a,.im b=>eqI a b
 | .li a,.li b=>if I.doks a=true/\I.doks b=true/\I.deps a<=50 then some (decide (a=b))else none
 | _,_=>none
private def eqT(x y:T):Option T:=(eqB x y).map λb=>.im (.bl b)
private def neT(x y:T):Option T:=(eqB x y).map λb=>.im (.bl !b)
def we{a b:I}{c:Bool}(h:eqI a b=some c):(∃x y,a=.tup x/\b=.tup y/\I.doks x=true/\I.doks y=true/\I.deps x<=50/\c=decide (x=y)) \/ ∃v w,a.sc=some v/\b.sc=some w/\rR v w=true/\c=decide (v=w):=by
 unfold eqI at h;split at h
 ·delta x y;split at h;delta hh;cases h;exact .inl ⟨x,y,rfl,rfl,hh.1,hh.2.1,hh.2.2,rfl⟩;cases h
 ·split at h
  ·delta hh;cases h;right;unfold vH at hh;split at hh
   ·delta v ev;split at hh
    ·delta w ew;apply⟨v,w,ev,ew,hh,?_⟩;have:(a=b)↔(v=w):=⟨λz=>Bq.inj (ev.symm.trans ((congrArg I.sc z).trans ew)),λz=>by rw[<-va ev,<-va ew,z]⟩;exact decide_eq_decide.mpr this
    ·cases hh
   ·cases hh
  ·cases h
def ph{x y:V}{tx ty:T}{b:Bool}{P:V->Prop}(rx:Rpx K H tx x)(ry:Rpx K H ty y)(e:eqB tx ty=some b) :
  (rR x y=true/\b=decide (x=y))\/(∃ds es,Rep K H (.tup ds) x/\Rep K H (.tup es) y/\aH ds<=50/\(b=true↔ds=es))\/(∃p q xs ys ds es,x=.ref p/\y=.ref q/\SqL K H p xs/\SqL K H q ys/\Eg K H ds xs/\Eg K H es ys/\aH ds<=50/\(b=true↔ds=es)):=by
 unfold eqB at e;split at e
 ·delta a c;rcases we e with⟨x1,y1,rfl,rfl,h1,h2,h3,rfl⟩|⟨v,w,h1,h2,h3,rfl⟩
  ·apply .inr (.inl ⟨I.toDs x1,I.toDs y1,?_,?_,by rw[dP];exact h3,?_⟩)
   ·have:=ip (i:=.tup x1) (by rw[I.dok];exact h1) (bE rx);rwa [I.toD]at this
   ·have:=ip (i:=.tup y1) (by rw[I.dok];exact h2) (bE ry);rwa [I.toD]at this
   ·rw[decide_eq_true_eq,fh h1 h2]
  ·rw[vG h1 (bE rx),vG h2 (bE ry)];exact .inl ⟨h3,rfl⟩
 ·split at e
  ·delta a c h;cases e;obtain⟨p,xs,rfl,h1,h2⟩:=bO rx;obtain⟨p',ys,rfl,g1,g2⟩:=bO ry;exact .inr (.inr ⟨p,p',xs,ys,_,_,rfl,rfl,aB h1,aB g1,dW h.1 h2,dW h.2.1 g2,by rw[dP];exact h.2.2,by rw[decide_eq_true_eq,fh h.1 h.2.1]⟩)
  ·cases e
 ·cases e
def t4:cc K (xJ K) eqT:=by
 intro H x y tx ty t Q rx ry e q;unfold eqT at e;cases h:eqB tx ty with
 | none=>rw[h]at e;cases e
 | some b=>
  rw[h]at e;cases e;rcases ph (P:=λ_=>True) rx ry h with⟨h1,rfl⟩|⟨ds,es,h1,h2,h3,h4⟩|⟨p,p',xs,ys,ds,es,h1,h2,h3,h4,h5,h6,h7,h8⟩;exact .inl ⟨h1,q _ H (.sc rfl)⟩
  ·apply .inr (.inl ⟨ds,es,h1,h2,h3,λc hc=>?_⟩);have:c=b:=by rw[BZ,hc,h4]
   subst this;exact q _ H (.sc rfl)
  ·apply .inr (.inr ⟨p,p',xs,ys,ds,es,h1,h2,h3,h4,h5,h6,h7,λc hc=>?_⟩);have:c=b:=by rw[BZ,hc,h8]
   subst this;exact q _ H (.sc rfl)
def t6:cc K (xO K) neT:=by
 intro H x y tx ty t Q rx ry e q;unfold neT at e;cases h:eqB tx ty with
 | none=>rw[h]at e;cases e
 | some b=>
  rw[h]at e;cases e;rcases ph (P:=λ_=>True) rx ry h with⟨h1,rfl⟩|⟨ds,es,h1,h2,h3,h4⟩|⟨p,p',xs,ys,ds,es,h1,h2,h3,h4,h5,h6,h7,h8⟩;exact .inl ⟨h1,q _ H (.sc rfl)⟩
  ·apply .inr (.inl ⟨ds,es,h1,h2,h3,λc hc=>?_⟩);have:c = !b:=by cases b<;>cases c<;>simp_all
   subst this;exact q _ H (.sc rfl)
  ·apply .inr (.inr ⟨p,p',xs,ys,ds,es,h1,h2,h3,h4,h5,h6,h7,λc hc=>?_⟩);have:c = !b:=by cases b<;>cases c<;>simp_all
   subst this;exact q _ H (.sc rfl)
abbrev occ(i j:Str):Bool:=!(FW j i 0 j.length 1).isEmpty
abbrev inI(i:I) (y:T):Option Bool:=match y with
 | .im j=>(match j with
  | .str b=>(match i with
   | .str a=>some (occ a b)
   | _=>none)
  | .tup is=>if i.dok=true/\I.doks is=true/\I.deps is<=50 then some (decide (i∈is))else none
  | _=>none)
 | .li is=>if i.dok=true/\I.doks is=true/\I.deps is<=50 then some (decide (i∈is))else none
 | _=>none
abbrev inB(x y:T):Option Bool:=match x with
 | .im i=>inI i y
 | _=>none
private def inT(x y:T):Option T:=(inB x y).map λb=>.im (.bl b)
def wp{x y:V}{tx ty:T}{b:Bool}(rx:Rpx K H tx x)(ry:Rpx K H ty y)(e:inB tx ty=some b) :
  (∃i j,x=.str i/\y=.str j/\b=occ i j)\/(∃p xs d ds,y=.ref p/\(SqL K H p xs\/SqT K H p xs)/\Rep K H d x/\Eg K H ds xs/\aH ds<=50/\(b=true↔d∈ds)):=by
 unfold inB at e;split at e
 ·unfold inI at e;split at e
  ·split at e
   ·split at e;cases e;exact .inl ⟨_,_,cv rx,cv ry,rfl⟩;cases e
   ·obtain⟨h,rfl⟩:=aL e;obtain⟨p,xs,rfl,h1,h2⟩:=cb ry;exact .inr ⟨p,xs,_,_,rfl,.inr h1,ip h.1 (bE rx),dW h.2.1 h2,by rw[dP];exact h.2.2,by rw[decide_eq_true_eq,g7 h.1 h.2.1]⟩
   ·cases e
  ·obtain⟨h,rfl⟩:=aL e;obtain⟨p,xs,rfl,h1,h2⟩:=bO ry;exact .inr ⟨p,xs,_,_,rfl,.inl (aB h1),ip h.1 (bE rx),dW h.2.1 h2,by rw[dP];exact h.2.2,by rw[decide_eq_true_eq,g7 h.1 h.2.1]⟩
  ·cases e
 ·cases e
def t5:cc K (xL K) inT:=by
 intro H x y tx ty t Q rx ry e q;unfold inT at e;cases h:inB tx ty with
 | none=>rw[h]at e;cases e
 | some b=>
  rw[h]at e;cases e;rcases wp rx ry h with⟨i,j,rfl,rfl,rfl⟩|⟨p,xs,d,ds,h1,h2,h3,h4,h5,h6⟩;exact .inl ⟨i,j,rfl,rfl,q _ H (.sc rfl)⟩
  ·apply .inr (.inr ⟨p,xs,d,ds,h1,h2,h3,h4,h5,λc hc=>?_⟩);have:c=b:=by rw[BZ,hc,h6];simp
   subst this;exact q _ H (.sc rfl)
abbrev l1{α:Type} (g:T->Option α) (ts:List T):Option α:=match ts with
 | []=>none
 | t::r=>(match r with
  | []=>g t
  | _::_=>none)
def eB{α:Type}{g:T->Option α}{ts:List T}{u : α}(h:l1 g ts=some u):∃t,ts=[t]/\g t=some u:=by
 cases ts with
 | nil=>cases h
 | cons t r=>cases r with
  | nil=>exact⟨t,rfl,h⟩
  | cons _ _=>cases h
abbrev l2{α:Type} (g:T->T->Option α) (ts:List T):Option α:=match ts with
 | []=>none
 | t::r=>l1 (g t) r
abbrev zm(i:I):Option T:=match i with
 | .str x=>if x.length<=sizeLine then some (.im (.int x.length))else none
 | .tup is=>some (.im (.int is.length))
 | _=>none
abbrev zl(t:T):Option T:=match t with
 | .im i=>zm i
 | .li is=>some (.im (.int is.length))
 | .lst ts=>some (.im (.int ts.length))
 | .tup ts=>some (.im (.int ts.length))
 | _=>none
private def jO:List T->Option T:=l1 zl
def k8{t:T}{vs:List V}(h:Et K H [t] vs):∃v,vs=[v]/\Rpx K H t v:=by
 obtain⟨v,r,rfl,h1,h2⟩:=h;rw[Et]at h2;subst h2;exact⟨v,rfl,h1⟩
def A1{t u:T}{vs:List V}(h:Et K H [t,u] vs):∃v w,vs=[v,w]/\Rpx K H t v/\Rpx K H u w:=by
 obtain⟨v,r,rfl,h1,h2⟩:=h;obtain⟨w,rfl,h3⟩:=k8 h2;exact⟨v,w,rfl,h1,h3⟩
def j6{ts:List T}{v:V}(h:Rpx K H (.tup ts) v):∃a xs F,v=.ref a/\SqT K H a xs/\Rps K H ts xs F:=by
 obtain⟨F,h⟩:=h;rw[Rp]at h;obtain⟨a,xs,h1,h2,h3⟩:=h;exact⟨a,xs,F,h1,h2,h3⟩
def qL:fZ K (rl K) jO:=by
 intro H vs ts t Q r e q;unfold jO at e;have e0:=eB e;clear e;obtain⟨x,rfl,e⟩:=e0;obtain⟨v,rfl,r1⟩:=k8 r;unfold zl at e;split at e
 ·unfold zm at e;split at e
  ·obtain⟨h,rfl⟩:=aL e;rw[cv r1];exact .inr ⟨_,rfl,h,q _ H (.sc rfl)⟩
  ·cases e;obtain⟨p,xs,rfl,h1,h2⟩:=cb r1;exact .inl ⟨p,xs,rfl,.inr h1,q _ H (.sc (by rw[h2.length];rfl))⟩
  ·cases e
 ·cases e;obtain⟨p,xs,rfl,h1,h2⟩:=bO r1;exact .inl ⟨p,xs,rfl,.inl (aB h1),q _ H (.sc (by rw[h2.length];rfl))⟩
 ·cases e;obtain⟨p,xs,F,rfl,h1,h2⟩:=dg r1;exact .inl ⟨p,xs,rfl,.inl (aB h1),q _ H (.sc (by rw[h2.length];rfl))⟩
 ·cases e;obtain⟨p,xs,F,rfl,h1,h2⟩:=j6 r1;exact .inl ⟨p,xs,rfl,.inr h1,q _ H (.sc (by rw[h2.length];rfl))⟩
 ·cases e
abbrev uy(g:List I->T) (t:T):Option T:=match t with
 | .im i=>(match i with
  | .tup is=>some (g is)
  | .ls is=>some (g is)
  | _=>none)
 | .li is=>some (g is)
 | _=>none
private def r8:List T->Option T:=l1 (uy λis=>.im (.tup is))
def qU:fZ K (rq K) r8:=by
 intro H vs ts t Q r e q;unfold r8 at e;have e0:=eB e;clear e;obtain⟨x,rfl,e⟩:=e0;obtain⟨v,rfl,r1⟩:=k8 r;unfold uy at e;split at e
 ·split at e
  ·cases e;obtain⟨p,xs,rfl,h1,h2⟩:=cb r1;exact⟨p,xs,rfl,.inr ⟨h1,q _ H (.im (bE r1))⟩⟩
  ·cases e;obtain⟨p,xs,rfl,h1,h2⟩:=iq r1;exact⟨p,xs,rfl,.inl ⟨aB h1,λl hl=>q _ _ (.tup hl h2)⟩⟩
  ·cases e
 ·cases e;obtain⟨p,xs,rfl,h1,h2⟩:=bO r1;exact⟨p,xs,rfl,.inl ⟨aB h1,λl hl=>q _ _ (.tup hl h2)⟩⟩
 ·cases e
private def oh:List T->Option T:=l1 (uy λis=>.li is)
def qM:fZ K (rm K) oh:=by
 intro H vs ts t Q r e q;unfold oh at e;have e0:=eB e;clear e;obtain⟨x,rfl,e⟩:=e0;obtain⟨v,rfl,r1⟩:=k8 r;unfold uy at e;split at e
 ·split at e
  ·cases e;obtain⟨p,xs,rfl,h1,h2⟩:=cb r1;exact⟨p,xs,rfl,.inr h1,λl hl=>q _ _ (.li hl h2)⟩
  ·cases e;obtain⟨p,xs,rfl,h1,h2⟩:=iq r1;exact⟨p,xs,rfl,.inl (aB h1),λl hl=>q _ _ (.li hl h2)⟩
  ·cases e
 ·cases e;obtain⟨p,xs,rfl,h1,h2⟩:=bO r1;exact⟨p,xs,rfl,.inl (aB h1),λl hl=>q _ _ (.li hl h2)⟩
 ·cases e
abbrev bls:List I->Option (List Bool)
 | []=>some []
 | .bl b::is=>(bls is).map (b :: ·)
 | _=>none
abbrev allT:List T->Option T
 | [.li is]=>(bls is).map λbs=>.im (.bl (bs.all id))
 | _=>none
abbrev lf:List I->Option (List Str)
 | []=>some []
 | .str b::is=>(lf is).map (b :: ·)
 | _=>none
def uE{is:List I}{xs:List V}:∀{bs:List Str},lf is=some bs->td K H is xs->xs=bs.map V.str:=by
 induction is generalizing xs with
 | nil=>intro bs h r;cases h;exact r.nil_inv
 | cons i is ih=>
  intro bs h r;cases i with
  | str b=>
   dsimp[lf]at h;cases e:lf is with
   | none=>rw[e]at h;cases h
   | some cs=>
    rw[e]at h;cases h;obtain⟨x,r',rfl,h1,h2⟩:=r.cons_inv;rw[RpI]at h1;rw[h1,ih e h2];rfl
  | _=>simp[lf]at h
abbrev gS:T->List T->Option T
 | .im (.str z),[.li is]=>match lf is with
  | some zs=>if(zs.map (·.length)).sum+zs.length*z.length<=16777216 then some (.im (.str (F6 z zs)))else none
  | none=>none
 | _,_=>none
def oA:oT K "str" (vz K) gS:=by
 intro H x vs tx ts t Q rx r e q;unfold gS at e;split at e
 ·delta z is;split at e
  ·delta zs hz;split at e
   ·cases e;obtain⟨v,rfl,r1⟩:=k8 r;obtain⟨p,xs,rfl,h1,h2⟩:=bO r1;have:=uE hz h2;subst this;rw[cv rx];exact⟨z,p,zs,rfl,rfl,aB h1,by assumption,q _ H (.sc rfl)⟩
   ·cases e
  ·cases e
 ·cases e
end
section
variable {Γ:Gm}{H H':Hp}{X:List En}{e:En}{O:Rho}{Z:St}{E:List En}{v:V}{t:T}{K:yF}
def Sim.partN(S:Sim Γ H O Z E)(sm:Ei H H'){s:T}(he:e∈E){ro:Option Nat}{p:Option (List Ac)}(ho:e.r.k=.vw ro p){P:V->Prop}(hp:∀F,Rp Γ.K H e.r.t e.v F->∃w G,P w/\Rp Γ.K H' s w G/\∀a∈G,a∈F\/H a=none):∃w,P w/\Sim Γ H' O Z (⟨none,w,⟨.vw ro none,s⟩⟩::E):=by
 obtain⟨L,g,hL⟩:=S.sl;have he':e∈L.map (·.e):=by rw[hL];exact yaL _ he
 obtain⟨h,hh,rfl⟩:=Bm.mp he';obtain⟨w,G,h1,h2,h3⟩:=hp h.F (g.rp h hh);have own:∀a,H a=none->a∉L.flatMap Hd.own:=λa ha z=>by
  obtain⟨o,e,_⟩:=(g.ad a z).1;rw[ha]at e;cases e
 have g':GW Γ H' L:=by
  have:=g.step (hs:=[]) (L:=L) (H':=H') ∅ ∅ (sm.offM _) ∅ (key:=none) (v:=.non) (r:=⟨.ow,.im .non⟩) (F:=[]) BO ∅ (cu (by rw[RpI])) (.inl ⟨rfl,by simp⟩) (λj hj=>by cases hj);exact this.drop rfl
 apply⟨w,h1,⟨⟨_,g'.push (v:=w) (r:=⟨.vw ro none,s⟩) (F:=G) h2 ?_ (.inl rfl),by rw[Bj,hL];rfl⟩,S.al,S.len,λx hx j hj=>?_⟩⟩
 ·have k:=g'.kd h hh;unfold Ef at k|-;rw[ho]at k;cases ro with
  | none=>exact λa ha=>(h3 a ha).elim (k a) (own a)
  | some j=>
   obtain⟨x,x1,x2,x3,x4,x5⟩:=k;exact⟨x,x1,x2,x3,λa ha=>(h3 a ha).elim (x4 a) (λz=>.inr (own a z)),λq hq=>by cases hq⟩
 ·rcases ycM hx with rfl|hx;cases hj;exact S.hi x hx j hj
def rO:∀{ts:List T} {xs:List V} {F:List Addr},Rps K H ts xs F->∃hs:List Hd,hs.map (·.e)=aM xs ts/\hs.flatMap (·.F)=F/\∀h∈hs,Rp K H h.e.r.t h.e.v h.F/\h.e.r.k=.ow/\h.e.key=none/\∀a∈h.F,a∈F
 | [],xs,F,r=>by
  obtain⟨rfl,rfl⟩:=r.nil_inv;exact⟨[],rfl,rfl,by simp⟩
 | t::ts,xs,F,r=>by
  obtain⟨y,r',F1,F2,rfl,r1,r2,rfl⟩:=r.cons_inv;obtain⟨hs,h1,h2,h3⟩:=rO r2;apply⟨⟨⟨none,y,⟨.ow,t⟩⟩,F1⟩::hs,by rw[Bj,h1];rfl,by rw[Bh,h2],λh hh=>?_⟩;rcases ycM hh with rfl|hh;exact⟨r1,rfl,rfl,λa ha=>yaL _ ha⟩
  ·obtain⟨a,b,c,d⟩:=h3 h hh;exact⟨a,b,c,λx hx=>yaR _ (d x hx)⟩
def Sim.split{ts:List T}(S:Sim Γ H O Z (⟨none,v,⟨.ow,.tup ts⟩⟩::E)):∃a xs,v=.ref a/\SqT Γ.K H a xs/\xs.length=ts.length/\Sim Γ H O Z (aM xs ts++E):=by
 obtain⟨L,g,h⟩:=S.sl;rw[Bx]at h;obtain⟨x,L',rfl,h1,h2⟩:=ay h;have rp:=g.rp x ymS;rw[h1,Rp]at rp;obtain⟨a,xs,ev,hq,rps⟩:=rp;have k0:=g.kd x ymS;unfold Ef at k0;rw[h1]at k0;have eo:x.own=x.F:=by unfold Hd.own;rw[h1];rfl
 obtain⟨hs,e1,e2,e3⟩:=rO rps;have ho:∀h∈hs,h.e.r.k.isOw=true:=λh hh=>by rw[(e3 h hh).2.1];rfl
 have eown:(hs++L').flatMap Hd.own=(x::L').flatMap Hd.own:=by rw[Bo,Bh,dE ho,e2,eo]
 apply⟨a,xs,ev,hq,rps.length,⟨⟨hs++L',⟨?_,?_,λy hy=>?_,λy hy=>?_,?_,g.fr,g.iol⟩,?_⟩,S.al,S.len,λy hy j hj=>?_⟩⟩;rw[eown];exact g.nd;rw[eown];exact g.ad
 ·rcases yaM hy with hy|hy;exact(e3 y hy).1;exact g.rp y (ymC _ hy)
 ·rcases yaM hy with hy|hy
  ·unfold Ef;rw[(e3 y hy).2.1];exact λb hb=>k0 b ((e3 y hy).2.2.2 b hb)
  ·have k:=g.kd y (ymC _ hy);unfold Ef at k|-;split at k;exact k;exact k;rw[eown];exact k
   ·obtain⟨z,z1,z2,z3,z4,z5⟩:=k;rcases ycM z1 with rfl|z1;rw[h1]at z2;cases z2;exact⟨z,yaR _ z1,z2,z3,by rw[eown];exact z4,z5⟩
 ·have ks:=g.ks;rw[Bt,h1]at ks;rw[Ch,List.filterMap_eq_nil_iff.mpr λy hy=>(e3 y hy).2.2.1];exact ks
 ·rw[BQ,e1,h2,Bu]
 ·rcases yaM hy with hy|hy
  ·have:∀{xs:List V} {ts:List T},y∈aM xs ts->y.key=none:=by
    intro xs
    induction xs with
    | nil=>intro ts h;cases ts<;>cases h
    | cons x xs ih=>
     intro ts h;cases ts with
     | nil=>cases h
     | cons t ts=>
      rcases ycM h with rfl|h;rfl;exact ih h
   rw[this hy]at hj;cases hj
  ·exact S.hi y (ymC _ hy) j hj
abbrev partV(ro:Option Nat):T->R
 | .im i=>⟨.ow,.im i⟩
 | t=>⟨.vw ro none,t⟩
abbrev parts:R->Option (List R)
 | ⟨_,.im (.tup is)⟩=>some (is.map λi=>⟨.ow,.im i⟩)
 | ⟨.ow,.tup ts⟩=>some (ts.map λt=>⟨.ow,t⟩)
 | ⟨.vw ro _,.tup ts⟩=>some (ts.map (partV ro))
 | _=>none
def jn:∀{xs:List V} {ts:List T},aM xs ts=ens xs (ts.map λt=>⟨.ow,t⟩)
 | [],ts=>by cases ts<;>rfl
 | x::xs,[]=>rfl
 | x::xs,t::ts=>by rw[aM,Bj,ens,jn]
def Sim.imms:∀{is:List I} {xs:List V} {E:List En},Sim Γ H O Z E->td Γ.K H is xs->Sim Γ H O Z (ens xs (is.map λi=>⟨.ow,.im i⟩)++E)
 | [],xs,E,S,r=>by obtain rfl:=r.nil_inv;exact S
 | i::is,xs,E,S,r=>by
  obtain⟨x,r',rfl,h1,h2⟩:=r.cons_inv;rw[Bj,ens,Bx];exact(Sim.imms S h2).imm h1
def Sim.parts{r:R}{rs:List R}(S:Sim Γ H O Z (⟨none,v,r⟩::E))(h:L2.parts r=some rs):∃a xs,v=.ref a/\SqT Γ.K H a xs/\xs.length=rs.length/\Sim Γ H O Z (ens xs rs++E):=by
 unfold L2.parts at h;split at h
 ·delta k is;cases h;obtain⟨F,r⟩:=S.rd ymS;obtain⟨a,xs,e,hq,hr⟩:=cb ⟨F,r⟩;exact⟨a,xs,e,hq,by rw[hr.length,Br],(S.drop rfl).imms hr⟩
 ·delta ts;cases h;obtain⟨a,xs,e,hq,hl,S2⟩:=S.split;rw[jn]at S2;exact⟨a,xs,e,hq,by rw[hl,Br],S2⟩
 ·delta ro p ts;cases h;obtain⟨F,r⟩:=S.rd ymS;obtain⟨a,xs,G,e,hq,hr⟩:=j6 ⟨F,r⟩;obtain⟨L,g,hL⟩:=S.sl;rw[Bx]at hL;obtain⟨x,L',rfl,h1,h2⟩:=ay hL;have rp:=g.rp x ymS;rw[h1,Rp]at rp;obtain⟨a',xs',ev,hq',rps⟩:=rp;have S3:Sim Γ H O Z (ens xs' (ts.map (partV ro))++E):=by
   have go:∀(ts:List T) (xs:List V) (G:List Addr),Rps Γ.K H ts xs G->(∀a∈G,a∈x.F)->∃L1,GW Γ H (L1++x::L')/\L1.map (·.e)=ens xs (ts.map (partV ro))/\∀h∈L1,h.e.key=none:=by
    intro ts
    induction ts with
    | nil=>intro xs G r _;obtain⟨rfl,rfl⟩:=r.nil_inv;exact⟨[],g,rfl,by simp⟩
    | cons t ts ih=>
     intro xs G r hG;obtain⟨y,r',F1,F2,rfl,r1,r2,rfl⟩:=r.cons_inv;obtain⟨L1,g1,e1,e2⟩:=ih r' F2 r2 λa ha=>hG a (yaR _ ha);have kx:=g1.kd x (yaR _ ymS);unfold Ef at kx;rw[h1]at kx;have key:∃h:Hd,GW Γ H (h::(L1++x::L'))/\h.e=⟨none,y,partV ro t⟩:=by
      have vw:GW Γ H (⟨⟨none,y,⟨.vw ro none,t⟩⟩,F1⟩::(L1++x::L')):=by
       apply g1.push (v:=y) (r:=⟨.vw ro none,t⟩) (F:=F1) r1 ?_ (.inl rfl);unfold Ef;cases ro with
       | none=>exact λa ha=>kx a (hG a (yaL _ ha))
       | some j=>
        obtain⟨z,z1,z2,z3,z4,z5⟩:=kx;exact⟨z,z1,z2,z3,λa ha=>z4 a (hG a (yaL _ ha)),λq hq=>by cases hq⟩
      cases t with
      | im i=>exact⟨_,g1.push (v:=y) (r:=⟨.ow,.im i⟩) (F:=[]) (cu (aS r1).1) (λa ha=>by cases ha) (.inr rfl),rfl⟩
      | _=>exact⟨_,vw,rfl⟩
     obtain⟨h,gh,eh⟩:=key;apply⟨h::L1,gh,by rw[Bj,eh,e1];rfl,λz hz=>?_⟩;rcases ycM hz with rfl|hz;rw[eh];exact e2 z hz
   obtain⟨L1,g1,e1,e2⟩:=go ts xs' x.F rps λa ha=>ha;have g2:GW Γ H (L1++L'):=by
    have p:(L1++x::L').Perm (x::(L1++L')):=BD;exact(g1.perm p).drop (by rw[h1])
   apply⟨⟨_,g2,by rw[BQ,e1,h2,Bu]⟩,S.al,S.len,λy hy j hj=>?_⟩;rcases yaM hy with hy|hy
   ·rw[<-e1]at hy;obtain⟨z,hz,rfl⟩:=Bm.mp hy;rw[e2 z hz]at hj;cases hj
   ·exact S.hi y (ymC _ hy) j hj
  exact⟨a',xs',ev,hq',by rw[rps.length,Br],S3⟩
 ·cases h
private def mGNil:MGs:=⟨λrs O=>match rs with
 | []=>some O
 | _=>none,[]⟩
private def cG(g:MG)(gs:MGs):MGs:=⟨λrs O=>match rs with
 | r::rs=>if rs.all (aC g.mu)=true then(match g.run r O with
  | some O1=>gs.run rs O1
  | none=>none)else none
 | []=>none,g.mu++gs.mu⟩
private def gW(gs:MGs):MG:=⟨λr O=>match parts r with
 | some rs=>gs.run rs O
 | none=>none,gs.mu⟩
def rG:kh K wm mGNil:=by unhygienic
 intro Γ H O Z E Q vs rs O' hK hr hl S q;cases rs with
 | nil=>
  cases hr;have:vs=[]:=B9.mp hl;subst this;exact⟨rfl,q Z H (by rw[show mGNil.mu=[]from rfl,bj];exact S)⟩
 | cons _ _=>cases hr
def oJ{g:TG}{gs:TGs}{m:MG}{ms:MGs}(h1:jq K g m)(h2:kh K gs ms):kh K (pD g gs) (cG m ms):=by unhygienic
 intro Γ H O Z E Q vs rs O' hK hr hl S q;cases rs with
 | nil=>cases hr
 | cons r rs=>
  cases vs with
  | nil=>cases hl
  | cons v vs=>
   dsimp[cG]at hr q;split at hr
   ·delta al;split at hr
    ·delta O1 e1;apply⟨v,vs,rfl,?_⟩;rw[ens,Bx]at S;apply h1 Γ H O Z _ _ v r O1 hK e1 S λZ1 H1 S1=>?_;rw[aF,fA al]at S1;exact h2 Γ H1 O1 Z1 _ _ vs rs O' hK hr (by exists hl) S1 λZ2 H2 S2=>q Z2 H2 (by rw[<-ag];exact S2)
    ·cases hr
   ·cases hr
def rH{gs:TGs}{ms:MGs}{n:Nat}(h:kh K gs ms)(hn:∀rs O O',ms.run rs O=some O'->rs.length=n):jq K (sR K n gs) (gW ms):=by
 intro Γ H O Z E Q v r O' hK hr S q;dsimp[gW]at hr q;split at hr
 ·delta rs e1;obtain⟨a,xs,e,hq,hl,S2⟩:=S.parts e1;rw[hK]at hq;exact⟨a,xs,e,hq,by rw[hl];exact hn _ _ _ hr,h Γ H O Z _ _ xs rs O' hK hr hl S2 q⟩
 ·cases hr
abbrev consL(mv:List Nat):List R->Rho->Option (List T×Rho)
 | [],O=>some ([],O)
 | ⟨.ow,t⟩::rs,O=>match consL mv rs O with
  | some (ts,O')=>some (t::ts,O')
  | none=>none
 | ⟨.vw (some i) (some []),t⟩::rs,O=>if(mv.contains i&&rs.all (aC [i]))=true then(match O[i]? with
  | some (⇑_)=>(match consL mv rs ((au [i] O).set i none)with
   | some (ts,O')=>some (t::ts,O')
   | none=>none)
  | _=>none)else none
 | _,_=>none
def Sim.consL{mv:List Nat}:∀{rs:List R} {vs:List V} {ts:List T} {O O':Rho} {A E:List En},Sim Γ H O Z (A++(ens vs rs++E))->vs.length=rs.length->L2.consL mv rs O=some (ts,O')->(∀e∈A,e.r.k=.ow/\e.key=none)->vs.length=ts.length/\Sim Γ H O' Z (A++(aM vs ts++af mv E))
 | [],[],ts,O,O',A,E,S,_,h,hA=>by
  cases h;apply⟨rfl,?_⟩;have:=S.weak mv;rw[aF]at this;have ea:af mv A=A:=BY.mpr λe he=>by unfold aA;rw[(hA e he).1];rfl
  rw[ea]at this;exact this
 | r::rs,v::vs,ts,O,O',A,E,S,hl,h,hA=>by
  rw[ens,Bx]at S;obtain⟨k,t⟩:=r;cases k with
  | ow=>
   dsimp[L2.consL]at h;split at h
   ·delta ts1 O1 e1;cases h;obtain⟨h1,S1⟩:=Sim.consL (rs:=rs) (vs:=vs) (A:=A++[⟨none,v,⟨.ow,t⟩⟩]) (E:=E) (by exists S) (by exists hl) e1 (λe he=>by
     rcases yaM he with he|he;exact hA e he;rw[ysM he];exact⟨rfl,rfl⟩)
    exact⟨by simp[h1],by rw[aM];simpa using S1⟩
   ·cases h
  | io n=>cases h
  | vw a b=>
   cases a with
   | none=>cases h
   | some i=>
    cases b with
    | none=>cases h
    | some p=>
     cases p with
     | cons _ _=>cases h
     | nil=>
      dsimp[L2.consL]at h;split at h
      ·delta al;rw[A9]at al;split at h
       ·delta t1 h1;split at h
        ·delta ts1 O1 e1;cases h;have S0:Sim Γ H O Z (⟨none,v,⟨.vw (some i) (some []),t⟩⟩::(A++(ens vs rs++E))):=S.perm BD;have S1:=S0.move h1;have ea:af [i] A=A:=BY.mpr λe he=>by unfold aA;rw[(hA e he).1];rfl
         rw[aF,ea,aF,fA al.2]at S1;obtain⟨h2,S2⟩:=Sim.consL (rs:=rs) (vs:=vs) (A:=A++[⟨none,v,⟨.ow,t⟩⟩]) (E:=af [i] E) (S1.perm (by
          rw[Bu];exact(BD).symm)) (by exists hl) e1 (λe he=>by
          rcases yaM he with he|he;exact hA e he;rw[ysM he];exact⟨rfl,rfl⟩)
         apply⟨by simp[h2],?_⟩;rw[aM];have ek:af mv (af [i] E)=af mv E:=by
          rw[ag];unfold af;congr 1;funext e;rw[ft];by_cases hk:aA mv e=true
          ·rw[hk,DY];unfold aA at hk|-;split
           ·delta j hj;rw[hj]at hk;have:j≠i:=λz=>by subst z;simp at hk;exact hk (by exists al.1)
            simp[this]
           ·rfl
          ·rw[DD]at hk;rw[hk,DT]
         rw[ek]at S2;exists S2
        ·cases h
       ·cases h
      ·cases h
 | [],_::_,_,_,_,_,_,_,h,_,_=>by cases h
 | _::_,[],_,_,_,_,_,_,h,_,_=>by cases h
abbrev ims:List T->Option (List I)
 | []=>some []
 | .im i::ts=>(ims ts).map (i :: ·)
 | _=>none
def jJ:∀{ts:List T} {is:List I},ims ts=some is->ts=is.map T.im
 | [],is,h=>by cases h;rfl
 | .im i::ts,is,h=>by
  dsimp[ims]at h;cases e:ims ts with
  | none=>rw[e]at h;cases h
  | some js=>rw[e]at h;cases h;rw[Bj,<-jJ e]
 | .tup _::_,_,h=>by cases h
 | .li _::_,_,h=>by cases h
 | .lst _::_,_,h=>by cases h
 | .di _::_,_,h=>by cases h
 | .dc _::_,_,h=>by cases h
 | .ins _ _::_,_,h=>by cases h
abbrev i9(ts:List T):T:=match ims ts with
 | some is=>.im (.tup is)
 | none=>.tup ts
abbrev bB(ts:List T):T:=match ims ts with
 | some is=>.li is
 | none=>.lst ts
private def dq(mv:List Nat)(a:MA):ME:=⟨λO=>match a.run O with
 | some (rs,O1)=>if rs.length<=1000 then(match consL mv rs O1 with
  | some (ts,O2)=>some (⟨.ow,i9 ts⟩,O2)
  | none=>none)else none
 | none=>none,a.mu++mv⟩
private def aW(mv:List Nat)(a:MA):ME:=⟨λO=>match a.run O with
 | some (rs,O1)=>if rs.length<=1000 then(match consL mv rs O1 with
  | some (ts,O2)=>some (⟨.ow,bB ts⟩,O2)
  | none=>none)else none
 | none=>none,a.mu++mv⟩
def rY{n:Nat}(h:n<=1000):n<=sizeLine:=by rw[EV];omega
def rN{ta:TA}{a:MA}{mv:List Nat}(ha:dY K ta a):aP K (Am ta) (dq mv a):=by
 intro Γ H O Z E Q r O' hK hr S q;dsimp[dq]at hr q;split at hr
 ·delta rs O1 e1;split at hr
  ·delta hz;split at hr
   ·delta ts O2 e2;cases hr;apply ha Γ H O Z E _ rs O1 hK e1 S λvs H1 hl S1=>⟨by rw[hl];exact rY hz,λp hp=>?_⟩;obtain⟨hl2,S2⟩:=Sim.consL (A:=[]) (by exists S1) hl e2 ∅;rw[Cb,ag]at S2;obtain⟨F,h1,h2,h3,h4⟩:=S2.use hl2;have sm:=Ei.laid (o:=.tup vs) hp;apply q _ _ (h4 _ (.ref p) (i9 ts) F (sm.offM _) (λa ha=>let ⟨o,e,_⟩:=h3 a ha;⟨o,sm a o e⟩) h2 (λa ha=>⟨.inl ha,let ⟨o,e,m⟩:=h3 a ha;⟨o,sm a o e,m⟩⟩) ?_);unfold i9;split
    ·delta is hi;rw[jJ hi]at h1;obtain⟨h5,h6⟩:=Rps.ims.mp h1;subst h6;apply cu ?_;rw[RpI];exact⟨p,vs,rfl,SqT.of aq,h5.same sm⟩
    ·rw[Rp];exact⟨p,vs,rfl,SqT.of aq,h1.same sm⟩
   ·cases hr
  ·cases hr
 ·cases hr
def rJ{ta:TA}{a:MA}{mv:List Nat}(ha:dY K ta a):aP K (Ah ta) (aW mv a):=by
 intro Γ H O Z E Q r O' hK hr S q;dsimp[aW]at hr q;split at hr
 ·delta rs O1 e1;split at hr
  ·delta hz;split at hr
   ·delta ts O2 e2;cases hr;apply ha Γ H O Z E _ rs O1 hK e1 S λvs H1 hl S1=>⟨by rw[hl];exact rY hz,λp hp=>?_⟩;obtain⟨hl2,S2⟩:=Sim.consL (A:=[]) (by exists S1) hl e2 ∅;rw[Cb,ag]at S2;obtain⟨F,h1,h2,h3,h4⟩:=S2.use hl2;have sm:=Ei.laid (o:=.lst vs) hp;have np:p∉F:=λz=>by obtain⟨o,e,_⟩:=h3 p z;rw[hp]at e;cases e
    apply q _ _ (h4 _ (.ref p) (bB ts) (p::F) (sm.offM _) (λa ha=>let ⟨o,e,_⟩:=h3 a ha;⟨o,sm a o e⟩) (BB.mpr ⟨np,h2⟩) (λa ha=>?_) ?_)
    ·rcases ycM ha with rfl|ha;exact⟨.inr hp,_,aq,rfl⟩;exact⟨.inl ha,let ⟨o,e,m⟩:=h3 a ha;⟨o,sm a o e,m⟩⟩
    ·unfold bB;split
     ·delta is hi;rw[jJ hi]at h1;obtain⟨h5,h6⟩:=Rps.ims.mp h1;subst h6;rw[Rp];exact⟨p,vs,rfl,.inl aq,h5.same sm,rfl⟩
     ·rw[Rp];exact⟨p,vs,F,rfl,.inl aq,h1.same sm,rfl⟩
   ·cases hr
  ·cases hr
 ·cases hr
end
section
variable {Γ:Gm}{H H':Hp}{O:Rho}{Z:St}{E:List En}{v x y:V}{t:T}{K:yF}{Q:VK}
abbrev ixK:Kd->Option Ac->Option Kd
 | .ow,_=>some .ow
 | .io _,_=>none
 | .vw (some r) (some p),some a=>some (.vw (some r) (some (p++[a])))
 | .vw ro _,_=>some (.vw ro none)
abbrev ixP(k:Kd) (a:Option Ac):T->Option R
 | .im i=>↥i
 | t=>match ixK k a with
  | some k'=>some ⟨k',t⟩
  | none=>none
abbrev ixI(i:I) (n:Int):Option R:=match i with
 | .tup is=>(atI is n).map λi=>⟨.ow,.im i⟩
 | .ls is=>(atI is n).map λi=>⟨.ow,.im i⟩
 | .str z=>if z.length<=sizeLine then(atI (sL z) n).map λc=>⟨.ow,.im (.str ⟨#[c]⟩)⟩else none
 | _=>none
abbrev ixX(k:Kd) (t:T) (n:Int):Option R:=match t with
 | .im i=>ixI i n
 | .li is=>(atI is n).map λi=>⟨.ow,.im i⟩
 | .lst ts=>(match ixN ts.length n with
  | some j=>(ts[j]?).bind (ixP k (some (.ix j)))
  | none=>none)
 | .tup ts=>(match ixN ts.length n with
  | some j=>(ts[j]?).bind (ixP k none)
  | none=>none)
 | _=>none
private def ixR(r:R)(t:T):Option R:=match isI t with
 | some n=>ixX r.k r.t n
 | none=>none
private def mIx(a b:ME):ME:=⟨λO=>match a.run O with
 | some (ra,O1)=>match b.run O1 with
  | some (rb,O2)=>if aC b.mu ra=true then(match ixR ra rb.t with
   | some r=>some (r,O2)
   | none=>none)else none
  | none=>none
 | none=>none,a.mu++b.mu⟩
def gC{is:List I}{xs:List V}{n:Int}{i:I}(r:td K H is xs)(e:atI is n=some i):∃w,atI xs n=some w/\RpI K H i w:=by
 unfold atI at e|-;rw[r.length];cases h:ixN is.length n with
 | none=>rw[h]at e;cases e
 | some j=>rw[h]at e;exact r.get e
def Sim.takeO{s:T}(S:Sim Γ H O Z (⟨none,x,⟨.ow,t⟩⟩::E)){P:V->Prop}(hp:∀F,Rp Γ.K H t x F->∃w A G B,P w/\Rp Γ.K H s w G/\F=A++G++B):∃w,P w/\Sim Γ H O Z (⟨none,w,⟨.ow,s⟩⟩::E):=by
 obtain⟨F,h1,h2,h3,h4⟩:=Sim.use (vs:=[x]) (ts:=[t]) S rfl;obtain⟨y,r',F1,F2,e,r1,r2,rfl⟩:=h1.cons_inv;cases e;have:=r2.nil_inv.2;subst this;rw[BA]at h2 h3 h4;obtain⟨w,A,G,B,p,rg,rfl⟩:=hp F1 r1;have inF:∀a∈G,a∈A++G++B:=λa ha=>yaL _ (yaR _ ha);exact⟨w,p,h4 H w s G (Ed.refl _ _) (λa ha=>let ⟨o,e,_⟩:=h3 a ha;⟨o,e⟩) (Ba.mp (Ba.mp h2).1).2.1 (λa ha=>⟨.inl (inF a ha),h3 a (inF a ha)⟩) rg⟩
def lp{α:Type}{xs:List α}{n:Int}{j m:Nat}{w : α}(h:ixN m n=some j)(hl:xs.length=m)(hw:xs[j]?=some w):atI xs n=some w:=by
 unfold atI;rw[hl,h];exact hw
def Sim.ixL{k:Kd}{ts:List T}{s:T}{j:Nat}{n:Int}{r:R}(S:Sim Γ H O Z (⟨none,x,⟨k,.lst ts⟩⟩::E))(hn:ixN ts.length n=some j)(hj:ts[j]?=some s)(hr:L2.ixP k (some (.ix j)) s=some r) :
  ∃w,(∀Q:VK,Q w H->rIx Γ.K x (.int n) H Q)/\Sim Γ H O Z (⟨none,w,r⟩::E):=by
 have gen:∀F,Rp Γ.K H (.lst ts) x F->∃w A G B,(∀Q:VK,Q w H->rIx Γ.K x (.int n) H Q)/\Rp Γ.K H s w G/\F=A++G++B:=λF rp=>by
  rw[Rp]at rp;obtain⟨a,xs,F',rfl,h2,h3,rfl⟩:=rp;obtain⟨w,A,G,B,h4,h5,h6,_,_⟩:=h3.at hj;exact⟨w,a::A,G,B,λQ q=>.inl ⟨a,xs,n,w,rfl,rfl,aB h2,lp hn h3.length h4,q⟩,h5,by rw[h6];simp⟩
 have hview:∀ro p,k=.vw ro p->∃w,(∀Q:VK,Q w H->rIx Γ.K x (.int n) H Q)/\Sim Γ H O Z (⟨none,w,⟨.vw ro none,s⟩⟩::E):=λro p hk=>by
  obtain⟨w,h1,S2⟩:=S.part (e:=⟨none,x,⟨k,.lst ts⟩⟩) ymS hk (P:=λw=>∀Q:VK,Q w H->rIx Γ.K x (.int n) H Q) (s:=s) (λF rp=>by
   obtain⟨w,A,G,B,h1,h2,h3⟩:=gen F rp;exact⟨w,G,h1,h2,λa ha=>by rw[h3];exact yaL _ (yaR _ ha)⟩)
  exact⟨w,h1,S2.swap.drop rfl⟩
 have main:∀k',ixK k (some (.ix j))=some k'->∃w,(∀Q:VK,Q w H->rIx Γ.K x (.int n) H Q)/\Sim Γ H O Z (⟨none,w,⟨k',s⟩⟩::E):=λk' hk'=>by
  cases k with
  | ow=>
   cases hk';exact S.takeO gen
  | io m=>cases hk'
  | vw ro p=>
   cases ro with
   | none=>
    cases hk';exact hview none p rfl
   | some i=>
    cases p with
    | none=>cases hk';exact hview (some i) none rfl
    | some p=>
     cases hk';obtain⟨w,h1,S2⟩:=S.partP (e:=⟨none,x,⟨.vw (some i) (some p),.lst ts⟩⟩) ymS rfl (a:=.ix j) (s:=s) hj;apply⟨w,λQ q=>?_,S2.swap.drop rfl⟩;obtain⟨F,rp⟩:=S.rd ymS;obtain⟨a,xs,G,e1,h2,h3⟩:=dg ⟨F,rp⟩;obtain⟨a',xs',e2,g1,g2⟩:=h1;have e1':x=.ref a:=e1;have e2':x=.ref a':=e2;rw[e1']at e2';cases e2';have e3:xs'=xs:=by
      rcases h2 with h2|⟨o,h2⟩;rw[h2]at g1;cases g1;rfl;rw[h2]at g1;cases g1
     subst e3;rw[e1'];exact .inl ⟨a,xs',n,w,rfl,rfl,SqL.of g1,lp hn h3.length g2,q⟩
 cases s with
 | im i=>
  cases hr;obtain⟨F,rp⟩:=S.rd ymS;obtain⟨w,A,G,B,h1,h2,_⟩:=gen F rp;exact⟨w,h1,(S.drop rfl).imm (aS h2).1⟩
 | _=>
  dsimp[L2.ixP]at hr;split at hr;delta k' e;cases hr;exact main k' e;cases hr
def Sim.ixT{k:Kd}{ts:List T}{s:T}{j:Nat}{n:Int}{r:R}(S:Sim Γ H O Z (⟨none,x,⟨k,.tup ts⟩⟩::E))(hn:ixN ts.length n=some j)(hj:ts[j]?=some s)(hr:L2.ixP k none s=some r) :
  ∃w,(∀Q:VK,Q w H->rIx Γ.K x (.int n) H Q)/\Sim Γ H O Z (⟨none,w,r⟩::E):=by
 have gen:∀F,Rp Γ.K H (.tup ts) x F->∃w A G B,(∀Q:VK,Q w H->rIx Γ.K x (.int n) H Q)/\Rp Γ.K H s w G/\F=A++G++B:=λF rp=>by
  rw[Rp]at rp;obtain⟨a,xs,rfl,h2,h3⟩:=rp;obtain⟨w,A,G,B,h4,h5,h6,_,_⟩:=h3.at hj;exact⟨w,A,G,B,λQ q=>.inr (.inl ⟨a,xs,n,w,rfl,rfl,h2,lp hn h3.length h4,q⟩),h5,h6⟩
 have main:∀k',ixK k none=some k'->∃w,(∀Q:VK,Q w H->rIx Γ.K x (.int n) H Q)/\Sim Γ H O Z (⟨none,w,⟨k',s⟩⟩::E):=λk' hk'=>by
  cases k with
  | ow=>
   cases hk';exact S.takeO gen
  | io m=>cases hk'
  | vw ro p=>
   have hv:k'=.vw ro none:=by cases ro<;>cases p<;>cases hk'<;>rfl
   subst hv;obtain⟨w,h1,S2⟩:=S.part (e:=⟨none,x,⟨.vw ro p,.tup ts⟩⟩) ymS rfl (P:=λw=>∀Q:VK,Q w H->rIx Γ.K x (.int n) H Q) (s:=s) (λF rp=>by
    obtain⟨w,A,G,B,h1,h2,h3⟩:=gen F rp;exact⟨w,G,h1,h2,λa ha=>by rw[h3];exact yaL _ (yaR _ ha)⟩)
   exact⟨w,h1,S2.swap.drop rfl⟩
 cases s with
 | im i=>
  cases hr;obtain⟨F,rp⟩:=S.rd ymS;obtain⟨w,A,G,B,h1,h2,_⟩:=gen F rp;exact⟨w,h1,(S.drop rfl).imm (aS h2).1⟩
 | _=>
  dsimp[L2.ixP]at hr;split at hr;delta k' e;cases hr;exact main k' e;cases hr
def Sim.ixR{ra r:R}{tb:T}(h:L2.ixR ra tb=some r)(S:Sim Γ H O Z (⟨none,x,ra⟩::E))(ry:Rpx Γ.K H tb y):∃w,(∀Q:VK,Q w H->rIx Γ.K x y H Q)/\Sim Γ H O Z (⟨none,w,r⟩::E):=by
 have r1:Rpx Γ.K H ra.t x:=S.rd (e:=⟨none,x,ra⟩) ymS;unfold L2.ixR at h;split at h
 ·delta n en;cases dR en;obtain⟨k0,t0⟩:=ra;replace r1:Rpx Γ.K H t0 x:=r1;rw[aU ry];unfold ixX at h;dsimp only at h;split at h
  ·unfold ixI at h;split at h
   ·delta is;cases h0:atI is n with
    | none=>rw[h0]at h;cases h
    | some i=>
     rw[h0]at h;cases h;obtain⟨p,xs,ex,g1,g2⟩:=cb r1;obtain⟨w,h3,h4⟩:=gC g2 h0;exact⟨w,λQ q=>.inr (.inl ⟨p,xs,n,w,ex,rfl,g1,h3,q⟩),(S.drop rfl).imm h4⟩
   ·delta is;cases h0:atI is n with
    | none=>rw[h0]at h;cases h
    | some i=>
     rw[h0]at h;cases h;obtain⟨p,xs,ex,g1,g2⟩:=iq r1;obtain⟨w,h3,h4⟩:=gC g2 h0;exact⟨w,λQ q=>.inl ⟨p,xs,n,w,ex,rfl,aB g1,h3,q⟩,(S.drop rfl).imm h4⟩
   ·delta z;split at h
    ·delta hz;cases h0:atI (sL z) n with
     | none=>rw[h0]at h;cases h
     | some c=>
      rw[h0]at h;cases h;exact⟨_,λQ q=>.inr (.inr ⟨z,n,c,cv r1,rfl,hz,h0,q⟩),(S.drop rfl).imm (iw rfl)⟩
    ·cases h
   ·cases h
  ·delta is;cases h0:atI is n with
   | none=>rw[h0]at h;cases h
   | some i=>
    rw[h0]at h;cases h;obtain⟨p,xs,ex,g1,g2⟩:=bO r1;obtain⟨w,h3,h4⟩:=gC g2 h0;exact⟨w,λQ q=>.inl ⟨p,xs,n,w,ex,rfl,aB g1,h3,q⟩,(S.drop rfl).imm h4⟩
  ·delta ts;split at h
   ·delta j hj;cases h0:ts[j]? with
    | none=>rw[h0]at h;cases h
    | some s=>
     rw[h0]at h;exact S.ixL hj h0 h
   ·cases h
  ·delta ts;split at h
   ·delta j hj;cases h0:ts[j]? with
    | none=>rw[h0]at h;cases h
    | some s=>
     rw[h0]at h;exact S.ixT hj h0 h
   ·cases h
  ·cases h
 ·cases h
def xU{ta tb:TE}{a b:ME}(ha:aP K ta a)(hb:aP K tb b):aP K (tOp (rIx K) ta tb) (mIx a b):=by unhygienic
 intro Γ H O Z E Q r O' hK hr S q;dsimp[mIx]at hr;split at hr
 ·delta ra O1 e1;split at hr
  ·delta rb O2 e2;split at hr
   ·delta al;split at hr
    ·delta r0 e3;cases hr;apply ha Γ H O Z E _ ra O1 hK e1 S λx H1 S1=>?_;apply hb Γ H1 O1 Z _ _ rb _ hK e2 S1 λy H2 S2=>?_;rw[aJ (ba al),ag]at S2;have r2:=S2.rd ymS;obtain⟨w,h1,S4⟩:=Sim.ixR e3 (S2.drop rfl) r2;rw[<-hK];exact h1 Q (q w _ S4)
    ·cases hr
   ·cases hr
  ·cases hr
 ·cases hr
structure MO where
 run:Rho->Option (Option Int×Rho)
 mu:List Nat
abbrev oU(K:yF)(to:TO)(m:MO):Prop:=∀(Γ:Gm) (H:Hp) (O:Rho) (Z:St) (E:List En) (Q:Option Int->Hp->Prop) (o:Option Int) (O':Rho),Γ.K=K->m.run O=some (o,O')->Sim Γ H O Z E->(∀H',Sim Γ H' O' Z (af m.mu E)->Q o H')->to Z H Q
private def mNoPart:MO:=⟨λO=>some (none,O),[]⟩
private def gX(a:ME):MO:=⟨λO=>match a.run O with
 | some (⟨_,.im (.int n)⟩,O1)=>some (some n,O1)
 | _=>none,a.mu⟩
def lW:oU K nE mNoPart:=by unhygienic
 intro Γ H O Z E Q o O' hK hr S q;cases hr;exact q H (by rw[show mNoPart.mu=[]from rfl,bj];exact S)
def rL{ta:TE}{a:ME}(ha:aP K ta a):oU K (vN ta) (gX a):=by unhygienic
 intro Γ H O Z E Q o O' hK hr S q;dsimp[gX]at hr;split at hr
 ·delta k n O1 e1;cases hr;exact ha Γ H O Z E _ _ _ hK e1 S λx H1 S1=>⟨n,aU (S1.rd ymS),q H1 (S1.drop rfl)⟩
 ·cases hr
def td.cut{is:List I}{xs:List V}(r:td K H is xs)(lo hi:Option Int):td K H (cF is lo hi) (gH xs lo hi):=by
 unfold cF gH;rw[r.length];exact(r.drop _).take _
def Rps.cut{ts:List T}{xs:List V}{F:List Addr}(r:Rps K H ts xs F)(lo hi:Option Int):∃A G B,Rps K H (cF ts lo hi) (gH xs lo hi) G/\F=A++G++B:=by
 unfold cF gH;rw[r.length];obtain⟨A,G1,h1,h2,rfl⟩:=r.take (HT.sIx ts.length 0 lo);obtain⟨G,B,h3,h4,rfl⟩:=h2.take (HT.sIx ts.length ts.length hi-HT.sIx ts.length 0 lo);exact⟨A,G,B,h3,by simp⟩
abbrev slI(i:I) (lo hi:Option Int):Option R:=match i with
 | .tup is=>if HT.sIx is.length 0 lo=0/\HT.sIx is.length is.length hi=is.length then none else ↥(.tup (cF is lo hi))
 | .str z=>if z.length<=sizeLine then ↥(.str (oL (cF (sL z) lo hi)))else none
 | _=>none
abbrev slX(k:Kd) (t:T) (lo hi:Option Int):Option R:=match t with
 | .li is=>⇑(.li (cF is lo hi))
 | .im i=>slI i lo hi
 | .lst ts=>(match k with
  | .vw ro _=>some ⟨.vw ro none,.lst (cF ts lo hi)⟩
  | _=>none)
 | _=>none
private def slR(r:R)(lo hi:Option Int):Option R:=slX r.k r.t lo hi
private def mSl(a:ME)(lo hi:MO):ME:=⟨λO=>match a.run O with
 | some (ra,O1)=>match lo.run O1 with
  | some (l,O2)=>match hi.run O2 with
   | some (h,O3)=>if aC (lo.mu++hi.mu) ra=true then(match slR ra l h with
    | some r=>some (r,O3)
    | none=>none)else none
   | none=>none
  | none=>none
 | none=>none,a.mu++(lo.mu++hi.mu)⟩
def xW{ta:TE}{tl th:TO}{a:ME}{lo hi:MO}(ha:aP K ta a)(hl:oU K tl lo)(hh:oU K th hi):aP K (tSl (rSl K) ta tl th) (mSl a lo hi):=by unhygienic
 intro Γ H O Z E Q r O' hK hr S q;dsimp[mSl]at hr;split at hr
 ·delta ra O1 e1;split at hr
  ·delta l O2 e2;split at hr
   ·delta h O3 e3;split at hr
    ·delta al;split at hr
     ·delta r0 e4;cases hr;apply ha Γ H O Z E _ ra O1 hK e1 S λx H1 S1=>?_;apply hl Γ H1 O1 Z _ _ l _ hK e2 S1 λH2 S2=>?_;apply hh Γ H2 O2 Z _ _ h _ hK e3 S2 λH3 S3=>?_;rw[ag,aJ (ba al),ag]at S3;have r1:=S3.rd ymS;unfold slR slX at e4;obtain⟨k0,t0⟩:=ra;replace r1:Rpx Γ.K H3 t0 x:=r1;dsimp only at e4;split at e4
      ·cases e4;obtain⟨p,xs,ex,g1,g2⟩:=bO r1;exact .inr (.inl ⟨p,xs,ex,aB g1,λp hp=>q _ _ ((S3.drop rfl).fresh (.li hp (g2.cut l h)))⟩)
      ·unfold slI at e4;split at e4
       ·delta is;split at e4;cases e4
        ·delta hw;cases e4;obtain⟨p,xs,ex,g1,g2⟩:=cb r1;rw[hK]at g1;exact .inl ⟨p,xs,ex,g1,by rw[g2.length];exact hw,λp hp=>q _ _ ((S3.drop rfl).fresh (.tup hp (g2.cut l h)))⟩
       ·split at e4
        ·delta hz;cases e4;exact .inr (.inr ⟨_,cv r1,hz,q _ _ ((S3.drop rfl).imm (iw rfl))⟩)
        ·cases e4
       ·cases e4
      ·delta ts;split at e4
       ·delta ro p0;cases e4;obtain⟨p,xs,F,ex0,g1,g2⟩:=dg r1;have ex:x=.ref p:=ex0;apply .inr (.inl ⟨p,xs,ex,aB g1,λp' hp=>?_⟩);obtain⟨w,hw,S4⟩:=S3.partN (H':=upd H3 p' (.lst (gH xs l h))) (Ei.laid hp) (s:=.lst (cF ts l h)) ymS rfl (P:=λw=>w=.ref p') (λF rp=>by
         have rp':Rp Γ.K H3 (.lst ts) x F:=rp;rw[Rp]at rp';obtain⟨a',xs',F',ex',g1',g2',rfl⟩:=rp';rw[ex]at ex';cases ex';have e3:xs'=xs:=by
          rcases g1 with g1|⟨o,g1⟩<;>rcases g1' with g1'|⟨o',g1'⟩<;>rw[g1]at g1'<;>cases g1'<;>rfl
         subst e3;obtain⟨A,G,B,g3,rfl⟩:=g2'.cut l h;apply⟨.ref p',p'::G,rfl,?_,λb hb=>?_⟩
         ·rw[Rp];exact⟨p',_,G,rfl,.inl aq,g3.same (Ei.laid hp),rfl⟩
         ·rcases ycM hb with rfl|hb;exact .inr hp;exact .inl (ymC _ (yaL _ (yaR _ hb))))
        subst hw;exact q _ _ (S4.swap.drop rfl)
       ·cases e4
      ·cases e4
     ·cases hr
    ·cases hr
   ·cases hr
  ·cases hr
 ·cases hr
abbrev gx(K:yF)(red:V->List V->Hp->VK->Prop)(f:T->List T->Option (T×I)):Prop:=∀(H:Hp) (w:V) (vs:List V) (s:T) (ts:List T) (s':T) (i:I) (G F:List Addr) (Q:VK),Rp K H s w G->Rps K H ts vs F->(G++F).Nodup->(∀a∈G++F,Mu H a)->f s ts=some (s',i) ->
 (∀v H' G',Ed G H H'->(∀a∈G,∃o,H' a=some o)->G'.Nodup->(∀a∈G',(a∈G++F\/H a=none)/\Mu H' a)->Rp K H' s' w G'->RpI K H' i v->Q v H')->red w vs H Q
private def mutR(i:Nat)(mv:List Nat)(f:T->List T->Option (T×I))(r0:R)(rs:List R)(O1:Rho):Option (R×Rho):=match r0 with
 | ⟨.vw (some j) (some p),s⟩=>if(decide (j=i) && !mv.contains i)=true then(match consL mv rs O1 with
  | some (ts,O2)=>(match f s ts with
   | some (s',res)=>(match O2[i]? with
    | some (some ⟨k,t⟩)=>if k.isOw=true then some (⟨.ow,.im res⟩,(au [i] O2).set i (some ⟨k,t.put p s'⟩))else none
    | _=>none)
   | none=>none)
  | none=>none)else none
 | _=>none
def Sim.mutR{i:Nat}{mv:List Nat}{red:V->List V->Hp->VK->Prop}{f:T->List T->Option (T×I)}{r0:R}{rs:List R}{r:R}{O1 O':Rho}{vs:List V}(hK : Γ.K=K)(hp:gx K red f)(h:L2.mutR i mv f r0 rs O1=some (r,O'))(hl:vs.length=rs.length)(S:Sim Γ H O1 Z (ens vs rs++⟨none,x,r0⟩::E))(q:∀v H',Sim Γ H' O' Z (⟨none,v,r⟩::af (mv++[i]) E)->Q v H'):red x vs H Q:=by
 unfold L2.mutR at h;split at h
 ·delta j p s;split at h
  ·delta hc;rw[A9,decide_eq_true_eq,BI]at hc;obtain⟨rfl,hmv⟩:=hc;split at h
   ·delta ts O2 e1;split at h
    ·delta s' res e2;split at h
     ·delta k t e3;split at h
      ·delta ho;cases h;obtain⟨hl2,S2⟩:=Sim.consL (A:=[]) (by exists S) hl e1 ∅;rw[Cb,aJ (show aA mv ⟨none,x,⟨.vw (some j) (some p),s⟩⟩=true by unfold aA;dsimp[Kd.root];rw[hmv];rfl)]at S2;obtain⟨G,F,h1,h2,h3,h4,h5⟩:=S2.mut hl2 e3 ho;rw[hK]at h1 h2;apply hp H x vs s ts s' res G F Q h1 h2 h3 h4 e2 λv H' G' a b c d e g=>q v H' ?_;rw[<-ag];rw[<-hK]at e g;exact(h5 H' s' G' a b c d e).imm g
      ·cases h
     ·cases h
    ·cases h
   ·cases h
  ·cases h
 ·cases h
private def lE(i:Nat)(mv:List Nat)(f:T->List T->Option (T×I))(o:ME)(a:MA):ME:=⟨λO=>match o.run O with
 | some (r0,O0)=>match a.run O0 with
  | some (rs,O1)=>if aC a.mu r0=true then L2.mutR i mv f r0 rs O1 else none
  | none=>none
 | none=>none,(o.mu++a.mu)++(mv++[i])⟩
def uo{T0:String}{red:V->List V->Hp->VK->Prop}{f:T->List T->Option (T×I)}{i:Nat}{mv:List Nat}{to:TE}{ta:TA}{o:ME}{a:MA}(hp:gx K red f)(hty:∀(H:Hp) (x:V) (tx:T) ts r,Rpx K H tx x->f tx ts=some r->tyV K T0 x H)(ho:aP K to o)(ha:dY K ta a):aP K (tBM K T0 red to ta) (lE i mv f o a):=by
 intro Γ H O Z E Q r O' hK hr S q;dsimp[lE]at hr q;split at hr
 ·delta r0 O0 e0;split at hr
  ·delta rs O1 e1;split at hr
   ·delta al;apply ho Γ H O Z E _ r0 _ hK e0 S λx H1 S1=>?_;have r0':=S1.rd ymS;rw[hK]at r0';apply⟨?_,?_⟩
    ·unfold L2.mutR at hr;split at hr
     ·split at hr
      ·split at hr
       ·split at hr;delta e2;exact hty H1 x _ _ _ r0' e2;cases hr
       ·cases hr
      ·cases hr
     ·cases hr
    ·apply ha Γ H1 O0 Z _ _ rs _ hK e1 S1 λvs H2 hl S2=>?_;rw[aJ (ba al),ag]at S2;exact Sim.mutR hK hp hr hl S2 λv H' S3=>q v H' (by rw[<-ag];exact S3)
   ·cases hr
  ·cases hr
 ·cases hr
def u9{is:List I}{w:V}{G:List Addr}(h:Rp K H (.li is) w G)(mu:∀a∈G,Mu H a):∃a xs,w=.ref a/\H a=some (.lst xs)/\td K H is xs/\G=[a]:=by
 rw[Rp]at h;obtain⟨a,xs,h1,h2,h3,rfl⟩:=h;exact⟨a,xs,h1,(mu a ymS).lst h2,h3,rfl⟩
def wH{ts:List T}{w:V}{G:List Addr}(h:Rp K H (.lst ts) w G)(mu:∀a∈G,Mu H a):∃a xs F,w=.ref a/\H a=some (.lst xs)/\Rps K H ts xs F/\G=a::F:=by
 rw[Rp]at h;obtain⟨a,xs,F,h1,h2,h3,rfl⟩:=h;exact⟨a,xs,F,h1,(mu a ymS).lst h2,h3,rfl⟩
def r9{is':List I}{xs xs':List V}{a:Addr}{F:List Addr}{i:I}{v:V}(hH:H a=some (.lst xs))(hr:td K H is' xs')(hi:RpI K H i v)
  (q:∀v H' G',Ed [a] H H'->(∀b∈[a],∃o,H' b=some o)->G'.Nodup->(∀b∈G',(b∈[a]++F\/H b=none)/\Mu H' b)->Rp K H' (.li is') (.ref a) G'->RpI K H' i v->Q v H'):Q v (upd H a (.lst xs')):=by
 have hM:∀b∈[a],Mu H b:=λb hb=>by rw[ysM hb];exact⟨_,hH,rfl⟩
 apply q v _ [a] Ed.upd (λb hb=>by rw[ysM hb];exact⟨_,aq⟩) ∅ (λb hb=>?_) ?_ (hi.off Ed.upd hM);rw[ysM hb];exact⟨.inl ∅,_,aq,rfl⟩;rw[Rp];exact⟨a,xs',rfl,.inl aq,hr.off Ed.upd hM,rfl⟩
def nI{ts':List T}{xs xs':List V}{a:Addr}{G F F':List Addr}{i:I}{v:V}(hH:H a=some (.lst xs))(nd:(a::F').Nodup)(mu:∀b∈F',Mu H b)(hF:∀b∈F',b∈(a::G)++F)(hr:Rps K H ts' xs' F')(hi:RpI K H i v)
  (q:∀v H' G',Ed (a::G) H H'->(∀b∈a::G,∃o,H' b=some o)->G'.Nodup->(∀b∈G',(b∈(a::G)++F\/H b=none)/\Mu H' b)->Rp K H' (.lst ts') (.ref a) G'->RpI K H' i v->Q v H') (dG:∀b∈G,∃o,H b=some o):Q v (upd H a (.lst xs')):=by
 have hM:∀b∈[a],Mu H b:=λb hb=>by rw[ysM hb];exact⟨_,hH,rfl⟩
 have na:∀b∈F',b≠a:=λb hb z=>(BB.mp nd).1 (z▸hb);apply q v _ (a::F') (Ed.upd.mono λb hb=>by rw[ysM hb];exact ymS) (λb hb=>?_) nd (λb hb=>?_) ?_ (hi.off Ed.upd hM)
 ·by_cases e:b=a;subst e;exact⟨_,aq⟩
  ·rcases ycM hb with z|z;exact absurd z e;obtain⟨o,h⟩:=dG b z;exact⟨o,by rw[upd_ne e];exact h⟩
 ·rcases ycM hb with rfl|hb;exact⟨.inl ∅,_,aq,rfl⟩
  ·apply⟨.inl (hF b hb),?_⟩;obtain⟨o,h,m⟩:=mu b hb;exact⟨o,by rw[upd_ne (na b hb)];exact h,m⟩
 ·rw[Rp];apply⟨a,xs',F',rfl,.inl aq,hr.off Ed.upd hM (λb hb z=>na b hb (ysM z)),rfl⟩
abbrev ap1(s t:T):Option (T×I):=match s with
 | .li is=>(match t with
  | .im i=>if is.length<sizeLine then some (.li (is++[i]),.non)else none
  | _=>if is.length<sizeLine then some (.lst (is.map .im++[t]),.non)else none)
 | .lst ts=>if ts.length<sizeLine then some (.lst (ts++[t]),.non)else none
 | _=>none
private def apT(s:T)(ts:List T):Option (T×I):=l1 (ap1 s) ts
def Ab{t:T}{vs:List V}{F:List Addr}(h:Rps K H [t] vs F):∃v,vs=[v]/\Rp K H t v F:=by
 obtain⟨v,r,F1,F2,rfl,h1,h2,rfl⟩:=h.cons_inv;obtain⟨rfl,rfl⟩:=h2.nil_inv;exact⟨v,rfl,by rw[BA];exact h1⟩
def cD:RpI K H .non .non:=by rw[RpI]
def kU:gx K jZ apT:=by
 intro H w vs s ts s' i G F Q rw0 rs nd mu e q;unfold apT at e;have e0:=eB e;clear e;obtain⟨tt,rfl,e⟩:=e0;obtain⟨y,rfl,h3⟩:=Ab rs;unfold ap1 at e;split at e
 ·delta is;obtain⟨a,xs,rfl,h1,h2,rfl⟩:=u9 rw0 λa ha=>mu a (yaL _ ha);split at e
  ·obtain⟨hz,e⟩:=aL e;cases e;exact⟨a,xs,y,rfl,rfl,h1,by rw[h2.length];exact hz,r9 h1 (h2.append (.one (aS h3).1)) cD q⟩
  ·obtain⟨hz,e⟩:=aL e;cases e;apply⟨a,xs,y,rfl,rfl,h1,by rw[h2.length];exact hz,nI (G:=[]) (F:=F) (F':=F) h1 nd (λb hb=>mu b (yaR _ hb)) (λb hb=>yaR _ hb) ?_ cD q ∅⟩;have:=Rps.append (Rps.ims.mpr ⟨h2,rfl⟩) (Rps.cons h3 Rps.nil);exists this
 ·obtain⟨hz,e⟩:=aL e;cases e;obtain⟨a,xs,F0,rfl,h1,h2,rfl⟩:=wH rw0 λa ha=>mu a (yaL _ ha);have mm:∀b∈F0++F,b∈(a::F0)++F:=λb hb=>(yaM hb).elim (λz=>yaL _ (ymC _ z)) λz=>yaR _ z;apply⟨a,xs,y,rfl,rfl,h1,by rw[h2.length];exact hz,nI (G:=F0) (F:=F) (F':=F0++F) h1 (by exists nd) (λb hb=>mu b (mm b hb)) mm ?_ cD q (λb hb=>h2.dom b hb)⟩;have:=Rps.append h2 (Rps.cons h3 Rps.nil);exists this
 ·cases e
def Ap{is:List I}{x:V}(h:Rpx K H (.li is) x):tyV K "list" x H:=by
 obtain⟨a,xs,rfl,h1,h2⟩:=bO h;exact .inl ⟨rfl,xs,aB h1⟩
def yf{is:List T}{x:V}(h:Rpx K H (.lst is) x):tyV K "list" x H:=by
 obtain⟨a,xs,F,rfl,h1,h2⟩:=dg h;exact .inl ⟨rfl,xs,aB h1⟩
def oR(H:Hp)(x:V)(tx:T)(ts:List T)(r:T×I)(h:Rpx K H tx x)(e:apT tx ts=some r):tyV K "list" x H:=by
 unfold apT at e;obtain⟨t,_,e⟩:=eB e;unfold ap1 at e;split at e;exact Ap h;exact yf h;cases e
private def popT:T->List T->Option (T×I)
 | .li is,[]=>match is[is.length-1]? with
  | some i=>some (.li is.dropLast,i)
  | none=>none
 | _,_=>none
private def rS(s:T)(n:T)(v:T):Option T:=match s,n,v with
 | .li is,.im (.int n),.im i=>match ixN is.length n with
  | some j=>some (.li (is.set j i))
  | none=>none
 | _,_,_=>none
private def lF(j:Nat)(o i:ME):MG:=⟨λr O=>match r with
 | ⟨.ow,tv⟩=>match o.run O with
  | some (⟨.vw (some j') (some p),s⟩,O1)=>match i.run O1 with
   | some (ri,O2)=>if(decide (j'=j) && !i.mu.contains j)=true then(match rS s ri.t tv with
    | some s'=>(match O2[j]? with
     | some (some ⟨k,t⟩)=>if k.isOw=true then some ((au [j] O2).set j (some ⟨k,t.put p s'⟩))else none
     | _=>none)
    | none=>none)else none
   | none=>none
  | _=>none
 | _=>none,(o.mu++i.mu)++[j]⟩
def td.set'{is:List I}{xs:List V}{i:I}{w:V}(hx:RpI K H i w)(n:Nat)(h:td K H is xs):td K H (is.set n i) (xs.set n w):=td.set hx n h
def uu{to ti:TE}{o i:ME}{j:Nat}(ho:aP K to o)(hi:aP K ti i):jq K (za to ti vE) (lF j o i):=by
 intro Γ H O Z E Q v r O' hK hr S q;dsimp[lF]at hr q;split at hr
 ·delta tv;split at hr
  ·delta j' p s O1 e1;split at hr
   ·delta ri O2 e2;split at hr
    ·delta hc;rw[A9,decide_eq_true_eq,BI]at hc;obtain⟨rfl,hmv⟩:=hc;split at hr
     ·delta s' e3;split at hr
      ·delta k t e4;split at hr
       ·delta hw;cases hr;apply ho Γ H O Z _ _ _ _ hK e1 S λx H1 S1=>?_;apply hi Γ H1 O1 Z _ _ _ _ hK e2 S1 λy H2 S2=>?_;have k1:aA i.mu ⟨none,x,⟨.vw (some j') (some p),s⟩⟩=true:=by unfold aA;dsimp[Kd.root];rw[hmv];rfl
        have k2:∀M:List Nat,aA M ⟨none,v,⟨.ow,tv⟩⟩=true:=λM=>rfl;rw[aJ k1,ag,aJ (k2 _)]at S2;have ry:=S2.rd ymS;have S3:=S2.drop rfl;obtain⟨G,F,h1,h2,h3,h4,h5⟩:=Sim.mut (vs:=[v]) (ts:=[tv]) (S3.perm (List.Perm.swap _ _ _)) rfl e4 hw;generalize hri:ri.t=tri at e3;unfold rS at e3;split at e3
        ·delta is n i0;split at e3
         ·delta m hm;cases e3;obtain⟨a,xs,rfl,g1,g2,rfl⟩:=u9 h1 λa ha=>h4 a (yaL _ ha);obtain⟨z,ez,g3⟩:=Ab h2;cases ez;obtain⟨g4,rfl⟩:=aS g3;have ry':∃F,Rp Γ.K H2 ri.t y F:=ry;have ey:y=.int n:=by rw[hri]at ry';exact aU ry'
          subst ey;apply⟨a,xs,n,m,rfl,rfl,g1,by rw[g2.length];exact hm,?_⟩;apply r9 (Q:=λ_ H'=>Q Z H') (F:=[]) (v:=.non) (i:=.non) g1 (g2.set' g4 m) cD λv' H' G' a1 a2 a3 a4 a5 _=>q Z H' ?_;have:=h5 H' _ G' a1 a2 a3 a4 a5;rw[ag]at this;exact this
         ·cases e3
        ·cases e3
       ·cases hr
      ·cases hr
     ·cases hr
    ·cases hr
   ·cases hr
  ·cases hr
 ·cases hr
end
section
variable {Γ:Gm}{H H':Hp}{O:Rho}{Z:St}{E:List En}{v x y:V}{t:T}{K:yF}{Q:VK}
def fv{M N:List Nat}(h:∀j∈N,j∈M){e:En}(k:aA M e=true):aA N e=true:=by
 unfold aA at k|-;split at k
 ·delta j hj;dsimp[BI,BW,decide_eq_false_iff_not]at k|-;exact λz=>k (h j z)
 ·rfl
def cR{M N:List Nat}(h:∀j∈N,j∈M)(E:List En):af N (af M E)=af M E:=by
 unfold af;rw[BY];intro e he;exact fv h (Be.mp he).2
abbrev itW(c:MT) (b:MS):Nat->Rho->Option (Fl×Rho)
 | 0,_=>none
 | n+1,O=>match c.run O with
  | some (true,O1)=>(match b.run O1 with
   | some (.nx,O2)=>itW c b n O2
   | some (.ct,O2)=>itW c b n O2
   | some (.bk,O2)=>some (.nx,O2)
   | some (.rt t,O2)=>some (.rt t,O2)
   | none=>none)
  | some (false,O1)=>some (.nx,O1)
  | none=>none
structure MI where
 run:Rho->Option ((List R×List R)×Rho)
 mu:List Nat
abbrev el(Γ:Gm)(J:It)(vs:List V)(srcs:List R)(items:List R):Prop:=∀(H:Hp) (O:Rho) (Z:St) (E:List En),Sim Γ H O Z (ens vs srcs++E)->(∀i,items.length<=i->J.stop i H)/\∀i r,items[i]?=some r->J.go i H/\∀x H',J.yld i H x H'->Sim Γ H' O Z (⟨none,x,r⟩::(ens vs srcs++E))
abbrev kj(K:yF)(wi:TI)(m:MI):Prop:=∀(Γ:Gm) (H:Hp) (O:Rho) (Z:St) (E:List En) (Rr:It->Hp->Prop) (srcs:List R) (items:List R) (O':Rho),Γ.K=K->m.run O=some ((srcs,items),O')->Sim Γ H O Z E->(∀Γ':Gm,Γ'.K=Γ.K->(∀H O Z E,Sim Γ' H O Z E->Sim Γ H O Z E)->∀J vs H',vs.length=srcs.length->Sim Γ' H' O' Z (ens vs srcs++af m.mu E)->el Γ' J vs srcs items->Rr J H')->wi Z H Rr
def cq{M:List Nat}:∀{A:List En},(∀e∈A,aA M e=true)->af M A=A
 | [],_=>rfl
 | e::A,h=>by rw[aJ (h e ymS),cq λx hx=>h x (ymC _ hx)]
def gI{M:List Nat}:∀{vs:List V} {rs:List R},rs.all (aC M)=true->∀e∈ens vs rs,aA M e=true
 | [],rs,_,e,h=>by cases rs<;>cases h
 | _::_,[],_,e,h=>by cases h
 | v::vs,r::rs,ha,e,h=>by
  rw[Cr,A9]at ha;rcases ycM h with rfl|h;exact ha.1;exact gI ha.2 e h
def ku:∀{vs:List V} {rs:List R},∀e∈ens vs rs,e.key=none
 | [],rs,e,h=>by cases rs<;>cases h
 | _::_,[],e,h=>by cases h
 | v::vs,r::rs,e,h=>by
  rcases ycM h with rfl|h;rfl;exact ku e h
abbrev lU(n:Int):R:=⟨.ow,.im (.int n)⟩
abbrev ue:R:=⟨.ow,.im .non⟩
abbrev j4(lo:Int) (n:Nat):List R:=(BL n).map λi:Nat=>lU (lo+(i:Int))
def so{lo:Int}{n:Nat}:el Γ (Itr lo n) [.non] [ue] (j4 lo n):=λH O Z E S=>by
 apply⟨λi hi=>(show n<=i by simpa[j4]using hi),λi r hr=>?_⟩;unfold j4 at hr;rw[Bv]at hr;cases e:(BL n)[i]? with
 | none=>rw[e]at hr;cases hr
 | some m=>
  rw[e]at hr;cases hr;obtain⟨h1,h2⟩:=Bb.mp e;simp at h1 h2;subst h2;apply⟨h1,λx H' y=>?_⟩;obtain⟨rfl,rfl⟩:=y;exact S.imm (iw rfl)
abbrev ii2(x y:T):Option (Int×Int):=match isI x with
 | some i=>(match isI y with
  | some j=>some (i,j)
  | none=>none)
 | none=>none
private def cf(a:MA):MI:=⟨λO=>match a.run O with
 | some (rs,O1)=>(match l1 isI (rs.map (·.t))with
  | some j=>if -(2^62)<=j/\j<2^62 then some (([ue],j4 0 j.toNat),O1)else none
  | none=>none)
 | none=>none,a.mu⟩
def rM{ta:TA}{a:MA}(ha:dY K ta a):kj K (u7 ta) (cf a):=by unhygienic
 intro Γ H O Z E Rr src items O' hK hr S q;dsimp[cf]at hr;split at hr
 ·delta rs O1 e1;split at hr
  ·delta j ej;obtain⟨hj,e⟩:=aL hr;cases e;obtain⟨t,et,ei⟩:=eB ej;cases dR ei;apply ha Γ H O Z E _ _ _ hK e1 S λvs H1 hl S1=>?_;have r1:=S1.rds hl;rw[et]at r1;obtain⟨w,rfl,r2⟩:=k8 r1;apply⟨j,by rw[aU r2],hj.1,hj.2,q Γ rfl (λ_ _ _ _ S=>S) _ [.non] H1 rfl ?_ so⟩;exact S1.drops.imm cD
  ·cases hr
 ·cases hr
abbrev eA:R->Option (List R)
 | ⟨_,.li is⟩=>some (is.map λi=>⟨.ow,.im i⟩)
 | ⟨.vw ro _,.lst ts⟩=>some (ts.map (partV ro))
 | ⟨_,.im (.ls is)⟩=>some (is.map λi=>⟨.ow,.im i⟩)
 | _=>none
abbrev gR:R->Option (List R)
 | ⟨_,.im (.tup is)⟩=>some (is.map λi=>⟨.ow,.im i⟩)
 | _=>none
abbrev pY(a:ME):MI:=⟨λO=>match a.run O with
 | some (r,O1)=>(match eA r with
  | some rs=>some (([r],rs),O1)
  | none=>none)
 | none=>none,a.mu⟩
abbrev wD(a:ME):MI:=⟨λO=>match a.run O with
 | some (r,O1)=>(match gR r with
  | some rs=>some (([r],rs),O1)
  | none=>none)
 | none=>none,a.mu⟩
def Rd.det{a:Addr}{xs ys:List V}(h:Rd H a (.lst xs))(g:Rd H a (.lst ys)):xs=ys:=by
 rcases h with h|⟨o,h⟩<;>rcases g with g|⟨o',g⟩<;>rw[h]at g<;>cases g<;>rfl
def bW{α β:Type}{f : α->β}{l:List α}{i:Nat}{b : β}(h:(l.map f)[i]?=some b):∃a,l[i]?=some a/\f a=b:=by
 rw[Bv]at h;cases e:l[i]? with
 | none=>rw[e]at h;cases h
 | some a=>rw[e]at h;exact⟨a,rfl,Bq.inj h⟩
def Sim.partV{ro:Option Nat}{p:Option (List Ac)}{s:T}{e:En}{w:V}(S:Sim Γ H O Z E)(he:e∈E)(ho:e.r.k=.vw ro p)(hp:∀F,Rp Γ.K H e.r.t e.v F->∃G,Rp Γ.K H s w G/\∀a∈G,a∈F):Sim Γ H O Z (⟨none,w,L2.partV ro s⟩::E):=by
 cases s with
 | im i=>
  obtain⟨F,r⟩:=S.rd he;obtain⟨G,g,_⟩:=hp F r;exact S.imm (aS g).1
 | _=>
  obtain⟨w',h1,S2⟩:=S.part he ho (P:=λw'=>w'=w) (s:=_) (λF r=>let ⟨G,g,hG⟩:=hp F r;⟨w,G,rfl,g,hG⟩);subst h1;exact S2
def yB{a:Addr}{src:R}{items:List R}(hi:eA src=some items):el Γ (Itl Γ.K a) [.ref a] [src] items:=λH O Z E S=>by
 replace S:Sim Γ H O Z (⟨none,.ref a,src⟩::E):=S;have r1:Rpx Γ.K H src.t (.ref a):=S.rd (e:=⟨none,.ref a,src⟩) ymS;unfold eA at hi;split at hi
 ·cases hi;obtain⟨a',xs,ea,g1,g2⟩:=bO r1;cases ea;apply⟨λi hi=>⟨xs,aB g1,by rw[g2.length];simpa using hi⟩,λi r hr=>?_⟩;obtain⟨j,hj,rfl⟩:=bW hr;obtain⟨w,hw,rw0⟩:=g2.get hj;apply⟨⟨xs,w,aB g1,hw⟩,λx H' y=>?_⟩;obtain⟨rfl,y⟩:=y;have:=y xs (aB g1);rw[hw]at this;cases this;exact S.imm rw0
 ·delta ro p ts;cases hi;obtain⟨a',xs,F,ea,g1,g2⟩:=dg r1;cases ea;apply⟨λi hi=>⟨xs,aB g1,by rw[g2.length];simpa using hi⟩,λi r hr=>?_⟩;obtain⟨j,hj,rfl⟩:=bW hr;obtain⟨w,A,G,B,hw,rw0,_⟩:=g2.at hj;apply⟨⟨xs,w,aB g1,hw⟩,λx H' y=>?_⟩;obtain⟨rfl,y⟩:=y;have:=y xs (aB g1);rw[hw]at this;cases this;apply S.partV (e:=⟨none,.ref a,⟨.vw ro p,.lst ts⟩⟩) ymS rfl λF rp=>?_;have rp':Rp Γ.K _ (.lst ts) (.ref a) F:=rp;rw[Rp]at rp';obtain⟨a'',xs',F',ea,k1,k2,rfl⟩:=rp';cases ea;have:=k1.det g1;subst this;obtain⟨w',A',G',B',hw',rw',e',_⟩:=k2.at hj;rw[hw]at hw';cases hw';exact⟨G',rw',λb hb=>by rw[e'];exact ymC _ (yaL _ (yaR _ hb))⟩
 ·cases hi;obtain⟨a',xs,ea,g1,g2⟩:=iq r1;cases ea;apply⟨λi hi=>⟨xs,aB g1,by rw[g2.length];simpa using hi⟩,λi r hr=>?_⟩;obtain⟨j,hj,rfl⟩:=bW hr;obtain⟨w,hw,rw0⟩:=g2.get hj;apply⟨⟨xs,w,aB g1,hw⟩,λx H' y=>?_⟩;obtain⟨rfl,y⟩:=y;have:=y xs (aB g1);rw[hw]at this;cases this;exact S.imm rw0
 ·cases hi
def j1{ta:TE}{a:ME}(ha:aP K ta a):kj K (kC K ta) (pY a):=by
 intro Γ H O Z E Rr srcs items O' hK hr S q;dsimp[pY]at hr;split at hr
 ·delta src O1 e1;split at hr
  ·delta rs e2;cases hr;apply ha Γ H O Z E _ _ _ hK e1 S λx H1 S1=>?_;have r1:Rpx Γ.K H1 src.t x:=S1.rd (e:=⟨none,x,src⟩) ymS;have hx:∃a xs,x=.ref a/\SqL K H1 a xs:=by
    unfold eA at e2;split at e2;obtain⟨a,xs,e,g1,g2⟩:=bO r1;exact⟨a,xs,e,aB g1⟩;obtain⟨a,xs,F,e,g1,g2⟩:=dg r1;exact⟨a,xs,e,aB g1⟩;obtain⟨a,xs,e,g1,g2⟩:=iq r1;exact⟨a,xs,e,aB g1⟩;cases e2
   obtain⟨b,xs,rfl,h2⟩:=hx;exact⟨b,rfl,⟨xs,h2⟩,q Γ rfl (λ_ _ _ _ S=>S) _ [.ref b] H1 rfl S1 (by rw[<-hK];exact yB e2)⟩
  ·cases hr
 ·cases hr
def yC{a:Addr}{src:R}{items:List R}(hi:gR src=some items):el Γ (Itt Γ.K a) [.ref a] [src] items:=λH O Z E S=>by
 replace S:Sim Γ H O Z (⟨none,.ref a,src⟩::E):=S;have r1:Rpx Γ.K H src.t (.ref a):=S.rd (e:=⟨none,.ref a,src⟩) ymS;unfold gR at hi;split at hi
 ·cases hi;obtain⟨a',xs,ea,g1,g2⟩:=cb r1;cases ea;apply⟨λi hi=>⟨xs,g1,by rw[g2.length];simpa using hi⟩,λi r hr=>?_⟩;obtain⟨j,hj,rfl⟩:=bW hr;obtain⟨w,hw,rw0⟩:=g2.get hj;apply⟨⟨xs,w,g1,hw⟩,λx H' y=>?_⟩;obtain⟨rfl,y⟩:=y;have:=y xs g1;rw[hw]at this;cases this;exact S.imm rw0
 ·cases hi
def um{ta:TE}{a:ME}(ha:aP K ta a):kj K (sU K ta) (wD a):=by
 intro Γ H O Z E Rr srcs items O' hK hr S q;dsimp[wD]at hr;split at hr
 ·delta src O1 e1;split at hr
  ·delta rs e2;cases hr;apply ha Γ H O Z E _ _ _ hK e1 S λx H1 S1=>?_;have r1:Rpx Γ.K H1 src.t x:=S1.rd (e:=⟨none,x,src⟩) ymS;have hx:∃a xs,x=.ref a/\SqT K H1 a xs:=by
    unfold gR at e2;split at e2;obtain⟨a,xs,e,g1,g2⟩:=cb r1;rw[hK]at g1;exact⟨a,xs,e,g1⟩;cases e2
   obtain⟨b,xs,rfl,h2⟩:=hx;exact⟨b,rfl,⟨xs,h2⟩,q Γ rfl (λ_ _ _ _ S=>S) _ [.ref b] H1 rfl S1 (by rw[<-hK];exact yC e2)⟩
  ·cases hr
 ·cases hr
def Ey.back{Γ Γ':Gm}{O':Rho}{E:List En}{D:EC}{f:Fl}(bk:∀H O Z E,Sim Γ' H O Z E->Sim Γ H O Z E)(q:Ey Γ O' E D f):Ey Γ' O' E D f:=by
 cases f with
 | nx=>exact λZ' H' S=>q Z' H' (bk _ _ _ _ S)
 | bk=>exact λZ' H' S=>q Z' H' (bk _ _ _ _ S)
 | ct=>exact λZ' H' S=>q Z' H' (bk _ _ _ _ S)
 | rt t=>exact λv Z' H' S=>q v Z' H' (bk _ _ _ _ S)
abbrev c9(g:R->Rho->Option Rho) (b:Rho->Option (Fl×Rho)):List R->Rho->Option (Fl×Rho)
 | [],O=>some (.nx,O)
 | r::rs,O=>match g r O with
  | some O1=>(match b O1 with
   | some (.nx,O2)=>c9 g b rs O2
   | some (.ct,O2)=>c9 g b rs O2
   | some (.bk,O2)=>some (.nx,O2)
   | some (.rt t,O2)=>some (.rt t,O2)
   | none=>none)
  | none=>none
private def iI(it:MI)(g:MG)(b:MS):MS:=⟨λO=>match it.run O with
 | some ((srcs,items),O1)=>if(srcs.all (aC (g.mu++b.mu))&&items.all (aC (g.mu++b.mu)))=true then c9 g.run b.run items O1 else none
 | none=>none,it.mu++(g.mu++b.mu)⟩
def uh{wi:TI}{g:TG}{tb:TS}{it:MI}{mg:MG}{b:MS}(hi:kj K wi it)(hg:jq K g mg)(hb:cY K tb b):cY K (ya wi g tb) (iI it mg b):=by
 intro Γ H O Z E D f O' hK hE hr S q;dsimp[iI]at hr q;split at hr
 ·delta srcs items O1 e1;split at hr
  ·delta al;rw[A9]at al;apply hi Γ H O Z E _ srcs items O1 hK e1 S λΓ hK2 bk J vs H1 hlv S1 wk=>?_;replace hK:=hK2.trans hK;replace q:=Ey.back bk q;rw[<-ag]at q;have hE1:=bi (M:=it.mu) hE;generalize af it.mu E=E1 at q S1 hE1;have ks:∀e∈ens vs srcs,aA (mg.mu++b.mu) e=true:=gI al.1;have kg:af mg.mu (ens vs srcs++af (mg.mu++b.mu) E1)=ens vs srcs++af (mg.mu++b.mu) E1:=by
    rw[aF,cq (λe he=>fv (λj hj=>yaL _ hj) (ks e he)),cR (λj hj=>yaL _ hj)]
   have kb:af b.mu (ens vs srcs++af (mg.mu++b.mu) E1)=ens vs srcs++af (mg.mu++b.mu) E1:=by
    rw[aF,cq (λe he=>fv (λj hj=>yaR _ hj) (ks e he)),cR (λj hj=>yaR _ hj)]
   have S2:=S1.weak (mg.mu++b.mu);rw[aF,cq ks]at S2;have hE2:=bi (M:=mg.mu++b.mu) hE1;generalize af (mg.mu++b.mu) E1=E2 at q kg kb S2 hE2;have hE3:∀e∈ens vs srcs++E2,e.key=none:=λe he=>by
    rcases yaM he with he|he;exact ku e he;exact hE2 e he
   apply⟨λi m Z H=>m=items.length-i/\i<=items.length/\∃O,c9 mg.run b.run (items.drop i) O=some (f,O')/\Sim Γ H O Z (ens vs srcs++E2),⟨items.length,by simp,B6 _,O1,by simpa using hr,S2⟩,?_⟩;rintro i m Z1 H2 ⟨rfl,hil,O2,h2,S3⟩;obtain⟨w1,w2⟩:=wk H2 O2 Z1 E2 S3;by_cases hlt:i<items.length
   ·have hx:items[i]?=some items[i]:=by simp[hlt]
    obtain⟨w3,w4⟩:=w2 i _ hx;rw[Cz hlt,c9]at h2;apply .inr ⟨w3,λZ' H'=>∃O,c9 mg.run b.run (items.drop (i+1)) O=some (f,O')/\Sim Γ H' O Z' (ens vs srcs++E2),λZ' H' ⟨O3,h3,S4⟩=>⟨items.length-(i+1),by omega,rfl,hlt,O3,h3,S4⟩,λx H3 y=>?_⟩;have S4:=w4 x H3 y;split at h2
    ·delta O3 e3;apply hg Γ H3 O2 Z1 _ _ x _ O3 hK e3 S4 λZ2 H4 S5=>?_;rw[kg]at S5;split at h2
     ·delta O4 e4;exact hb Γ H4 O3 Z2 _ _ .nx O4 hK hE3 e4 S5 λZ' H' S6=>⟨O4,h2,by rw[kb]at S6;exact S6⟩
     ·delta O4 e4;exact hb Γ H4 O3 Z2 _ _ .ct O4 hK hE3 e4 S5 λZ' H' S6=>⟨O4,h2,by rw[kb]at S6;exact S6⟩
     ·delta O4 e4;cases h2;exact hb Γ H4 O3 Z2 _ _ .bk _ hK hE3 e4 S5 λZ' H' S6=>q Z' H' (by rw[kb]at S6;exact S6.drops)
     ·delta t O4 e4;cases h2;exact hb Γ H4 O3 Z2 _ _ (.rt t) _ hK hE3 e4 S5 q
     ·cases h2
    ·cases h2
   ·have e:i=items.length:=by omega
    subst e;rw[DG,c9]at h2;cases h2;exact .inl ⟨w1 _ (Bg _),q Z1 H2 S3.drops⟩
  ·cases hr
 ·cases hr
end
abbrev fQ(π:Nat->Nat):Kd->Kd
 | .vw (some j) p=>.vw (some (π j)) p
 | k=>k
abbrev iL(π:Nat->Nat) (r:R):R:=⟨fQ π r.k,r.t⟩
abbrev bL(π:Nat->Nat) (e:En):En:=⟨e.key.map π,e.v,iL π e.r⟩
section
variable {Γ:Gm}{H H':Hp}{O:Rho}{Z:St}{E X:List En}{v x y:V}{t:T}{K:yF}{Q:VK}{π:Nat->Nat}
def ny(k:Kd):(fQ π k).isOw=k.isOw:=by
 cases k with
 | vw a b=>cases a<;>rfl
 | _=>rfl
def ji(k:Kd):(fQ π k).root=k.root.map π:=by
 cases k with
 | vw a b=>cases a<;>rfl
 | _=>rfl
def Eb.ren(S:Eb Γ H X)(inj:∀e∈X,∀f∈X,∀a b,e.key=some a->f.key=some b->π a=π b->a=b):Eb Γ H (X.map (bL π)):=by
 obtain⟨L,g,rfl⟩:=S;have own:∀L:List Hd,(L.map λh:Hd=>(⟨bL π h.e,h.F⟩:Hd)).flatMap Hd.own=L.flatMap Hd.own:=by
  intro L
  induction L with
  | nil=>rfl
  | cons h L ih=>
   rw[Bj,Bh,Bh,ih];congr 1;unfold Hd.own;show(if(fQ π h.e.r.k).isOw=true then h.F else [])=_;rw[ny]
 apply⟨L.map λh=>⟨bL π h.e,h.F⟩,⟨by rw[own];exact g.nd,by rw[own];exact g.ad,λh hh=>?_,λh hh=>?_,?_,g.fr,g.iol⟩,by rw[Cj,Cj];rfl⟩
 ·obtain⟨h0,h1,rfl⟩:=Bm.mp hh;exact g.rp h0 h1
 ·obtain⟨h0,h1,rfl⟩:=Bm.mp hh;have k:=g.kd h0 h1;unfold Ef at k|-;show match fQ π h0.e.r.k with
   | .ow=>_|.io k=>_|.vw none _=>_|.vw (some j) p=>_
  cases ek:h0.e.r.k with
  | ow=>rw[ek]at k;exact k
  | io n=>rw[ek]at k;exact k
  | vw a p=>
   rw[ek]at k;cases a with
   | none=>rw[own];exact k
   | some j=>
    obtain⟨x,x1,x2,x3,x4,x5⟩:=k;apply⟨⟨bL π x.e,x.F⟩,By x1,by show x.e.key.map π=_;rw[x2];rfl,by show(fQ π x.e.r.k).isOw=true;rw[ny];exact x3,λa ha=>by rw[own];exact x4 a ha,x5⟩
 ·rw[CC];have e:(λh:Hd=>h.e.key)∘(λh:Hd=>(⟨bL π h.e,h.F⟩:Hd))=λh=>h.e.key.map π:=rfl;rw[e];have:∀L':List Hd,(∀h∈L',h∈L)->(L'.filterMap λh=>h.e.key).Nodup->(L'.filterMap λh=>h.e.key.map π).Nodup:=by
   intro L'
   induction L' with
   | nil=>intro _ _;exact BO
   | cons h L' ih=>
    intro hs nd;rw[Bt]at nd|-;cases ek:h.e.key with
    | none=>rw[ek]at nd;exact ih (λx hx=>hs x (ymC _ hx)) nd
    | some a=>
     rw[ek]at nd;obtain⟨n1,n2⟩:=BB.mp nd;apply BB.mpr ⟨λhm=>?_,ih (λx hx=>hs x (ymC _ hx)) n2⟩;obtain⟨y,hy,ey⟩:=BE.mp hm;cases eb:y.e.key with
     | none=>rw[eb]at ey;cases ey
     | some b=>
      rw[eb]at ey;have e2 : π b=π a:=Bq.inj ey;have:=inj y.e (By (hs y (ymC _ hy))) h.e (By (hs h ymS)) b a eb ek e2;subst this;exact n1 (BE.mpr ⟨y,hy,eb⟩)
  exact this L (λ_ h=>h) g.ks
def Eb.filt(S:Eb Γ H X)(p:En->Bool)(hp:∀e∈X,p e=true->∀j,e.r.k.root=some j->∀f∈X,f.key=some j->p f=true):Eb Γ H (X.filter p):=by
 obtain⟨L,g,rfl⟩:=S;apply⟨L.filter λh=>p h.e,g.sub BK λh hh j hj x hx hk ho=>?_,by rw[Cq];rfl⟩;obtain⟨h1,h2⟩:=Be.mp hh;exact Be.mpr ⟨hx,hp h.e (By h1) h2 j hj x.e (By hx) hk⟩
def Ee{e:En}:e∈az 0 Z O ↔ ∃i,e.key=some i/\O[i]?=some (some e.r)/\Z[i]?=some (some e.v):=by
 constructor
 ·intro h;obtain⟨i,h1,h2,h3⟩:=bY h;exact⟨i,by rw[h1,BJ],h2,h3⟩
 ·rintro⟨i,h1,h2,h3⟩;have:=(aX (k:=0) h3 h2).mem_iff.mpr ymS;have e':e=⟨some (0+i),e.v,e.r⟩:=by cases e;dsimp[En.mk.injEq,and_self,and_true,BJ];exact h1
  rw[e'];exact this
def jF:∀{k:Nat} {Z:List (Option V)} {O:Rho},(az k Z O).Pairwise λa b=>∃i j,a.key=some i/\b.key=some j/\i<j
 | _,[],_=>List.Pairwise.nil
 | _,x::_,[]=>by cases x<;>exact List.Pairwise.nil
 | k,x::Z,y::O=>by
  have ih:=jF (k:=k+1) (Z:=Z) (O:=O);cases x with
  | none=>simpa[az]using ih
  | some v=>
   cases y with
   | none=>simpa[az]using ih
   | some r=>
    dsimp[az];apply List.Pairwise.cons (λb hb=>?_) ih;obtain⟨i,h1,_,_⟩:=bY hb;exact⟨k,k+1+i,rfl,h1,by omega⟩
def Em{k:Nat}:(az k Z O).Nodup:=by
 apply List.Pairwise.imp ?_ jF;rintro a b ⟨i,j,h1,h2,h3⟩ rfl;rw[h1]at h2;cases h2;omega
abbrev bg(fr:List (Option Nat)) (j:Nat):Bool:=match fr[j]? with
 | some (some i)=>i==j
 | _=>false
abbrev piF(fr:List (Option Nat)) (j:Nat):Nat:=if bg fr j=true then j else fr.length+j
abbrev psF(fr:List (Option Nat)) (k:Nat):Nat:=if k<fr.length then k else k-fr.length
abbrev gp(π:Nat->Nat):Nat->List (Option Nat)->Rho->Rho
 | _,[],_=>[]
 | k,o::fr,r::O=>(if o=some k then r.map (iL π)else none)::gp π (k+1) fr O
 | k,o::fr,[]=>none::gp π (k+1) fr []
abbrev inR(fr:List (Option Nat)) (O:Rho):Rho:=gp (piF fr) 0 fr O
abbrev ec(ψ : Nat->Nat) (tg mu:List Nat):Nat->List (Option Nat)->Rho->Rho->Rho
 | k,o::fr,ri::Oi,r::O=>(if o=some k then(bG tg ri).map (iL ψ)else bG mu r)::ec ψ tg mu (k+1) fr Oi O
 | _,[],_,O=>O.map (bG mu)
 | _,_::_,[],O=>O.map (bG mu)
 | _,_::_,_::_,[]=>[]
abbrev tgF(fr:List (Option Nat)):List Nat:=(BL fr.length).filter λi=>!bg fr i
abbrev muF(fr:List (Option Nat)) (mu:List Nat):List Nat:=mu.filter (bg fr)
abbrev du(fr:List (Option Nat)) (mu:List Nat) (Oi O:Rho):Rho:=ec (psF fr) (tgF fr) (muF fr mu) 0 fr Oi O
def Er{fr:List (Option Nat)}{j:Nat}:bg fr j=true↔fr[j]?=some (some j):=by
 unfold bg;split;delta i h;rw[h];simp
 ·delta h;constructor;intro z;cases z;intro z;exact absurd z (h j)
def gO:∀{k:Nat} {fr:List (Option Nat)} {O:Rho} {i:Nat} {r':R},(gp π k fr O)[i]?=some (some r')↔fr[i]?=some (some (k+i))/\∃r,O[i]?=some (some r)/\r'=iL π r
 | k,[],O,i,r'=>by simp[gp]
 | k,o::fr,[],0,r'=>by simp[gp]
 | k,o::fr,[],i+1,r'=>by
  rw[gp,BM,gO (k:=k+1) (fr:=fr) (O:=[]) (i:=i)];simp
 | k,o::fr,r::O,0,r'=>by
  rw[gp,Ca,Ca,Ca];by_cases h:o=some k
  ·subst h;rw[if_pos rfl];cases r with
   | none=>simp
   | some r=>simp[eq_comm]
  ·rw[if_neg h];constructor;intro z;cases z;rintro⟨h1,_⟩;exact absurd (by exists h1) h
 | k,o::fr,r::O,i+1,r'=>by
  rw[gp,BM,BM,BM,gO (k:=k+1) (fr:=fr) (O:=O) (i:=i),show k+1+i=k+(i+1) by omega]
def eQ:∀{k:Nat} {fr:List (Option Nat)} {O:Rho},(gp π k fr O).length=fr.length
 | k,[],O=>rfl
 | k,o::fr,[]=>by rw[gp,Bf,eQ,Bf]
 | k,o::fr,r::O=>by rw[gp,Bf,eQ,Bf]
def Ez{fr:List (Option Nat)}{i:Nat}{r':R}:(inR fr O)[i]?=some (some r')↔bg fr i=true/\∃r,O[i]?=some (some r)/\r'=iL (piF fr) r:=by
 unfold inR;rw[gO,BJ,Er]
def eR{fr:List (Option Nat)}{i:Nat}(h:bg fr i=true):(bZ fr Z)[i]?=some (Z.getD i none):=by
 unfold bZ;rw[Bv,Er.mp h];rfl
def getD_some{i:Nat}{v:V}:Z.getD i none=some v↔Z[i]?=some (some v):=by
 rw[BF];cases h:Z[i]? with
 | none=>simp
 | some o=>simp
def cj{fr:List (Option Nat)}{j:Nat}(h:bg fr j=true):piF fr j=j:=by unfold piF;rw[if_pos h]
def bJ{fr:List (Option Nat)}{j:Nat}(h:bg fr j=false):piF fr j=fr.length+j:=by unfold piF;rw[if_neg (by rw[h];simp)]
def a8{fr:List (Option Nat)}{j:Nat}(h:bg fr j=true):j<fr.length:=(Bb.mp (Er.mp h)).1
def tX{fr:List (Option Nat)}{a b:Nat}(h:piF fr a=piF fr b):a=b:=by
 cases ha:bg fr a<;>cases hb:bg fr b;rw[bJ ha,bJ hb]at h;omega;rw[bJ ha,cj hb]at h;have:=a8 hb;omega;rw[cj ha,bJ hb]at h;have:=a8 ha;omega;rw[cj ha,cj hb]at h;exact h
def qV{fr:List (Option Nat)}(a:Nat):psF fr (piF fr a)=a:=by
 cases ha:bg fr a;rw[bJ ha];unfold psF;rw[if_neg ⋯];omega;rw[cj ha];unfold psF;rw[if_pos (a8 ha)]
def j2{fr:List (Option Nat)}(e:En):bL (psF fr) (bL (piF fr) e)=e:=by
 obtain⟨key,v,⟨k,t⟩⟩:=e;have h1:(key.map (piF fr)).map (psF fr)=key:=by cases key<;>simp[qV]
 have h2:fQ (psF fr) (fQ (piF fr) k)=k:=by
  cases k with
  | vw a p=>cases a<;>simp[fQ,qV]
  | _=>rfl
 show(⟨(key.map (piF fr)).map (psF fr),v,⟨fQ (psF fr) (fQ (piF fr) k),t⟩⟩:En)=_;rw[h1,h2]
abbrev cM(fr:List (Option Nat)) (e:En):Bool:=match e.key with
 | some j=>bg fr j
 | none=>false
def fH{α β:Type}{f : α->β}{l:List α}(h:l.Nodup)(inj:∀a∈l,∀b∈l,f a=f b->a=b):(l.map f).Nodup:=by
 induction l with
 | nil=>exact BO
 | cons a l ih=>
  obtain⟨h1,h2⟩:=BB.mp h;rw[Bj];apply BB.mpr ⟨λhm=>?_,ih h2 λx hx y hy=>inj x (ymC _ hx) y (ymC _ hy)⟩;obtain⟨b,hb,e⟩:=Bm.mp hm;have:=inj b (ymC _ hb) a ymS e;subst this;exact h1 hb
def inn_perm{fr:List (Option Nat)}:((az 0 Z O).map (bL (piF fr))).Perm (az 0 (bZ fr Z) (inR fr O)++((az 0 Z O).filter λe=>!cM fr e).map (bL (piF fr))):=by
 have inj:∀a∈az 0 Z O,∀b∈az 0 Z O,bL (piF fr) a=bL (piF fr) b->a=b:=λa _ b _ h=>by
  have:=congrArg (bL (psF fr)) h;rwa [j2,j2]at this
 have nd1:=fH (Em (k:=0) (Z:=Z) (O:=O)) inj;have nd2:(((az 0 Z O).filter λe=>!cM fr e).map (bL (piF fr))).Nodup:=nd1.sublist (BK.map _);apply(C0 nd1 (Ba.mpr ⟨Em,nd2,?_⟩)).mpr λe=>?_
 ·rintro a ha b hb rfl;obtain⟨i,h1,h2,h3⟩:=Ee.mp ha;obtain⟨hc,_⟩:=Ez.mp h2;obtain⟨f,hf,rfl⟩:=Bm.mp hb;obtain⟨hf1,hf2⟩:=Be.mp hf;obtain⟨j,g1,g2,g3⟩:=Ee.mp hf1;have g0:bg fr j=false:=by unfold cM at hf2;rw[g1]at hf2;exists hf2
  have h1':(f.key.map (piF fr))=some i:=h1;rw[g1]at h1';have h1'':piF fr j=i:=by exists h1'
  rw[bJ g0]at h1'';have:=a8 hc;omega
 ·rw[CQ];constructor
  ·intro he;obtain⟨f,hf,rfl⟩:=Bm.mp he;obtain⟨j,g1,g2,g3⟩:=Ee.mp hf;cases hc:bg fr j;exact .inr (Bm.mpr ⟨f,Be.mpr ⟨hf,by unfold cM;rw[g1];simp[hc]⟩,rfl⟩)
   ·left;apply Ee.mpr ⟨j,?_,Ez.mpr ⟨hc,_,g2,rfl⟩,?_⟩
    ·show f.key.map (piF fr)=_;rw[g1];simp[cj hc]
    ·rw[eR hc,getD_some.mpr g3];rfl
  ·rintro(he|he)
   ·obtain⟨i,h1,h2,h3⟩:=Ee.mp he;obtain⟨hc,r,h4,h5⟩:=Ez.mp h2;rw[eR hc]at h3;have h3':=getD_some.mp (Bq.inj h3);apply Bm.mpr ⟨⟨some i,e.v,r⟩,Ee.mpr ⟨i,rfl,h4,h3'⟩,?_⟩;cases e;simp only at h1 h5;simp[bL,cj hc,h1,h5]
   ·obtain⟨f,hf,rfl⟩:=Bm.mp he;exact By (Be.mp hf).1
abbrev iJ(fr:List (Option Nat)) (Z:St) (O:Rho) (E:List En):List En:=(E++(az 0 Z O).filter λe=>!cM fr e).map (bL (piF fr))
abbrev eP(fr:List (Option Nat)) (n:Nat):Bool:=decide (n<=fr.length)&&(BL fr.length).all λi=>!bg fr i||decide (i<n)
def jH{fr:List (Option Nat)}{n j:Nat}(h:eP fr n=true)(hc:bg fr j=true):j<n:=by
 unfold eP at h;rw[A9]at h;have:=BC.mp h.2 j (Cv.mpr (a8 hc));rw[hc]at this;exists this
def Sim.inn{fr:List (Option Nat)}(S:Sim Γ H O Z E)(hf:eP fr O.length=true):Sim Γ H (inR fr O) (bZ fr Z) (iJ fr Z O E):=by
 apply⟨?_,λi r h=>?_,by rw[eS];unfold inR;rw[eQ],λe he j hj=>?_⟩
 ·have:=S.sl.ren (π:=piF fr) λe _ f _ a b _ _ h=>tX h;rw[BQ]at this;apply this.perm ?_;unfold iJ;rw[BQ,Bu];exact(inn_perm.append_left _).trans (List.perm_append_comm.append_left _)
 ·obtain⟨hc,r0,h1,_⟩:=Ez.mp h;obtain⟨v,hv⟩:=S.al i r0 h1;exact⟨v,by rw[eR hc,getD_some.mpr hv]⟩
 ·unfold inR;rw[eQ];unfold iJ at he;obtain⟨f,hf',rfl⟩:=Bm.mp he;have hj':f.key.map (piF fr)=some j:=hj;cases hk:f.key with
  | none=>rw[hk]at hj';cases hj'
  | some i=>
   rw[hk]at hj';have e1:piF fr i=j:=by exists hj'
   have hc:bg fr i=false:=by
    rcases yaM hf' with z|z
    ·cases hc:bg fr i with
     | false=>rfl
     | true=>
      have:=jH hf hc;have:=S.hi f z i hk;omega
    ·have:=(Be.mp z).2;unfold cM at this;rw[hk]at this;exists this
   rw[bJ hc]at e1;omega
def jb{ψ : Nat->Nat}{tg mu:List Nat}:∀{k:Nat} {fr:List (Option Nat)} {Oi O:Rho} {i:Nat},i < O.length->O.length<=fr.length->fr.length=Oi.length->(ec ψ tg mu k fr Oi O)[i]?=some (if fr[i]?=some (some (k+i))then(bG tg (Oi.getD i none)).map (iL ψ)else bG mu (O.getD i none))
 | k,fr,Oi,[],i,h,_,_=>by cases h
 | k,[],Oi,r::O,i,_,h,_=>by simp at h
 | k,o::fr,[],r::O,i,_,_,h=>by cases h
 | k,o::fr,ri::Oi,r::O,0,h,h2,h3=>by
  rw[ec,Ca,Ca];simp
 | k,o::fr,ri::Oi,r::O,i+1,h,h2,h3=>by
  rw[ec,BM,jb (k:=k+1) (by exists h) (by exists h2) (by exists h3),BM,show k+1+i=k+(i+1) by omega];simp
def fN{ψ : Nat->Nat}{tg mu:List Nat}:∀{k:Nat} {fr:List (Option Nat)} {Oi O:Rho},(ec ψ tg mu k fr Oi O).length=O.length
 | k,[],Oi,O=>by cases Oi<;>simp[ec]
 | k,o::fr,[],O=>by simp[ec]
 | k,o::fr,ri::Oi,[]=>by simp[ec]
 | k,o::fr,ri::Oi,r::O=>by rw[ec,Bf,fN,Bf]
def fg{fr:List (Option Nat)}{i:Nat}:i∈tgF fr↔i<fr.length/\bg fr i=false:=by
 unfold tgF;rw[Be,Cv];simp
def Ev{M:List Nat}{o:Option R}{r:R}:bG M o=some r↔o=some r/\dn M r=true:=by
 cases o with
 | none=>simp[bG]
 | some x=>
  dsimp[bG];split
  ·delta h;constructor;intro z;cases z;exact⟨rfl,h⟩;rintro⟨z,_⟩;rw[z]
  ·delta h;constructor;intro z;cases z;rintro⟨z,h2⟩;cases z;exact absurd h2 h
def pQ{fr:List (Option Nat)}{mu:List Nat}(hmu:∀j∈mu,j<fr.length)(e:En):aA mu (bL (piF fr) e)=aA (muF fr mu) e:=by
 unfold aA;show(match (fQ (piF fr) e.r.k).root with|some j=>!mu.contains j|none=>true)=_;rw[ji];cases e.r.k.root with
 | none=>rfl
 | some j=>
  show(!mu.contains (piF fr j)) = !(muF fr mu).contains j;congr 1;rw[BZ];dsimp[BW,decide_eq_true_eq,muF,Be];cases hc:bg fr j
  ·rw[bJ hc];constructor;intro z;have:=hmu _ z;omega;rintro⟨_,z⟩;cases z
  ·rw[cj hc];simp
def tf{fr:List (Option Nat)}(e:En):aA (tgF fr) (bL (piF fr) e)=true:=by
 unfold aA;show(match (fQ (piF fr) e.r.k).root with|some j=>!(tgF fr).contains j|none=>true)=_;rw[ji];cases e.r.k.root with
 | none=>rfl
 | some j=>
  show(!(tgF fr).contains (piF fr j))=true;dsimp[BW,BI,decide_eq_false_iff_not,fg];rintro⟨h1,h2⟩;cases hc:bg fr j;rw[bJ hc]at h1;omega;rw[cj hc,hc]at h2;cases h2
def Sim.outt{fr:List (Option Nat)}{mu:List Nat}{Oi:Rho}{Z2:St}(S:Sim Γ H' Oi Z2 (af mu (iJ fr Z O E)))(hf:eP fr O.length=true)(hmu:∀j∈mu,j<fr.length)(hl : Oi.length=fr.length)(kp:Kp fr (bZ fr Z) Z2)
  (al:∀(i:Nat) r,O[i]?=some (some r)->∃v,Z[i]?=some (some v)) (len:Z.length=O.length) (hi:∀e∈E,∀j,e.key=some j->O.length<=j):Sim Γ H' (du fr mu Oi O) Z (af (muF fr mu) E):=by
 have hn : O.length<=fr.length:=by unfold eP at hf;rw[A9,decide_eq_true_eq]at hf;exact hf.1
 have val:∀{i:Nat} {w:V},bg fr i=true->Z2[i]?=some (some w)->Z[i]?=some (some w):=λ{i w} hc h=>by
  rw[kp.2 i i (Er.mp hc),eR hc]at h;exact getD_some.mp (Bq.inj h)
 have eE:af mu (iJ fr Z O E)=(af (muF fr mu) (E++(az 0 Z O).filter λe=>!cM fr e)).map (bL (piF fr)):=by
  unfold iJ af;rw[Cq];congr 1;apply List.filter_congr;intro e _;exact pQ hmu e
 have s1:=(S.sl.kill (tgF fr));rw[aF,eE]at s1;have e1:af (tgF fr) ((af (muF fr mu) (E++(az 0 Z O).filter λe=>!cM fr e)).map (bL (piF fr)))=(af (muF fr mu) (E++(az 0 Z O).filter λe=>!cM fr e)).map (bL (piF fr)):=by
  unfold af;rw[BY];intro e he;obtain⟨f,_,rfl⟩:=Bm.mp he;exact tf f
 rw[e1]at s1
 let p:En->Bool:=λe=>match e.key with
  | some k=>!(tgF fr).contains k
  | none=>true
 have kout:∀f∈E++(az 0 Z O).filter λe=>!cM fr e,∀j,f.key=some j->bg fr j=false:=λf hf' j hj=>by
  rcases yaM hf' with z|z
  ·cases hc:bg fr j with
   | false=>rfl
   | true=>have:=jH hf hc;have:=hi f z j hj;omega
  ·have:=(Be.mp z).2;unfold cM at this;rw[hj]at this;exists this
 have pO:∀e∈(af (muF fr mu) (E++(az 0 Z O).filter λe=>!cM fr e)).map (bL (piF fr)),p e=true:=λe he=>by
  obtain⟨f,hf',rfl⟩:=Bm.mp he;have hf'':=(Be.mp hf').1;show(match f.key.map (piF fr)with|some k=>!(tgF fr).contains k|none=>true)=true;cases hk:f.key with
  | none=>rfl
  | some j=>
   have:=kout f hf'' j hk;dsimp[B1,BW,BI,decide_eq_false_iff_not,fg];rw[bJ this];omega
 have s2:=s1.filt p λe he _ j hj f hf' hk=>by
  show(match f.key with|some k=>!(tgF fr).contains k|none=>true)=true;rw[hk];have hm:e∈af (tgF fr) (af mu (iJ fr Z O E)++az 0 Z2 Oi):=by rw[aF,eE,e1];exact he
  by_cases hj':j∈tgF fr;exact absurd hj (g9 (M:=tgF fr) (i:=j) hj' e hm);simp[hj']
 rw[Do,BY.mpr pO]at s2;have s3:=s2.ren (π:=psF fr) (λe he f hf' a b ha hb hab=>by
  have key:∀e∈(af (muF fr mu) (E++(az 0 Z O).filter λe=>!cM fr e)).map (bL (piF fr))++(af (tgF fr) (az 0 Z2 Oi)).filter p,∀a,e.key=some a->(∃j,a=fr.length+j/\bg fr j=false)\/bg fr a=true:=λe he a ha=>by
   rcases yaM he with z|z
   ·left;obtain⟨g,hg,rfl⟩:=Bm.mp z;have hg':=(Be.mp hg).1;have ha':g.key.map (piF fr)=some a:=ha;cases hk:g.key with
    | none=>rw[hk]at ha';cases ha'
    | some j=>
     have hc:=kout g hg' j hk;rw[hk]at ha';have:piF fr j=a:=by exists ha'
     exact⟨j,by rw[<-this,bJ hc],hc⟩
   ·right;obtain⟨z1,z2⟩:=Be.mp z;obtain⟨i,h1,h2,h3⟩:=Ee.mp (Be.mp z1).1;rw[ha]at h1;cases h1;have z2':(match e.key with|some k=>!(tgF fr).contains k|none=>true)=true:=z2;rw[ha]at z2';have hlt:a<fr.length:=by
     have:=(Bb.mp h2).1;omega
    dsimp[BW,BI,decide_eq_false_iff_not,fg]at z2';cases hc:bg fr a with
    | true=>rfl
    | false=>exact absurd ⟨hlt,hc⟩ z2'
  rcases key e he a ha with⟨j,rfl,hj⟩|hj<;>rcases key f hf' b hb with⟨j',rfl,hj'⟩|hj';unfold psF at hab;rw[if_neg ⋯,if_neg ⋯]at hab;omega
  ·unfold psF at hab;rw[if_neg ⋯,if_pos (a8 hj')]at hab;have:j=b:=by omega
   subst this;rw[hj]at hj';cases hj'
  ·unfold psF at hab;rw[if_pos (a8 hj),if_neg ⋯]at hab;have:j'=a:=by omega
   subst this;rw[hj']at hj;cases hj
  ·unfold psF at hab;rw[if_pos (a8 hj),if_pos (a8 hj')]at hab;exact hab)
 rw[BQ,Cj]at s3;have e2:(af (muF fr mu) (E++(az 0 Z O).filter λe=>!cM fr e)).map (bL (psF fr)∘bL (piF fr))=af (muF fr mu) (E++(az 0 Z O).filter λe=>!cM fr e):=by
  conv=>rhs;rw[<-List.map_id (af (muF fr mu) (E++(az 0 Z O).filter λe=>!cM fr e))]
  apply List.map_congr_left;intro e _;exact j2 e
 rw[e2,aF,Bu]at s3;have olen:(du fr mu Oi O).length=O.length:=by unfold du;exact fN
 have oget:∀{i:Nat} {r:R},(du fr mu Oi O)[i]?=some (some r)↔i < O.length/\((bg fr i=true/\∃r0,Oi[i]?=some (some r0)/\dn (tgF fr) r0=true/\r=iL (psF fr) r0)\/(bg fr i=false/\O[i]?=some (some r)/\dn (muF fr mu) r=true)):=λ{i r}=>by
  by_cases hlt:i < O.length
  ·unfold du;rw[jb hlt hn hl.symm,BJ];cases hc:bg fr i
   ·rw[if_neg (λz=>by rw[Er.mpr z]at hc;cases hc)];rw[Bq.injEq,Ev];have : O.getD i none=some r↔O[i]?=some (some r):=by
     rw[BF];cases O[i]?<;>simp
    rw[this];simp[hlt]
   ·rw[if_pos (Er.mp hc)];rw[Bq.injEq,BS];constructor
    ·rintro⟨r0,h1,h2⟩;obtain⟨h3,h4⟩:=Ev.mp h1;apply⟨hlt,.inl ⟨rfl,r0,?_,h4,h2.symm⟩⟩;rw[BF]at h3;cases h5 : Oi[i]? with
     | none=>rw[h5]at h3;cases h3
     | some o=>rw[h5]at h3;have:o=some r0:=h3;rw[this]
    ·rintro⟨_,⟨_,r0,h1,h2,h3⟩|⟨z,_⟩⟩;exact⟨r0,Ev.mpr ⟨by rw[BF,h1];rfl,h2⟩,h3.symm⟩;cases z
  ·constructor
   ·intro z;have:=(Bb.mp z).1;rw[olen]at this;exact absurd this hlt
   ·rintro⟨z,_⟩;exact absurd z hlt
 apply⟨s3.perm (List.Perm.append_left _ ?_),λi r h=>?_,by rw[olen];exact len,λe he j hj=>by rw[olen];exact hi e (Be.mp he).1 j hj⟩
 ·have ndA:(af (muF fr mu) ((az 0 Z O).filter λe=>!cM fr e)).Nodup:=Em.sublist (BK.trans BK);have inB:∀e∈(af (tgF fr) (az 0 Z2 Oi)).filter p,∃i,e.key=some i/\bg fr i=true/\Oi[i]?=some (some e.r)/\Z2[i]?=some (some e.v)/\dn (tgF fr) e.r=true:=λe he=>by
   obtain⟨z1,z2⟩:=Be.mp he;obtain⟨z3,z4⟩:=Be.mp z1;obtain⟨i,h1,h2,h3⟩:=Ee.mp z3;have z2':(match e.key with|some k=>!(tgF fr).contains k|none=>true)=true:=z2;rw[h1]at z2';have hlt:i<fr.length:=by
    have:=(Bb.mp h2).1;omega
   dsimp[BW,BI,decide_eq_false_iff_not,fg]at z2';apply⟨i,h1,?_,h2,h3,z4⟩;cases hc:bg fr i with
   | true=>rfl
   | false=>exact absurd ⟨hlt,hc⟩ z2'
  have ndB:(((af (tgF fr) (az 0 Z2 Oi)).filter p).map (bL (psF fr))).Nodup:=by
   apply fH (Em.sublist (BK.trans BK)) λa ha b hb h=>?_;obtain⟨i,h1,h2,h3,h4,_⟩:=inB a ha;obtain⟨j,g1,g2,g3,g4,_⟩:=inB b hb;have hk:a.key.map (psF fr)=b.key.map (psF fr):=congrArg En.key h;rw[h1,g1]at hk;have hk':psF fr i=psF fr j:=by exists hk
   unfold psF at hk';rw[if_pos (a8 h2),if_pos (a8 g2)]at hk';subst hk';rw[h3]at g3;rw[h4]at g4;cases a;cases b;simp only at h1 g1 g3 g4;have e1:=Bq.inj (Bq.inj g3);have e2:=Bq.inj (Bq.inj g4);simp[h1,g1,e1,e2]
  apply(C0 (Ba.mpr ⟨ndA,ndB,?_⟩) Em).mpr λe=>?_
  ·rintro a ha b hb rfl;obtain⟨f,hf',hfe⟩:=Bm.mp hb;obtain⟨i,h1,h2,_⟩:=inB f hf';have hk:f.key.map (psF fr)=a.key:=congrArg En.key hfe;rw[h1]at hk;have hk':a.key=some i:=by rw[<-hk];simp[psF,a8 h2]
   obtain⟨y1,y2⟩:=Be.mp (Be.mp ha).1;unfold cM at y2;rw[hk']at y2;simp[h2]at y2
  ·rw[CQ,Ee];constructor
   ·rintro(he|he)
    ·obtain⟨z1,z2⟩:=Be.mp he;obtain⟨z3,z4⟩:=Be.mp z1;obtain⟨i,h1,h2,h3⟩:=Ee.mp z3;unfold cM at z4;rw[h1]at z4;apply⟨i,h1,oget.mpr ⟨(Bb.mp h2).1,.inr ⟨by simpa using z4,h2,z2⟩⟩,h3⟩
    ·obtain⟨f,hf',rfl⟩:=Bm.mp he;obtain⟨i,h1,h2,h3,h4,h5⟩:=inB f hf';apply⟨i,?_,oget.mpr ⟨jH hf h2,.inl ⟨h2,f.r,h3,h5,rfl⟩⟩,val h2 h4⟩;show f.key.map (psF fr)=some i;rw[h1];simp[psF,a8 h2]
   ·rintro⟨i,h1,h2,h3⟩;obtain⟨hlt,⟨hc,r0,g1,g2,g3⟩|⟨hc,g1,g2⟩⟩:=oget.mp h2
    ·right;obtain⟨w,hw⟩:=S.al i r0 g1;have hw':=val hc hw;rw[h3]at hw';have ew:e.v=w:=Bq.inj (Bq.inj hw');apply Bm.mpr ⟨⟨some i,w,r0⟩,Be.mpr ⟨Be.mpr ⟨Ee.mpr ⟨i,rfl,g1,hw⟩,g2⟩,?_⟩,?_⟩
     ·show(!(tgF fr).contains i)=true;dsimp[BW,BI,decide_eq_false_iff_not,fg];rintro⟨_,z⟩;rw[hc]at z;cases z
     ·cases e;simp only at h1 g3 ew;simp[bL,h1,g3,ew,psF,a8 hc]
    ·left;apply Be.mpr ⟨Be.mpr ⟨Ee.mpr ⟨i,h1,g1,h3⟩,?_⟩,g2⟩;unfold cM;rw[h1];simp[hc]
 ·obtain⟨hlt,⟨hc,r0,g1,g2,g3⟩|⟨hc,g1,g2⟩⟩:=oget.mp h
  ·obtain⟨w,hw⟩:=S.al i r0 g1;exact⟨w,val hc hw⟩
  ·exact al i r g1
end
section
variable {Γ:Gm}{H H':Hp}{O:Rho}{Z:St}{E X:List En}{v x y:V}{t:T}{K:yF}{Q:VK}
def Sim.mkL{vs:List V}{ts:List T}{p:Addr}(S:Sim Γ H O Z (aM vs ts++E))(hl:vs.length=ts.length)(hp:H p=none):Sim Γ (upd H p (.lst vs)) O Z (⟨none,.ref p,⟨.ow,bB ts⟩⟩::E):=by
 obtain⟨F,h1,h2,h3,h4⟩:=S.use hl;have sm:=Ei.laid (o:=.lst vs) hp;have np:p∉F:=λz=>by obtain⟨o,e,_⟩:=h3 p z;rw[hp]at e;cases e
 apply h4 _ (.ref p) (bB ts) (p::F) (sm.offM _) (λa ha=>let ⟨o,e,_⟩:=h3 a ha;⟨o,sm a o e⟩) (BB.mpr ⟨np,h2⟩) (λa ha=>?_) ?_
 ·rcases ycM ha with rfl|ha;exact⟨.inr hp,_,aq,rfl⟩;exact⟨.inl ha,let ⟨o,e,m⟩:=h3 a ha;⟨o,sm a o e,m⟩⟩
 ·unfold bB;split
  ·delta is hi;rw[jJ hi]at h1;obtain⟨h5,h6⟩:=Rps.ims.mp h1;subst h6;rw[Rp];exact⟨p,vs,rfl,.inl aq,h5.same sm,rfl⟩
  ·rw[Rp];exact⟨p,vs,F,rfl,.inl aq,h1.same sm,rfl⟩
def jm{t:T}:∀{vs:List V} {ts:List T},vs.length=ts.length->aM (vs++[v]) (ts++[t])=aM vs ts++[⟨none,v,⟨.ow,t⟩⟩]
 | [],[],_=>rfl
 | a::vs,b::ts,h=>by
  rw[Bx,Bx,aM,aM,jm (by exists h),Bx]
 | [],_::_,h=>by cases h
 | _::_,[],h=>by cases h
def gT{M:List Nat}:∀{vs:List V} {ts:List T},af M (aM vs ts)=aM vs ts
 | [],ts=>by cases ts<;>rfl
 | a::vs,[]=>rfl
 | a::vs,b::ts=>by rw[aM,aJ rfl,gT]
abbrev bF(fr:List (Option Nat)) (M:List Nat) (g:MG) (c:MT) (e:ME):List R->Rho->List T->Option (List T×Rho)
 | [],O,acc=>some (acc,O)
 | r::rs,O,acc=>match g.run (iL (piF fr) r) (inR fr O)with
  | some O1=>(match c.run O1 with
   | some (true,O2)=>(match e.run O2 with
    | some (⟨.ow,t⟩,O3)=>bF fr M g c e rs (du fr M O3 O) (acc++[t])
    | _=>none)
   | some (false,O2)=>bF fr M g c e rs (du fr M O2 O) acc
   | none=>none)
  | none=>none
def ja{fr:List (Option Nat)}{e:En}:iJ fr Z O (e::E)=bL (piF fr) e::iJ fr Z O E:=rfl
def kR{fr:List (Option Nat)}{M:List Nat}{Oi:Rho}:(du fr M Oi O).length=O.length:=fN
def nQ{J:It}{fr:List (Option Nat)}{g:TG}{tc:TT}{te:TE}{mg:MG}{c:MT}{e:ME}{M:List Nat}{vs:List V}{srcs:List R}{items:List R}{N:List V->Hp->Prop}(hK : Γ.K=K)(wk:el Γ J vs srcs items)(hgk:eK fr g)(hg:jq K g mg)(hc:eg K tc c)(he:aP K te e)(hM:M=mg.mu++(c.mu++e.mu))
  (hmu:∀j∈M,j<fr.length) (ks:∀e∈ens vs srcs,aA (muF fr M) e=true) {E2:List En} (kE:af (muF fr M) E2=E2) {tsF:List T} {OF:Rho} {acc0:List V} {ts0:List T} (hl0:acc0.length=ts0.length) (hz:acc0.length+items.length<sizeLine)
  (hf:eP fr O.length=true) (S:Sim Γ H O Z (ens vs srcs++(aM acc0 ts0++E2))) (hr:bF fr M mg c e items O ts0=some (tsF,OF))
  (q:∀acc H',acc.length=tsF.length->acc.length<=acc0.length+items.length->OF.length=O.length->Sim Γ H' OF Z (ens vs srcs++(aM acc tsF++E2))->N acc H'):yI J (bZ fr Z) g tc te acc0 H N:=by
 have kE2:∀acc ts,af (muF fr M) (ens vs srcs++(aM acc ts++E2))=ens vs srcs++(aM acc ts++E2):=λacc ts=>by rw[aF,cq ks,aF,gT,kE]
 apply⟨λi m acc H=>m=items.length-i/\i<=items.length/\acc.length<=acc0.length+i/\∃O1 ts,bF fr M mg c e (items.drop i) O1 ts=some (tsF,OF)/\acc.length=ts.length/\O1.length=O.length/\Sim Γ H O1 Z (ens vs srcs++(aM acc ts++E2)),⟨items.length,by simp,B6 _,by omega,O,ts0,by simpa using hr,hl0,rfl,S⟩,?_⟩;rintro i m acc H1 ⟨rfl,hil,hal,O1,ts,h1,hl,hO,S1⟩;apply⟨by omega,?_⟩;obtain⟨w1,w2⟩:=wk H1 O1 Z _ S1;by_cases hlt:i<items.length
 ·have hx:items[i]?=some items[i]:=by simp[hlt]
  obtain⟨w3,w4⟩:=w2 i _ hx;rw[Cz hlt,bF]at h1;apply .inr ⟨w3,λacc' H'=>acc'.length<=acc0.length+(i+1)/\∃O1 ts,bF fr M mg c e (items.drop (i+1)) O1 ts=some (tsF,OF)/\acc'.length=ts.length/\O1.length=O.length/\Sim Γ H' O1 Z (ens vs srcs++(aM acc' ts++E2)),λacc' H' ⟨ha,O3,ts3,h3,hl3,hO3,S3⟩=>⟨items.length-(i+1),by omega,rfl,hlt,ha,O3,ts3,h3,hl3,hO3,S3⟩,λx H2 y=>?_⟩;have S2:=w4 x H2 y;have hf1:eP fr O1.length=true:=by rw[hO];exact hf
  have S3:=S2.inn hf1;rw[ja]at S3;split at h1
  ·delta O2 e2;apply hgk x (bZ fr Z) H2 (λZ2 H3=>Kp fr (bZ fr Z) Z2->_) _ (λZ2 H3 z kp=>z kp) ?_;apply hg Γ H2 (inR fr O1) (bZ fr Z) _ _ x _ O2 hK e2 S3 λZ2 H3 S4 kp=>?_;split at h1
   ·delta O3 e3;apply hc Γ H3 O2 Z2 _ _ true O3 hK e3 S4 λH4 S5=>pP ?_;split at h1
    ·delta t O4 e4;apply he Γ H4 O3 Z2 _ _ _ O4 hK e4 S5 λw H5 S6=>?_;rw[ag,ag]at S6;rw[<-hM]at S6;have S7:Sim Γ H5 O4 Z2 (af M (iJ fr Z O1 (⟨none,w,⟨.ow,t⟩⟩::(ens vs srcs++(aM acc ts++E2))))):=by
      rw[ja,aJ (show aA M (bL (piF fr) ⟨none,w,⟨.ow,t⟩⟩)=true from rfl)];exact S6
     have hl4 : O4.length=fr.length:=by rw[<-S6.len,kp.1,eS]
     have S8:=S7.outt hf1 hmu hl4 kp S1.al S1.len (λe' he' j hj=>by
      rcases ycM he' with rfl|he';cases hj;exact S1.hi e' he' j hj)
     rw[aJ (show aA (muF fr M) ⟨none,w,⟨.ow,t⟩⟩=true from rfl),kE2]at S8;apply⟨by simp;omega,_,_,h1,by simp[hl],by rw[kR,hO],?_⟩;rw[jm hl,Bu];apply S8.perm ?_;have pp:∀(A B C:List En) (x:En),(x::(A++(B++C))).Perm (A++(B++(x::C))):=λA B C x=>by
      rw[<-Bu,<-Bu];exact BD.symm
     exact pp _ _ _ _
    ·cases h1
   ·delta O3 e3;apply hc Γ H3 O2 Z2 _ _ false O3 hK e3 S4 λH4 S5=>pN ?_;have S6:=S5.weak e.mu;rw[ag,ag]at S6;rw[<-hM]at S6;have hl4 : O3.length=fr.length:=by rw[<-S6.len,kp.1,eS]
    have S8:=S6.outt hf1 hmu hl4 kp S1.al S1.len S1.hi;rw[kE2]at S8;exact⟨by omega,_,_,h1,hl,by rw[kR,hO],S8⟩
   ·cases h1
  ·cases h1
 ·have ei:i=items.length:=by omega
  subst ei;rw[DG,bF]at h1;cases h1;exact .inl ⟨w1 _ (Bg _),q acc H1 hl hal hO S1⟩
abbrev gc(M:List Nat) (n:Nat):Bool:=M.all λj=>decide (j<n)
def pX{M:List Nat}{n:Nat}(h:gc M n=true):∀j∈M,j<n:=λj hj=>by
 have:=BC.mp h j hj;exists this
private def ce(fr:List (Option Nat))(it:MI)(g:MG)(c:MT)(e:ME):ME:=⟨λO=>match it.run O with
 | some ((srcs,items),O1)=>if(eP fr O1.length&&gc (g.mu++(c.mu++e.mu)) fr.length&&srcs.all (aC (muF fr (g.mu++(c.mu++e.mu))))&&decide (items.length<sizeLine))=true then(match bF fr (g.mu++(c.mu++e.mu)) g c e items O1 []with
  | some (ts,O2)=>some (⟨.ow,bB ts⟩,O2)
  | none=>none)else none
 | none=>none,it.mu++muF fr (g.mu++(c.mu++e.mu))⟩
def kZ{wi:TI}{fr:List (Option Nat)}{g:TG}{tc:TT}{te:TE}{it:MI}{mg:MG}{c:MT}{e:ME}(hi:kj K wi it)(hgk:eK fr g)(hg:jq K g mg)(hc:eg K tc c)(he:aP K te e):aP K (rZ wi fr g tc te) (ce fr it mg c e):=by
 intro Γ H O Z E Q r O' hK hr S q;dsimp[ce]at hr q;split at hr
 ·delta srcs items O1 e1;split at hr
  ·delta hb;dsimp[A9,decide_eq_true_eq]at hb;obtain⟨⟨⟨b1,b2⟩,b3⟩,b5⟩:=hb;split at hr
   ·delta ts O2 e2;cases hr;apply hi Γ H O Z E _ srcs items O1 hK e1 S λΓ hK2 bk J vs H1 hlv S1 wk=>?_;replace hK:=hK2.trans hK;replace q:=λv H' S=>q v H' (bk _ _ _ _ S);rw[<-ag]at q;generalize af it.mu E=E1 at q S1;have ks:∀e'∈ens vs srcs,aA (muF fr (mg.mu++(c.mu++e.mu))) e'=true:=gI b3;have S2:=S1.weak (muF fr (mg.mu++(c.mu++e.mu)));rw[aF,cq ks]at S2;have kE:=cR (M:=muF fr (mg.mu++(c.mu++e.mu))) (N:=muF fr (mg.mu++(c.mu++e.mu))) (λj hj=>hj) E1;generalize af (muF fr (mg.mu++(c.mu++e.mu))) E1=E2 at q S2 kE;apply nQ (acc0:=[]) (ts0:=[]) hK wk hgk hg hc he rfl (pX b2) ks kE rfl (by exists b5) b1 S2 e2 λacc H' hl _ _ S3 d hd=>?_;exact q _ _ (S3.drops.mkL hl hd)
   ·cases hr
  ·cases hr
 ·cases hr
end
section
variable {Γ:Gm}{H H':Hp}{L:List Hd}{O:Rho}{Z:St}{E X:List En}{v w x y:V}{t s:T}{K:yF}{Q:VK}
def GW.stepN{hs ns:List Hd}(G:GW Γ H (hs++L))(ho:∀h∈hs,h.e.r.k.isOw=true)(hr:∀g∈L,∀h∈hs,∀j,h.e.key=some j->g.e.r.k.root≠some j)
  (off:Ed (hs.flatMap (·.F)) H H') (dom:∀a∈hs.flatMap (·.F),∃o,H' a=some o) (nd:(ns.flatMap (·.F)).Nodup) (hF:∀a∈ns.flatMap (·.F),(a∈hs.flatMap (·.F)\/H a=none)/\Mu H' a) (hp:∀n∈ns,Rp Γ.K H' n.e.r.t n.e.v n.F)
  (hk:∀n∈ns,(n.e.r.k=.ow/\∀a∈n.F,H a=none \/ ∃h∈hs,h.e.r.k=.ow/\a∈h.F) \/ ∃k,n.e.r.k=.io k/\Γ.iov[k]?=some n.e.v) (hkey:((ns++L).filterMap λh=>h.e.key).Nodup):GW Γ H' (ns++L):=by
 have iow:∀n∈ns,n.e.r.k.isOw=true:=λn hn=>by rcases hk n hn with⟨e,_⟩|⟨k,e,_⟩<;>rw[e]<;>rfl
 have eo:=dE ho;have en:=dE iow;have G':=G.nd;rw[Bo,eo]at G';have nd1:=(Ba.mp G').2.1;have dj:=(Ba.mp G').2.2;have adL:∀a∈L.flatMap Hd.own,Mu H a/\(Γ.H0 a=none\/a ∈ Γ.io):=λa ha=>G.ad a (by rw[Bo];exact yaR _ ha);have adM:∀a∈hs.flatMap (·.F),Mu H a/\(Γ.H0 a=none\/a ∈ Γ.io):=λa ha=>G.ad a (by rw[Bo,eo];exact yaL _ ha);have ap:=G.apart hr ho;have apM:∀g∈L,∀a∈g.F,a∉hs.flatMap (·.F):=λg hg a ha hm=>by
  obtain⟨h,hh,hah⟩:=BV.mp hm;exact ap g hg a ha h hh hah
 apply⟨?_,λa ha=>?_,λx hx=>?_,λx hx=>?_,hkey,λb o e n=>?_,λa ha=>?_⟩
 ·rw[Bo,en];apply Ba.mpr ⟨nd,nd1,λa ha b hb=>?_⟩;rintro rfl;rcases(hF a ha).1 with z|z;exact dj a z a hb rfl
  ·obtain⟨o,e,_⟩:=(adL a hb).1;rw[z]at e;cases e
 ·rw[Bo,en]at ha;rcases yaM ha with ha|ha
  ·apply⟨(hF a ha).2,?_⟩;rcases(hF a ha).1 with z|z;exact(adM a z).2;exact .inl (G.new0 z)
  ·obtain⟨⟨o,e,m⟩,z⟩:=adL a ha;exact⟨⟨o,off a o e λhm=>dj a hm a ha rfl,m⟩,z⟩
 ·rcases yaM hx with hx|hx;exact hp x hx;exact(G.rp x (yaR _ hx)).off off (λa ha=>(adM a ha).1) (apM x hx)
 ·rcases yaM hx with hx|hx
  ·unfold Ef;rcases hk x hx with⟨e,eh⟩|⟨k,e,ek⟩
   ·dsimp[e];intro a ha;rcases eh a ha with z|⟨h,hh,he,hah⟩;exact G.new0 z
    ·have q:=G.kd h (yaL _ hh);unfold Ef at q;rw[he]at q;exact q a hah
   ·dsimp[e];exact ek
  ·have k:=G.kd x (yaR _ hx);have st:∀a∈x.F,a∉(hs++L).flatMap Hd.own->a∉(ns++L).flatMap Hd.own:=λa ha n z=>by
    rw[Bo,en]at z;rcases yaM z with z|z
    ·rcases(hF a z).1 with w|w;exact n (by rw[Bo,eo];exact yaL _ w)
     ·obtain⟨o,e⟩:=(G.rp x (yaR _ hx)).dom a ha;rw[w]at e;cases e
    ·exact n (by rw[Bo];exact yaR _ z)
   unfold Ef at k|-;split at k;exact k;exact k;exact λa ha=>st a ha (k a ha)
   ·delta j p e;obtain⟨g,h1,h2,h3,h4,h5⟩:=k;rcases yaM h1 with hg|hg;exact absurd (by rw[e];rfl) (hr x hx g hg j h2)
    ·apply⟨g,yaR _ hg,h2,h3,λa ha=>(h4 a ha).imp id (st a ha),λq hq=>⟨(h5 q hq).1,?_⟩⟩;exact jx off (F:=g.F) (apM g hg) (G.muF (yaR _ hg) h3) (λa ha=>ha) (G.ndF (yaR _ hg) h3) (G.rp g (yaR _ hg)) (h5 q hq).1 (h5 q hq).2
 ·apply off b o (G.fr b o e n) λhm=>?_;rcases(adM b hm).2 with z|z;rw[z]at e;cases e;exact n z
 ·obtain⟨o,e⟩:=G.iol a ha;by_cases hm:a∈hs.flatMap (·.F);exact dom a hm;exact⟨o,off a o e hm⟩
def GW.uniq(g:GW Γ H L){x z:Hd}{i:Nat}(x1:x∈L)(hz:z∈L)(x2:x.e.key=some i)(z2:z.e.key=some i):x=z:=by
 have nk:=g.ks;by_cases q:x=z;exact q
 ·exfalso;obtain⟨A,B,rfl⟩:=CD x1;rw[Ch,Bt,x2]at nk;rcases yaM hz with hz|hz;exact(Ba.mp nk).2.2 i (BE.mpr ⟨z,hz,z2⟩) i ymS rfl
  ·rcases ycM hz with hz|hz;exact q hz.symm;exact(BB.mp (Ba.mp nk).2.1).1 (BE.mpr ⟨z,hz,z2⟩)
def Sim.place{i:Nat}{p:List Ac}{r:R}{v0:V}(S:Sim Γ H O Z E)(he:(⟨none,w,⟨.vw (some i) (some p),s⟩⟩:En)∈E)(h : O[i]?=some (some r))(hv:Z[i]?=some (some v0)):r.t.sub p=some s/\atP Γ.K H v0 p w:=by
 obtain⟨v1,hv1,hm⟩:=S.slot h;rw[hv]at hv1;cases hv1;obtain⟨L,g,e⟩:=S.sl;have h1:(⟨none,w,⟨.vw (some i) (some p),s⟩⟩:En)∈L.map (·.e):=by rw[e];exact yaL _ he
 obtain⟨y,hy,ey⟩:=Bm.mp h1;have kd:=g.kd y hy;unfold Ef at kd;rw[ey]at kd;obtain⟨x,x1,x2,x3,x4,x5⟩:=kd;have hm':(⟨some i,v0,r⟩:En)∈L.map (·.e):=by rw[e];exact hm
 obtain⟨z,hz,ez⟩:=Bm.mp hm';have:=g.uniq x1 hz x2 (by rw[ez]);subst this;have:=x5 p rfl;rw[ez]at this;exact this
def Eb.dropsN:∀{A X:List En},Eb Γ H (A++X)->(∀e∈A,e.key=none)->Eb Γ H X
 | [],_,S,_=>S
 | a::A,X,S,h=>Eb.dropsN (Eb.drop S (h a ymS)) λe he=>h e (ymC _ he)
def jE:∀{vs:List V} {rs:List R} {m:Nat} {r:R} {x:V},rs[m]?=some r->vs[m]?=some x->(⟨none,x,r⟩:En)∈ens vs rs
 | [],_,m,_,_,_,h=>by simp at h
 | _::_,[],m,_,_,h,_=>by simp at h
 | v::vs,r0::rs,0,r,x,h1,h2=>by simp at h1 h2;subst h1 h2;exact ymS
 | v::vs,r0::rs,m+1,r,x,h1,h2=>ymC _ (jE (by exists h1) (by exists h2))
def mF:∀{vs:List V} {rs:List R} {e:En},e∈ens vs rs->e.key=none
 | [],rs,e,h=>by cases rs<;>cases h
 | _::_,[],e,h=>by cases h
 | v::vs,r::rs,e,h=>by
  rcases ycM h with rfl|h;rfl;exact mF h
def Sim.io{vs:List V}{rs:List R}{k i:Nat}{p:List Ac}{kd:Kd}{t0:T}(S:Sim Γ H O Z (ens vs rs++E))(hk:rs[k]?=some ⟨.vw (some i) (some p),s⟩)(hw:vs[k]?=some w)(hal:∀m r,m≠k->rs[m]?=some r->aC [i] r=true)(h : O[i]?=some (some ⟨kd,t0⟩))(ho:kd.isOw=true) :
  ∃G,Rp Γ.K H s w G/\G.Nodup/\(∀a∈G,Mu H a)/\(∀m r x,m≠k->rs[m]?=some r->vs[m]?=some x->∃F,Rp Γ.K H r.t x F/\∀a∈F,a∉G) /\
  ∀H' s' v t F G',Ed G H H'->(∀a∈G,∃o,H' a=some o)->(F++G').Nodup->(∀a∈F,H a=none/\Mu H' a)->(∀a∈G',(a∈G\/H a=none)/\Mu H' a)->Rp Γ.K H' s' w G'->Rp Γ.K H' t v F->Sim Γ H' ((au [i] O).set i (some ⟨kd,t0.put p s'⟩)) Z (⟨none,v,⟨.ow,t⟩⟩::af [i] E):=by
 have hil:i < O.length:=(Bb.mp h).1;obtain⟨v0,hv0,h1,h2,h3⟩:=S.out h ho;have pl:=S.place (yaL _ (jE hk hw)) h hv0;obtain⟨L,g,eL⟩:=h1;obtain⟨x,L',rfl,ex,eL'⟩:=ay eL;have hox:x.e.r.k.isOw=true:=by rw[ex];exact ho
 have nx:=g.ndF ymS hox;have mx:=g.muF ymS hox;have hsub:x.e.r.t.sub p=some s:=by rw[ex];exact pl.1
 obtain⟨w',A,G,B,z1,z2,z3,z4⟩:=(g.rp x ymS).atP mx nx hsub;have ew:w'=w:=by rw[ex]at z1;exact eM z1 pl.2
 subst ew;have inG:∀a∈G,a∈x.F:=λa ha=>by rw[z3];exact yaL _ (yaR _ ha)
 have ndx:=nx;rw[z3]at ndx;have ndA:=Ba.mp ndx;have ndG:=Ba.mp ndA.1;have keyL:∀g∈L',g.e.key≠some i:=λy hy=>h3 y.e (by rw[<-eL'];exact By hy);have rootL:∀g∈L',g.e.r.k.root≠some i:=λy hy=>h2 y.e (by rw[<-eL'];exact By hy);have ap:=GW.apart (hs:=[x]) (L:=L') g (λy hy z hz j hj=>by rw[ysM hz,ex]at hj;cases hj;exact rootL y hy) (λz hz=>by rw[ysM hz];exact hox);apply⟨G,z2,ndG.2.1,λa ha=>mx a (inG a ha),λm r y hm hr hy=>?_,λH' s' v t F G' off dom nd hF hG rp' rpt=>?_⟩
 ·have hmem:(⟨none,y,r⟩:En)∈af [i] (ens vs rs++E):=Be.mpr ⟨yaL _ (jE hr hy),hal m r hm hr⟩;have hmem2:(⟨none,y,r⟩:En)∈L'.map (·.e):=by rw[eL'];exact yaL _ hmem
  obtain⟨z,hz,ez⟩:=Bm.mp hmem2;have rz:=g.rp z (ymC _ hz);rw[ez]at rz;exact⟨z.F,rz,λa ha hg=>ap z hz a ha x ymS (inG a hg)⟩
 ·have apAB:∀a,(a∈A\/a∈B)->a∉G:=λa ha hm=>by
   rcases ha with q|q;exact ndG.2.2 a q a hm rfl;exact ndA.2.2 a (yaR _ hm) a q rfl
  have inAB:∀a,(a∈A\/a∈B)->a∈x.F:=λa ha=>by
   rw[z3];rcases ha with q|q;exact yaL _ (yaL _ q);exact yaR _ q
  have rp2:=z4 H' s' G' off rp';have nFG:=Ba.mp nd;have oldAB:∀a,(a∈A\/a∈B)->H a≠none:=λa ha z=>by obtain⟨o,e1,_⟩:=mx a (inAB a ha);rw[z]at e1;cases e1
  have nG':∀a,(a∈A\/a∈B)->a∉G':=λa ha hg=>by
   rcases(hG a hg).1 with z|z;exact apAB a ha z;exact oldAB a ha z
  have ndR:(A++G'++B).Nodup:=by
   apply Ba.mpr ⟨Ba.mpr ⟨ndG.1,nFG.2.1,λa ha b hb e=>nG' a (.inl ha) (e▸hb)⟩,ndA.2.1,λa ha b hb e=>?_⟩;subst e;rcases yaM ha with z|z;exact ndA.2.2 a (yaL _ z) a hb rfl;exact nG' a (.inr hb) z
  have memR:∀a∈A++G'++B,(a∈x.F\/H a=none)/\Mu H' a:=λa ha=>by
   have old:a∈A\/a∈B->(a∈x.F\/H a=none)/\Mu H' a:=λq=>by
    obtain⟨o,e1,m1⟩:=mx a (inAB a q);exact⟨.inl (inAB a q),o,off a o e1 (apAB a q),m1⟩
   rcases yaM ha with z|z
   ·rcases yaM z with z|z;exact old (.inl z);exact⟨(hG a z).1.imp (inG a) id,(hG a z).2⟩
   ·exact old (.inr z)
  have st:=GW.stepN (hs:=[x]) (L:=L') (H':=H') (ns:=[⟨⟨none,v,⟨.ow,t⟩⟩,F⟩,⟨⟨some i,v0,⟨kd,t0.put p s'⟩⟩,A++G'++B⟩]) g (λz hz=>by rw[ysM hz];exact hox) (λy hy z hz j hj=>by rw[ysM hz,ex]at hj;cases hj;exact rootL y hy)
   (by simpa using off.mono inG) (λa ha=>by
    have ha':a∈x.F:=by exists ha
    by_cases hg:a∈G;exact dom a hg;obtain⟨o,e1,_⟩:=mx a ha';exact⟨o,off a o e1 hg⟩)
   (by
    dsimp[Bh,DH,BA];apply Ba.mpr ⟨nFG.1,ndR,λa ha b hb e=>?_⟩;subst e;rcases yaM hb with z|z
    ·rcases yaM z with z|z;exact oldAB a (.inl z) (hF a ha).1;exact nFG.2.2 a ha a z rfl
    ·exact oldAB a (.inr z) (hF a ha).1)
   (λa ha=>by
    dsimp[Bh,DH,BA]at ha|-;rcases yaM ha with z|z;exact⟨.inr (hF a z).1,(hF a z).2⟩;exact memR a z)
   (λn hn=>by
    rcases ycM hn with rfl|hn;exact rpt;rw[ysM hn];rw[ex]at rp2;exact rp2)
   (λn hn=>by
    rcases ycM hn with rfl|hn;exact .inl ⟨rfl,λa ha=>.inl (hF a ha).1⟩
    ·rw[ysM hn];have kx:=g.kd x ymS;unfold Ef at kx;rw[ex]at kx;cases kd with
     | ow=>exact .inl ⟨rfl,λa ha=>(memR a ha).1.elim (λz=>.inr ⟨x,ymS,by rw[ex],z⟩) .inl⟩
     | io n=>exact .inr ⟨n,rfl,kx⟩
     | vw a b=>cases ho)
   (by
    have ks:=g.ks;rw[Bt,ex]at ks;exact ks)
  have S2:=S.kill [i];have SL:Eb Γ H' (⟨none,v,⟨.ow,t⟩⟩::⟨some i,v0,⟨kd,t0.put p s'⟩⟩::(af [i] (ens vs rs++E)++az 0 Z ((au [i] O).set i none))):=⟨_,st,by rw[BQ,eL'];rfl⟩;have SL2:Eb Γ H' (⟨none,v,⟨.ow,t⟩⟩::⟨some i,v0,⟨kd,t0.put p s'⟩⟩::(af [i] E++az 0 Z ((au [i] O).set i none))):=by
   rw[aF,Bu]at SL;have pp:(⟨none,v,⟨.ow,t⟩⟩::⟨some i,v0,⟨kd,t0.put p s'⟩⟩::(af [i] (ens vs rs)++(af [i] E++az 0 Z ((au [i] O).set i none)))).Perm (af [i] (ens vs rs)++(⟨none,v,⟨.ow,t⟩⟩::⟨some i,v0,⟨kd,t0.put p s'⟩⟩::(af [i] E++az 0 Z ((au [i] O).set i none)))):=by
    apply List.Perm.trans ?_ (BD.symm);apply List.Perm.cons _ ?_;exact BD.symm
   exact(SL.perm pp).dropsN λe he=>mF (Be.mp he).1
  apply S2.back (E':=⟨none,v,⟨.ow,t⟩⟩::af [i] E) (SL2.perm ?_) (by simp[aD]) rfl (λm r' hm=>?_) (λe he j hj=>?_)
  ·have pq:=(dz (k:=0) (Z:=Z) (O:=au [i] O) (v:=v0) (r:=⟨kd,t0.put p s'⟩) (by rw[S.len];exact hil) (by rw[aD];exact hil)).append_left (af [i] E);rw[BJ]at pq;have eZ:Z.set i (some v0)=Z:=by
    apply Cu;intro m;by_cases hm:m=i;subst hm;rw[hv0];simp[S.len,hil];rw[Bn (Ff hm)]
   rw[eZ]at pq;rw[Bx];exact List.Perm.cons _ ((BD.symm).trans pq.symm)
  ·by_cases e:m=i;subst e;exact⟨v0,hv0⟩;rw[Bn (Ff e)]at hm;exact S2.al m r' hm
  ·rcases ycM he with rfl|he;cases hj;rw[aF];exact yaR _ he
abbrev spP(K:yF)(run:List T->Option T):Sp:=λvs H Q _=>∃ts t,Et K H ts vs/\run ts=some t/\∀v H',New K H H' t v->Q v H'
abbrev spI(K:yF)(k:Nat)(run:List T->Option (T×T)):Sp:=λvs H Q _=>∃ts s w G t s',vs.length=ts.length/\vs[k]?=some w/\ts[k]?=some s/\Rp K H s w G/\G.Nodup/\(∀a∈G,Mu H a)/\(∀(m:Nat) x u,m≠k->vs[m]?=some x->ts[m]?=some u->∃F,Rp K H u x F/\∀a∈F,a∉G)/\run ts=some (t,s') /\
 ∀v H' F G',Ed G H H'->(∀a∈G,∃o,H' a=some o)->(F++G').Nodup->(∀a∈F,H a=none/\Mu H' a)->(∀a∈G',(a∈G\/H a=none)/\Mu H' a)->Rp K H' s' w G'->Rp K H' t v F->Q v H'
def oG{run:List T->Option T}{ta:TA}{a:MA}(ha:dY K ta a):aP K (gj (spP K run) [] E0 ta) (mB run a):=by
 have e:gj (spP K run) [] E0 ta=tCB (λvs H Q=>spP K run vs H Q E0) ta:=by
  funext Z H Q;show(ta Z H λvs H1=>spP K run (vs++[]) H1 Q E0)=_;dsimp[BA];rfl
 rw[e];exact jh (λH vs ts t Q r e q=>⟨ts,t,r,e,q⟩) ha
private def bw(k j:Nat)(run:List T->Option (T×T))(a:MA):ME:=⟨λO=>match a.run O with
 | some (rs,O1)=>(match rs[k]? with
  | some ⟨.vw (some i) (some p),_⟩=>if(decide (i=j)&&(BL rs.length).all λm=>decide (m=k)||aC [j] (rs.getD m ⟨.ow,.im .non⟩))=true then(match run (rs.map (·.t))with
   | some (t,s')=>(match O1[j]? with
    | some (some ⟨kd,t0⟩)=>if kd.isOw=true then some (⟨.ow,t⟩,(au [j] O1).set j (some ⟨kd,t0.put p s'⟩))else none
    | _=>none)
   | none=>none)else none
  | _=>none)
 | none=>none,a.mu++[j]⟩
def oE{k j:Nat}{run:List T->Option (T×T)}{ta:TA}{a:MA}(ha:dY K ta a):aP K (gj (spI K k run) [] E0 ta) (bw k j run a):=by
 intro Γ H O Z E Q r O' hK hr S q;show ta Z H λvs H1=>spI K k run (vs++[]) H1 Q E0;dsimp[BA];dsimp[bw]at hr q;split at hr
 ·delta rs O1 e1;split at hr
  ·delta i p s e2;split at hr
   ·delta hb;rw[A9,decide_eq_true_eq]at hb;obtain⟨rfl,hal⟩:=hb;split at hr
    ·delta t s' e3;split at hr
     ·delta kd t0 e4;split at hr
      ·delta ho;cases hr;apply ha Γ H O Z E _ rs O1 hK e1 S λvs H1 hl S1=>?_;have hkl:k<rs.length:=(Bb.mp e2).1;obtain⟨w,hw⟩:∃w,vs[k]?=some w:=⟨vs[k],by simp[hl,hkl]⟩;have hal':∀m r,m≠k->rs[m]?=some r->aC [i] r=true:=λm r hm hr=>by
        have hml:=(Bb.mp hr).1;have:=BC.mp hal m (Cv.mpr hml);rw[BF,hr]at this;simpa[hm]using this
       obtain⟨G,g1,g2,g3,g4,g5⟩:=S1.io e2 hw hal' e4 ho;rw[hK]at g1;apply⟨rs.map (·.t),s,w,G,t,s',by rw[Br,hl],hw,by rw[Bv,e2];rfl,g1,g2,g3,λm x u hm hx hu=>?_,e3,λv H' F G' a1 a2 a3 a4 a5 a6 a7=>q v H' ?_⟩
       ·rw[Bv]at hu;cases hr:rs[m]? with
        | none=>rw[hr]at hu;cases hu
        | some r=>
         rw[hr]at hu;cases hu;have:=g4 m r x hm hr hx;rw[hK]at this;exact this
       ·rw[<-hK]at a6 a7;have:=g5 H' s' v t F G' a1 a2 a3 a4 a5 a6 a7;rw[ag]at this;exact this
      ·cases hr
     ·cases hr
    ·cases hr
   ·cases hr
  ·cases hr
 ·cases hr
abbrev roR:T->R
 | .im i=>⟨.ow,.im i⟩
 | t=>⟨.vw none none,t⟩
abbrev bT(ts:List T) (n:Nat):Rho:=(ts.map λt=>some (roR t))++Bc (n-ts.length) none
def eu:∀(k n m:Nat),az k (Bc n none) (Bc m none)=[]
 | _,0,_=>rfl
 | _,n+1,0=>rfl
 | k,n+1,m+1=>by dsimp[BH,az];exact eu (k+1) n m
def nB{H0:Hp}{io:List Addr}{iov:List V}(n m:Nat):∀{ts:List T} {vs:List V} {k:Nat},Et K H ts vs->∃L:List Hd,L.map (·.e)=az k (vs.map some++Bc n none) ((ts.map λt=>some (roR t))++Bc m none)/\L.flatMap Hd.own=[]/\(∀h∈L,Rp K H h.e.r.t h.e.v h.F)/\(∀h∈L,(h.e.r.k=.ow/\h.F=[])\/h.e.r.k=.vw none none)
 | [],vs,k,r=>by
  rw[Et]at r;subst r;exact⟨[],by simp[eu],rfl,by simp,by simp⟩
 | t::ts,vs,k,r=>by
  obtain⟨v,vr,rfl,⟨F,r1⟩,r2⟩:=r;obtain⟨L,h1,h2,h3,h4⟩:=nB (H0:=H0) (io:=io) (iov:=iov) n m (k:=k+1) r2;have hroR:∃F',Rp K H (roR t).t v F'/\(((roR t).k=.ow/\F'=[])\/(roR t).k=.vw none none):=by
   cases t with
   | im i=>exact⟨[],cu (aS r1).1,.inl ⟨rfl,rfl⟩⟩
   | _=>exact⟨F,r1,.inr rfl⟩
  obtain⟨F',g1,g2⟩:=hroR;apply⟨⟨⟨some k,v,roR t⟩,F'⟩::L,by simp[az,h1],?_,λh hh=>?_,λh hh=>?_⟩
  ·rw[Bh,h2,BA];unfold Hd.own;rcases g2 with⟨e,rfl⟩|e;simp;rw[show(⟨⟨some k,v,roR t⟩,F'⟩:Hd).e.r.k=(roR t).k from rfl,e];rfl
  ·rcases ycM hh with rfl|hh;exact g1;exact h3 h hh
  ·rcases ycM hh with rfl|hh
   ·rcases g2 with⟨e,rfl⟩|e;exact .inl ⟨e,rfl⟩;exact .inr e
   ·exact h4 h hh
def Et.length:∀{ts:List T} {vs:List V},Et K H ts vs->vs.length=ts.length
 | [],vs,r=>by rw[Et]at r;subst r;rfl
 | t::ts,vs,r=>by obtain⟨v,vr,rfl,_,r2⟩:=r;rw[Bf,Bf,Et.length r2]
def lc{ts:List T}{vs:List V}{n m:Nat}(hl:vs.length=ts.length)(i:Nat)(r:R)(h:((ts.map λt=>some (roR t))++Bc m none)[i]?=some (some r)):∃v,(vs.map some++Bc n none)[i]?=some (some v):=by
 have hi:i<ts.length:=by
  by_cases e:i<ts.length;exact e
  ·rw[CV (by simp;omega),C6]at h;split at h<;>cases h
 apply⟨vs[i],?_⟩;rw[Ci (by simp;omega),Bv];simp[hl,hi]
def mH{k:Nat}:((az k Z O).filterMap λe=>e.key).Nodup:=by
 have:=jF (k:=k) (Z:=Z) (O:=O);apply List.Pairwise.filterMap (R:=λa b=>∃i j,a.key=some i/\b.key=some j/\i<j) (λe:En=>e.key) (λa a' ⟨i,j,h1,h2,h3⟩ b hb b' hb'=>?_) this;rw[h1]at hb;rw[h2]at hb';cases hb;cases hb';omega
def uD{ts:List T}{vs:List V}{N:List Str}(r:Et K H ts vs):Sim ⟨K,H,[],[]⟩ H (bT ts N.length) (bd N vs) []:=by
 obtain⟨L,h1,h2,h3,h4⟩:=nB (H0:=H) (io:=[]) (iov:=[]) (N.length-vs.length) (N.length-ts.length) (k:=0) r;apply⟨⟨L,⟨by rw[h2];exact BO,by rw[h2];simp,h3,λh hh=>?_,?_,λb o e _=>e,by simp⟩,by rw[h1];rfl⟩,λi r' h=>lc r.length i r' h,?_,by simp⟩
 ·unfold Ef;rcases h4 h hh with⟨e,eF⟩|e;rw[e,eF];simp;rw[e,h2];simp
 ·have:(L.filterMap λh=>h.e.key)=(L.map (·.e)).filterMap λe=>e.key:=by rw[CC];rfl
  rw[this,h1];exact mH
 ·simp[bd,bT,r.length]
abbrev fR(m:MS) (n:Nat) (ts:List T):Option T:=match m.run (bT ts n)with
 | some (.rt t,_)=>some t
 | some (.nx,_)=>some (.im .non)
 | _=>none
def u5{H0:Hp}(S:Sim ⟨K,H0,[],[]⟩ H' O Z [⟨none,v,⟨.ow,t⟩⟩]):New K H0 H' t v:=by
 obtain⟨L,g,e⟩:=S.sl;obtain⟨x,L',rfl,ex,_⟩:=ay e;have rp:=g.rp x ymS;rw[ex]at rp;have kd:=g.kd x ymS;unfold Ef at kd;rw[ex]at kd;have ho:x.e.r.k.isOw=true:=by rw[ex];rfl
 exact⟨λb o h=>g.fr b o h ∅,x.F,rp,g.ndF ymS ho,λa ha=>⟨kd a ha,g.muF ymS ho a ha⟩⟩
def Def.mp{P:EU}{W:E4}{mg:Str->Option EK}{base:Heap}{k:Nat}{name:Str}{st:Stmt}{N ps:List Str}(d:Def K mg name st ps)(S:vx N ps (ae st)){m:MS}
  (hbody:∀(f:Addr) (cdv:EK) (A:Fa) (outer:List Env) (s:EM) (H:Hp) (E:XK),Eh k (A.deeper (Gg name (ae st) s.heap.objs.size f cdv))->yK (eN CX0 P W K mg base N name (ae st) f cdv A outer s H E).nox (aE st) m)
  {run:List T->Option T} (hrun:∀ts,run ts=if ts.length=ps.length then fR m N.length ts else none):Has P W K mg base (k+1) name ps (spP K run):=by
 apply d.has S (λvs H Q E h=>?_) (λf cdv A outer s H vs Q E hr h=>?_)
 ·obtain⟨ts,t,r,e,_⟩:=h;rw[hrun]at e;split at e;delta hl;rw[r.length,hl];cases e
 ·obtain⟨ts,t,r,e,q⟩:=h;rw[hrun]at e;split at e
  ·obtain⟨tS,p1,p2⟩:=hbody f cdv A outer s H E hr;apply⟨tS,p1,?_⟩;have S0:=uD (N:=N) r;unfold fR at e;split at e
   ·delta t0 O' e1;cases e;exact p2 ⟨K,H,[],[]⟩ H _ _ [] _ _ O' rfl ∅ e1 S0 λv Z' H' S1=>q v H' (u5 S1)
   ·delta O' e1;cases e;exact p2 ⟨K,H,[],[]⟩ H _ _ [] _ .nx O' rfl ∅ e1 S0 λZ' H' S1=>q .non H' (u5 (S1.imm cD))
   ·cases e
  ·cases e
abbrev df(k:Nat) (ts:List T) (n:Nat):Rho:=(bT ts n).set k (some ⟨.io 0,ts.getD k (.im .non)⟩)
abbrev j5(m:MS) (k n:Nat) (ts:List T):Option (T×T):=match m.run (df k ts n)with
 | some (.rt t,O')=>(match O'[k]? with
  | some (some ⟨.io 0,s'⟩)=>some (t,s')
  | _=>none)
 | some (.nx,O')=>(match O'[k]? with
  | some (some ⟨.io 0,s'⟩)=>some (.im .non,s')
  | _=>none)
 | _=>none
def lb{G:List Addr}(n m:Nat):∀{ts:List T} {vs:List V} {k:Nat},vs.length=ts.length->(∀(i:Nat) x u,vs[i]?=some x->ts[i]?=some u->∃F,Rp K H u x F/\∀a∈F,a∉G)->∃L:List Hd,L.map (·.e)=az k (vs.map some++Bc n none) ((ts.map λt=>some (roR t))++Bc m none)/\L.flatMap Hd.own=[]/\(∀h∈L,Rp K H h.e.r.t h.e.v h.F/\∀a∈h.F,a∉G)/\(∀h∈L,(h.e.r.k=.ow/\h.F=[])\/h.e.r.k=.vw none none)
 | [],[],k,_,_=>⟨[],by simp[eu],rfl,by simp,by simp⟩
 | t::ts,v::vs,k,hl,r=>by
  obtain⟨F,r1,r1'⟩:=r 0 v t rfl rfl;obtain⟨L,h1,h2,h3,h4⟩:=lb (G:=G) n m (ts:=ts) (vs:=vs) (k:=k+1) (by exists hl) (λi x u hx hu=>r (i+1) x u (by exists hx) (by exists hu));have hroR:∃F',Rp K H (roR t).t v F'/\(∀a∈F',a∉G)/\(((roR t).k=.ow/\F'=[])\/(roR t).k=.vw none none):=by
   cases t with
   | im i=>exact⟨[],cu (aS r1).1,by simp,.inl ⟨rfl,rfl⟩⟩
   | _=>exact⟨F,r1,r1',.inr rfl⟩
  obtain⟨F',g1,g1',g2⟩:=hroR;apply⟨⟨⟨some k,v,roR t⟩,F'⟩::L,by simp[az,h1],?_,λh hh=>?_,λh hh=>?_⟩
  ·rw[Bh,h2,BA];unfold Hd.own;rcases g2 with⟨e,rfl⟩|e;simp;rw[show(⟨⟨some k,v,roR t⟩,F'⟩:Hd).e.r.k=(roR t).k from rfl,e];rfl
  ·rcases ycM hh with rfl|hh;exact⟨g1,g1'⟩;exact h3 h hh
  ·rcases ycM hh with rfl|hh
   ·rcases g2 with⟨e,rfl⟩|e;exact .inl ⟨e,rfl⟩;exact .inr e
   ·exact h4 h hh
 | [],_::_,_,h,_=>by cases h
 | _::_,[],_,h,_=>by cases h
def uC{ts:List T}{vs:List V}{N:List Str}{k:Nat}{G:List Addr}(hl:vs.length=ts.length)(hw:vs[k]?=some w)(hs:ts[k]?=some s)(rp:Rp K H s w G)(nd:G.Nodup)(mu:∀a∈G,Mu H a)(ro:∀(m:Nat) x u,m≠k->vs[m]?=some x->ts[m]?=some u->∃F,Rp K H u x F/\∀a∈F,a∉G):Sim ⟨K,H,G,[w]⟩ H (df k ts N.length) (bd N vs) []:=by
 have hkl:k<ts.length:=(Bb.mp hs).1;have hl':(vs.set k .non).length=(ts.set k (.im .non)).length:=by simp[hl]
 obtain⟨L,h1,h2,h3,h4⟩:=lb (K:=K) (H:=H) (G:=G) (N.length-vs.length) (N.length-ts.length) (ts:=ts.set k (.im .non)) (vs:=vs.set k .non) (k:=0) hl' (λm x u hx hu=>by
  by_cases e:m=k
  ·subst e;simp[hl,hkl]at hx hu;subst hx hu;exact⟨[],cu cD,by simp⟩
  ·rw[Bn (Ff e)]at hx hu;exact ro m x u e hx hu)
 have eZ:(vs.set k .non).map some++Bc (N.length-vs.length) none=(bd N vs).set k (some .non):=by
  unfold bd;rw[Dl _ _ (by simp[hl,hkl]),D6]
 have eO:((ts.set k (.im .non)).map λt=>some (roR t))++Bc (N.length-ts.length) none=(bT ts N.length).set k (↥(.non)):=by
  unfold bT;rw[Dl _ _ (by simp[hkl]),D6];rfl
 rw[eZ,eO]at h1;have hkO:k<(bT ts N.length).length:=by simp[bT];omega
 have hkZ:k<(bd N vs).length:=by simp[bd,hl];omega
 have p1:=dz (k:=0) (Z:=bd N vs) (O:=bT ts N.length) (v:=.non) (r:=⟨.ow,.im .non⟩) hkZ hkO;rw[BJ,<-h1]at p1;obtain⟨L2,pL,eL⟩:=je p1 L rfl;obtain⟨x,L3,rfl,ex,e3⟩:=ay eL;have inL:∀h∈L3,h∈L:=λh hh=>pL.mem_iff.mpr (ymC _ hh);have own3:L3.flatMap Hd.own=[]:=by
  rw[C8];intro h hh;rw[C8]at h2;exact h2 h (inL h hh)
 have own1:((⟨⟨some k,w,⟨.io 0,s⟩⟩,G⟩:Hd)::L3).flatMap Hd.own=G:=by rw[Bh,own3,BA];rfl
 have ht:ts.getD k (.im .non)=s:=by rw[BF,hs];rfl
 have eZ2:(bd N vs).set k (some w)=bd N vs:=by
  apply Cu;intro m;by_cases hm:m=k
  ·subst hm;rw[BR hkZ];unfold bd;rw[Ci (by simp[hl,hkl]),Bv,hw];rfl
  ·rw[Bn (Ff hm)]
 have p2:=dz (k:=0) (Z:=bd N vs) (O:=bT ts N.length) (v:=w) (r:=⟨.io 0,s⟩) hkZ hkO;rw[BJ,eZ2]at p2;have gw:GW ⟨K,H,G,[w]⟩ H (⟨⟨some k,w,⟨.io 0,s⟩⟩,G⟩::L3):=by
  apply⟨by rw[own1];exact nd,λa ha=>by rw[own1]at ha;exact⟨mu a ha,.inr ha⟩,λh hh=>?_,λh hh=>?_,?_,λb o e _=>e,λa ha=>let ⟨o,e,_⟩:=mu a ha;⟨o,e⟩⟩
  ·rcases ycM hh with rfl|hh;exact rp;exact(h3 h (inL h hh)).1
  ·rcases ycM hh with rfl|hh;rfl
   ·unfold Ef;rcases h4 h (inL h hh)with⟨e,eF⟩|e;rw[e,eF];simp;rw[e,own1];exact(h3 h (inL h hh)).2
  ·have e5:((⟨⟨some k,w,⟨.io 0,s⟩⟩,G⟩:Hd)::L3).filterMap (λh=>h.e.key)=(x::L3).filterMap λh=>h.e.key:=by rw[Bt,Bt,ex]
   rw[e5];have e6:((x::L3).filterMap λh=>h.e.key)=((x::L3).map (·.e)).filterMap λe=>e.key:=by rw[CC];rfl
   rw[e6,eL];have:=(p1.filterMap (λe:En=>e.key)).nodup_iff.mp (by rw[h1];exact mH);exact this
 apply⟨Eb.perm ⟨_,gw,rfl⟩ ?_,λi r' h=>?_,?_,by simp⟩
 ·rw[Bj,e3,Cb];unfold df;rw[ht];exact p2.symm
 ·unfold df at h;rw[ht]at h;by_cases e:i=k
  ·subst e;apply⟨w,?_⟩;unfold bd;rw[Ci (by simp[hl,hkl]),Bv,hw];rfl
  ·rw[Bn (Ff e)]at h;exact lc hl i r' h
 ·simp[bd,df,bT,hl]
def uZ{H0:Hp}{G:List Addr}{w0:V}{k:Nat}{s':T}(S:Sim ⟨K,H0,G,[w0]⟩ H' O Z [⟨none,v,⟨.ow,t⟩⟩])(h : O[k]?=some (some ⟨.io 0,s'⟩)):∃F G',Ed G H0 H'/\(∀a∈G,∃o,H' a=some o)/\(F++G').Nodup/\(∀a∈F,H0 a=none/\Mu H' a)/\(∀a∈G',(a∈G\/H0 a=none)/\Mu H' a)/\Rp K H' s' w0 G'/\Rp K H' t v F:=by
 obtain⟨w,hw,hm⟩:=S.slot h;obtain⟨L,g,e⟩:=S.sl;rw[Bx]at e hm;obtain⟨x,L',rfl,ex,e2⟩:=ay e;have hm':(⟨some k,w,⟨.io 0,s'⟩⟩:En)∈L'.map (·.e):=by
  rw[e2];rcases ycM hm with z|z;cases z;exact z
 obtain⟨y,hy,ey⟩:=Bm.mp hm';have rpx:=g.rp x ymS;rw[ex]at rpx;have rpy:=g.rp y (ymC _ hy);rw[ey]at rpy;have kx:=g.kd x ymS;unfold Ef at kx;rw[ex]at kx;have ky:=g.kd y (ymC _ hy);unfold Ef at ky;rw[ey]at ky;have ew:w0=w:=by exists ky
 subst ew;have hox:x.e.r.k.isOw=true:=by rw[ex];rfl
 have hoy:y.e.r.k.isOw=true:=by rw[ey];rfl
 apply⟨x.F,y.F,λb o hb n=>g.fr b o hb n,g.iol,?_,λa ha=>⟨kx a ha,g.muF ymS hox a ha⟩,λa ha=>?_,rpy,rpx⟩
 ·have nd:=g.nd;rw[Bh]at nd;have nx:x.own=x.F:=by unfold Hd.own;rw[if_pos hox]
  rw[nx]at nd;have nn:=Ba.mp nd;exact Ba.mpr ⟨nn.1,g.ndF (ymC _ hy) hoy,λa ha b hb=>nn.2.2 a ha b (BV.mpr ⟨y,hy,eV hoy hb⟩)⟩
 ·have:=g.ad a (BV.mpr ⟨y,ymC _ hy,eV hoy ha⟩);exact⟨this.2.symm,this.1⟩
def Def.mi{P:EU}{W:E4}{mg:Str->Option EK}{base:Heap}{k:Nat}{name:Str}{st:Stmt}{N ps:List Str}{j:Nat}(d:Def K mg name st ps)(S:vx N ps (ae st)){m:MS}
  (hbody:∀(f:Addr) (cdv:EK) (A:Fa) (outer:List Env) (s:EM) (H:Hp) (E:XK),Eh k (A.deeper (Gg name (ae st) s.heap.objs.size f cdv))->yK (eN CX0 P W K mg base N name (ae st) f cdv A outer s H E).nox (aE st) m)
  {run:List T->Option (T×T)} (hrun:∀ts,run ts=if ts.length=ps.length then j5 m j N.length ts else none):Has P W K mg base (k+1) name ps (spI K j run):=by
 apply d.has S (λvs H Q E h=>?_) (λf cdv A outer s H vs Q E hr h=>?_)
 ·obtain⟨ts,s0,w,G,t,s',hl,_,_,_,_,_,_,e,_⟩:=h;rw[hrun]at e;split at e;delta h2;rw[hl,h2];cases e
 ·obtain⟨ts,s0,w,G,t,s',hl,hw,hs,rp,nd,mu,ro,e,q⟩:=h;rw[hrun]at e;split at e
  ·obtain⟨tS,p1,p2⟩:=hbody f cdv A outer s H E hr;apply⟨tS,p1,?_⟩;have S0:=uC (N:=N) hl hw hs rp nd mu ro;unfold j5 at e;split at e
   ·delta t0 O' e1;split at e
    ·delta s1 e2;cases e;apply p2 ⟨K,H,G,[w]⟩ H _ _ [] _ _ O' rfl ∅ e1 S0 λv Z' H' S1=>?_;obtain⟨F,G',a1,a2,a3,a4,a5,a6,a7⟩:=uZ S1 e2;exact q v H' F G' a1 a2 a3 a4 a5 a6 a7
    ·cases e
   ·delta O' e1;split at e
    ·delta s1 e2;cases e;apply p2 ⟨K,H,G,[w]⟩ H _ _ [] _ .nx O' rfl ∅ e1 S0 λZ' H' S1=>?_;obtain⟨F,G',a1,a2,a3,a4,a5,a6,a7⟩:=uZ (S1.imm cD) e2;exact q .non H' F G' a1 a2 a3 a4 a5 a6 a7
    ·cases e
   ·cases e
  ·cases e
end
structure CK{ι : Type}(C:ι->Cx)(P:EU)(W:E4)(K:yF)(mg:Str->Option EK)(base:Heap)(k:Nat):Prop where
 prog:∀i,(C i).prog=P
 w:∀i,(C i).w=W
 kk:∀i,(C i).K=K
 mg:∀i,(C i).mg=mg
 base:∀i,(C i).base=base
 calm:∀i,(C i).calm=true
 room:∀i,Eh k (C i).A
variable {ι : Type}{C:ι->Cx}{P:EU}{W:E4}{K:yF}{mg:Str->Option EK}{base:Heap}{k:Nat}
noncomputable abbrev lq(C:ι->Cx) (scope:FL) (N':List Str):ι×Bk->Cx:=λp=>cxB (C p.1) scope N' p.2
def CK.blk(ck:CK C P W K mg base k){scope:FL}{N':List Str}:CK (lq C scope N') P W K mg base k:=
 ⟨λp=>ck.prog p.1,λp=>ck.w p.1,λp=>ck.kk p.1,λp=>ck.mg p.1,λp=>ck.base p.1,λp=>ck.calm p.1,λp=>ck.room p.1⟩
structure QE(C:ι->Cx)(K:yF)(e:Expr)(m:ME):Prop where
 ex:∃te,(∀i,PE (C i) e te)/\aP K te m
structure QT(C:ι->Cx)(K:yF)(e:Expr)(m:MT):Prop where
 ex:∃te,(∀i,PT (C i) e te)/\eg K te m
structure QW(C:ι->Cx)(K:yF)(e:Expr)(m:MT):Prop where
 ex:∃te,(∀i,PW (C i) e te)/\eg K te m
structure QTs(C:ι->Cx)(K:yF)(e:List Expr)(m:MT):Prop where
 ex:∃te,(∀i,PTs (C i) e te)/\eg K te m
structure QA(C:ι->Cx)(K:yF)(es:List Expr)(m:MA):Prop where
 ex:∃ta,(∀i,PA (C i) es ta)/\aT es=true/\dY K ta m
structure QS(C:ι->Cx)(K:yF)(st:Stmt)(m:MS):Prop where
 ex:∃ts,(∀i,PS (C i) st ts)/\cY K ts m
structure QSs(C:ι->Cx)(K:yF)(st:List Stmt)(m:MS):Prop where
 ex:∃ts,(∀i,PSs (C i) st ts)/\cY K ts m
structure QG(C:ι->Cx)(K:yF)(fr:Option (List (Option Nat)))(e:Expr)(m:MG):Prop where
 ex:∃g,(∀i,PG (C i) e g)/\jq K g m/\∀f,fr=some f->eK f g
structure QGs(C:ι->Cx)(K:yF)(fr:Option (List (Option Nat)))(n:Nat)(es:List Expr)(m:MGs):Prop where
 ex:∃g,(∀i,PGs (C i) es g)/\kh K g m/\(∀f,fr=some f->gB f g)/\(∀rs O O',m.run rs O=some O'->rs.length=n)
structure QI(C:ι->Cx)(K:yF)(tg e:Expr)(m:MI):Prop where
 ex:∃wi,(∀i,PI (C i) tg e wi)/\kj K wi m
structure QO(C:ι->Cx)(K:yF)(e:Option Expr)(m:MO):Prop where
 ex:∃t,(∀i,PO (C i) e t)/\oU K t m
section
variable {a b c e o:Expr}{es:List Expr}{ma mb mc m:ME}{ms:MA}{pos:Pos}{mt mt':MT}
def ar{i:Int}{j:Nat}:QE C K (.Constant (.int i) j pos) (mC (.int i)):=⟨_,λ_=>qz,nt rfl⟩
def iK{x:Bool}{j:Nat}:QE C K (.Constant (.bool x) j pos) (mC (.bl x)):=⟨_,λ_=>zC,nt rfl⟩
def zP{j:Nat}:QE C K (.Constant .none j pos) (mC .non):=⟨_,λ_=>xm,nt rfl⟩
def b7{x:Str}{j:Nat}:QE C K (.Constant (.str x) j pos) (mC (.str x)):=⟨_,λ_=>xo,nt rfl⟩
def am(n:Nat){x:Str}(hN:∀i,(C i).N[n]?=some x:=by intro _;rfl)(hv:∀i,Vis (C i).env.scope x:=by first|exact λ_=>E8 rfl|exact λ_=>EX (E8 rfl)|exact λ_=>EX (EX rfl))(hd:(x==("__debug__" : Str))=false:=by decide)(hcd:(x==("__classdict__" : Str))=false:=by decide):QE C K (.Name x pos) (av n):=⟨_,λi=>bS (hN i) (hv i) hd hcd,uv⟩
def ai:QA C K [] mNil:=⟨_,λ_=>de,rfl,nu⟩
def ac(h1:QE C K e m)(h2:QA C K es ms)(hs:bo e=false:=by rfl):QA C K (e::es) (ah m ms):=by
 obtain⟨te,a,b⟩:=h1;obtain⟨ta,c,n,d⟩:=h2;exact⟨_,λi=>b6 (a i) (c i) hs,by rw[aT,hs,n];rfl,rC b d⟩
def oB{op:Operator}{red:yF->R2}{f:T->T->Option T}(ck:CK C P W K mg base k)(ho:∀X:Cx,OpR X (Fh op) (red X.K))(hp:cc K (red K) f)(ha:QE C K a ma)(hb:QE C K b mb):QE C K (.BinOp a op b pos) (mOp f ma mb):=by
 obtain⟨ta,p,r⟩:=ha;obtain⟨tb,p',r'⟩:=hb;exact⟨_,λi=>zG (r:=red K) (by have:=ho (C i);rw[ck.kk i]at this;exact this) (p i) (p' i),lX hp r r'⟩
def bt(ck:CK C P W K mg base k)(ha:QE C K a ma)(hb:QE C K b mb):QE C K (.BinOp a .Add b pos) (mOp bP ma mb):=oB ck (red:=rh) (λ_=>tI) qE ha hb
def vq(ck:CK C P W K mg base k)(ha:QE C K a ma)(hb:QE C K b mb):QE C K (.BinOp a .Sub b pos) (mOp oO ma mb):=oB ck (red:=λ_=>rI0 λi j=>.int (i-j)) (λ_=>wY) qT ha hb
def dJ(ck:CK C P W K mg base k)(ha:QE C K a ma)(hb:QE C K b mb):QE C K (.BinOp a .Mult b pos) (mOp dZ ma mb):=oB ck (red:=rn) (λ_=>tK) qO ha hb
def qX(ck:CK C P W K mg base k)(ha:QE C K a ma)(hb:QE C K b mb):QE C K (.BinOp a .FloorDiv b pos) (mOp iW ma mb):=oB ck (red:=λ_=>rI ll λi j=>.int (i / j)) (λ_=>oq) oz ha hb
def ee(ck:CK C P W K mg base k)(ha:QE C K a ma)(hb:QE C K b mb):QE C K (.BinOp a .Mod b pos) (mOp eW ma mb):=oB ck (red:=λ_=>rI (λ_ j=>0<j) λi j=>.int (i % j)) (λ_=>wS) qN ha hb
def qY(ck:CK C P W K mg base k)(ha:QE C K a ma)(hb:QE C K b mb):QE C K (.BinOp a .Pow b pos) (mOp lP ma mb):=oB ck (red:=λ_=>rI vT λi j=>.int (i^j.toNat)) (λ_=>wX) qR ha hb
def vo(ha:QE C K a ma):QE C K (.UnaryOp .USub a pos) (mUn om ma):=by
 obtain⟨ta,p,r⟩:=ha;exact⟨_,λi=>zH yg (p i),il qP r⟩
abbrev dv(op:HB)(f:T->T->Option T):Prop:=∃red:yF->R2,(∀X:Cx,X.A.units+64<Fz->OpR X (Fe op) (red X.K))/\∀K,cc K (red K) f
def AM:dv .Lt (iH λi j=>decide (i<j)):=⟨λ_=>_,λ_ _=>zu,λ_=>ic⟩
def yS:dv .Gt (iH λi j=>decide (j<i)):=⟨λ_=>_,λ_ _=>zt,λ_=>ic⟩
def AK:dv .GtE (iH λi j=>decide (j<=i)):=⟨λ_=>_,λ_ _=>zr,λ_=>ic⟩
def yR:dv .Eq eqT:=⟨xJ,λ_ hu=>wO hu,λ_=>t4⟩
def AN:dv .NotEq neT:=⟨xO,λ_ hu=>wW hu,λ_=>t6⟩
def AL:dv .In inT:=⟨xL,λ_ hu=>wR hu,λ_=>t5⟩
def m9{op:HB}{f:T->T->Option T}(ck:CK C P W K mg base k)(hc:dv op f)(ha:QE C K a ma)(hb:QE C K b mb)(hm:FJ op b=false):QE C K (.Compare a [op] [b] pos) (mOp f ma mb):=by
 obtain⟨red,ho,hp⟩:=hc;obtain⟨ta,p,r⟩:=ha;obtain⟨tb,p',r'⟩:=hb;exact⟨_,λi=>tP (r:=red K) (by have:=ho (C i) (ck.room i).units;rw[ck.kk i]at this;exact this) (p i) (p' i) hm,lX (hp K) r r'⟩
def b9{op:HB}{f:T->T->Option T}(ck:CK C P W K mg base k)(hc:dv op f)(ha:QE C K a ma)(hb:QE C K b mb)(hm:FJ op b=false):QT C K (.Compare a [op] [b] pos) (a9 (mOp f ma mb)):=by
 obtain⟨red,ho,hp⟩:=hc;obtain⟨ta,p,r⟩:=ha;obtain⟨tb,p',r'⟩:=hb;exact⟨_,λi=>t8 (r:=red K) (by have:=ho (C i) (ck.room i).units;rw[ck.kk i]at this;exact this) (p i) (p' i) hm,k7 (lX (hp K) r r')⟩
def ig(ha:QE C K e m)(he:∀i whole,IZ e (C i).env whole=(do let v <-whole;GP e.pos;F3 [v] (truthy v)):=by intro _ _;rfl):QT C K e (a9 m):=by
 obtain⟨ta,p,r⟩:=ha;exact⟨_,λi=>xA (p i) (he i),xX r⟩
def jY(ha:QT C K a mt):QT C K (.UnaryOp .Not a pos) (jP mt):=by
 obtain⟨ta,p,r⟩:=ha;exact⟨_,λi=>xz (p i),up r⟩
def lT(ha:QT C K a mt):QW C K (.BoolOp .Or [a] pos) mt:=by
 obtain⟨ta,p,r⟩:=ha;exact⟨_,λi=>xC (p i),r⟩
def rf{rest:List Expr}(ha:QT C K a mt)(hb:QW C K (.BoolOp .Or (b::rest) pos) mt'):QW C K (.BoolOp .Or (a::b::rest) pos) (mOr mt mt'):=by
 obtain⟨ta,p,r⟩:=ha;obtain⟨tb,p',r'⟩:=hb;exact⟨_,λi=>zK (p i) (p' i),xV r r'⟩
def QW.t(h:QW C K e mt):QT C K e mt:=by
 obtain⟨ta,p,r⟩:=h;exact⟨_,λi=>(p i).pt,r⟩
def zQ{op:BoolOp}(h:QE C K a m):QE C K (.BoolOp op [a] pos) m:=by
 obtain⟨ta,p,r⟩:=h;exact⟨_,λi=>xn (p i),r⟩
def vk{rest:List Expr}(ha:QE C K a ma)(hb:QE C K (.BoolOp .And (b::rest) pos) mb):QE C K (.BoolOp .And (a::b::rest) pos) (ge ma mb):=by
 obtain⟨ta,p,r⟩:=ha;obtain⟨tb,p',r'⟩:=hb;exact⟨_,λi=>xj (p i) (p' i),rB r r'⟩
def zN(hc:QT C K c mt)(ha:QE C K a ma)(hb:QE C K b mb):QE C K (.IfExp c a b pos) (tu mt ma mb):=by
 obtain⟨tc,p0,r0⟩:=hc;obtain⟨ta,p,r⟩:=ha;obtain⟨tb,p',r'⟩:=hb;exact⟨_,λi=>qy (p0 i) (p i) (p' i),uk r0 r r'⟩
def bD(mv:List Nat)(h:QA C K es ms):QE C K (.List es pos) (aW mv ms):=by
 obtain⟨ta,p,_,r⟩:=h;exact⟨_,λi=>xl (p i),rJ r⟩
def jg(mv:List Nat){x1:Nat}(h:QA C K es ms):QE C K (.Tuple es x1 pos) (dq mv ms):=by
 obtain⟨ta,p,_,r⟩:=h;exact⟨_,λi=>xp (p i),rN r⟩
def aY(ck:CK C P W K mg base k)(ha:QE C K a ma)(hb:QE C K b mb)(hs:mn b:=by exact λ_ _=>rfl):QE C K (.Subscript a b pos) (mIx ma mb):=by
 obtain⟨ta,p,r⟩:=ha;obtain⟨tb,p',r'⟩:=hb;exact⟨_,λi=>zF (AT (ck.kk i)) (p i) (p' i) hs,xU r r'⟩
def ng:QO C K none mNoPart:=⟨_,λ_=>tZ,lW⟩
def nh(h:QE C K e m):QO C K (some e) (gX m):=by
 obtain⟨ta,p,r⟩:=h;exact⟨_,λi=>t3 (p i),rL r⟩
def zR{lo hi:Option Expr}{ml mh:MO}{p2:Pos}(ck:CK C P W K mg base k)(ha:QE C K a ma)(hl:QO C K lo ml)(hh:QO C K hi mh):QE C K (.Subscript a (.Slice lo hi none p2) pos) (mSl ma ml mh):=by
 obtain⟨ta,p,r⟩:=ha;obtain⟨tl,p',r'⟩:=hl;obtain⟨th,p'',r''⟩:=hh;exact⟨_,λi=>qA (r:=rSl K) (by have:=A2 (X:=C i);rw[ck.kk i]at this;exact this) (p i) (p' i) (p'' i),xW r r' r''⟩
def kW{x:Str}{p:Pos}{j:Nat}{ps:List Str}{run:List T->Option T}(ck:CK C P W K mg base k)(h:Has P W K mg base j x ps (spP K run))(ha:QA C K (e::es) ms)(hj:j<=k:=by first|decide|omega)(hg:∀i,Gl (C i) x:=by intro _;rfl)(hdb:(x==("__debug__" : Str))=false:=by decide):QE C K (.Call (.Name x p) (e::es) [] pos) (mB run ms):=by
 obtain⟨ta,q,n,r⟩:=ha;apply⟨_,λi=>qx (by rw[ck.prog i,ck.w i,ck.kk i,ck.mg i,ck.base i];exact h) ((ck.room i).mono hj) (hg i) (q i) n hdb,oG r⟩
def eY(l:Nat){x:Str}{p:Pos}{j n0:Nat}{ps:List Str}{run:List T->Option (T×T)}(ck:CK C P W K mg base k)(h:Has P W K mg base j x ps (spI K n0 run))(ha:QA C K (e::es) ms)(hj:j<=k:=by first|decide|omega)(hg:∀i,Gl (C i) x:=by intro _;rfl)(hdb:(x==("__debug__" : Str))=false:=by decide):QE C K (.Call (.Name x p) (e::es) [] pos) (bw n0 l run ms):=by
 obtain⟨ta,q,n,r⟩:=ha;apply⟨_,λi=>qx (by rw[ck.prog i,ck.w i,ck.kk i,ck.mg i,ck.base i];exact h) ((ck.room i).mono hj) (hg i) (q i) n hdb,oE r⟩
abbrev uV(x:Str)(f:List T->Option T):Prop:=∃(id:String) (red:yF->List V->Hp->VK->Prop),Fq x=some (.builtin id)/\(∀X:Cx,X.calm=true->Ej X (.builtin id) (red X.K))/\∀K,fZ K (red K) f
abbrev vW(x:Str)(f:List T->Option T):Prop:=∃(id:String) (red:yF->List V->Hp->VK->Prop),Fq x=some (.type id)/\(∀X:Cx,X.calm=true->Ej X (.type id) (red X.K))/\∀K,fZ K (red K) f
def m8{x:Str}{p:Pos}{f:List T->Option T}(ck:CK C P W K mg base k)(hb:uV x f)(hm:mg x=none)(ha:QA C K (e::es) ms)(hg:∀i,Gl (C i) x:=by intro _;rfl)(hx:x≠("__name__" : Str):=by decide)(hdb:(x==("__debug__" : Str))=false:=by decide):QE C K (.Call (.Name x p) (e::es) [] pos) (mB f ms):=by
 obtain⟨id,red,b1,b2,b3⟩:=hb;obtain⟨ta,q,n,r⟩:=ha;exact⟨_,λi=>cT (r:=red K) (by have:=b2 (C i) (ck.calm i);rw[ck.kk i]at this;exact this) (hg i) (by rw[ck.mg i];exact hm) b1 (q i) n hx hdb,jh (b3 K) r⟩
def xF{x:Str}{p:Pos}{f:List T->Option T}(ck:CK C P W K mg base k)(hb:vW x f)(hm:mg x=none)(ha:QA C K (e::es) ms)(hg:∀i,Gl (C i) x:=by intro _;rfl)(hx:x≠("__name__" : Str):=by decide)(hdb:(x==("__debug__" : Str))=false:=by decide):QE C K (.Call (.Name x p) (e::es) [] pos) (mB f ms):=by
 obtain⟨id,red,b1,b2,b3⟩:=hb;obtain⟨ta,q,n,r⟩:=ha;exact⟨_,λi=>lO (r:=red K) (by have:=b2 (C i) (ck.calm i);rw[ck.kk i]at this;exact this) (hg i) (by rw[ck.mg i];exact hm) b1 (q i) n hx hdb,jh (b3 K) r⟩
def b_len:uV "len" jO:=⟨_,rl,PySem.boot_len,λ_ _=>nL,λ_=>qL⟩
def b_tuple:vW "tuple" r8:=⟨_,rq,D1,λ_ _=>iF,λ_=>qU⟩
def b_list:vW "list" oh:=⟨_,rm,De,λ_ _=>jB,λ_=>qM⟩
abbrev oS(T0:String)(name:Str)(f:T->List T->Option T):Prop:=∃(id:String) (red:yF->V->List V->Hp->VK->Prop),GV T0/\Slot T0 name id/\Hf (.builtin id)=pure (.type "method_descriptor")/\(∀X:Cx,MtR X id (red X.K))/\(∀K,oT K T0 (red K) f)/\∀K (H:Hp) (x:V) (tx:T) ts t,Rpx K H tx x->f tx ts=some t->tyV K T0 x H
abbrev uW(T0:String)(name:Str)(f:T->List T->Option (T×I)):Prop:=∃(id:String) (red:yF->V->List V->Hp->VK->Prop),GV T0/\Slot T0 name id/\Hf (.builtin id)=pure (.type "method_descriptor")/\(∀X:Cx,MtR X id (red X.K))/\(∀K,gx K (red K) f)/\∀K (H:Hp) (x:V) (tx:T) ts r,Rpx K H tx x->f tx ts=some r->tyV K T0 x H
def xE{T0:String}{name:Str}{f:T->List T->Option T}{apos:Pos}{mo:ME}(ck:CK C P W K mg base k)(hm:oS T0 name f)(ho:QE C K o mo)(ha:QA C K (e::es) ms)(hlen:decide ((e::es).length<30)=true:=by rfl)
  (hbase:∀i,FF o name (C i).env (eval o (C i).env)=eval o (C i).env:=by intro _;rfl) (hline:(apos.endLine==pos.line)=true:=by rfl):QE C K (.Call (.Attribute o name apos) (e::es) [] pos) (mM f mo ms):=by
 obtain⟨id,red,h1,h2,h3,h4,h5,h6⟩:=hm;obtain⟨to,q,r⟩:=ho;obtain⟨ta,q',n,r'⟩:=ha;exact⟨_,λi=>yQ (r:=red K) (ck.kk i) h1 h2 h3 (by have:=h4 (C i);rw[ck.kk i]at this;exact this) (q i) (q' i) n hlen (hbase i) hline,Aa (h5 K) (h6 K) r r'⟩
def vn(l:Nat)(mv:List Nat){T0:String}{name:Str}{f:T->List T->Option (T×I)}{apos:Pos}{mo:ME}(ck:CK C P W K mg base k)(hm:uW T0 name f)(ho:QE C K o mo)(ha:QA C K (e::es) ms)(hlen:decide ((e::es).length<30)=true:=by rfl)
  (hbase:∀i,FF o name (C i).env (eval o (C i).env)=eval o (C i).env:=by intro _;rfl) (hline:(apos.endLine==pos.line)=true:=by rfl):QE C K (.Call (.Attribute o name apos) (e::es) [] pos) (lE l mv f mo ms):=by
 obtain⟨id,red,h1,h2,h3,h4,h5,h6⟩:=hm;obtain⟨to,q,r⟩:=ho;obtain⟨ta,q',n,r'⟩:=ha;exact⟨_,λi=>yQ (r:=red K) (ck.kk i) h1 h2 h3 (by have:=h4 (C i);rw[ck.kk i]at this;exact this) (q i) (q' i) n hlen (hbase i) hline,uo (h5 K) (h6 K) r r'⟩
def wE:oS "str" "join" gS:=⟨_,vz,PySem.F.plainAttrs_str,PySem.F.slot_str_join,PySem.F.type_str_join,λ_=>tD,λ_=>oA,λK H x tx ts t r e=>by
 unfold gS at e;split at e;rw[cv r];rfl;cases e⟩
def kJ:uW "list" "append" apT:=⟨_,λ_=>jZ,PySem.F.plainAttrs_list,PySem.F.slot_list_append,PySem.F.type_list_append,λ_=>ol,λ_=>kU,λK=>oR⟩
end
variable {ι : Type}{C:ι->Cx}{P:EU}{W:E4}{K:yF}{mg:Str->Option EK}{base:Heap}{k:Nat}
section
variable {a b c e o tg iter:Expr}{es:List Expr}{ma mb mc m mo mi:ME}{ms:MA}{pos:Pos}{mt mt':MT}{s1 s2:MS}{g g':MG}{gs:MGs}{it it2:MI}{fr:Option (List (Option Nat))}
def bX(n:Nat){x:Str}(hN:∀i,(C i).N.Nodup)(hi:∀i,(C i).N[n]?=some x:=by intro _;rfl)(hx:∀i,Loc (C i).env.scope x:=by first|exact λ_=>E8 rfl|exact λ_=>EX rfl)(hf:∀i,(C i).fn x=true\/(C i).env.scope.names.lookup x=some .local:=by first|exact λ_=>.inl rfl|exact λ_=>.inr rfl)
  (hfr:∀f,fr=some f->f[n]?=some none:=by first|(intro f h;cases h;done)|(intro f h;cases h;rfl)):QG C K fr (.Name x pos) (ax n):=
 ⟨_,λi=>mX (hN i) (hi i) (hx i) (hf i),ik,λf hf'=>sT (hfr f hf')⟩
def nc:QGs C K fr 0 [] mGNil:=by unhygienic exact⟨_,λ_=>tW,rG,λ_ _=>wn,λrs O O' h=>by cases rs<;>first|rfl|cases h⟩
def e7{n:Nat}(h1:QG C K fr e g)(h2:QGs C K fr n es gs)(hs:∀i,(Fw (e::es) (C i).env).map (·.2)=GB e (C i).env::(Fw es (C i).env).map (·.2):=by intro _;rfl):QGs C K fr (n+1) (e::es) (cG g gs):=by unhygienic
 obtain⟨g1,p1,r1,k1⟩:=h1;obtain⟨g2,p2,r2,k2,l2⟩:=h2;apply⟨_,λi=>qC (p1 i) (p2 i) (hs i),oJ r1 r2,λf hf=>sS (k1 f hf) (k2 f hf),λrs O O' h=>?_⟩;cases rs with
 | nil=>cases h
 | cons r rs=>
  dsimp[cG]at h;split at h
  ·split at h;rw[Bf,l2 _ _ _ h];cases h
  ·cases h
def rc{n k0:Nat}(ck:CK C P W K mg base k)(h:QGs C K fr n es gs)(hn:∀i,(Fw es (C i).env).length=n:=by intro _;rfl)(hst:∀i,(Fw es (C i).env).findIdx? (·.1)=none:=by intro _;rfl):QG C K fr (.Tuple es k0 pos) (gW gs):=by
 obtain⟨g,p,r,kk,l⟩:=h;exact⟨_,λi=>tgK (ck.kk i) (ck.calm i) (p i) (hn i) (hst i),rH r l,λf hf=>wo (kk f hf)⟩
def qZ(j:Nat)(ho:QE C K o mo)(hi:QE C K e mi)
  (ha:∀i v,GB (.Subscript o e pos) (C i).env v=(do
   let ov <-F3 [v] (eval o (C i).env)
   let iv <-F3 [v,ov] (eval e (C i).env)
   GP pos
   F3 [v,ov,iv] (setItem ov iv v)
   release [v,ov,iv] []):=by intro _ _;rfl):QG C K none (.Subscript o e pos) (lF j mo mi):=by
 obtain⟨to,p,r⟩:=ho;obtain⟨ti,p',r'⟩:=hi;exact⟨_,λi=>xq (p i) (p' i) rT (ha i),uu r r',λf h=>by cases h⟩
def b8:QSs C K [] mNext:=⟨_,λ_=>t7,rK⟩
def aO{st:Stmt}(h1:QS C K st s1):QSs C K [st] s1:=by
 obtain⟨t,p,r⟩:=h1;exact⟨_,λi=>dU (p i),r⟩
def aw{st:Stmt}{rest:List Stmt}(h1:QS C K st s1)(h2:QSs C K rest s2):QSs C K (st::rest) (aQ s1 s2):=by
 obtain⟨t,p,r⟩:=h1;obtain⟨u,p',r'⟩:=h2;exact⟨_,λi=>eX (p i) (p' i),ut r r'⟩
def cV{b1 b2:List Stmt}(hc:QT C K c mt)(h1:QSs C K b1 s1)(h2:QSs C K b2 s2):QS C K (.If c b1 b2 pos) (mIf mt s1 s2):=by
 obtain⟨tc,p0,r0⟩:=hc;obtain⟨t,p,r⟩:=h1;obtain⟨u,p',r'⟩:=h2;exact⟨_,λi=>zI (p0 i) (p i) (p' i),ul r0 r r'⟩
def bp(h:QE C K e m):QS C K (.Return (some e) pos) (cH m):=by
 obtain⟨t,p,r⟩:=h;exact⟨_,λi=>xx (p i),ur r⟩
def ua(h:QE C K e m)(hs:∀i,F9 e none pos.line (C i).env=pure false:=by intro _;rfl):QS C K (.Expr e pos) (i4 m):=by
 obtain⟨t,p,r⟩:=h;exact⟨_,λi=>gA (p i) (hs i),rD r⟩
def re(h:QE C K e m)(hg:QG C K none tg g)(hs:∀i,GC [tg] e pos.line (C i).env=pure false:=by intro _;rfl)(hw:∀i,GD [tg] e (C i).env=pure none:=by intro _;rfl)
  (h1:∀i,(Fw [tg] (C i).env).map (·.2)=[GB tg (C i).env]:=by intro _;rfl):QS C K (.Assign [tg] e pos) (aZ m g):=by
 obtain⟨t,p,r⟩:=h;obtain⟨u,p',r',_⟩:=hg;exact⟨_,λi=>xv (p i) (p' i) (hs i) (hw i) (h1 i),j0 r r'⟩
def aK(n:Nat){x:Str}{pos':Pos}(hN:∀i,(C i).N.Nodup)(he:QE C K e m)(hi:∀i,(C i).N[n]?=some x:=by intro _;rfl)(hx:∀i,Loc (C i).env.scope x:=by first|exact λ_=>E8 rfl|exact λ_=>EX rfl)(hs:∀i,F9 e (some (.Name x pos')) pos.line (C i).env=pure false:=by intro _;rfl)(hf:∀i,(C i).fn x=true\/(C i).env.scope.names.lookup x=some .local:=by first|exact λ_=>.inl rfl|exact λ_=>.inr rfl) :
  QS C K (.Assign [.Name x pos'] e pos) (aZ m (ax n)):=by
 obtain⟨t,p,r⟩:=he;exact⟨_,λi=>xy (hN i) (hi i) (hx i) (p i) (hs i) (hf i),j0 r ik⟩
abbrev tw(i j:Nat) (a:MA):MS:=⟨λO=>match a.run O with
 | some ([r1,r2],O1)=>if(cS O1 i&&aC [i] r1&&aC [i] r2&&cS O1 j&&aC [j] r2)=true then some (.nx,(au [j] ((au [i] O1).set i (some r1))).set j (some r2))else none
 | _=>none,a.mu++[i,j]⟩
def on{O:Rho}{i j:Nat}{r:R}(h:cS O j=true)(hr:∀n,r.k ≠ .io n):cS ((au [i] O).set i (some r)) j=true:=by
 unfold cS at h|-;by_cases e:j=i
 ·subst e;have hl:j < O.length:=by
   cases q : O[j]? with
   | none=>rw[q]at h;cases h
   | some o=>exact(Bb.mp q).1
  rw[BR (by rw[aD];exact hl)];obtain⟨k,t⟩:=r;cases k with
  | io n=>exact absurd rfl (hr n)
  | _=>rfl
 ·rw[Bn (Ff e)];unfold au;rw[Bv];cases q : O[j]? with
  | none=>rw[q]at h;cases h
  | some o=>
   rw[q]at h;cases o with
   | none=>rfl
   | some x=>
    show(match some (bG [i] (some x))with|some (some ⟨.io _,_⟩)=>false|some _=>true|none=>false)=true;cases hk:bG [i] (some x)with
    | none=>rfl
    | some y=>
     obtain⟨e1,_⟩:=Ev.mp hk;cases e1;exact h
abbrev hJ(r:R):Bool:=match r.k with
 | .io _=>false
 | _=>true
def uq{i j:Nat}{ta:TA}{a:MA}(ha:dY K ta a)(hio:∀O rs O',a.run O=some (rs,O')->True):cY K (Aj i j ta) (tw i j ⟨λO=>match a.run O with
  | some (rs,O1)=>if rs.all hJ=true then some (rs,O1)else none
  | none=>none,a.mu⟩):=by
 intro Γ H O Z E D f O' hK hE hr S q;dsimp[tw]at hr q;split at hr
 ·delta r1 r2 O1 e1;split at e1
  ·delta rs O2 e2;split at e1
   ·delta hall;cases e1;split at hr
    ·delta hb;cases hr;dsimp[A9]at hb;obtain⟨⟨⟨⟨b1,b2⟩,b3⟩,b4⟩,b5⟩:=hb;apply ha Γ H O Z E _ _ _ hK e2 S λvs H1 hl S1=>?_;obtain⟨v,w,rfl⟩:∃v w,vs=[v,w]:=by
      cases vs with
      | nil=>cases hl
      | cons v r=>cases r with
       | nil=>cases hl
       | cons w r=>cases r with
        | nil=>exact⟨v,w,rfl⟩
        | cons _ _=>cases hl
     have S1:Sim Γ H1 O1 Z (⟨none,v,r1⟩::⟨none,w,r2⟩::af a.mu E):=S1;apply⟨v,w,rfl,q _ H1 ?_⟩;have S2:=S1.put b1 (er b2);rw[aJ (ba b3)]at S2;have hr1:∀n,r1.k ≠ .io n:=λn z=>by
      have:=BC.mp hall r1 ymS;unfold hJ at this;rw[z]at this;cases this
     have S3:=S2.put (on b4 hr1) (er b5);rw[ag,ag]at S3;have:a.mu++([i]++[j])=a.mu++[i,j]:=rfl;rw[<-Bu]at this;exact S3
    ·cases hr
   ·cases e1
  ·cases e1
 ·cases hr
private def mP(i j:Nat)(a:MA):MS:=tw i j ⟨λO=>match a.run O with
  | some (rs,O1)=>if rs.all hJ=true then some (rs,O1)else none
  | none=>none,a.mu⟩
def xH(i j:Nat){x y:Str}{px py pt:Pos}{kt k2 pt2}(ck:CK C P W K mg base k)(hN:∀i,(C i).N.Nodup)(ha:QA C K [a,b] ms)(hi:∀n,(C n).N[i]?=some x:=by intro _;rfl)(hj:∀n,(C n).N[j]?=some y:=by intro _;rfl)(hij:i≠j:=by decide)
  (hx:∀n,(C n).env.scope.names.lookup x=some .local:=by intro _;rfl) (hy:∀n,(C n).env.scope.names.lookup y=some .local:=by intro _;rfl)
  (hw:∀n,GD [.Tuple [.Name x px,.Name y py] kt pt] (.Tuple [a,b] k2 pt2) (C n).env=pure (some [x,y]):=by intro _;rfl)
  (hs:∀n,GC [.Tuple [.Name x px,.Name y py] kt pt] (.Tuple [a,b] k2 pt2) pos.line (C n).env=pure false:=by intro _;rfl) :
  QS C K (.Assign [.Tuple [.Name x px,.Name y py] kt pt] (.Tuple [a,b] k2 pt2) pos) (mP i j ms):=by unhygienic
 obtain⟨ta,p,_,r⟩:=ha;exact⟨_,λn=>xw (ck.calm n) (hN n) (hi n) (hj n) hij (hx n) (hy n) (p n) (hw n) (hs n),uq r (λ_ _ _ _=>trivial)⟩
def lR{body:List Stmt}(ck:CK C P W K mg base k)(hp:∀i,Gq (ET (C i).prog (C i).w) (C i).A (C i).env (C i).xe)(hi:QI C K tg iter it)(hg:QG C K none tg g)(hb:QSs C K body s1)(hs:∀i x,Fu iter (C i).env x=pure x:=by intro _ _;rfl):QS C K (.For tg iter body [] pos) (iI it g s1):=by
 obtain⟨wi,p,r⟩:=hi;obtain⟨tg',p1,r1,_⟩:=hg;obtain⟨tb,p',r'⟩:=hb;exact⟨_,λi=>qW (hp i) (ck.calm i) (p i) (p1 i) (p' i) (hs i),uh r r1 r'⟩
def cU{p:Pos}(ck:CK C P W K mg base k)(T:Bi mg)(ha:QA C K [a] ms)(hg:∀i,Gl (C i) "range" :=by intro _;rfl)(hs:bo a=false:=by rfl):QI C K tg (.Call (.Name "range" p) [a] [] pos) (cf ms):=by
 obtain⟨ta,q,_,r⟩:=ha;exact⟨_,λi=>oy (hg i) (by rw[ck.mg i];exact T.b_range) (q i) (by rw[aV hs];rfl),rM r⟩
def PI.or{X:Cx}{w1 w2:TI}(h1:PI X tg iter w1)(h2:PI X tg iter w2):PI X tg iter (λZ H R=>w1 Z H R\/w2 Z H R):=by
 intro Uq s Z H R I h;rcases h with h|h;exact h1 Uq s Z H R I h;exact h2 Uq s Z H R I h
abbrev gQ:R->Option (List R)
 | ⟨_,.li is⟩=>some (is.map λi=>⟨.ow,.im i⟩)
 | ⟨.vw ro _,.lst ts⟩=>some (ts.map (partV ro))
 | ⟨_,.im (.tup is)⟩=>some (is.map λi=>⟨.ow,.im i⟩)
 | ⟨_,.im (.str z)⟩=>some ((sL z).map λc=>⟨.ow,.im (.str ⟨#[c]⟩)⟩)
 | ⟨_,.im (.ls is)⟩=>some (is.map λi=>⟨.ow,.im i⟩)
 | _=>none
private def mIt(a:ME):MI:=⟨λO=>match a.run O with
 | some (r,O1)=>(match gQ r with
  | some rs=>some (([r],rs),O1)
  | none=>none)
 | none=>none,a.mu⟩
def uO{Γ:Gm}{z:Str}{v:V}{src:R}:el Γ (Its z) [v] [src] ((sL z).map λc=>⟨.ow,.im (.str ⟨#[c]⟩)⟩):=λH O Z E S=>by
 apply⟨λi hi=>?_,λi r hr=>?_⟩
 ·show z.cps.size<=i;simpa[sL]using hi
 ·obtain⟨c,hc,rfl⟩:=bW hr;have hc':z.cps[i]?=some c:=by simpa[sL]using hc
  apply⟨?_,λx H' y=>?_⟩
  ·show i<z.cps.size;exact(Array.getElem?_eq_some_iff.mp hc').1
  ·obtain⟨rfl,c',h1,rfl⟩:=y;rw[hc']at h1;cases h1;exact S.imm (iw rfl)
def xT{ta:TE}(ha:aP K ta m):kj K (λZ H R=>kC K ta Z H R\/(sU K ta Z H R\/zd ta Z H R)) (mIt m):=by unhygienic
 intro Γ H O Z E Rr src items O' hK hr S q;dsimp[mIt]at hr;split at hr
 ·delta r O1 e1;split at hr
  ·delta rs e2;cases hr;unfold gQ at e2;split at e2
   ·delta k0 is;exact .inl (j1 ha Γ H O Z E Rr _ items O' hK (by dsimp[pY,e1,eA];cases e2;rfl) S q)
   ·exact .inl (j1 ha Γ H O Z E Rr _ items O' hK (by dsimp[pY,e1,eA];cases e2;rfl) S q)
   ·exact .inr (.inl (um ha Γ H O Z E Rr _ items O' hK (by dsimp[wD,e1,gR];cases e2;rfl) S q))
   ·delta k0 z;cases e2;right;right;apply ha Γ H O Z E _ _ _ hK e1 S λx H1 S1=>?_;exact⟨z,cv (S1.rd ymS),q Γ rfl (λ_ _ _ _ S=>S) _ [x] H1 rfl S1 uO⟩
   ·exact .inl (j1 ha Γ H O Z E Rr _ items O' hK (by dsimp[pY,e1,eA];cases e2;rfl) S q)
   ·cases e2
  ·cases hr
 ·cases hr
def xG(ck:CK C P W K mg base k)(ha:QE C K iter m):QI C K tg iter (mIt m):=by
 obtain⟨ta,q,r⟩:=ha;exact⟨_,λi=>PI.or (ilK (ck.kk i) (q i)) (PI.or (itK (ck.kk i) (q i)) (tY (q i))),xT r⟩
private def mYes:MT:=⟨λO=>some (true,O),[]⟩
def uw:eg K An mYes:=by unhygienic
 intro Γ H O Z E Q b O' hK hr S q;cases hr;exact q H (by rw[show mYes.mu=[]from rfl,bj];exact S)
def e8:QTs C K [] mYes:=⟨_,λ_=>t9,uw⟩
section
variable {elt tg2 iter2:Expr}{ifs:List Expr}{scope:FL}
def jW{N':List Str}{f:List (Option Nat)}(ck:CK C P W K mg base k)(hB:∀i,Blk (C i).env.scope scope (C i).N N' f)(hi:QI C K tg iter it)(hg:QG (lq C scope N') K (some f) tg g)(ht:QTs (lq C scope N') K ifs mt)(he:QE (lq C scope N') K elt m)(hs:∀i x,Fu iter (C i).env x=pure x:=by intro _ _;rfl) :
  QE C K (.ListComp elt [⟨tg,iter,ifs,0⟩] scope pos) (ce f it g mt m):=by
 obtain⟨wi,p0,r0⟩:=hi;obtain⟨gg,p1,r1,kk⟩:=hg;obtain⟨tt,p2,r2⟩:=ht;obtain⟨te,p3,r3⟩:=he;exact⟨_,λi=>tQ (ck.calm i) (hB i) (p0 i) (λb=>p1 (i,b)) (kk f rfl) (λb=>p2 (i,b)) (λb=>p3 (i,b)) (hs i),kZ r0 (kk f rfl) r1 r2 r3⟩
def lS(n:Nat){x:Str}{pos' spos:Pos}{N':List Str}{f:List (Option Nat)}(ck:CK C P W K mg base k)(hN:∀i,(C i).N.Nodup)(hB:∀i,Blk (C i).env.scope scope (C i).N N' f)(hi:QI C K tg iter it)(hg:QG (lq C scope N') K (some f) tg g)(ht:QTs (lq C scope N') K ifs mt)(he:QE (lq C scope N') K elt m)(hn:∀i,(C i).N[n]?=some x:=by intro _;rfl)(hx:∀i,(C i).env.scope.names.lookup x=some .local:=by intro _;rfl)
  (hsw:∀i,F9 (.ListComp elt [⟨tg,iter,ifs,0⟩] scope pos) (some (.Name x pos')) spos.line (C i).env=pure true:=by intro _;rfl) (hs:∀i x,Fu iter (C i).env x=pure x:=by intro _ _;rfl) :
  QS C K (.Assign [.Name x pos'] (.ListComp elt [⟨tg,iter,ifs,0⟩] scope pos) spos) (aZ (ce f it g mt m) (ax n)):=by
 obtain⟨wi,p0,r0⟩:=hi;obtain⟨gg,p1,r1,kk⟩:=hg;obtain⟨tt,p2,r2⟩:=ht;obtain⟨te,p3,r3⟩:=he;exact⟨_,λi=>lQ (ck.calm i) (hN i) (hn i) (hx i) (hB i) (p0 i) (λb=>p1 (i,b)) (kk f rfl) (λb=>p2 (i,b)) (λb=>p3 (i,b)) (hsw i) (hs i),j0 (kZ r0 (kk f rfl) r1 r2 r3) ik⟩
end
end
structure DI(k:Nat)(name:Str)(st:Stmt) where
 f:Addr
 cdv:EK
 A:Fa
 outer:List Env
 s:EM
 H:Hp
 E:XK
 hr:Eh k (A.deeper (Gg name (ae st) s.heap.objs.size f cdv))
noncomputable abbrev dC(P:EU) (W:E4) (K:yF) (mg:Str->Option EK) (base:Heap) (k:Nat) (N:List Str) (name:Str) (st:Stmt):DI k name st->Cx:=λd=>(eN CX0 P W K mg base N name (ae st) d.f d.cdv d.A d.outer d.s d.H d.E).nox
def aa{N:List Str}{name:Str}{st:Stmt}:CK (dC P W K mg base k N name st) P W K mg base k:=
 ⟨λ_=>rfl,λ_=>rfl,λ_=>rfl,λ_=>rfl,λ_=>rfl,λ_=>rfl,λd=>d.hr⟩
def Def.qp{name:Str}{st:Stmt}{N ps:List Str}(d:Def K mg name st ps)(S:vx N ps (ae st)){m:MS}(h:QSs (dC P W K mg base k N name st) K (aE st) m)
  {run:List T->Option T} (hrun:∀ts,run ts=if ts.length=ps.length then fR m N.length ts else none):Has P W K mg base (k+1) name ps (spP K run):=by
 obtain⟨t,p,r⟩:=h;exact d.mp S (λf cdv A outer s H E hr=>⟨t,p ⟨f,cdv,A,outer,s,H,E,hr⟩,r⟩) hrun
def Def.qi{name:Str}{st:Stmt}{N ps:List Str}{j:Nat}(d:Def K mg name st ps)(S:vx N ps (ae st)){m:MS}(h:QSs (dC P W K mg base k N name st) K (aE st) m)
  {run:List T->Option (T×T)} (hrun:∀ts,run ts=if ts.length=ps.length then j5 m j N.length ts else none):Has P W K mg base (k+1) name ps (spI K j run):=by
 obtain⟨t,p,r⟩:=h;exact d.mi S (λf cdv A outer s H E hr=>⟨t,p ⟨f,cdv,A,outer,s,H,E,hr⟩,r⟩) hrun
section
variable {Γ:Gm}{H H':Hp}{L:List Hd}{O:Rho}{Z:St}{E X:List En}{v w x y:V}{t s:T}{K:yF}{Q:VK}
abbrev cO(k:Nat):List I->List R
 | []=>[]
 | i::is=>⟨.ow,.im (.tup [.int k,i])⟩::cO (k+1) is
def cP:∀{is:List I} {k i:Nat},(cO k is)[i]?=(is[i]?).map λx=>⟨.ow,.im (.tup [.int ((k+i:Nat):Int),x])⟩
 | [],k,i=>by simp[cO]
 | x::is,k,0=>by simp[cO]
 | x::is,k,i+1=>by
  rw[cO,BM,BM,cP,show k+1+i=k+(i+1) by omega]
def iU:∀{is:List I} {k:Nat},(cO k is).length=is.length
 | [],_=>rfl
 | _::is,k=>by rw[cO,Bf,iU,Bf]
end
variable {ι : Type}{C:ι->Cx}{P:EU}{W:E4}{K:yF}{mg:Str->Option EK}{base:Heap}{k:Nat}
section
variable {Γ:Gm}{H H':Hp}{O:Rho}{Z:St}{E:List En}{v w x y:V}{t s:T}{K:yF}{Q:VK}
private def ao(n:Nat)(ms:MA):MA:=⟨λO=>match ms.run O with
 | some (rs,O2)=>(match O2[n]? with
  | some (some r)=>(match O[n]? with
   | some (some _)=>some (rdR n r::rs,O2)
   | _=>none)
  | _=>none)
 | none=>none,ms.mu⟩
def oH{n:Nat}{ta:TA}{ms:MA}(h2:dY K ta ms):dY K (lg (l4 n) ta) (ao n ms):=by unhygienic
 intro Γ H O Z E Q rs O' hK hr S q;dsimp[ao]at hr;split at hr
 ·delta rs1 O2 e2;split at hr
  ·delta r e3;split at hr
   ·delta r0 e4;cases hr;obtain⟨v,hv,_⟩:=S.var e4;apply⟨v,hv,?_⟩;apply h2 Γ H O Z E _ rs1 _ hK e2 S λvs H2 hl S2=>q (v::vs) H2 (by rw[Bf,Bf,hl]) ?_;obtain⟨v',hv',S3⟩:=S2.var e3;rw[hv]at hv';cases hv';exact S3
   ·cases hr
  ·cases hr
 ·cases hr
end
variable {ι : Type}{C:ι->Cx}{P:EU}{W:E4}{K:yF}{mg:Str->Option EK}{base:Heap}{k:Nat}
section
variable {a b c e o tg iter:Expr}{es:List Expr}{ma mb mc m mo mi ml mh:ME}{ms:MA}{pos:Pos}{mt mt':MT}{s1 s2:MS}{g g':MG}{gs:MGs}{it it2:MI}{fr:Option (List (Option Nat))}
def aj(n:Nat){x:Str}{p:Pos}(h2:QA C K es ms)(hN:∀i,(C i).N[n]?=some x:=by intro _;rfl)(hv:∀i,Vis (C i).env.scope x:=by first|exact λ_=>E8 rfl|exact λ_=>EX (E8 rfl)|exact λ_=>EX (EX rfl))(hd:(x==("__debug__" : Str))=false:=by decide)(hcd:(x==("__classdict__" : Str))=false:=by decide):QA C K (.Name x p::es) (ao n ms):=by
 obtain⟨ta,c,n',d⟩:=h2;exact⟨_,λi=>b6 (bS (hN i) (hv i) hd hcd) (c i) rfl,by rw[aT,n'];rfl,oH d⟩
end
variable {ι : Type}{C:ι->Cx}{P:EU}{W:E4}{K:yF}{mg:Str->Option EK}{base:Heap}{k:Nat}
section
variable {Γ:Gm}{H:Hp}{O:Rho}{Z:St}{E:List En}
abbrev fgt(i:Nat) (O:Rho):Rho:=(au [i] O).set i none
def Sim.fgt(S:Sim Γ H O Z E)(i:Nat):Sim Γ H (L2.fgt i O) Z (af [i] E):=by
 have S1:=S.kill [i];unfold L2.fgt;cases h:(au [i] O)[i]? with
 | none=>rw[List.set_eq_of_length_le (by exists h)];exact S1
 | some o=>
  cases o with
  | none=>
   have:(au [i] O).set i none=au [i] O:=by
    apply Cu;intro j;by_cases e:i=j
    ·subst e;have hl:=(Bb.mp h).1;rw[BR hl,h]
    ·rw[Bn e]
   rw[this];exact S1
  | some r=>
   obtain⟨v,hv⟩:=S1.al i r h;have p:=aX (k:=0) hv h;have SL:Eb Γ H (⟨some (0+i),v,r⟩::(af [i] E++az 0 Z ((au [i] O).set i none))):=S1.sl.perm ((List.Perm.append_left _ p).trans BD);obtain⟨L,g,e⟩:=SL;obtain⟨x,L',rfl,ex,eL⟩:=ay e;have hno:∀y∈af [i] E++az 0 Z (au [i] O),y.r.k.root≠some i:=by
    rw[cN,<-aF];exact g9 ∅
   apply⟨⟨L',g.dropK λy hy j hj hr=>?_,eL⟩,λm r' hm=>?_,by rw[CB];exact S1.len,λy hy j hj=>by rw[CB];exact S1.hi y hy j hj⟩
   ·rw[ex]at hj;have:j=i:=by exists hj.symm
    subst this;have:y.e∈L'.map (·.e):=Bm.mpr ⟨y,hy,rfl⟩;rw[eL]at this;have hp:=(List.Perm.append_left (af [j] E) p).trans BD;exact hno y.e (hp.mem_iff.mpr (ymC _ this)) hr
   ·by_cases e:i=m
    ·subst e;rw[BR (Bb.mp h).1]at hm;cases hm
    ·rw[Bn e]at hm;exact S1.al m r' hm
abbrev fgts:List Nat->Rho->Rho
 | [],O=>O
 | i::ks,O=>fgts ks (fgt i O)
def Sim.fgts:∀{ks:List Nat} {O:Rho} {E:List En},Sim Γ H O Z E->Sim Γ H (L2.fgts ks O) Z (af ks E)
 | [],O,E,S=>by rw[bj];exact S
 | i::ks,O,E,S=>by
  have:=Sim.fgts (ks:=ks) (S.fgt i);rw[ag]at this;exact this
private def gU(ks:List Nat)(s:MS):MS:=⟨λO=>match s.run O with
 | some (.nx,O1)=>some (.nx,fgts ks O1)
 | some (.ct,O1)=>some (.ct,fgts ks O1)
 | some (.rt t,O1)=>some (.rt t,O1)
 | some (.bk,O1)=>some (.bk,O1)
 | none=>none,s.mu++ks⟩
def ug{ks:List Nat}{ts:TS}{s:MS}(h:cY K ts s):cY K ts (gU ks s):=by
 intro Γ H O Z E D f O' hK hE hr S q;dsimp[gU]at hr q;split at hr
 ·delta O1 e1;cases hr;exact h Γ H O Z E D _ _ hK hE e1 S λZ' H' S'=>q Z' H' (by rw[<-ag];exact S'.fgts)
 ·delta O1 e1;cases hr;exact h Γ H O Z E D _ _ hK hE e1 S λZ' H' S'=>q Z' H' (by rw[<-ag];exact S'.fgts)
 ·delta t O1 e1;cases hr;exact h Γ H O Z E D _ _ hK hE e1 S q.weak
 ·delta O1 e1;cases hr;exact h Γ H O Z E D _ _ hK hE e1 S q.weak
 ·cases hr
def jX(ks:List Nat){st:List Stmt}{s:MS}(h:QSs C K st s):QSs C K st (gU ks s):=by
 obtain⟨t,p,r⟩:=h;exact⟨t,p,ug r⟩
end
structure W1{α:Type}(o:Option α)(Q : α->Prop):Prop where
 ex:∃x,o=some x/\Q x
structure W2{α β:Type}(o:Option (α × β))(Q : α->β->Prop):Prop where
 ex:∃x y,o=some (x,y)/\Q x y
structure WE(m:ME)(O:Rho)(Q:R->Rho->Prop):Prop where
 ex:∃x y,m.run O=some (x,y)/\Q x y
structure WT(m:MT)(O:Rho)(Q:Bool->Rho->Prop):Prop where
 ex:∃x y,m.run O=some (x,y)/\Q x y
structure WA(m:MA)(O:Rho)(Q:List R->Rho->Prop):Prop where
 ex:∃x y,m.run O=some (x,y)/\Q x y
structure WS(m:MS)(O:Rho)(Q:Fl->Rho->Prop):Prop where
 ex:∃x y,m.run O=some (x,y)/\Q x y
structure WG(m:MG)(r:R)(O:Rho)(Q:Rho->Prop):Prop where
 ex:∃x,m.run r O=some x/\Q x
structure WGs(m:MGs)(rs:List R)(O:Rho)(Q:Rho->Prop):Prop where
 ex:∃x,m.run rs O=some x/\Q x
structure WI(m:MI)(O:Rho)(Q:List R->List R->Rho->Prop):Prop where
 ex:∃r rs O',m.run O=some ((r,rs),O')/\Q r rs O'
structure WO(m:MO)(O:Rho)(Q:Option Int->Rho->Prop):Prop where
 ex:∃x y,m.run O=some (x,y)/\Q x y
structure Gu(b:Bool)(P:Prop):Prop where
 ex:b=true/\P
structure IsB(t:T)(Q:Bool->Prop):Prop where
 ex:∃b,t=.im (.bl b)/\Q b
structure IsN(t:T)(Q:Int->Prop):Prop where
 ex:∃n,t=.im (.int n)/\Q n
structure AtV(n:Nat)(O:Rho)(Q:R->Prop):Prop where
 ex:∃r,O[n]?=some (some r)/\Q r
structure AtC(k j:Nat)(rs:List R)(O:Rho)(Q:List Ac->Kd->T->Prop):Prop where
 ex:∃p t1 kd t0,rs[k]?=some ⟨.vw (some j) (some p),t1⟩/\((BL rs.length).all λm=>decide (m=k)||aC [j] (rs.getD m ⟨.ow,.im .non⟩))=true/\O[j]?=some (some ⟨kd,t0⟩)/\kd.isOw=true/\Q p kd t0
structure AtT(k:Nat)(rs:List R)(P:Prop):Prop where
 ex:∃t1,rs[k]?=⇑t1/\P
structure AtM(l:Nat)(O:Rho)(Q:Kd->T->Prop):Prop where
 ex:∃k t,O[l]?=some (some ⟨k,t⟩)/\k.isOw=true/\Q k t
structure AtS(j:Nat)(r:R)(Q:List Ac->T->Prop):Prop where
 ex:∃p s,r=⟨.vw (some j) (some p),s⟩/\Q p s
structure Two(rs:List R)(Q:R->R->Prop):Prop where
 ex:∃r1 r2,rs=[r1,r2]/\Q r1 r2
structure Three(rs:List R)(Q:R->R->R->Prop):Prop where
 ex:∃r1 r2 r3,rs=[r1,r2,r3]/\Q r1 r2 r3
structure EH(rs:List R)(Q:Int->Prop):Prop where
 ex:∃n,rs.map (·.t)=[.im (.int n)]/\Q n
structure Int2(rs:List R)(Q:Int->Int->Prop):Prop where
 ex:∃m n,rs.map (·.t)=[.im (.int m),.im (.int n)]/\Q m n
def AR{b:Bool}{Q:Bool->Prop}(q:Q b):IsB (.im (.bl b)) Q:=⟨b,rfl,q⟩
def AS{n:Int}{Q:Int->Prop}(q:Q n):IsN (.im (.int n)) Q:=⟨n,rfl,q⟩
def oW{n:Nat}{O:Rho}{r:R}{Q:R->Prop}(h : O[n]?=some (some r))(q:Q r):AtV n O Q:=⟨r,h,q⟩
def yO{k j:Nat}{rs:List R}{O:Rho}{p:List Ac}{t1 t0:T}{kd:Kd}{Q:List Ac->Kd->T->Prop}(h1:rs[k]?=some ⟨.vw (some j) (some p),t1⟩)(h2:((BL rs.length).all λm=>decide (m=k)||aC [j] (rs.getD m ⟨.ow,.im .non⟩))=true)(h3 : O[j]?=some (some ⟨kd,t0⟩))(h4:kd.isOw=true)(q:Q p kd t0):AtC k j rs O Q:=⟨p,t1,kd,t0,h1,h2,h3,h4,q⟩
def AI{l:Nat}{O:Rho}{k:Kd}{t:T}{Q:Kd->T->Prop}(h : O[l]?=some (some ⟨k,t⟩))(ho:k.isOw=true)(q:Q k t):AtM l O Q:=⟨k,t,h,ho,q⟩
def AJ{j:Nat}{p:List Ac}{s:T}{Q:List Ac->T->Prop}(q:Q p s):AtS j ⟨.vw (some j) (some p),s⟩ Q:=⟨p,s,rfl,q⟩
def yc{r1 r2:R}{Q:R->R->Prop}(q:Q r1 r2):Two [r1,r2] Q:=⟨r1,r2,rfl,q⟩
def mK{rs:List R}{n:Int}{Q:Int->Prop}(h:rs.map (·.t)=[.im (.int n)])(q:Q n):EH rs Q:=⟨n,h,q⟩
section
variable {α β:Type}{O:Rho}{a b c m:ME}{ms:MA}{ct ct':MT}{s1 s2:MS}{g:MG}{gs:MGs}{it:MI}{QE':R->Rho->Prop}{QT':Bool->Rho->Prop}{QA':List R->Rho->Prop}{Q:Fl->Rho->Prop}{QG':Rho->Prop}{P:Prop}{o:Option α}{x : α}{Q1 : α->Prop}
def W2.mono{o:Option (α × β)}{Q1 Q2 : α->β->Prop}(h:W2 o Q1)(k:∀x y,Q1 x y->Q2 x y):W2 o Q2:=by obtain⟨x,y,e,q⟩:=h;exact⟨x,y,e,k x y q⟩
def w1(h:o=some x)(q:Q1 x):W1 o Q1:=⟨x,h,q⟩
def gu{b:Bool}(h:b=true)(p:P):Gu b P:=⟨h,p⟩
def WS.mono{Q2:Fl->Rho->Prop}(h:WS s1 O Q)(k:∀f O,Q f O->Q2 f O):WS s1 O Q2:=by obtain⟨x,y,e,q⟩:=h;exact⟨x,y,e,k x y q⟩
def WG.mono{r:R}{Q1 Q2:Rho->Prop}(h:WG g r O Q1)(k:∀O,Q1 O->Q2 O):WG g r O Q2:=by obtain⟨x,e,q⟩:=h;exact⟨x,e,k x q⟩
def WA.mono{Q1 Q2:List R->Rho->Prop}(h:WA ms O Q1)(k:∀rs O,Q1 rs O->Q2 rs O):WA ms O Q2:=by obtain⟨x,y,e,q⟩:=h;exact⟨x,y,e,k x y q⟩
def WE.mono{Q2:R->Rho->Prop}(h:WE m O QE')(k:∀f O,QE' f O->Q2 f O):WE m O Q2:=by obtain⟨x,y,e,q⟩:=h;exact⟨x,y,e,k x y q⟩
def w_C{i:I}(q:QE' ⟨.ow,.im i⟩ O):WE (mC i) O QE':=by unhygienic exact⟨_,_,rfl,q⟩
def gm{n:Nat}{r:R}(h : O[n]?=some (some r))(q:QE' (rdR n r) O):WE (av n) O QE':=⟨rdR n r,O,by dsimp[av,h],q⟩
def l9{f:T->T->Option T}(h:WE a O λra O1=>WE b O1 λrb O2=>Gu (aC b.mu ra) (W1 (f ra.t rb.t) λt=>QE' ⟨.ow,t⟩ O2)):WE (mOp f a b) O QE':=by
 obtain⟨ra,O1,e1,rb,O2,e2,al,t,e3,q⟩:=h;exact⟨⟨.ow,t⟩,O2,by dsimp[mOp,e1,e2,al,if_true,e3],q⟩
def A7{f:T->Option T}(h:WE a O λra O1=>W1 (f ra.t) λt=>QE' ⟨.ow,t⟩ O1):WE (mUn f a) O QE':=by
 obtain⟨ra,O1,e1,t,e3,q⟩:=h;exact⟨⟨.ow,t⟩,O1,by dsimp[mUn,e1,e3],q⟩
def w_B{f:List T->Option T}(h:WA ms O λrs O1=>W1 (f (rs.map (·.t))) λt=>QE' ⟨.ow,t⟩ O1):WE (mB f ms) O QE':=by
 obtain⟨ra,O1,e1,t,e3,q⟩:=h;exact⟨⟨.ow,t⟩,O1,by dsimp[mB,e1,e3],q⟩
def w_M{f:T->List T->Option T}(h:WE a O λra O1=>WA ms O1 λrs O2=>Gu (aC ms.mu ra) (W1 (f ra.t (rs.map (·.t))) λt=>QE' ⟨.ow,t⟩ O2)):WE (mM f a ms) O QE':=by
 obtain⟨ra,O1,e1,rb,O2,e2,al,t,e3,q⟩:=h;exact⟨⟨.ow,t⟩,O2,by dsimp[mM,e1,e2,al,if_true,e3],q⟩
def yp(h:WE a O λra O1=>WE b O1 λrb O2=>Gu (aC b.mu ra) (W1 (ixR ra rb.t) λr=>QE' r O2)):WE (mIx a b) O QE':=by
 obtain⟨ra,O1,e1,rb,O2,e2,al,r,e3,q⟩:=h;exact⟨r,O2,by dsimp[mIx,e1,e2,al,if_true,e3],q⟩
def uS{QO':Option Int->Rho->Prop}(q:QO' none O):WO mNoPart O QO':=by unhygienic exact⟨_,_,rfl,q⟩
def uT{QO':Option Int->Rho->Prop}(h:WE a O λr O1=>IsN r.t λn=>QO' (some n) O1):WO (gX a) O QO':=by
 obtain⟨⟨k,t⟩,O1,e1,n,e2,q⟩:=h;cases e2;exact⟨some n,O1,by dsimp[gX,e1],q⟩
def A5{lo hi:MO}(h:WE a O λra O1=>WO lo O1 λl O2=>WO hi O2 λu O3=>Gu (aC (lo.mu++hi.mu) ra) (W1 (slR ra l u) λr=>QE' r O3)):WE (mSl a lo hi) O QE':=by
 obtain⟨ra,O1,e1,l,O2,e2,u,O3,e3,al,r,e4,q⟩:=h;exact⟨r,O3,by dsimp[mSl,e1,e2,e3,al,if_true,e4],q⟩
def yj(h:WE a O λr O1=>IsB r.t λbb=>(bb=true->WE b O1 QE')/\(bb=false->QE' ⟨.ow,.im (.bl false)⟩ O1)):WE (ge a b) O QE':=by
 obtain⟨⟨k,t⟩,O1,e1,bb,e2,q1,q2⟩:=h;cases e2;cases bb with
 | true=>obtain⟨p,O2,e,q⟩:=q1 rfl;exact⟨p,O2,by dsimp[ge,e1,e],q⟩
 | false=>exact⟨_,_,by dsimp[ge,e1],q2 rfl⟩
def si{mv:List Nat}(h:WA ms O λrs O1=>Gu (decide (rs.length<=1000)) (W2 (consL mv rs O1) λts O2=>QE' ⟨.ow,bB ts⟩ O2)):WE (aW mv ms) O QE':=by
 obtain⟨rs,O1,e1,hl,ts,O2,e2,q⟩:=h;exact⟨⟨.ow,bB ts⟩,O2,by dsimp[aW,e1,if_pos (of_decide_eq_true hl),e2],q⟩
def sj{mv:List Nat}(h:WA ms O λrs O1=>Gu (decide (rs.length<=1000)) (W2 (consL mv rs O1) λts O2=>QE' ⟨.ow,i9 ts⟩ O2)):WE (dq mv ms) O QE':=by
 obtain⟨rs,O1,e1,hl,ts,O2,e2,q⟩:=h;exact⟨⟨.ow,i9 ts⟩,O2,by dsimp[dq,e1,if_pos (of_decide_eq_true hl),e2],q⟩
def nJ{k j:Nat}{run:List T->Option (T×T)}(h:WA ms O λrs O1=>AtC k j rs O1 λp kd t0=>W2 (run (rs.map (·.t))) λt s'=>QE' ⟨.ow,t⟩ ((au [j] O1).set j (some ⟨kd,t0.put p s'⟩))):WE (bw k j run ms) O QE':=by
 obtain⟨rs,O1,e1,p,t1,kd,t0,e2,al,e3,ow,t,s',e4,q⟩:=h;apply⟨⟨.ow,t⟩,(au [j] O1).set j (some ⟨kd,t0.put p s'⟩),?_,q⟩;dsimp[bw,e1];dsimp[e2];rw[if_pos (by rw[A9];exact⟨rfl,al⟩)];dsimp[e4,e3,ow,if_true]
def Av{l:Nat}{mv:List Nat}{f:T->List T->Option (T×I)}(h:WE a O λra O1=>WA ms O1 λrs O2=>Gu (aC ms.mu ra) (W2 (mutR l mv f ra rs O2) QE')):WE (lE l mv f a ms) O QE':=by
 obtain⟨ra,O1,e1,rs,O2,e2,al,p,O3,e3,q⟩:=h;exact⟨p,O3,by dsimp[lE,e1,e2,al,if_true,e3],q⟩
def yu{l:Nat}{mv:List Nat}{f:T->List T->Option (T×I)}{p:List Ac}{s:T}{rs:List R}{QQ:R->Rho->Prop}(hm:mv.contains l=false)(h:W2 (consL mv rs O) λts O2=>AtM l O2 λk t=>W2 (f s ts) λs' res=>QQ ⟨.ow,.im res⟩ ((au [l] O2).set l (some ⟨k,t.put p s'⟩))):W2 (mutR l mv f ⟨.vw (some l) (some p),s⟩ rs O) QQ:=by
 obtain⟨ts,O2,hc,k,t,ho,hk,s',res,e,q⟩:=h;apply⟨_,_,?_,q⟩;unfold mutR;dsimp[decide_true,hm,hc,e,ho,hk,Bool.not_false,Cs,if_true]
def kf(q:QA' [] O):WA mNil O QA':=by unhygienic exact⟨_,_,rfl,q⟩
def ke(h:WE m O λr O1=>WA ms O1 λrs O2=>Gu (aC ms.mu r) (QA' (r::rs) O2)):WA (ah m ms) O QA':=by
 obtain⟨ra,O1,e1,rb,O2,e2,al,q⟩:=h;exact⟨ra::rb,O2,by dsimp[ah,e1,e2,al,if_true],q⟩
def dO{n:Nat}{r0:R}(h0 : O[n]?=some (some r0))(h:WA ms O λrs O2=>AtV n O2 λr=>QA' (rdR n r::rs) O2):WA (ao n ms) O QA':=by
 obtain⟨rs,O2,e1,r,e2,q⟩:=h;exact⟨rdR n r::rs,O2,by dsimp[ao,e1,e2,h0],q⟩
def uU(h:WE a O λr O1=>IsB r.t λbb=>QT' bb O1):WT (a9 a) O QT':=by
 obtain⟨⟨k,t⟩,O1,e1,bb,e2,q⟩:=h;cases e2;exact⟨bb,O1,by dsimp[a9,e1],q⟩
def yH(h:WT ct O λbb O1=>QT' (!bb) O1):WT (jP ct) O QT':=by
 obtain⟨r,O1,e1,q⟩:=h;exact⟨_,_,by dsimp[jP,e1],q⟩
def AF(h:WT ct O λbb O1=>(bb=true->QT' true O1)/\(bb=false->WT ct' O1 QT')):WT (mOr ct ct') O QT':=by
 obtain⟨bb,O1,e1,q1,q2⟩:=h;cases bb with
 | false=>obtain⟨p,O2,e,q⟩:=q2 rfl;exact⟨p,O2,by dsimp[mOr,e1,e],q⟩
 | true=>exact⟨_,_,by dsimp[mOr,e1],q1 rfl⟩
def md(q:QT' true O):WT mYes O QT':=by unhygienic exact⟨_,_,rfl,q⟩
def uP{i:Nat}{r:R}(h:(cS O i&&aC [i] r)=true)(q:QG' ((au [i] O).set i (some r))):WG (ax i) r O QG':=⟨(au [i] O).set i (some r),by dsimp[ax,h,if_true],q⟩
def uQ(q:QG' O):WGs mGNil [] O QG':=by unhygienic exact⟨_,rfl,q⟩
def sq{r:R}{rs:List R}(al:rs.all (aC g.mu)=true)(h:WG g r O λO1=>WGs gs rs O1 QG'):WGs (cG g gs) (r::rs) O QG':=by
 obtain⟨O1,e1,O2,e2,q⟩:=h;exact⟨O2,by dsimp[cG,al,if_true,e1,e2],q⟩
def yE{r:R}{rs:List R}(hp:parts r=some rs)(h:WGs gs rs O QG'):WG (gW gs) r O QG':=by
 obtain⟨O2,e2,q⟩:=h;exact⟨O2,by dsimp[gW,hp,e2],q⟩
def yD{j:Nat}{tv:T}(h:WE a O λra O1=>WE b O1 λrb O2=>AtS j ra λp s=>Gu (!b.mu.contains j) (AtM j O2 λk t=>W1 (rS s rb.t tv) λs'=>QG' ((au [j] O2).set j (some ⟨k,t.put p s'⟩)))):WG (lF j a b) ⟨.ow,tv⟩ O QG':=by
 obtain⟨ra,O1,e1,rb,O2,e2,p,s,rfl,hm,k,t,e3,ow,s',e4,q⟩:=h;apply⟨_,?_,q⟩;dsimp[lF,e1,e2,hm,decide_true,Cs,if_true,e4,e3,ow]
def yv(q:Q .nx O):WS mNext O Q:=by unhygienic exact⟨_,_,rfl,q⟩
@[irreducible] def wg(b:MS)(Q:Fl->Rho->Prop):Fl->Rho->Prop
 | .nx,O=>WS b O Q
 | .rt t,O=>Q (.rt t) O
 | .bk,O=>Q .bk O
 | .ct,O=>Q .ct O
def AA(h:WS s1 O (wg s2 Q)):WS (aQ s1 s2) O Q:=by unhygienic
 obtain⟨f,O1,e1,q⟩:=h;cases f with
 | nx=>have q:WS s2 O1 Q:=q;obtain⟨p,O2,e,q⟩:=q;exact⟨p,O2,by dsimp[aQ,e1,e],q⟩
 | rt t=>exact⟨.rt t,O1,by dsimp[aQ,e1],q⟩
 | bk=>exact⟨.bk,O1,by dsimp[aQ,e1],q⟩
 | ct=>exact⟨.ct,O1,by dsimp[aQ,e1],q⟩
def cy(h:WT ct O λbb O1=>(bb=true->WS s1 O1 Q)/\(bb=false->WS s2 O1 Q)):WS (mIf ct s1 s2) O Q:=by
 obtain⟨bb,O1,e1,q1,q2⟩:=h;cases bb with
 | true=>obtain⟨p,O2,e,q⟩:=q1 rfl;exact⟨p,O2,by dsimp[mIf,e1,e],q⟩
 | false=>obtain⟨p,O2,e,q⟩:=q2 rfl;exact⟨p,O2,by dsimp[mIf,e1,e],q⟩
def yk(h:WE m O λ_ O1=>Q .nx O1):WS (i4 m) O Q:=by
 obtain⟨r,O1,e1,q⟩:=h;exact⟨.nx,O1,by dsimp[i4,e1],q⟩
def At(h:WE m O λr O1=>WG g r O1 λO2=>Q .nx O2):WS (aZ m g) O Q:=by
 obtain⟨r,O1,e1,O2,e2,q⟩:=h;exact⟨.nx,O2,by dsimp[aZ,e1,e2],q⟩
def Az(h:WE m O λr O1=>W2 (oN r O1) λt O2=>Q (.rt t) O2):WS (cH m) O Q:=by
 obtain⟨r,O1,e1,t,O2,e2,q⟩:=h;exact⟨.rt t,O2,by dsimp[cH,e1,e2],q⟩
def Ay{i j:Nat}(h:WA ms O λrs O1=>Two rs λr1 r2=>Gu (hJ r1&&hJ r2) (Gu (cS O1 i&&aC [i] r1&&aC [i] r2&&cS O1 j&&aC [j] r2) (Q .nx ((au [j] ((au [i] O1).set i (some r1))).set j (some r2))))):WS (mP i j ms) O Q:=by
 obtain⟨rs,O1,e1,r1,r2,rfl,hb,hc,q⟩:=h;apply⟨.nx,(au [j] ((au [i] O1).set i (some r1))).set j (some r2),?_,q⟩;rw[A9]at hb;dsimp[mP,tw,e1,Cr,D7,hb.1,hb.2,DZ,Cs,if_true,hc]
@[irreducible] def y4(ks:List Nat)(Q:Fl->Rho->Prop):Fl->Rho->Prop
 | .nx,O=>Q .nx (fgts ks O)
 | .ct,O=>Q .ct (fgts ks O)
 | .rt t,O=>Q (.rt t) O
 | .bk,O=>Q .bk O
def Au{ks:List Nat}(h:WS s1 O (y4 ks Q)):WS (gU ks s1) O Q:=by unhygienic
 obtain⟨f,O1,e1,q⟩:=h;cases f with
 | nx=>exact⟨_,_,by dsimp[gU,e1],q⟩
 | ct=>exact⟨_,_,by dsimp[gU,e1],q⟩
 | rt t=>exact⟨_,_,by dsimp[gU,e1],q⟩
 | bk=>exact⟨_,_,by dsimp[gU,e1],q⟩
abbrev sI(Inv:Nat->Rho->Prop)(i:Nat)(Q:Fl->Rho->Prop):Fl->Rho->Prop
 | .nx,O=>Inv (i+1) O
 | .ct,O=>Inv (i+1) O
 | .bk,O=>Q .nx O
 | .rt t,O=>Q (.rt t) O
def mI{items:List R}(Inv:Nat->Rho->Prop)(hs:∀i r O,items[i]?=some r->Inv i O->WG g r O λO1=>WS s1 O1 (sI Inv i Q))(he:∀O,Inv items.length O->Q .nx O):∀(l:List R) (i:Nat) (O:Rho),items.drop i=l->i<=items.length->Inv i O->W2 (c9 g.run s1.run l O) Q
 | [],i,O,hl,hi,hI=>by
  have:i=items.length:=by have:=congrArg CG hl;simp at this;omega
  subst this;exact⟨_,_,rfl,he O hI⟩
 | r::l,i,O,hl,hi,hI=>by
  have hr:items[i]?=some r:=by rw[<-DO,hl];rfl
  have hlt:=(Bb.mp hr).1;have hl':items.drop (i+1)=l:=by rw[<-DW,hl];rfl
  obtain⟨O1,e1,f,O2,e2,q⟩:=hs i r O hr hI;have k:=mI Inv hs he l (i+1) O2 hl' hlt;dsimp[c9,e1,e2];cases f with
  | nx=>exact k q
  | ct=>exact k q
  | bk=>exact⟨_,_,rfl,q⟩
  | rt t=>exact⟨_,_,rfl,q⟩
def sg(h:WI it O λsrc items O1=>Gu (src.all (aC (g.mu++s1.mu))&&items.all (aC (g.mu++s1.mu))) (∃Inv:Nat->Rho->Prop,Inv 0 O1/\(∀i r O,items[i]?=some r->Inv i O->WG g r O λO1=>WS s1 O1 (sI Inv i Q))/\∀O,Inv items.length O->Q .nx O)):WS (iI it g s1) O Q:=by
 obtain⟨src,items,O1,e1,al,Inv,h0,hs,he⟩:=h;obtain⟨p,O2,e,q⟩:=mI (Q:=Q) Inv hs he items 0 O1 rfl (B6 _) h0;exact⟨p,O2,by dsimp[iI,e1];rw[if_pos al];exact e,q⟩
def mq{M:List Nat}{items:List R}(h:∀r∈items,r.k=.ow):items.all (aC M)=true:=BC.mpr λr hr=>by unfold aC dn;rw[h r hr];rfl
def ym{i:Nat}(h:WA ms O λrs O1=>∃n:Int,rs.map (·.t)=[.im (.int n)]/\-(2^62)<=n/\n<2^62/\(∃Inv:Nat->Rho->Prop,Inv 0 O1/\(∀(j:Nat) O,(j:Int)<n->Inv j O->WG (ax i) (lU j) O λO1=>WS s1 O1 (sI Inv j Q))/\∀O,Inv n.toNat O->Q .nx O)):WS (iI (cf ms) (ax i) s1) O Q:=by
 obtain⟨rs,O1,e1,n,e2,h1,h2,Inv,h0,hs,he⟩:=h;apply sg ⟨[ue],j4 0 n.toNat,O1,by dsimp[cf,e1,e2,l1,isI];rw[if_pos ⟨h1,h2⟩],?_,Inv,h0,λj r O hr hI=>?_,λO hI=>he O (by simpa[j4]using hI)⟩
 ·rw[A9];exact⟨rfl,mq λr hr=>by obtain⟨x,_,rfl⟩:=Bm.mp hr;rfl⟩
 ·obtain⟨x,hx,rfl⟩:=bW hr;obtain⟨a1,a2⟩:=Bb.mp hx;simp at a1 a2;subst a2;have:=hs j O ⋯ hI;rw[D8];exact this
def gG{fr:List (Option Nat)}{M:List Nat}{items:List R}{QC:List T->Rho->Prop}(Inv:Nat->List T->Rho->Prop)
  (hs:∀i r acc O,items[i]?=some r->Inv i acc O->WG g (iL (piF fr) r) (inR fr O) λO1=>WT ct O1 λbb O2=>(bb=true->WE m O2 λr O3=>∃t,r=⟨.ow,t⟩/\Inv (i+1) (acc++[t]) (du fr M O3 O))/\(bb=false->Inv (i+1) acc (du fr M O2 O)))
  (he:∀acc O,Inv items.length acc O->QC acc O):∀(l:List R) (i:Nat) (acc:List T) (O:Rho),items.drop i=l->i<=items.length->Inv i acc O->W2 (bF fr M g ct m l O acc) QC
 | [],i,acc,O,hl,hi,hI=>by
  have:i=items.length:=by have:=congrArg CG hl;simp at this;omega
  subst this;exact⟨_,_,rfl,he acc O hI⟩
 | r::l,i,acc,O,hl,hi,hI=>by
  have hr:items[i]?=some r:=by rw[<-DO,hl];rfl
  have hlt:=(Bb.mp hr).1;have hl':items.drop (i+1)=l:=by rw[<-DW,hl];rfl
  obtain⟨O1,e1,bb,O2,e2,q1,q2⟩:=hs i r acc O hr hI;cases bb with
  | true=>
   obtain⟨r',O3,e3,t,rfl,q⟩:=q1 rfl;dsimp[bF,e1,e2,e3];exact gG Inv hs he l (i+1) _ _ hl' hlt q
  | false=>
   dsimp[bF,e1,e2];exact gG Inv hs he l (i+1) _ _ hl' hlt (q2 rfl)
def sd{fr:List (Option Nat)} (h:WI it O λsrc items O1=>Gu (eP fr O1.length&&gc (g.mu++(ct.mu++m.mu)) fr.length&&src.all (aC (muF fr (g.mu++(ct.mu++m.mu))))) (items.length<sizeLine/\∃Inv:Nat->List T->Rho->Prop,Inv 0 [] O1 /\
  (∀i r acc O,items[i]?=some r->Inv i acc O->WG g (iL (piF fr) r) (inR fr O) λO1=>WT ct O1 λbb O2=>(bb=true->WE m O2 λr O3=>∃t,r=⟨.ow,t⟩/\Inv (i+1) (acc++[t]) (du fr (g.mu++(ct.mu++m.mu)) O3 O))/\(bb=false->Inv (i+1) acc (du fr (g.mu++(ct.mu++m.mu)) O2 O))) /\
  ∀acc O,Inv items.length acc O->QE' ⟨.ow,bB acc⟩ O)):WE (ce fr it g ct m) O QE':=by
 obtain⟨src,items,O1,e1,al,hl,Inv,h0,hs,he⟩:=h;obtain⟨ts,O2,e,q⟩:=gG (QC:=λacc O=>QE' ⟨.ow,bB acc⟩ O) Inv hs he items 0 [] O1 rfl (B6 _) h0;apply⟨⟨.ow,bB ts⟩,O2,?_,q⟩;dsimp[ce,e1];rw[if_pos (by rw[A9];exact⟨al,decide_eq_true hl⟩)];dsimp[e]
def uR{QI':List R->List R->Rho->Prop}(h:WA ms O λrs O1=>∃n:Int,rs.map (·.t)=[.im (.int n)]/\(-(2^62)<=n/\n<2^62)/\QI' [ue] (j4 0 n.toNat) O1):WI (cf ms) O QI':=by
 obtain⟨rs,O1,e1,n,e2,h1,q⟩:=h;exact⟨_,_,_,by dsimp[cf,e1,e2,l1,isI];rw[if_pos h1],q⟩
def yG{QI':List R->List R->Rho->Prop}(h:WE m O λr O1=>W1 (gQ r) λrs=>QI' [r] rs O1):WI (mIt m) O QI':=by
 obtain⟨r,O1,e1,rs,e2,q⟩:=h;exact⟨[r],rs,O1,by dsimp[mIt,e1,e2],q⟩
end
section
variable {α β:Type}{O:Rho}{QT1:T->Prop}{QR:R->Prop}{QI1:T->I->Prop}{m:MS}{n k:Nat}{ts:List T}
@[irreducible] def fP(R:T->Prop):Fl->Rho->Prop
 | .rt t,_=>R t
 | .nx,_=>R (.im .non)
 | _,_=>False
@[irreducible] def fI(k:Nat)(R:T->T->Prop):Fl->Rho->Prop
 | .rt t,O=>∃s',O[k]?=some (some ⟨.io 0,s'⟩)/\R t s'
 | .nx,O=>∃s',O[k]?=some (some ⟨.io 0,s'⟩)/\R (.im .non) s'
 | _,_=>False
def ux{run:List T->Option T}{l:Nat}(hrun:run ts=if ts.length=l then fR m n ts else none)(hl:ts.length=l)(h:WS m (bT ts n) (fP QT1)):W1 (run ts) QT1:=by unhygienic
 rw[hrun,if_pos hl];obtain⟨f,O,e,q⟩:=h;cases f with
 | nx=>exact⟨_,by dsimp[fR,e],q⟩
 | rt t=>exact⟨_,by dsimp[fR,e],q⟩
 | bk=>cases q
 | ct=>cases q
def nA{run:List T->Option (T×T)}{l:Nat}{Q2:T->T->Prop}(hrun:run ts=if ts.length=l then j5 m k n ts else none)(hl:ts.length=l)(h:WS m (df k ts n) (fI k Q2)):W2 (run ts) Q2:=by unhygienic
 rw[hrun,if_pos hl];obtain⟨f,O,e,q⟩:=h;cases f with
 | nx=>have q:∃s',O[k]?=some (some ⟨.io 0,s'⟩)/\Q2 (.im .non) s':=q;obtain⟨s',e2,q⟩:=q;exact⟨_,_,by dsimp[j5,e,e2],q⟩
 | rt t=>have q:∃s',O[k]?=some (some ⟨.io 0,s'⟩)/\Q2 t s':=q;obtain⟨s',e2,q⟩:=q;exact⟨_,_,by dsimp[j5,e,e2],q⟩
 | bk=>cases q
 | ct=>cases q
variable {a b:Int}{s z:Str}{is js:List I}{i j:I}
def wZ(q:QT1 (.im (.int (a+b)))):W1 (bP (.im (.int a)) (.im (.int b))) QT1:=by unhygienic exact⟨_,rfl,q⟩
def jT(h:s.length+z.length<=sizeLine)(q:QT1 (.im (.str (s++z)))):W1 (bP (.im (.str s)) (.im (.str z))) QT1:=by unhygienic exact⟨_,if_pos h,q⟩
def lL(h:is.length+js.length<=sizeLine)(q:QT1 (.li (is++js))):W1 (bP (.li is) (.li js)) QT1:=by unhygienic exact⟨_,if_pos h,q⟩
def zB(q:QT1 (.im (.int (a-b)))):W1 (oO (.im (.int a)) (.im (.int b))) QT1:=by unhygienic exact⟨_,rfl,q⟩
def AV(h1 : -(2^64)<a)(h2:a<2^64):gf a b=true:=by unfold gf;dsimp[h1,h2,decide_true,Cs,Bool.true_or]
def AW(h1 : -(2^64)<b)(h2:b<2^64):gf a b=true:=by unfold gf;dsimp[h1,h2,decide_true,Cs,Dc]
def vg(h:gf a b=true)(q:QT1 (.im (.int (a*b)))):W1 (dZ (.im (.int a)) (.im (.int b))) QT1:=by unhygienic exact⟨_,if_pos h,q⟩
def qr(h : -(2^63)<=b/\b<2^63/\is.length*b.toNat<=sizeLine)(q:QT1 (.li (Bc b.toNat is).flatten)):W1 (dZ (.li is) (.im (.int b))) QT1:=by unhygienic exact⟨_,if_pos h,q⟩
def w8(h:0<b/\b<2^64)(q:QT1 (.im (.int (a / b)))):W1 (iW (.im (.int a)) (.im (.int b))) QT1:=by unhygienic exact⟨_,if_pos h,q⟩
def vf(h:0<b)(q:QT1 (.im (.int (a % b)))):W1 (eW (.im (.int a)) (.im (.int b))) QT1:=by unhygienic exact⟨_,if_pos h,q⟩
def qs(h:0<=b/\b<=1000000/\a.natAbs<2^64)(q:QT1 (.im (.int (a^b.toNat)))):W1 (lP (.im (.int a)) (.im (.int b))) QT1:=by unhygienic exact⟨_,if_pos h,q⟩
def zA(q:QT1 (.im (.int (-a)))):W1 (om (.im (.int a))) QT1:=by unhygienic exact⟨_,rfl,q⟩
def zw{p:Int->Int->Bool}(q:QT1 (.im (.bl (p a b)))):W1 (iH p (.im (.int a)) (.im (.int b))) QT1:=by unhygienic exact⟨_,rfl,q⟩
def zx(q:QT1 (.im (.bl (decide (a=b))))):W1 (eqT (.im (.int a)) (.im (.int b))) QT1:=by unhygienic exact⟨_,rfl,by simpa using q⟩
def ze(h:i.dok=true/\I.doks is=true/\I.deps is<=50):inB (.im i) (.im (.tup is))=some (decide (i∈is)):=by cases i<;>exact if_pos h
def zy(h:i.dok=true/\I.doks is=true/\I.deps is<=50)(q:QT1 (.im (.bl (decide (i∈is))))):W1 (inT (.im i) (.im (.tup is))) QT1:=⟨_,by unfold inT;rw[ze h];rfl,q⟩
def xc(h:s.length<=sizeLine)(q:QT1 (.im (.int s.length))):W1 (jO [.im (.str s)]) QT1:=by unhygienic exact⟨_,if_pos h,q⟩
def xb(q:QT1 (.im (.int is.length))):W1 (jO [.li is]) QT1:=by unhygienic exact⟨_,rfl,q⟩
def xf(q:QT1 (.li is)):W1 (oh [.li is]) QT1:=by unhygienic exact⟨_,rfl,q⟩
def vY{xs:List α}{x : α}{n:Nat}{i:Int}(hi:i=n)(h:xs[n]?=some x):atI xs i=some x:=by
 subst hi;have:=(Bb.mp h).1;unfold atI ixN;rw[if_pos ⋯,if_pos ⋯];exists h
def ln{xs:List α}{i:Int}(h0:0<=i)(h1:i<xs.length):∃x,atI xs i=some x/\xs[i.toNat]?=some x:=by
 have:i.toNat<xs.length:=by omega
 exact⟨xs[i.toNat],vY (n:=i.toNat) ⋯ (CA this),CA this⟩
def kT{kd:Kd}{x:I}(h:atI is a=some x)(q:QR ⟨.ow,.im x⟩):W1 (ixR ⟨kd,.li is⟩ (.im (.int a))) QR:=⟨_,by dsimp[ixR,isI,ixX,ixI,h,B1],q⟩
def qm{kd:Kd}(h0:0<=a)(h1:a<is.length)(q:∀x,is[a.toNat]?=some x->QR ⟨.ow,.im x⟩):W1 (ixR ⟨kd,.li is⟩ (.im (.int a))) QR:=by
 obtain⟨x,h,h'⟩:=ln h0 h1;exact kT h (q x h')
def qq{kd:Kd}(hz:s.length<=sizeLine)(h0:0<=a)(h1:a<(sL s).length)(q:∀c,(sL s)[a.toNat]?=some c->QR ⟨.ow,.im (.str ⟨#[c]⟩)⟩):W1 (ixR ⟨kd,.im (.str s)⟩ (.im (.int a))) QR:=by
 obtain⟨x,h,h'⟩:=ln h0 h1;exact⟨_,by dsimp[ixR,isI,ixX,ixI,if_pos hz,h,B1],q x h'⟩
def dI{ro:Option Nat}{p:Option (List Ac)}{us:List T}{u:T}(h0:0<=a)(h1:us[a.toNat]?=some u)(hu:∀i,u ≠ .im i){kd:Kd}(hk:ixK (.vw ro p) (some (.ix a.toNat))=some kd)(q:QR ⟨kd,u⟩):W1 (ixR ⟨.vw ro p,.lst us⟩ (.im (.int a))) QR:=by
 have hl:=(Bb.mp h1).1;apply⟨⟨kd,u⟩,?_,q⟩;unfold ixR;have:ixN us.length a=some a.toNat:=by unfold ixN;rw[if_pos h0,if_pos ⋯]
 dsimp[isI,ixX,this,h1,C7];cases u with
 | im i=>exact absurd rfl (hu i)
 | _=>dsimp[ixP,hk]
def qt{n:Nat}(ha:a=n)(h:n<is.length)(q:QT1 (.li (is.set n i))):W1 (rS (.li is) (.im (.int a)) (.im i)) QT1:=by
 subst ha;apply⟨_,?_,q⟩;unfold rS;have:ixN is.length (n:Int)=some n:=by unfold ixN;rw[if_pos ⋯,if_pos ⋯];simp
 dsimp[this]
def bI(h:is.length<sizeLine)(q:QI1 (.li (is++[i])) .non):W2 (apT (.li is) [.im i]) QI1:=by unhygienic exact⟨_,_,if_pos h,q⟩
def vj{kd:Kd}{lo hi:Option Int}(h:s.length<=sizeLine)(q:QR ⟨.ow,.im (.str (oL (cF (sL s) lo hi)))⟩):W1 (slR ⟨kd,.im (.str s)⟩ lo hi) QR:=⟨_,by dsimp[slR,slX,slI,slX];rw[if_pos h],q⟩
def xh{t:T}{Q2:T->Rho->Prop}(q:Q2 t O):W2 (oN ⟨.ow,t⟩ O) Q2:=by unhygienic exact⟨_,_,rfl,q⟩
def xi{t t':T}{n:Nat}{Q2:T->Rho->Prop}(h : O[n]?=some (⇑t'))(q:Q2 t ((au [n] O).set n none)):W2 (oN ⟨.vw (some n) (some []),t⟩ O) Q2:=⟨_,_,by dsimp[oN,h],q⟩
def v9{mv:List Nat}{Q2:List T->Rho->Prop}(q:Q2 [] O):W2 (consL mv [] O) Q2:=⟨_,_,rfl,q⟩
def yV{mv:List Nat}{t:T}{rs:List R}{Q2:List T->Rho->Prop}(h:W2 (consL mv rs O) λts O'=>Q2 (t::ts) O'):W2 (consL mv (⟨.ow,t⟩::rs) O) Q2:=by
 obtain⟨ts,O',e,q⟩:=h;exact⟨t::ts,O',by dsimp[consL,e],q⟩
def pZ{is:List I}:bB (is.map T.im)=.li is:=by
 have:ims (is.map T.im)=some is:=by induction is with
  | nil=>rfl
  | cons i is ih=>dsimp[Bj,ims,ih,B1]
 unfold bB;rw[this]
end
def dsp{p:Prop}[Decidable p]{A B:Prop}(h1:p->A)(h2:¬p->B):(decide p=true->A)/\(decide p=false->B):=⟨λh=>h1 (of_decide_eq_true h),λh=>h2 (of_decide_eq_false h)⟩
def spT{A B:Prop}(h:A):(true=true->A)/\(true=false->B):=⟨λ_=>h,λz=>absurd z (by decide)⟩
def spF{A B:Prop}(h:B):(false=true->A)/\(false=false->B):=⟨λz=>absurd z (by decide),λ_=>h⟩
section
variable {O:Rho}{m:ME}{ms:MA}{g:MG}{ct:MT}{QE':R->Rho->Prop}
def nK{i:Nat}{fr:List (Option Nat)} (h:WA ms O λrs O1=>∃n:Int,rs.map (·.t)=[.im (.int n)]/\(-(2^62)<=n/\n<16000000)/\Gu (eP fr O1.length&&gc ([i]++([]++m.mu)) fr.length) (∃Inv:Nat->List T->Rho->Prop,Inv 0 [] O1 /\
  (∀(j:Nat) acc O,(j:Int)<n->Inv j acc O->WG (ax i) (lU j) (inR fr O) λO1=>WE m O1 λr O3=>∃t,r=⟨.ow,t⟩/\Inv (j+1) (acc++[t]) (du fr ([i]++([]++m.mu)) O3 O)) /\
  ∀acc O,Inv n.toNat acc O->QE' ⟨.ow,bB acc⟩ O)):WE (ce fr (cf ms) (ax i) mYes m) O QE':=by unhygienic
 obtain⟨rs,O1,e1,n,e2,h1,al,Inv,h0,hs,he⟩:=h;apply sd (uR ⟨rs,O1,e1,n,e2,⟨h1.1,by omega⟩,?_,?_,Inv,h0,λj r acc O hr hI=>?_,λacc O hI=>he acc O (by simpa[j4]using hI)⟩)
 ·rw[A9]at al|-;rw[A9];exact⟨⟨al.1,al.2⟩,rfl⟩
 ·rw[EV];simp[j4];omega
 ·obtain⟨x,hx,rfl⟩:=bW hr;obtain⟨a1,a2⟩:=Bb.mp hx;simp at a1 a2;subst a2;have:=hs j acc O ⋯ hI;rw[D8];apply WG.mono this λO1 q=>md ⟨λ_=>q,λz=>by cases z⟩
def uL{fr:List (Option Nat)}{ma:ME} (h:WE ma O λr O1=>∃is:List I,gQ r=some (is.map λi=>⟨.ow,.im i⟩)/\is.length<sizeLine/\Gu (eP fr O1.length&&gc (g.mu++(ct.mu++m.mu)) fr.length&&aC (muF fr (g.mu++(ct.mu++m.mu))) r) (∃Inv:Nat->List T->Rho->Prop,Inv 0 [] O1 /\
  (∀(j:Nat) x acc O,is[j]?=some x->Inv j acc O->WG g ⟨.ow,.im x⟩ (inR fr O) λO1=>WT ct O1 λbb O2=>(bb=true->WE m O2 λr O3=>∃t,r=⟨.ow,t⟩/\Inv (j+1) (acc++[t]) (du fr (g.mu++(ct.mu++m.mu)) O3 O))/\(bb=false->Inv (j+1) acc (du fr (g.mu++(ct.mu++m.mu)) O2 O))) /\
  ∀acc O,Inv is.length acc O->QE' ⟨.ow,bB acc⟩ O)):WE (ce fr (mIt ma) g ct m) O QE':=by
 obtain⟨r,O1,e1,is,e2,hl,al,Inv,h0,hs,he⟩:=h;apply sd (yG ⟨r,O1,e1,_,e2,(by rw[Cr,D7,DZ];exact al),by simpa using hl,Inv,h0,λj r acc O hr hI=>?_,λacc O hI=>he acc O (by exists hI)⟩);obtain⟨x,hx,rfl⟩:=bW hr;exact hs j x acc O hx hI
end
def i8{α:Type}{f : α->I}{l:List α}:bB (l.map λx=>T.im (f x))=.li (l.map f):=by
 have:=pZ (is:=l.map f);rwa [Cj]at this
section
variable {S α:Type}{O:Rho}{m:ME}{ms:MA}{g:MG}{ct:MT}{s1:MS}{QE':R->Rho->Prop}{Q:Fl->Rho->Prop}{fr:List (Option Nat)}{i:Nat}
def iD(st:S->Rho)(emb : α->I)(P:Nat->S->List α->Prop) (h:WA ms O λrs O1=>EH rs λn=>(-(2^62)<=n/\n<16000000)/\(eP fr O1.length&&gc ([i]++([]++m.mu)) fr.length)=true/\∃s0,O1=st s0/\P 0 s0 [] /\
  (∀(j:Nat) s l,(j:Int)<n->P j s l->WG (ax i) (lU j) (inR fr (st s)) λO1=>WE m O1 λr O3=>∃x s',r=⟨.ow,.im (emb x)⟩/\du fr ([i]++([]++m.mu)) O3 (st s)=st s'/\P (j+1) s' (l++[x])) /\
  ∀s l,P n.toNat s l->QE' ⟨.ow,.li (l.map emb)⟩ (st s)):WE (ce fr (cf ms) (ax i) mYes m) O QE':=by
 obtain⟨rs,O1,e1,n,e2,h1,al,s0,rfl,h0,hs,he⟩:=h;apply nK ⟨rs,_,e1,n,e2,h1,al,λj acc O=>∃s l,acc=l.map (λx=>T.im (emb x))/\O=st s/\P j s l,⟨s0,[],rfl,rfl,h0⟩,?_,?_⟩
 ·rintro j acc O hj ⟨s,l,rfl,rfl,hP⟩;apply(hs j s l hj hP).mono λO1 q=>q.mono λr O3 ⟨x,s',e,e',hP'⟩=>⟨_,e,s',l++[x],by simp,e',hP'⟩
 ·rintro acc O ⟨s,l,rfl,rfl,hP⟩;rw[i8];exact he s l hP
def se(st:S->Rho)(emb : α->I)(P:Nat->S->List α->Prop){ma:ME} (h:WE ma O λr O1=>∃is:List I,gQ r=some (is.map λi=>⟨.ow,.im i⟩)/\is.length<sizeLine/\(eP fr O1.length&&gc (g.mu++([]++m.mu)) fr.length&&aC (muF fr (g.mu++([]++m.mu))) r)=true/\∃s0,O1=st s0/\P 0 s0 [] /\
  (∀(j:Nat) x s l,is[j]?=some x->P j s l->WG g ⟨.ow,.im x⟩ (inR fr (st s)) λO1=>WE m O1 λr O3=>∃x s',r=⟨.ow,.im (emb x)⟩/\du fr (g.mu++([]++m.mu)) O3 (st s)=st s'/\P (j+1) s' (l++[x])) /\
  ∀s l,P is.length s l->QE' ⟨.ow,.li (l.map emb)⟩ (st s)):WE (ce fr (mIt ma) g mYes m) O QE':=by unhygienic
 obtain⟨r,O1,e1,is,e2,hl,al,s0,rfl,h0,hs,he⟩:=h;apply uL ⟨r,_,e1,is,e2,hl,al,λj acc O=>∃s l,acc=l.map (λx=>T.im (emb x))/\O=st s/\P j s l,⟨s0,[],rfl,rfl,h0⟩,?_,?_⟩
 ·rintro j x acc O hj ⟨s,l,rfl,rfl,hP⟩;apply(hs j x s l hj hP).mono λO1 q=>md ⟨λ_=>q.mono λr O3 ⟨x,s',e,e',hP'⟩=>⟨_,e,s',l++[x],by simp,e',hP'⟩,λz=>by cases z⟩
 ·rintro acc O ⟨s,l,rfl,rfl,hP⟩;rw[i8];exact he s l hP
@[irreducible] def fFs(st:S->Rho)(P:S->Prop)(Q:Fl->Rho->Prop):Fl->Rho->Prop
 | .nx,O=>∃s,O=st s/\P s
 | .ct,O=>∃s,O=st s/\P s
 | .bk,O=>Q .nx O
 | .rt t,O=>Q (.rt t) O
def sJ{st:S->Rho}{P:Nat->S->Prop}{j:Nat}{f:Fl}{O:Rho}(h:fFs st (P (j+1)) Q f O):sI (λj O=>∃s,O=st s/\P j s) j Q f O:=by unhygienic cases f<;>exact h
def uM(st:S->Rho)(P:Nat->S->Prop) (h:WA ms O λrs O1=>EH rs λn=>(-(2^62)<=n/\n<2^62)/\∃s0,O1=st s0/\P 0 s0 /\
  (∀(j:Nat) s,(j:Int)<n->P j s->WG (ax i) (lU j) (st s) λO1=>WS s1 O1 (fFs st (P (j+1)) Q))/\∀s,P n.toNat s->Q .nx (st s)):WS (iI (cf ms) (ax i) s1) O Q:=by
 obtain⟨rs,O1,e1,n,e2,h1,s0,rfl,h0,hs,he⟩:=h;apply ym ⟨rs,_,e1,n,e2,h1.1,h1.2,λj O=>∃s,O=st s/\P j s,⟨s0,rfl,h0⟩,?_,?_⟩
 ·rintro j O hj ⟨s,rfl,hP⟩;exact(hs j s hj hP).mono λO1 q=>q.mono λf O2 q=>sJ q
 ·rintro O ⟨s,rfl,hP⟩;exact he s hP
end
section
variable {S α:Type}{O:Rho}{m:ME}{ms:MA}{QE':R->Rho->Prop}{fr:List (Option Nat)}{i:Nat}
def qa{emb : α->T}(hne:∀x i,emb x ≠ .im i):∀{l:List α},l≠[]->bB (l.map emb)=.lst (l.map emb)
 | [],h=>absurd rfl h
 | x::l,_=>by
  unfold bB;have:ims ((x::l).map emb)=none:=by
   rw[Bj];cases h:emb x with
   | im i=>exact absurd h (hne x i)
   | _=>rfl
  rw[this]
def sf(st:S->Rho)(emb : α->T)(hne:∀x i,emb x ≠ .im i)(P:Nat->S->List α->Prop) (h:WA ms O λrs O1=>EH rs λn=>(1<=n/\n<16000000)/\(eP fr O1.length&&gc ([i]++([]++m.mu)) fr.length)=true/\∃s0,O1=st s0/\P 0 s0 [] /\
  (∀(j:Nat) s l,(j:Int)<n->P j s l->WG (ax i) (lU j) (inR fr (st s)) λO1=>WE m O1 λr O3=>∃x s',r=⟨.ow,emb x⟩/\du fr ([i]++([]++m.mu)) O3 (st s)=st s'/\P (j+1) s' (l++[x])) /\
  ∀s l,P n.toNat s l->l.length=n.toNat->QE' ⟨.ow,.lst (l.map emb)⟩ (st s)):WE (ce fr (cf ms) (ax i) mYes m) O QE':=by
 obtain⟨rs,O1,e1,n,e2,h1,al,s0,rfl,h0,hs,he⟩:=h;apply nK ⟨rs,_,e1,n,e2,⟨by omega,h1.2⟩,al,λj acc O=>∃s l,acc=l.map emb/\l.length=j/\O=st s/\P j s l,⟨s0,[],rfl,rfl,rfl,h0⟩,?_,?_⟩
 ·rintro j acc O hj ⟨s,l,rfl,hl,rfl,hP⟩;apply(hs j s l hj hP).mono λO1 q=>q.mono λr O3 ⟨x,s',e,e',hP'⟩=>⟨_,e,s',l++[x],by simp,by simp[hl],e',hP'⟩
 ·rintro acc O ⟨s,l,rfl,hl,rfl,hP⟩;rw[qa hne (by intro z;rw[z]at hl;simp at hl;omega)];exact he s l hP hl
end
section
variable {O:Rho}{b:MS}{Q:Fl->Rho->Prop}{t s':T}{k:Nat}{ks:List Nat}
def y6{R:T->T->Prop}(h : O[k]?=some (some ⟨.io 0,s'⟩))(q:R t s'):fI k R (.rt t) O:=by unhygienic exact⟨s',h,q⟩
def y9{R:T->Prop}(q:R t):fP R (.rt t) O:=by unhygienic exact q
def sP(h:WS b O Q):wg b Q .nx O:=by unhygienic exact h
def sQ(h:Q (.rt t) O):wg b Q (.rt t) O:=by unhygienic exact h
def sM(h:Q .nx (fgts ks O)):y4 ks Q .nx O:=by unhygienic exact h
variable {S:Type}{st:S->Rho}{P:S->Prop}
def wj(h:∃s,O=st s/\P s):fFs st P Q .nx O:=by unhygienic exact h
end
section
variable {M:List Nat}{O:Rho}{t s:T}{n i:Nat}{p:Option (List Ac)}{k:Nat}{x:I}
def wx:au M []=[]:=rfl
def zi:au M (⇑t::O)=⇑t::au M O:=rfl
def zh:au M (some ⟨.io n,t⟩::O)=some ⟨.io n,t⟩::au M O:=rfl
def sZ:au M (none::O)=none::au M O:=rfl
def zj:au M (some ⟨.vw none p,t⟩::O)=some ⟨.vw none p,t⟩::au M O:=rfl
def m7:T.put t [] s=s:=by cases t<;>rfl
def ud{j:Int}:lU j=⟨.ow,.im (.int j)⟩:=rfl
def xP:rdR i ⟨.ow,.im x⟩=⟨.ow,.im x⟩:=rfl
def xR{a:Option Nat}:rdR i ⟨.vw a p,t⟩=⟨.vw a p,t⟩:=rfl
def xQ{l:List I}:rdR i ⟨.ow,.li l⟩=⟨.vw (some i) (some []),.li l⟩:=rfl
def uf{l:List T}:rdR i ⟨.ow,.lst l⟩=⟨.vw (some i) (some []),.lst l⟩:=rfl
def pA:fgts [] O=O:=rfl
def nT{ks:List Nat}:fgts (i::ks) O=fgts ks ((au [i] O).set i none):=rfl
def Ew{run:List T->Option T}{l:Nat}{m:MS}{ts:List T}{QT1:T->Prop}(O:Rho)(hrun:run ts=if ts.length=l then fR m n ts else none)(hl:ts.length=l)(he:bT ts n=O)(h:WS m O (fP QT1)):W1 (run ts) QT1:=ux hrun hl (he▸h)
def runI_ok'{run:List T->Option (T×T)}{l:Nat}{m:MS}{ts:List T}{Q2:T->T->Prop}(O:Rho)(hrun:run ts=if ts.length=l then j5 m k n ts else none)(hl:ts.length=l)(he:df k ts n=O)(h:WS m O (fI k Q2)):W2 (run ts) Q2:=nA hrun hl (he▸h)
end
end L2
namespace L2
open PySem
noncomputable section
abbrev gY:MS:=(aQ (aZ (mOp bP (mOp dZ (mC (.int 7901)) (av 1)) (mC (.int 24697))) (ax 2))
  (aQ (mIf (a9 (mOp (iH λi j=>decide (i<j)) (av 1) (mB jO (ao 0 mNil)))) (aZ (mIx (av 0) (av 1)) (ax 2)) (mIf (a9 (mOp (iH λi j=>decide (j<i)) (mB jO (ao 0 mNil)) (mC (.int 0)))) (aZ (mOp bP (mOp dZ (mOp eW (mIx (av 0) (mOp eW (av 1) (mB jO (ao 0 mNil)))) (mC (.int 2147483629))) (mC (.int 31))) (mOp dZ (mC (.int 7901)) (av 1))) (ax 2)) mNext))
  (aQ (aZ (mC (.int 0)) (ax 3))
  (aQ (mIf (a9 (mOp (iH λi j=>decide (j<=i)) (av 2) (mOp lP (mC (.int 10)) (mC (.int 18))))) (aZ (av 2) (ax 3)) mNext)
  (cH (aW [3] (ao 3 (ah (mOp bP (mOp eW (mOp lP (mOp bP (mOp dZ (mOp eW (av 2) (mC (.int 2147483629))) (mC (.int 48271))) (mOp dZ (mC (.int 40692)) (av 1))) (mC (.int 5))) (mC (.int 2147483629))) (mC (.int 1))) mNil))))))))
abbrev ii(ts:List T):Option T:=if ts.length=2 then fR gY 4 ts else none
abbrev gZ:MS:=(aQ (mIf (a9 (mOp (iH λi j=>decide (j<i)) (mIx (av 0) (mC (.int 0))) (mC (.int 0)))) (aQ (aZ (mOp eW (mIx (av 0) (mC (.int 0))) (av 1)) (ax 2))
  (aQ (aZ (mOp iW (mIx (av 0) (mC (.int 0))) (av 1)) (lF 0 (av 0) (mC (.int 0))))
  (cH (av 2)))) mNext)
  (aQ (aZ (mOp eW (mOp dZ (mIx (av 0) (mC (.int 1))) (mC (.int 48271))) (mC (.int 2147483647))) (ax 3))
  (aQ (aZ (mOp bP (mOp eW (mOp bP (mOp dZ (av 3) (mC (.int 40692))) (mC (.int 30103))) (mC (.int 2147483399))) (mC (.int 1))) (lF 0 (av 0) (mC (.int 1))))
  (cH (mOp eW (mOp iW (mOp bP (mOp dZ (av 3) (mC (.int 2147483647))) (mIx (av 0) (mC (.int 1)))) (mC (.int 8191))) (av 1))))))
abbrev bu(ts:List T):Option (T×T):=if ts.length=2 then j5 gZ 0 4 ts else none
abbrev fF:MS:=(aQ (aZ (mC (.str "abcdefghijklmnopqrstuvwxyz")) (ax 2))
  (aQ (aZ (mM gS (mC (.str "")) (ah (ce [some 0,none,some 2,none,none,none,none,none,none] (cf (ah (bw 0 0 bu (ao 0 (ah (mC (.int 6)) mNil))) mNil)) (ax 7) mYes (mIx (av 2) (bw 0 0 bu (ao 0 (ah (mC (.int 26)) mNil))))) mNil)) (ax 3))
  (aQ (mP 4 5 (ah (bw 0 0 bu (ao 0 (ah (mC (.int 26)) mNil))) (ah (bw 0 0 bu (ao 0 (ah (mOp bP (mB jO (ao 3 mNil)) (mC (.int 1))) mNil))) mNil)))
  (aQ (aZ (aW [] mNil) (ax 6))
  (aQ (iI (cf (ao 1 mNil)) (ax 7)
  (gU [7,8] (aQ (aZ (mOp bP (mOp bP (mSl (av 3) mNoPart (gX (av 5))) (mIx (av 2) (mOp eW (mOp bP (av 4) (mOp dZ (mC (.int 5)) (av 7))) (mC (.int 26))))) (mSl (av 3) (gX (av 5)) mNoPart)) (ax 8))
  (aQ (mIf (a9 (mOp eqT (mOp eW (av 7) (mC (.int 2))) (mC (.int 1)))) (aZ (mOp bP (av 8) (mC (.str "q"))) (ax 8)) mNext)
  (aQ (mIf (a9 (mOp inT (av 8) (dq [] (ah (mC (.str "min")) (ah (mC (.str "max")) (ah (mC (.str "rest")) (ah (mC (.str "less")) (ah (mC (.str "if")) mNil)))))))) (aZ (mOp bP (av 8) (mC (.str "w"))) (ax 8)) mNext)
  (i4 (lE 6 [8] apT (av 6) (ao 8 mNil))))))))
  (cH (av 6)))))))
abbrev fO(ts:List T):Option (T×T):=if ts.length=2 then j5 fF 0 9 ts else none
end
end L2
namespace L2
open PySem PySem.Spec PyProof.Rows
abbrev cx(K:yF) (a:Addr):yF:=K.filter λp=>!(p.1==a)
def kI:∀{K:yF} {a b:Addr},b≠a->(cx K a).lookup b=K.lookup b
 | [],_,_,_=>rfl
 | (c,o)::K,a,b,h=>by
  have ih:=kI (K:=K) h;by_cases e:c=a
  ·subst e;have:cx ((c,o)::K) c=cx K c:=by simp[cx]
   rw[this,ih];show _=match b==c with|true=>some o|false=>B5 b K
   rw[beq_eq_false_iff_ne.mpr h]
  ·have:cx ((c,o)::K) a=(c,o)::cx K a:=by simp[cx,e]
   rw[this];show(match b==c with|true=>some o|false=>B5 b (cx K a))=match b==c with|true=>some o|false=>B5 b K
   rw[ih]
def fD:∀{K:yF} {a:Addr},(cx K a).lookup a=none
 | [],_=>rfl
 | (c,o)::K,a=>by
  have ih:=fD (K:=K) (a:=a);by_cases e:c=a
  ·subst e;have:cx ((c,o)::K) c=cx K c:=by simp[cx]
   rw[this,ih]
  ·have:cx ((c,o)::K) a=(c,o)::cx K a:=by simp[cx,e]
   rw[this];show(match a==c with|true=>some o|false=>B5 a (cx K a))=none;rw[beq_eq_false_iff_ne.mpr (Ff e)];exact ih
def tm{K:yF}{a:Addr}{h:Heap}(X:K.In h):(cx K a).In h:=λb o e=>by
 by_cases q:b=a;subst q;rw[fD]at e;cases e;rw[kI q]at e;exact X b o e
abbrev Lst(o:Obj):Prop:=∃vs:Array EK,o={cls:=.type "list",data:=.seq vs}
abbrev EJ(K:yF)(a:Addr):Prop:=∀o,K.lookup a=some o->Lst o
abbrev Eo(K:yF)(mg:Str->Option EK)(name:Str)(st:Stmt)(ps:List Str):Prop:=
 ∃(f:Addr) (fd:Fm),mg name=some (.ref f)/\Fun K name name st f fd/\(∀us:List EK,us.length=ps.length->Hb fd ⟨us,[]⟩=pure (ps.zip us))
def Eo.to{K:yF}{mg:Str->Option EK}{name:Str}{st:Stmt}{ps:List Str}(d:Eo K mg name st ps):Def K mg name st ps:=by
 obtain⟨f,fd,h1,h2,h3⟩:=d;exact⟨f,fd,h1,h2,.all h3⟩
def Eo.mk'{K:yF}{h:Heap}{mg:Str->Option EK}{name:Str}{st:Stmt}{ps:List Str}(X:K.In h)(G:h.Ns E3 mg){f:Addr}{oc:EK}{od an:Option Addr}{osl:Array (Option EK)}{kV doc pm cdv ct:EK}
  (a:BP K E3 name=some (some (.ref f))) (l:K.lookup f=some ⟨oc,od,.func (BN name name (bh st) (aE st) (ae st) .none kV doc pm an cdv ct),osl⟩) (c:Cw K cdv name=true) (k:Cf K (.ref f)=true)
  (hb:∀(kV doc pm:EK) (an:Option Addr) (cdv ct:EK) (us:List EK),us.length=ps.length->Hb (BN name name (bh st) (aE st) (ae st) .none kV doc pm an cdv ct) ⟨us,[]⟩=pure (ps.zip us)):Eo K mg name st ps:=
 ⟨f,_,C4 X G a,pC l c k,hb kV doc pm an cdv ct⟩
def AE{l:DP}{k:Nat}{q:EU}{loose:List Str}{XP:(Str->Option EK)->Heap->Prop}{YP:E4->Heap->Prop}{d:DefRec}{K:HU->yF}{x:Str}{st:Stmt}{run:List T->Option T}{A:(Str->Option EK)->yF->Prop}
  (hn:l.most=some 63) (hdf:d.params.defaults=[]) (hr:Eh k GX)
  (hY:∀(w:E4) (h:Heap),YP w h->(K w.params).In h)
  (hA:∀(w:E4) (mg:Str->Option EK) (h:Heap),(K w.params).In h->h.Ns E3 mg->A mg (K w.params))
  (hL:∀(mg:Str->Option EK) (K:yF) (a:Addr),A mg K->EJ K a->A mg (cx K a))
  (hd:∀(mg:Str->Option EK) (K:yF),A mg K->Def K mg d.name st [x])
  (hb:∀(kV doc pm:EK) (an:Option Addr) (cdv ct:EK) (s:EM) (v:EK),GR s (BN d.name d.name (bh st) (aE st) (ae st) .none kV doc pm an cdv ct) ⟨[v],[]⟩ [(x,v)])
  (F:∀(w:E4) (mg:Str->Option EK) (K:yF) (base:Heap),A mg K->Has l.prog w K mg base k d.name [x] (spP K run))
  (law:∀ns:List Int,ns.length<=63->run [.li (ns.map .int)]=some (.im (.bl true))) :
  D0 q loose XP YP l.row.toRowW d [] (λf vs=>PySem.call f vs):=by
 apply Att.attach_call hn hdf λw s₀ s₁ mg mb fa o pm cd doc a vs ns G Y ho hd' hcd hmg hobj hints hlen hg=>?_;have KX:=hY w _ Y;have a0:=hA w mg _ KX G.T.g;have la:EJ (K w.params) a:=λo e=>by
  have e2:=KX a o e;rw[hobj]at e2;cases e2;exact⟨_,rfl⟩
 have a1:=hL mg _ a a0 la;obtain⟨fd,hb',hF⟩:=pV hmg (hd mg _ a1) hb λbase _ _=>F w mg (cx (K w.params) a) base a1;apply pU (tm KX) G.T.g G.T.b G.T.builtins G.T.nolimit hg hobj hints (Bz hlen (by decide)) hr hF hb' (λH hO hS=>?_) (λ_ _ _ z=>z);rcases hS with hS|⟨o,its,n,e,_⟩
 ·apply⟨[.li (ns.map .int)],_,?_,law ns hlen,?_⟩
  ·apply⟨_,_,rfl,⟨[a],?_⟩,rfl⟩;exact⟨a,_,rfl,hS,td.ints ns,rfl⟩
  ·intro v H' z;obtain⟨_,F,z,_⟩:=z;rw[Rp]at z;exact z.1
 ·rw[fD]at e;cases e
inductive TyB(K:yF) (H:Hp):V->String->Prop where
 | non:TyB K H .non "NoneType"
 | bl (x:Bool):TyB K H (.bl x) "bool"
 | int (i:Int):TyB K H (.int i) "int"
 | str (x:Str):TyB K H (.str x) "str"
 | tup {a:Addr} {xs:List V}:SqT K H a xs->TyB K H (.ref a) "tuple"
 | lst {a:Addr} {xs:List V}:SqL K H a xs->TyB K H (.ref a) "list"
 | dK {a:Addr} {kvs:List (Key×V)}:Rd H a (.dK kvs)->TyB K H (.ref a) "dict"
def TyB.kit{X:Cx}{Uq:List (Addr×Obj)}{Z:St}{H:Hp}{s:EM}{x:V}{u:EK}{n:String}(I:Inv X Uq Z H s)(r:RelV x u)(t:TyB X.K H x n):∃Hq,PySem.W.KitX X.K u (.type n) Hq/\Hq s.heap/\u≠FD "__main__.__loader__#opaque" :=by
 cases t with
 | non=>cases (show u=Hs from r);exact⟨_,PySem.W.kitx_none,FU,λz=>nomatch z⟩
 | bl y=>cases (show u=Ht y from r);exact⟨_,PySem.W.kitx_bool,FU,λz=>nomatch z⟩
 | int i=>obtain⟨t,q⟩:=(show∃t,u=Fp i t from r);cases q;exact⟨_,PySem.W.kitx_int,FU,λz=>nomatch z⟩
 | str y=>obtain⟨t,q⟩:=(show∃t,u=Hj y t from r);cases q;exact⟨_,PySem.W.kitx_str,FU,λz=>nomatch z⟩
 | @tup a xs hq=>
  cases r;obtain⟨its,r,p,_⟩:=I.tuple hq;obtain⟨o,h1,h2,_⟩:=p;exact⟨_,PySem.W.kitx_tuple,⟨o,h1,h2⟩,λz=>nomatch z⟩
 | @lst a xs hq=>
  cases r;obtain⟨its,r,p,_⟩:=I.list hq;obtain⟨o,n,h1,h2,_⟩:=p;exact⟨_,PySem.W.kitx_list,⟨o,h1,h2⟩,λz=>nomatch z⟩
 | @dK a kvs e=>
  cases r;have:=(show Ec X.prog X.w H s.heap a (.dK kvs)from by
   rcases e with e|⟨o,e⟩;exact I.hok a _ e;exact(show Ec X.prog X.w H s.heap a (.frz o (.dK kvs))from I.hok a _ e).2)
  obtain⟨_,_,vs,_,p⟩:=this;obtain⟨o,es,ep,h1,h2,_⟩:=p;exact⟨_,PySem.W.kitx_dict,⟨o,h1,h2.1⟩,λz=>nomatch z⟩
abbrev xM(K:yF)(n:String):List V->Hp->VK->Prop:=λxs H Q=>∃x t b,xs=[x,.ty n]/\TyB K H x t/\B7 K (.type t) (.type n)=some b/\Q (.bl b) H
def oZ{X:Cx}(n:String):Ej X (.builtin "isinstance") (xM X.K n):=by
 intro Uq s Z H xs us Q I rv h;obtain⟨x,t,b,rfl,ty,e,q⟩:=h;obtain⟨u,w',rfl,r1,r2⟩:=vQ rv;cases r2;obtain⟨Hq,h1,h2,h3⟩:=ty.kit I r1;exact DN h1 I.kIn h2 e h3 λtk=>⟨.bl b,H,I.tok tk,rfl,q⟩
abbrev tyN:T->Option String
 | .im .non=>some "NoneType"
 | .im (.bl _)=>some "bool"
 | .im (.int _)=>some "int"
 | .im (.str _)=>some "str"
 | .im (.tup _)=>some "tuple"
 | .im (.ls _)=>some "list"
 | .im (.fd _ _)=>some "dict"
 | .im (.exn _ _ _)=>none
 | .tup _=>some "tuple"
 | .li _=>some "list"
 | .lst _=>some "list"
 | .di _=>some "dict"
 | .dc _=>some "dict"
 | .ins _ _=>none
abbrev pJ(n m:String):Bool:=n==m||(n == "bool" && m == "int")
private def sY(ns:List String)(t:T):Option T:=(tyN t).map λn=>.im (.bl (ns.any (pJ n)))
def yd{K:yF}{H:Hp}{x:V}{n:String}:∀{t:T},Rpx K H t x->tyN t=some n->TyB K H x n
 | .im i,r,e=>by
  have h:=bE r;cases i<;>rw[RpI]at h<;>cases e;rw[h];exact .non;rw[h];exact .bl _;rw[h];exact .int _;rw[h];exact .str _;obtain⟨a,xs,rfl,h,_⟩:=h;exact .tup h;obtain⟨a,xs,rfl,h,_⟩:=iq r;exact .lst (aB h);obtain⟨a,o,ys,rfl,h,_⟩:=h;exact .dK (.inr ⟨o,h⟩)
 | .tup ts,r,e=>by cases e;obtain⟨a,xs,F,rfl,h,_⟩:=j6 r;exact .tup h
 | .li ts,r,e=>by cases e;obtain⟨a,xs,rfl,h,_⟩:=bO r;exact .lst (.inl h)
 | .lst ts,r,e=>by cases e;obtain⟨a,xs,F,rfl,h,_⟩:=dg r;exact .lst (.inl h)
 | .di ts,r,e=>by cases e;obtain⟨F,r⟩:=r;rw[Rp]at r;obtain⟨a,xs,rfl,⟨ys,h,_⟩,_⟩:=r;exact .dK (.inl h)
 | .dc ts,r,e=>by cases e;obtain⟨F,r⟩:=r;rw[Rp]at r;obtain⟨a,xs,F',rfl,⟨ys,h,_⟩,_⟩:=r;exact .dK (.inl h)
 | .ins C ts,r,e=>by cases e
abbrev l8:List String:=["int","bool","str","tuple","list","dict"]
def oe{K:yF}{n m:String}{t:T}(e:tyN t=some n)(hm:m∈l8):B7 K (.type n) (.type m)=some (pJ n m):=by
 have hn:n = "NoneType" \/ n∈l8:=by
  unfold tyN at e;split at e<;>cases e<;>first|exact .inl rfl|exact .inr (by decide)
 rcases hn with rfl|hn
 ·rcases ycM hm with rfl|hm;rfl;rcases ycM hm with rfl|hm;rfl;rcases ycM hm with rfl|hm;rfl;rcases ycM hm with rfl|hm;rfl;rcases ycM hm with rfl|hm;rfl;rcases ycM hm with rfl|hm;rfl;cases hm
 ·have key:∀a∈l8,∀b∈l8,B7 K (.type a) (.type b)=some (pJ a b):=by
   intro a ha b hb;dsimp[l8,B3,CN,or_false]at ha hb;rcases ha with rfl|rfl|rfl|rfl|rfl|rfl<;>rcases hb with rfl|rfl|rfl|rfl|rfl|rfl<;>rfl
  exact key n hn m hm
section
variable {ι : Type}{C:ι->Cx}{P:EU}{W:E4}{K:yF}{mg:Str->Option EK}{base:Heap}{k:Nat}{e:Expr}{m:ME}{pos:Pos}
def qI{n:String}(hn:n∈l8):fY K (λx H Q=>xM K n [x,.ty n] H Q) (sY [n]):=by
 intro H x tx t Q r e q;unfold sY at e;cases e1:tyN tx with
 | none=>rw[e1]at e;cases e
 | some n'=>
  rw[e1]at e;cases e;apply⟨x,n',_,rfl,yd r e1,oe e1 hn,?_⟩;apply q _ H ⟨Ei.refl H,[],?_,BO,λa h=>by cases h⟩;rw[Rp,RpI];exact⟨by simp,rfl⟩
def zO{n:String}{x:Str}{p p1:Pos}(ck:CK C P W K mg base k)(hb:mg "isinstance" = none)(hx:mg x=none)(bx:Fq x=some (.type n))(hn:n∈l8)(ha:QE C K e m)(hg:∀i,Gl (C i) "isinstance" :=by intro _;rfl)(hg1:∀i,Gl (C i) x:=by intro _;rfl)
  (hs:bo e=false:=by rfl) (hxn:x≠("__name__" : Str):=by decide) (hdb:(x==("__debug__" : Str))=false:=by decide):QE C K (.Call (.Name "isinstance" p) [e,.Name x p1] [] pos) (mUn (sY [n]) m):=by
 obtain⟨ta,q,r⟩:=ha;apply⟨_,λi=>cT (r:=xM K n) (by have:=oZ (X:=C i) n;rw[ck.kk i]at this;exact this) (hg i) (by rw[ck.mg i];exact hb) G5 (b6 (hs:=hs) (q i) (b6 (mV (hg1 i) (by rw[ck.mg i];exact hx) bx (vF n) hxn hdb) de)) (by show(!bo e&&true)=true;rw[hs];rfl),?_⟩;exact il (qI hn) r
end
structure ZAp(z TI TO i1 i2 l1 l2:Addr):Prop where
 ap:TI≠z/\TO≠z/\TI≠TO/\TI≠i1/\TI≠i2/\i1≠z/\i2≠z/\i1≠TO/\i2≠TO/\i1≠i2
 f1:z∉[i1,l1]/\TO∉[i1,l1]/\i2∉[i1,l1]
 f2:z∉[i2,l2]/\TO∉[i2,l2]/\i1∉[i2,l2]
 n1:l1≠i1
 n2:l2≠i2
def zk{P:EU}{w:E4}{k:Key}{u:EK}(r:RelV (kV k) u):(cB P w).is k u=true:=by
 cases k with
 | inl i=>obtain⟨t,e⟩:=(show∃t,u=Fp i t from r);subst e;exact kM P w i t
 | inr x=>obtain⟨t,e⟩:=(show∃t,u=Hj x t from r);subst e;exact kN P w x t
section
variable {P:EU}{w:E4}{H:Hp}{h:Heap}{a:Addr}
def z9{u:HO}(ok:HOk P w H h)(e:Rd H a u):Ec P w H h a u:=e.ok ok
def yW{kvs:List (Key×V)}(ok:HOk P w H h)(e:Rd H a (.dK kvs)):kvs.length<=sizeLine/\(a==F8)=false/\∃vs,KV kvs vs/\h.DictOf (cB P w) a vs:=
 show Ec P w H h a (.dK kvs)from z9 ok e
end
section
variable {X:Cx}{Uq:List (Addr×Obj)}{Z:St}{H:Hp}{s:EM}{a:Addr}{y v:V}{u r:EK}{o:Option V}{A:Fa}{E:EK->EM->Prop}
def Inv.big(I:Inv X Uq Z H s):F8<s.heap.objs.size:=by
 have h:E3<s.heap.objs.size:=(I.mod.glob.keeps I.bk).lt;exact Nat.lt_trans (by decide) h
end
def pb{P:EU}{w:E4}{H:Hp}(h:Heap)(hb:F8<h.objs.size):Ec P w H (h.push {cls:=.type "dict",data:=.dict #[]}) h.objs.size (.dK []):=
 ⟨B6 _,beq_eq_false_iff_ne.mpr (Ff (BG hb)),[],.nil,JG h⟩
section
variable {κ : Type}[DecidableEq κ]
abbrev xB{α:Type}:List (κ × α)->κ->α->List (κ × α)
 | [],k,v=>[(k,v)]
 | p::r,k,v=>if p.1=k then(p.1,v)::r else p::xB r k v
end
abbrev kPD:Key->EW
 | .inl i=>.int i
 | .inr x=>.str x
mutual
noncomputable def I.pd:I->EW
 | .non=>.none|.bl b=>.bool b|.int i=>.int i|.str x=>.str x|.tup is=>.tuple (I.pds is)|.ls is=>.list (I.pds is)|.fd ks is=>.dict ((ks.map kPD).zip (I.pds is))|.exn _ _ _=>.none
noncomputable def I.pds:List I->List EW
 | []=>[]
 | i::is=>i.pd::I.pds is
end
def I.pds_length:∀is:List I,(I.pds is).length=is.length
 | []=>rfl
 | i::is=>by rw[I.pds,Bf,Bf,I.pds_length is]
def kH{P:EU}{w:E4}{h:Heap}:∀{es:List Gp} {vs:List (Key×EK)} {ys:List (Key×V)},Pairs (cB P w) es vs->KV ys vs ->
  Jq h (es.map (·.key)) ((ys.map (·.1)).map kPD) []/\Vals (ys.map (·.2)) (es.map (·.val))
 | _,_,_,.nil,.nil=>⟨.nil,.nil⟩
 | e::es,(k,v)::vs,(k',y)::ys,.cons hk hv t,.cons hr q=>by
  obtain⟨ih1,ih2⟩:=kH (h:=h) t q;have e1:k'=k:=hr.1;subst e1;apply⟨?_,.cons (show RelV y e.val by rw[hv];exact hr.2) ih2⟩;have:Reads h e.key (kPD k') []:=by
   rcases aR hk with⟨i,t,e1,e2⟩|⟨x,t,e1,e2⟩;rw[e2];cases e1;exact .int i t;rw[e2];cases e1;exact .str x t
  exact .cons (as:=[]) (bs:=[]) this ih1
mutual
noncomputable def I.nls:I->Bool
 | .ls _=>false|.exn _ _ _=>false|.tup is=>I.nlss is|.fd _ is=>I.nlss is|.non=>true|.bl _=>true|.int _=>true|.str _=>true
noncomputable def I.nlss:List I->Bool
 | []=>true
 | i::is=>i.nls&&I.nlss is
end
section
variable {X:Cx}{Uq:List (Addr×Obj)}{Z:St}{H:Hp}{s:EM}
mutual
theorem nj(J:Inv X Uq Z H s):∀(i:I) {v:V} {u:EK},i.nls=true->RpI X.K H i v->RelV v u->∃as,Reads s.heap u i.pd as/\F8∉as
 | .non,_,_,_,r,q=>by rw[RpI]at r;subst r;cases q;exact⟨_,.none,by simp⟩
 | .bl b,_,_,_,r,q=>by rw[RpI]at r;subst r;cases q;exact⟨_,.bool b,by simp⟩
 | .int i,_,_,_,r,q=>by rw[RpI]at r;subst r;obtain⟨t,rfl⟩:=q;exact⟨_,.int i t,by simp⟩
 | .str x,_,_,_,r,q=>by rw[RpI]at r;subst r;obtain⟨t,rfl⟩:=q;exact⟨_,.str x t,by simp⟩
 | .tup is,_,_,hn,r,q=>by
  rw[RpI]at r;obtain⟨a,xs,rfl,h1,h2⟩:=r;cases q;obtain⟨its,rv,⟨o,e,c,n,d⟩,_⟩:=J.tuple h1;obtain⟨as,g1,g2⟩:=ij J is (by rw[I.nls]at hn;exact hn) h2 rv;exact⟨as,.tuple e c d g1,g2⟩
 | .ls is,_,_,hn,_,_=>by cases hn
 | .exn _ _ _,_,_,hn,_,_=>by cases hn
 | .fd ks is,_,_,hn,r,q=>by
  rw[RpI]at r;obtain⟨a,o,ys,rfl,h1,h2,h3⟩:=r;cases q;obtain⟨z,hd,vs,rel,o',es,ep,e,c,d,_,pr,_⟩:=yW J.hok (.inr ⟨o,h1⟩);obtain⟨g1,rv⟩:=kH (h:=s.heap) pr rel;obtain⟨bs,g2,g3⟩:=ij J is (by rw[I.nls]at hn;exact hn) h3 rv;have hl:(ks.map kPD).length=(I.pds is).length:=by
   rw[Br,I.pds_length,<-h2,Br];have:=h3.length;rw[Br]at this;omega
  apply⟨a::[]++bs,.dict e c.1 d (as:=[]) (bs:=bs) ?_ ?_,?_⟩;rw[List.map_fst_zip ⋯,<-h2];exact g1;rw[List.map_snd_zip ⋯];exact g2
  ·dsimp[Bx,Cb,B3,not_or];exact⟨λz=>by rw[<-z]at hd;simp at hd,g3⟩
theorem ij(J:Inv X Uq Z H s):∀(is:List I) {vs:List V} {us:List EK},I.nlss is=true->td X.K H is vs->Vals vs us->∃as,Jq s.heap us (I.pds is) as/\F8∉as
 | [],_,_,_,r,q=>by rw[td]at r;subst r;cases q;exact⟨[],.nil,by simp⟩
 | i::is,_,_,hn,r,q=>by
  rw[td]at r;obtain⟨x,xs,rfl,h1,h2⟩:=r;cases q with
  | cons q1 q2=>
   obtain⟨as,g1,g2⟩:=nj J i (B8.mp (by rw[I.nlss]at hn;exact hn)).1 h1 q1;obtain⟨bs,g3,g4⟩:=ij J is (B8.mp (by rw[I.nlss]at hn;exact hn)).2 h2 q2;exact⟨as++bs,.cons g1 g3,by dsimp[CQ,not_or];exact⟨g2,g4⟩⟩
end
def iR(hc:X.calm=true)(hu:X.A.units+64<Fz):Ej X (.builtin "repr") (λxs H Q=>∃(a:Addr) (i:I),xs=[.ref a]/\RpI X.K H i (.ref a)/\i.nls=true/\i.pd.showable=true/\i.pd.depth<=50/\i.pd.shown.length<=sizeLine/\Q (.str i.pd.shown) H):=by
 intro Uq s Z H xs us Q J rv h;obtain⟨a,i,rfl,hr,hn,hs,hd,hl,q⟩:=h;obtain⟨u,rfl,ru⟩:=fj rv;cases ru;obtain⟨as,r,hm⟩:=nj J i hn hr rfl;exact repr_of_reads' r hs (λ_=>hm) (J.ok.gd hc) ⋯ (λ_ _ e=>e) (λh' u tk hk=>⟨.str _,H,J.kept hk,⟨u,rfl⟩,q⟩) hl
end
mutual
noncomputable def I.lay:I->Bool
 | .fd _ _=>false|.exn _ _ _=>false|.tup is=>I.lays is|.ls is=>I.lays is|.str x=>FC x|.non=>true|.bl _=>true|.int _=>true
noncomputable def I.lays:List I->Bool
 | []=>true
 | i::is=>i.lay&&I.lays is
end
mutual
theorem jN:∀i:I,i.lay=true->i.pd.canLay0=true
 | .non,_=>by rw[I.pd,Fo]
 | .bl _,_=>by rw[I.pd,Fo]
 | .int _,_=>by rw[I.pd,Fo]
 | .str x,h=>by rw[I.pd,Fo];rw[I.lay]at h;exact h
 | .tup is,h=>by rw[I.pd,Fo];rw[I.lay]at h;exact dA is h
 | .ls is,h=>by rw[I.pd,Fo];rw[I.lay]at h;exact dA is h
theorem dA:∀is:List I,I.lays is=true->GA (I.pds is)=true
 | [],_=>by rw[I.pds,GA]
 | i::is,h=>by
  rw[I.lays,A9]at h;rw[I.pds,GA,jN i h.1,dA is h.2];rfl
end
section
variable {X:Cx}{Uq:List (Addr×Obj)}{Z:St}{H:Hp}{s:EM}
mutual
theorem nq(J:Inv X Uq Z H s):∀(i:I) {v:V} {u:EK},i.lay=true->RpI X.K H i v->RelV v u->∃as,Reads s.heap u i.pd as
 | .non,_,_,_,r,q=>by rw[RpI]at r;subst r;cases q;exact⟨_,.none⟩
 | .bl b,_,_,_,r,q=>by rw[RpI]at r;subst r;cases q;exact⟨_,.bool b⟩
 | .int i,_,_,_,r,q=>by rw[RpI]at r;subst r;obtain⟨t,rfl⟩:=q;exact⟨_,.int i t⟩
 | .str x,_,_,_,r,q=>by rw[RpI]at r;subst r;obtain⟨t,rfl⟩:=q;exact⟨_,.str x t⟩
 | .tup is,_,_,hn,r,q=>by
  rw[RpI]at r;obtain⟨a,xs,rfl,h1,h2⟩:=r;cases q;obtain⟨its,rv,⟨o,e,c,n,d⟩,_⟩:=J.tuple h1;obtain⟨as,g1⟩:=fb J is (by rw[I.lay]at hn;exact hn) h2 rv;exact⟨as,.tuple e c d g1⟩
 | .ls is,_,_,hn,r,q=>by
  rw[RpI]at r;obtain⟨a,o,xs,rfl,h1,h2⟩:=r;cases q;obtain⟨its,rv,⟨o,n,e,c,_,d⟩,_⟩:=J.list (a:=a) (xs:=xs) (.inl (.inr ⟨o,h1⟩));obtain⟨as,g1⟩:=fb J is (by rw[I.lay]at hn;exact hn) h2 rv;exact⟨a::as,.list e c d g1⟩
 | .exn _ _ _,_,_,hn,_,_=>by cases hn
 | .fd _ _,_,_,hn,_,_=>by cases hn
theorem fb(J:Inv X Uq Z H s):∀(is:List I) {vs:List V} {us:List EK},I.lays is=true->td X.K H is vs->Vals vs us->∃as,Jq s.heap us (I.pds is) as
 | [],_,_,_,r,q=>by rw[td]at r;subst r;cases q;exact⟨[],.nil⟩
 | i::is,_,_,hn,r,q=>by
  rw[td]at r;obtain⟨x,xs,rfl,h1,h2⟩:=r;cases q with
  | cons q1 q2=>
   obtain⟨as,g1⟩:=nq J i (B8.mp (by rw[I.lays]at hn;exact hn)).1 h1 q1;obtain⟨bs,g3⟩:=fb J is (B8.mp (by rw[I.lays]at hn;exact hn)).2 h2 q2;exact⟨as++bs,.cons g1 g3⟩
end
abbrev ED(K:yF)(H:Hp)(x:V)(d:EW):Prop:=(∃i:I,i.lay=true/\RpI K H i x/\d=i.pd) \/ ∃(a:Addr) (xs:List V) (is:List I),x=.ref a/\Rd H a (.lst xs)/\td K H is xs/\I.lays is=true/\d=.list (I.pds is)
def ED.reads{x:V}{u:EK}{d:EW}(J:Inv X Uq Z H s)(h:ED X.K H x d)(r:RelV x u):∃as,Reads s.heap u d as/\d.canLay0=true:=by
 rcases h with⟨i,h1,h2,rfl⟩|⟨a,xs,is,rfl,h1,h2,h3,rfl⟩
 ·obtain⟨as,g⟩:=nq J i h1 h2 r;exact⟨as,g,jN i h1⟩
 ·cases r;obtain⟨its,rv,⟨o,n,e,c,_,d⟩,_⟩:=J.list (a:=a) (xs:=xs) (.inl h1);obtain⟨as,g1⟩:=fb J is h3 h2 rv;exact⟨a::as,.list e c d g1,by rw[Fo];exact dA is h3⟩
abbrev xI(K:yF):R2:=λx y H Q=>∃dx dy,ED K H x dx/\ED K H y dy/\dx.depth<=50/\Q (.bl (Hy dx dy)) H
abbrev xN(K:yF):R2:=λx y H Q=>∃dx dy,ED K H x dx/\ED K H y dy/\dx.depth<=50/\Q (.bl (!PyData.eqv dx dy)) H
abbrev xK(K:yF):R2:=λx y H Q=>∃dx ds,ED K H x dx/\ED K H y (.list ds)/\dx.depth<=50/\Q (.bl (ds.any λz=>Hy z dx)) H
def wM(hu:X.A.units+64<Fz):OpR X (Fe .Eq) (xI X.K):=by
 intro Uq s Z H x y v u Q J rx ry h;obtain⟨dx,dy,h1,h2,h3,q⟩:=h;obtain⟨as,g1,g2⟩:=h1.reads J rx;obtain⟨bs,g3,g4⟩:=h2.reads J ry;exact SeqAt.compareEq_reads g1 g3 g2 g4 (by have:=DQ dx.depth dy.depth;omega) ⟨.bl _,H,J,rfl,q⟩
def wU(hu:X.A.units+64<Fz):OpR X (Fe .NotEq) (xN X.K):=by
 intro Uq s Z H x y v u Q J rx ry h;obtain⟨dx,dy,h1,h2,h3,q⟩:=h;obtain⟨as,g1,g2⟩:=h1.reads J rx;obtain⟨bs,g3,g4⟩:=h2.reads J ry;exact SeqAt.compareNe_reads g1 g3 g2 g4 (by have:=DQ dx.depth dy.depth;omega) ⟨.bl _,H,J,rfl,q⟩
def wQ(hu:X.A.units+64<Fz):OpR X (Fe .In) (xK X.K):=by
 intro Uq s Z H x y v u Q J rx ry h;obtain⟨dx,ds,h1,h2,h3,q⟩:=h;obtain⟨as,g1,g2⟩:=h1.reads J rx;obtain⟨bs,g3,g4⟩:=h2.reads J ry;rw[Fo]at g4;exact SeqAt.in_list_reads g3 g1 g4 g2 (by have:=Dz (Fg ds) dx.depth;omega) ⟨.bl _,H,J,rfl,q⟩
def lr(hc:X.calm=true)(hu:X.A.units+64<Fz):Ej X (.builtin "repr") (λxs H Q=>∃(v:V) (i:I),xs=[v]/\RpI X.K H i v/\i.nls=true/\i.pd.showable=true/\i.pd.depth<=50/\i.pd.shown.length<=sizeLine/\Q (.str i.pd.shown) H):=by
 intro Uq s Z H xs us Q J rv h;obtain⟨v,i,rfl,hr,hn,hs,hd,hl,q⟩:=h;obtain⟨u,rfl,ru⟩:=fj rv;cases i with
 | non=>rw[RpI]at hr;subst hr;cases ru;exact P.repr_of_none ⟨.str _,H,J.tok _,⟨_,rfl⟩,q⟩
 | bl b=>rw[RpI]at hr;subst hr;cases ru;exact P.repr_of_bool ⟨.str _,H,J.tok _,⟨_,rfl⟩,q⟩
 | int n=>rw[RpI]at hr;subst hr;obtain⟨t,rfl⟩:=ru;exact P.repr_of_int (by rw[I.pd,G6]at hs;exact of_decide_eq_true hs) ⟨.str _,H,J.tok _,⟨_,rfl⟩,q⟩
 | str x=>rw[RpI]at hr;subst hr;obtain⟨t,rfl⟩:=ru;exact P.repr_of_str ⟨.str _,H,J.tok _,⟨_,rfl⟩,q⟩ hl
 | tup is=>
  have:∃a,v=.ref a:=by rw[RpI]at hr;obtain⟨a,xs,rfl,_⟩:=hr;exact⟨a,rfl⟩
  obtain⟨a,rfl⟩:=this;exact iR hc hu Uq s Z H [.ref a] [u] Q J rv ⟨a,_,rfl,hr,hn,hs,hd,hl,q⟩
 | fd ks is=>
  have:∃a,v=.ref a:=by rw[RpI]at hr;obtain⟨a,o,xs,rfl,_⟩:=hr;exact⟨a,rfl⟩
  obtain⟨a,rfl⟩:=this;exact iR hc hu Uq s Z H [.ref a] [u] Q J rv ⟨a,_,rfl,hr,hn,hs,hd,hl,q⟩
 | ls is=>cases hn
 | exn _ _ _=>cases hn
abbrev tD1(i:Nat)(n:Int):TE:=λZ H Q=>∃k:Key,Z[i]?=some (some (kV k))/\∀p,H p=none->Q (.ref p) (upd H p (.dK [(k,.int n)]))
def zE{i j:Nat}{n:Int}{x:Str}{p q pos:Pos}(hv:PE X (.Name x p) (l4 i)):PE X (.Dict [some (.Name x p)] [.Constant (.int n) j q] pos) (tD1 i n):=by
 intro Uq s Z H Q I h;obtain⟨k,hk,h⟩:=h;apply wpAny_Dict_pairs (knd:=cB X.prog X.w) (pairs:=[(eval (.Name x p) X.env,do let y <-eval (.Constant (.int n) j q) X.env;GP pos;pure y)]) rfl ∅ (DJ (B6 _)) ?_;have I1:Inv X Uq Z (upd H s.heap.objs.size (.dK [])) {s with heap:=s.heap.push {cls:=.type "dict",data:=.dict #[]}}:=I.laid (a:=s.heap.objs.size) (o:=.dK []) (t':=s.toks) (λ_ _ q=>EN _ q) (Bg _) (pb s.heap I.big);apply evalPairs_cons (thn (hv Uq _ Z _ (λv H1=>v=kV k/\H1=upd H s.heap.objs.size (.dK [])) I1 ⟨_,hk,rfl,rfl⟩) λu s1 ⟨v,H1,I2,rv,e1,e2⟩=>?_);subst e1 e2;apply EL (thn (qz (X:=X) (i:=n) (j:=j) (pos:=q) Uq s1 Z _ (λv H1=>v=.int n/\H1=upd H s.heap.objs.size (.dK [])) I2 ⟨rfl,rfl⟩) λu2 s2 ⟨v,H1,I3,rv2,e1,e2⟩=>?_);subst e1 e2;have ha:=show Ec X.prog X.w _ s2.heap s.heap.objs.size (.dK [])from I3.hok s.heap.objs.size _ aq;obtain⟨z,hd0,vs,rel,dd⟩:=ha;cases rel;apply EL (Gd (EO (evalPairs_nil ⟨[(k,u2)],⟨zk rv,rfl,FU⟩,dd,λh' hd hs=>?_⟩)));have he:∃q,h'.get? s.heap.objs.size=some q:=let ⟨q,_,_,hq,_⟩:=hd;⟨q,hq⟩
 have I4:=I3.write (x:=s.heap.objs.size) (e:=s.heap.objs.size) (t':=s2.toks+1) (o:=.dK [(k,.int n)]) (by rw[aq];exact FU) (.inl rfl) (λb q hb z=>(hs.2 b hb).trans z) he (show Ec X.prog X.w _ h' _ (.dK [(k,.int n)])from⟨by rw[EV];show 1<=16777216;decide,hd0,_,.cons ⟨rfl,rv2⟩ .nil,hd⟩);rw[uI]at I4;exact⟨.ref s.heap.objs.size,_,I4,rfl,h _ (I.hok.fresh (Bg _))⟩
end
abbrev pR(i:I):Option Key:=match i with
 | .int n=>some (.inl n)
 | .str x=>some (.inr x)
 | _=>none
section
variable {K:yF}{H:Hp}
def tj{i:I}{q:Key}(e:pR i=some q):i=jM q:=by
 unfold pR at e;split at e<;>cases e<;>rfl
def New.di{ps:List (Key×V)}{kvs:List (I×I)}{p:Addr}(hp:H p=none)(hk:ps.map (λq=>jM q.1)=kvs.map (·.1))(h:td K H (kvs.map (·.2)) (ps.map (·.2))):New K H (upd H p (.dK ps)) (.di kvs) (.ref p):=by
 apply⟨Ei.laid hp,[p],?_,by simp,λa ha=>?_⟩
 ·rw[Rp];apply⟨p,ps.map (λq=>(jM q.1,q.2)),rfl,⟨ps,aq,rfl⟩,?_,?_,rfl⟩
  ·have:(ps.map (λq=>(jM q.1,q.2))).map (·.2)=ps.map (·.2):=by rw[Cj];rfl
   rw[this];exact h.same (Ei.laid hp)
  ·rw[Cj,<-hk];rfl
 ·cases ysM ha;exact⟨hp,_,aq,rfl⟩
def pS{a b:Key}(h:jM a=jM b):a=b:=by cases a<;>cases b<;>(unfold jM at h;cases h)<;>rfl
end
section
variable {X:Cx}{Uq:List (Addr×Obj)}{Z:St}{H:Hp}{s:EM}
def Inv.frz{a:Addr}{xs:List V}(I:Inv X Uq Z H s)(h:H a=some (.lst xs)):∃o,Inv X Uq Z (upd H a (.frz o (.lst xs))) s:=by
 obtain⟨z,its,n,r,e⟩:=(show Ec X.prog X.w H s.heap a (.lst xs)from I.hok a _ h);exact⟨_,I.write (t':=s.toks) (h':=s.heap) (by rw[h];exact FU) (.inl rfl) (λb u _ q=>q) ⟨_,e⟩ ⟨e,z,its,n,r,e⟩⟩
abbrev Af(t:TE):TE:=λZ H Q=>t Z H λv H1=>∃a xs,v=.ref a/\H1 a=some (.lst xs)/\∀o,Q v (upd H1 a (.frz o (.lst xs)))
def xk{e:Expr}{t:TE}(h:PE X e t):PE X e (Af t):=by
 intro Uq s Z H Q I q;apply thn (h Uq s Z H _ I q) λu s1 ⟨v,H1,I1,rv,a,xs,ev,hl,q1⟩=>?_;obtain⟨o,I2⟩:=I1.frz hl;exact⟨v,_,I2,rv,q1 o⟩
abbrev vP(i:Nat):TE:=λZ H Q=>∃v,Z[i]?=some (some v)/\((∃a xs,v=.ref a/\H a=some (.lst xs)/\∀o,Q v (upd H a (.frz o (.lst xs))))\/Q v H)
def tV{i:Nat}{e:Expr}(h:PE X e (l4 i)):PE X e (vP i):=by
 intro Uq s Z H Q I q;obtain⟨v,hv,q⟩:=q;apply thn (h Uq s Z H (λw H1=>w=v/\H1=H) I ⟨v,hv,rfl,rfl⟩) λu s1 ⟨w,H1,I1,rv,e1,e2⟩=>?_;subst e1 e2;rcases q with⟨a,xs,ev,hl,q⟩|q
 ·obtain⟨o,I2⟩:=I1.frz hl;exact⟨w,_,I2,rv,q o⟩
 ·exact⟨w,_,I1,rv,q⟩
end
abbrev sO(r:R):Option I:=match r.k with
 | .ow=>(match r.t with
  | .li is=>some (.ls is)
  | _=>none)
 | _=>none
def kB{r:R}{i:I}(h:sO r=some i):∃is,r=⟨.ow,.li is⟩/\i=.ls is:=by
 obtain⟨k,t⟩:=r;unfold sO at h;dsimp only at h;split at h
 ·split at h;cases h;exact⟨_,rfl,rfl⟩;cases h
 ·cases h
private def tq(a:ME):ME:=⟨λO=>match a.run O with
 | some (r,O1)=>(match sO r with
  | some i=>some (⟨.ow,.im i⟩,O1)
  | none=>none)
 | none=>none,a.mu⟩
section
variable {K:yF}
def u8{H:Hp}{a:Addr}{xs:List V}(h:Rd H a (.lst xs))(m:Mu H a):H a=some (.lst xs):=by
 rcases h with h|⟨o,h⟩;exact h
 ·obtain⟨u,e,z⟩:=m;rw[h]at e;cases e;cases z
def ui{ta:TE}{a:ME}(ha:aP K ta a):aP K (Af ta) (tq a):=by unhygienic
 intro Γ H O Z E Q r O' hK hr S q;dsimp[tq]at hr;split at hr
 ·delta ra O1 e1;split at hr
  ·delta i e2;cases hr;obtain⟨is,rfl,rfl⟩:=kB e2;apply ha Γ H O Z E _ _ _ hK e1 S λx H1 S1=>?_;obtain⟨F,r0,nd,mu,k⟩:=Sim.use (vs:=[x]) (ts:=[.li is]) S1 rfl;rw[Rps]at r0;obtain⟨y,r,F1,F2,e3,h1,h2,rfl⟩:=r0;cases e3;rw[Rps]at h2;obtain⟨_,rfl⟩:=h2;rw[Rp]at h1;obtain⟨b,xs,rfl,g1,g2,rfl⟩:=h1;have hb:=u8 g1 (mu b ∅);apply⟨b,xs,rfl,hb,λo=>q _ _ (k _ _ _ [] ?_ ?_ BO ∅ (cu ?_))⟩;exact Ed.upd.mono ∅
   ·intro c hc;have:c=b:=by exists hc
    subst this;exact⟨_,aq⟩
   ·rw[RpI];apply⟨b,o,xs,rfl,aq,?_⟩;exact td.off (M:=[b]) Ed.upd (λc hc=>by rw[ysM hc];exact mu _ ∅) g2
  ·cases hr
 ·cases hr
private def oi(i:Nat):ME:=⟨λO=>match O[i]? with
 | some (some r)=>(match sO r with
  | some j=>some (⟨.ow,.im j⟩,(au [i] O).set i (↥j))
  | none=>(match r.t with
   | .im j=>some (⟨.ow,.im j⟩,O)
   | _=>none))
 | _=>none,[i]⟩
def uj{i:Nat}:aP K (vP i) (oi i):=by unhygienic
 intro Γ H O Z E Q r O' hK hr S q;dsimp[oi]at hr;split at hr
 ·delta r0 h0;split at hr
  ·delta j e2;cases hr;obtain⟨is,rfl,rfl⟩:=kB e2;obtain⟨v,hv,S2⟩:=S.var h0;obtain⟨G,F,g1,g2,nd,mu,k⟩:=Sim.mut (vs:=[]) (ts:=[]) (p:=[]) S2 rfl h0 rfl;have:=g2.nil_inv.2;subst this;rw[Rp]at g1;obtain⟨b,xs,rfl,g3,g4,rfl⟩:=g1;have hb:=u8 g3 (mu b ∅);apply⟨_,hv,.inl ⟨b,xs,rfl,hb,λo=>?_⟩⟩;have rp:RpI Γ.K (upd H b (.frz o (.lst xs))) (.ls is) (.ref b):=by
    rw[RpI];apply⟨b,o,xs,rfl,aq,?_⟩;exact td.off (M:=[b]) Ed.upd (λc hc=>by rw[ysM hc];exact mu _ ∅) g4
   have S3:=k (upd H b (.frz o (.lst xs))) (.im (.ls is)) [] Ed.upd (λc hc=>by
    have:c=b:=by exists hc
    subst this;exact⟨_,aq⟩) BO ∅ (cu rp)
   exact q _ _ (S3.imm rp)
  ·split at hr
   ·delta j e3;cases hr;obtain⟨v,hv,S2⟩:=S.var h0;obtain⟨k0,t0⟩:=r0;replace e3:t0=.im j:=e3;subst e3;have R0:Rpx Γ.K H (.im j) v:=by
     have:=S2.rd (e:=⟨none,v,rdR i ⟨k0,.im j⟩⟩) ymS;cases k0<;>exact this
    exact⟨v,hv,.inr (q _ _ ((S.weak [i]).imm (bE R0)))⟩
   ·cases hr
 ·cases hr
end
section
variable {ι : Type}{C:ι->Cx}{P:EU}{W:E4}{K:yF}{mg:Str->Option EK}{base:Heap}{k:Nat}{a b:Expr}{ma mb:ME}{pos:Pos}
def zL(ha:QE C K a ma):QE C K a (tq ma):=by
 obtain⟨ta,p,r⟩:=ha;exact⟨_,λi=>xk (p i),ui r⟩
def zM(i:Nat){x:Str}(hN:∀j,(C j).N[i]?=some x:=by intro _;rfl)(hv:∀j,Vis (C j).env.scope x:=by intro _;first|exact E8 rfl|exact EX (E8 rfl)|exact EX (EX rfl))(hd:(x==("__debug__" : Str))=false:=by decide)(hcd:(x==("__classdict__" : Str))=false:=by decide):QE C K (.Name x pos) (oi i):=
 ⟨_,λj=>tV (bS (hN j) (hv j) hd hcd),uj⟩
end
section
variable {m:ME}{O:Rho}{QF:R->Rho->Prop}{i:Nat}{is:List I}{j:I}{k:Kd}
def yo(h : O[i]?=some (⇑(.li is)))(q:QF ⟨.ow,.im (.ls is)⟩ ((au [i] O).set i (↥(.ls is)))):WE (oi i) O QF:=by unhygienic
 exact⟨_,_,by dsimp[oi,h];rfl,q⟩
end
private def keysT:List T->Option T:=l1 λt=>match t with
 | .di kvs=>some (.li (kvs.map (·.1)))
 | _=>none
abbrev u6:List Key->List I->Key->Option I
 | k::ks,i::is,q=>if k=q then some i else u6 ks is q
 | _,_,_=>none
private def fdgT(t u:T):Option T:=match t with
 | .im i=>(match i with
  | .fd ks is=>(match u with
   | .im k=>(match pR k with
    | some q=>(u6 ks is q).map T.im
    | none=>none)
   | _=>none)
  | _=>none)
 | _=>none
abbrev eH(i:I):Bool:=i.nls&&(i.pd.showable&&(decide (i.pd.depth<=50)&&decide (i.pd.shown.length<=sizeLine)))
abbrev yX(kvs:List (I×I)) (k v:I):Option T:=match pR k with
 | some _=>if(xB kvs k v).length<=sizeLine then some (.di (xB kvs k v))else none
 | none=>none
abbrev yY(s k v:T):Option T:=match s with
 | .di kvs=>(match k with
  | .im ki=>(match v with
   | .im vi=>yX kvs ki vi
   | _=>none)
  | _=>none)
 | _=>none
private def mDSub(j:Nat)(o i:ME):MG:=⟨λr O=>match r with
 | ⟨.ow,tv⟩=>match o.run O with
  | some (⟨.vw (some j') (some p),s⟩,O1)=>match i.run O1 with
   | some (ri,O2)=>if(decide (j'=j) && !i.mu.contains j)=true then(match yY s ri.t tv with
    | some s'=>(match O2[j]? with
     | some (some ⟨k,t⟩)=>if k.isOw=true then some ((au [j] O2).set j (some ⟨k,t.put p s'⟩))else none
     | _=>none)
    | none=>none)else none
   | none=>none
  | _=>none
 | _=>none,(o.mu++i.mu)++[j]⟩
abbrev kF:List (I×I)->Option (List Key)
 | []=>some []
 | p::r=>match pR p.1 with
  | some q=>(kF r).map (q :: ·)
  | none=>none
abbrev sN(r:R):Option I:=match r.k with
 | .ow=>(match r.t with
  | .di kvs=>(kF kvs).map λks=>.fd ks (kvs.map (·.2))
  | _=>none)
 | _=>none
private def i6(a:ME):ME:=⟨λO=>match a.run O with
 | some (r,O1)=>(match sN r with
  | some i=>some (⟨.ow,.im i⟩,O1)
  | none=>none)
 | none=>none,a.mu⟩
section
variable {K:yF}{H:Hp}
def kG:∀{kvs:List (I×I)} {ks:List Key} {zs:List (Key×V)},kF kvs=some ks->zs.map (λz=>jM z.1)=kvs.map (·.1)->zs.map (·.1)=ks
 | [],_,zs,e,h=>by cases e;cases zs with|nil=>rfl|cons _ _=>cases h
 | p::r,ks,zs,e,h=>by
  cases zs with
  | nil=>cases h
  | cons z zs=>
   rw[Bj,Bj,CH.injEq]at h;rw[kF]at e;split at e
   ·delta q e1;obtain⟨ks',e2,rfl⟩:=BS.mp e;rw[Bj,kG e2 h.2,pS (h.1.trans (tj e1))]
   ·cases e
abbrev vL(t:TE):TE:=λZ H Q=>t Z H λv H1=>∃a ys,v=.ref a/\H1 a=some (.dK ys)/\∀o,Q v (upd H1 a (.frz o (.dK ys)))
def tT{X:Cx}{e:Expr}{t:TE}(h:PE X e t):PE X e (vL t):=by
 intro Uq s Z H Q I q;apply thn (h Uq s Z H _ I q) λu s1 ⟨v,H1,I1,rv,a,ys,ev,hl,q1⟩=>?_;have ob:∃o,s1.heap.get? a=some o:=by
  obtain⟨_,_,_,_,o,_,_,e,_⟩:=(show Ec X.prog X.w H1 s1.heap a (.dK ys)from I1.hok a _ hl);exact⟨o,e⟩
 obtain⟨o,e⟩:=ob;obtain⟨z1,z2,z3⟩:=(show Ec X.prog X.w H1 s1.heap a (.dK ys)from I1.hok a _ hl);exact⟨v,_,I1.write (t':=s1.toks) (h':=s1.heap) (by rw[hl];exact FU) (.inl rfl) (λb u _ q=>q) ⟨_,e⟩ (show Ec X.prog X.w _ s1.heap a (.frz o (.dK ys))from⟨e,z1,z2,z3⟩),rv,q1 o⟩
def pB{r:R}{i:I}(h:sN r=some i):∃kvs ks,r=⟨.ow,.di kvs⟩/\kF kvs=some ks/\i=.fd ks (kvs.map (·.2)):=by
 obtain⟨k,t⟩:=r;unfold sN at h;dsimp only at h;split at h
 ·split at h
  ·obtain⟨ks,e,rfl⟩:=BS.mp h;exact⟨_,ks,rfl,e,rfl⟩
  ·cases h
 ·cases h
def rF{ta:TE}{a:ME}(ha:aP K ta a):aP K (vL ta) (i6 a):=by unhygienic
 intro Γ H O Z E Q r O' hK hr S q;dsimp[i6]at hr;split at hr
 ·delta ra O1 e1;split at hr
  ·delta i e2;cases hr;obtain⟨kvs,ks,rfl,e4,rfl⟩:=pB e2;apply ha Γ H O Z E _ _ _ hK e1 S λx H1 S1=>?_;obtain⟨F,r0,nd,mu,k⟩:=Sim.use (vs:=[x]) (ts:=[.di kvs]) S1 rfl;rw[Rps]at r0;obtain⟨y,r,F1,F2,e3,h1,h2,rfl⟩:=r0;cases e3;rw[Rps]at h2;obtain⟨_,rfl⟩:=h2;rw[Rp]at h1;obtain⟨b,ys,rfl,⟨zs,hz,rfl⟩,g1,g2,rfl⟩:=h1;rw[Cj]at g1 g2;apply⟨b,zs,rfl,hz,λo=>q _ _ (k _ _ _ [] ?_ ?_ BO ∅ (cu ?_))⟩;exact Ed.upd.mono ∅
   ·intro c hc;have:c=b:=by exists hc
    subst this;exact⟨_,aq⟩
   ·rw[RpI];apply⟨b,o,zs,rfl,aq,kG e4 g2,?_⟩;exact td.off (M:=[b]) Ed.upd (λc hc=>by rw[ysM hc];exact mu _ ∅) g1
  ·cases hr
 ·cases hr
end
section
variable {ι : Type}{C:ι->Cx}{P:EU}{W:E4}{K:yF}{mg:Str->Option EK}{base:Heap}{k:Nat}{a b e o:Expr}{es:List Expr}{ma mb mo mi m:ME}{ms:MA}{pos:Pos}
def xD(h:QE C K e m):QE C K e (i6 m):=by
 obtain⟨t,p,r⟩:=h;exact⟨_,λi=>tT (p i),rF r⟩
end
section
variable {a b m:ME}{O:Rho}{QF:R->Rho->Prop}{QG':Rho->Prop}{Q:T->Prop}
def yn(h:WE m O λr O1=>∃i,sN r=some i/\QF ⟨.ow,.im i⟩ O1):WE (i6 m) O QF:=by unhygienic
 obtain⟨r,O1,e,i,e2,q⟩:=h;exact⟨_,_,by dsimp[i6,e,e2],q⟩
end
open AutoSeq1 (wpAny_loadPart')
open MeetsSeq MeetsSeq2 MeetsSeq3 SeqRoads2
open PySem.W (KasT kas_sort)
structure Ord(f:Nat->Nat->Bool):Prop where
 as:∀{i j},f i j=true->f j i=false
 tr:∀{i j k},f j i=false->f k j=false->f k i=false
open PySem.W (KasT kas_sort kas_ask kat_run kat_snds KatLex kat_lt kat_cons kat_nil kat_one kat_yes kat_no kat_kind KatTups)
open PySem.W (KasT kas_sort kas_ask kat_run kat_snds KatLex KatGo kat_lt kat_cons kat_nil kat_one kat_yes kat_no kat_kind KatTups)
abbrev one(z:Str):List Str:=[z]
open PySem.W (Frag)
mutual
noncomputable def I.noex:I->Bool
 | .exn _ _ _=>false|.tup is=>I.noexs is|.ls is=>I.noexs is|.fd _ is=>I.noexs is|.non=>true|.bl _=>true|.int _=>true|.str _=>true
noncomputable def I.noexs:List I->Bool
 | []=>true
 | i::is=>i.noex&&I.noexs is
end
abbrev pH:HO->Bool
 | .ext _=>true|_=>false
mutual
theorem RpI.ext{K:Frag}{H H':Hp}(x:∀b o,H b=some o->pH o=false->H' b=some o):∀{t:I} {v:V},t.noex=true->RpI K H t v->RpI K H' t v
 | .non,_,_,h=>by rw[RpI]at h|-;exact h
 | .bl _,_,_,h=>by rw[RpI]at h|-;exact h
 | .int _,_,_,h=>by rw[RpI]at h|-;exact h
 | .str _,_,_,h=>by rw[RpI]at h|-;exact h
 | .tup ts,_,n,h=>by
  rw[RpI]at h|-;obtain⟨a,xs,h1,h2,h3⟩:=h;apply⟨a,xs,h1,?_,td.ext x (by rw[I.noex]at n;exact n) h3⟩;rcases h2 with(h|⟨u,h⟩)|h;exact .inl (.inl (x a _ h rfl));exact .inl (.inr ⟨u,x a _ h rfl⟩);exact .inr h
 | .ls ts,_,n,h=>by
  rw[RpI]at h|-;obtain⟨a,o,xs,h1,h2,h3⟩:=h;exact⟨a,o,xs,h1,x a _ h2 rfl,td.ext x (by rw[I.noex]at n;exact n) h3⟩
 | .fd ks ts,_,n,h=>by
  rw[RpI]at h|-;obtain⟨a,o,ys,h1,h2,h3,h4⟩:=h;exact⟨a,o,ys,h1,x a _ h2 rfl,h3,td.ext x (by rw[I.noex]at n;exact n) h4⟩
 | .exn _ _ _,_,n,_=>by rw[I.noex]at n;cases n
theorem td.ext{K:Frag}{H H':Hp}(x:∀b o,H b=some o->pH o=false->H' b=some o):∀{ts:List I} {xs:List V},I.noexs ts=true->td K H ts xs->td K H' ts xs
 | [],_,_,h=>by rw[td]at h|-;exact h
 | t::ts,_,n,h=>by
  rw[I.noexs,A9]at n;rw[td]at h|-;obtain⟨y,r,h1,h2,h3⟩:=h;exact⟨y,r,h1,RpI.ext x n.1 h2,td.ext x n.2 h3⟩
end
abbrev cA(run:List T->Option T):List T->Option (List I)
 | []=>some []
 | t::ts=>match run [t]with
  | some (.im i)=>(cA run ts).map (i :: ·)
  | _=>none
private def exR(x:Str)(ks:List Str)(run:List T->Option T)(ts:List T):Option T:=match cA run ts with
 | some is=>if(decide (is.length=ks.length)&&I.noexs is)=true then some (.im (.exn x ks is))else none
 | none=>none
abbrev uB(K:Frag)(run:List T->Option T):List Str->Sp
 | []=>kc K
 | [F]=>vI K F (spP K run)
 | [F,G]=>vJ K F G (spP K run)
 | _=>λ_ _ _ _=>False
abbrev bM(P:EU)(W:E4)(K:Frag)(mg:Str->Option EK)(base:Heap)(k:Nat)(x:Str)(ks:List Str)(run:List T->Option T):Prop:=
 ∃(C f:Addr) (fd:Fm) (ps:List Str),ks.length<=2/\mg x=some (.ref C)/\BP K E3 x=some (some (.ref C))/\EMk K C f/\Ek K fd ps []/\Ep P W K mg base CX0 k f fd ps (uB K run ks)/\∀F∈ks,El K C F
def k9{K:Frag}{run:List T->Option T}:lm (spP K run):=λvs H Q Q' E ⟨ts,t,h1,h2,h3⟩ h=>⟨ts,t,h1,h2,λv H' n=>h v H' (h3 v H' n)⟩
section
variable {K:Frag}{H:Hp}
def Et.same{H':Hp}(s:Ei H H'):∀{ts:List T} {vs:List V},Et K H ts vs->Et K H' ts vs
 | [],_,h=>h
 | t::ts,_,⟨v,r,e,⟨F,h1⟩,h2⟩=>⟨v,r,e,⟨F,h1.same s⟩,h2.same s⟩
def iu{a:Addr}{o:HO}(h:H a=none):Ei H (upd H a o):=(Ei.refl H).put h
def cg{run:List T->Option T}{t:T}{ts:List T}{is:List I}(h:cA run (t::ts)=some is):∃i js,run [t]=some (.im i)/\cA run ts=some js/\is=i::js:=by
 rw[cA]at h;split at h
 ·delta i e;obtain⟨js,e2,rfl⟩:=BS.mp h;exact⟨i,js,e,e2,rfl⟩
 ·cases h
def f9{run:List T->Option T}:∀{ts:List T} {is:List I},cA run ts=some is->is.length=ts.length
 | [],_,h=>by cases h;rfl
 | t::ts,_,h=>by obtain⟨i,js,_,h2,rfl⟩:=cg h;rw[Bf,Bf,f9 h2]
def mZ{C:Addr}{x:Str}{ks:List Str}{run:List T->Option T}(hk:ks.length<=2)(hn:BP K E3 x=some (some (.ref C)))(ex:ExK K C)(na:∀F∈ks,El K C F) :
  fZ K (λvs H1 Q=>vs.length<=100/\∀x,H1 x=none->uB K run ks (.ref x::vs) (upd H1 x (exF C x)) (λv H2=>v=.non/\Q (.ref x) H2) E0) (exR x ks run):=by
 intro H vs ts t Q r e q;unfold exR at e;split at e
 ·delta is e1;split at e
  ·delta hc;cases e;rw[A9,decide_eq_true_eq]at hc;obtain⟨hl,hx⟩:=hc;have hts:=f9 e1
   match ks,is,ts,hk,hl,hts,e1,hx,na with
   | [],[],[],_,_,_,_,_,_=>
    cases (show vs=[]from r);apply⟨B6 _,λa ha=>⟨a,C,rfl,aq,ex,rfl,q _ _ ⟨iu ha,[],?_,BO,λ_ h=>nomatch h⟩⟩⟩;apply cu ?_;rw[RpI];exact⟨C,a,rfl,hn,.inl ⟨rfl,rfl,aq⟩⟩
   | [F],[i],[t1],_,_,_,e1,hx,na=>
    obtain⟨v,rfl,r1⟩:=k8 r;obtain⟨i',js,k1,k2,k3⟩:=cg e1;cases k3;rw[I.noexs,A9]at hx;apply⟨(show 1<=100 by decide),λa ha=>⟨a,C,v,rfl,aq,ex,na F ymS,⟨[t1],.im i,r.same (iu ha),k1,λw H' nw=>?_⟩⟩⟩;obtain⟨sm,F',rp,_,_⟩:=nw;have ri:=(aS rp).1;have haH:H' a=some (exF C a):=sm a _ aq;apply⟨haH,λdx hd hne=>⟨rfl,q _ _ ⟨?_,[],cu ?_,BO,λ_ h=>nomatch h⟩⟩⟩
    ·intro b o hb;have h1:b≠a:=λz=>by rw[z,ha]at hb;cases hb
     have h2:H' b=some o:=sm b o (by rw[upd_ne h1];exact hb);have h3:b≠dx:=λz=>by rw[z,hd]at h2;cases h2
     rw[upd_ne h1,upd_ne h3];exact h2
    ·rw[RpI];apply⟨C,a,rfl,hn,.inr ⟨dx,[(F,w)],aq,by rw[upd_ne hne];exact aq,rfl,td.one (RpI.ext (λb o hb ho=>?_) hx.1 ri)⟩⟩;have h1:b≠a:=λz=>by rw[z,haH]at hb;cases hb;cases ho
     have h3:b≠dx:=λz=>by rw[z,hd]at hb;cases hb
     rw[upd_ne h1,upd_ne h3];exact hb
   | [F,G],[i,j],[t1,t2],_,_,_,e1,hx,na=>
    obtain⟨v,u,rfl,r1,r2⟩:=A1 r;obtain⟨i',js,k1,k2,k3⟩:=cg e1;cases k3;obtain⟨j',js',k4,k5,k6⟩:=cg k2;cases k6;rw[I.noexs,A9,I.noexs,A9]at hx;apply⟨(show 2<=100 by decide),λa ha=>⟨a,C,v,u,rfl,aq,ex,na F ymS,na G (ymC _ ymS),⟨[t1],.im i,⟨v,[],rfl,let ⟨F1,z⟩:=r1;⟨F1,z.same (iu ha)⟩,rfl⟩,k1,λw H' nw=>?_⟩⟩⟩;obtain⟨sm,F',rp,_,_⟩:=nw;have ri:=(aS rp).1;have haH:H' a=some (exF C a):=sm a _ aq;apply⟨haH,λdx hd hne=>?_⟩;have sm2:Ei H (upd (upd H' dx (exX [(F,w)] dx)) a (exD C dx a)):=by
     intro b o hb;have h1:b≠a:=λz=>by rw[z,ha]at hb;cases hb
     have h2:H' b=some o:=sm b o (by rw[upd_ne h1];exact hb);have h3:b≠dx:=λz=>by rw[z,hd]at h2;cases h2
     rw[upd_ne h1,upd_ne h3];exact h2
    have rw':RpI K (upd (upd H' dx (exX [(F,w)] dx)) a (exD C dx a)) i w:=RpI.ext (λb o hb ho=>by
     have h1:b≠a:=λz=>by rw[z,haH]at hb;cases hb;cases ho
     have h3:b≠dx:=λz=>by rw[z,hd]at hb;cases hb
     rw[upd_ne h1,upd_ne h3];exact hb) hx.1 ri
    apply⟨[t2],.im j,⟨u,[],rfl,let ⟨F1,z⟩:=r2;⟨F1,z.same sm2⟩,rfl⟩,k4,λz H2 nz=>?_⟩;obtain⟨sm3,F2,rp2,_,_⟩:=nz;have rj:=(aS rp2).1;have e2:H2 a=some (exD C dx a):=sm3 a _ aq;have e3:H2 dx=some (exX [(F,w)] dx):=sm3 dx _ (by rw[upd_ne hne];exact aq);have off:∀b o,H2 b=some o->pH o=false->upd H2 dx (exX [(F,w),(G,z)] dx) b=some o:=λb o hb ho=>by
     have h3:b≠dx:=λz=>by rw[z,e3]at hb;cases hb;cases ho
     rw[upd_ne h3];exact hb
    apply⟨e2,e3,rfl,q _ _ ⟨?_,[],cu ?_,BO,λ_ h=>nomatch h⟩⟩
    ·intro b o hb;have h2:=sm3 b o (sm2 b o hb);have h1:b≠a:=λz=>by rw[z,ha]at hb;cases hb
     have h0:H' b=some o:=sm b o (by rw[upd_ne h1];exact hb);have h3:b≠dx:=λz=>by rw[z,hd]at h0;cases h0
     rw[upd_ne h3];exact h2
    ·rw[RpI];exact⟨C,a,rfl,hn,.inr ⟨dx,[(F,w),(G,z)],by rw[upd_ne (Ff hne)];exact e2,aq,rfl,.cons (RpI.ext off hx.1 (rw'.same sm3)) (.one (RpI.ext off hx.2.1 rj))⟩⟩
  ·cases e
 ·cases e
end
section
variable {ι : Type}{C:ι->Cx}{P:EU}{W:E4}{K:Frag}{mg:Str->Option EK}{base:Heap}{k j:Nat}{e:Expr}{es:List Expr}{m:ME}{ms:MA}{x:Str}{p pos:Pos}{ks:List Str}{run:List T->Option T}
def cJ(ck:CK C P W K mg base k)(h:bM P W K mg base j x ks run)(ha:QA C K (e::es) ms)(hj:j+1<=k:=by first|decide|omega)(hg:∀i,Gl (C i) x:=by intro _;rfl)(hdb:(x==("__debug__" : Str))=false:=by decide):QE C K (.Call (.Name x p) (e::es) [] pos) (mB (exR x ks run) ms):=by
 obtain⟨A,f,fd,ps,h1,h2,h3,h4,h5,h6,h7⟩:=h;obtain⟨ta,q,n,r⟩:=ha;exact⟨_,λi=>qw (C:=A) (f:=f) (fd:=fd) (ps:=ps) (CX:=CX0) (k:=j) (sp:=uB K run ks) (by rw[ck.kk i];exact h4) (by rw[ck.prog i,ck.w i,ck.kk i,ck.mg i,ck.base i];exact h6) ((ck.room i).mono hj) (hg i) (by rw[ck.mg i];exact h2) (by rw[ck.kk i];exact h5) mU (q i) n hdb,jh (mZ h1 h3 h4.ex h7) r⟩
def jf(ck:CK C P W K mg base k)(h:bM P W K mg base j x ks run)(hj:j+1<=k:=by first|decide|omega)(hg:∀i,Gl (C i) x:=by intro _;rfl)(hdb:(x==("__debug__" : Str))=false:=by decide):QE C K (.Call (.Name x p) [] [] pos) (mB (exR x ks run) mNil):=by
 obtain⟨A,f,fd,ps,h1,h2,h3,h4,h5,h6,h7⟩:=h;exact⟨_,λi=>ou (C:=A) (f:=f) (fd:=fd) (ps:=ps) (CX:=CX0) (k:=j) (sp:=uB K run ks) (by rw[ck.kk i];exact h4) (by rw[ck.prog i,ck.w i,ck.kk i,ck.mg i,ck.base i];exact h6) ((ck.room i).mono hj) (hg i) (by rw[ck.mg i];exact h2) (by rw[ck.kk i];exact h5) mU hdb,jh (mZ h1 h3 h4.ex h7) nu⟩
end
open PySem.W (Frag)
protected def Tab:=List (Str×List Str)
abbrev sX(x y:Str):Bool:=decide (x=y)||decide (y = "HouseError")
abbrev fX(K:Frag)(mg:Str->Option EK)(tab:Tab):Prop:=mg "ValueError" = none/\∀p∈tab,∃C,BP K E3 p.1=some (some (.ref C))/\mg p.1=some (.ref C)/\ExK K C/\(∀f∈p.2,El K C f) /\
 B7 K (.ref C) (.type "ValueError")=some true/\∀q∈tab,∃D,mg q.1=some (.ref D)/\B7 K (.ref C) (.ref D)=some (sX p.1 q.1)
abbrev gk(tab:Tab) (x:Str):Option (Str×List Str):=tab.find? λp=>decide (p.1=x)
def ff{tab:Tab}{x:Str}{p:Str×List Str}(h:gk tab x=some p):p∈tab/\p.1=x:=by
 unfold gk at h;exact⟨List.mem_of_find?_eq_some h,by simpa using List.find?_some h⟩
private def bv(tab:Tab)(f:Str)(t:T):Option T:=match t with
 | .im i=>(match i with
  | .exn x ks is=>(match gk tab x with
   | some p=>if p.2.contains f=true then(bK (ks.zip is) f).map T.im else none
   | none=>none)
  | _=>none)
 | _=>none
private def dt(tab:Tab)(y:Str)(t:T):Option T:=match t with
 | .im i=>(match i with
  | .exn x ks is=>(match gk tab x with
   | some p=>(match gk tab y with
    | some q=>some (.im (.bl (sX p.1 q.1)))
    | none=>none)
   | none=>none)
  | _=>none)
 | _=>none
private def kD(tab:Tab)(t:T):Option T:=match t with
 | .im i=>(match i with
  | .exn x ks is=>(match gk tab x with
   | some p=>some (.im (.bl true))
   | none=>none)
  | _=>none)
 | _=>none
def lj{K:Frag}{H:Hp}{f:Str}{i:I}:∀{ys:List (Str×V)} {is:List I},td K H is (ys.map (·.2))->bK ((ys.map (·.1)).zip is) f=some i->∃v,ys.lookup f=some v/\RpI K H i v
 | [],is,r,e=>by simp[bK]at e
 | (k,y)::ys,is,r,e=>by
  cases is with
  | nil=>have:=r.nil_inv;cases this
  | cons i0 is=>
   obtain⟨x,r',e1,h1,h2⟩:=r.cons_inv;cases e1;dsimp[Bj,List.zip_cons_cons,bK]at e;by_cases hk:k=f
   ·subst hk;rw[if_pos rfl]at e;cases e;exact⟨y,by rw[Bs,beq_self_eq_true],h1⟩
   ·rw[if_neg hk]at e;obtain⟨v,h3,h4⟩:=lj h2 e;exact⟨v,by rw[Bs,beq_eq_false_iff_ne.mpr (Ff hk)];exact h3,h4⟩
abbrev AZ(K:Frag)(f:Str):V->Hp->VK->Prop:=λx H1 Q=>∃a C dx fs v,x=.ref a/\H1 a=some (exD C dx a)/\H1 dx=some (exX fs dx)/\ExK K C/\El K C f/\fs.lookup f=some v/\Q v H1
def qG{K:Frag}{mg:Str->Option EK}{tab:Tab}(hE:fX K mg tab)(f:Str):fY K (AZ K f) (bv tab f):=by
 intro H x tx t Q r e q;unfold bv at e;split at e
 ·split at e
  ·delta z ks is;split at e
   ·delta p hp;obtain⟨m1,m2⟩:=ff hp;split at e
    ·delta hf;obtain⟨i,e1,rfl⟩:=BS.mp e;have r:=bE r;rw[RpI]at r;obtain⟨C,a,rfl,hn,h3⟩:=r;obtain⟨C',n1,n2,ex,na,_⟩:=hE.2 p m1;rw[m2,hn]at n1;cases n1;rcases h3 with⟨k1,k2,k3⟩|⟨dx,ys,k1,k2,k3,k4⟩;rw[k1]at e1;simp[bK]at e1
     ·subst k3;obtain⟨v,h4,h5⟩:=lj k4 e1;exact⟨a,C,dx,ys,v,rfl,k1,k2,ex,na f (by exists hf),h4,q _ _ (.im h5)⟩
    ·cases e
   ·cases e
  ·cases e
 ·cases e
abbrev lV(K:Frag)(w:V):V->Hp->VK->Prop:=λx H Q=>∃a C c b,x=.ref a/\(∀u,RelV w u->u=c)/\(H a=some (exF C a) \/ ∃dx fs,H a=some (exD C dx a)/\H dx=some (exX fs dx))/\ExK K C/\B7 K (.ref C) c=some b/\Q (.bl b) H
def ko{X:Cx}:Ej X (.builtin "isinstance") (λxs H Q=>∃x w,xs=[x,w]/\lV X.K w x H Q):=by
 intro Uq s Z H xs us Q I rv h;obtain⟨x,w,rfl,a,C,c,b,rfl,hw,h1,h2,h3,q⟩:=h;obtain⟨u,u',rfl,r1,r2⟩:=vQ rv;cases r1;have:=hw _ r2;subst this;exact pc I h1 h2 h3 λtk=>⟨.bl b,H,I.tok tk,rfl,q⟩
def qK{K:Frag}{mg:Str->Option EK}{tab:Tab}(hE:fX K mg tab){y:Str}{D:Addr}(hy:mg y=some (.ref D)):fY K (lV K (.ref D)) (dt tab y):=by
 intro H x tx t Q r e q;unfold dt at e;split at e
 ·split at e
  ·delta z ks is;split at e
   ·delta p hp;obtain⟨m1,m2⟩:=ff hp;split at e
    ·delta p' hp';obtain⟨m3,m4⟩:=ff hp';cases e;have r:=bE r;rw[RpI]at r;obtain⟨C,a,rfl,hn,h3⟩:=r;obtain⟨C',n1,n2,ex,na,nv,ni⟩:=hE.2 p m1;rw[m2,hn]at n1;cases n1;obtain⟨D',n3,n4⟩:=ni p' m3;rw[m4,hy]at n3;cases n3;exact⟨a,C,.ref D,_,rfl,λu h=>h,h3.imp (λz=>z.2.2) (fun⟨dx,ys,z1,z2,_⟩=>⟨dx,ys,z1,z2⟩),ex,n4,q _ _ (.sc rfl)⟩
    ·cases e
   ·cases e
  ·cases e
 ·cases e
def qJ{K:Frag}{mg:Str->Option EK}{tab:Tab}(hE:fX K mg tab):fY K (lV K (.ty "ValueError")) (kD tab):=by
 intro H x tx t Q r e q;unfold kD at e;split at e
 ·split at e
  ·delta z ks is;split at e
   ·delta p hp;obtain⟨m1,m2⟩:=ff hp;cases e;have r:=bE r;rw[RpI]at r;obtain⟨C,a,rfl,hn,h3⟩:=r;obtain⟨C',n1,n2,ex,na,nv,ni⟩:=hE.2 p m1;rw[m2,hn]at n1;cases n1;exact⟨a,C,.type "ValueError",_,rfl,λu h=>h,h3.imp (λz=>z.2.2) (fun⟨dx,ys,z1,z2,_⟩=>⟨dx,ys,z1,z2⟩),ex,nv,q _ _ (.sc rfl)⟩
   ·cases e
  ·cases e
 ·cases e
section
variable {ι : Type}{C:ι->Cx}{P:EU}{W:E4}{K:Frag}{mg:Str->Option EK}{base:Heap}{k j:Nat}{e:Expr}{es:List Expr}{m:ME}{ms:MA}{x y:Str}{p p1 pos:Pos}{tab:Tab}
def bc(ck:CK C P W K mg base k)(hE:fX K mg tab)(ha:QE C K e m)(hb:∀i,FF e x (C i).env (eval e (C i).env)=eval e (C i).env:=by intro _;rfl):QE C K (.Attribute e x pos) (mUn (bv tab x) m):=by
 obtain⟨ta,q,r⟩:=ha;apply⟨_,λi=>by have:=tR (pos:=pos) (q i) (hb i);rw[ck.kk i]at this;exact this,il (qG hE x) r⟩
def dr(ck:CK C P W K mg base k)(hE:fX K mg tab)(hb:mg "isinstance" = none)(hy:∃q∈tab,q.1=y)(ha:QE C K e m)(hg:∀i,Gl (C i) "isinstance" :=by intro _;rfl)(hg1:∀i,Gl (C i) y:=by intro _;rfl)
  (hs:bo e=false:=by rfl) (hdb:(y==("__debug__" : Str))=false:=by decide):QE C K (.Call (.Name "isinstance" p) [e,.Name y p1] [] pos) (mUn (dt tab y) m):=by
 obtain⟨q0,hq,rfl⟩:=hy;obtain⟨D,_,n2,_⟩:=hE.2 q0 hq;obtain⟨ta,q,r⟩:=ha;apply⟨_,λi=>cT (r:=λxs H Q=>∃x w,xs=[x,w]/\lV K w x H Q) (by have:=ko (X:=C i);rw[ck.kk i]at this;exact this) (hg i) (by rw[ck.mg i];exact hb) G5 (b6 (hs:=hs) (q i) (b6 (tU (pos:=p1) (v:=.ref D) (hg1 i) (by rw[ck.mg i];exact n2) rfl hdb) de)) (by show(!bo e&&true)=true;rw[hs];rfl),?_⟩;exact il (show fY K (λx H Q=>∃x' w',[x,.ref D]=[x',w']/\lV K w' x' H Q) (dt tab q0.1)from λH x tx t Q r e q=>⟨_,_,rfl,qK hE n2 H x tx t Q r e q⟩) r
def vm(ck:CK C P W K mg base k)(hE:fX K mg tab)(hb:mg "isinstance" = none)(ha:QE C K e m)(hg:∀i,Gl (C i) "isinstance" :=by intro _;rfl)(hg1:∀i,Gl (C i) "ValueError" :=by intro _;rfl)
  (hs:bo e=false:=by rfl):QE C K (.Call (.Name "isinstance" p) [e,.Name "ValueError" p1] [] pos) (mUn (kD tab) m):=by
 obtain⟨ta,q,r⟩:=ha;apply⟨_,λi=>cT (r:=λxs H Q=>∃x w,xs=[x,w]/\lV K w x H Q) (by have:=ko (X:=C i);rw[ck.kk i]at this;exact this) (hg i) (by rw[ck.mg i];exact hb) G5 (b6 (hs:=hs) (q i) (b6 (mV (pos:=p1) (hg1 i) (by rw[ck.mg i];exact hE.1) (by rfl') (vF "ValueError")) de)) (by show(!bo e&&true)=true;rw[hs];rfl),?_⟩;exact il (show fY K (λx H Q=>∃x' w',[x,.ty "ValueError"]=[x',w']/\lV K w' x' H Q) (kD tab)from λH x tx t Q r e q=>⟨_,_,rfl,qJ hE H x tx t Q r e q⟩) r
end
abbrev dtT(t:T):Option EW:=match t with
 | .im i=>if i.lay=true then some i.pd else none
 | .li is=>if I.lays is=true then some (.list (I.pds is))else none
 | _=>none
def fq{K:Frag}{H:Hp}{t:T}{x:V}{d:EW}(r:Rpx K H t x)(e:dtT t=some d):ED K H x d:=by
 unfold dtT at e;split at e
 ·delta i;split at e;cases e;exact .inl ⟨i,by assumption,bE r,rfl⟩;cases e
 ·delta is;split at e
  ·cases e;obtain⟨a,xs,rfl,h1,h2⟩:=bO r;exact .inr ⟨a,xs,is,rfl,h1,h2,by assumption,rfl⟩
  ·cases e
 ·cases e
abbrev dt2(f:EW->EW->Option Bool) (x y:T):Option T:=match dtT x with
 | some d=>(match dtT y with
  | some d'=>if d.depth<=50 then(f d d').map λb=>.im (.bl b)else none
  | none=>none)
 | none=>none
def jD{f:EW->EW->Option Bool}{x y t:T}(e:dt2 f x y=some t):∃d d' b,dtT x=some d/\dtT y=some d'/\d.depth<=50/\f d d'=some b/\t=.im (.bl b):=by
 unfold dt2 at e;split at e
 ·delta d e1;split at e
  ·delta d' e2;split at e
   ·delta h;obtain⟨b,e3,rfl⟩:=BS.mp e;exact⟨d,d',b,e1,e2,h,e3,rfl⟩
   ·cases e
  ·cases e
 ·cases e
private def kA:T->T->Option T:=dt2 λd d'=>some (Hy d d')
private def jR:T->T->Option T:=dt2 λd d'=>some (!PyData.eqv d d')
abbrev uX(d d':EW):Option Bool:=match d' with
 | .list ds=>some (ds.any λz=>Hy z d)
 | _=>none
private def pG:T->T->Option T:=dt2 uX
def qF{K:Frag}:cc K (xI K) kA:=by
 intro H x y tx ty t Q r1 r2 e q;unfold kA at e;obtain⟨d,d',b,h1,h2,h3,h4,rfl⟩:=jD e;cases h4;exact⟨d,d',fq r1 h1,fq r2 h2,h3,q _ _ (.sc rfl)⟩
def qQ{K:Frag}:cc K (xN K) jR:=by
 intro H x y tx ty t Q r1 r2 e q;unfold jR at e;obtain⟨d,d',b,h1,h2,h3,h4,rfl⟩:=jD e;cases h4;exact⟨d,d',fq r1 h1,fq r2 h2,h3,q _ _ (.sc rfl)⟩
def qH{K:Frag}:cc K (xK K) pG:=by
 intro H x y tx ty t Q r1 r2 e q;unfold pG at e;obtain⟨d,d',b,h1,h2,h3,h4,rfl⟩:=jD e;unfold uX at h4;split at h4
 ·cases h4;exact⟨d,_,fq r1 h1,fq r2 h2,h3,q _ _ (.sc rfl)⟩
 ·cases h4
def oY:dv .Eq kA:=⟨xI,λ_ hu=>wM hu,λ_=>qF⟩
def my:dv .NotEq jR:=⟨xN,λ_ hu=>wU hu,λ_=>qQ⟩
def yT:dv .In pG:=⟨xK,λ_ hu=>wQ hu,λ_=>qH⟩
private def oM:List T->Option T:=l1 λt=>match t with
 | .im i=>if eH i=true then some (.im (.str i.pd.shown))else none
 | _=>none
abbrev vB(K:Frag):List V->Hp->VK->Prop:=λxs H Q=>∃(v:V) (i:I),xs=[v]/\RpI K H i v/\i.nls=true/\i.pd.showable=true/\i.pd.depth<=50/\i.pd.shown.length<=sizeLine/\Q (.str i.pd.shown) H
def qS{K:Frag}:fZ K (vB K) oM:=by
 intro H vs ts t Q r e q;unfold oM at e;have e0:=eB e;clear e;obtain⟨x,rfl,e⟩:=e0;obtain⟨v,rfl,r1⟩:=k8 r;split at e
 ·delta i;split at e
  ·delta hc;cases e;unfold eH at hc;dsimp[A9,decide_eq_true_eq]at hc;obtain⟨h1,h2,h3,h4⟩:=hc;exact⟨v,i,rfl,bE r1,h1,h2,h3,h4,q _ H (.sc rfl)⟩
  ·cases e
 ·cases e
private def mD1(i:Nat)(n:Int):ME:=⟨λO=>match O[i]? with
 | some (some r)=>(match r.t with
  | .im (.str x)=>some (⟨.ow,.di [(.str x,.int n)]⟩,O)
  | _=>none)
 | _=>none,[]⟩
def xS{K:Frag}{i:Nat}{n:Int}:aP K (tD1 i n) (mD1 i n):=by unhygienic
 intro Γ H O Z E Q r O' hK hr S q;dsimp[mD1]at hr q;split at hr
 ·delta r0 h0;split at hr
  ·delta x e3;cases hr;obtain⟨v,hv,S2⟩:=S.var h0;obtain⟨k0,t0⟩:=r0;replace e3:t0=.im (.str x):=e3;subst e3;have R0:Rpx Γ.K H (.im (.str x)) v:=by
    have:=S2.rd (e:=⟨none,v,rdR i ⟨k0,.im (.str x)⟩⟩) ymS;cases k0<;>exact this
   have R1:=bE R0;rw[RpI]at R1;subst R1;apply⟨.inr x,hv,λp hp=>q _ _ ?_⟩;rw[bj];exact(S.fresh (.di (ps:=[(.inr x,.int n)]) (kvs:=[(.str x,.int n)]) hp rfl (td.one (by rw[RpI]))))
  ·cases hr
 ·cases hr
section
variable {ι : Type}{C:ι->Cx}{P:EU}{W:E4}{K:Frag}{mg:Str->Option EK}{base:Heap}{k j:Nat}{e:Expr}{es:List Expr}{m:ME}{ms:MA}{pos:Pos}
def vp{p:Pos}(ck:CK C P W K mg base k)(hm:mg "repr" = none)(ha:QA C K (e::es) ms)(hg:∀i,Gl (C i) "repr" :=by intro _;rfl):QE C K (.Call (.Name "repr" p) (e::es) [] pos) (mB oM ms):=by
 obtain⟨ta,q,n,r⟩:=ha;exact⟨_,λi=>cT (r:=vB K) (by have:=lr (X:=C i) (ck.calm i) (ck.room i).units;rw[ck.kk i]at this;exact this) (hg i) (by rw[ck.mg i];exact hm) D9 (q i) n (by decide) (by decide),jh qS r⟩
def AX(i:Nat){n:Int}{x:Str}{p q:Pos}{j:Nat}(hN:∀j,(C j).N[i]?=some x:=by intro _;rfl)(hv:∀j,Vis (C j).env.scope x:=by intro _;first|exact E8 rfl|exact EX (E8 rfl)|exact EX (EX rfl))(hd:(x==("__debug__" : Str))=false:=by decide)(hcd:(x==("__classdict__" : Str))=false:=by decide):QE C K (.Dict [some (.Name x p)] [.Constant (.int n) j q] pos) (mD1 i n):=
 ⟨_,λj=>zE (bS (hN j) (hv j) hd hcd),xS⟩
end
abbrev vU(K:yF) (a:Addr):It:=
 ⟨λi H=>∃xs x,SqL K H a xs/\xs[i]?=some x,λi H y H'=>∃p x,H p=none/\y=.ref p/\H'=upd H p (.tup [.int i,x])/\∀xs,SqL K H a xs->xs[i]?=some x,λi H=>∃xs,SqL K H a xs/\xs.length<=i⟩
def l5{P:EU}{w:E4}{K:yF}{elts:List Expr}{k0:Nat}{pos:Pos}(a it e:Addr)(hei:e≠it) :
  EI P w K (.Tuple elts k0 pos) (vU K a) [e,it] e (λi h=>(∃old,IsEnum h e it ((i:Nat):Int) old)/\h.IsListIter it a i) where
 mem:=by simp
 obj:=λi h st b hb=>by
  rcases ycM hb with z|z
  ·subst z;obtain⟨old,e1⟩:=st.1;exact⟨_,e1,λv z=>by cases z⟩
  ·have z':b=it:=by exists z
   subst z';obtain⟨o,e,c,d⟩:=st.2;exact⟨o,e,λv z=>by rw[d]at z;cases z⟩
 keep:=λi h h' st k=>⟨let ⟨old,e1⟩:=st.1;⟨old,k e ∅ _ e1⟩,st.2.at λo e=>k it ∅ o e⟩
 item:=by
  intro X hP hw hK hc i Uq s Z H E I hf st hg;subst hP hw hK;obtain⟨xs,x,hq,hx⟩:=hg;obtain⟨its,rv,p,hz⟩:=I.list hq;obtain⟨u,hu,ru⟩:=rv.get hx;obtain⟨f0,f1,f2,f3,f4,f5⟩:=hf it ∅;obtain⟨e0,e1,e2,e3,e4,e5⟩:=hf e ∅;obtain⟨⟨old,he⟩,hit⟩:=st;have hT:s.heap.IsList a its.toArray:=p.isList;have nai:a≠it:=λz=>by
   subst z;obtain⟨o1,q1,q2,_⟩:=hT;obtain⟨o2,q3,q4,_⟩:=hit;rw[q1]at q3;cases q3;rw[q2]at q4;exact absurd q4 (by decide +kernel)
  have nae:e≠a:=λz=>by
   subst z;obtain⟨o1,q1,q2,_⟩:=hT;have q3:s.heap.get? e=_:=he;rw[q1]at q3;cases q3;have q5:EQ "enumerate" = EQ "list" :=q2;exact absurd q5 (by decide +kernel)
  have hn:i<its.toArray.size:=by
   rw[Bd];exact(Bb.mp hu).1
  apply wpAny_pyNext_enum_itemD (Draws.list (A:=X.A.in1) (I.ok.hd hc) it a nai its.toArray) he ⟨hit,hT⟩ hn hei (by simp[hei,nae]) λx' h1 tk px ho st1 ht hz1 kk=>?_;have ex:x'=u:=by
   have e1:its.toArray[i]?=some x':=px;have e2:its.toArray[i]?=some u:=by exists hu
   rw[e1]at e2;exact Bq.inj e2
  subst ex;apply⟨_,rfl,wpAny_letOwnedTupleGo_enum ho λh2 he2 sb=>?_⟩;have sb':HA e h1 h2:=sb;have hel:e<s.heap.objs.size:=ES he;have k2:∀b o,b≠e->b≠it->s.heap.get? b=some o->h2.get? b=some o:=λb o n1 n2 q=>(sb'.2 b n1).trans (kk b o n1 n2 q);have I1:Inv X Uq Z H {s with heap:=h2,toks:=tk+1}:=I.turned2 k2 (hf e ∅) (hf it ∅);have fz:dX X Uq H s.heap.objs.size:=I.fpOk (Bg _) (I.hok.fresh (Bg _));have hT2:h2.get? s.heap.objs.size=some {cls:=.type "tuple",data:=.seq #[.int i tk,x']}:=(sb'.2 _ (C9 hel)).trans ht;have I2:Inv X Uq Z (upd H s.heap.objs.size (.tup [.int i,x])) {s with heap:=h2,toks:=tk+1}:=I1.track fz (.inr I.sz) I.sz ⟨by show 2<=sizeLine;decide,[.int i tk,x'],.cons ⟨tk,rfl⟩ (.cons ru .nil),⟨_,hT2,⟨rfl,rfl⟩,_,rfl⟩⟩;apply⟨.ref s.heap.objs.size,_,I2,rfl,⟨_,x,fz.1,rfl,rfl,λys hy=>by rw[I.list_inj hy hq];exact hx⟩,⟨⟨x',?_⟩,?_⟩,λb hb=>?_⟩
  ·have e9:((i+1:Nat):Int)=(i:Int)+1:=by push_cast;rfl
   rw[e9];exact he2
  ·exact st1.1.extBut sb'.extBut (Ff hei)
  ·have hbo:∃o,s.heap.get? b=some o:=by
    rcases ycM hb with z|z;subst z;exact⟨_,he⟩
    ·have z':b=it:=by exists z
     subst z';obtain⟨o,q,_⟩:=hit;exact⟨o,q⟩
   obtain⟨o,q⟩:=hbo;rw[upd_ne (BG (ES q))];exact(hf b hb).1
 done:=by
  intro X hP hw hK hc i Uq s Z H E I hf st hg;subst hP hw hK;obtain⟨xs,hq,hx⟩:=hg;obtain⟨its,rv,p,hz⟩:=I.list hq;obtain⟨f0,f1,f2,f3,f4,f5⟩:=hf it ∅;have hl:=rv.length;obtain⟨⟨old,he⟩,hit⟩:=st;have hT:s.heap.IsList a its.toArray:=p.isList;have nai:a≠it:=λz=>by
   subst z;obtain⟨o1,q1,q2,_⟩:=hT;obtain⟨o2,q3,q4,_⟩:=hit;rw[q1]at q3;cases q3;rw[q2]at q4;exact absurd q4 (by decide +kernel)
  apply wc (λQ E kk=>wpAny_nextOf_list_end (A:=X.A.in1) (I.ok.hd hc) hit hT (by simp;omega) kk) he λh1 eb=>⟨rfl,I.turned (t':=s.toks) (λb o hb e=>eb b o hb e) f0 f1 f3 f4 f5⟩
 self:=λ_ _ _ _ _ st h=>by
  obtain⟨⟨old,he⟩,_⟩:=st;exact HR he h
abbrev lC(K:yF)(ta:TA):TI:=λZ H R=>ta Z H λvs H1=>∃a xs,vs=[.ref a]/\SqL K H1 a xs/\R (vU K a) H1
def qD{X:Cx}{a:Expr}{ta:TA}{elts:List Expr}{k0:Nat}{p pos pt:Pos}(hg:Gl X "enumerate")(hm:X.mg "enumerate" = none)(ha:PA X [a] ta)(hs:E5 [a] X.env=[(false,eval a X.env)]:=by rfl):PI X (.Tuple elts k0 pt) (.Call (.Name "enumerate" p) [a] [] pos) (lC X.K ta):=by
 intro Uq s Z H R I h;apply Call_ (fB I hg hm boot_enumerate (Ct (thn (ha pos Uq s Z H _ I h) λus s1 ⟨vs,H1,I1,r1,q1⟩=>?_) hs rfl));obtain⟨l,xs,e,hq,q⟩:=q1;subst e;obtain⟨u,rfl,ru⟩:=fj r1;cases ru;obtain⟨its,rv,p',hz⟩:=I1.list hq;apply call_enumerate_list (show s1.heap.IsList l its.toArray from p'.isList) λh1 he hit hsz kk=>?_;apply HR he ?_;apply⟨s1.heap.objs.size+1,[s1.heap.objs.size+1,s1.heap.objs.size],_,_,H1,rfl,I1.kept (t':=s1.toks) λb o e=>kk b o e,l5 l s1.heap.objs.size _ (Nat.succ_ne_self _),⟨⟨_,he⟩,hit⟩,λb hb=>?_,q⟩;rcases ycM hb with z|z
 ·subst z;exact I1.fpOk (C2 _) (I1.hok.fresh (C2 _))
 ·have z':b=s1.heap.objs.size:=by exists z
  subst z';exact I1.fpOk (Bg _) (I1.hok.fresh (Bg _))
def AO{X:Cx}{K:yF}{a:Expr}{ta:TA}{elts:List Expr}{k0:Nat}{p pos pt:Pos}(h:X.K=K)(hg:Gl X "enumerate")(hm:X.mg "enumerate" = none)(ha:PA X [a] ta)(hs:E5 [a] X.env=[(false,eval a X.env)]:=by rfl):PI X (.Tuple elts k0 pt) (.Call (.Name "enumerate" p) [a] [] pos) (lC K ta):=h▸qD hg hm ha hs
open PySem.W (Frag)
abbrev pW:T->Option (List I)
 | .li is=>some is
 | .im (.ls is)=>some is
 | _=>none
private def eC(a:MA):MI:=⟨λO=>match a.run O with
 | some ([r],O1)=>(match pW r.t with
  | some is=>some (([r],cO 0 is),O1)
  | none=>none)
 | _=>none,a.mu⟩
def mO{K:Frag}{H:Hp}{t:T}{is:List I}{v:V}(e:pW t=some is)(r:Rpx K H t v):∃a xs,v=.ref a/\Rd H a (.lst xs)/\td K H is xs:=by
 unfold pW at e;split at e;cases e;exact bO r;cases e;exact iq r;cases e
section
variable {Γ:Gm}{K:Frag}
def uN{a:Addr}{r0:R}{is:List I}(hl:pW r0.t=some is):el Γ (vU Γ.K a) [.ref a] [r0] (cO 0 is):=λH O Z E S=>by
 replace S:Sim Γ H O Z (⟨none,.ref a,r0⟩::E):=S;have r1:Rpx Γ.K H r0.t (.ref a):=S.rd (e:=⟨none,.ref a,r0⟩) ymS;obtain⟨a',xs,ea,g1,g2⟩:=mO hl r1;cases ea;apply⟨λi hi=>⟨xs,aB g1,by rw[g2.length];rw[iU]at hi;exact hi⟩,λi r hr=>?_⟩;rw[cP]at hr;cases e:is[i]? with
 | none=>rw[e]at hr;cases hr
 | some j=>
  rw[e]at hr;cases hr;obtain⟨w,hw,rw0⟩:=g2.get e;apply⟨⟨xs,w,aB g1,hw⟩,λx H' y=>?_⟩;obtain⟨p,x',hp,rfl,rfl,hx⟩:=y;have:=hx xs (aB g1);rw[hw]at this;cases this;rw[BJ];exact S.fresh (New.tup hp (.cons (by rw[RpI]) (.cons rw0 (by rw[td]))))
def oI{ta:TA}{a:MA}(ha:dY K ta a):kj K (lC K ta) (eC a):=by unhygienic
 intro Γ H O Z E Rr src items O' hK hr S q;dsimp[eC]at hr;split at hr
 ·delta r0 O1 e1;split at hr
  ·delta is e2;cases hr;apply ha Γ H O Z E _ _ _ hK e1 S λvs H1 hl S1=>?_;cases vs with
   | nil=>cases hl
   | cons v vs=>
    cases vs with
    | cons _ _=>cases hl
    | nil=>
     have S1:Sim Γ H1 O' Z (⟨none,v,r0⟩::af a.mu E):=S1;have r1:Rpx Γ.K H1 r0.t v:=S1.rd (e:=⟨none,v,r0⟩) ymS;obtain⟨a',xs,rfl,g1,g2⟩:=mO e2 r1;subst hK;exact⟨a',xs,rfl,aB g1,q Γ rfl (λ_ _ _ _ S=>S) _ [.ref a'] H1 rfl S1 (uN e2)⟩
  ·cases hr
 ·cases hr
end
abbrev itE(j i:Nat) (m:ME):Nat->Nat->Rho->Option Rho
 | n,k,O=>match O[j]? with
  | some (⇑(.lst ts))=>(match ts[k]? with
   | none=>some O
   | some t=>(match n with
    | 0=>none
    | n+1=>if cS O i=true then(match m.run ((au [i] O).set i (some ⟨.vw (some j) (some [.ix k]),t⟩))with
     | some (_,O2)=>itE j i m n (k+1) O2
     | none=>none)else none))
  | _=>none
abbrev wC(O:Rho) (j:Nat):Option Nat:=match O[j]? with
 | some (⇑(.lst ts))=>some ts.length
 | _=>none
private def i5(j i:Nat)(m:ME):MS:=⟨λO=>match wC O j with
 | some n=>(itE j i m n 0 O).map λO2=>(.nx,O2)
 | none=>none,[i]++m.mu⟩
section
variable {K:Frag}
def rE{te:TE}{m:ME}{j i:Nat}(hij:i≠j)(hm:aP K te m):cY K (ya (kC K (l4 j)) (gM i) (nD te)) (i5 j i m):=by unhygienic
 intro Γ H O Z E D f O' hK hE hr S q;dsimp[i5]at hr q;split at hr
 ·delta n e0;obtain⟨Ox,e1,e2⟩:=BS.mp hr;cases e2;clear hr;have hl:∃ts,O[j]?=some (⇑(.lst ts))/\ts.length=n:=by
   unfold wC at e0;split at e0;delta ts h;cases e0;exact⟨ts,h,rfl⟩;cases e0
  obtain⟨ts,hj,hn⟩:=hl;obtain⟨v,hv,S1⟩:=S.var hj;have r1:Rpx Γ.K H (.lst ts) v:=S1.rd (e:=⟨none,v,rdR j ⟨.ow,.lst ts⟩⟩) ymS;obtain⟨a,xs,F,rfl,g1,g2⟩:=dg r1;apply⟨.ref a,hv,a,rfl,⟨xs,by rw[<-hK];exact aB g1⟩,?_⟩;have S2:=S.weak ([i]++m.mu);have hE2:=bi (M:=[i]++m.mu) hE;have k1:af [i] (af ([i]++m.mu) E)=af ([i]++m.mu) E:=cR (λz hz=>yaL _ hz) _;have k2:af m.mu (af ([i]++m.mu) E)=af ([i]++m.mu) E:=cR (λz hz=>yaR _ hz) _;generalize af ([i]++m.mu) E=E2 at q k1 k2 S2 hE2;apply⟨λk fu Z H=>∃O,itE j i m fu k O=some O'/\Z[j]?=some (some (.ref a))/\Sim Γ H O Z E2,⟨n,O,e1,hv,S2⟩,?_⟩;rintro k fu Z1 H2 ⟨O2,h2,hv2,S3⟩;unfold itE at h2;split at h2
  ·delta ts2 hj2;obtain⟨v',hv',S4⟩:=S3.var hj2;rw[hv2]at hv';cases hv';have r2:Rpx Γ.K H2 (.lst ts2) (.ref a):=S4.rd (e:=⟨none,.ref a,rdR j ⟨.ow,.lst ts2⟩⟩) ymS;obtain⟨a',xs2,F2,ea,g3,g4⟩:=dg r2;cases ea;have hlen:=g4.length;split at h2
   ·delta hnone;cases h2;apply .inl ⟨⟨xs2,by rw[<-hK];exact aB g3,by rw[hlen];simpa using hnone⟩,q _ _ S3⟩
   ·delta t ht;split at h2;cases h2
    ·delta fu';split at h2
     ·delta hio;split at h2
      ·delta rr O3 e3;obtain⟨w,hw,S5⟩:=Sim.partP (s:=t) S4 (e:=⟨none,.ref a,⟨.vw (some j) (some []),.lst ts2⟩⟩) ymS rfl (a:=.ix k) (by show ts2[k]?=some t;exact ht);obtain⟨a2,xs3,ea,h3,h4⟩:=hw;cases ea;have hxx:=Rd.det (.inl h3) g3;subst hxx;apply .inr ⟨⟨xs3,w,by rw[<-hK];exact aB g3,h4⟩,λZ' H'=>∃O,itE j i m fu' (k+1) O=some O'/\Z'[j]?=some (some (.ref a))/\Sim Γ H' O Z' E2,λZ' H' z=>⟨fu',DB _,z⟩,λx H3 y=>?_⟩;obtain⟨rfl,y⟩:=y;have:=y xs3 (by rw[<-hK];exact aB g3);rw[h4]at this;cases this;have S6:=(S5.swap.drop rfl).put hio (by
        show Kd.root (.vw (some j) _)≠some i;intro z;exact hij (Bq.inj z).symm)
       rw[k1]at S6;show te _ _ _;apply hm Γ _ _ _ E2 _ rr O3 hK e3 S6 λv' H4 S7=>?_;rw[k2]at S7;exact⟨O3,h2,by rw[Bn hij];exact hv2,S7.drop rfl⟩
      ·cases h2
     ·cases h2
  ·cases h2
 ·cases hr
end
section
variable {ι : Type}{C:ι->Cx}{P:EU}{W:E4}{K:Frag}{mg:Str->Option EK}{base:Heap}{k:Nat}{a e:Expr}{m:ME}{ms:MA}{pos:Pos}
def kX{p pt:Pos}{elts:List Expr}{k0:Nat}(ck:CK C P W K mg base k)(T:Bi mg)(ha:QA C K [a] ms)(hg:∀i,Gl (C i) "enumerate" :=by intro _;rfl)(hs:bo a=false:=by rfl):QI C K (.Tuple elts k0 pt) (.Call (.Name "enumerate" p) [a] [] pos) (eC ms):=by
 obtain⟨ta,q,_,r⟩:=ha;exact⟨_,λi=>AO (ck.kk i) (hg i) (by rw[ck.mg i];exact T.b_enumerate) (q i) (aV hs),oI r⟩
def ub(j i:Nat){x y:Str}{px py pe:Pos}(ck:CK C P W K mg base k)(hN:∀n,(C n).N.Nodup)(he:QE C K e m)(hij:i≠j:=by decide)(hi:∀n,(C n).N[i]?=some x:=by intro _;rfl)(hj:∀n,(C n).N[j]?=some y:=by intro _;rfl)(hx:∀n,Loc (C n).env.scope x:=by intro _;first|exact E8 rfl|exact EX rfl)(hf:∀n,(C n).fn x=true\/(C n).env.scope.names.lookup x=some .local:=by intro _;first|exact .inl rfl|exact .inr rfl)
  (hv:∀n,Vis (C n).env.scope y:=by intro _;first|exact E8 rfl|exact EX (E8 rfl)|exact EX (EX rfl)) (hd:(y==("__debug__" : Str))=false:=by decide) (hcd:(y==("__classdict__" : Str))=false:=by decide)
  (hp:∀i,Gq (ET (C i).prog (C i).w) (C i).A (C i).env (C i).xe) (hs:∀i x,Fu (.Name y py) (C i).env x=pure x:=by intro _ _;rfl) (hw:∀i,F9 e none pe.line (C i).env=pure false:=by intro _;rfl):QS C K (.For (.Name x px) (.Name y py) [.Expr e pe] [] pos) (i5 j i m):=by
 obtain⟨te,p,r⟩:=he;exact⟨_,λn=>qW (hp n) (ck.calm n) (by have:=mY (X:=C n) (tg:=.Name x px) (bS (pos:=py) (hj n) (hv n) hd hcd);rw[ck.kk n]at this;exact this) (mX (hN n) (hi n) (hx n) (hf n)) (dU (gA (p n) (hw n))) (hs n),rE hij r⟩
end
abbrev qg(K:Frag):Bool:=K.all λp=>match p.2.cls with
 | .type n=>n != "list"
 | _=>true
def og{K:Frag}{a:Addr}(h:K.lookup a=none):cx K a=K:=by
 unfold cx;rw[BY];intro p hp;rw[BI,beq_eq_false_iff_ne];rintro rfl
 induction K with
 | nil=>cases hp
 | cons q K ih=>
  rw[Bs]at h;split at h;cases h
  ·delta hq;rcases ycM hp with rfl|hp;simp at hq;exact ih hp h
def lJ{K:Frag}{a:Addr}(h:qg K=true)(la:EJ K a):cx K a=K:=by
 cases e:K.lookup a with
 | none=>exact og e
 | some o=>
  obtain⟨vs,rfl⟩:=la o e;exfalso;have hm:∃p∈K,p.2.cls=EQ "list" :=by
   clear h la
   induction K with
   | nil=>cases e
   | cons q K ih=>
    rw[Bs]at e;split at e;exact⟨q,ymS,by rw[Bq.inj e]⟩;obtain⟨p,h1,h2⟩:=ih e;exact⟨p,ymC _ h1,h2⟩
  obtain⟨p,h1,h2⟩:=hm;have:=BC.mp h p h1;dsimp[h2]at this;exact absurd this (by decide)
def walkN{l:DP}{k:Nat}{q:EU}{loose:List Str}{XP:(Str->Option EK)->Heap->Prop}{YP:E4->Heap->Prop}{d:DefRec}{K:HU->yF}{x:Str}{st:Stmt}{run:List T->Option T}{A:(Str->Option EK)->yF->Prop}
  (hn:l.most=some 63) (hdf:d.params.defaults=[]) (hr:Eh k GX)
  (hY:∀(w:E4) (h:Heap),YP w h->(K w.params).In h)
  (hA:∀(w:E4) (mg:Str->Option EK) (h:Heap),(K w.params).In h->h.Ns E3 mg->A mg (K w.params))
  (hL:∀P,qg (K P)=true)
  (hd:∀(mg:Str->Option EK) (K:yF),A mg K->Def K mg d.name st [x])
  (hb:∀(kV doc pm:EK) (an:Option Addr) (cdv ct:EK) (s:EM) (v:EK),GR s (BN d.name d.name (bh st) (aE st) (ae st) .none kV doc pm an cdv ct) ⟨[v],[]⟩ [(x,v)])
  (F:∀(w:E4) (mg:Str->Option EK) (K:yF) (base:Heap),A mg K->Has l.prog w K mg base k d.name [x] (spP K run))
  (law:∀ns:List Int,ns.length<=63->run [.li (ns.map .int)]=some (.im (.bl true))) :
  D0 q loose XP YP l.row.toRowW d [] (λf vs=>PySem.call f vs):=
 AE (K:=K) (A:=λmg K'=>A mg K'/\qg K'=true) hn hdf hr hY (λw mg h a b=>⟨hA w mg h a b,hL _⟩) (λmg K' a ⟨h1,h2⟩ la=>by rw[lJ h2 la];exact⟨h1,h2⟩) (λmg K' h=>hd mg K' h.1) hb (λw mg K' base h=>F w mg K' base h.1) law
end L2
namespace L2
open PySem
noncomputable section
abbrev EXN:Tab:=[("HouseError",[]),("NoHouse",["word","name"]),("NoText",["row"]),("Loose",[]),("TooLong",["many"]),("Ring",["cells"]),("Early",["cell"]),("NoWay",[]),("NoTurn",[]),("NoCell",["cell"]),("NoRow",[]),("NoName",["name"])]
abbrev kK:MS:=(cH (tu (a9 (mUn (sY ["list"]) (av 0))) (tq (mB oh (ao 0 mNil))) (av 0)))
abbrev ak(ts:List T):Option T:=if ts.length=1 then fR kK 1 ts else none
abbrev i7:MS:=(aQ (aZ (aW [] (ah (mUn (dt EXN "NoHouse") (av 0)) (ah (mUn (dt EXN "NoText") (av 0)) (ah (mUn (dt EXN "Loose") (av 0)) (ah (mUn (dt EXN "TooLong") (av 0)) mNil))))) (ax 1))
  (aQ (aZ (mOp bP (av 1) (aW [] (ah (mUn (dt EXN "Ring") (av 0)) (ah (mUn (dt EXN "Early") (av 0)) (ah (mUn (dt EXN "NoWay") (av 0)) (ah (mUn (dt EXN "NoTurn") (av 0)) mNil)))))) (ax 1))
  (cH (mOp bP (av 1) (aW [] (ah (mUn (dt EXN "NoCell") (av 0)) (ah (mUn (dt EXN "NoRow") (av 0)) (ah (mUn (dt EXN "NoName") (av 0)) mNil))))))))
abbrev cW(ts:List T):Option T:=if ts.length=1 then fR i7 2 ts else none
abbrev bQ:MS:=(aQ (mIf (a9 (mOp jR (aW [] (ah (mUn (bv EXN "word") (mIx (av 0) (mC (.int 0)))) (ah (mUn (bv EXN "name") (mIx (av 0) (mC (.int 0)))) (ah (mUn (bv EXN "name") (mIx (av 0) (mC (.int 10)))) mNil)))) (aW [1,2,2] (ao 1 (ao 2 (ao 2 mNil)))))) (cH (mC (.bl false))) mNext)
  (aQ (mIf (a9 (mOp jR (aW [] (ah (mUn (bv EXN "row") (mIx (av 0) (mC (.int 1)))) (ah (mUn (bv EXN "many") (mIx (av 0) (mC (.int 3)))) mNil))) (aW [3] (ao 3 (ah (mOp bP (av 3) (mC (.int 1))) mNil))))) (cH (mC (.bl false))) mNext)
  (cH (ge (mOp kA (mUn (bv EXN "cells") (mIx (av 0) (mC (.int 4)))) (av 4)) (ge (mOp kA (mUn (bv EXN "cell") (mIx (av 0) (mC (.int 5)))) (mIx (av 4) (mC (.int 0)))) (mOp kA (mUn (bv EXN "cell") (mIx (av 0) (mC (.int 8)))) (mIx (av 4) (mUn om (mC (.int 1))))))))))
abbrev bU(ts:List T):Option T:=if ts.length=5 then fR bQ 5 ts else none
abbrev bR:MS:=(aQ (iI (eC (ao 0 mNil)) (gW (cG (ax 1) (cG (ax 2) mGNil)))
  (gU [1,2,3,4] (aQ (aZ (mIx (av 0) (mOp oO (av 1) (mC (.int 1)))) (ax 3))
  (aQ (aZ (aW [] (ah (mUn (bv EXN "cells") (mB (exR "Ring" ["cells"] ak) (ao 2 mNil))) (ah (mUn (bv EXN "cell") (mB (exR "Early" ["cell"] ak) (ao 2 mNil))) (ah (mUn (bv EXN "cell") (mB (exR "NoCell" ["cell"] ak) (ao 2 mNil))) (ah (mUn (bv EXN "name") (mB (exR "NoName" ["name"] ak) (ao 2 mNil))) (ah (mUn (bv EXN "row") (mB (exR "NoText" ["row"] ak) (ao 2 mNil))) mNil)))))) (ax 4))
  (aQ (aZ (mOp bP (av 4) (aW [] (ah (mUn (bv EXN "many") (mB (exR "TooLong" ["many"] ak) (ao 2 mNil))) (ah (mUn (bv EXN "word") (mB (exR "NoHouse" ["word","name"] ak) (ao 2 (ao 3 mNil)))) (ah (mUn (bv EXN "name") (mB (exR "NoHouse" ["word","name"] ak) (ao 3 (ao 2 mNil)))) mNil))))) (ax 4))
  (mIf (a9 (mOp neT (ce [none,none,none,none,none,none] (mIt (av 4)) (ax 5) mYes (mB oM (ao 5 mNil))) (mOp dZ (aW [] (ah (mB oM (ao 2 mNil)) mNil)) (mC (.int 8))))) (cH (mC (.bl false))) mNext))))))
  (cH (mC (.bl true))))
abbrev bV(ts:List T):Option T:=if ts.length=1 then fR bR 5 ts else none
abbrev eD:MS:=(aQ (aZ (mB ii (ao 0 (ah (mC (.int 0)) mNil))) (ax 1))
  (aQ (aZ (mIx (bw 0 1 fO (ao 1 (ah (mC (.int 1)) mNil))) (mC (.int 0))) (ax 2))
  (aQ (aZ (mIx (aW [] (ah (mC (.str "ways")) (ah (mC (.str "wheel")) (ah (mC (.str "desks")) (ah (mC (.str "name")) (ah (mC (.str "number")) (ah (mC (.str "read")) (ah (mC (.str "row")) (ah (mC (.str "steps")) mNil))))))))) (bw 0 1 bu (ao 1 (ah (mC (.int 8)) mNil)))) (ax 3))
  (aQ (aZ (bw 0 1 bu (ao 1 (ah (mOp lP (mC (.int 10)) (mC (.int 12))) mNil))) (ax 4))
  (aQ (aZ (ce [none,some 1,some 2,none,none,none,none,none,none,none,none,none,none] (cf (ah (mOp bP (mC (.int 1)) (bw 0 1 bu (ao 1 (ah (mC (.int 6)) mNil)))) mNil)) (ax 10) mYes (dq [2] (ao 2 (ah (dq [10] (ah (mOp oO (bw 0 1 bu (ao 1 (ah (mC (.int 2001)) mNil))) (mC (.int 1000))) (ao 10 mNil))) mNil)))) (ax 5))
  (aQ (aZ (ce [none,none,none,none,none,some 5,none,none,none,none,none,none,none] (cf (ah (mC (.int 8)) mNil)) (ax 10) mYes (mB oh (ao 5 mNil))) (ax 6))
  (aQ (aZ (aW [] (ah (mB (exR "NoHouse" ["word","name"] ak) (ao 3 (ao 2 mNil))) (ah (mB (exR "NoText" ["row"] ak) (ao 4 mNil)) (ah (mB (exR "Loose" [] ak) mNil) (ah (mB (exR "TooLong" ["many"] ak) (ah (mOp bP (av 4) (mC (.int 1))) mNil)) (ah (mB (exR "Ring" ["cells"] ak) (ah (mIx (av 6) (mC (.int 0))) mNil)) (ah (mB (exR "Early" ["cell"] ak) (ah (mIx (av 5) (mC (.int 0))) mNil)) mNil))))))) (ax 7))
  (aQ (aZ (mOp bP (av 7) (aW [] (ah (mB (exR "NoWay" [] ak) mNil) (ah (mB (exR "NoTurn" [] ak) mNil) (ah (mB (exR "NoCell" ["cell"] ak) (ah (mIx (av 5) (mUn om (mC (.int 1)))) mNil)) (ah (mB (exR "NoRow" [] ak) mNil) (ah (mB (exR "NoName" ["name"] ak) (ao 2 mNil)) mNil))))))) (ax 7))
  (aQ (aZ (aW [] (ah (mB (exR "Early" ["cell"] ak) (ah (mIx (av 6) (mC (.int 1))) mNil)) (ah (mB (exR "NoCell" ["cell"] ak) (ah (mIx (av 6) (mC (.int 2))) mNil)) (ah (mB (exR "NoName" ["name"] ak) (ah (mIx (av 6) (mC (.int 3))) mNil)) (ah (mB (exR "NoHouse" ["word","name"] ak) (ah (mIx (av 6) (mC (.int 4))) (ah (mIx (av 6) (mC (.int 5))) mNil))) mNil))))) (ax 8))
  (aQ (aZ (mOp bP (av 8) (aW [] (ah (mB (exR "NoText" ["row"] ak) (ah (mIx (av 6) (mC (.int 6))) mNil)) (ah (mB (exR "TooLong" ["many"] ak) (ah (mIx (av 6) (mC (.int 7))) mNil)) mNil)))) (ax 8))
  (aQ (i5 6 9 (lE 6 [] apT (av 9) (ah (dq [2] (ao 2 (ah (dq [] (ah (mC (.int 7)) (ah (mC (.int 7)) mNil))) mNil))) mNil)))
  (aQ (iI (eC (ao 7 mNil)) (gW (cG (ax 10) (cG (ax 11) mGNil)))
  (gU [10,11] (aQ (mIf (a9 (mOp jR (mB cW (ao 11 mNil)) (ce [none,none,none,none,none,none,none,none,none,none,some 10,none,none,none] (cf (ah (mC (.int 11)) mNil)) (ax 13) mYes (mOp eqT (av 10) (av 13))))) (cH (mC (.bl false))) mNext)
  (mIf (mOr (jP (a9 (mUn (dt EXN "HouseError") (av 11)))) (jP (a9 (mUn (kD EXN) (av 11))))) (cH (mC (.bl false))) mNext))))
  (aQ (aZ (aW [] (ah (mUn (bv EXN "cell") (mIx (av 8) (mC (.int 0)))) (ah (mUn (bv EXN "cell") (mIx (av 8) (mC (.int 1)))) (ah (mUn (bv EXN "name") (mIx (av 8) (mC (.int 2)))) (ah (mUn (bv EXN "word") (mIx (av 8) (mC (.int 3)))) (ah (mUn (bv EXN "name") (mIx (av 8) (mC (.int 3)))) (ah (mUn (bv EXN "row") (mIx (av 8) (mC (.int 4)))) (ah (mUn (bv EXN "many") (mIx (av 8) (mC (.int 5)))) mNil)))))))) (ax 12))
  (aQ (mIf (mOr (a9 (mOp jR (av 12) (mOp dZ (aW [] (ah (oi 5) mNil)) (mC (.int 7))))) (jP (a9 (mB bV (ah (aW [3,4] (ah (mB r8 (ao 5 mNil)) (ao 3 (ah (mC .non) (ao 4 (ah (i6 (mD1 2 3)) (ah (mC (.bl true)) (ah (dq [] mNil) mNil)))))))) mNil))))) (cH (mC (.bl false))) mNext)
  (aQ (mIf (mOr (a9 (mOp pG (mC (.bl true)) (mB cW (ah (mB (exR "HouseError" [] ak) mNil) mNil)))) (jP (a9 (mUn (kD EXN) (mB (exR "HouseError" [] ak) mNil))))) (cH (mC (.bl false))) mNext)
  (cH (mB bU (ao 7 (ao 3 (ao 2 (ao 4 (ao 5 mNil))))))))))))))))))))))
abbrev r_l_law_v9(ts:List T):Option T:=if ts.length=1 then fR eD 13 ts else none
end
end L2
namespace K01
open PySem PySem.Spec PyProof.Rows L2
structure GT(K:yF)(mg:Str->Option EK):Prop where
 triv:True
end K01
namespace L2
open PySem PySem.Spec PyProof.Rows
abbrev vs(x:String) (t:Tok):EK:=.str (ER x) t
abbrev vi(n:Int):EK:=.int n 0
abbrev vr(a:Addr):EK:=.ref a
abbrev eO(p:HU) (x:String) (t:Tok) (v:EK):Gp:=⟨Iu p (ER x),.str (ER x) t,v⟩
abbrev oC(vs:List EK):Obj:={cls:=.type "code",data:=.fields vs.toArray}
abbrev oD(es:List Gp) (n:Nat):Obj:={cls:=.type "dict",data:=.dict es.toArray n}
abbrev oF(x:String) (st:Stmt) (pm:EK) (c:Addr):Obj:={cls:=.type "function",data:=.func (BN (ER x) (ER x) (bh st) (aE st) (ae st) .none .none .none pm none (.ref c) .none)}
abbrev oc(x:String) (t l n r:Nat) (v:Option (Nat×Nat)) (d e:Nat):Obj:=oC [vs x t,vs x (t+1),vs "/claim/cut.py" (t+2),vi l,vi n,vi 0,vi 0,vi 3,vr r,.bool true,vi 181,vr (r+1),.none,(match v with|some p=>vr p.1|none=>.none),(match v with|some p=>vr p.2|none=>.none),vr d,vi e,vi l,vs "/claim/cut.py" (e+1)]
def Eo.mkO{K:yF}{h:Heap}{mg:Str->Option EK}{x:String}{st:Stmt}{ps:List Str}(X:K.In h)(G:h.Ns E3 mg)(f:Addr)(pm:EK)(c:Addr)
  (hb:∀(kV doc pm:EK) (an:Option Addr) (cdv ct:EK) (us:List EK),us.length=ps.length->Hb (BN (ER x) (ER x) (bh st) (aE st) (ae st) .none kV doc pm an cdv ct) ⟨us,[]⟩=pure (ps.zip us))
  (a:BP K E3 (ER x)=some (some (.ref f)):=by rfl') (l:K.lookup f=some (oF x st pm c):=by rfl') (cd:Cw K (.ref c) (ER x)=true:=by rfl'):Eo K mg (ER x) st ps:=
 Eo.mk' X G a l cd (by unfold Cf;dsimp only;rw[l];rfl) hb
def bN{K:yF}{h:Heap}{mg:Str->Option EK}(X:K.In h)(G:h.Ns E3 mg){n:Str}(e:BP K E3 n=some none:=by rfl'):mg n=none:=PySem.W.mg_none_of X G e
section
variable {α A B C D E F:Type}{f g:A->B->C->D->E->F->List EK->α}
def Eu{α:Type}{n:Nat}{l:List α}(h:l.length=n+1):∃a r,l=a::r/\r.length=n:=by
 cases l with
 | nil=>cases h
 | cons a r=>exact⟨a,r,rfl,Nat.succ.inj h⟩
def by1(h:∀x1 x2 x3 x4 x5 x6 a0,f x1 x2 x3 x4 x5 x6 [a0]=g x1 x2 x3 x4 x5 x6 [a0]):∀x1 x2 x3 x4 x5 x6 (us:List EK),us.length=1->f x1 x2 x3 x4 x5 x6 us=g x1 x2 x3 x4 x5 x6 us:=λx1 x2 x3 x4 x5 x6 us e=>by
 obtain⟨a0,u0,rfl,e0⟩:=Eu e;obtain rfl:=B9.mp e0;exact h x1 x2 x3 x4 x5 x6 a0
def by2(h:∀x1 x2 x3 x4 x5 x6 a0 a1,f x1 x2 x3 x4 x5 x6 [a0,a1]=g x1 x2 x3 x4 x5 x6 [a0,a1]):∀x1 x2 x3 x4 x5 x6 (us:List EK),us.length=2->f x1 x2 x3 x4 x5 x6 us=g x1 x2 x3 x4 x5 x6 us:=λx1 x2 x3 x4 x5 x6 us e=>by
 obtain⟨a0,u0,rfl,e0⟩:=Eu e;obtain⟨a1,u1,rfl,e1⟩:=Eu e0;obtain rfl:=B9.mp e1;exact h x1 x2 x3 x4 x5 x6 a0 a1
def by3(h:∀x1 x2 x3 x4 x5 x6 a0 a1 a2,f x1 x2 x3 x4 x5 x6 [a0,a1,a2]=g x1 x2 x3 x4 x5 x6 [a0,a1,a2]):∀x1 x2 x3 x4 x5 x6 (us:List EK),us.length=3->f x1 x2 x3 x4 x5 x6 us=g x1 x2 x3 x4 x5 x6 us:=λx1 x2 x3 x4 x5 x6 us e=>by
 obtain⟨a0,u0,rfl,e0⟩:=Eu e;obtain⟨a1,u1,rfl,e1⟩:=Eu e0;obtain⟨a2,u2,rfl,e2⟩:=Eu e1;obtain rfl:=B9.mp e2;exact h x1 x2 x3 x4 x5 x6 a0 a1 a2
def by5(h:∀x1 x2 x3 x4 x5 x6 a0 a1 a2 a3 a4,f x1 x2 x3 x4 x5 x6 [a0,a1,a2,a3,a4]=g x1 x2 x3 x4 x5 x6 [a0,a1,a2,a3,a4]):∀x1 x2 x3 x4 x5 x6 (us:List EK),us.length=5->f x1 x2 x3 x4 x5 x6 us=g x1 x2 x3 x4 x5 x6 us:=λx1 x2 x3 x4 x5 x6 us e=>by
 obtain⟨a0,u0,rfl,e0⟩:=Eu e;obtain⟨a1,u1,rfl,e1⟩:=Eu e0;obtain⟨a2,u2,rfl,e2⟩:=Eu e1;obtain⟨a3,u3,rfl,e3⟩:=Eu e2;obtain⟨a4,u4,rfl,e4⟩:=Eu e3;obtain rfl:=B9.mp e4;exact h x1 x2 x3 x4 x5 x6 a0 a1 a2 a3 a4
end
section
variable {O:Rho}{a b m:ME}{ms:MA}{QE':R->Rho->Prop}{QA':List R->Rho->Prop}
def oV{M:List Nat}{t:T}:aC M ⟨.ow,t⟩=true:=by unhygienic rfl
def bf{r:R}:aC [] r=true:=by
 obtain⟨k,t⟩:=r;cases k with
 | vw o p=>cases o<;>unhygienic rfl
 | _=>unhygienic rfl
def AB{i:I}(h:WA ms O λrs O2=>QA' (⟨.ow,.im i⟩::rs) O2):WA (ah (mC i) ms) O QA':=ke (w_C (WA.mono h λ_ _ q=>gu oV q))
def A8(h:WE m O λr O1=>QA' [r] O1):WA (ah m mNil) O QA':=ke (WE.mono h λ_ _ q=>kf (gu (by unhygienic exact bf) q))
def Aw{f:T->T->Option T}{i:I}(h:WE a O λra O1=>W1 (f ra.t (.im i)) λt=>QE' ⟨.ow,t⟩ O1):WE (mOp f a (mC i)) O QE':=l9 (WE.mono h λ_ _ q=>w_C (gu (by unhygienic exact bf) q))
def Ax{f:T->T->Option T}{n:Nat}(h:WE a O λra O1=>WE (av n) O1 λrb O2=>W1 (f ra.t rb.t) λt=>QE' ⟨.ow,t⟩ O2):WE (mOp f a (av n)) O QE':=l9 (WE.mono h λ_ _ h=>WE.mono h λ_ _ q=>gu (by unhygienic exact bf) q)
abbrev owL:Nat->List R->Option (List T)
 | _,[]=>some []
 | n+1,⟨.ow,t⟩::rs=>match owL n rs with
  | some ts=>some (t::ts)
  | none=>none
 | _,_=>none
def hU{mv:List Nat}{O:Rho}:∀{n:Nat} {rs:List R} {ts:List T},owL n rs=some ts->rs.length<=n/\consL mv rs O=some (ts,O)
 | _,[],ts,h=>by rw[owL]at h;cases h;exact⟨B6 _,rfl⟩
 | 0,_::_,ts,h=>by simp[owL]at h
 | n+1,⟨k,t⟩::rs,ts,h=>by
  cases k with
  | ow=>
   rw[owL]at h;cases e:owL n rs with
   | none=>rw[e]at h;cases h
   | some us=>
    rw[e]at h;cases h;obtain⟨h1,h2⟩:=hU (mv:=mv) (O:=O) e;exact⟨DJ h1,by rw[consL,h2]⟩
  | _=>simp[owL]at h
abbrev OwT(rs:List R)(Q:List T->Prop):Prop:=∃ts,owL 1000 rs=some ts/\Q ts
def zv{rs:List R}{ts:List T}{Q:List T->Prop}(h:owL 1000 rs=some ts)(q:Q ts):OwT rs Q:=⟨ts,h,q⟩
def yA(h:WA ms O λrs O1=>OwT rs λts=>QE' ⟨.ow,i9 ts⟩ O1):WE (dq [] ms) O QE':=sj (WA.mono h λ_ _ ⟨_,e,q⟩=>gu (decide_eq_true (hU (mv:=[]) (O:=O) e).1) ⟨_,_,(hU e).2,q⟩)
def yt(h:WA ms O λrs O1=>OwT rs λts=>QE' ⟨.ow,bB ts⟩ O1):WE (aW [] ms) O QE':=si (WA.mono h λ_ _ ⟨_,e,q⟩=>gu (decide_eq_true (hU (mv:=[]) (O:=O) e).1) ⟨_,_,(hU e).2,q⟩)
def A6{run:List T->Option (T×T)}{k0:Nat}{t:T}{i:I}(h:W2 (run [t,.im i]) λx s=>QE' ⟨.ow,x⟩ (some ⟨.io k0,s⟩::au [0] O)):WE (bw 0 0 run (ao 0 (ah (mC i) mNil))) (some ⟨.io k0,t⟩::O) QE':=
 nJ (dO rfl (AB (kf (oW rfl (yO rfl (by unhygienic rfl) rfl rfl (W2.mono h λx s q=>by rw[m7];exact q))))))
def sk{n:Nat}{r0:R}(h0 : O[n]?=some (some r0))(q:QA' [rdR n r0] O):WA (ao n mNil) O QA':=dO (r0:=r0) h0 (kf (oW (r:=r0) h0 q))
def AD{n:Nat}{r0:R}{k:Int}{Q:Int->Rho->Prop}(h0 : O[n]?=some (some r0))(hk:(rdR n r0).t=.im (.int k))(q:Q k O):WA (ao n mNil) O (λrs O1=>EH rs λk=>Q k O1):=sk h0 (mK (by rw[Bj,hk];rfl) q)
def yq{n:Nat}{r0:R}{i:I}(h0 : O[n]?=some (some r0))(h:W1 (ixR (rdR n r0) (.im i)) λr=>QE' r O):WE (mIx (av n) (mC i)) O QE':=yp (gm h0 (w_C (gu (by unhygienic exact bf) h)))
def yr{n m:Nat}{r0 r1:R}(h0 : O[n]?=some (some r0))(h1 : O[m]?=some (some r1))(h:W1 (ixR (rdR n r0) (rdR m r1).t) λr=>QE' r O):WE (mIx (av n) (av m)) O QE':=yp (gm h0 (gm h1 (gu (by unhygienic exact bf) h)))
def yz{f:T->T->Option T}{n m:Nat}{r0 r1:R}(h0 : O[n]?=some (some r0))(h1 : O[m]?=some (some r1))(h:W1 (f (rdR n r0).t (rdR m r1).t) λt=>QE' ⟨.ow,t⟩ O):WE (mOp f (av n) (av m)) O QE':=l9 (gm h0 (gm h1 (gu (by unhygienic exact bf) h)))
def yy{f:T->T->Option T}{n:Nat}{r0:R}{i:I}(h0 : O[n]?=some (some r0))(h:W1 (f (rdR n r0).t (.im i)) λt=>QE' ⟨.ow,t⟩ O):WE (mOp f (av n) (mC i)) O QE':=l9 (gm h0 (w_C (gu (by unhygienic exact bf) h)))
def yx{f:T->T->Option T}{n:Nat}{r0:R}{i:I}(h0 : O[n]?=some (some r0))(h:W1 (f (.im i) (rdR n r0).t) λt=>QE' ⟨.ow,t⟩ O):WE (mOp f (mC i) (av n)) O QE':=l9 (w_C (gm h0 (gu (by unhygienic exact bf) h)))
def yw{f:T->T->Option T}{i j:I}(h:W1 (f (.im i) (.im j)) λt=>QE' ⟨.ow,t⟩ O):WE (mOp f (mC i) (mC j)) O QE':=l9 (w_C (w_C (gu (by unhygienic exact bf) h)))
def vS{n m:Nat}{r0 r1:R}(h0 : O[n]?=some (some r0))(h1 : O[m]?=some (some r1))(q:QA' [rdR n r0,rdR m r1] O):WA (ao n (ao m mNil)) O QA':=dO (r0:=r0) h0 (sk h1 (oW (r:=r0) h0 q))
def AC{n m k:Nat}{r0 r1 r2:R}(h0 : O[n]?=some (some r0))(h1 : O[m]?=some (some r1))(h2 : O[k]?=some (some r2))(q:QA' [rdR n r0,rdR m r1,rdR k r2] O):WA (ao n (ao m (ao k mNil))) O QA':=dO (r0:=r0) h0 (vS h1 h2 (oW (r:=r0) h0 q))
end
open PySem.W (Frag clsIn findIn subIn specialIn instIn mroIn takesIn keepIn readsIn findCls handedIn)
abbrev sF(K:Frag) (C:Addr):Bool:=sE K C&&(decide (Ft K (.ref C) "__setattr__" = some (some (.builtin "object.__setattr__")))&&(decide (Ft K (.ref C) "__getattribute__" = some (some (.builtin "BaseException.__getattribute__"))) &&
 (decide (Ft K (.ref C) "__getattr__" = some none)&&(decide (Jo K (.ref C) (.type "BaseException")=some true)&&(decide (Gc K (.ref C) "__call__" = some (some (.builtin "type.__call__")))&&(decide (instIn K (.ref C) (.type "type")=some true) &&
 (decide (Ft K (.ref C) "__class__" = some (some (.builtin "object.__class__")))&&(decide (Gc K (.builtin "object.__class__") "__get__" = some (some (.builtin "getset_descriptor.__get__")))&&(decide (takesIn K (.builtin "object.__class__")=some true)&&decide (JC K C (.type "object")=some true))))))))))
def pk{K:Frag}{C:Addr}(h:sF K C=true):ExK K C:=by
 dsimp[sF,A9,decide_eq_true_eq]at h;obtain⟨h1,h2,h3,h4,h5,h6,h7,h8,h9,h10,h11⟩:=h;exact⟨h1,h2,h3,h4,h5,h6,h7,h8,h9,h10,h11⟩
abbrev nr:Option (Option EK)->Option Addr
 | some (some (.ref C))=>some C
 | _=>none
def kY{o:Option (Option EK)}{C:Addr}(h:nr o=some C):o=some (some (.ref C)):=by
 unfold nr at h;split at h;cases h;rfl;cases h
abbrev uY(K:Frag) (tab:Tab) (p:Str×List Str) (C:Addr):Bool:=sF K C&&(p.2.all (λf=>decide (Ft K (.ref C) f=some none))&&(decide (B7 K (.ref C) (.type "ValueError")=some true) &&
 tab.all λq=>match nr (BP K E3 q.1)with
  | some D=>decide (B7 K (.ref C) (.ref D)=some (sX p.1 q.1))
  | none=>false))
abbrev Ao(K:Frag) (tab:Tab):Bool:=tab.all λp=>match nr (BP K E3 p.1)with
 | some C=>uY K tab p C
 | none=>false
def uH{K:Frag}{h:Heap}{mg:Str->Option EK}{tab:Tab}(X:K.In h)(G:h.Ns E3 mg)(hv:mg "ValueError" = none)(t:Ao K tab=true):fX K mg tab:=by
 apply⟨hv,λp hp=>?_⟩;have:=BC.mp t p hp;split at this
 ·delta C e;have e:=kY e;dsimp[uY,A9,decide_eq_true_eq]at this;obtain⟨h1,h2,h3,h4⟩:=this;apply⟨C,e,C4 X G e,pk h1,λf hf=>(show Ft K (.ref C) f=some none from of_decide_eq_true (BC.mp h2 f hf)),h3,λq hq=>?_⟩;have h5:=BC.mp h4 q hq;split at h5
  ·delta D e2;have e2:=kY e2;exact⟨D,C4 X G e2,of_decide_eq_true h5⟩
  ·cases h5
 ·cases this
abbrev oFq(x q:String) (st:Stmt) (pm:EK) (c:Addr):Obj:={cls:=.type "function",data:=.func (BN (ER x) (ER q) (bh st) (aE st) (ae st) .none .none .none pm none (.ref c) .none)}
abbrev ocq(x q:String) (t l n r:Nat) (v:Option (Nat×Nat)) (d e:Nat):Obj:=oC [vs x t,vs q (t+1),vs "/claim/cut.py" (t+2),vi l,vi n,vi 0,vi 0,vi 3,vr r,.bool true,vi 181,vr (r+1),.none,(match v with|some p=>vr p.1|none=>.none),(match v with|some p=>vr p.2|none=>.none),vr d,vi e,vi l,vs "/claim/cut.py" (e+1)]
abbrev oK(x:String) (C N:Addr) (b:EK) (m:List EK) (sb:List EK) (s t u:Nat):Obj:={cls:=.type "type",data:=.cls {name:=ER x,bases:=[b],mro:=vr C::m,ns:=N,qualname:=ER x,subclasses:=sb},slots:=#[some (vr s),none,some (vs x t),some (vs x u),some (.builtin "ValueError.__new__"),some (.bool true)]}
abbrev MkF(K:Frag)(mg:Str->Option EK)(x:Str)(ks:List Str)(qual:Str)(st:Stmt)(ps:List Str):Prop:=
 ∃(C f:Addr) (fd:Fm),mg x=some (.ref C)/\BP K E3 x=some (some (.ref C))/\EMk K C f/\Fun K "__init__" qual st f fd/\Ek K fd ps []/\∀F∈ks,El K C F
abbrev zn(K:Frag) (ks:List Str) (C f:Addr):Bool:=sF K C&&(decide (Ft K (.ref C) "__init__" = some (some (.ref f)))&&(Du K (.ref f)&&(Jd K (.ref C)&&(Jd K (.ref f)&&ks.all λF=>decide (Ft K (.ref C) F=some none)))))
def MkF.mkO{K:Frag}{h:Heap}{mg:Str->Option EK}{x q:String}{ks ps:List Str}{st:Stmt}(X:K.In h)(G:h.Ns E3 mg)(C f:Addr)(pm:EK)(c:Addr)
  (hb:∀(kV doc pm:EK) (an:Option Addr) (cdv ct:EK) (us:List EK),us.length=ps.length->Hb (BN (ER "__init__") (ER q) (bh st) (aE st) (ae st) .none kV doc pm an cdv ct) ⟨us,[]⟩=pure (ps.zip us))
  (a:BP K E3 (ER x)=some (some (.ref C)):=by rfl') (l:K.lookup f=some (oFq "__init__" q st pm c):=by rfl') (cd:Cw K (.ref c) (ER q)=true:=by rfl') (e:zn K ks C f=true:=by rfl'):MkF K mg (ER x) ks (ER q) st ps:=by
 dsimp[zn,A9,decide_eq_true_eq]at e;obtain⟨e1,e2,e3,e4,e5,e6⟩:=e;have F:=pC (x:="__init__") (qual:=ER q) (st:=st) (f:=f) l cd e5;exact⟨C,f,_,C4 X G a,a,⟨pk e1,e2,e3,e4⟩,F,F.binds hb,λF hF=>(show Ft K (.ref C) F=some none from of_decide_eq_true (BC.mp e6 F hF))⟩
structure HEf(K:Frag)(mg:Str->Option EK)(st:Stmt):Prop where
 mf:MkF K mg "HouseError" [] "HouseError.__init__" st ["self"]
 ci:∀C f,BP K E3 "HouseError" = some (some (.ref C))->Ft K (.ref C) "__init__" = some (some (.ref f))->CIn K C f
 ve:mg "ValueError" = none
def yU{K:Frag}(C f:Addr)(a:BP K E3 "HouseError" = some (some (.ref C)):=by rfl')(b:Ft K (.ref C) "__init__" = some (some (.ref f)):=by rfl')
  (h1:Gc K (.ref C) "__getattribute__" = some (some (.builtin "type.__getattribute__")):=by rfl') (h2:readsIn K C (.type "type")=true:=by rfl') (h3:Jc K (.ref C) (.type "type") "__init__" = some (.val (.ref f)):=by rfl') (h4:Jd K (.ref f)=true:=by rfl') (h5:IK (.ref f)=true:=by rfl') :
  ∀C f,BP K E3 "HouseError" = some (some (.ref C))->Ft K (.ref C) "__init__" = some (some (.ref f))->CIn K C f:=by
 intro C' f' a' b';rw[a]at a';cases a';rw[b]at b';cases b';exact⟨h1,h2,h3,h4,h5⟩
section
variable {P:EU}{W:E4}{K:Frag}{mg:Str->Option EK}{base:Heap}{st sh:Stmt}{qn x:Str}{p1 p2 p3 p4 p5 p6 p7 p8 p9 p10 p11 p12 p13 p14 p15 p16 p17:Pos}{run:List T->Option T}{A B F G:Str}
abbrev HEr(P:EU)(W:E4)(K:Frag)(mg:Str->Option EK)(base:Heap)(k:Nat):Prop:=∃(HE g:Addr) (gd:Fm),mg "HouseError" = some (.ref HE)/\CIn K HE g/\Ep P W K mg base CX0 k g gd ["self"] (kc K)/\Ek K gd ["self"] []/\BP K E3 "HouseError" = some (some (.ref HE))/\EMk K HE g
def zc{k:Nat}(h:HEf K mg st)(S:vx ["self"] ["self"] (ae st))(hB:aE st=[.Expr (.Call (.Attribute (.Name "ValueError" p1) "__init__" p2) [.Name "self" p3] [] p4) p5])
  (hg:(ae st).names.lookup (ER "ValueError")=some .globalImplicit) (hv:Vis (ae st) "self") (ht:be "ValueError" (.Name "self" p3) p1 p2 p4):HEr P W K mg base (k+1):=by
 obtain⟨C,f,fd,h1,h2,h3,h4,h5,_⟩:=h.mf;exact⟨C,f,fd,h1,h.ci C f h2 h3.init,sV h4 S hB h.ve hg hv ht,h5,h2,h3⟩
def tz(h:HEr P W K mg base 2):bM P W K mg base 2 "HouseError" [] run:=by
 obtain⟨C,f,fd,h1,h2,h3,h4,h5,h6⟩:=h;exact⟨C,f,fd,_,B6 _,h1,h5,h6,h4,h3,λ_ z=>nomatch z⟩
def jQ(h:MkF K mg x [] qn st ["self"])(H:HEr P W K mg base 1)(S:vx ["self"] ["self"] (ae st))(hB:aE st=[.Expr (.Call (.Attribute (.Name "HouseError" p1) "__init__" p2) [.Name "self" p3] [] p4) p5])
  (hg:(ae st).names.lookup (ER "HouseError")=some .globalImplicit) (hv:Vis (ae st) "self") (ht:be "HouseError" (.Name "self" p3) p1 p2 p4):bM P W K mg base 2 x [] run:=by
 obtain⟨C,f,fd,h1,h2,h3,h4,h5,h6⟩:=h;obtain⟨HE,g,gd,g1,g2,g3,g4,_⟩:=H;exact⟨C,f,fd,_,B6 _,h1,h2,h3,h5,wq h4 S hB g2 g3 g4 g1 hg hv ht,h6⟩
def fG(h:MkF K mg x [F] qn st ["self",A])(H:HEr P W K mg base 1)(hk:Has P W K mg base 1 "kept" ["thing"] (spP K run))(S:vx ["self",A] ["self",A] (ae st))(hB:aE st=[.Expr (.Call (.Attribute (.Name "HouseError" p1) "__init__" p2) [.Name "self" p3] [] p4) p5,.Assign [.Attribute (.Name "self" p6) F p7] (.Call (.Name "kept" p8) [.Name A p9] [] p10) p11])
  (hg:(ae st).names.lookup (ER "HouseError")=some .globalImplicit) (hg2:(ae st).names.lookup (ER "kept")=some .globalImplicit) (hv:Vis (ae st) "self") (hva:Vis (ae st) A) (hA1:(A==("__debug__" : Str))=false) (hA2:(A==("__classdict__" : Str))=false) (ht:be "HouseError" (.Name "self" p3) p1 p2 p4):bM P W K mg base 2 x [F] run:=by
 obtain⟨C,f,fd,h1,h2,h3,h4,h5,h6⟩:=h;obtain⟨HE,g,gd,g1,g2,g3,g4,_⟩:=H;exact⟨C,f,fd,_,(show 1<=2 by decide),h1,h2,h3,h5,wr h4 S hB g2 g3 g4 g1 hk k9 hg hg2 hv hva hA1 hA2 ht,h6⟩
def wG(h:MkF K mg x [F,G] qn st ["self",A,B])(H:HEr P W K mg base 1)(hk:Has P W K mg base 1 "kept" ["thing"] (spP K run))(S:vx ["self",A,B] ["self",A,B] (ae st))(hB:aE st=[.Expr (.Call (.Attribute (.Name "HouseError" p1) "__init__" p2) [.Name "self" p3] [] p4) p5,.Assign [.Attribute (.Name "self" p6) F p7] (.Call (.Name "kept" p8) [.Name A p9] [] p10) p11,.Assign [.Attribute (.Name "self" p12) G p13] (.Call (.Name "kept" p14) [.Name B p15] [] p16) p17])
  (hFG:F≠G) (hg:(ae st).names.lookup (ER "HouseError")=some .globalImplicit) (hg2:(ae st).names.lookup (ER "kept")=some .globalImplicit) (hv:Vis (ae st) "self") (hva:Vis (ae st) A) (hA1:(A==("__debug__" : Str))=false) (hA2:(A==("__classdict__" : Str))=false) (hvb:Vis (ae st) B) (hB1:(B==("__debug__" : Str))=false) (hB2:(B==("__classdict__" : Str))=false) (ht:be "HouseError" (.Name "self" p3) p1 p2 p4):bM P W K mg base 2 x [F,G] run:=by
 obtain⟨C,f,fd,h1,h2,h3,h4,h5,h6⟩:=h;obtain⟨HE,g,gd,g1,g2,g3,g4,_⟩:=H;exact⟨C,f,fd,_,(show 2<=2 by decide),h1,h2,h3,h5,wt h4 S hB g2 g3 g4 g1 hk k9 hFG hg hg2 hv hva hA1 hA2 hvb hB1 hB2 ht,h6⟩
end
local macro_rules|`(tactic| ac_nf)=>`(tactic| try dsimp[wx,zi,zh,sZ,zj,List.set_cons_zero,Dp,m7,ud,xP,xR,xQ,uf,pA,nT])
local macro_rules|`(tactic| infer_instance)=>`(tactic| first
 | refine sP ?_|refine sQ ?_|(refine sM ?_;try ac_nf)|refine wj ?_|refine y6 rfl ?_|refine y9 ?_
 | refine AA ?_|refine At ?_|refine Az ?_|refine yk ?_|refine yv ?_|refine Au ?_|refine Ay ?_
 | refine w_C ?_|refine gm rfl ?_|refine yz rfl rfl ?_|refine yy rfl ?_|refine yx rfl ?_|refine yw ?_|refine Aw ?_|refine Ax ?_|refine l9 ?_|refine A7 ?_|refine w_B ?_|refine w_M ?_|refine yq rfl ?_|refine yr rfl rfl ?_|refine yp ?_|refine A5 ?_|refine yA ?_|refine yt ?_|refine zv (by unhygienic rfl) ?_|refine si ?_|refine sj ?_|refine yj ?_|refine A6 ?_|refine nJ ?_|refine Av ?_
 | refine uS ?_|refine uT ?_
 | refine kf ?_|refine AB ?_|refine A8 ?_|refine AD rfl rfl ?_|refine sk rfl ?_|refine vS rfl rfl ?_|refine AC rfl rfl rfl ?_|refine ke ?_|refine dO rfl ?_
 | refine uU ?_|refine yH ?_|refine AF ?_|refine md ?_
 | (refine uP (by unhygienic rfl) ?_;try ac_nf)|refine yE rfl ?_|refine sq (by unhygienic rfl) ?_|refine uQ ?_|refine yD ?_
 | refine gu (by unhygienic rfl) ?_
 | refine wZ ?_|refine zB ?_|refine zA ?_|refine zw ?_|refine zx ?_|refine xb ?_|refine xf ?_|refine xh ?_|refine xi rfl ?_
 | refine kT rfl ?_|refine qt (n:=0) rfl (B2 rfl) ?_|refine qt (n:=1) rfl (B2 rfl) ?_
 | refine vg (AW (by decide) (by decide)) ?_|refine vg (AV (by decide) (by decide)) ?_|refine vf ⋯ ?_|refine w8 ⋯ ?_
 | refine yu (by rfl) ?_|refine v9 ?_|refine yV ?_
 | refine AR ?_|refine AS ?_|refine oW rfl ?_|refine yO rfl (by unhygienic rfl) rfl rfl ?_|refine AI rfl rfl ?_|refine AJ ?_|refine yc ?_|refine mK rfl ?_)
local macro_rules|`(tactic| omega)=>`(tactic| decide)
local macro_rules|`(tactic| lia)=>`(tactic| repeat infer_instance)
local macro_rules|`(tactic| cbv)=>`(tactic| unhygienic rfl)
local macro_rules|`(tactic| clear_value $h:ident)=>`(tactic| first|refine dsp (fun $h=>?_) (fun $h=>?_)|refine dspN (fun $h=>?_) (fun $h=>?_)|refine bsp (fun $h=>?_) (fun $h=>?_))
def kS{ns:List Int}{kd:Kd}{a:Int}{QR:R->Prop}(h0:0<=a)(h1:a<ns.length)(q:∀y,y∈ns->ns[a.toNat]?=some y->QR ⟨.ow,.im (.int y)⟩):W1 (ixR ⟨kd,.li (ns.map .int)⟩ (.im (.int a))) QR:=by
 apply qm h0 (by exists h1) λx hx=>?_;rw[Bv]at hx;cases e:ns[a.toNat]? with
 | none=>rw[e]at hx;cases hx
 | some y=>rw[e]at hx;cases hx;exact q y (BU e) e
def km{α:Type}{P : α->Prop}{l:List α}{y : α}(h:∀x∈l,P x)(hy:P y):∀x∈l++[y],P x:=λx hx=>(yaM hx).elim (h x) λz=>by rw[ysM z];exact hy
abbrev fT(f:Int×Int):T:=.li [.int f.1,.int f.2]
def cE{f:Int×Int}{n:Int}(h1:0<n)(h2:n<2^64){Q:T->T->Prop}(q:∀d f',0<=d->d<n->Q (.im (.int d)) (fT f')):W2 (bu [fT f,.im (.int n)]) Q:=by
 apply nA rfl rfl ?_;unfold gZ
 lia
 (refine cy ?_;lia;clear_value h)
 ·lia
  exact q _ (f.1 / n,f.2) (CT _ ⋯) (CF _ h1)
 ·lia
  exact q _ (f.1,(f.2*48271 % 2147483647*40692+30103) % 2147483399+1) (CT _ ⋯) (CF _ h1)
abbrev Looks(P:Nat->Int×List Int->Prop)(c:Nat)(m:Nat)(ls:List (List (Int×List Int))):Prop:=ls.length=m/\∀x l,ls[x]?=some l->l.length<=c/\∀p∈l,P x p
def uz{α:Type}{l:List α}{n x:Nat}{a b : α}(h:(l.set n a)[x]?=some b):(n=x/\b=a)\/(n≠x/\l[x]?=some b):=by
 by_cases e:n=x
 ·subst e;have:=(Bb.mp h).1;rw[BR (by exists this)]at h;cases h;exact .inl ⟨rfl,rfl⟩
 ·rw[Bn e]at h;exact .inr ⟨e,h⟩
def Looks.set{P:Nat->Int×List Int->Prop}{c m:Nat}{ls:List (List (Int×List Int))}{n:Nat}{l l':List (Int×List Int)}(h:Looks P c m ls)(hl:ls[n]?=some l)(hn:l'.length<=c)(hp:∀p∈l',P n p):Looks P c m (ls.set n l'):=by
 apply⟨by rw[CB];exact h.1,λx l' hx=>?_⟩;rcases uz hx with⟨rfl,rfl⟩|⟨_,hx⟩;exact⟨hn,hp⟩;exact h.2 x l' hx
abbrev RR(rest row:List Int):Prop:=row.length=rest.length/\∀(i:Nat) y r,row[i]?=some y->rest[i]?=some r->-2<=y/\y<=2/\-2<=r+y/\r+y<=2
inductive Ru where
 | num (n:Int)|rd (x:Str) (row:List Int)|op (s:Str) (a b:Ru)|cond (a b c:Ru)
abbrev Ru.depth:Ru->Nat
 | .op _ a b=>max a.depth b.depth+1
 | .cond a b c=>max a.depth (max b.depth c.depth)+1
 | _=>0
abbrev xY:List Str:=["+","-","*","min","max","rest","less"]
abbrev Ru.ok:Ru->Prop
 | .op s a b=>s∈xY/\a.ok/\b.ok
 | .cond a b c=>a.ok/\b.ok/\c.ok
 | _=>True
abbrev EB:List Str:=["min","max","rest","less","if"]
abbrev nmB(S:List Nat) (a:Nat) (ch k:Nat):List Nat:=S.take a++ch::S.drop a++(if k % 2=1 then [113]else [])
abbrev nmS(S:List Nat) (a:Nat) (ch k:Nat):Str:=if oL (nmB S a ch k)∈EB then oL (nmB S a ch k++[119])else oL (nmB S a ch k)
def AY:113∈sL LET:=by decide +kernel
def A4:119∈sL LET:=by decide +kernel
def sr:∀i<26,∀j<26,(sL LET).getD i 0=(sL LET).getD j 0->i=j:=by decide +kernel
def wl:∀z∈EB,oL (sL z++[119])∉EB:=by decide +kernel
def cC{S:List Nat}{a ch k:Nat}:(nmB S a ch k).length=S.length+1+k % 2:=by
 unfold nmB;have h:k % 2=0\/k % 2=1:=by omega
 rw[Bw,Bw,Bf,Cd,Co];rcases h with h|h<;>simp[h]<;>omega
def wI{S:List Nat}{a ch k:Nat}(hS:∀c∈S,c∈sL LET)(hc:ch∈sL LET):∀c∈nmB S a ch k,c∈sL LET:=λc h=>by
 unfold nmB at h;rcases yaM h with h|h
 ·rcases yaM h with h|h;exact hS c (List.mem_of_mem_take h)
  ·rcases ycM h with rfl|h;exact hc;exact hS c (List.mem_of_mem_drop h)
 ·split at h;rw[ysM h];exact AY;cases h
def mS{S:List Nat}{a ch ch' k k':Nat}(h:nmB S a ch k=nmB S a ch' k'):ch=ch'/\k % 2=k' % 2:=by
 have hl:=congrArg CG h;rw[cC,cC]at hl;have hk:k % 2=k' % 2:=by omega
 apply⟨?_,hk⟩;unfold nmB at h;rw[hk]at h;have h2:=C5 h;have h3:=List.append_cancel_left h2;exact(CH.inj h3).1
def kP{S:List Nat}{a ch k:Nat}(hk:k % 2=1):(nmB S a ch k).getLast?=some 113:=by
 unfold nmB;rw[if_pos hk,CP];rfl
def jS{x y:List Nat}(h:oL x=oL y):x=y:=congrArg sL h
def tG{S:List Nat}{a ch ch' k k':Nat}(h:nmS S a ch k=nmS S a ch' k'):ch=ch'/\k % 2=k' % 2:=by
 unfold nmS at h;split at h<;>split at h;exact mS (C5 (jS h))
 ·have h':=jS h;have hl:=congrArg CG h';rw[Bw,cC,cC]at hl;have hk:k' % 2=1:=by simp at hl;omega
  have:=kP (S:=S) (a:=a) (ch:=ch') hk;rw[<-h',CP]at this;cases this
 ·have h':=jS h;have hl:=congrArg CG h';rw[Bw,cC,cC]at hl;have hk:k % 2=1:=by simp at hl;omega
  have:=kP (S:=S) (a:=a) (ch:=ch) hk;rw[h',CP]at this;cases this
 ·exact mS (jS h)
abbrev cX(z:Str):Prop:=1<=z.length/\z.length<=8/\z∉EB/\∀c∈sL z,c∈sL LET
def wJ{S:List Nat}{a ch k:Nat}(hS:∀c∈S,c∈sL LET)(hc:ch∈sL LET)(hl:S.length<=5):cX (nmS S a ch k):=by
 have hb:=wI (a:=a) (k:=k) hS hc;have hlen:=cC (S:=S) (a:=a) (ch:=ch) (k:=k);unfold cX nmS;split
 ·delta c;have h1:(oL (nmB S a ch k++[119])).length=S.length+1+k % 2+1:=by rw[cK,cw,Bw,hlen];rfl
  apply⟨by omega,by omega,wl _ c,λx hx=>?_⟩;rw[cw]at hx;rcases yaM hx with h|h;exact hb x h;rw[ysM h];exact A4
 ·delta c;have h1:(oL (nmB S a ch k)).length=S.length+1+k % 2:=by rw[cK,cw,hlen]
  exact⟨by omega,by omega,c,λx hx=>hb x (by rwa [cw]at hx)⟩
def o8{α:Type}{xs:List α}{n:Nat}(h:n<=xs.length):cF xs none (some (n:Int))=xs.take n:=by
 unfold cF;rw[HT.sIx_none,HT.sIx_nat,DR h];simp
def o7{α:Type}{xs:List α}{n:Nat}(h:n<=xs.length):cF xs (some (n:Int)) none=xs.drop n:=by
 unfold cF;rw[HT.sIx_none,HT.sIx_nat,DR h];exact Db (by rw[Co];exact Bg _)
def jl:∀{zs:List Str},lf (zs.map I.str)=some zs
 | []=>rfl
 | z::zs=>by rw[Bj,lf,jl];rfl
def xa{z:Str}{zs:List Str}{QT1:T->Prop}(h:(zs.map (·.length)).sum+zs.length*z.length<=16777216)(q:QT1 (.im (.str (F6 z zs)))):W1 (gS (.im (.str z)) [.li (zs.map .str)]) QT1:=w1 (by dsimp[gS,jl];rw[if_pos h]) q
def lK{β:Type}{g:Nat->β}{n:Nat}(hf:∀x<n,∀y<n,g x=g y->x=y):((BL n).map g).Nodup:=fH List.nodup_range λx hx y hy e=>hf x (Cv.mp hx) y (Cv.mp hy) e
abbrev dD(S:List Nat) (a fn m:Nat):List Str:=(BL m).map λk=>nmS S a ((sL LET).getD ((fn+5*k) % 26) 0) k
def mj{i:Nat}(h:i<26):(sL LET)[i]?=some ((sL LET).getD i 0):=by
 rw[BF,CA (by rw[jp];exact h)];rfl
def qf{S:List Nat}{a fn m:Nat}(hS:∀c∈S,c∈sL LET)(hl:S.length<=5)(hm:m<=6):(dD S a fn m).length=m/\(dD S a fn m).Nodup/\∀z∈dD S a fn m,cX z:=by
 apply⟨by simp[dD],lK λx hx y hy e=>?_,λz hz=>?_⟩
 ·have:=sr _ (Dq _ (by decide)) _ (Dq _ (by decide)) (tG e).1;omega
 ·obtain⟨k,hk,rfl⟩:=Bm.mp hz;exact wJ hS (BU (mj (Dq _ (by decide)))) hl
def qe{f:Int×Int}{m:Int}(h1:0<=m)(h2:m<=6){Q:T->T->Prop}(q:∀(zs:List Str) f',zs.length=m.toNat->zs.Nodup->(∀z∈zs,cX z)->Q (.li (zs.map .str)) (fT f')):W2 (fO [fT f,.im (.int m)]) Q:=by
 apply runI_ok' [some ⟨.io 0,fT f⟩,↥(.int m),none,none,none,none,none,none,none] rfl rfl rfl ?_;unfold fF
 lia
 apply iD (λf:Int×Int=>[some ⟨.io 0,fT f⟩,↥(.int m),↥(.str LET),none,none,none,none,none,none]) I.str (λj _ l=>l.length=j/\∀z∈l,∃ch,ch∈sL LET/\z=⟨#[ch]⟩) ?_
 lia
 apply cE ⋯ ⋯ λd f hd0 hd1=>?_;ac_nf
 lia
 apply⟨⟨by omega,by omega⟩,by cbv,f,by cbv,⟨rfl,by simp⟩,λj f l hj ⟨hl,hx⟩=>?_,λf zs ⟨hl,hx⟩=>?_⟩
 ·lia
  apply cE ⋯ ⋯ λd f hd0 hd1=>?_;ac_nf
  lia
  apply qq (s:=LET) (by rw[LET_len',EV];omega) hd0 (by rw[jp];exact hd1) λc hc=>?_;exact⟨⟨#[c]⟩,f,rfl,by cbv,by simp[hl],km hx ⟨c,BU hc,rfl⟩⟩
 lia
 have sum1:∀zs:List Str,(∀z∈zs,∃ch,ch∈sL LET/\z=⟨#[ch]⟩)->(zs.map (·.length)).sum=zs.length:=λzs h=>by
  induction zs with
  | nil=>rfl
  | cons z zs ih=>
   obtain⟨ch,_,e⟩:=h z ymS;rw[Bj,List.sum_cons,ih λy hy=>h y (ymC _ hy),Bf,e];show 1+zs.length=_;omega
 have e0:("" : Str)=oL []:=by decide +kernel
 have e1:(("" : Str)).length=0:=by decide +kernel
 apply xa (zs:=zs) (by rw[sum1 zs hx,e1];omega) ?_;have hst:sL (F6 "" zs)=(zs.map sL).flatten:=by rw[e0];exact nV zs
 have hSl:(sL (F6 "" zs)).length<=5:=by
  rw[hst,List.length_flatten,Cj];have:(zs.map (CG∘sL)).sum=zs.length:=by rw[<-sum1 zs hx];congr 1
  omega
 have hS:∀c∈sL (F6 "" zs),c∈sL LET:=λc hc=>by
  rw[hst]at hc;obtain⟨l,hl',hc⟩:=DE.mp hc;obtain⟨z,hz,rfl⟩:=Bm.mp hl';obtain⟨ch,hch,rfl⟩:=hx z hz;have:c=ch:=by exists hc
  rw[this];exact hch
 generalize F6 "" zs=stem at *;have hst5:stem.length<=5:=by rw[cK];exact hSl
 have hlc:∀l:List Nat,(oL l).length=l.length:=λl=>by rw[cK,cw]
 lia
 apply cE ⋯ ⋯ λfi f hf0 hf1=>?_;ac_nf
 lia
 apply xc (by rw[EV];omega) ?_
 lia
 apply cE ⋯ ⋯ λat0 f ha0 ha1=>?_;ac_nf
 lia
 obtain⟨a,rfl⟩:∃a:Nat,at0=(a:Int):=⟨at0.toNat,by omega⟩;obtain⟨fn,rfl⟩:∃a:Nat,fi=(a:Int):=⟨fi.toNat,by omega⟩;have ha5:a<=(sL stem).length:=by rw[<-cK];omega
 try ac_nf
 lia
 apply uM (λk:Nat=>[some ⟨.io 0,fT f⟩,↥(.int m),↥(.str LET),↥(.str stem),↥(.int fn),↥(.int a),⇑(.li ((dD (sL stem) a fn k).map .str)),none,none]) (λj k=>k=j) ?_
 lia
 apply⟨⟨by omega,by omega⟩,0,by cbv,rfl,λi k hi hk=>?_,λk hk=>?_⟩
 ·subst hk;have hidx:((fn:Int)+5*(k:Int)) % 26=(((fn+5*k) % 26:Nat):Int):=by omega
  have hilt:(fn+5*k) % 26<26:=Dq _ (by decide);have hche:=mj hilt;have hne:dD (sL stem) a fn (k+1)=dD (sL stem) a fn k++[nmS (sL stem) a ((sL LET).getD ((fn+5*k) % 26) 0) k]:=by simp[dD,DS]
  generalize (sL LET).getD ((fn+5*k) % 26) 0=ch at hche hne
  lia
  apply vj (by rw[EV];omega) ?_;rw[o8 ha5]
  lia
  rw[hidx];apply qq (s:=LET) (by rw[LET_len',EV];omega) ⋯ (by rw[jp];omega) λc hc=>?_;rw[Dv,hche]at hc;cases hc
  lia
  apply jT (by rw[hlc,Cd,EV];show _+1<=_;omega) ?_
  lia
  apply vj (by rw[EV];omega) ?_;rw[o7 ha5]
  lia
  apply jT (by rw[cK,ir,cw,hlc,EV,Bw,Cd,Co];show _+1+_<=_;omega) ?_;have en:(oL ((sL stem).take a)++(⟨#[ch]⟩:Str))++oL ((sL stem).drop a)=oL ((sL stem).take a++ch::(sL stem).drop a):=by
   apply j7;rw[ir,ir,cw,cw,cw];simp
  rw[en]
  lia
  apply WS.mono (Q:=λfl O=>fl=.nx/\O=[some ⟨.io 0,fT f⟩,↥(.int m),↥(.str LET),↥(.str stem),↥(.int fn),↥(.int a),⇑(.li ((dD (sL stem) a fn k).map .str)),↥(.int k),↥(.str (oL (nmB (sL stem) a ch k)))]) ?_ ?_
  ·(refine cy ?_;lia;clear_value hk2)
   ·lia
    apply jT (by rw[hlc,Bw,Bf,Cd,Co,EV];show _+1<=_;omega) ?_;have eq:oL ((sL stem).take a++ch::(sL stem).drop a)++("q" : Str)=oL (nmB (sL stem) a ch k):=by
     apply j7;rw[ir,cw,cw];unfold nmB;rw[if_pos ⋯];rfl
    rw[eq]
    lia
    exact⟨by trivial,by first|trivial|cbv⟩
   ·lia
    have eq:(sL stem).take a++ch::(sL stem).drop a=nmB (sL stem) a ch k:=by
     unfold nmB;rw[if_neg ⋯];simp
    rw[eq];exact⟨by trivial,by first|trivial|cbv⟩
  rintro fl O ⟨rfl,rfl⟩;have hnl:(oL (nmB (sL stem) a ch k)).length<=7:=by rw[hlc,cC];omega
  lia
  apply WS.mono (Q:=λfl O=>fl=.nx/\O=[some ⟨.io 0,fT f⟩,↥(.int m),↥(.str LET),↥(.str stem),↥(.int fn),↥(.int a),⇑(.li ((dD (sL stem) a fn k).map .str)),↥(.int k),↥(.str (nmS (sL stem) a ch k))]) ?_ ?_
  ·apply cy ?_
   lia
   apply zy (is:=EB.map .str) ⟨rfl,by decide +kernel,by decide +kernel⟩ ?_
   lia
   clear_value hw
   ·have hw':oL (nmB (sL stem) a ch k)∈EB:=by exists hw
    lia
    have hw1:(("w" : Str)).length=1:=by decide +kernel
    apply jT (by rw[EV];omega) ?_;have eq:oL (nmB (sL stem) a ch k)++("w" : Str)=nmS (sL stem) a ch k:=by
     unfold nmS;rw[if_pos hw'];apply j7;rw[ir,cw,cw];rfl
    rw[eq]
    lia
    exact⟨by trivial,by first|trivial|cbv⟩
   ·have hw':oL (nmB (sL stem) a ch k)∉EB:=by exists hw
    have eq:oL (nmB (sL stem) a ch k)=nmS (sL stem) a ch k:=by unfold nmS;rw[if_neg hw']
    rw[eq]
    lia
    exact⟨by trivial,by first|trivial|cbv⟩
  rintro fl O ⟨rfl,rfl⟩
  lia
  apply bI (by simp[dD];rw[EV];omega) ?_;ac_nf
  lia
  apply⟨k+1,?_,rfl⟩;rw[hne,BQ]
  cbv
 ·subst hk
  lia
  obtain⟨n1,n2,n3⟩:=qf (S:=sL stem) (a:=a) (fn:=fn) (m:=m.toNat) hS hSl ⋯;exact q _ f n1 n2 n3
def sK{ns:List Int}{k:Int}(hn:ns.length<=1000)(h1:0<=k)(h2:k<=1000000){Q:T->Prop}(q:∀f,Q (fT f)):W1 (ii [.li (ns.map .int),.im (.int k)]) Q:=by
 apply Ew [some ⟨.vw none none,.li (ns.map .int)⟩,↥(.int k),none,none] rfl rfl rfl ?_;unfold gY
 lia
 apply WS.mono (Q:=λfl O=>fl=.nx/\∃cell:Int,O=[some ⟨.vw none none,.li (ns.map .int)⟩,↥(.int k),↥(.int cell),none]) ?_ ?_
 ·(refine cy ?_;lia;clear_value hk)
  ·rw[Br]at hk
   lia
   apply kS (ns:=ns) h1 hk λy hy _=>?_
   lia
   exact⟨by trivial,y,by first|trivial|cbv⟩
  ·(refine cy ?_;lia;clear_value hl)
   ·rw[Br]at hl
    lia
    rw[Br];apply vf ⋯ ?_
    lia
    apply kS (ns:=ns) (CT _ ⋯) (CF _ ⋯) λy hy _=>?_
    lia
    exact⟨by trivial,_,by first|trivial|cbv⟩
   ·lia
    exact⟨by trivial,_,by first|trivial|cbv⟩
 rintro fl O ⟨rfl,cell,rfl⟩
 lia
 apply WS.mono (Q:=λfl O=>fl=.nx/\∃own:Int,O=[some ⟨.vw none none,.li (ns.map .int)⟩,↥(.int k),↥(.int cell),↥(.int own)]) ?_ ?_
 ·apply cy ?_
  lia
  apply qs ⟨by omega,by omega,by decide⟩ ?_
  lia
  clear_value hc
  ·lia
   exact⟨by trivial,_,by first|trivial|cbv⟩
  ·lia
   exact⟨by trivial,_,by first|trivial|cbv⟩
 rintro fl O ⟨rfl,own,rfl⟩
 lia
 have m0:=CT cell (show(2147483629:Int)≠0 by omega);have m1:=CF cell (show(0:Int)<2147483629 by omega);apply qs ⟨by omega,by omega,by omega⟩ ?_
 lia
 exact q (own,_)
abbrev I.plain:I->Bool
 | .ls _=>false|.exn _ _ _=>false|_=>true
def jK:∀{i:I},i.plain=true->ak [.im i]=some (.im i):=by unhygienic
 intro i h;cases i<;>first|rfl|cases h
def jL{is:List I}:ak [.li is]=some (.im (.ls is)):=by unhygienic rfl
section
variable {x F G:Str}{t u:T}{i j:I}{Q:T->Prop}{f:Str}{ks:List Str}{is js:List I}
def jc(q:Q (.im (.exn x [] []))):W1 (exR x [] ak []) Q:=by unhygienic exact⟨_,rfl,q⟩
def vb(h:ak [t]=some (.im i))(hn:i.noex=true)(q:Q (.im (.exn x [F] [i]))):W1 (exR x [F] ak [t]) Q:=
 ⟨_,by dsimp[exR,cA,h,I.noexs,hn,B1,Bf,CS,decide_true,Cs,if_true],q⟩
def vc(h:ak [t]=some (.im i))(h':ak [u]=some (.im j))(hn:i.noex=true)(hn':j.noex=true)(q:Q (.im (.exn x [F,G] [i,j]))):W1 (exR x [F,G] ak [t,u]) Q:=
 ⟨_,by dsimp[exR,cA,h,h',I.noexs,hn,hn',B1,Bf,CS,decide_true,Cs,if_true],q⟩
def dF(h:i.plain=true)(hn:i.noex=true)(q:Q (.im (.exn x [F] [i]))):W1 (exR x [F] ak [.im i]) Q:=vb (jK h) hn q
def jd(hn:I.noexs is=true)(q:Q (.im (.exn x [F] [.ls is]))):W1 (exR x [F] ak [.li is]) Q:=vb jL (by rw[I.noex];exact hn) q
def lN(h:i.plain=true)(h':j.plain=true)(hn:i.noex=true)(hn':j.noex=true)(q:Q (.im (.exn x [F,G] [i,j]))):W1 (exR x [F,G] ak [.im i,.im j]) Q:=vc (jK h) (jK h') hn hn' q
def w6(hn:I.noexs is=true)(hn':I.noexs js=true)(q:Q (.im (.exn x [F,G] [.ls is,.ls js]))):W1 (exR x [F,G] ak [.li is,.li js]) Q:=vc jL jL (by rw[I.noex];exact hn) (by rw[I.noex];exact hn') q
abbrev pE(x f:Str):Bool:=match gk EXN x with
 | some p=>p.2.contains f
 | none=>false
def lB(h:pE x f=true):bv EXN f (.im (.exn x ks is))=(bK (ks.zip is) f).map T.im:=by
 unfold pE at h;unfold bv;cases e:gk EXN x with
 | none=>rw[e]at h;cases h
 | some p=>
  rw[e]at h;dsimp[e];exact if_pos h
def dH(h:pE x F=true)(q:Q (.im i)):W1 (bv EXN F (.im (.exn x [F] [i]))) Q:=⟨_,by rw[lB h];simp[bK],q⟩
def qk(h:pE x F=true)(q:Q (.im i)):W1 (bv EXN F (.im (.exn x [F,G] [i,j]))) Q:=⟨_,by rw[lB h];simp[bK],q⟩
def ql(h:pE x G=true)(hn:F≠G)(q:Q (.im j)):W1 (bv EXN G (.im (.exn x [F,G] [i,j]))) Q:=⟨_,by rw[lB h];simp[bK,hn],q⟩
end
abbrev NS:List Str:=["NoHouse","NoText","Loose","TooLong","Ring","Early","NoWay","NoTurn","NoCell","NoRow","NoName"]
abbrev srt(x:Str):List I:=NS.map λy=>.bl (sX x y)
def rX{x:Str}{ks:List Str}{is:List I}(h:x∈("HouseError" : Str)::NS):cW [.im (.exn x ks is)]=some (.li (srt x)):=by unhygienic
 dsimp[NS,B3,CN,or_false]at h;rcases h with rfl|rfl|rfl|rfl|rfl|rfl|rfl|rfl|rfl|rfl|rfl|rfl<;>rfl'
def x8:∀k<11,srt (NS.getD k "")=(BL 11).map λj:Nat=>I.bl (decide ((k:Int)=(j:Int))):=by decide +kernel
def ia{n:Nat}:∀{is:List I},(∀i∈is,i.pd.depth<=n)->Fg (I.pds is)<=n
 | [],_=>by rw[I.pds,Fg];exact B6 _
 | i::is,h=>by
  rw[I.pds,Fg];have h1:=h i ymS;have h2:=ia λx hx=>h x (ymC _ hx);omega
section
variable {is:List I}{i:I}{Q:T->Prop}
def y0(h:I.lays is=true):dtT (.li is)=some (.list (I.pds is)):=by unfold dtT;exact if_pos h
def yZ(h:i.lay=true):dtT (.im i)=some i.pd:=by unfold dtT;exact if_pos h
def jU(h:I.lays is=true)(hd:Fg (I.pds is)<=49)(q:Q (.im (.bl false))):W1 (jR (.li is) (.li is)) Q:=by
 apply⟨_,?_,q⟩;have hc:Fo (.list (I.pds is))=true:=by rw[Fo];exact dA is h
 unfold jR dt2;dsimp[y0 h];rw[if_pos (by rw[Go];omega),IN _ hc];rfl
def lM(h:i.lay=true)(hd:i.pd.depth<=50)(q:Q (.im (.bl true))):W1 (kA (.im i) (.im i)) Q:=by
 apply⟨_,?_,q⟩;unfold kA dt2;dsimp[yZ h];rw[if_pos hd,IN _ (jN i h)];rfl
end
section
variable {ms:MA}{O:Rho}{Q:T->Prop}{i:I}{is js:List I}
def lh{QI':List R->List R->Rho->Prop}(h:WA ms O λrs O1=>∃r is,rs=[r]/\pW r.t=some is/\QI' [r] (cO 0 is) O1):WI (eC ms) O QI':=by
 obtain⟨rs,O1,e1,r,is,rfl,e2,q⟩:=h;exact⟨_,_,_,by dsimp[eC,e1,e2],q⟩
def vh(h:eH i=true)(q:Q (.im (.str i.pd.shown))):W1 (oM [.im i]) Q:=by unhygienic
 apply w1 (x:=.im (.str i.pd.shown)) ?_ q;show(if eH i=true then _ else _)=_;rw[if_pos h]
def xg(h:I.doks is=true/\I.doks js=true/\I.deps is<=50)(q:Q (.im (.bl (!decide (is=js))))):W1 (neT (.li is) (.li js)) Q:=⟨_,by dsimp[neT,eqB];rw[if_pos h];rfl,q⟩
def kn{k:Nat}(hk:k<is.length):∃y,atI is ((k:Int)-1)=some y/\y∈is:=by
 have:∃j,ixN is.length ((k:Int)-1)=some j/\j<is.length:=by
  unfold ixN;by_cases h:0<=(k:Int)-1
  ·rw[if_pos h,if_pos ⋯];exact⟨_,rfl,by omega⟩
  ·rw[if_neg h,if_pos ⋯];exact⟨_,rfl,by omega⟩
 obtain⟨j,e,hj⟩:=this;apply⟨is[j],?_,List.getElem_mem hj⟩;unfold atI;rw[e];simp[hj]
def kz:(cO 0 is).all (aC [1,2,3])=true/\∀M,(cO 0 is).all (aC M)=true:=by
 have:∀M,(cO 0 is).all (aC M)=true:=λM=>mq λr hr=>by
  obtain⟨i,hi⟩:=Di.mp hr;rw[cP]at hi;cases e:is[i]? with
  | none=>rw[e]at hi;cases hi
  | some x=>rw[e]at hi;cases hi;rfl
 exact⟨this _,this⟩
end
abbrev Sh(i:I)(n k:Nat):Prop:=i.nls=true/\i.pd.showable=true/\i.pd.leavesShort 13=true/\i.pd.weight<=n/\i.pd.depth<=k
def Sh.mono{i:I}{n k n' k':Nat}(h:Sh i n k)(h1:n<=n')(h2:k<=k'):Sh i n' k':=⟨h.1,h.2.1,h.2.2.1,Bz h.2.2.2.1 h1,Bz h.2.2.2.2 h2⟩
def j8{x:Int}(h:x.natAbs<10^12):Sh (.int x) 41 0:=by
 have hx:x.natAbs<2^40:=by omega
 have hl:x.natAbs.log2<41:=by
  by_cases e:x.natAbs=0;rw[e];decide
  ·have:=(Ea e).mpr hx;omega
 apply⟨rfl,?_,?_,?_,Bg _⟩
 ·show decide (x.natAbs.log2<1920)=true;rw[decide_eq_true_eq];omega
 ·show decide ((EW.shown (.int x)).length<=13)=true;rw[decide_eq_true_eq];exact EW.shown_int_le ⋯
 ·show(if(x==0)=true then 0 else x.natAbs.log2+1)<=41;split<;>omega
def rV{n k:Nat}:∀{is:List I},(∀i∈is,Sh i n k)->I.nlss is=true/\Hz (I.pds is)=true/\Ha 13 (I.pds is)=true/\GM (I.pds is)<=is.length*(n+1)/\Fg (I.pds is)<=k
 | [],_=>⟨rfl,rfl,rfl,by simp[I.pds,GM],by simp[I.pds,Fg]⟩
 | i::is,h=>by
  obtain⟨a1,a2,a3,a4,a5⟩:=h i ymS;obtain⟨b1,b2,b3,b4,b5⟩:=rV λx hx=>h x (ymC _ hx);apply⟨by rw[I.nlss,a1,b1];rfl,by rw[I.pds,Hz,a2,b2];rfl,by rw[I.pds,Ha,a3,b3];rfl,?_,?_⟩;rw[I.pds,GM,Bf,D4];omega;rw[I.pds,Fg];omega
def lZ{n k L:Nat}{is:List I}(h:∀i∈is,Sh i n k)(hl:is.length<=L):Sh (.tup is) (L*(n+1)) (k+1):=by
 obtain⟨b1,b2,b3,b4,b5⟩:=rV h;apply⟨b1,by rw[I.pd,G6];exact b2,by rw[I.pd,FV];exact b3,?_,?_⟩
 ·rw[I.pd,IT];exact Bz b4 (Nat.mul_le_mul_right _ hl)
 ·rw[I.pd,Go];omega
def Sh.ok{i:I}{n k:Nat}(h:Sh i n k)(hn:n<=2^20)(hk:k<=50):eH i=true:=by
 obtain⟨a1,a2,a3,a4,a5⟩:=h;have hs:=EW.shown_fits (B:=13) (by decide) (by decide) (d:=i.pd) a3 (Bz a4 hn);unfold eH;rw[a1,a2,decide_eq_true (show i.pd.depth<=50 from Bz a5 hk),decide_eq_true hs];rfl
def oP{is:List I}(hl:is.length<=100)(h:∀i∈is,i.plain=true/\i.noex=true/\eH i=true){Q:T->Prop}(q:Q (.im (.bl true))):W1 (bV [.li is]) Q:=by
 apply Ew [some ⟨.vw none none,.li is⟩,none,none,none,none] rfl rfl rfl ?_;unfold bR
 lia
 apply sg (lh ?_)
 lia
 apply⟨_,is,rfl,rfl,gu ?_ ⟨λj O=>O=[some ⟨.vw none none,.li is⟩,none,none,none,none],by cbv,?_,?_⟩⟩
 ·rw[A9];exact⟨by cbv,kz.2 _⟩
 ·rintro i r O hr rfl;rw[cP]at hr;cases e:is[i]? with
  | none=>rw[e]at hr;cases hr
  | some x=>
   rw[e]at hr;dsimp[B1,Bq.injEq,BJ]at hr;subst hr;obtain⟨x1,x2,x3⟩:=h x (BU e);obtain⟨y,ey,hy⟩:=kn (Bb.mp e).1;obtain⟨y1,y2,y3⟩:=h y hy
   lia
   apply kT ey ?_
   lia
   apply dF x1 x2 (dH (by cbv) ?_)
   lia
   apply dF x1 x2 (dH (by cbv) ?_)
   lia
   apply dF x1 x2 (dH (by cbv) ?_)
   lia
   apply dF x1 x2 (dH (by cbv) ?_)
   lia
   apply dF x1 x2 (dH (by cbv) ?_)
   lia
   apply dF x1 x2 (dH (by cbv) ?_)
   lia
   apply lN x1 y1 x2 y2 (qk (by cbv) ?_)
   lia
   apply lN y1 x1 y2 x2 (ql (by cbv) (by decide) ?_)
   lia
   apply lL (is:=[x,x,x,x,x]) (js:=[x,x,x]) (by show 8<=sizeLine;rw[EV];omega) ?_
   lia
   apply cy ?_
   lia
   apply se (λ_:Unit=>[some ⟨.vw none none,.li is⟩,↥(.int i),↥x,↥y,⇑(.li (Bc 8 x))]) I.str (λj _ l=>l=Bc j x.pd.shown) ?_
   lia
   apply⟨Bc 8 x,rfl,by show 8<sizeLine;rw[EV];omega,by cbv,(),rfl,rfl,λj x' _ L hx' hL=>?_,λ_ L hL=>?_⟩
   ·have hxx:x'=x:=C3 (BU hx');subst hxx
    lia
    apply vh x3 ?_;apply⟨_,(),rfl,by cbv,?_⟩;rw[hL,List.replicate_succ']
   ·lia
    apply vh x3 ?_
    lia
    apply qr (is:=[.str x.pd.shown]) ⟨by decide,by decide,by show 8<=sizeLine;rw[EV];omega⟩ ?_
    lia
    have hL:L=Bc 8 x.pd.shown:=hL;subst hL;apply xg (is:=(Bc 8 x.pd.shown).map .str) (js:=(Bc 8 x.pd.shown).map .str) ⟨rfl,rfl,B2 rfl⟩ ?_;rw[decide_eq_true rfl]
    (repeat first|infer_instance|refine spT ?_|refine spF ?_|refine cy ?_)
    rfl
 ·rintro O rfl
  lia
  exact q
abbrev dN(w z:Str) (n:Int) (cs:List I) (c0 c1:I):List I:=[.exn "NoHouse" ["word","name"] [.str w,.str z],.exn "NoText" ["row"] [.int n],.exn "Loose" [] [],.exn "TooLong" ["many"] [.int (n+1)],.exn "Ring" ["cells"] [.ls cs],.exn "Early" ["cell"] [c0],.exn "NoWay" [] [],.exn "NoTurn" [] [],.exn "NoCell" ["cell"] [c1],.exn "NoRow" [] [],.exn "NoName" ["name"] [.str z]]
def qo{is:List I}{kd:Kd}{x:I}{a:Int}{QR:R->Prop}(h:atI is a=some x)(q:QR ⟨.ow,.im x⟩):W1 (ixR ⟨kd,.im (.ls is)⟩ (.im (.int a))) QR:=⟨_,by dsimp[ixR,isI,ixX,ixI,h,B1],q⟩
def nU{w z:Str}{n:Int}{cs:List I}{c0 c1:I}(hw:FC w=true)(hz:FC z=true)(hc:I.lays cs=true)(hd:Fg (I.pds cs)<=10)(h0:atI cs 0=some c0)(h1:atI cs (-1)=some c1)(l0:c0.lay=true)(l1:c1.lay=true)(d0:c0.pd.depth<=10)(d1:c1.pd.depth<=10){Q:T->Prop}(q:Q (.im (.bl true))) :
  W1 (bU [.li (dN w z n cs c0 c1),.im (.str w),.im (.str z),.im (.int n),.im (.ls cs)]) Q:=by
 apply Ew [some ⟨.vw none none,.li (dN w z n cs c0 c1)⟩,↥(.str w),↥(.str z),↥(.int n),↥(.ls cs)] rfl rfl rfl ?_;unfold bQ
 lia
 apply cy ?_
 lia
 apply qk (by cbv) ?_
 lia
 apply ql (by cbv) (by decide) ?_
 lia
 apply dH (by cbv) ?_
 lia
 apply jU (is:=[.str w,.str z,.str z]) (by simp[I.lays,I.lay,hw,hz]) (B2 rfl) ?_
 (repeat first|infer_instance|refine spT ?_|refine spF ?_|refine cy ?_)
 apply dH (by cbv) ?_
 lia
 apply dH (by cbv) ?_
 lia
 apply jU (is:=[.int n,.int (n+1)]) rfl (B2 rfl) ?_
 (repeat first|infer_instance|refine spT ?_|refine spF ?_|refine cy ?_)
 apply dH (by cbv) ?_
 lia
 apply lM (i:=.ls cs) (by rw[I.lay];exact hc) (by rw[I.pd,Go];omega) ?_
 (repeat first|infer_instance|refine spT ?_|refine spF ?_|refine cy ?_)
 apply dH (by cbv) ?_
 lia
 apply qo h0 ?_
 lia
 apply lM l0 ⋯ ?_
 (repeat first|infer_instance|refine spT ?_|refine spF ?_|refine cy ?_)
 apply dH (by cbv) ?_
 lia
 apply qo h1 ?_
 lia
 apply lM l1 ⋯ ?_
 lia
 exact q
abbrev cel(z:Str) (p:Int×Int):I:=.tup [.str z,.tup [.int p.1,.int p.2]]
abbrev gq(cs:List I):List I:=[.exn "Early" ["cell"] [.ls cs],.exn "NoCell" ["cell"] [.ls cs],.exn "NoName" ["name"] [.ls cs],.exn "NoHouse" ["word","name"] [.ls cs,.ls cs],.exn "NoText" ["row"] [.ls cs],.exn "TooLong" ["many"] [.ls cs]]
def gy{z:Str}(hz:FC z=true)(p:Int×Int):(cel z p).lay=true/\(cel z p).pd.depth<=2/\(cel z p).plain=true/\(cel z p).noex=true:=
 ⟨by simp[cel,I.lay,I.lays,hz],B2 rfl,rfl,rfl⟩
def kr{z:Str}(hz:FC z=true):∀ps:List (Int×Int),I.lays (ps.map (cel z))=true/\I.noexs (ps.map (cel z))=true
 | []=>⟨rfl,rfl⟩
 | p::ps=>by
  obtain⟨h1,h2⟩:=kr hz ps;obtain⟨g1,_,_,g2⟩:=gy hz p;exact⟨by rw[Bj,I.lays,g1,h1];rfl,by rw[Bj,I.noexs,g2,h2];rfl⟩
def o0{z:Str}(hz:FC z=true)(ps:List (Int×Int)):Fg (I.pds (ps.map (cel z)))<=2:=ia λi hi=>by
 obtain⟨p,_,rfl⟩:=Bm.mp hi;exact(gy hz p).2.1
def tF{z:Str}(h:cX z):FC z=true:=by
 unfold FC;rw[Array.all_eq_true'];intro c hc;have hm:c∈sL LET:=h.2.2.2 c (by simpa[sL]using hc);have:∀c∈sL LET,c<1000:=by decide +kernel
 have:=this c hm;exact decide_eq_true ⋯
section
variable {j i n k:Nat}{m:ME}{O:Rho}{Q:Rho->Prop}{ts:List T}{t:T}
abbrev WIt(j i:Nat)(m:ME)(n k:Nat)(O:Rho)(Q:Rho->Prop):Prop:=∃O',itE j i m n k O=some O'/\Q O'
def cz(h1 : O[j]?=some (⇑(.lst ts)))(h2:ts[k]?=some t)(h3:cS O i=true)(h:WE m ((au [i] O).set i (some ⟨.vw (some j) (some [.ix k]),t⟩)) λ_ O2=>WIt j i m n (k+1) O2 Q):WIt j i m (n+1) k O Q:=by
 obtain⟨r,O2,e,O3,e3,q⟩:=h;apply⟨O3,?_,q⟩;rw[itE];dsimp[h1,h2,h3,if_true,e];exact e3
def wu(h1 : O[j]?=some (⇑(.lst ts)))(h2:ts[k]?=none)(q:Q O):WIt j i m n k O Q:=by
 apply⟨O,?_,q⟩;rw[itE];dsimp[h1,h2]
def f8{O':Rho}(e : O=O')(h:WIt j i m n k O' Q):WIt j i m n k O Q:=by rw[e];exact h
def yl{Q:Fl->Rho->Prop}(h:wC O j=some n)(q:WIt j i m n 0 O (Q .nx)):WS (i5 j i m) O Q:=by unhygienic
 obtain⟨O2,e,q⟩:=q;exact⟨_,_,by dsimp[i5,h,e];rfl,q⟩
def A3{QF:R->Rho->Prop}{z:Str}{c:Int}{kd:Kd}(h : O[i]?=some (some ⟨kd,.im (.str z)⟩))(q:QF ⟨.ow,.di [(.str z,.int c)]⟩ O):WE (mD1 i c) O QF:=by unhygienic
 exact⟨_,_,by dsimp[mD1,h],q⟩
def tN{is:List I}{Q:T->Prop}(q:Q (.im (.tup is))):W1 (r8 [.im (.ls is)]) Q:=by unhygienic exact⟨_,rfl,q⟩
def mT{x:Str}{ks:List Str}{is:List I}{Q:T->Prop}(h:x∈("HouseError" : Str)::NS)(q:Q (.li (srt x))):W1 (cW [.im (.exn x ks is)]) Q:=⟨_,rX h,q⟩
def pM{x:Str}{ks:List Str}{is:List I}(h:x∈("HouseError" : Str)::NS):dt EXN "HouseError" (.im (.exn x ks is))=some (.im (.bl true))/\kD EXN (.im (.exn x ks is))=some (.im (.bl true)):=by unhygienic
 dsimp[NS,B3,CN,or_false]at h;rcases h with rfl|rfl|rfl|rfl|rfl|rfl|rfl|rfl|rfl|rfl|rfl|rfl<;>exact⟨by rfl',by rfl'⟩
def zz{x:Str}{ks:List Str}{is:List I}{Q:T->Prop}(h:x∈("HouseError" : Str)::NS)(q:Q (.im (.bl true))):W1 (dt EXN "HouseError" (.im (.exn x ks is))) Q:=⟨_,(pM h).1,q⟩
def vd{x:Str}{ks:List Str}{is:List I}{Q:T->Prop}(h:x∈("HouseError" : Str)::NS)(q:Q (.im (.bl true))):W1 (kD EXN (.im (.exn x ks is))) Q:=⟨_,(pM h).2,q⟩
def uA{w z:Str}{n:Int}{cs:List I}{c0 c1:I}:∀{i:Nat} {e:I},(dN w z n cs c0 c1)[i]?=some e->i<11/\∃ks is,e=.exn (NS.getD i "") ks is
 | 0,_,h=>by cases h;exact⟨by decide,_,_,rfl⟩
 | 1,_,h=>by cases h;exact⟨by decide,_,_,rfl⟩
 | 2,_,h=>by cases h;exact⟨by decide,_,_,rfl⟩
 | 3,_,h=>by cases h;exact⟨by decide,_,_,rfl⟩
 | 4,_,h=>by cases h;exact⟨by decide,_,_,rfl⟩
 | 5,_,h=>by cases h;exact⟨by decide,_,_,rfl⟩
 | 6,_,h=>by cases h;exact⟨by decide,_,_,rfl⟩
 | 7,_,h=>by cases h;exact⟨by decide,_,_,rfl⟩
 | 8,_,h=>by cases h;exact⟨by decide,_,_,rfl⟩
 | 9,_,h=>by cases h;exact⟨by decide,_,_,rfl⟩
 | 10,_,h=>by cases h;exact⟨by decide,_,_,rfl⟩
 | i+11,_,h=>by cases h
def zp:∀i<11,NS.getD i "" ∈ ("HouseError" : Str)::NS:=by decide +kernel
def x9:∀i<11,I.lays (srt (NS.getD i ""))=true/\Fg (I.pds (srt (NS.getD i "")))<=49:=by decide +kernel
def zb:pG (.im (.bl true)) (.li (srt "HouseError"))=some (.im (.bl false)):=by unhygienic rfl'
end
abbrev WL:List Str:=["ways","wheel","desks","name","number","read","row","steps"]
def rW{z:Str}(hl:z.length<=8)(h:∀c∈sL z,c<1000):Sh (.str z) 8 0:=by
 apply⟨rfl,rfl,?_,hl,Bg _⟩;show FV 13 (.str z)=true;rw[FV,BC];intro c hc;have:=h c hc;rw[decide_eq_true_eq];exact Bp this (by decide)
def yM:∀w∈WL,FC w=true/\w.length<=8/\∀c∈sL w,c<1000:=by decide +kernel
def mR{z:Str}(h:cX z):Sh (.str z) 8 0:=rW h.2.1 λc hc=>by
 have hm:c∈sL LET:=h.2.2.2 c hc;have:∀c∈sL LET,c<1000:=by decide +kernel
 exact this c hm
abbrev me(p:Int×Int):Prop:=-1000<=p.1/\p.1<=1000/\0<=p.2/\p.2<=6
def v8{z:Str}{p:Int×Int}(h:cX z)(hp:me p):Sh (cel z p) 170 2:=by
 unfold me at hp;unfold cel;apply lZ (n:=84) (k:=1) (L:=2) (λi hi=>?_) (Bg 2);rcases ycM hi with rfl|hi;exact(mR h).mono (by decide) (by decide)
 ·rw[ysM hi];apply(lZ (is:=[.int p.1,.int p.2]) (n:=41) (k:=0) (L:=2) (λi hi=>?_) (Bg 2)).mono (by decide) (by decide);rcases ycM hi with rfl|hi;exact j8 ⋯;rw[ysM hi];exact j8 ⋯
def sy{z:Str}{ps:List (Int×Int)}(h:cX z)(hl:ps.length<=6)(hp:∀p∈ps,me p):Sh (.tup (ps.map (cel z))) 1026 3:=
 lZ (n:=170) (k:=2) (L:=6) (λi hi=>by obtain⟨p,hp',rfl⟩:=Bm.mp hi;exact v8 h (hp p hp')) (by rw[Br];exact hl)
def sB{z:Str}(h:cX z):Sh (.fd [.inr z] [.int 3]) 100 2:=by
 obtain⟨a1,a2,a3,a4,a5⟩:=mR h;obtain⟨b1,b2,b3,b4,b5⟩:=j8 (x:=3) (by decide);have e:(I.fd [.inr z] [.int 3]).pd=.dict [(.str z,.int 3)]:=rfl;have e1:(I.str z).pd=.str z:=rfl;have e2:(I.int 3).pd=.int 3:=rfl;rw[e1]at a2 a3 a4 a5;rw[e2]at b2 b3 b4 b5;apply⟨rfl,?_,?_,?_,?_⟩<;>rw[e];rw[G6,HS,HS,a2,b2];rfl;rw[FV,Hi,Hi,a3,b3];rfl;rw[IT,Ip,Ip];omega;rw[Go,IP,IP];omega
def oX{z:Str}{ps:List (Int×Int)}(h:1<=ps.length):∃p,atI (ps.map (cel z)) 0=some (cel z p):=by
 obtain⟨x,h1,h2⟩:=ln (xs:=ps.map (cel z)) (i:=0) ⋯ (by rw[Br];omega);obtain⟨p,_,rfl⟩:=bW h2;exact⟨p,h1⟩
def sv{z:Str}{ps:List (Int×Int)}(h:1<=ps.length):∃p,atI (ps.map (cel z)) (-1)=some (cel z p):=by
 obtain⟨x,h1,h2⟩:=kn (is:=ps.map (cel z)) (k:=0) (by rw[Br];omega);obtain⟨p,_,rfl⟩:=Bm.mp h2;exact⟨p,h1⟩
def k01_law{ns:List Int}(hn:ns.length<=63):W1 (r_l_law_v9 [.li (ns.map .int)]) λt=>t=.im (.bl true):=by
 apply Ew [some ⟨.vw none none,.li (ns.map .int)⟩,none,none,none,none,none,none,none,none,none,none,none,none] rfl rfl rfl ?_;unfold eD
 lia
 apply sK ⋯ ⋯ ⋯ λf=>?_
 lia
 apply qe ⋯ ⋯ λzs f hzl hzn hzo=>?_;obtain⟨z,rfl⟩:∃z,zs=[z]:=by
  cases zs with
  | nil=>cases hzl
  | cons z zs=>cases zs with
   | nil=>exact⟨z,rfl⟩
   | cons y zs=>simp at hzl
 have hz:=hzo z ymS;have hzs:=tF hz;ac_nf
 lia
 apply cE ⋯ ⋯ λd f hd0 hd1=>?_;ac_nf
 lia
 apply qm (is:=WL.map .str) hd0 (by simpa[WL]using hd1) λx hx=>?_;obtain⟨w,hw,rfl⟩:=bW hx;obtain⟨hws,hw1,hw2⟩:=yM w (BU hw);clear hx hw hd0 hd1 d
 lia
 apply qs ⟨by omega,by omega,by decide⟩ ?_;rw[show(10:Int)^Int.toNat 12=1000000000000 from by decide]
 lia
 apply cE ⋯ ⋯ λn f hn0 hn1=>?_;ac_nf
 lia
 apply iD (λf:Int×Int=>[some ⟨.vw none none,.li (ns.map .int)⟩,⇑(fT f),↥(.str z),↥(.str w),↥(.int n),none,none,none,none,none,none,none,none]) (cel z) (λj _ l=>l.length=j/\∀p∈l,me p) ?_
 lia
 apply cE ⋯ ⋯ λd f hd0 hd1=>?_;ac_nf
 lia
 apply⟨⟨by omega,by omega⟩,by cbv,f,by cbv,⟨rfl,by simp⟩,λj f l hj ⟨hl,hx⟩=>?_,λf ps ⟨hl,hx⟩=>?_⟩
 ·lia
  apply cE ⋯ ⋯ λa f ha0 ha1=>?_;ac_nf
  lia
  exact⟨(a-1000,(j:Int)),f,rfl,by cbv,by simp[hl],km hx ⟨by dsimp only;omega,by dsimp only;omega,by dsimp only;omega,by dsimp only;omega⟩⟩
 have hps:1<=ps.length/\ps.length<=6:=by omega
 have hcl:(ps.map (cel z)).length<=6:=by rw[Br];omega
 obtain⟨hcy,hcx⟩:=kr hzs ps;have hcd:=o0 hzs ps;have hcs:=sy hz hps.2 hx;obtain⟨p0,h0⟩:=oX (z:=z) hps.1;obtain⟨p1,h1⟩:=sv (z:=z) hps.1;obtain⟨l0,d0,g0,x0⟩:=gy hzs p0;obtain⟨l1,d1,g1,x1⟩:=gy hzs p1;generalize ps.map (cel z)=cs at hcl hcy hcx hcd hcs h0 h1|-;generalize cel z p0=c0 at h0 l0 d0 g0 x0;generalize cel z p1=c1 at h1 l1 d1 g1 x1
 lia
 apply sf (λ_:Unit=>[some ⟨.vw none none,.li (ns.map .int)⟩,⇑(fT f),↥(.str z),↥(.str w),↥(.int n),⇑(.li cs),none,none,none,none,none,none,none]) (λ_:Unit=>T.li cs) (λ_ _ h=>nomatch h) (λj _ l=>True) ?_
 lia
 apply⟨⟨by omega,by omega⟩,by cbv,(),by cbv,trivial,λj _ l hj _=>?_,λ_ l _ hl=>?_⟩
 ·lia
  exact⟨(),(),rfl,by cbv,trivial⟩
 have hl8:l.map (λ_:Unit=>T.li cs)=[.li cs,.li cs,.li cs,.li cs,.li cs,.li cs,.li cs,.li cs]:=by
  rw[List.map_const',hl];rfl
 rw[hl8];clear hl8 hl l
 lia
 apply lN rfl rfl rfl rfl ?_
 lia
 apply dF rfl rfl ?_
 lia
 apply jc ?_
 lia
 apply dF rfl rfl ?_
 lia
 apply dI (u:=.li cs) ⋯ rfl (λ_ h=>nomatch h) rfl ?_
 lia
 apply jd hcx ?_
 lia
 apply kT h0 ?_
 lia
 apply dF g0 x0 ?_
 lia
 apply jc ?_
 lia
 apply jc ?_
 lia
 apply kT h1 ?_
 lia
 apply dF g1 x1 ?_
 lia
 apply jc ?_
 lia
 apply dF rfl rfl ?_
 lia
 apply lL (is:=(dN w z n cs c0 c1).take 6) (js:=(dN w z n cs c0 c1).drop 6) (by show 11<=sizeLine;rw[EV];omega) ?_;rw[CL]
 lia
 apply dI (u:=.li cs) ⋯ rfl (λ_ h=>nomatch h) rfl ?_
 lia
 apply jd hcx ?_
 lia
 apply dI (u:=.li cs) ⋯ rfl (λ_ h=>nomatch h) rfl ?_
 lia
 apply jd hcx ?_
 lia
 apply dI (u:=.li cs) ⋯ rfl (λ_ h=>nomatch h) rfl ?_
 lia
 apply jd hcx ?_
 lia
 apply dI (u:=.li cs) ⋯ rfl (λ_ h=>nomatch h) rfl ?_
 lia
 apply dI (u:=.li cs) ⋯ rfl (λ_ h=>nomatch h) rfl ?_
 lia
 apply w6 hcx hcx ?_
 lia
 apply dI (u:=.li cs) ⋯ rfl (λ_ h=>nomatch h) rfl ?_
 lia
 apply jd hcx ?_
 lia
 apply dI (u:=.li cs) ⋯ rfl (λ_ h=>nomatch h) rfl ?_
 lia
 apply jd hcx ?_
 lia
 apply lL (is:=(gq cs).take 4) (js:=(gq cs).drop 4) (by show 6<=sizeLine;rw[EV];omega) ?_;rw[CL]
 lia
 apply yl rfl ?_;apply cz rfl rfl (by cbv) ?_;ac_nf
 lia
 apply bI (i:=cel z (7,7)) (by rw[EV];omega) ?_;apply f8 (O':=[some ⟨.vw none none,.li (ns.map .int)⟩,⇑(fT f),↥(.str z),↥(.str w),↥(.int n),⇑(.li cs),⇑(.lst [.li (cs++[cel z (7,7)]),.li cs,.li cs,.li cs,.li cs,.li cs,.li cs,.li cs]),⇑(.li (dN w z n cs c0 c1)),⇑(.li (gq cs)),none,none,none,none]) (by cbv) ?_;apply cz rfl rfl (by cbv) ?_;ac_nf
 lia
 apply bI (i:=cel z (7,7)) (by rw[EV];omega) ?_;apply f8 (O':=[some ⟨.vw none none,.li (ns.map .int)⟩,⇑(fT f),↥(.str z),↥(.str w),↥(.int n),⇑(.li cs),⇑(.lst [.li (cs++[cel z (7,7)]),.li (cs++[cel z (7,7)]),.li cs,.li cs,.li cs,.li cs,.li cs,.li cs]),⇑(.li (dN w z n cs c0 c1)),⇑(.li (gq cs)),none,none,none,none]) (by cbv) ?_;apply cz rfl rfl (by cbv) ?_;ac_nf
 lia
 apply bI (i:=cel z (7,7)) (by rw[EV];omega) ?_;apply f8 (O':=[some ⟨.vw none none,.li (ns.map .int)⟩,⇑(fT f),↥(.str z),↥(.str w),↥(.int n),⇑(.li cs),⇑(.lst [.li (cs++[cel z (7,7)]),.li (cs++[cel z (7,7)]),.li (cs++[cel z (7,7)]),.li cs,.li cs,.li cs,.li cs,.li cs]),⇑(.li (dN w z n cs c0 c1)),⇑(.li (gq cs)),none,none,none,none]) (by cbv) ?_;apply cz rfl rfl (by cbv) ?_;ac_nf
 lia
 apply bI (i:=cel z (7,7)) (by rw[EV];omega) ?_;apply f8 (O':=[some ⟨.vw none none,.li (ns.map .int)⟩,⇑(fT f),↥(.str z),↥(.str w),↥(.int n),⇑(.li cs),⇑(.lst [.li (cs++[cel z (7,7)]),.li (cs++[cel z (7,7)]),.li (cs++[cel z (7,7)]),.li (cs++[cel z (7,7)]),.li cs,.li cs,.li cs,.li cs]),⇑(.li (dN w z n cs c0 c1)),⇑(.li (gq cs)),none,none,none,none]) (by cbv) ?_;apply cz rfl rfl (by cbv) ?_;ac_nf
 lia
 apply bI (i:=cel z (7,7)) (by rw[EV];omega) ?_;apply f8 (O':=[some ⟨.vw none none,.li (ns.map .int)⟩,⇑(fT f),↥(.str z),↥(.str w),↥(.int n),⇑(.li cs),⇑(.lst [.li (cs++[cel z (7,7)]),.li (cs++[cel z (7,7)]),.li (cs++[cel z (7,7)]),.li (cs++[cel z (7,7)]),.li (cs++[cel z (7,7)]),.li cs,.li cs,.li cs]),⇑(.li (dN w z n cs c0 c1)),⇑(.li (gq cs)),none,none,none,none]) (by cbv) ?_;apply cz rfl rfl (by cbv) ?_;ac_nf
 lia
 apply bI (i:=cel z (7,7)) (by rw[EV];omega) ?_;apply f8 (O':=[some ⟨.vw none none,.li (ns.map .int)⟩,⇑(fT f),↥(.str z),↥(.str w),↥(.int n),⇑(.li cs),⇑(.lst [.li (cs++[cel z (7,7)]),.li (cs++[cel z (7,7)]),.li (cs++[cel z (7,7)]),.li (cs++[cel z (7,7)]),.li (cs++[cel z (7,7)]),.li (cs++[cel z (7,7)]),.li cs,.li cs]),⇑(.li (dN w z n cs c0 c1)),⇑(.li (gq cs)),none,none,none,none]) (by cbv) ?_;apply cz rfl rfl (by cbv) ?_;ac_nf
 lia
 apply bI (i:=cel z (7,7)) (by rw[EV];omega) ?_;apply f8 (O':=[some ⟨.vw none none,.li (ns.map .int)⟩,⇑(fT f),↥(.str z),↥(.str w),↥(.int n),⇑(.li cs),⇑(.lst [.li (cs++[cel z (7,7)]),.li (cs++[cel z (7,7)]),.li (cs++[cel z (7,7)]),.li (cs++[cel z (7,7)]),.li (cs++[cel z (7,7)]),.li (cs++[cel z (7,7)]),.li (cs++[cel z (7,7)]),.li cs]),⇑(.li (dN w z n cs c0 c1)),⇑(.li (gq cs)),none,none,none,none]) (by cbv) ?_;apply cz rfl rfl (by cbv) ?_;ac_nf
 lia
 apply bI (i:=cel z (7,7)) (by rw[EV];omega) ?_;apply f8 (O':=[some ⟨.vw none none,.li (ns.map .int)⟩,⇑(fT f),↥(.str z),↥(.str w),↥(.int n),⇑(.li cs),⇑(.lst [.li (cs++[cel z (7,7)]),.li (cs++[cel z (7,7)]),.li (cs++[cel z (7,7)]),.li (cs++[cel z (7,7)]),.li (cs++[cel z (7,7)]),.li (cs++[cel z (7,7)]),.li (cs++[cel z (7,7)]),.li (cs++[cel z (7,7)])]),⇑(.li (dN w z n cs c0 c1)),⇑(.li (gq cs)),none,none,none,none]) (by cbv) ?_;apply wu rfl rfl ?_;generalize T.lst [.li (cs++[cel z (7,7)]),.li (cs++[cel z (7,7)]),.li (cs++[cel z (7,7)]),.li (cs++[cel z (7,7)]),.li (cs++[cel z (7,7)]),.li (cs++[cel z (7,7)]),.li (cs++[cel z (7,7)]),.li (cs++[cel z (7,7)])]=gg
 lia
 apply sg (lh ?_)
 lia
 apply⟨_,dN w z n cs c0 c1,rfl,rfl,gu ?_ ⟨λj O=>O=[some ⟨.vw none none,.li (ns.map .int)⟩,⇑(fT f),↥(.str z),↥(.str w),↥(.int n),⇑(.li cs),⇑gg,⇑(.li (dN w z n cs c0 c1)),⇑(.li (gq cs)),none,none,none,none],by cbv,?_,?_⟩⟩
 ·rw[A9];exact⟨by cbv,kz.2 _⟩
 ·rintro i r O hr rfl;rw[cP]at hr;cases e:(dN w z n cs c0 c1)[i]? with
  | none=>rw[e]at hr;cases hr
  | some x=>
   rw[e]at hr;dsimp[B1,Bq.injEq,BJ]at hr;subst hr;obtain⟨hi,ks,is,rfl⟩:=uA e;have hin:=zp i hi;have hsr:=x8 i hi;obtain⟨hso,hsd⟩:=x9 i hi;clear e
   lia
   apply cy ?_
   lia
   apply mT hin ?_
   lia
   apply iD (λ_:Unit=>[some ⟨.vw none none,.li (ns.map .int)⟩,⇑(fT f),↥(.str z),↥(.str w),↥(.int n),⇑(.li cs),⇑gg,⇑(.li (dN w z n cs c0 c1)),⇑(.li (gq cs)),none,↥(.int i),↥(.exn (NS.getD i "") ks is),none]) I.bl (λj _ l=>l=(BL j).map λm:Nat=>decide ((i:Int)=(m:Int))) ?_
   lia
   apply⟨⟨by omega,by omega⟩,by cbv,(),by cbv,rfl,λj _ l hj hP=>?_,λ_ l hP=>?_⟩
   ·lia
    exact⟨_,(),rfl,by cbv,by rw[hP,DS,BQ];rfl⟩
   lia
   have hl:l.map I.bl=srt (NS.getD i ""):=by
    rw[hP,hsr,Cj];rfl
   rw[hl];apply jU hso hsd ?_
   (repeat first|infer_instance|refine spT ?_|refine spF ?_|refine cy ?_)
   apply zz hin ?_
   (repeat first|infer_instance|refine spT ?_|refine spF ?_|refine cy ?_)
   apply vd hin ?_
   (repeat first|infer_instance|refine spT ?_|refine spF ?_|refine cy ?_)
   rfl
 rintro O rfl
 lia
 apply dH (by cbv) ?_
 lia
 apply dH (by cbv) ?_
 lia
 apply dH (by cbv) ?_
 lia
 apply qk (by cbv) ?_
 lia
 apply ql (by cbv) (by decide) ?_
 lia
 apply dH (by cbv) ?_
 lia
 apply dH (by cbv) ?_
 lia
 apply cy ?_
 lia
 apply yo rfl ?_;ac_nf
 lia
 apply qr (is:=[.ls cs]) ⟨by decide,by decide,by show 7<=sizeLine;rw[EV];omega⟩ ?_
 lia
 have hll:I.lays [.ls cs,.ls cs,.ls cs,.ls cs,.ls cs,.ls cs,.ls cs]=true:=by simp[I.lays,I.lay,hcy]
 apply jU (is:=[.ls cs,.ls cs,.ls cs,.ls cs,.ls cs,.ls cs,.ls cs]) hll ?_ ?_
 ·apply Bz (ia (n:=3) λi hi=>?_) (by decide);have:i=.ls cs:=by exists hi
  subst this;rw[I.pd,Go];omega
 (repeat first|infer_instance|refine spT ?_|refine spF ?_|refine cy ?_)
 apply tN ?_
 lia
 apply yn (A3 rfl ⟨_,rfl,?_⟩)
 lia
 apply oP (is:=[.tup cs,.str w,.non,.int n,.fd [.inr z] [.int 3],.bl true,.tup []]) (by show 7<=100;omega) ?_ ?_
 ·intro i hi;dsimp[B3,CN,or_false]at hi;rcases hi with rfl|rfl|rfl|rfl|rfl|rfl|rfl;exact⟨rfl,by rw[I.noex];exact hcx,hcs.ok (by decide) (by decide)⟩;exact⟨rfl,rfl,(rW hw1 hw2).ok (by decide) (by decide)⟩;exact⟨rfl,rfl,by decide +kernel⟩;exact⟨rfl,rfl,(j8 ⋯).ok (by decide) (by decide)⟩;exact⟨rfl,rfl,(sB hz).ok (by decide) (by decide)⟩;exact⟨rfl,rfl,by decide +kernel⟩;exact⟨rfl,rfl,by decide +kernel⟩
 (repeat first|infer_instance|refine spT ?_|refine spF ?_|refine cy ?_)
 apply jc ?_
 lia
 apply mT ymS ?_
 lia
 apply⟨_,zb,?_⟩
 (repeat first|infer_instance|refine spT ?_|refine spF ?_|refine cy ?_)
 apply jc ?_
 lia
 apply vd ymS ?_
 (repeat first|infer_instance|refine spT ?_|refine spF ?_|refine cy ?_)
 apply nU hws hzs hcy ⋯ h0 h1 l0 l1 ⋯ ⋯ ?_
 lia
 rfl
end L2
namespace K01
open PySem PySem.Spec PyProof.Rows L2
local macro_rules|`(tactic| exfalso)=>`(tactic| exact⟨rfl,rfl,rfl,by decide +kernel,rfl,by decide +kernel,by decide +kernel⟩)
structure Adr(mg:Str->Option EK)(K:yF):Prop where
 d0:Eo K mg "_law_feed" dL ["_law_script","_law_k"]
 d1:Eo K mg "_law_take" dM ["_law_feed_here","_law_many"]
 d2:Eo K mg "_law_fields_right" bq ["_law_some","_law_word","_law_name","_law_number","_law_cells"]
 d3:Eo K mg "_law_names" dh ["_law_feed_here","_law_many"]
 d4:Eo K mg "_law_sorts" dk ["_law_e"]
 d5:Eo K mg "kept" lY ["thing"]
 d6:Eo K mg "_law_things_right" br ["_law_things"]
 d7:Eo K mg "law" s_law ["_law_script"]
 m_NoHouse:MkF K mg "NoHouse" ["word","name"] "NoHouse.__init__" eI ["self","word","name"]
 m_NoText:MkF K mg "NoText" ["row"] "NoText.__init__" fV ["self","row"]
 m_Loose:MkF K mg "Loose" [] "Loose.__init__" iz ["self"]
 m_TooLong:MkF K mg "TooLong" ["many"] "TooLong.__init__" eJ ["self","many"]
 m_Ring:MkF K mg "Ring" ["cells"] "Ring.__init__" j9 ["self","cells"]
 m_Early:MkF K mg "Early" ["cell"] "Early.__init__" iy ["self","cell"]
 m_NoWay:MkF K mg "NoWay" [] "NoWay.__init__" iB ["self"]
 m_NoTurn:MkF K mg "NoTurn" [] "NoTurn.__init__" fW ["self"]
 m_NoCell:MkF K mg "NoCell" ["cell"] "NoCell.__init__" fS ["self","cell"]
 m_NoRow:MkF K mg "NoRow" [] "NoRow.__init__" iA ["self"]
 m_NoName:MkF K mg "NoName" ["name"] "NoName.__init__" fU ["self","name"]
 H:HEf K mg cL
 E:fX K mg EXN
 T:Bi mg
 G:GT K mg
def adr0(w:E4)(mg:Str->Option EK)(h:Heap)(X:(KF w.params).In h)(G:h.Ns E3 mg):Adr mg (KF w.params):=
 ⟨Eo.mkO X G 257 pm0 256 (by2 λ_ _ _ _ _ _ _ _=>rfl),
   Eo.mkO X G 264 pm0 263 (by2 λ_ _ _ _ _ _ _ _=>rfl),
   Eo.mkO X G 283 pm0 282 (by5 λ_ _ _ _ _ _ _ _ _ _ _=>rfl),
   Eo.mkO X G 269 pm0 268 (by2 λ_ _ _ _ _ _ _ _=>rfl),
   Eo.mkO X G 276 pm0 275 (by1 λ_ _ _ _ _ _ _=>rfl),
   Eo.mkO X G 21 pm1 20 (by1 λ_ _ _ _ _ _ _=>rfl),
   Eo.mkO X G 288 pm0 287 (by1 λ_ _ _ _ _ _ _=>rfl),
   Eo.mkO X G 293 pm0 292 (by1 λ_ _ _ _ _ _ _=>rfl),
   MkF.mkO X G 58 55 pm1 54 (by3 λ_ _ _ _ _ _ _ _ _=>rfl),
   MkF.mkO X G 77 74 pm1 73 (by2 λ_ _ _ _ _ _ _ _=>rfl),
   MkF.mkO X G 96 93 pm1 92 (by1 λ_ _ _ _ _ _ _=>rfl),
   MkF.mkO X G 115 112 pm1 111 (by2 λ_ _ _ _ _ _ _ _=>rfl),
   MkF.mkO X G 134 131 pm1 130 (by2 λ_ _ _ _ _ _ _ _=>rfl),
   MkF.mkO X G 153 150 pm1 149 (by2 λ_ _ _ _ _ _ _ _=>rfl),
   MkF.mkO X G 172 169 pm1 168 (by1 λ_ _ _ _ _ _ _=>rfl),
   MkF.mkO X G 191 188 pm1 187 (by1 λ_ _ _ _ _ _ _=>rfl),
   MkF.mkO X G 210 207 pm1 206 (by2 λ_ _ _ _ _ _ _ _=>rfl),
   MkF.mkO X G 229 226 pm1 225 (by1 λ_ _ _ _ _ _ _=>rfl),
   MkF.mkO X G 248 245 pm1 244 (by2 λ_ _ _ _ _ _ _ _=>rfl),
   ⟨MkF.mkO X G 38 35 pm1 34 (by1 λ_ _ _ _ _ _ _=>rfl),yU 38 35,bN X G⟩,
   uH X G (bN X G) (by rfl'),
   ⟨bN X G,bN X G,bN X G,bN X G,bN X G,bN X G,bN X G,bN X G,bN X G,bN X G,bN X G,bN X G,bN X G,bN X G,bN X G,bN X G,bN X G,bN X G,bN X G,bN X G,bN X G⟩,⟨trivial⟩⟩
def c0:vx ["_law_script","_law_k","_law_cell","_law_own"] ["_law_script","_law_k"] (ae dL):=by exfalso
def c1:vx ["_law_feed_here","_law_many","_law_digit","_law_one"] ["_law_feed_here","_law_many"] (ae dM):=by exfalso
def c2:vx ["_law_some","_law_word","_law_name","_law_number","_law_cells"] ["_law_some","_law_word","_law_name","_law_number","_law_cells"] (ae bq):=by exfalso
def c3:vx ["_law_feed_here","_law_many","_law_letters","_law_stem","_law_first","_law_at","_law_found","_law_k","_law_name"] ["_law_feed_here","_law_many"] (ae dh):=by exfalso
def c4:vx ["_law_e","_law_found"] ["_law_e"] (ae dk):=by exfalso
def c5:vx ["thing"] ["thing"] (ae lY):=by exfalso
def c6:vx ["_law_things","_law_k","_law_thing","_law_other","_law_some"] ["_law_things"] (ae br):=by exfalso
def c7:vx ["_law_script","_law_feed_here","_law_name","_law_word","_law_number","_law_cells","_law_given","_law_some","_law_lists","_law_row","_law_k","_law_e","_law_kept"] ["_law_script"] (ae s_law):=by exfalso
def iG:vx ["self"] ["self"] (ae cL):=by exfalso
def lv:vx ["self","word","name"] ["self","word","name"] (ae eI):=by exfalso
def nO:vx ["self","row"] ["self","row"] (ae fV):=by exfalso
def o4:vx ["self"] ["self"] (ae iz):=by exfalso
def lw:vx ["self","many"] ["self","many"] (ae eJ):=by exfalso
def sA:vx ["self","cells"] ["self","cells"] (ae j9):=by exfalso
def o3:vx ["self","cell"] ["self","cell"] (ae iy):=by exfalso
def o6:vx ["self"] ["self"] (ae iB):=by exfalso
def nP:vx ["self"] ["self"] (ae fW):=by exfalso
def nM:vx ["self","cell"] ["self","cell"] (ae fS):=by exfalso
def o5:vx ["self"] ["self"] (ae iA):=by exfalso
def nN:vx ["self","name"] ["self","name"] (ae fU):=by exfalso
section
variable {P:EU}{W:E4}{K:yF}{mg:Str->Option EK}{base:Heap}(A:Adr mg K)
include A
def v0:Has P W K mg base 1 "_law_feed" ["_law_script","_law_k"] (spP K ii):=
 Def.qp A.d0.to c0 (m:=gY) (aw (aK 2 (λ_=>c0.nd) (bt aa (dJ aa ar (am 1)) ar))
  (aw (cV (b9 aa AM (am 1) (m8 aa b_len A.T.b_len (aj 0 ai)) (bH _)) (aO (aK 2 (λ_=>c0.nd) (aY aa (am 0) (am 1)))) (aO (cV (b9 aa yS (m8 aa b_len A.T.b_len (aj 0 ai)) ar (bH _)) (aO (aK 2 (λ_=>c0.nd) (bt aa (dJ aa (ee aa (aY aa (am 0) (ee aa (am 1) (m8 aa b_len A.T.b_len (aj 0 ai)))) ar) ar) (dJ aa ar (am 1))))) b8)))
  (aw (aK 3 (λ_=>c0.nd) ar)
  (aw (cV (b9 aa AK (am 2) (qY aa ar ar) (bH _)) (aO (aK 3 (λ_=>c0.nd) (am 2))) b8)
  (aO (bp (bD [3] (aj 3 (ac (bt aa (ee aa (qY aa (bt aa (dJ aa (ee aa (am 2) ar) ar) (dJ aa ar (am 1))) ar) ar) ar) ai))))))))) (λ_=>rfl)
def v1:Has P W K mg base 1 "_law_take" ["_law_feed_here","_law_many"] (spI K 0 bu):=
 Def.qi A.d1.to c1 (m:=gZ) (aw (cV (b9 aa yS (aY aa (am 0) ar) ar (bH _)) (aw (aK 2 (λ_=>c1.nd) (ee aa (aY aa (am 0) ar) (am 1)))
  (aw (re (qX aa (aY aa (am 0) ar) (am 1)) (qZ 0 (am 0) ar))
  (aO (bp (am 2))))) b8)
  (aw (aK 3 (λ_=>c1.nd) (ee aa (dJ aa (aY aa (am 0) ar) ar) ar))
  (aw (re (bt aa (ee aa (bt aa (dJ aa (am 3) ar) ar) ar) ar) (qZ 0 (am 0) ar))
  (aO (bp (ee aa (qX aa (bt aa (dJ aa (am 3) ar) (aY aa (am 0) ar)) ar) (am 1))))))) (λ_=>rfl)
def v2:Has P W K mg base 1 "_law_fields_right" ["_law_some","_law_word","_law_name","_law_number","_law_cells"] (spP K bU):=
 Def.qp A.d2.to c2 (m:=bQ) (aw (cV (b9 aa my (bD [] (ac (bc aa A.E (aY aa (am 0) ar)) (ac (bc aa A.E (aY aa (am 0) ar)) (ac (bc aa A.E (aY aa (am 0) ar)) ai)))) (bD [1,2,2] (aj 1 (aj 2 (aj 2 ai)))) (bH _)) (aO (bp iK)) b8)
  (aw (cV (b9 aa my (bD [] (ac (bc aa A.E (aY aa (am 0) ar)) (ac (bc aa A.E (aY aa (am 0) ar)) ai))) (bD [3] (aj 3 (ac (bt aa (am 3) ar) ai))) (bH _)) (aO (bp iK)) b8)
  (aO (bp (vk (m9 aa oY (bc aa A.E (aY aa (am 0) ar)) (am 4) (bH _)) (vk (m9 aa oY (bc aa A.E (aY aa (am 0) ar)) (aY aa (am 4) ar) (bH _)) (zQ (m9 aa oY (bc aa A.E (aY aa (am 0) ar)) (aY aa (am 4) (vo ar)) (bH _))))))))) (λ_=>rfl)
def v3:Has P W K mg base 2 "_law_names" ["_law_feed_here","_law_many"] (spI K 0 fO):=
 Def.qi A.d3.to c3 (m:=fF) (aw (aK 2 (λ_=>c3.nd) b7)
  (aw (aK 3 (λ_=>c3.nd) (xE aa wE b7 (ac (jW (N':=["_law_feed_here","_law_many","_law_letters","_law_stem","_law_first","_law_at","_law_found","_law_k","_law_name"]) (f:=[some 0,none,some 2,none,none,none,none,none,none]) aa (λ_=>Blk.of (by rfl')) (cU aa A.T (ac (eY 0 aa (v1 A) (aj 0 (ac ar ai))) ai)) (bX 7 (λ_=>kO (by rfl'))) e8 (aY (CK.blk aa) (am 2) (eY 0 (CK.blk aa) (v1 A) (aj 0 (ac ar ai))))) ai)))
  (aw (xH 4 5 aa (λ_=>c3.nd) (ac (eY 0 aa (v1 A) (aj 0 (ac ar ai))) (ac (eY 0 aa (v1 A) (aj 0 (ac (bt aa (m8 aa b_len A.T.b_len (aj 3 ai)) ar) ai))) ai)))
  (aw (aK 6 (λ_=>c3.nd) (bD [] ai))
  (aw (lR aa (λ_=>Gi) (cU aa A.T (aj 1 ai)) (bX 7 (λ_=>c3.nd)) (jX [7,8] (aw (aK 8 (λ_=>c3.nd) (bt aa (bt aa (zR aa (am 3) ng (nh (am 5))) (aY aa (am 2) (ee aa (bt aa (am 4) (dJ aa ar (am 7))) ar))) (zR aa (am 3) (nh (am 5)) ng)))
  (aw (cV (b9 aa yR (ee aa (am 7) ar) ar (bH _)) (aO (aK 8 (λ_=>c3.nd) (bt aa (am 8) b7))) b8)
  (aw (cV (b9 aa AL (am 8) (jg [] (ac b7 (ac b7 (ac b7 (ac b7 (ac b7 ai)))))) (by unhygienic rfl)) (aO (aK 8 (λ_=>c3.nd) (bt aa (am 8) b7))) b8)
  (aO (ua (vn 6 [8] aa kJ (am 6) (aj 8 ai)))))))))
  (aO (bp (am 6)))))))) (λ_=>rfl)
def v4:Has P W K mg base 1 "_law_sorts" ["_law_e"] (spP K cW):=
 Def.qp A.d4.to c4 (m:=i7) (aw (aK 1 (λ_=>c4.nd) (bD [] (ac (dr aa A.E A.T.b_isinstance (by decide) (am 0)) (ac (dr aa A.E A.T.b_isinstance (by decide) (am 0)) (ac (dr aa A.E A.T.b_isinstance (by decide) (am 0)) (ac (dr aa A.E A.T.b_isinstance (by decide) (am 0)) ai))))))
  (aw (aK 1 (λ_=>c4.nd) (bt aa (am 1) (bD [] (ac (dr aa A.E A.T.b_isinstance (by decide) (am 0)) (ac (dr aa A.E A.T.b_isinstance (by decide) (am 0)) (ac (dr aa A.E A.T.b_isinstance (by decide) (am 0)) (ac (dr aa A.E A.T.b_isinstance (by decide) (am 0)) ai)))))))
  (aO (bp (bt aa (am 1) (bD [] (ac (dr aa A.E A.T.b_isinstance (by decide) (am 0)) (ac (dr aa A.E A.T.b_isinstance (by decide) (am 0)) (ac (dr aa A.E A.T.b_isinstance (by decide) (am 0)) ai))))))))) (λ_=>rfl)
def v5:Has P W K mg base 1 "kept" ["thing"] (spP K ak):=
 Def.qp A.d5.to c5 (m:=kK) (aO (bp (zN (ig (zO aa A.T.b_isinstance A.T.b_list De (by decide) (am 0))) (zL (xF aa b_list A.T.b_list (aj 0 ai))) (am 0)))) (λ_=>rfl)
def gn{k:Nat}:HEr P W K mg base (k+1):=zc A.H iG rfl rfl (by first|exact E8 rfl|exact EX (E8 rfl)|exact EX (EX rfl)) (λ_=>⟨_,rfl⟩)
def d9:bM P W K mg base 2 "HouseError" [] ak:=tz (gn A)
def db:bM P W K mg base 2 "NoHouse" ["word","name"] ak:=wG A.m_NoHouse (gn A) (v5 A) lv rfl (by decide) rfl rfl (by first|exact E8 rfl|exact EX (E8 rfl)|exact EX (EX rfl)) (by first|exact E8 rfl|exact EX (E8 rfl)|exact EX (EX rfl)) (by decide) (by decide) (by first|exact E8 rfl|exact EX (E8 rfl)|exact EX (EX rfl)) (by decide) (by decide) (λ_=>⟨_,rfl⟩)
def fL:bM P W K mg base 2 "NoText" ["row"] ak:=fG A.m_NoText (gn A) (v5 A) nO rfl rfl rfl (by first|exact E8 rfl|exact EX (E8 rfl)|exact EX (EX rfl)) (by first|exact E8 rfl|exact EX (E8 rfl)|exact EX (EX rfl)) (by decide) (by decide) (λ_=>⟨_,rfl⟩)
def qb:bM P W K mg base 2 "Loose" [] ak:=jQ A.m_Loose (gn A) o4 rfl rfl (by first|exact E8 rfl|exact EX (E8 rfl)|exact EX (EX rfl)) (λ_=>⟨_,rfl⟩)
def eG:bM P W K mg base 2 "TooLong" ["many"] ak:=fG A.m_TooLong (gn A) (v5 A) lw rfl rfl rfl (by first|exact E8 rfl|exact EX (E8 rfl)|exact EX (EX rfl)) (by first|exact E8 rfl|exact EX (E8 rfl)|exact EX (EX rfl)) (by decide) (by decide) (λ_=>⟨_,rfl⟩)
def mQ:bM P W K mg base 2 "Ring" ["cells"] ak:=fG A.m_Ring (gn A) (v5 A) sA rfl rfl rfl (by first|exact E8 rfl|exact EX (E8 rfl)|exact EX (EX rfl)) (by first|exact E8 rfl|exact EX (E8 rfl)|exact EX (EX rfl)) (by decide) (by decide) (λ_=>⟨_,rfl⟩)
def g8:bM P W K mg base 2 "Early" ["cell"] ak:=fG A.m_Early (gn A) (v5 A) o3 rfl rfl rfl (by first|exact E8 rfl|exact EX (E8 rfl)|exact EX (EX rfl)) (by first|exact E8 rfl|exact EX (E8 rfl)|exact EX (EX rfl)) (by decide) (by decide) (λ_=>⟨_,rfl⟩)
def qd:bM P W K mg base 2 "NoWay" [] ak:=jQ A.m_NoWay (gn A) o6 rfl rfl (by first|exact E8 rfl|exact EX (E8 rfl)|exact EX (EX rfl)) (λ_=>⟨_,rfl⟩)
def oj:bM P W K mg base 2 "NoTurn" [] ak:=jQ A.m_NoTurn (gn A) nP rfl rfl (by first|exact E8 rfl|exact EX (E8 rfl)|exact EX (EX rfl)) (λ_=>⟨_,rfl⟩)
def fJ:bM P W K mg base 2 "NoCell" ["cell"] ak:=fG A.m_NoCell (gn A) (v5 A) nM rfl rfl rfl (by first|exact E8 rfl|exact EX (E8 rfl)|exact EX (EX rfl)) (by first|exact E8 rfl|exact EX (E8 rfl)|exact EX (EX rfl)) (by decide) (by decide) (λ_=>⟨_,rfl⟩)
def qc:bM P W K mg base 2 "NoRow" [] ak:=jQ A.m_NoRow (gn A) o5 rfl rfl (by first|exact E8 rfl|exact EX (E8 rfl)|exact EX (EX rfl)) (λ_=>⟨_,rfl⟩)
def fK:bM P W K mg base 2 "NoName" ["name"] ak:=fG A.m_NoName (gn A) (v5 A) nN rfl rfl rfl (by first|exact E8 rfl|exact EX (E8 rfl)|exact EX (EX rfl)) (by first|exact E8 rfl|exact EX (E8 rfl)|exact EX (EX rfl)) (by decide) (by decide) (λ_=>⟨_,rfl⟩)
def v6:Has P W K mg base 4 "_law_things_right" ["_law_things"] (spP K bV):=
 Def.qp A.d6.to c6 (m:=bR) (aw (lR aa (λ_=>Gi) (kX aa A.T (aj 0 ai)) (rc aa (e7 (bX 1 (λ_=>c6.nd)) (e7 (bX 2 (λ_=>c6.nd)) nc))) (jX [1,2,3,4] (aw (aK 3 (λ_=>c6.nd) (aY aa (am 0) (vq aa (am 1) ar)))
  (aw (aK 4 (λ_=>c6.nd) (bD [] (ac (bc aa A.E (cJ aa (mQ A) (aj 2 ai))) (ac (bc aa A.E (cJ aa (g8 A) (aj 2 ai))) (ac (bc aa A.E (cJ aa (fJ A) (aj 2 ai))) (ac (bc aa A.E (cJ aa (fK A) (aj 2 ai))) (ac (bc aa A.E (cJ aa (fL A) (aj 2 ai))) ai)))))))
  (aw (aK 4 (λ_=>c6.nd) (bt aa (am 4) (bD [] (ac (bc aa A.E (cJ aa (eG A) (aj 2 ai))) (ac (bc aa A.E (cJ aa (db A) (aj 2 (aj 3 ai)))) (ac (bc aa A.E (cJ aa (db A) (aj 3 (aj 2 ai)))) ai))))))
  (aO (cV (b9 aa AN (jW (N':=["_law_things","_law_k","_law_thing","_law_other","_law_some","_law_one"]) (f:=[none,none,none,none,none,none]) aa (λ_=>Blk.of (by rfl')) (xG aa (am 4)) (bX 5 (λ_=>kO (by rfl'))) e8 (vp (CK.blk aa) A.T.b_repr (aj 5 ai))) (dJ aa (bD [] (ac (vp aa A.T.b_repr (aj 2 ai)) ai)) ar) (bH _)) (aO (bp iK)) b8)))))))
  (aO (bp iK))) (λ_=>rfl)
def v7:Has P W K mg base 5 "law" ["_law_script"] (spP K r_l_law_v9):=
 Def.qp A.d7.to c7 (m:=eD) (aw (aK 1 (λ_=>c7.nd) (kW aa (v0 A) (aj 0 (ac ar ai))))
  (aw (aK 2 (λ_=>c7.nd) (aY aa (eY 1 aa (v3 A) (aj 1 (ac ar ai))) ar))
  (aw (aK 3 (λ_=>c7.nd) (aY aa (bD [] (ac b7 (ac b7 (ac b7 (ac b7 (ac b7 (ac b7 (ac b7 (ac b7 ai))))))))) (eY 1 aa (v1 A) (aj 1 (ac ar ai)))))
  (aw (aK 4 (λ_=>c7.nd) (eY 1 aa (v1 A) (aj 1 (ac (qY aa ar ar) ai))))
  (aw (aK 5 (λ_=>c7.nd) (jW (N':=["_law_script","_law_feed_here","_law_name","_law_word","_law_number","_law_cells","_law_given","_law_some","_law_lists","_law_row","_law_k","_law_e","_law_kept"]) (f:=[none,some 1,some 2,none,none,none,none,none,none,none,none,none,none]) aa (λ_=>Blk.of (by rfl')) (cU aa A.T (ac (bt aa ar (eY 1 aa (v1 A) (aj 1 (ac ar ai)))) ai)) (bX 10 (λ_=>kO (by rfl'))) e8 (jg [2] (aj 2 (ac (jg [10] (ac (vq (CK.blk aa) (eY 1 (CK.blk aa) (v1 A) (aj 1 (ac ar ai))) ar) (aj 10 ai))) ai)))))
  (aw (lS 6 (N':=["_law_script","_law_feed_here","_law_name","_law_word","_law_number","_law_cells","_law_given","_law_some","_law_lists","_law_row","_law_k","_law_e","_law_kept"]) (f:=[none,none,none,none,none,some 5,none,none,none,none,none,none,none]) aa (λ_=>c7.nd) (λ_=>Blk.of (by rfl')) (cU aa A.T (ac ar ai)) (bX 10 (λ_=>kO (by rfl'))) e8 (xF (CK.blk aa) b_list A.T.b_list (aj 5 ai)))
  (aw (aK 7 (λ_=>c7.nd) (bD [] (ac (cJ aa (db A) (aj 3 (aj 2 ai))) (ac (cJ aa (fL A) (aj 4 ai)) (ac (jf aa (qb A)) (ac (cJ aa (eG A) (ac (bt aa (am 4) ar) ai)) (ac (cJ aa (mQ A) (ac (aY aa (am 6) ar) ai)) (ac (cJ aa (g8 A) (ac (aY aa (am 5) ar) ai)) ai))))))))
  (aw (aK 7 (λ_=>c7.nd) (bt aa (am 7) (bD [] (ac (jf aa (qd A)) (ac (jf aa (oj A)) (ac (cJ aa (fJ A) (ac (aY aa (am 5) (vo ar)) ai)) (ac (jf aa (qc A)) (ac (cJ aa (fK A) (aj 2 ai)) ai))))))))
  (aw (aK 8 (λ_=>c7.nd) (bD [] (ac (cJ aa (g8 A) (ac (aY aa (am 6) ar) ai)) (ac (cJ aa (fJ A) (ac (aY aa (am 6) ar) ai)) (ac (cJ aa (fK A) (ac (aY aa (am 6) ar) ai)) (ac (cJ aa (db A) (ac (aY aa (am 6) ar) (ac (aY aa (am 6) ar) ai))) ai))))))
  (aw (aK 8 (λ_=>c7.nd) (bt aa (am 8) (bD [] (ac (cJ aa (fL A) (ac (aY aa (am 6) ar) ai)) (ac (cJ aa (eG A) (ac (aY aa (am 6) ar) ai)) ai)))))
  (aw (ub 6 9 aa (λ_=>c7.nd) (vn 6 [] aa kJ (am 9) (ac (jg [2] (aj 2 (ac (jg [] (ac ar (ac ar ai))) ai))) ai)) (hp:=λ_=>Gi))
  (aw (lR aa (λ_=>Gi) (kX aa A.T (aj 7 ai)) (rc aa (e7 (bX 10 (λ_=>c7.nd)) (e7 (bX 11 (λ_=>c7.nd)) nc))) (jX [10,11] (aw (cV (b9 aa my (kW aa (v4 A) (aj 11 ai)) (jW (N':=["_law_script","_law_feed_here","_law_name","_law_word","_law_number","_law_cells","_law_given","_law_some","_law_lists","_law_row","_law_k","_law_e","_law_kept","_law_j"]) (f:=[none,none,none,none,none,none,none,none,none,none,some 10,none,none,none]) aa (λ_=>Blk.of (by rfl')) (cU aa A.T (ac ar ai)) (bX 13 (λ_=>kO (by rfl'))) e8 (m9 (CK.blk aa) yR (am 10) (am 13) (bH _))) (bH _)) (aO (bp iK)) b8)
  (aO (cV (QW.t (rf (jY (ig (dr aa A.E A.T.b_isinstance (by decide) (am 11)))) (lT (jY (ig (vm aa A.E A.T.b_isinstance (am 11))))))) (aO (bp iK)) b8)))))
  (aw (aK 12 (λ_=>c7.nd) (bD [] (ac (bc aa A.E (aY aa (am 8) ar)) (ac (bc aa A.E (aY aa (am 8) ar)) (ac (bc aa A.E (aY aa (am 8) ar)) (ac (bc aa A.E (aY aa (am 8) ar)) (ac (bc aa A.E (aY aa (am 8) ar)) (ac (bc aa A.E (aY aa (am 8) ar)) (ac (bc aa A.E (aY aa (am 8) ar)) ai)))))))))
  (aw (cV (QW.t (rf (b9 aa my (am 12) (dJ aa (bD [] (ac (zM 5) ai)) ar) (bH _)) (lT (jY (ig (kW aa (v6 A) (ac (bD [3,4] (ac (xF aa b_tuple A.T.b_tuple (aj 5 ai)) (aj 3 (ac zP (aj 4 (ac (xD (AX 2)) (ac iK (ac (jg [] ai) ai)))))))) ai))))))) (aO (bp iK)) b8)
  (aw (cV (QW.t (rf (b9 aa yT iK (kW aa (v4 A) (ac (jf aa (d9 A)) ai)) (by unhygienic rfl)) (lT (jY (ig (vm aa A.E A.T.b_isinstance (jf aa (d9 A)))))))) (aO (bp iK)) b8)
  (aO (bp (kW aa (v2 A) (aj 7 (aj 3 (aj 2 (aj 4 (aj 5 ai))))))))))))))))))))))) (λ_=>rfl)
end
end K01
open PySem PySem.W PyProof.Rows
set_option maxRecDepth 100000 in
set_option maxHeartbeats 0 in
theorem PySem.Challenge.cw_clockhouse_k01_errors_bear_what_they_wer_holds : PySem.Challenge.rw_clockhouse_k01_errors_bear_what_they_wer.Holds := by
 apply holds_law K01.ws λsaid=>?_;apply holds_open (q:=K01.KQ) (loose:=K01.KL) (XP:=XL K01.KQ []) (YP:=K01.KH.says) K01.left K01.KH.of K01.KH.keeps (λs e=>xl_of s (B8.mp e).1) XL.keeps (by rfl) (by rfl) (by rfl) (λs e=>recFacts_of (B8.mp e).2) (by rfl) said (by rfl') ⟨rfl,rfl,rfl,rfl,rfl,by decide +kernel⟩ ?hw ?hc
 case hw=>w_witness2
 exact L2.walkN (l:=PySem.Challenge.rw_clockhouse_k01_errors_bear_what_they_wer) (k:=5) (x:="_law_script") (st:=K01.s_law) (run:=L2.r_l_law_v9) (A:=K01.Adr) (K:=K01.KF) rfl rfl ⟨rfl,rfl,by decide,by decide⟩ (λw h Y=>Y) K01.adr0 (λP=>by rfl') (λmg K A=>A.d7.to) (λ_ _ _ _ _ _ s v=>.of_eq rfl) (λw mg K base A=>K01.v7 A) (λns hn=>by obtain⟨t,h1,h2⟩:=L2.k01_law (ns:=ns) hn;rw[h1,h2])
