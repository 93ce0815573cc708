import PyProof.Rows.All
import KE.KPairComp
import KE.KEqDict
import KE.KFromBytes
import KE.KRevIter
import KE.KDictOf
import KE.KSortTup
import KE.KTryMore
import PySem.Challenge.RW_clockhouse_k49_houses_side_by_side
set_option Elab.async false
set_option linter.all false
set_option maxRecDepth 100000
set_option maxHeartbeats 4000000
set_option genSizeOf false
set_option bootstrap.genMatcherCode false
set_option compiler.extract_closed false
set_option hygiene false
open Lean in
local macro_rules|`(tactic| ext $p:rintroPat*)=>do
 let i:=p.map fun p=>(⟨p.raw[0][0]⟩:Ident)
 let h:=i[0]!
 let s<-`(tactic| (split at $h:ident<;>first|(cases $h:ident;done)|skip))
 if i.size<2 then return s
 let r:=i.extract 1 i.size
 `(tactic| ($s:tactic;rename_i $[$r:ident]*))
local macro_rules(kind:=«term{_}»)|`({$x:term,*})=>`(⟨$x,*⟩)
open Option renaming none->VE,some->VF
open Bool renaming true->VH,false->VG
local macro_rules|`(nofun)=>`(by ac_nf)
def X02{P Q:Prop}{G:Prop}(h:P/\Q)(k:P->Q->G):G:=by rcases h with⟨p,q⟩;exact k p q
def X03{P Q R:Prop}{G:Prop}(h:P/\Q/\R)(k:P->Q->R->G):G:=by rcases h with⟨p,q,r⟩;exact k p q r
def X04{P Q R S:Prop}{G:Prop}(h:P/\Q/\R/\S)(k:P->Q->R->S->G):G:=by rcases h with⟨p,q,r,s⟩;exact k p q r s
def X05{P Q R S T:Prop}{G:Prop}(h:P/\Q/\R/\S/\T)(k:P->Q->R->S->T->G):G:=by rcases h with⟨p,q,r,s,t⟩;exact k p q r s t
def X06{P Q R S T U:Prop}{G:Prop}(h:P/\Q/\R/\S/\T/\U)(k:P->Q->R->S->T->U->G):G:=by rcases h with⟨p,q,r,s,t,u⟩;exact k p q r s t u
def X11{P:α->Prop}{G:Prop}(h:∃a,P a)(k:∀a,P a->G):G:=by rcases h with⟨a,p⟩;exact k a p
def X12{P Q:α->Prop}{G:Prop}(h:∃a,P a/\Q a)(k:∀a,P a->Q a->G):G:=by rcases h with⟨a,p,q⟩;exact k a p q
def X13{P Q R:α->Prop}{G:Prop}(h:∃a,P a/\Q a/\R a)(k:∀a,P a->Q a->R a->G):G:=by rcases h with⟨a,p,q,r⟩;exact k a p q r
def X14{P Q R S:α->Prop}{G:Prop}(h:∃a,P a/\Q a/\R a/\S a)(k:∀a,P a->Q a->R a->S a->G):G:=by rcases h with⟨a,p,q,r,s⟩;exact k a p q r s
def X15{P Q R S T:α->Prop}{G:Prop}(h:∃a,P a/\Q a/\R a/\S a/\T a)(k:∀a,P a->Q a->R a->S a->T a->G):G:=by rcases h with⟨a,p,q,r,s,t⟩;exact k a p q r s t
def X21{P:α->β->Prop}{G:Prop}(h:∃a b,P a b)(k:∀a b,P a b->G):G:=by rcases h with⟨a,b,p⟩;exact k a b p
def X22{P Q:α->β->Prop}{G:Prop}(h:∃a b,P a b/\Q a b)(k:∀a b,P a b->Q a b->G):G:=by rcases h with⟨a,b,p,q⟩;exact k a b p q
def X23{P Q R:α->β->Prop}{G:Prop}(h:∃a b,P a b/\Q a b/\R a b)(k:∀a b,P a b->Q a b->R a b->G):G:=by rcases h with⟨a,b,p,q,r⟩;exact k a b p q r
def X24{P Q R S:α->β->Prop}{G:Prop}(h:∃a b,P a b/\Q a b/\R a b/\S a b)(k:∀a b,P a b->Q a b->R a b->S a b->G):G:=by rcases h with⟨a,b,p,q,r,s⟩;exact k a b p q r s
def X25{P Q R S T:α->β->Prop}{G:Prop}(h:∃a b,P a b/\Q a b/\R a b/\S a b/\T a b)(k:∀a b,P a b->Q a b->R a b->S a b->T a b->G):G:=by rcases h with⟨a,b,p,q,r,s,t⟩;exact k a b p q r s t
def X26{P Q R S T U:α->β->Prop}{G:Prop}(h:∃a b,P a b/\Q a b/\R a b/\S a b/\T a b/\U a b)(k:∀a b,P a b->Q a b->R a b->S a b->T a b->U a b->G):G:=by rcases h with⟨a,b,p,q,r,s,t,u⟩;exact k a b p q r s t u
def X32{P Q:α->β->γ->Prop}{G:Prop}(h:∃a b c,P a b c/\Q a b c)(k:∀a b c,P a b c->Q a b c->G):G:=by rcases h with⟨a,b,c,p,q⟩;exact k a b c p q
def X33{P Q R:α->β->γ->Prop}{G:Prop}(h:∃a b c,P a b c/\Q a b c/\R a b c)(k:∀a b c,P a b c->Q a b c->R a b c->G):G:=by rcases h with⟨a,b,c,p,q,r⟩;exact k a b c p q r
def X34{P Q R S:α->β->γ->Prop}{G:Prop}(h:∃a b c,P a b c/\Q a b c/\R a b c/\S a b c)(k:∀a b c,P a b c->Q a b c->R a b c->S a b c->G):G:=by rcases h with⟨a,b,c,p,q,r,s⟩;exact k a b c p q r s
def X35{P Q R S T:α->β->γ->Prop}{G:Prop}(h:∃a b c,P a b c/\Q a b c/\R a b c/\S a b c/\T a b c)(k:∀a b c,P a b c->Q a b c->R a b c->S a b c->T a b c->G):G:=by rcases h with⟨a,b,c,p,q,r,s,t⟩;exact k a b c p q r s t
def X43{P Q R:α->β->γ->δ->Prop}{G:Prop}(h:∃a b c d,P a b c d/\Q a b c d/\R a b c d)(k:∀a b c d,P a b c d->Q a b c d->R a b c d->G):G:=by rcases h with⟨a,b,c,d,p,q,r⟩;exact k a b c d p q r
def X44{P Q R S:α->β->γ->δ->Prop}{G:Prop}(h:∃a b c d,P a b c d/\Q a b c d/\R a b c d/\S a b c d)(k:∀a b c d,P a b c d->Q a b c d->R a b c d->S a b c d->G):G:=by rcases h with⟨a,b,c,d,p,q,r,s⟩;exact k a b c d p q r s
def X45{P Q R S T:α->β->γ->δ->Prop}{G:Prop}(h:∃a b c d,P a b c d/\Q a b c d/\R a b c d/\S a b c d/\T a b c d)(k:∀a b c d,P a b c d->Q a b c d->R a b c d->S a b c d->T a b c d->G):G:=by rcases h with⟨a,b,c,d,p,q,r,s,t⟩;exact k a b c d p q r s t
def Xr{c:Sort _}{a:c}:a=a:=rfl
def Xn{a:α}{C:Prop}(h:none=some a):C:=nomatch h
def Xb{C:Prop}(h:false=true):C:=nomatch h
def Xs{a b:α}{C:Prop}(h:some a=some b)(k:b=a->C):C:=k (Option.some.inj h).symm
def Xt{a b:α}{c d:β}{C:Prop}(h:some (a,c)=some (b,d))(k:b=a->d=c->C):C:=by cases h;exact k rfl rfl
local macro_rules|`(tactic| cases $h:ident)=>`(tactic| first|exact Xn $h|exact Xb $h|subst $h:ident|(refine Xt $h fun e_1 e_2=>?_;clear $h;subst e_1;subst e_2)|(refine Xs $h fun e_1=>?_;clear $h;subst e_1)|cases ($h))
open Lean Parser.Tactic in
local macro_rules|`(tactic| have($x,$y,*):=$t)=>do
 let e:=#[x]++y.getElems
 let mut b:=#[]
 let mut u:=#[]
 let mut p:=#[]
 for x in e do
  let i:Ident:=⟨x.raw⟩
  p:=p.push (<-if i.raw.isIdent then `(rcasesPatLo|$i:ident) else `(rcasesPatLo|_))
  if i.getId==`rfl then
   let j:=mkIdent (.mkSimple s!"e_{b.size}")
   b:=b.push j;u:=u.push (<-`(tactic| subst $j:ident))
  else b:=b.push i
 let f<-`(tactic| rcases $t:term with⟨$p,*⟩)
 if t.raw.isIdent&&e.any (·.raw.getId==t.raw.getId) then return f
 if t.raw.isIdent then u:=u.push (<-`(tactic| try clear $(⟨t.raw⟩):ident))
 let n:=e.size
 let mut c<-`(tactic| fail)
 for k in [0:n] do
  let q:=n-1-k
  c<-`(tactic| first|refine $(mkIdent (.mkSimple s!"X{q}{n-q}")) $t fun $b*=>?_|$c:tactic)
 for v in u do c<-`(tactic| ($c:tactic;$v:tactic))
 `(tactic| first|$c:tactic|$f:tactic)
open Lean Parser.Tactic in
local macro_rules|`(tactic| rcases $t:term with $p:rcasesPatLo)=>do
 let s:=p.raw[0][0].getSepArgs
 if s.size != 2 then Macro.throwUnsupported
 let g(a:Syntax):MacroM (Ident×TSyntax `tactic):=do
  if a.getKind==`Lean.Parser.Tactic.rcasesPat.one then
   let i:Ident:=⟨a[0]⟩
   if i.getId==`rfl then return (mkIdent `h_9,<-`(tactic| subst h_9))
   return (i,<-`(tactic| skip))
  if a.getKind != `Lean.Parser.Tactic.rcasesPat.tuple then Macro.throwUnsupported
  let mut r:Array Term:=#[]
  for e in a[1].getSepArgs do
   let x:=e[0][0]
   if e[1].getNumArgs==0&&x.getNumArgs==1&&x[0].getKind==`Lean.Parser.Tactic.rcasesPat.one then r:=r.push ⟨x[0][0]⟩
  if r.size==a[1].getSepArgs.size&&r.size>1 then
   let y:=r.extract 1 r.size
   return (mkIdent `h_9,<-`(tactic| have($(r[0]!),$y,*):=h_9))
  let q:TSyntax ``rcasesPatLo:=⟨mkNode ``rcasesPatLo #[mkNode ``rcasesPatMed #[mkNullNode #[a]],mkNullNode]⟩
  return (mkIdent `h_9,<-`(tactic| rcases h_9 with $q:rcasesPatLo))
 let (i,c)<-g s[0]!
 let (j,d)<-g s[1]!
 `(tactic| (refine Or.elim $t (fun $i=>?_) (fun $j=>?_);$c:tactic;rotate_left;$d:tactic;rotate_right))
local macro_rules|`(~~~$x)=>`(not $x)
local macro_rules|`(!$x)=>`(List $x)
local macro_rules|`(↑$x)=>`(Option $x)
local macro_rules|`($x*>$y)=>`($x=some $y)
local macro_rules|`(abbrev $i:declId $s:optDeclSig $v:declVal)=>`(noncomputable def $i:declId $s:optDeclSig $v:declVal)
local macro_rules|`(private def $i:declId $s:optDeclSig $v:declVal)=>`(@[irreducible] noncomputable def $i:declId $s:optDeclSig $v:declVal)
local macro_rules|`(protected def $i:declId $s:optDeclSig $v:declVal)=>`(@[reducible] def $i:declId $s:optDeclSig $v:declVal)
local macro_rules|`(def $i:declId $b:bracketedBinder* : $t $v:declVal)=>`(theorem $i:declId $b:bracketedBinder* : $t $v:declVal)
local macro_rules|`(↥$x)=>`(some ⟨.ow,.im $x⟩)
local macro_rules|`(⇑$x)=>`(some ⟨.ow,$x⟩)
local macro_rules|`(⋯)=>`(by omega)
local macro_rules|`(∅)=>`(by simp)
local macro_rules|`(tactic| dsimp[$l,*]$[at $h]?)=>`(tactic| simp only[$l,*]$[at $h]?)
local macro_rules|`(tactic| exists $e)=>`(tactic| simpa using $e)
local macro_rules|`(tactic| delta $i*)=>`(tactic| rename_i $[$i:ident]*)
local macro_rules|`(tactic| show $e)=>`(tactic| refine $e)
open PySem renaming wpAny_bind->Oc,Value->Od,wpAny_pure->Oe,Shared->Og,wpAny->Oh,sizeLine_eq->Oj,model->Om,Builtin->On,Program->Os,mainGlobals->Ou,wpAny_mono->Ov,NameKind->Ow,World->Ox,Around->Oz,wpAny_holding->OA,wpAny_field->OB,wpAny_newObj_type->OC,starEach->OD,foldedSetIterable->OJ,compareOp->OQ,cellsFrom->OR,wpAny_callSpecial?_slot->OV,wpAny_standAt->OZ,attributeBase->O6,holding->O7,assignEach->O9,binaryOp->PU,FuncData->PV,wpAny_seqItems->PX,wpAny_setField->PY,bootBuiltins->PZ,wpAny_call_entry->P0,letOwnedTupleGo->P4,call_meets->P5,cLine->P7,wpAny_truthy_bool->P9,codeAny->Qb,PyData->Qc,wpAny_Call_Name_kw->Qf,standAt->Qj,wpAny_passesOwn->Qk,wpAny_typeOf->Ql,wpAny_loadPart_at->Qm,behindInMarks->Qo,wpAny_isSubtype_exc->Qq,IsPair->Qr,sliceBounds->Qs,wpAny_rule->Qt,wpAny_call->Qu,codeAny_mono->Qv,wpAny_execs_nil->Qz,assign->QD,wpAny_pyIter_list->QH,backTo->QJ,bindName->QK,wpAny_bindName->QL,codeAny_call_builtin->QN,PassesOwn->QU,Scope->QV,wpAny_binaryOp_repeat_ref->QY,assignInOrder->Q0,swapsWithSole->Q3,swappedStores->Q4,wpAny_comprehension_free->Q5,rawInt->Q8,getattributeRaised->Q9,swapsWith->Ra,pyNext->Rc,wpAny_pyNext_list_item->Re,getItem->Rf,wpAny_sequenceKey->Rg,newFunctionEnv->Rj,wpAny_pyNext_list_end->Rl,typeIs_int->Rq,PlainAttrs->Rs,wpAny_attempt->RA,wpAny_onRaise->RB,wpAny_updateSeq_pair->RD,unbindBehindTheSuite->RE,IsPart->RF,typeOf->RG,wpAny_pyIter_tuple->RV,isInstance->R3,setItem->R8,keywordEach->Sa,evalPart_none->Se,DictEntry->Sh,wpAny_execs_cons->Si,wpAny_pyNext_tuple_item->Sj,noFill_tuple_add->Sk,wpAny_Call_method0_late->Sl,noteFrame->So,seqItems?->Sr,sysModules->Sv,wpAny_pyNext_tuple_end->Sw,BindsTo->Sy,typeLookup->Sz,callerA->SB,relabel->SC,wpAny_specialOf->SG,pushCells_keeps->SH,theTreesLotGoes->SI,wpAny_isTrue_Compare1->SK,int___rmul___int_list->SM,isTrue->SN,bindArgs->SO,subscripted->SQ,fitsIndex_both->SR,wpAny_listPart->SS,wpAny_of_eq->SU,wpAny_letGo->SV,compTurn->SW,Draws->SX,excClassObj->SY,getAttr?->SZ,stored->Ta,getMethod->Te,valueAt->Tf,setFlight->Tg,seq_tuple_add->Tk,builtinsNs->To,pyIter->Tp,sub_AttributeError->Tu,wpAny_assign_Name->Tw,wpAny_Assign_Name->Tx,concat_meets->TD,slot_list_getitem->TF,backToKw->TH,slot_list_setitem->TK,codeAny_loop->TL,Arguments->TW,Params->TY,checkBuiltinCall->T5,wpAny_madeBy_exc->T6,wpAny_lookBehind->T7,pastItsLine_dict->T8,getAttrBy->T9,callGetattribute->Ua,wpAny_pyIter_zip->Uc,unpackItems->Ue,wpAny_Slice->Uf,seqIndex_of->Ug,wpAny_noted->Uh,exec_Assign_arm->Uj,noFill_list_mul->Um,wpAny_updateSeq->Up,post_val_or_str->Uq,codeAny_of_tree->Ur,getAttrByItsOwn->Us,am_miss_of_fast->Uu,codeAny_builtin->Uv,release->Uw,Keyword->Ux,GenState->UA,wpAny_Name->UB,CmpOp->UC,truthy->UD,recursionLimit->UE,Result->UF,bindL->UG,bindC->UH,typeIs_str->UI,sliceRange_one->UJ,field->UM,firstArgMember->UN,wpAny_loadPart->UO,boundAndCalled->UQ,getAttrBy?->US,IsZip->UT,specialOf->UZ,handedOut->U0,raiseStmt->U1,getAttr->U2,newList->U7,Model->Ve,pick_run->Vg,compEnvC->Vi,compPost->Vj,callWith->Vn,setField->Vo,Walks->Vv
open PySem.Heap renaming get?_push_of_some->Of,lt_size->Ol,get?_push_size->Oq,SameBut->OI,get?_update_self->OL,get?_update_other->OM,size_push->OW,get?_update_ne->RO,update_setField_same->R7,ExtBut->Ui,push->VC
open PySem.Value renaming type->Oo,ref->Oy,int->OX,none->OY,builtin->P6,bool->Qn,ellipsis->QP,str->Tc,isStrOf->UU,isInt->Va,bytes->Vc,float->Vd
open PySem.Str renaming ofString->Op,length->Vr
open Ne renaming symm->Ot
open False renaming elim->OE
open PySem.Builtin.Tuple renaming tupleExact->OG,tupleItemsOf->QM,tupleTooMany->R0,tupleIsExact->R4
open PySem.NameKind renaming cell->OH,free->Qd
open PySem.Obj renaming mapFields->ON,data_mapFields->Qw,isFreed_of_fields->Rm,mapSeq->Ro
open PySem.Builtin.Slice renaming slicePlaces->OO,sliceAdjust->O8,sliceApplied->Qg,sliceFields->R5,slicePartIndex->Uk
open PySem.Builtin.SmallTypes renaming nextOf->OP,ownedTupleIsFree->Q6,ownedTupleHandOut->Ti
open PySem.Builtin.List renaming listTooLong->OS,listSubscript?->RQ,listAllItems->R6,listSameRef->Sg,listItems->U4
open PySem.Builtin.Str renaming strSliceIndices->OT,occurrences->Qa,tooLong->Vq
open PySem.SeqAt renaming EqAt->OU,notIn_tupleAt->Th,notIn_listAt->Ts,RcNeAt->TM,in_tupleAt->T1,in_listAt->Ul,RcAt->UK
open PySem.Heap.SameBut renaming update->P3,refl->Vy
open PySem.W renaming findIn->P8,specialIn->Rv,looks_findIn->RT,emptyDict->Td,handedIn->UP,OpenLaw->U5,WShape->U6,findCls->U8,keepIn->U9,clsIn->Vk,subIn->Vm,WData->Vw,mroIn->Vx
open PyProof.Rows renaming assignInOrder_cons->Qe,envOfC->Rn,boot_isinstance->RK,entry_tuple_getitem->RM,AllBare->RP,slicePart_none->RW,args_tuple_getitem->RX,assignInOrder_nil->R9,tupleItemsOf_->Sd,subscriptTail->Sf,subscriptTail_builtinR->SA,Subscript_->Tr,unpackItems_tuple->Tz,IsTup->Ud,IntsAre->Uy,range_getD->UY,tail_any->Vh
open PySem.F renaming slot_tuple_iterator_next->Qh,slot_int_rmul->QB,slot_tuple_getattribute->QZ,slot_list_getattribute->Q7,slot_tuple_mul->Rt,args_list_extend_2->RC,args_tuple_iterator_next_1->RJ,slot_zip_next->RL,entry_list_extend->RN,entry_tuple_iterator_next->RS,slot_list_extend->RZ,args_int_rmul_2->Sb,slot_int_index->Sm,entry_int_rmul->Sn,fills_int_mul->SE,args_tuple_mul_2->Tt,slot_dict_values->Tv,args_list_mul_2->TJ,slot_tuple_rmul->TN,entry_tuple_mul->TQ,args_zip_next_1->TU,entry_list_mul->T3,entry_zip_next->Ub,slot_list_mul->Uo,entry_bexc_ga->Ut,args_bexc_ga->UR
open PySem.PyData renaming canLay0->Qi,canLayAll0->Sc,keyHash->Uz,eqv->Vu
open PySem.AutoSeq1 renaming wpAny_loadPart'->Qp,list_extend_list_list_0->Ri,idx_int->Sq
open PySem.Code renaming quiet_builtin->Qx,isFrame->TB,isGuard->U3,frames->Vf
open Or renaming inr->Qy,inl->Rx
open PySem.AutoListH renaming list___mul___list_int_3->Rb
open PySem.Calls renaming callWith_builtin->Rh,Name_function_global->RU,spliced_cons->Tq,spliced_nil->TC
open PySem.Txt renaming join->Rk,slice->UX
open Classical renaming choose->Rw
open True renaming intro->Ry
open Sum renaming inr->Rz,inl->Su
open ForInStep renaming yield->RH
open PySem.Heap.IsSliceOf renaming new->RY
open PySem.Builtin.Dict renaming updateFrom->Ss,pairItems->SD,selfAndRest->UV
open PySem.Around renaming under->Sx,under_plainId->Tb
open PySem.PassesOwn renaming never->SJ
open PySem.EntryCells renaming newEntry->Tj
open PySem.SeqAt.EqAt renaming int_str->Tl,str_int->Tn
open PySem.callAny renaming viaDunder->TR
open Decidable renaming not_not->TV
open PySem.Flow renaming next->TZ
open And renaming intro->T4
open PySem.SeqAt.RcNeAt renaming lists_lengths->UL,tuples->Vp,lists->Vt
open PySem.Builtin.Range renaming rangeSize->UW
open Sum.inr renaming inj->Vb
open PySem.Within renaming cons->Vl
open PySem.W.WShape renaming has->Vs
open PyProof.Rows.IsTup renaming new->Vz
open PySem.W.WData renaming int->VA
open PySem.Data renaming dict->VB
open PySem.Heap.DictOf renaming new->VD
open List renaming getElem?_eq_some_iff->JJ,length_map->JK,size_toArray->JM,map_cons->JN,replicate->JO,nodup_append->JP,getElem?_map->JR,mem_map->JS,length_append->JT,flatMap_append->JV,flatMap_cons->JW,mem_filter->JX,length_cons->JY,map_append->JZ,take_of_length_le->J1,getElem?_set_ne->J4,append_assoc->Ka,append_nil->Kb,filterMap_cons->Kf,lookup_cons->Ki,filterMap_append->Kj,range->Kk,getD_eq_getElem?_getD->Kl,cons_append->Kn,exists_cons_of_length_eq_add_one->Ko,mem_cons->Kq,map_map->Kr,nodup_cons->Ks,not_mem_nil->Ku,mem_map_of_mem->Kv,getElem?_eq_getElem->Kw,length_take->Kx,all_eq_true->Ky,perm_middle->Kz,mem_filterMap->KB,replicate_succ->KC,getElem?_set_self->KG,length_eq_one_iff->KI,filter_sublist->KM,filter_cons->KN,getElem?_append_left->KO,length_eq_zero_iff->KR,nodup_nil->KS,nil_append->KT,mem_flatMap->KU,drop_eq_getElem_cons->KW,length_drop->K0,contains_eq_mem->K2,getElem?_cons_succ->K3,mem_of_mem_take->K4,getElem?_append_right->K8,flatten_cons->K9,filter_eq_self->Lb,contains_cons->Lg,all_cons->Lj,mem_range->Lk,lookup->Ll,length->Ln,cons->Lp,getElem?_cons_zero->Lq,length_set->Lr,map_nil->Lv,getElem_cons_drop->Lw,ext_getElem?->Ly,mem_of_mem_drop->Lz,eq_nil_of_length_eq_zero->LD,filterMap_map->LF,filter_append->LG,mem_replicate->LI,filter_map->LJ,mem_iff_getElem?->LM,take_append_drop->LN,reverse_cons->LO,flatMap_nil->LR,getElem?_zip_eq_some->LS,mem_append->LU,foldl_cons->LV,forIn_cons->LW,append_of_mem->LY,filter_filter->LZ,take_succ->Ma,pairwise_map->Mb,drop_length->Mf,any_cons->Mg,map_take->Mi,getLast?_append->Mj,length_nil->Ml,find?_cons->Mm,all_nil->Mo,drop_zero->Mp,perm_ext_iff_of_nodup->Mq,length_range->Mw,set_comm->Mx,getElem?_take_of_lt->My,append_cancel_right->MB,filterMap_cons_none->MC,getElem?_replicate->MD,flatMap_eq_nil_iff->ML,map_reverse->MN,foldl->MP,sublist_cons_self->MQ,map_set->MR,of_mem_zip->MV,head?_drop->MX,length_zip->MY,filter_nil->M1,contains_iff_mem->M4,getElem?_eq_none->M5,dropLast_eq_take->M7,set_append_left->Na,drop_drop->Nb,length_reverse->Ng,map_congr_left->Ni,reverse_append->Nj,length_flatMap->Nk,map_drop->Nn,mem_singleton->No,set_cons_succ->Np,map_inj_right->Nq,any_eq_false->Nr,mem_flatten->ND,take_length->NF,nodup_range->NG,sum_reverse->NH,range_succ->NN,forIn_nil->NQ,take_zero->NR,all_map->N0
open Bool renaming and_eq_true->JL,false_ne_true->JU,not_eq_true'->Kt,eq_iff_iff->Lc,false_eq_true->Le,and_self->LL,and_false->LP,and_eq_true_iff->LQ,or_true->L9,or_eq_true->Mk,and_true->Mz,false_or->Nl,true_and->Nm,not_eq_true->NC,false_and->NO,not_false->NS,true_or->NZ
open Nat renaming le_refl->JQ,ne_of_lt->J3,lt_of_lt_of_le->Kc,le_trans->Kg,zero_add->KP,le_add_right->K1,ne_of_gt->K7,zero_le->Ld,lt_of_le_of_lt->Lf,lt_irrefl->Lh,succ->Lo,zero_lt_succ->LC,le_of_lt->Mn,mod_lt->Ms,le_succ->Mv,le_max_right->MJ,succ_le_succ->MM,lt_of_succ_lt_succ->MU,le_max_left->MW,not_lt_zero->MZ,min_eq_left->M0,le_of_ble_eq_true->M8,mul_le_mul->M9,add_le_add_left->Nf,mul_comm->Nw,lt_succ_of_lt->Ny,lt_trans->Nz,min_le_right->NA,lt_succ_self->NB,zero_lt_one->NM,max_lt->NT,min_self->N1,sub_zero->N5
open Option renaming some->Ke,map_eq_some_iff->KA,isSome_iff_exists->Li,map_some->Ls,getD_none->MF,bind_some->MK,map->Ob
open Int renaming toNat_natCast->Kh,emod_lt_of_pos->Lx,emod_nonneg->LK,eq_ofNat_of_zero_le->MH,reduceAdd->NV,ediv_one->NY,zero_add->N3
open PyProof.Rows renaming slot_tuple_getitem->Km,callWith_type1->K6,boot_tuple->LB,boot_list->LH,boot_bool->Mc,boot_str->Md,callWith_builtin1->Me,boot_dict->N4,boot_min->N6,boot_max->N7,boot_all->N8,boot_int->N9
open PySem.W renaming fnOf->KD,nsIn->KJ,kitOne->KZ,keepIn->Lm,codeIn->LA,callWith_K->LX,findIn->L5,cellsFrom_some->L7,mg_of->Mh,exmOne->Mr,methodObj->Mt,methodCall_KW->M6,kitAny->Nc,hasDictIn->Nt,specialIn->Nu,isFn->Nv,instObj->NI,kia_one->NK,OpenLaw->NL,lookIn->NP,WalkO->NU,Frag->NW
open Array renaming length_toList->KY,getElem?_eq_some_iff->La,getElem?_toList->M3,size_append->Nx,toList->NX
open PySem renaming mem_of_lookup->Lu,evalArgs_none->Nd,wpAt_of_wpAny->Nh,seqSlot_of->NE,wpAt_bind->NJ
open Prod renaming ext->Oa
local macro_rules|`(tactic| unhygienic $t)=>`(tactic| with_unfolding_all $t)
local macro_rules|`(tactic| rfl')=>`(tactic| kernel_rfl)
def K49.ws:PySem.Challenge.rw_clockhouse_k49_houses_side_by_side.wellSaid=VH:=by rfl'
namespace K49
open PySem
abbrev wF(s:Stmt):TW×!Stmt×QV:=match s with
 | .FunctionDef _ x b _ _ _ c _ _ _=>(x,b,c)
 | _=>({posonlyargs:=[],args:=[],vararg:=VE,kwonlyargs:=[],kw_defaults:=[],kwarg:=VE,defaults:=[]},[],{kind:=.function,names:=[],isGenerator:=VG,isCoroutine:=VG})
abbrev vs(x:String) (t:Tok):Od:=.str (Op x) t
abbrev vi(n:Int):Od:=.int n 0
abbrev vr(a:Addr):Od:=.ref a
abbrev eO(p:TY) (x:String) (t:Tok) (v:Od):Sh:={Uz p (Op x),vs x t,v}
abbrev oC(vs:!Od):Obj:={cls:=.type "code",data:=.fields vs.toArray}
abbrev oD(a:!Sh) (n:Nat):Obj:={cls:=.type "dict",data:=.dict a.toArray n}
abbrev oFq(x q:String) (st:Stmt) (a:Od) (c:Addr):Obj:={cls:=.type "function",data:=.func (KD (Op x) (Op q) (wF st).1 (wF st).2.1 (wF st).2.2 .none .none .none a VE (.ref c) .none)}
abbrev oF(x:String) (st:Stmt) (a:Od) (c:Addr):Obj:=oFq x x st a c
abbrev ocq(x q:String) (t l n r:Nat) (v:↑(Nat×Nat)) (d e:Nat):Obj:=oC [vs x t,vs q (t+1),vs "/claim/cut.py" (t+2),vi l,vi n,vi 0,vi 0,vi 3,vr r,.bool VH,vi 181,vr (r+1),.none,(match v with|some p=>vr p.1|none=>.none),(match v with|some p=>vr p.2|none=>.none),vr d,vi e,vi l,vs "/claim/cut.py" (e+1)]
abbrev oc(x:String) (t l n r:Nat) (v:↑(Nat×Nat)) (d e:Nat):Obj:=ocq x x t l n r v d e
abbrev oK(x:String) (C N:Addr) (b:Od) (m:!Od) (a:!Od) (s t u:Nat):Obj:={cls:=.type "type",data:=.cls {name:=Op x,bases:=[b],mro:=vr C::m,ns:=N,qualname:=Op x,subclasses:=a},slots:=#[VF (vr s),VE,VF (vs x t),VF (vs x u),VF (.builtin "ValueError.__new__"),VF (.bool VH)]}
abbrev CF(s:Stmt):Stmt:=match s with
 | .ClassDef _ _ _ b _ _ _ _ _ _ _=>b.headD s
 | _=>s
abbrev top(i:Nat):Stmt:=PySem.Challenge.pw_clockhouse_k49_houses_side_by_side.main.body.getD i (.Pass {0,0,0,0})
noncomputable abbrev sd:Stmt:=top 1
noncomputable abbrev fD:Stmt:=top 15
noncomputable abbrev jb:Stmt:=top 16
noncomputable abbrev oW:Stmt:=top 17
noncomputable abbrev gE:Stmt:=top 21
noncomputable abbrev jc:Stmt:=top 22
noncomputable abbrev l3:Stmt:=top 24
noncomputable abbrev hU:Stmt:=top 26
noncomputable abbrev ib:Stmt:=top 27
noncomputable abbrev gB:Stmt:=top 28
noncomputable abbrev ja:Stmt:=top 29
noncomputable abbrev dz:Stmt:=top 30
noncomputable abbrev cS:Stmt:=top 31
noncomputable abbrev cT:Stmt:=top 32
noncomputable abbrev cV:Stmt:=top 33
noncomputable abbrev bY:Stmt:=top 34
noncomputable abbrev cU:Stmt:=top 35
noncomputable abbrev gC:Stmt:=top 36
noncomputable abbrev gz:Stmt:=top 37
noncomputable abbrev gA:Stmt:=top 38
noncomputable abbrev dA:Stmt:=top 39
noncomputable abbrev gD:Stmt:=top 40
noncomputable abbrev gy:Stmt:=top 41
noncomputable abbrev eU:Stmt:=top 42
noncomputable abbrev fB:Stmt:=top 43
noncomputable abbrev fA:Stmt:=top 44
noncomputable abbrev i9:Stmt:=top 45
noncomputable abbrev ic:Stmt:=top 46
noncomputable abbrev s_law:Stmt:=top 47
noncomputable abbrev fE:Stmt:=CF (top 2)
noncomputable abbrev jd:Stmt:=CF (top 3)
noncomputable abbrev pm0:Od:=(vs "law_clockhouse_k49_houses_side_by_side" 547)
noncomputable abbrev pm1:Od:=(vs "clockhouse.rules" 490)
noncomputable abbrev pm2:Od:=(vs "clockhouse.houses" 515)
noncomputable abbrev pm3:Od:=(vs "clockhouse.errors" 187)
noncomputable abbrev pm4:Od:=(vs "clockhouse.moved" 539)
abbrev KF(P:TY):NW:=[(3,oD [(eO P "__name__" 165 (vs "law_clockhouse_k49_houses_side_by_side" 547)),(eO P "__doc__" 166 .none),(eO P "__package__" 167 .none),(eO P "__loader__" 168 (P6 "__main__.__loader__#opaque")),(eO P "__spec__" 169 .none),(eO P "__annotations__" 170 (vr 6)),(eO P "__builtins__" 171 (vr 4)),(eO P "__file__" 173 (vs "/claim/cut.py" 172)),(eO P "__cached__" 174 .none),(eO P "kept" 195 (vr 21)),(eO P "HouseError" 220 (vr 38)),(eO P "NoHouse" 247 (vr 58)),(eO P "NoText" 272 (vr 77)),(eO P "Loose" 295 (vr 96)),(eO P "TooLong" 320 (vr 115)),(eO P "Ring" 345 (vr 134)),(eO P "Early" 370 (vr 153)),(eO P "NoWay" 393 (vr 172)),(eO P "NoTurn" 416 (vr 191)),(eO P "NoCell" 441 (vr 210)),(eO P "NoRow" 464 (vr 229)),(eO P "NoName" 489 (vr 248)),(eO P "inner_parts" 498 (vr 257)),(eO P "parts_of" 508 (vr 264)),(eO P "reads" 514 (vr 269)),(eO P "MOST_DESKS" 518 (OX 6 517)),(eO P "MOST_STEPS" 520 (OX 16 519)),(eO P "desk_steps" 532 (vr 276)),(eO P "steps_of" 538 (vr 281)),(eO P "beside" 546 (vr 286)),(eO P "_law_feed" 558 (vr 293)),(eO P "_law_take" 568 (vr 300)),(eO P "_law_names" 574 (vr 305)),(eO P "_law_row" 580 (vr 310)),(eO P "_law_back_row" 586 (vr 315)),(eO P "_law_free_reads" 592 (vr 320)),(eO P "_law_late_reads" 598 (vr 325)),(eO P "_law_turned_row" 609 (vr 332)),(eO P "_law_opposed_reads" 615 (vr 337)),(eO P "_law_ring_reads" 621 (vr 342)),(eO P "_law_reads" 632 (vr 349)),(eO P "_law_grown" 643 (vr 356)),(eO P "_law_house" 649 (vr 361)),(eO P "_law_reads_of" 658 (vr 368)),(eO P "_law_steps" 670 (vr 375)),(eO P "_law_alike" 676 (vr 380)),(eO P "_law_renamed" 682 (vr 385)),(eO P "_law_second" 688 (vr 390)),(eO P "_law_eights" 694 (vr 395)),(eO P "_law_due" 700 (vr 400)),(eO P "_law_told" 711 (vr 407)),(eO P "law" 726 (vr 414))] 52),
 (293,oF "_law_feed" hU pm0 292),
 (292,oc "_law_feed" 549 106 2 287 (VF (289,290)) 291 556),
 (300,oF "_law_take" ib pm0 299),
 (299,oc "_law_take" 559 116 2 294 (VF (296,297)) 298 566),
 (356,oF "_law_grown" gz pm0 355),
 (355,oc "_law_grown" 633 203 2 350 (VF (352,353)) 354 641),
 (395,oF "_law_eights" fA pm0 394),
 (394,oc "_law_eights" 689 276 2 391 VE 393 692),
 (332,oF "_law_turned_row" cV pm0 331),
 (331,oc "_law_turned_row" 599 160 3 326 (VF (328,329)) 330 607),
 (310,oF "_law_row" ja pm0 309),
 (309,oc "_law_row" 575 137 2 306 VE 308 578),
 (337,oF "_law_opposed_reads" bY pm0 336),
 (336,oc "_law_opposed_reads" 610 165 3 333 VE 335 613),
 (320,oF "_law_free_reads" cS pm0 319),
 (319,oc "_law_free_reads" 587 145 3 316 VE 318 590),
 (315,oF "_law_back_row" dz pm0 314),
 (314,oc "_law_back_row" 581 141 2 311 VE 313 584),
 (325,oF "_law_late_reads" cT pm0 324),
 (324,oc "_law_late_reads" 593 151 3 321 VE 323 596),
 (342,oF "_law_ring_reads" cU pm0 341),
 (341,oc "_law_ring_reads" 616 179 3 338 VE 340 619),
 (349,oF "_law_reads" gC pm0 348),
 (348,oc "_law_reads" 622 191 1 343 (VF (345,346)) 347 630),
 (305,oF "_law_names" gB pm0 304),
 (304,oc "_law_names" 569 124 2 301 VE 303 572),
 (361,oF "_law_house" gA pm0 360),
 (360,oc "_law_house" 644 214 1 357 VE 359 647),
 (385,oF "_law_renamed" eU pm0 384),
 (384,oc "_law_renamed" 677 250 3 381 VE 383 680),
 (390,oF "_law_second" fB pm0 389),
 (389,oc "_law_second" 683 257 2 386 VE 388 686),
 (380,oF "_law_alike" gy pm0 379),
 (379,oc "_law_alike" 671 242 2 376 VE 378 674),
 (368,oF "_law_reads_of" dA pm0 367),
 (367,oc "_law_reads_of" 650 226 1 362 (VF (364,365)) 366 656),
 (375,oF "_law_steps" gD pm0 374),
 (374,oc "_law_steps" 659 235 1 369 (VF (371,372)) 373 668),
 (400,oF "_law_due" i9 pm0 399),
 (399,oc "_law_due" 695 283 2 396 VE 398 698),
 (257,oF "inner_parts" fD pm1 256),
 (256,oc "inner_parts" 492 61 1 251 (VF (253,254)) 255 496),
 (264,oF "parts_of" jb pm1 263),
 (263,oc "parts_of" 499 67 1 258 (VF (260,261)) 262 506),
 (269,oF "reads" oW pm1 268),
 (268,oc "reads" 509 75 1 265 VE 267 512),
 (276,oF "desk_steps" gE pm2 275),
 (275,oc "desk_steps" 521 80 2 270 (VF (272,273)) 274 530),
 (281,oF "steps_of" jc pm2 280),
 (280,oc "steps_of" 533 87 1 277 VE 279 536),
 (21,oF "kept" sd pm3 20),
 (20,oc "kept" 189 2 1 15 (VF (17,18)) 19 193),
 (286,oF "beside" l3 pm4 285),
 (285,oc "beside" 541 90 2 282 VE 284 544),
 (407,oF "_law_told" ic pm0 406),
 (406,oc "_law_told" 701 295 2 401 (VF (403,404)) 405 709),
 (414,oF "law" s_law pm0 413),
 (413,oc "law" 712 307 1 408 (VF (410,411)) 412 724),
 (2,{cls:=.none,data:=.dict #[]}),
 (38,oK "HouseError" 38 37 (Oo "ValueError") [Oo "ValueError",Oo "Exception",Oo "BaseException",Oo "object"] [(vr 58),(vr 77),(vr 96),(vr 115),(vr 134),(vr 153),(vr 172),(vr 191),(vr 210),(vr 229),(vr 248)] 22 196 204),
 (37,oD [(eO P "__module__" 203 (vs "clockhouse.errors" 187)),(eO P "__firstlineno__" 207 (OX 4 206)),(eO P "__init__" 214 (vr 35)),(eO P "__static_attributes__" 215 (vr 36)),(eO P "__weakref__" 217 (vr 39)),(eO P "__doc__" 218 .none)] 3),
 (35,oFq "__init__" "HouseError.__init__" fE pm3 34),
 (34,ocq "__init__" "HouseError.__init__" 208 6 1 29 (VF (31,32)) 33 212),
 (58,oK "NoHouse" 58 57 (vr 38) [(vr 38),Oo "ValueError",Oo "Exception",Oo "BaseException",Oo "object"] [] 42 221 229),
 (57,oD [(eO P "__module__" 228 (vs "clockhouse.errors" 187)),(eO P "__firstlineno__" 232 (OX 8 231)),(eO P "__init__" 241 (vr 55)),(eO P "__static_attributes__" 244 (vr 56)),(eO P "__doc__" 245 .none)] 2),
 (55,oFq "__init__" "NoHouse.__init__" jd pm3 54),
 (54,ocq "__init__" "NoHouse.__init__" 233 10 3 49 (VF (51,52)) 53 239),
 (77,oK "NoText" 77 76 (vr 38) [(vr 38),Oo "ValueError",Oo "Exception",Oo "BaseException",Oo "object"] [] 61 248 256),
 (76,oD [(eO P "__module__" 255 (vs "clockhouse.errors" 187)),(eO P "__firstlineno__" 259 (OX 14 258)),(eO P "__init__" 267 (vr 74)),(eO P "__static_attributes__" 269 (vr 75)),(eO P "__doc__" 270 .none)] 2),
 (96,oK "Loose" 96 95 (vr 38) [(vr 38),Oo "ValueError",Oo "Exception",Oo "BaseException",Oo "object"] [] 80 273 281),
 (95,oD [(eO P "__module__" 280 (vs "clockhouse.errors" 187)),(eO P "__firstlineno__" 284 (OX 19 283)),(eO P "__init__" 291 (vr 93)),(eO P "__static_attributes__" 292 (vr 94)),(eO P "__doc__" 293 .none)] 2),
 (115,oK "TooLong" 115 114 (vr 38) [(vr 38),Oo "ValueError",Oo "Exception",Oo "BaseException",Oo "object"] [] 99 296 304),
 (114,oD [(eO P "__module__" 303 (vs "clockhouse.errors" 187)),(eO P "__firstlineno__" 307 (OX 23 306)),(eO P "__init__" 315 (vr 112)),(eO P "__static_attributes__" 317 (vr 113)),(eO P "__doc__" 318 .none)] 2),
 (134,oK "Ring" 134 133 (vr 38) [(vr 38),Oo "ValueError",Oo "Exception",Oo "BaseException",Oo "object"] [] 118 321 329),
 (133,oD [(eO P "__module__" 328 (vs "clockhouse.errors" 187)),(eO P "__firstlineno__" 332 (OX 28 331)),(eO P "__init__" 340 (vr 131)),(eO P "__static_attributes__" 342 (vr 132)),(eO P "__doc__" 343 .none)] 2),
 (153,oK "Early" 153 152 (vr 38) [(vr 38),Oo "ValueError",Oo "Exception",Oo "BaseException",Oo "object"] [] 137 346 354),
 (152,oD [(eO P "__module__" 353 (vs "clockhouse.errors" 187)),(eO P "__firstlineno__" 357 (OX 33 356)),(eO P "__init__" 365 (vr 150)),(eO P "__static_attributes__" 367 (vr 151)),(eO P "__doc__" 368 .none)] 2),
 (172,oK "NoWay" 172 171 (vr 38) [(vr 38),Oo "ValueError",Oo "Exception",Oo "BaseException",Oo "object"] [] 156 371 379),
 (171,oD [(eO P "__module__" 378 (vs "clockhouse.errors" 187)),(eO P "__firstlineno__" 382 (OX 38 381)),(eO P "__init__" 389 (vr 169)),(eO P "__static_attributes__" 390 (vr 170)),(eO P "__doc__" 391 .none)] 2),
 (191,oK "NoTurn" 191 190 (vr 38) [(vr 38),Oo "ValueError",Oo "Exception",Oo "BaseException",Oo "object"] [] 175 394 402),
 (190,oD [(eO P "__module__" 401 (vs "clockhouse.errors" 187)),(eO P "__firstlineno__" 405 (OX 42 404)),(eO P "__init__" 412 (vr 188)),(eO P "__static_attributes__" 413 (vr 189)),(eO P "__doc__" 414 .none)] 2),
 (210,oK "NoCell" 210 209 (vr 38) [(vr 38),Oo "ValueError",Oo "Exception",Oo "BaseException",Oo "object"] [] 194 417 425),
 (209,oD [(eO P "__module__" 424 (vs "clockhouse.errors" 187)),(eO P "__firstlineno__" 428 (OX 46 427)),(eO P "__init__" 436 (vr 207)),(eO P "__static_attributes__" 438 (vr 208)),(eO P "__doc__" 439 .none)] 2),
 (229,oK "NoRow" 229 228 (vr 38) [(vr 38),Oo "ValueError",Oo "Exception",Oo "BaseException",Oo "object"] [] 213 442 450),
 (228,oD [(eO P "__module__" 449 (vs "clockhouse.errors" 187)),(eO P "__firstlineno__" 453 (OX 51 452)),(eO P "__init__" 460 (vr 226)),(eO P "__static_attributes__" 461 (vr 227)),(eO P "__doc__" 462 .none)] 2),
 (248,oK "NoName" 248 247 (vr 38) [(vr 38),Oo "ValueError",Oo "Exception",Oo "BaseException",Oo "object"] [] 232 465 473),
 (247,oD [(eO P "__module__" 472 (vs "clockhouse.errors" 187)),(eO P "__firstlineno__" 476 (OX 55 475)),(eO P "__init__" 484 (vr 245)),(eO P "__static_attributes__" 486 (vr 246)),(eO P "__doc__" 487 .none)] 2)]
abbrev KL:!Str:=["kept","HouseError","NoHouse","NoText","Loose","TooLong","Ring","Early","NoWay","NoTurn","NoCell","NoRow","NoName","inner_parts","parts_of","reads","MOST_DESKS","MOST_STEPS","desk_steps","steps_of","beside","_law_feed","_law_take","_law_names","_law_row","_law_back_row","_law_free_reads","_law_late_reads","_law_turned_row","_law_opposed_reads","_law_ring_reads","_law_reads","_law_grown","_law_house","_law_reads_of","_law_steps","_law_alike","_law_renamed","_law_second","_law_eights","_law_due","_law_told"].map Op
abbrev KH:PySem.W.Hook:=PySem.W.kHook KF [3,293,292,300,299,356,355,395,394,332,331,310,309,337,336,320,319,315,314,325,324,342,341,349,348,305,304,361,360,385,384,390,389,380,379,368,367,375,374,400,399,257,256,264,263,269,268,276,275,281,280,21,20,286,285,407,406,414,413,2,38,37,35,34,58,57,55,54,77,76,96,95,115,114,134,133,153,152,172,171,191,190,210,209,229,228,248,247] (λ_=>rfl)
abbrev KQ:Os:=PySem.W.view PySem.Challenge.pw_clockhouse_k49_houses_side_by_side [47]
def left:PySem.W.LeftO PySem.Challenge.pw_clockhouse_k49_houses_side_by_side KQ KL (λs=>PySem.W.xlAt KQ [] s&&PySem.W.recOk [] s) KH.obs KH.val 4000:=λw=>by rfl'
end K49
def yaR{a:Type}{b : a}(x:!a){y:!a}(h:b∈y):b∈x++y:=List.mem_append_right x h
def yaL{a:Type}{b : a}{x:!a}(y:!a)(h:b∈x):b∈x++y:=List.mem_append_left y h
def ymS{a:Type}{b : a}{x:!a}:b∈b::x:=List.mem_cons_self
def ymC{a:Type}{b : a}(y : a){x:!a}(h:b∈x):b∈y::x:=List.mem_cons_of_mem y h
def yaM{a:Type}{b : a}{x y:!a}(h:b∈x++y):b∈x\/b∈y:=LU.mp h
def ycM{c:Type}{b a : c}{x:!c}(h:b∈a::x):b=a\/b∈x:=Kq.mp h
def ysM{c:Type}{b a : c}(h:b∈[a]):b=a:=No.mp h
def ymG{c:Type}{x:!c}{i:Nat}{a : c}(h:x[i]?*>a):a∈x:=List.mem_of_getElem? h
protected def yF:=NW
namespace L2
open PySem PySem.Spec PyProof.Rows
protected def Key:=Sum Int Str
abbrev mW:Key->Od->Bool
 | .inl k,v=>Va k v
 | .inr x,v=>UU x v
abbrev Jt(w:Ox):Key->Int
 | .inl k=>hashInt k
 | .inr x=>hashStr w x
def bz:∀{k:Key} {v:Od},mW k v=VH->(∃i t,k=Su i/\v=OX i t)\/(∃x t,k=Rz x/\v=Tc x t)
 | .inl i,v,h=>by
  have(t,e):=Od.isInt_shape (k:=i) (v:=v) h;show .inl ⟨i,t,Xr,e⟩
 | .inr x,v,h=>by
  have(t,e):=Od.isStrOf_shape (x:=x) (v:=v) h;show .inr ⟨x,t,Xr,e⟩
def uQ(i:Int)(t:Tok):mW (.inl i) (.int i t)=VH:=by simp[mW,Va]
def uR(x:Str)(t:Tok):mW (.inr x) (.str x t)=VH:=by simp[mW,UU]
def DW(a b:Int):decide ((Su a:Key)=Su b)=(a==b):=by
 by_cases e:a=b;subst e;simp
 .have h:¬ (Su a:Key)=Su b:=λq=>e (Su.inj q);rw[decide_eq_false h];show(beq_eq_false_iff_ne.mpr e).symm
def DZ(a b:Str):decide ((Rz a:Key)=Rz b)=decide (a=b):=by
 by_cases e:a=b;subst e;simp
 .have h:¬ (Rz a:Key)=Rz b:=λq=>e (Vb q);rw[decide_eq_false h,decide_eq_false e]
def DX(a:Int)(b:Str):decide ((Su a:Key)=Rz b)=VG:=decide_eq_false (λq=>nomatch q)
def DY(a:Str)(b:Int):decide ((Rz a:Key)=Su b)=VG:=decide_eq_false (λq=>nomatch q)
abbrev cx(prog:Os) (w:Ox):PySem.KeyKind prog w Key where
 is:=mW
 hash:=Jt w
 inj:=λv a b ha hb=>by
  rcases bz ha with⟨i,t,rfl,rfl⟩|⟨x,t,rfl,rfl⟩
  .rcases bz hb with⟨j,u,rfl,e⟩|⟨y,u,rfl,e⟩;injection e with e1 _;rw[e1];show nomatch e
  .rcases bz hb with⟨j,u,rfl,e⟩|⟨y,u,rfl,e⟩;show nomatch e;injection e with e1 _;rw[e1]
 byValue:=λk v h=>by
  rcases bz h with⟨i,t,rfl,rfl⟩|⟨x,t,rfl,rfl⟩<;>rfl
 pyHash:=λhv h=>by
  rcases bz hv with⟨i,t,rfl,rfl⟩|⟨x,t,rfl,rfl⟩;show wpAny_pyHash_int h;show wpAny_pyHash_str h
 eqBool:=λhu hv h=>by
  rcases bz hu with⟨i,t,rfl,rfl⟩|⟨x,t,rfl,rfl⟩
  .rcases bz hv with⟨j,u,rfl,rfl⟩|⟨y,u,rfl,rfl⟩;rw[DW]at h;show wpAny_eqBool_int h;rw[DX]at h;show Tl i t y u _ _ _ _ h
  .rcases bz hv with⟨j,u,rfl,rfl⟩|⟨y,u,rfl,rfl⟩;rw[DY]at h;show Tn x t j u _ _ _ _ h;rw[DZ]at h;show wpAny_eqBool_str h
 «strs»:=λk x t v h=>by
  rcases bz h with⟨i,u,rfl,e⟩|⟨y,u,rfl,e⟩;show nomatch e
  .injection e with e1 _;subst e1;cases v<;>rfl
def pQ(prog:Os)(w:Ox)(i:Int)(t:Tok):(cx prog w).is (.inl i) (.int i t)=VH:=uQ i t
def pR(prog:Os)(w:Ox)(x:Str)(t:Tok):(cx prog w).is (.inr x) (.str x t)=VH:=uR x t
inductive V where
 | non|bl (b:Bool)|int (i:Int)|str (x:Str)|byt (b:Array UInt8)|flt (b:UInt64)|ref (a:Addr)|ty (n:String)
 deriving DecidableEq
abbrev RelV:V->Od->Prop
 | .non,u=>u=OY
 | .bl b,u=>u=Qn b
 | .int i,u=>∃t,u=OX i t
 | .str x,u=>∃t,u=Tc x t
 | .byt b,u=>∃t,u=Vc b t
 | .flt b,u=>∃t,u=Vd b t
 | .ref a,u=>u=Oy a
 | .ty n,u=>u=Oo n
protected def Vals:!V->!Od->Prop:=Paired RelV
def Vals.length{xs:!V}{us:!Od}(r:Vals xs us):xs.length=us.length:=Paired.length r
def Vals.get:∀{xs:!V} {us:!Od} {i:Nat} {x:V},Vals xs us->xs[i]?*>x->∃u,us[i]?*>u/\RelV x u
 | _,_,_,_,.nil,e=>by simp at e
 | _,_,0,_,.cons r _,e=>by simp at e;subst e;show{_,Xr,r}
 | _,_,i+1,x,.cons _ t,e=>by
  have(u,c,a):=Vals.get (i:=i) (x:=x) t (by exists e);show{u,by simpa using c,a}
def Vals.set{x:V}{u:Od}(r:RelV x u):∀{xs:!V} {us:!Od} (i:Nat),Vals xs us->Vals (xs.set i x) (us.set i u)
 | _,_,_,.nil=>.nil
 | _,_,0,.cons _ t=>.cons r t
 | _,_,i+1,.cons q t=>.cons q (Vals.set r i t)
def Vals.append:∀{xs a:!V} {us ws:!Od},Vals xs us->Vals a ws->Vals (xs++a) (us++ws):=by
 intro xs a us ws h k
 induction h with
 | nil=>show k
 | cons r t c=>show .cons r c
def Vals.take:∀{xs:!V} {us:!Od} (n:Nat),Vals xs us->Vals (xs.take n) (us.take n)
 | _,_,0,_=>.nil
 | _,_,_+1,.nil=>.nil
 | _,_,n+1,.cons r t=>.cons r (Vals.take n t)
def Vals.drop:∀{xs:!V} {us:!Od} (n:Nat),Vals xs us->Vals (xs.drop n) (us.drop n)
 | _,_,0,r=>r
 | _,_,_+1,.nil=>.nil
 | _,_,n+1,.cons _ t=>Vals.drop n t
abbrev RelO:↑V->↑Od->Prop
 | some v,VF u=>RelV v u
 | none,VE=>True
 | _,_=>False
abbrev KV{a : Type}:!(a×V)->!(a×Od)->Prop:=Paired λ(p : a×V) (q : a×Od)=>p.1=q.1/\RelV p.2 q.2
abbrev kV:Key->V
 | .inl i=>.int i
 | .inr x=>.str x
inductive HO where
 | lst (xs:!V)
 | tup (xs:!V)
 | dK (kvs:!(Key×V))|dT (kvs:!(!Key×V))
 | set (S:Int->Bool) (n:Nat)
 | ins (C dx:Addr) (fs:!(Str×V))
 | own (x:Addr)
 | xd (fs:!(Str×V))
 | met (f x:Addr)
 | rng (lo hi:Int)
 | frz (o:Obj) (u:HO)
 | tbl (ps:Array Od)
 | ext (φ : Heap->Prop)
protected def Hp:=Addr->↑HO
abbrev upd(H:Hp) (a:Addr) (o:HO):Hp:=λb=>if b=a then VF o else H b
def ao{H:Hp}{a:Addr}{o:HO}:upd H a o a*>o:=by unfold upd;rw[if_pos rfl]
def upd_ne{H:Hp}{a b:Addr}{o:HO}(h:b≠a):upd H a o b=H b:=by unfold upd;rw[if_neg h]
def bo{H:Hp}{a b:Addr}{o:HO}(h:H a*>o)(h':H b=VE):a≠b:=by
 intro e;subst e;rw[h]at h';cases h'
abbrev Pq(h:Heap)(a:Addr)(items:Array Od):Prop:=∃o,h.get? a*>o/\(o.cls=.type "tuple" /\ o.dict=VE)/\∃n,o.data=.seq items n
def Pq.to{h:Heap}{a:Addr}{items:Array Od}(x:Pq h a items):Ud h a items:=let ⟨o,e,c,d⟩:=x;⟨o,e,c.1,d⟩
def Pq.new(h:Heap)(items:Array Od):Pq (h.push {cls:=.type "tuple",data:=.seq items}) h.objs.size items:={_,Oq _ rfl,⟨Xr,Xr⟩,_,Xr}
section
variable (P:Os)(w:Ox)
abbrev Pe(H:Hp)(h:Heap)(a:Addr):HO->Prop
 | .lst e=>e.length<=sizeLine/\∃(c:!Od) (n:Nat),Vals e c/\h.get? a=VF {cls:=.type "list",data:=.seq c.toArray n}
 | .tup e=>e.length<=sizeLine/\∃c:!Od,Vals e c/\Pq h a c.toArray
 | .dK d=>d.length<=sizeLine/\(a==Sv)=VG/\∃vs,KV d vs/\h.DictOf (cx P w) a vs
 | .dT d=>d.length<=sizeLine/\(a==Sv)=VG/\∃e:!(!Key×Addr×Od),
   Paired (λ(p:!Key×V) (q:!Key×Addr×Od)=>p.1=q.1/\H q.2.1*>(.tup (p.1.map kV))/\RelV p.2 q.2.2) d e /\
   ∃o r z,h.get? a*>o/\o.ExactDict/\o.data=.dict r z/\r.toList=e.map (entryOfKey (tupleKind (cx P w)))/\(e.map (·.1)).Nodup
 | .set S n=>h.SetOf (intKind P w) a S n
 | .ins C j i=>H j*>(.own a)/\i.length<=1000/\j≠a/\h.get? a*>(NI C j) /\
   ∃g,h.Ns1 j g/\(∀f,RelO (i.lookup f) (g f))/\PySem.Within g (i.map (·.1))
 | .own _=>∃o,h.get? a*>o
 | .xd i=>∃g,h.Ns1 a g/\∀f,RelO (i.lookup f) (g f)
 | .rng lo s=>∃t u v,h.get? a=VF {cls:=.type "range",data:=.fields #[.int lo t,.int s u,.int 1 v]}
 | .frz o u=>h.get? a*>o/\Pe H h a u
 | .tbl y=>h.get? a=VF {cls:=.none,data:=.fields y}
 | .met f x=>h.get? a*>(Mt (.ref f) (.ref x))
 | .ext k=>k h/\(∃o,h.get? a*>o)/\∀l m:Heap,k l->(∀o,l.get? a*>o->m.get? a*>o)->k m
abbrev HOk(H:Hp)(h:Heap):Prop:=∀a o,H a*>o->Pe P w H h a o
end
section
variable {P:Os}{w:Ox}{H H':Hp}{h h':Heap}{a:Addr}{o:HO}
def Pe.lt(x:Pe P w H h a o):a<h.objs.size:=by
 cases o with
 | lst d=>have(_,_,_,_,e):=x;show Ol e
 | tup d=>have(_,_,_,p):=x;show p.to.lt
 | dK c=>have(_,_,_,_,o,_,_,e,_):=x;show Ol e
 | dT c=>have(_,_,_,_,o,_,_,e,_):=x;show Ol e
 | set S n=>have(o,_,_,_,e,_):=x;show Ol e
 | ins C l g=>have(_,_,_,e,_):=x;show Ol e
 | own y=>have(_,e):=x;show Ol e
 | xd g=>obtain⟨_,⟨_,_,_,e,_⟩,_⟩:=x;show Ol e
 | rng lo i=>have(_,_,_,e):=x;show Ol e
 | frz j u=>have(e,_):=x;show Ol e
 | tbl k=>show Ol (show h.get? a*>_ from x)
 | met f y=>show Ol (show h.get? a*>_ from x)
 | ext m=>obtain⟨_,⟨_,e⟩,_⟩:=x;show Ol e
def Paired.mapP{g e:Type}{F G : g->e->Prop}:∀{d : !g} {c : !e},Paired F d c->(∀a b,F a b->G a b)->Paired G d c:=by
 intro d c h f
 induction h with
 | nil=>show .nil
 | cons r t i=>show .cons (f _ _ r) i
def Pe.stay(x:Pe P w H h a o)(k:∀b u,(b=a\/H b*>(.own a))->h.get? b*>u->h'.get? b*>u)
  (G:∀b,H b*>(.own a)->H' b*>(.own a)) (J:∀b xs,H b*>(.tup xs)->H' b*>(.tup xs)):Pe P w H' h' a o:=by
 induction o with
 | lst xs=>have(z,l,n,r,e):=x;show{z,l,n,r,k _ _ (.inl rfl) e}
 | tup xs=>have(z,l,r,g,e,c):=x;show{z,l,r,g,k _ _ (.inl rfl) e,c}
 | dK A=>have(z,y,vs,r,g,i,j,e,c):=x;show{z,y,vs,r,g,i,j,k _ _ (.inl rfl) e,c}
 | dT A=>
  have(z,y,xs,r,g,i,j,e,c):=x;show{z,y,xs,Paired.mapP r λp q z=>{z.1,J _ _ z.2.1,z.2.2},g,i,j,k _ _ (.inl rfl) e,c}
 | set S n=>have(g,i,j,t,e,c):=x;show{g,i,j,t,k _ _ (.inl rfl) e,c}
 | ins C O E=>
  obtain⟨d,z,M,e,m,⟨s,i,j,L,c⟩,r⟩:=x;show{G _ d,z,M,k _ _ (.inl rfl) e,m,{s,i,j,k _ _ (.inr d) L,c},r}
 | own y=>have(g,e):=x;show{g,k _ _ (.inl rfl) e}
 | xd E=>obtain⟨m,⟨s,i,j,e,c⟩,r⟩:=x;show{m,{s,i,j,k _ _ (.inl rfl) e,c},r}
 | rng lo N=>have(t,u,v,e):=x;show{t,u,v,k _ _ (.inl rfl) e}
 | frz g u K=>have(e,q):=x;show{k _ _ (.inl rfl) e,K q}
 | tbl B=>
  have e:h.get? a=VF {cls:=.none,data:=.fields B}:=x;change h'.get? a=VF {cls:=.none,data:=.fields B};show k a _ (.inl rfl) e
 | met f y=>
  have e:h.get? a*>(Mt (.ref f) (.ref y)):=x;change h'.get? a*>(Mt (.ref f) (.ref y));show k a _ (.inl rfl) e
 | ext Q=>obtain⟨p,⟨o,e⟩,st⟩:=x;show{st _ _ p λo q=>k _ _ (.inl rfl) q,{o,k _ _ (.inl rfl) e},st}
def HOk.lt(x:HOk P w H h)(e:H a*>o):a<h.objs.size:=(x a o e).lt
def HOk.fresh(x:HOk P w H h)(e:h.objs.size<=a):H a=VE:=by
 cases q:H a with
 | none=>rfl
 | some u=>show absurd (Kc (x.lt q) e) (Lh _)
def HOk.kept(x:HOk P w H h)(k:∀b u,h.get? b*>u->h'.get? b*>u):HOk P w H h':=λa o e=>
 (x a o e).stay (λb u _ q=>k b u q) (λ_ q=>q) λ_ _ q=>q
def HOk.laid(x:HOk P w H h)(k:∀b u,h.get? b*>u->h'.get? b*>u)(hp:h.objs.size<=a)(new:Pe P w (upd H a o) h' a o):HOk P w (upd H a o) h':=λb u e=>by
 have d:=x.fresh hp;by_cases f:b=a;subst f;rw[ao]at e;cases e;show new
 .rw[upd_ne f]at e;show(x b u e).stay (λc v _ q=>k c v q) (λc q=>by rw[upd_ne (bo q d)];show q) λc g q=>by rw[upd_ne (bo q d)];show q
end
abbrev Rd(H:Hp)(a:Addr)(u:HO):Prop:=H a*>u \/ ∃o,H a*>(.frz o u)
def Rd.ok{P:Os}{w:Ox}{H:Hp}{h:Heap}{a:Addr}{u:HO}(r:Rd H a u)(x:HOk P w H h):Pe P w H h a u:=by
 rcases r with r|⟨o,r⟩;show x a u r
 .have(_,q):=x a _ r;show q
abbrev Mut:↑HO->Prop
 | some (.lst _)=>True
 | some (.dK _)=>True
 | some (.dT _)=>True
 | some (.set _ _)=>True
 | some (.ins _ _ _)=>True
 | some (.ext _)=>True
 | _=>False
section
variable {P:Os}{w:Ox}{H:Hp}{h h':Heap}{x e:Addr}{o':HO}
def HOk.write(s:HOk P w H h)(g:Mut (H x))(p:e=x\/H e*>(.own x))(k:∀b u,b≠e->h.get? b*>u->h'.get? b*>u)(m:∃u,h'.get? e*>u)
  (new:Pe P w (upd H x o') h' x o'):HOk P w (upd H x o') h':=λb u q=>by
 have d:∀c y,H c*>(.own y)->c≠x:=λc y r z=>by subst z;rw[r]at g;show g
 have f:∀c i,H c*>(.tup i)->c≠x:=λc i r z=>by subst z;rw[r]at g;show g
 by_cases j:b=x;subst j;rw[ao]at q;cases q;show new
 .rw[upd_ne j]at q;by_cases a:b=e
  .have o:H b*>(.own x):=by
    rcases p with z|z;show absurd (a.trans z) j;rw[a];show z
   rw[q]at o;cases o;have(v,t):=m;show{v,by rw[a];show t}
  .show(s b u q).stay (λc v l r=>k c v ?_ r) (λc r=>by rw[upd_ne (d c b r)];show r) λc i r=>by rw[upd_ne (f c i r)];show r
   rcases l with rfl|l;show a
   .rintro rfl;rcases p with z|z;show d c b l z;rw[l]at z;cases z;show j rfl
end
structure Un(fs ex:!Addr)(H H':Hp)(h h':Heap):Prop where
 keep:∀b o,h.get? b*>o->H b=VE->b∉fs->b∉ex->h'.get? b*>o
 slot:∀b o,h.get? b*>o->H b=VE->b∈fs->b∉ex->∃sl,h'.get? b=VF {o with slots:=sl}
 free:∀b o,h.get? b*>o->H b=VE->b∉ex->H' b=VE
 there:∀b o,h.get? b*>o->b∉ex->∃o',h'.get? b*>o'
 tups:∀b xs,H b*>(.tup xs)->H' b*>(.tup xs)
 frzs:∀b o u,H b*>(.frz o u)->H' b*>(.frz o u)
 tbls:∀b ps,H b*>(.tbl ps)->∃more,H' b*>(.tbl (ps++more))
section
variable {fs fs' ex ex':!Addr}{H H1 H2:Hp}{h h1 h2 h':Heap}{a x e:Addr}{o:HO}
def Un.any(u:Un fs ex H H1 h h1){b:Addr}{c:Obj}(q:h.get? b*>c)(n:H b=VE)(f:b∉ex):∃sl,h1.get? b=VF {c with slots:=sl}:=by
 by_cases g:b∈fs;show u.slot b c q n g f;show{c.slots,u.keep b c q n g f}
def Un.kept(k:∀b u,h.get? b*>u->h'.get? b*>u):Un fs ex H H h h':=
 {λb c q _ _ _=>k b c q,λb c q _ _ _=>{c.slots,k b c q},λ_ _ _ n _=>n,λb c q _=>{c,k b c q},λ_ _ q=>q,λ_ _ _ q=>q,λ_ d q=>{#[],by rw[q];simp}}
def Un.refl:Un fs ex H H h h:=Un.kept λ_ _ q=>q
def Un.laid(k:∀b u,h.get? b*>u->h'.get? b*>u)(hp:h.objs.size<=a)(hn:H a=VE):Un fs ex H (upd H a o) h h' where
 keep:=λb u q _ _ _=>k b u q
 slot:=λb u q _ _ _=>{u.slots,k b u q}
 free:=λb u q n _=>by rw[upd_ne (J3 (Kc (Ol q) hp))];show n
 there:=λb u q _=>{u,k b u q}
 tups:=λb xs q=>by rw[upd_ne (bo q hn)];show q
 frzs:=λb u xs q=>by rw[upd_ne (bo q hn)];show q
 tbls:=λb ps q=>{#[],by rw[upd_ne (bo q hn),q];simp}
def Un.write(d:Mut (H x))(m:e=x\/H e*>(.own x))(k:∀b u,b≠e->h.get? b*>u->h'.get? b*>u)(f:∃u,h'.get? e*>u):Un fs ex H (upd H x o) h h':=by
 have i:∀b,H b=VE->b≠x:=λb n z=>by subst z;rw[n]at d;show d
 have j:∀b,H b=VE->b≠e:=λb n z=>by
  subst z;rcases m with r|r;show i b n r;rw[n]at r;cases r
 have g:∀b u,H b*>u->¬ Mut (VF u)->b≠x:=λb u q p z=>by subst z;rw[q]at d;show p d
 show{λb u q n _ _=>k b u (j b n) q,λb u q n _ _=>{u.slots,k b u (j b n) q},λb u q n _=>by rw[upd_ne (i b n)];show n,λb u q _=>?_,
  λb l q=>by rw[upd_ne (g b _ q λz=>z)];show q,λb u l q=>by rw[upd_ne (g b _ q λz=>z)];show q,λb s q=>{#[],by rw[upd_ne (g b _ q λz=>z),q];simp}}
 by_cases c:b=e;subst c;show f;show{u,k b u c q}
end
abbrev trk(h:Heap) (H:Hp):!Addr:=(Kk h.objs.size).filter λa=>(H a).isSome
abbrev oo(h:Heap) (H:Hp):Heap:=PySem.W.hideAll h (trk h H)
def uN(h:Heap)(H:Hp):(oo h H).objs.size=h.objs.size:=PySem.W.hideAll_size _ _
def wZ{h:Heap}{H:Hp}{b:Addr}{o:Obj}(e:h.get? b*>o)(n:H b=VE):(oo h H).get? b*>o:=
 PySem.W.hideAll_get _ e λa=>by
  have q:(H b).isSome=VH:=(JX.mp a).2;rw[n]at q;simp at q
def AU{h:Heap}{H:Hp}{b:Addr}{o:Obj}(e:(oo h H).get? b*>o):h.get? b*>o/\H b=VE:=by
 have a:h.get? b*>o:=PySem.W.of_hideAll (trk h H) e;show{a,?_};cases q:H b with
 | none=>rfl
 | some x=>
  have c:b∈trk h H:=JX.mpr {Lk.mpr (Ol a),by simp[q]};have z:(oo h H).get? b=VE:=PySem.W.hideAll_none (trk h H) c;rw[z]at e;cases e
abbrev Al(g h:Heap) (L:Addr):!(Addr×Obj):=(Kk h.objs.size).filterMap λa=>if a=L\/(g.get? a).isSome=VH then VE else(h.get? a).map λo=>(a,o)
abbrev rest(g h:Heap) (L d:Addr):!(Addr×Obj):=(Al g h L).filter λp=>decide (p.1≠d)
structure Mod(K:yF)(mg:Str->↑Od)(base:Heap):Prop where
 kin:K.In base
 glob:base.Ns Ou mg
 blt:∃mb,base.Ns To mb/\∀x:Str,x ≠ "__name__" -> mb x=PZ x
 nolimit:base.NoLimit
structure Cx where
 prog:Os
 w:Ox
 K:yF
 mg:Str->↑Od
 base:Heap
 A:Oz
 N:!Str
 s₀ : Og
 H₀ : Hp
 env:Env
 outer:!Env
 stack:!Env
 ex:!Addr
 fn:Str->Bool
 calm:Bool
 pn:!(Addr×Obj)
 xe:Od->Og->Prop
abbrev frs(l:!Env):!Addr:=l.filterMap (·.frame)
noncomputable abbrev Cx.fs(X:Cx):!Addr:=frs X.outer
abbrev Vis(a:QV)(x:Str):Prop:=a.names.lookup x*>.local\/a.names.lookup x*>.cell\/a.names.lookup x*>.free
abbrev Loc(a:QV)(x:Str):Prop:=a.names.lookup x*>.local\/a.names.lookup x*>.cell
abbrev Gy(env:Env)(h:Heap)(m:Str->↑Od)(x:Str)(u:Od):Prop:=
 (env.kindOf x*>.local/\m x*>u)\/((env.kindOf x*>.cell\/env.kindOf x*>.free)/\∃c,env.cells.lookup x*>c/\h.IsCell c (VF u))
structure Cx.Ok(X:Cx):Prop where
 mod:Mod X.K X.mg X.base
 kind:X.env.scope.kind=.function
 glob:X.env.globals=Ou
 blt:X.env.builtins=To
 above:X.s₀.heap.objs.size<=X.env.locals
 inj:∀x y c,X.env.cells.lookup x*>c->X.env.cells.lookup y*>c->x=y
 has:∀x,(X.env.kindOf x*>.cell\/X.env.kindOf x*>.free)->∃c,X.env.cells.lookup x*>c
 cab:∀x c,X.fn x=VH->X.env.cells.lookup x*>c->X.s₀.heap.objs.size<=c
 hd:X.calm=VH->X.A.handled=VE
 gd:X.calm=VH->X.A.guards=VF []
 frames:X.A.frames*>X.stack
 stk:X.stack=X.outer\/(X.stack=X.env::X.outer/\X.env.frame*>X.env.locals)
 exf:∀b∈X.ex,b≠X.env.locals/\∀x c,X.env.cells.lookup x*>c->c≠b
 bs:∀b o,X.base.get? b*>o->X.s₀.heap.get? b*>o/\X.H₀ b=VE
 bsz:X.base.objs.size<=X.s₀.heap.objs.size
 noex:∀b o,X.base.get? b*>o->b∉X.ex
 exfs:∀b∈X.ex,b∉X.fs
 funs:X.s₀.heap.FunFrames X.base X.outer
 frf:∀b∈X.fs,X.H₀ b=VE
structure Inv(X:Cx)(OK:!(Addr×Obj))(Z:! ↑V)(H:Hp)(s:Og):Prop where
 ok:X.Ok
 os:s.os=X.s₀.os
 bare:RP s.gens
 base:Un X.fs X.ex X.H₀ H X.s₀.heap s.heap
 loc:∃m,s.heap.Ns X.env.locals m/\∀(i:Nat) (x:Str) (v:V),X.N[i]?*>x->Z[i]?*>(VF v)->Vis X.env.scope x->∃u,RelV v u/\Gy X.env s.heap m x u
 cell:∀x c,X.env.cells.lookup x*>c->∃v,s.heap.IsCell c v
 free:H X.env.locals=VE
 freeC:∀x c,X.env.cells.lookup x*>c->H c=VE
 pin:∀p∈X.pn++OK,s.heap.get? p.1*>p.2/\H p.1=VE/\p.1≠X.env.locals/\p.1∉X.fs/\∀v,p.2.data ≠ .cell v
 hok:HOk X.prog X.w H s.heap
 len:Z.length=X.N.length
section
variable {X:Cx}{OK:!(Addr×Obj)}{Z:! ↑V}{H H':Hp}{s:Og}{h':Heap}
def Cx.Ok.nofr(a:X.Ok){b:Addr}{o:Obj}(e:X.base.get? b*>o):b∉X.fs:=λc=>by
 have:=(a.funs.mem c).1;rw[e]at this;cases this
def Inv.bs(I:Inv X OK Z H s):∀b o,X.base.get? b*>o->s.heap.get? b*>o/\H b=VE:=λb o e=>
 {I.base.keep b o (I.ok.bs b o e).1 (I.ok.bs b o e).2 (I.ok.nofr e) (I.ok.noex b o e),I.base.free b o (I.ok.bs b o e).1 (I.ok.bs b o e).2 (I.ok.noex b o e)}
def Inv.bk(I:Inv X OK Z H s):∀b o,X.base.get? b*>o->s.heap.get? b*>o:=λb o e=>(I.bs b o e).1
def Inv.mod(I:Inv X OK Z H s):Mod X.K X.mg X.base:=I.ok.mod
def Inv.kIn(I:Inv X OK Z H s):X.K.In s.heap:=I.ok.mod.kin.keeps I.bk
def Inv.fr(I:Inv X OK Z H s):∃m,Fr X.base X.env.locals s.heap m:=
 let ⟨m,a,_⟩:=I.loc
 {m,a,I.bk,Kg I.ok.bsz I.ok.above}
def Inv.lt(I:Inv X OK Z H s):X.env.locals<s.heap.objs.size:=let ⟨_,a,_⟩:=I.loc;a.lt
def Inv.sz(I:Inv X OK Z H s):X.s₀.heap.objs.size<=s.heap.objs.size:=Kg I.ok.above (Mn I.lt)
def Inv.nofs(I:Inv X OK Z H s){a:Addr}(h:s.heap.objs.size<=a):a∉X.fs:=λc=>by
 have(_,o,d,_):=I.ok.funs.mem c;show absurd (Kc (Ol d) (Kg I.sz h)) (Lh _)
def Inv.cne(I:Inv X OK Z H s):∀x c,X.env.cells.lookup x*>c->c≠X.env.locals:=λx c e z=>by
 have(v,o,f,g):=I.cell x c e;obtain⟨m,⟨h,i,j,a,d,_⟩,_⟩:=I.loc;rw[z,a]at f;cases f;rw[d]at g;cases g
def Inv.funs(I:Inv X OK Z H s):s.heap.FunFrames X.base X.outer:=by
 have all:∀(l:!Env),(∀b∈frs l,b∈X.fs)->X.s₀.heap.FunFrames X.base l->s.heap.FunFrames X.base l:=by
  intro l
  induction l with
  | nil=>intro _ _;trivial
  | cons p r k=>
   intro f i;obtain⟨g,⟨L,o,a,h,q,m⟩,j⟩:=i;have c:L∈X.fs:=f L (by unfold frs;rw[Kf,a];show ymS);have(t,e):=I.base.slot L o q (I.ok.frf L c) c λz=>I.ok.exfs L z c;show{g,{L,_,a,h,e,m},k (λb d=>f b (by unfold frs;rw[Kf,a];show ymC _ d)) j}
 show all X.outer (λ_ d=>d) I.ok.funs
def Inv.stack(I:Inv X OK Z H s):s.heap.FunFrames X.base X.stack:=by
 rcases I.ok.stk with e|⟨e,c⟩;rw[e];show I.funs
 .rw[e];have(m,a,_):=I.loc;show .cons (by rw[I.ok.kind];decide) c a ?_ I.funs;show Heap.get?_none_of_le (Kg I.ok.bsz I.ok.above)
def Inv.stkSub(I:Inv X OK Z H s):∀b∈frs X.stack,b∈X.env.locals::X.fs:=λb a=>by
 rcases I.ok.stk with e|⟨e,c⟩;rw[e]at a;show ymC _ a
 .rw[e]at a;unfold frs at a;rw[Kf,c]at a;show a
def Inv.stkFree(I:Inv X OK Z H s):∀b∈frs X.stack,H b=VE:=λb a=>by
 rcases ycM (I.stkSub b a)with e|a;rw[e];show I.free
 .have(_,o,c,_):=I.ok.funs.mem a;show I.base.free b o c (I.ok.frf b a) λz=>I.ok.exfs b z a
def Inv.step{g':Array UA}{t':Nat}{d':Drawn}{ch:!Addr}(I:Inv X OK Z H s)
  (f:∀b∈ch,(b∈X.ex\/X.s₀.heap.objs.size<=b)/\b≠X.env.locals/\(∀x c,X.env.cells.lookup x*>c->c≠b)/\∀p∈X.pn++OK,p.1≠b)
  (h:∀b o,b≠X.env.locals->b∉X.fs->b∉ch->s.heap.get? b*>o->H b=VE->h'.get? b*>o)
  (A:∀b o,b≠X.env.locals->b∈X.fs->b∉ch->s.heap.get? b*>o->H b=VE->∃sl,h'.get? b=VF {o with slots:=sl}) (free:∀b o,b∉ch->s.heap.get? b*>o->H b=VE->H' b=VE)
  (B:∀b o,b∉ch->s.heap.get? b*>o->∃J,h'.get? b*>J)
  (N:∀b xs,H b*>(.tup xs)->H' b*>(.tup xs)) (L:∀b o u,H b*>(.frz o u)->H' b*>(.frz o u)) (O:∀b ps,H b*>(.tbl ps)->∃K,H' b*>(.tbl (ps++K)))
  (ns:∀m,s.heap.Ns X.env.locals m->h'.Ns X.env.locals m) (P:HOk X.prog X.w H' h') (hg:RP g') :
  Inv X OK Z H' {s with heap:=h',gens:=g',drawn:=d',toks:=t'}:=by
 have G:∀b o,X.s₀.heap.get? b*>o->b≠X.env.locals:=λb o e=>J3 (Kc (Ol e) I.ok.above);have y:∀b o,X.s₀.heap.get? b*>o->b∉X.ex->b∉ch:=λb o e a C=>by
  rcases(f b C).1 with z|z;show a z;show absurd (Kc (Ol e) z) (Lh _)
 have g:∀x c,X.env.cells.lookup x*>c->∀v,s.heap.IsCell c v->h'.IsCell c v:=λx c e v ⟨o,E,Q⟩=>by
  have j:c∉ch:=λz=>(f c z).2.2.1 x c e rfl;by_cases hc:c∈X.fs
  .have(sl,q):=A c o (I.cne x c e) hc j E (I.freeC x c e);show{_,q,Q}
  .show{o,h c o (I.cne x c e) hc j E (I.freeC x c e),Q}
 show{I.ok,I.os,hg,{λb o e n C a=>?_,λb o e n C a=>?_,λb o e n a=>?_,λb o e a=>?_,λb xs e=>N b xs (I.base.tups b xs e),λb o xs e=>L b o xs (I.base.frzs b o xs e),λb ps e=>?_},?_,λx c e=>?_,?_,λx c e=>?_,λp hp=>?_,P,I.len};show h b o (G b o e) C (y b o e a) (I.base.keep b o e n C a) (I.base.free b o e n a)
 .have(sl,t):=I.base.slot b o e n C a;have(U,M):=A b _ (G b o e) C (y b o e a) t (I.base.free b o e n a);show⟨U,M⟩
 .have(J,t):=I.base.there b o e a;show free b J (y b o e a) t (I.base.free b o e n a)
 .have(J,t):=I.base.there b o e a;show B b J (y b o e a) t
 .have(m1,t):=I.base.tbls b ps e;have(m2,M):=O b _ t;show{m1++m2,by rw[M,Array.append_assoc]}
 .have(m,hn,hl):=I.loc;show{m,ns m hn,λi x v t M e3=>?_};have(u,r,l):=hl i x v t M e3;show{u,r,?_};rcases l with l|⟨k,c,e,z⟩;show .inl l;show .inr {k,c,e,g x c e _ z}
 .have(v,z):=I.cell x c e;show{v,g x c e v z}
 .obtain⟨m,⟨o,_,_,E,_⟩,_⟩:=I.loc;show free _ o (λz=>(f _ z).2.1 rfl) E I.free
 .have(v,o,E,Q):=I.cell x c e;show free c o (λz=>(f c z).2.2.1 x c e rfl) E (I.freeC x c e)
 .have(e,n,ne,nf,d):=I.pin p hp;have j:p.1∉ch:=λz=>(f p.1 z).2.2.2 p hp rfl;show{h p.1 p.2 ne nf j e n,free p.1 p.2 j e n,ne,nf,d}
def Inv.un{t':Nat}(I:Inv X OK Z H s)(u:Un X.fs [] H H' s.heap h')(c:HOk X.prog X.w H' h'):Inv X OK Z H' {s with heap:=h',toks:=t'}:=by
 obtain⟨m,⟨o,v,x,i,r⟩,_⟩:=id I.loc;have(p,k):=u.any i I.free ∅;show I.step (g':=s.gens) (d':=s.drawn) (ch:=[]) (λ_ z=>nomatch z) (λb o _ g _ e n=>u.keep b o e n g ∅) (λb o _ g _ e n=>u.slot b o e n g ∅) (λb o _ e n=>u.free b o e n ∅) (λb o _ e=>u.there b o e ∅) u.tups u.frzs u.tbls (λq l=>by
  have(t,f,d,a,j):=l;rw[i]at a;cases a;show{_,f,d,k,j}) c I.bare
def Inv.call{g':Array UA}{t':Nat}{d':Drawn}{ch:!Addr}(I:Inv X OK Z H s)(u:Un (frs X.stack) ch H H' s.heap h')(g:HOk X.prog X.w H' h')(v:RP g')
  (f:∀b∈ch,(b∈X.ex\/X.s₀.heap.objs.size<=b)/\b≠X.env.locals/\(∀x c,X.env.cells.lookup x*>c->c≠b)/\∀p∈X.pn++OK,p.1≠b) :
  Inv X OK Z H' {s with heap:=h',gens:=g',drawn:=d',toks:=t'}:=by
 obtain⟨m,⟨o,E,G,l,r⟩,_⟩:=id I.loc;have(A,i):=u.any l I.free λz=>(f _ z).2.1 rfl;show I.step (ch:=ch) f (λb o i y a e n=>u.keep b o e n (λz=>(ycM (I.stkSub b z)).elim i y) a) (λb o _ _ a e n=>u.any e n a) (λb o a e n=>u.free b o e n a) (λb o a e=>u.there b o e a) u.tups u.frzs u.tbls (λB t=>by
  have(C,j,h,d,q):=t;rw[l]at d;cases d;show{_,j,h,i,q}) g v
def Inv.turned{t':Nat}{it:Addr}(I:Inv X OK Z H s)(k:∀b o,b≠it->s.heap.get? b*>o->h'.get? b*>o)(j:H it=VE)(g:it≠X.env.locals)
  (l:it∈X.ex\/X.s₀.heap.objs.size<=it) (h:∀x c,X.env.cells.lookup x*>c->c≠it) (i:∀p∈X.pn++OK,p.1≠it):Inv X OK Z H {s with heap:=h',toks:=t'}:=by
 have d:∀b u,H b*>u->b≠it:=λb u e z=>by rw[z,j]at e;cases e
 show I.step (g':=s.gens) (d':=s.drawn) (ch:=[it]) (λb A=>?_) (λb o _ _ a e _=>k b o (λz=>a (by simp[z])) e) (λb o _ _ a e _=>{o.slots,k b o (λz=>a (by simp[z])) e}) (λ_ _ _ _ n=>n)
  (λb o a e=>{o,k b o (λz=>a (by simp[z])) e}) (λ_ _ e=>e) (λ_ _ _ e=>e) (λb C e=>{#[],by rw[e];simp}) (λm t=>?_) (λb u e=>?_) I.bare
 .have e:b=it:=by exists A
  subst e;show⟨l,g,h,i⟩
 .have(o,w,y,B,r):=t;show{o,w,y,k _ o (Ot g) B,r}
 .show(I.hok b u e).stay (λc v a q=>k c v ?_ q) (λ_ q=>q) λ_ _ q=>q;rcases a with z|z;rw[z];show d b u e;show d c _ z
def Inv.tok(I:Inv X OK Z H s)(t:Nat):Inv X OK Z H {s with toks:=t}:=I.un (h':=s.heap) (t':=t) Un.refl I.hok
def Inv.kept{t':Nat}(I:Inv X OK Z H s)(k:∀b u,s.heap.get? b*>u->h'.get? b*>u):Inv X OK Z H {s with heap:=h',toks:=t'}:=I.un (Un.kept k) (I.hok.kept k)
def Inv.laid{a:Addr}{o:HO}{t':Nat}(I:Inv X OK Z H s)(k:∀b u,s.heap.get? b*>u->h'.get? b*>u)(hp:s.heap.objs.size<=a)(new:Pe X.prog X.w (upd H a o) h' a o) :
  Inv X OK Z (upd H a o) {s with heap:=h',toks:=t'}:=I.un (Un.laid k hp (I.hok.fresh hp)) (I.hok.laid k hp new)
def Inv.write{x e:Addr}{o:HO}{t':Nat}(I:Inv X OK Z H s)(c:Mut (H x))(d:e=x\/H e*>(.own x))(k:∀b u,b≠e->s.heap.get? b*>u->h'.get? b*>u)(a:∃u,h'.get? e*>u)
  (new:Pe X.prog X.w (upd H x o) h' x o):Inv X OK Z (upd H x o) {s with heap:=h',toks:=t'}:=I.un (Un.write c d k a) (I.hok.write c d k a new)
def Inv.weak{c:! ↑V}(I:Inv X OK Z H s)(g:c.length=Z.length)(w:∀(i:Nat) v,c[i]?*>(VF v)->Z[i]?*>(VF v)):Inv X OK c H s:=
 {I.ok,I.os,I.bare,I.base,let ⟨m,f,a⟩:=I.loc;{m,f,λi x v h d e=>a i x v h (w i v d) e},I.cell,I.free,I.freeC,I.pin,I.hok,g.trans I.len}
def Inv.pins_of{a:!(Addr×Obj)}(I:Inv X OK Z H s)(h:∀p∈a,s.heap.get? p.1*>p.2/\H p.1=VE/\p.1≠X.env.locals/\p.1∉X.fs/\∀v,p.2.data ≠ .cell v):Inv X a Z H s:=
 {I.ok,I.os,I.bare,I.base,I.loc,I.cell,I.free,I.freeC,λp c=>(yaM c).elim (λz=>I.pin p (yaL _ z)) (h p),I.hok,I.len}
def jD{N:!Str}(c:N.Nodup){i j:Nat}{x:Str}(a:N[i]?*>x)(b:N[j]?*>x):i=j:=by
 have(g,e):=JJ.mp a;have(f,d):=JJ.mp b;show(List.getElem_inj c).mp (e.trans d.symm)
def nD{M:Ve}{A:Oz}{E:Od->Og->Prop}{i:Nat}{x:Str}{v:V}{u:Od}{Q:Unit->Og->Prop}(I:Inv X OK Z H s)(hN:X.N.Nodup)(hi:X.N[i]?*>x)(B:Loc X.env.scope x)(r:RelV v u)
  (h:∀s',Inv X OK (Z.set i (VF v)) H s'->(∃a,OI a s.heap s'.heap/\(a=X.env.locals\/X.env.cells.lookup x*>a))->Q () s') (hf:X.fn x=VH\/X.env.scope.names.lookup x*>.local:=by first|show .inl rfl|show .inr rfl|assumption):Oh M A (storeName X.env x u) Q E s:=by
 have(m,hn,hl):=id I.loc;have Y:(X.env.scope.kind == .class||(X.env.scope.kind == .module&&X.env.locals != X.env.globals))=VG:=by rw[I.ok.kind];rfl
 have hiZ:i<Z.length:=by rw[I.len];show(JJ.mp hi).1
 have K:=I.cne;have l:∀{a:Addr} {h':Heap},(∃o,s.heap.get? a*>o/\H a=VE)->OI a s.heap h'->HOk X.prog X.w H h':=λ{a h'} ha f b ob e=>by
  have(_,_,C):=ha;show(I.hok b ob e).stay (λc w' t q=>(f.2 c ?_).trans q) (λ_ q=>q) λ_ _ q=>q;rintro rfl;rcases t with rfl|t;rw[C]at e;cases e;rw[C]at t;cases t
 rcases B with J|J
 .show wpAny_storeName_local J hn (λh' hn' f=>?_) Y;have(oL,_,_,hoL,_):=id hn;show h _ {I.ok,I.os,I.bare,{λb o e n P B=>?_,λb o e n P B=>?_,I.base.free,λb o e B=>?_,I.base.tups,I.base.frzs,I.base.tbls},{_,hn',λj y v' g G e3=>?_},λy c e=>?_,I.free,I.freeC,λp hp=>?_,l ⟨oL,hoL,I.free⟩ f,by simpa using I.len} {_,f,.inl rfl};show(f.2 b (J3 (Kc (Ol e) I.ok.above))).trans (I.base.keep b o e n P B)
  .have(sl,g):=I.base.slot b o e n P B;show{sl,(f.2 b (J3 (Kc (Ol e) I.ok.above))).trans g}
  .have(o',g):=I.base.there b o e B;show{o',(f.2 b (J3 (Kc (Ol e) I.ok.above))).trans g}
  .by_cases O:j=i
   .subst O;rw[hi]at g;cases g;rw[KG hiZ]at G;cases G;show{u,r,.inl {J,by simp}}
   .rw[J4 (Ot O)]at G;have(u',r',q):=hl j y v' g G e3;show{u',r',?_};rcases q with⟨k,e⟩|⟨k,c,e,z⟩
    .show .inl {k,?_};have:y≠x:=λe=>O (jD hN g (e▸hi));simp[this,e]
    .show .inr {k,c,e,z.sameBut f (K y c e)}
  .have(w',z):=I.cell y c e;show{w',z.sameBut f (K y c e)}
  .have(e,n,ne,nf,d):=I.pin p hp;show{(f.2 p.1 ne).trans e,n,ne,nf,d}
 .have L:X.fn x=VH:=by
   rcases hf with z|z;show z;rw[z]at J;cases J
  have(c,t):=I.ok.has x (.inl J);have(w',z):=I.cell x c t;show wpAny_storeName_cell I.ok.kind J t z (λh' hc' f=>?_);have(oc,S,hocd):=id z;show h {s with heap:=h'} {I.ok,I.os,I.bare,{λb o e n P B=>?_,λb o e n P B=>?_,I.base.free,λb o e B=>?_,I.base.tups,I.base.frzs,I.base.tbls},{m,hn.sameBut f (Ot (K x c t)),λj y v' g G e3=>?_},λy c' e=>?_,I.free,I.freeC,λp hp=>?_,l {oc,S,I.freeC x c t} f,by simpa using I.len} {c,f,.inr t};show(f.2 b (J3 (Kc (Ol e) (I.ok.cab x c L t)))).trans (I.base.keep b o e n P B)
  .have(sl,g):=I.base.slot b o e n P B;show{sl,(f.2 b (J3 (Kc (Ol e) (I.ok.cab x c L t)))).trans g}
  .have(o',g):=I.base.there b o e B;show{o',(f.2 b (J3 (Kc (Ol e) (I.ok.cab x c L t)))).trans g}
  .by_cases O:j=i
   .subst O;rw[hi]at g;cases g;rw[KG hiZ]at G;cases G;show{u,r,.inr {.inl J,c,t,hc'}}
   .rw[J4 (Ot O)]at G;have(u',r',q):=hl j y v' g G e3;show{u',r',?_};rcases q with q|⟨k,c',e,z'⟩;show .inl q
    .show .inr {k,c',e,z'.sameBut f ?_};rintro rfl;show O (jD hN g (I.ok.inj _ _ _ e t▸hi))
  .by_cases U:c'=c;subst U;show{_,hc'}
   .have(w2,z2):=I.cell y c' e;show{w2,z2.sameBut f U}
  .have(e,n,ne,nf,d):=I.pin p hp;show{(f.2 p.1 ?_).trans e,n,ne,nf,d};intro q;rw[q,S]at e;have q':oc=p.2:=Ke.inj e;show d w' (by rw[<-q'];show hocd)
def cv{M:Ve}{A:Oz}{E:Od->Og->Prop}{i:Nat}{x:Str}{v:V}{u:Od}{Q:Unit->Og->Prop}(I:Inv X OK Z H s)(c:X.N.Nodup)(f:X.N[i]?*>x)(g:Loc X.env.scope x)(r:RelV v u)
  (h:∀a,Inv X OK (Z.set i (VF v)) H a->Q () a) (e:X.fn x=VH\/X.env.scope.names.lookup x*>.local:=by first|show .inl rfl|show .inr rfl|assumption):Oh M A (storeName X.env x u) Q E s:=
 nD I c f g r (λa d _=>h a d) e
def Inv.call'{a:Og}{ch:!Addr}(I:Inv X OK Z H s)(l:a.os=s.os)(u:Un (frs X.stack) ch H H' s.heap a.heap)(d:HOk X.prog X.w H' a.heap)(j:RP a.gens)
  (f:∀b∈ch,(b∈X.ex\/X.s₀.heap.objs.size<=b)/\b≠X.env.locals/\(∀x c,X.env.cells.lookup x*>c->c≠b)/\∀p∈X.pn++OK,p.1≠b):Inv X OK Z H' a:=by
 have(h',i,g,h,k):=a;have e:k=s.os:=l;subst e;show I.call (g':=i) (t':=h) (d':=g) u d j f
end
protected def XK:=Od->↑Addr->Hp->Prop
protected def St:=! ↑V
protected def VK:=V->Hp->Prop
protected def TE:=St->Hp->VK->Prop
protected def TT:=St->Hp->(Bool->Hp->Prop)->Prop
protected def TA:=St->Hp->(!V->Hp->Prop)->Prop
structure Pw where
 nx:St->Hp->Prop
 rt:VK
 bk:St->Hp->Prop:=λ_ _=>False
 ct:St->Hp->Prop:=λ_ _=>False
protected def TS:=Pw->St->Hp->Prop
abbrev EP(X:Cx)(d:!(Addr×Obj))(Z:St)(Q:VK)(u:Od)(c:Og):Prop:=∃v a,Inv X d Z a c/\RelV v u/\Q v a
abbrev TP(X:Cx)(d:!(Addr×Obj))(Z:St)(Q:Bool->Hp->Prop)(b:Bool)(c:Og):Prop:=∃a,Inv X d Z a c/\Q b a
abbrev AP(X:Cx)(d:!(Addr×Obj))(Z:St)(Q:!V->Hp->Prop)(us:!Od)(c:Og):Prop:=∃vs a,Inv X d Z a c/\Vals vs us/\Q vs a
abbrev SP(X:Cx)(e:!(Addr×Obj))(D:Pw)(f:Flow)(d:Og):Prop:=
 match f with
 | .next=>∃c a,Inv X e c a d/\D.nx c a
 | .brk=>∃c a,Inv X e c a d/\D.bk c a
 | .cont=>∃c a,Inv X e c a d/\D.ct c a
 | .ret u=>∃v c a,Inv X e c a d/\RelV v u/\D.rt v a
abbrev PE(X:Cx)(e:Expr)(t:TE):Prop:=
 ∀(a:!(Addr×Obj)) (s:Og) (Z:St) (H:Hp) (Q:VK),Inv X a Z H s->t Z H Q->Oh (Om X.prog X.w) X.A (eval e X.env) (EP X a Z Q) X.xe s
abbrev PT(X:Cx)(e:Expr)(t:TT):Prop:=
 ∀(a:!(Addr×Obj)) (s:Og) (Z:St) (H:Hp) (Q:Bool->Hp->Prop),Inv X a Z H s->t Z H Q->Oh (Om X.prog X.w) X.A (SN e X.env (eval e X.env)) (TP X a Z Q) X.xe s
abbrev PW(X:Cx)(e:Expr)(t:TT):Prop:=
 ∀(a:Sem Od) (c:!(Addr×Obj)) (s:Og) (Z:St) (H:Hp) (Q:Bool->Hp->Prop),Inv X c Z H s->t Z H Q->Oh (Om X.prog X.w) X.A (SN e X.env a) (TP X c Z Q) X.xe s
def PW.pt{X:Cx}{e:Expr}{t:TT}(h:PW X e t):PT X e t:=h _
abbrev PA(X:Cx)(d:!Expr)(t:TA):Prop:=
 ∀(a:Pos) (c:!(Addr×Obj)) (s:Og) (Z:St) (H:Hp) (Q:!V->Hp->Prop),Inv X c Z H s->t Z H Q->Oh (Om X.prog X.w) X.A (spliced (QJ a (OD d X.env))) (AP X c Z Q) X.xe s
abbrev PS(X:Cx)(st:Stmt)(t:TS):Prop:=
 ∀(a:!(Addr×Obj)) (s:Og) (Z:St) (H:Hp) (D:Pw),Inv X a Z H s->t D Z H->Oh (Om X.prog X.w) X.A (exec st X.env) (SP X a D) X.xe s
abbrev PSs(X:Cx)(st:!Stmt)(t:TS):Prop:=
 ∀(a:!(Addr×Obj)) (s:Og) (Z:St) (H:Hp) (D:Pw),Inv X a Z H s->t D Z H->Oh (Om X.prog X.w) X.A (execs st X.env) (SP X a D) X.xe s
def thn{c:Type}{t:Sem c}{Q d : c->Og->Prop}{M:Ve}{A:Oz}{E:Od->Og->Prop}{s:Og}(h:Oh M A t Q E s)(e:∀a s,Q a s->d a s):Oh M A t d E s:=Ov h e λ_ _ x=>x
section
variable {X:Cx}
abbrev Cb(i:Nat):TE:=λZ H Q=>∃v,Z[i]?*>(VF v)/\Q v H
abbrev tC(v:V):TE:=λ_ H Q=>Q v H
def gZ{i:Nat}{x:Str}{pos:Pos}(o:X.N[i]?*>x)(y:Vis X.env.scope x)(j:(x==("__debug__" : Str))=VG:=by decide)(g:(x==("__classdict__" : Str))=VG:=by decide):PE X (.Name x pos) (Cb i):=by
 intro p s Z H Q I h;obtain⟨v,e,h⟩:=h;obtain⟨m,q,t⟩:=I.loc;obtain⟨u,r,l⟩:=t i x v o e y;have f:EP X p Z Q u s:=⟨v,H,I,r,h⟩;rcases l with⟨d,w⟩|⟨d,c,k,a⟩;show UB (wpAny_loadName_local I.ok.kind d q w f) j
 .rcases d with d|d;show UB (wpAny_loadName_cell I.ok.kind d k a f) j;show UB (wpAny_loadName_free I.ok.kind d k a f g) j
def xW{i j pos}:PE X (.Constant (.int i) j pos) (tC (.int i)):=λ_ _ _ H _ I h=>wpAny_Constant_int {.int i,H,I.tok _,{_,Xr},h}
def Hw{b j pos}:PE X (.Constant (.bool b) j pos) (tC (.bl b)):=λ_ _ _ H _ I h=>Constant_bool {.bl b,H,I,Xr,h}
def EO{j pos}:PE X (.Constant .none j pos) (tC .non):=λ_ _ _ H _ I h=>Constant_none {.non,H,I,Xr,h}
def ES{x j pos}:PE X (.Constant (.str x) j pos) (tC (.str x)):=λ_ _ _ H _ I h=>Calls.Constant_str {.str x,H,I.tok _,{_,Xr},h}
abbrev Gl(X:Cx)(x:Str):Prop:=X.env.kindOf x*>.globalImplicit
def ik{E:Od->Og->Prop}{c:!(Addr×Obj)}{s:Og}{Z:St}{H:Hp}{x:Str}{u:Od}{pos:Pos}{Q:Od->Og->Prop}(I:Inv X c Z H s)(e:Gl X x)(a:X.mg x*>u)(h:Q u s)
  (d:(x==("__debug__" : Str))=VG:=by decide):Oh (Om X.prog X.w) X.A (eval (.Name x pos) X.env) Q E s:=
 RU I.ok.kind e (Calls.loadGlobal_global (by rw[I.ok.glob];show I.mod.glob.keeps I.bk) a h) d
def gS{E:Od->Og->Prop}{c:!(Addr×Obj)}{s:Og}{Z:St}{H:Hp}{x:Str}{u:Od}{pos:Pos}{Q:Od->Og->Prop}(I:Inv X c Z H s)(j:Gl X x)(f:X.mg x=VE)(g:PZ x*>u)(h:Q u s)
  (d:x ≠ "__name__" :=by decide) (i:(x==("__debug__" : Str))=VG:=by decide):Oh (Om X.prog X.w) X.A (eval (.Name x pos) X.env) Q E s:=by
 have(k,e,a):=I.mod.blt;show RU I.ok.kind j (Calls.loadGlobal_builtin (by rw[I.ok.glob];show I.mod.glob.keeps I.bk) f (by rw[I.ok.blt];show e.keeps I.bk) ((a x d).trans g) h) i
def tN{x:Str}{v:V}{u:Od}{pos:Pos}(d:Gl X x)(a:X.mg x*>u)(r:RelV v u)(c:(x==("__debug__" : Str))=VG:=by decide):PE X (.Name x pos) (tC v):=
 λ_ _ _ H _ I h=>ik I d a ⟨v,H,I,r,h⟩ c
def kW{x:Str}{v:V}{u:Od}{pos:Pos}(f:Gl X x)(a:X.mg x=VE)(c:PZ x*>u)(r:RelV v u)(d:x ≠ "__name__" :=by decide)(e:(x==("__debug__" : Str))=VG:=by decide):PE X (.Name x pos) (tC v):=
 λ_ _ _ H _ I h=>gS I f a c ⟨v,H,I,r,h⟩ d e
variable {a b:Expr}{ta tb:TE}{pos:Pos}
abbrev PC(X:Cx)(f:UC)(a b:Expr)(t:TE):Prop:=
 ∀(e:!(Addr×Obj)) (s:Og) (Z:St) (H:Hp) (Q:VK),Inv X e Z H s->t Z H Q ->
  Oh (Om X.prog X.w) X.A (eval a X.env) (λv c=>Oh (Om X.prog X.w) X.A (eval b X.env) (λu d=>Oh (Om X.prog X.w) X.A (OQ f v u) (EP X e Z Q) X.xe d) X.xe c) X.xe s
abbrev tB(t:TE):TT:=λZ H Q=>t Z H λx d=>∃c,x=.bl c/\Q c d
def pt_cmp{f:UC}{t:TE}(h:PC X f a b t)(e:Qo f b=VG:=by first|show nobehind _ (by decide) (by decide)|rfl):PT X (.Compare a [f] [b] pos) (tB t):=by
 intro j s Z H Q I l;show SK (thn (h j s Z H _ I l) λv w e=>thn e λu p g=>thn g λc r ⟨x,i,k,m,o⟩=>?_) e;have(d,rfl,q):=o;cases m;show P9 ⟨i,k,q⟩
def E8{e:Expr}{t:TE}(h:PE X e t)(l:∀c,SN e X.env c=(do let v <-c;Qj e.pos;O7 [v] (UD v)):=by intro _;rfl):PT X e (tB t):=by
 intro g s Z H Q I j;show isTrue_plain (thn (h g s Z H _ I j) λv o ⟨x,f,i,k,m⟩=>?_) (l _);have(d,rfl,q):=m;cases k;show P9 ⟨f,i,q⟩
variable {tA tB':TT}{rest:!Expr}
abbrev Ix(t u:TT):TT:=λZ H Q=>t Z H λc d=>if c=VH then u Z d Q else Q VG d
abbrev tOr(t u:TT):TT:=λZ H Q=>t Z H λc d=>if c=VH then Q VH d else u Z d Q
abbrev IE(t:TT):TT:=λZ H Q=>t Z H λc d=>Q (~~~c) d
def Bs(d:PT X a tA):PW X (.BoolOp .And [a] pos) tA:=by
 intro g f s Z H Q I h;show isTrue_and (thn (d f s Z H Q I h) λc i e=>?_);cases c with
 | true=>show isTrue_and_nil e
 | false=>show e
def Fb(d:PT X a tA):PW X (.BoolOp .Or [a] pos) tA:=by
 intro g f s Z H Q I h;show isTrue_or (thn (d f s Z H Q I h) λc i e=>?_);cases c with
 | false=>show isTrue_or_nil e
 | true=>show e
def Fa(j:PT X a tA)(k:PW X (.BoolOp .And (b::rest) pos) tB'):PW X (.BoolOp .And (a::b::rest) pos) (Ix tA tB'):=by
 intro i e s Z H Q I h;show isTrue_and (thn (j e s Z H _ I h) λc l ⟨d,g,f⟩=>?_);cases c with
 | true=>show k i e l Z d Q g f
 | false=>show⟨d,g,f⟩
def HC(j:PT X a tA)(k:PW X (.BoolOp .Or (b::rest) pos) tB'):PW X (.BoolOp .Or (a::b::rest) pos) (tOr tA tB'):=by
 intro i e s Z H Q I h;show isTrue_or (thn (j e s Z H _ I h) λc l ⟨d,g,f⟩=>?_);cases c with
 | true=>show⟨d,g,f⟩
 | false=>show k i e l Z d Q g f
def E7(d:PT X a tA):PT X (.UnaryOp .Not a pos) (IE tA):=by
 intro f s Z H Q I h;show isTrue_not (d f s Z H (λc e=>Q (~~~c) e) I h)
abbrev Dc(ta tb:TE):TE:=λZ H Q=>ta Z H λx d=>∃c,x=.bl c/\if c=VH then tb Z d Q else Q (.bl VG) d
abbrev De(ta:TE):TE:=λZ H Q=>ta Z H λx d=>∃c,x=.bl c/\Q (.bl (~~~c)) d
def ER{op}{t:TE}(h:PE X a t):PE X (.BoolOp op [a] pos) t:=λc s Z H Q I d=>BoolOp_one (h c s Z H Q I d)
def EK(i:PE X a ta)(m:PE X (.BoolOp .And (b::rest) pos) tb):PE X (.BoolOp .And (a::b::rest) pos) (Dc ta tb):=by
 intro f s Z H Q I h;show BoolOp_and (thn (i f s Z H _ I h) λv j k=>?_);have(x,e,g,l,d):=k;have(c,rfl,d):=d;cases l;show P9 ?_;cases c with
 | true=>show m f j Z e Q g d
 | false=>show{.bl VG,e,g,Xr,d}
def EQ(e:PE X a ta):PE X (.UnaryOp .Not a pos) (De ta):=by
 intro g s Z H Q I h;show UnaryOp_ (thn (e g s Z H _ I h) λv l j=>?_);have(x,f,i,k,d):=j;have(c,rfl,d):=d;cases k;show not_of (P9 {.bl (~~~c),f,i,Xr,d})
abbrev tIf(t:TT)(ta tb:TE):TE:=λZ H Q=>t Z H λc d=>if c=VH then ta Z d Q else tb Z d Q
def xV{c:Expr}(m:PT X c tA)(k:PE X a ta)(l:PE X b tb):PE X (.IfExp c a b pos) (tIf tA ta tb):=by
 intro e s Z H Q I h;show wpAny_IfExp (thn (m e s Z H _ I h) λd i ⟨f,j,g⟩=>?_);cases d with
 | true=>show k e i Z f Q j g
 | false=>show l e i Z f Q j g
end
abbrev SqL(K:yF)(H:Hp)(a:Addr)(xs:!V):Prop:=
 Rd H a (.lst xs) \/
  ∃(o:Obj) (c:Array Od) (n:Nat),K.lookup a*>o/\o.cls=.type "list" /\ o.dict=VE/\o.data=.seq c n/\c.size<=sizeLine/\Vals xs c.toList
abbrev SqT(K:yF)(H:Hp)(a:Addr)(xs:!V):Prop:=
 Rd H a (.tup xs) \/
  ∃(o:Obj) (c:Array Od) (n:Nat),K.lookup a*>o/\(o.cls=.type "tuple" /\ o.dict=VE)/\o.data=.seq c n/\c.size<=sizeLine/\Vals xs c.toList
abbrev Je:Od->↑V
 | .none=>VF .non
 | .bool b=>VF (.bl b)
 | .int i _=>VF (.int i)
 | .str x _=>VF (.str x)
 | .bytes b _=>VF (.byt b)
 | .float b _=>VF (.flt b)
 | .ref a=>VF (.ref a)
 | .type n=>VF (.ty n)
 | _=>VE
def RelV.abs{x:V}{u:Od}(r:RelV x u):Je u*>x:=by
 cases x with
 | non=>cases r;rfl
 | bl _=>cases r;rfl
 | int _=>have(t,rfl):=r;rfl
 | str _=>have(t,rfl):=r;rfl
 | byt _=>have(t,rfl):=r;rfl
 | flt _=>have(t,rfl):=r;rfl
 | ref _=>cases r;rfl
 | ty _=>cases r;rfl
def RelV.inj{x y:V}{u:Od}(r:RelV x u)(q:RelV y u):x=y:=Ke.inj (r.abs.symm.trans q.abs)
def Vals.inj:∀{xs a:!V} {us:!Od},Vals xs us->Vals a us->xs=a:=by
 intro xs a us h k
 induction h generalizing a with
 | nil=>cases k;rfl
 | cons r t c=>
  cases k with
  | cons e d=>rw[r.inj e,c d]
section
variable {X:Cx}{OK:!(Addr×Obj)}{Z:St}{H:Hp}{s:Og}{a:Addr}{xs ys:!V}
def SqL.of{K:yF}(h:H a*>(.lst xs)):SqL K H a xs:=.inl (.inl h)
def SqT.of{K:yF}(h:H a*>(.tup xs)):SqT K H a xs:=.inl (.inl h)
def Inv.list(I:Inv X OK Z H s)(h:SqL X.K H a xs):∃c:!Od,Vals xs c/\PlainL s.heap a c.toArray/\xs.length<=sizeLine:=by
 rcases h with h|⟨o,c,n,d,i,g,f,j,r⟩
 .have(z,c,n,r,e):=h.ok I.hok;show{c,r,{_,n,e,Xr,Xr,Xr},z}
 .show{c.toList,r,{o,n,I.kIn a o d,i,g,by simpa using f},?_};have e:=r.length;dsimp[KY]at e
  lia
def Inv.tuple(I:Inv X OK Z H s)(h:SqT X.K H a xs):∃c:!Od,Vals xs c/\Ud s.heap a c.toArray/\xs.length<=sizeLine:=by
 rcases h with h|⟨o,c,n,d,g,f,i,r⟩
 .have(z,c,r,p):=h.ok I.hok;show⟨c,r,p.to,z⟩
 .show{c.toList,r,{o,I.kIn a o d,g.1,n,by simpa using f},?_};have e:=r.length;dsimp[KY]at e
  lia
def Inv.list_inj(I:Inv X OK Z H s)(h:SqL X.K H a xs)(h':SqL X.K H a ys):xs=ys:=by
 obtain⟨f,r,⟨o,n,e,_,_,d⟩,_⟩:=I.list h;obtain⟨c,k,⟨m,l,g,_,_,i⟩,_⟩:=I.list h';rw[e]at g;cases g;rw[d]at i;injection i with j _;have:f=c:=by simpa using congrArg NX j
 subst this;show r.inj k
def Inv.tuple_inj(I:Inv X OK Z H s)(h:SqT X.K H a xs)(h':SqT X.K H a ys):xs=ys:=by
 obtain⟨f,r,⟨o,e,_,n,d⟩,_⟩:=I.tuple h;obtain⟨c,k,⟨m,g,_,l,i⟩,_⟩:=I.tuple h';rw[e]at g;cases g;rw[d]at i;injection i with j _;have:f=c:=by simpa using congrArg NX j
 subst this;show r.inj k
end
noncomputable abbrev Cx.wish(X:Cx) (E:Od->Og->Prop):Cx:={X with xe:=E}
noncomputable abbrev Cx.nox(X:Cx):Cx:=X.wish λ_ _=>False
def Cx.Ok.wish{X:Cx}(a:X.Ok)(E:Od->Og->Prop):(X.wish E).Ok:=
 ⟨a.mod,a.kind,a.glob,a.blt,a.above,a.inj,a.has,a.cab,a.hd,a.gd,a.frames,a.stk,a.exf,a.bs,a.bsz,a.noex,a.exfs,a.funs,a.frf⟩
def Cx.Ok.unwish{X:Cx}{E:Od->Og->Prop}(a:(X.wish E).Ok):X.Ok:=
 ⟨a.mod,a.kind,a.glob,a.blt,a.above,a.inj,a.has,a.cab,a.hd,a.gd,a.frames,a.stk,a.exf,a.bs,a.bsz,a.noex,a.exfs,a.funs,a.frf⟩
section
variable {X:Cx}{OK:!(Addr×Obj)}{Z:St}{H:Hp}{s:Og}{E:Od->Og->Prop}
def Inv.wish(I:Inv X OK Z H s)(E:Od->Og->Prop):Inv (X.wish E) OK Z H s:={I.ok.wish E,I.os,I.bare,I.base,I.loc,I.cell,I.free,I.freeC,I.pin,I.hok,I.len}
def Inv.unwish(I:Inv (X.wish E) OK Z H s):Inv X OK Z H s:=⟨I.ok.unwish,I.os,I.bare,I.base,I.loc,I.cell,I.free,I.freeC,I.pin,I.hok,I.len⟩
def SP.unwish{D:Pw}{f:Flow}{d:Og}(h:SP (X.wish E) OK D f d):SP X OK D f d:=by
 cases f with
 | next=>have(c,a,I,q):=h;show⟨c,a,I.unwish,q⟩
 | brk=>have(c,a,I,q):=h;show⟨c,a,I.unwish,q⟩
 | cont=>have(c,a,I,q):=h;show⟨c,a,I.unwish,q⟩
 | ret u=>have(v,c,a,I,r,q):=h;show⟨v,c,a,I.unwish,r,q⟩
def PE.nox{e:Expr}{t:TE}(h:PE X.nox e t):PE X e t:=λOK s Z H Q I d=>
 Ov (h OK s Z H Q (I.wish _) d) (λ_ _ ⟨v,c,a,r,q⟩=>⟨v,c,a.unwish,r,q⟩) λ_ _ z=>OE z
def PT.nox{e:Expr}{t:TT}(h:PT X.nox e t):PT X e t:=λOK s Z H Q I d=>
 Ov (h OK s Z H Q (I.wish _) d) (λ_ _ ⟨c,a,q⟩=>⟨c,a.unwish,q⟩) λ_ _ z=>OE z
def PSs.nox{st:!Stmt}{t:TS}(h:PSs X.nox st t):PSs X st t:=λOK s Z H D I a=>
 Ov (h OK s Z H D (I.wish _) a) (λ_ _ q=>q.unwish) λ_ _ z=>OE z
end
section
variable {X:Cx}{st:Stmt}{rest:!Stmt}{t u:TS}{e:Expr}{te:TE}{pos:Pos}
abbrev Dd:TS:=λD Z H=>D.nx Z H
abbrev FP(t u:TS):TS:=λD Z H=>t {D with nx:=u D} Z H
def tQ:PSs X [] Dd:=λ_ _ Z H _ I h=>Qz ⟨Z,H,I,h⟩
def jG(j:PS X st t)(c:PSs X rest u):PSs X (st::rest) (FP t u):=by
 intro a s Z H D I h;show Si (thn (j a s Z H {D with nx:=u D} I h) λf k q=>?_);cases f with
 | next=>
  obtain⟨i,g,d,q⟩:=q;show c a k i g D d q
 | ret v=>show q
 | brk=>show q
 | cont=>show q
def kX(a:PS X st t):PSs X [st] t:=by
 intro c s Z H D I h;show Si (thn (a c s Z H D I h) λf d q=>?_);cases f with
 | next=>show Qz q
 | ret v=>show q
 | brk=>show q
 | cont=>show q
def Inv.quiet{a:!(Addr×Obj)}{Z:St}{H:Hp}{s:Og}(I:Inv X a Z H s):interactive X.env=VG:=by simp[interactive,I.ok.kind]
abbrev zG(te:TE):TS:=λD Z H=>te Z H λ_ a=>D.nx Z a
def oG(a:PE X e te)(hs:Ra e VE pos.line X.env=pure VG:=by rfl):PS X (.Expr e pos) (zG te):=by
 intro d s Z H D I h;show wpAny_Expr_any (thn (a d s Z H _ I h) λv j ⟨x,c,g,i,f⟩=>⟨Z,c,g,f⟩) I.quiet hs
abbrev IG(te:TE):TS:=λD Z H=>te Z H D.rt
def E4(c:PE X e te):PS X (.Return (VF e) pos) (IG te):=by
 intro f s Z H D I h;show wpAny_Return_some (thn (c f s Z H _ I h) λv j ⟨x,d,i,a,g⟩=>⟨x,Z,d,i,a,g⟩)
abbrev IC(c:TT)(t u:TS):TS:=λD Z H=>c Z H λb a=>if b=VH then t D Z a else u D Z a
def CS{c:Expr}{a b:!Stmt}{g:TT}(p:PT X c g)(m:PSs X a t)(o:PSs X b u):PS X (.If c a b pos) (IC g t u):=by
 intro f s Z H D I h;show wpAny_If (thn (p f s Z H _ I h) λd k ⟨i,j,l⟩=>?_);cases d with
 | true=>show m f k Z i D j l
 | false=>show o f k Z i D j l
abbrev FN:TS:=λ_ _ _=>False
def yA:PS X st FN:=λ_ _ _ _ _ _ h=>h.elim
end
protected def TG:=V->St->Hp->(St->Hp->Prop)->Prop
protected def TGs:=!V->St->Hp->(St->Hp->Prop)->Prop
abbrev PG(X:Cx)(a:Expr)(t:TG):Prop:=
 ∀(c:!(Addr×Obj)) (s:Og) (Z:St) (H:Hp) (v:V) (u:Od) (Q:St->Hp->Prop),Inv X c Z H s->RelV v u->t v Z H Q ->
  Oh (Om X.prog X.w) X.A (QD a X.env u) (λ_ f=>∃e d,Inv X c e d f/\Q e d) X.xe s
abbrev PGs(X:Cx)(ts:!Expr)(t:TGs):Prop:=
 ∀(c:!(Addr×Obj)) (s:Og) (Z:St) (H:Hp) (vs:!V) (a:!Od) (Q:St->Hp->Prop),Inv X c Z H s->Vals vs a->t vs Z H Q ->
  Oh (Om X.prog X.w) X.A (Q0 ((O9 ts X.env).map (·.2)) a) (λ_ f=>∃e d,Inv X c e d f/\Q e d) X.xe s
protected def Aj:=V->V->V->Hp->(Hp->Prop)->Prop
abbrev Dm(X:Cx)(t:Aj):Prop:=
 ∀(c:!(Addr×Obj)) (s:Og) (Z:St) (H:Hp) (o i v:V) (e a u:Od) (Q:Hp->Prop),Inv X c Z H s->RelV o e->RelV i a->RelV v u->t o i v H Q ->
  Oh (Om X.prog X.w) X.A (R8 e a u) (λ_ f=>∃d,Inv X c Z d f/\Q d) X.xe s
section
variable {X:Cx}{pos:Pos}
abbrev mV(i:Nat):TG:=λv Z H Q=>Q (Z.set i (VF v)) H
def Bb{i:Nat}{x:Str}(c:X.N.Nodup)(f:X.N[i]?*>x)(a:Loc X.env.scope x)(e:X.fn x=VH\/X.env.scope.names.lookup x*>.local:=by first|show .inl rfl|show .inr rfl|assumption):PG X (.Name x pos) (mV i):=by
 intro j s Z H v u Q I r h;show Tw (cv I c f a r (λg d=>{_,H,d,h}) e)
abbrev DK:TGs:=λvs Z H Q=>vs=[]/\Q Z H
abbrev wX(t:TG)(u:TGs):TGs:=λvs Z H Q=>∃v r,vs=v::r/\t v Z H λc a=>u r c a Q
def Bd:PGs X [] DK:=by
 intro c s Z H vs a Q I r h;obtain⟨e,h⟩:=h;subst e;cases r;show R9 ⟨Z,H,I,h⟩
def yb{e:Expr}{a:!Expr}{t:TG}{u:TGs}(k:PG X e t)(d:PGs X a u)
  (hs:(O9 (e::a) X.env).map (·.2)=QD e X.env::(O9 a X.env).map (·.2):=by rfl):PGs X (e::a) (wX t u):=by
 intro c s Z H vs p Q I r h;obtain⟨v,vr,i,h⟩:=h;subst i;cases r with
 | cons r g=>
  rw[hs];show Qe (thn (k c s Z H _ _ _ I r h) λ_ o ⟨l,f,j,m⟩=>?_);show d c o l f _ _ Q j g m
abbrev Az(K:yF)(n:Nat)(t:TGs):TG:=λv Z H Q=>∃a c,v=.ref a/\SqT K H a c/\c.length=n/\t c Z H Q
def ET{c:!Expr}{k:Nat}{t:TGs}{n:Nat}(C:X.calm=VH)(h:PGs X c t)
  (q:(O9 c X.env).length=n:=by rfl) (f:(O9 c X.env).findIdx? (·.1)=VE:=by rfl):PG X (.Tuple c k pos) (Az X.K n t):=by
 intro i s Z H v u Q I r d;obtain⟨a,l,w,m,p,d⟩:=d;subst w;cases r;obtain⟨A,g,x,E⟩:=I.tuple m;show assign_Tuple_tuple (I.ok.hd C) x (by simp[q,<-p,g.length]) f λB z=>?_;have y:Inv X i Z H {s with heap:=B}:=I.kept (t':=s.toks) λb o e=>z b o (J3 (Ol e)) e;show h i _ Z H l _ Q y (by exists g) d
abbrev DL(e a:TE)(t:Aj):TG:=λv Z H Q=>e Z H λo d=>a Z d λi c=>t o i v c λH3=>Q Z H3
def x8{o i:Expr}{g f:TE}{t:Aj}(z:PE X o g)(m:PE X i f)(hs:Dm X t)
  (k:∀v,QD (.Subscript o i pos) X.env v=(do
   let a <-O7 [v] (eval o X.env)
   let c <-O7 [v,a] (eval i X.env)
   Qj pos
   O7 [v,a,c] (R8 a c v)
   Uw [v,a,c] []):=by intro _;rfl):PG X (.Subscript o i pos) (DL g f t):=by
 intro d s Z H v u Q I r h;rw[k];show Oc (OA (thn (z d s Z H _ I h) λa w e=>?_));have(x,B,C,E,q):=e;show Oc (OA (thn (m d w Z B _ C q) λc G e=>?_));have(y,A,j,l,J):=e;show Oc (OZ (Oc (OA (thn (hs d G Z A x y v a c u _ j E l r J) λ_ L ⟨H3,p,K⟩=>?_))));show wpAny_release ⟨Z,H3,p,K⟩
abbrev Ca(c:TE)(g:TG):TS:=λD Z H=>c Z H λx a=>g x Z a D.nx
def EZ{a e:Expr}{d:TE}{g:TG}(o:PE X e d)(r:PG X a g)(hs:Q3 [a] e pos.line X.env=pure VG:=by rfl)(k:Q4 [a] e X.env=pure VE:=by rfl)
  (m:(O9 [a] X.env).map (·.2)=[QD a X.env]:=by rfl):PS X (.Assign [a] e pos) (Ca d g):=by
 intro c s Z H D I h;show wpAny_Assign_stores (thn (o c s Z H _ I h) λv j ⟨x,f,i,l,p⟩=>?_) hs k;rw[m];show thn (r c j Z f x v _ i l p) λ_ t q=>q
def E5{i:Nat}{x:Str}{e:Expr}{c:TE}{a:Pos}(f:X.N.Nodup)(o:X.N[i]?*>x)(m:Loc X.env.scope x)(q:PE X e c)(hs:Ra e (VF (.Name x a)) pos.line X.env=pure VG:=by rfl)(k:X.fn x=VH\/X.env.scope.names.lookup x*>.local:=by first|show .inl rfl|show .inr rfl|assumption) :
  PS X (.Assign [.Name x a] e pos) (Ca c (mV i)):=by
 intro j s Z H D I h;show Tx (thn (q j s Z H _ I h) λv t ⟨y,g,l,p,r⟩=>?_) hs;show cv l f o m p (λu d=>{_,g,d,r}) k
abbrev IF(i j:Nat)(c:TA):TS:=λD Z H=>c Z H λvs a=>∃v w,vs=[v,w]/\D.nx ((Z.set i (VF v)).set j (VF w)) a
def E3{i j:Nat}{x y:Str}{a b:Expr}{z:TA}{px py pt:Pos}{kt k2 pt2}(hc:X.calm=VH)(C:X.N.Nodup)(Q:X.N[i]?*>x)(hj:X.N[j]?*>y)(r:i≠j)
  (J:X.env.scope.names.lookup x*>.local) (K:X.env.scope.names.lookup y*>.local) (L:PA X [a,b] z)
  (S:Q4 [.Tuple [.Name x px,.Name y py] kt pt] (.Tuple [a,b] k2 pt2) X.env=pure (VF [x,y]))
  (hs:Q3 [.Tuple [.Name x px,.Name y py] kt pt] (.Tuple [a,b] k2 pt2) pos.line X.env=pure VG:=by rfl) :
  PS X (.Assign [.Tuple [.Name x px,.Name y py] kt pt] (.Tuple [a,b] k2 pt2) pos) (IF i j z):=by
 intro G s Z H D I h;rw[Uj];show Oc (OZ ?_);rw[hs];show Oc (Oe ?_);rw[if_neg (by decide)];show Oc (Tuple_ (thn (L _ G s Z H _ I h) λus d z9=>?_));have(vs,E,I1,r1,k):=z9;obtain⟨v,w,P,k⟩:=k;subst P;obtain⟨g,f,rfl,rv,m⟩:∃g f,us=[g,f]/\RelV v g/\RelV w f:=by
  cases r1 with
  | cons p q=>
   cases q with
   | cons Y q'=>
    cases q';show{_,_,Xr,p,Y}
 show OC ?_ (by change 2<=sizeLine;decide);have M:Inv X G Z E {d with heap:=d.heap.push {cls:=.type "tuple",data:=.seq [g,f].toArray}}:=I1.kept (t':=d.toks) λb o e=>Of _ e;rw[S];show Oc (Oe ?_);change Oh (Om X.prog X.w) X.A (do rule "assign.swapped-stores";let c <-Ue (.ref d.heap.objs.size) 2 VE;Q0 [λv=>QK X.env y v,λv=>QK X.env x v] c.reverse;pure TZ) _ _ _;show Oc (Qt (Oc (Tz (items:=#[g,f]) (I.ok.hd hc) (Vz d.heap _) λB l=>?_)));have U:=M.kept (h':=B) (t':=d.toks) λb o e=>l b o (J3 (Ol e)) e;change Oh _ _ (Q0 [λv=>QK X.env y v,λv=>QK X.env x v] [f,g] >>= λ_=>pure TZ) _ _ _;show Oc (Qe (QL (cv U C hj (.inl K) m (λs2 O=>?_) (.inr K))));show Qe (QL (cv O C Q (.inl J) rv (λs3 t=>R9 (Oe ?_)) (.inr J)));rw[Mx _ _ (Ot r)]at t;show{_,E,t,k}
end
section
variable {X:Cx}{pos:Pos}
abbrev zK(c:TT)(g:TS):TS:=λD Z H=>∃W:Nat->St->Hp->Prop,(∃m,W m Z H)/\∀m Z H,W m Z H ->
 c Z H λb d=>if b=VH then∃N:St->Hp->Prop,(∀f e,N f e->∃a,a<m/\W a f e)/\g {D with nx:=N,ct:=N,bk:=D.nx} Z d else D.nx Z d
def yC{c:Expr}{a:!Stmt}{x:TT}{C:TS}(hp:QU (Om X.prog X.w) X.A X.env X.xe)(L:PT X c x)(P:PSs X a C):PS X (.While c a [] pos) (zK x C):=by
 intro o s Z H D I h;obtain⟨W,⟨E,G⟩,e⟩:=h;show wpAny_While (codeAny_whileLoop (λn J=>∃t B,Inv X o t B J/\W n t B) ?_ E ⟨Z,H,I,G⟩);rintro n K ⟨g,z,M,w1⟩;show Qk hp (thn (L o K g z _ M (e n g z w1)) λb O ⟨y,r,i⟩=>?_);cases b with
 | true=>
  obtain⟨N,u,i⟩:=i;rw[if_pos rfl];show Qk hp (thn (P o O g y _ r i) λf Q j=>?_);cases f with
  | next=>
   have(d,H3,l,q):=j;have(k,p,m):=u d H3 q;show⟨k,p,d,H3,l,m⟩
  | cont=>
   have(d,H3,l,q):=j;have(k,p,m):=u d H3 q;show⟨k,p,d,H3,l,m⟩
  | brk=>show j
  | ret v=>show j
 | false=>
  rw[if_neg JU];show Qz ⟨g,y,r,i⟩
end
structure It where
 go:Nat->Hp->Prop
 yld:Nat->Hp->V->Hp->Prop
 stop:Nat->Hp->Prop
abbrev fZ(X:Cx)(a:!(Addr×Obj))(H:Hp)(b:Addr):Prop:=
 H b=VE/\b≠X.env.locals/\b∉X.fs/\(b∈X.ex\/X.s₀.heap.objs.size<=b)/\(∀x c,X.env.cells.lookup x*>c->c≠b)/\∀p∈X.pn++a,p.1≠b
def Inv.fpOk{X:Cx}{d:!(Addr×Obj)}{Z:St}{H H':Hp}{s:Og}{b:Addr}(I:Inv X d Z H s)(a:s.heap.objs.size<=b)(g:H' b=VE):fZ X d H' b:=by
 show{g,K7 (Kc I.lt a),I.nofs a,.inr (Kg I.sz a),λx c e z=>?_,λp f z=>?_}
 .have(v,q):=I.cell x c e;show absurd (Kc q.lt (by rw[z];show a)) (Lh _)
 .show absurd (Kc (Ol (I.pin p f).1) (by rw[z];show a)) (Lh _)
structure PJ(P:Os)(w:Ox)(K:yF)(tg:Expr)(J:It)(fp:!Addr)(it:Addr)(tn:Nat->Heap->Prop):Prop where
 mem:it∈fp
 obj:∀i h,tn i h->∀b∈fp,∃o,h.get? b*>o/\∀v,o.data ≠ .cell v
 keep:∀i h h',tn i h->(∀b∈fp,∀o,h.get? b*>o->h'.get? b*>o)->tn i h'
 item:∀(X:Cx),X.prog=P->X.w=w->X.K=K->X.calm=VH->∀(i:Nat) (OK:!(Addr×Obj)) (s:Og) (Z:St) (H:Hp) (E:Od->Og->Prop),Inv X OK Z H s->(∀b∈fp,fZ X OK H b)->tn i s.heap->J.go i H ->
  Oh (Om P w) X.A (Rc (.ref it)) (λr s1=>∃u,r*>u /\
   Oh (Om P w) X.A (P4 tg (.ref it) u) (λ_ s2=>∃x H',Inv X OK Z H' s2/\RelV x u/\J.yld i H x H'/\tn (i+1) s2.heap/\∀b∈fp,H' b=VE) E s1) E s
 done:∀(X:Cx),X.prog=P->X.w=w->X.K=K->X.calm=VH->∀(i:Nat) (OK:!(Addr×Obj)) (s:Og) (Z:St) (H:Hp) (E:Od->Og->Prop),Inv X OK Z H s->(∀b∈fp,fZ X OK H b)->tn i s.heap->J.stop i H ->
  Oh (Om P w) X.A (Rc (.ref it)) (λr s1=>r=VE/\Inv X OK Z H s1) E s
 self:∀(A:Oz) (i:Nat) (s:Og) (Q:Od->Og->Prop) (E:Od->Og->Prop),tn i s.heap->Q (.ref it) s->Oh (Om P w) A (Tp (.ref it)) Q E s
protected def TI:=St->Hp->(It->Hp->Prop)->Prop
abbrev PIE(X:Cx)(f:!(Addr×Obj))(Z:St)(h:Expr)(R:It->Hp->Prop)(a:Od)(g:Og):Prop:=
 ∃(it:Addr) (d:!Addr) (e:Nat->Heap->Prop) (J:It) (c:Hp),a=.ref it/\Inv X f Z c g/\PJ X.prog X.w X.K h J d it e/\e 0 g.heap/\(∀b∈d,fZ X f c b)/\R J c
abbrev PI(X:Cx)(c iter:Expr)(d:TI):Prop:=
 ∀(a:!(Addr×Obj)) (s:Og) (Z:St) (H:Hp) (R:It->Hp->Prop),Inv X a Z H s->d Z H R ->
  Oh (Om X.prog X.w) X.A (eval iter X.env) (λv e=>Oh (Om X.prog X.w) X.A (Tp v) (PIE X a Z c R) X.xe e) X.xe s
def tm{M:Ve}{A:Oz}{E:Od->Og->Prop}{s:Og}{c:Expr}{it:Addr}{u:Od}{o:Obj}{n:String}{vs:Array Od}{Q:Unit->Og->Prop}(g:s.heap.get? it*>o)(f:o.cls=.type n)(e:o.data=.fields vs)
  (d:["enumerate","zip","dict_itemiterator","dict_reverseitemiterator","odict_iterator","itertools.zip_longest","itertools.pairwise"].contains n=VG) (a:Q () s):Oh M A (P4 c (.ref it) u) Q E s:=by
 unfold P4;cases c<;>first
  | show Oe a
  | (cases u<;>first
    | show Oe a
    | (refine Oc (wpAny_load g ?_)
       rw[f,e];change Oh M A (if(["enumerate","zip","dict_itemiterator","dict_reverseitemiterator","odict_iterator","itertools.zip_longest","itertools.pairwise"].contains n&&vs[0]? == VF (Q8 _))=VH then _ else _) Q E s;rw[if_neg (by intro h;rw[d,NO]at h;cases h)];show Oe a))
abbrev Itl(K:yF) (a:Addr):It:=
 {λi H=>∃c x,SqL K H a c/\c[i]?*>x,λi H x d=>d=H/\∀c,SqL K H a c->c[i]?*>x,λi H=>∃c,SqL K H a c/\c.length<=i}
abbrev Itt(K:yF) (a:Addr):It:=
 {λi H=>∃c x,SqT K H a c/\c[i]?*>x,λi H x d=>d=H/\∀c,SqT K H a c->c[i]?*>x,λi H=>∃c,SqT K H a c/\c.length<=i}
abbrev Itr(lo:Int) (n:Nat):It:={λi _=>i<n,λi H x a=>a=H/\x=.int (lo+i),λi _=>n<=i}
def vP{P:Os}{w:Ox}{K:yF}{tg:Expr}(a it:Addr):PJ P w K tg (Itl K a) [it] it (λi h=>h.IsListIter it a i) where
 mem:=by simp
 obj:=λi h st b hb=>by
  have e:b=it:=by exists hb
  subst e;have(o,e,c,d):=st;show{o,e,λv z=>by rw[d]at z;cases z}
 keep:=λi h h' st k=>st.at λo e=>k it ∅ o e
 item:=by
  intro X hP hw hK hc i OK s Z H E I hf st hg;subst hP hw hK;have(xs,x,hq,hx):=hg;have(its,rv,p,hz):=I.list hq;have(u,hu,ru):=rv.get hx;have(f0,f1,f2,f3,f4,f5):=hf it ∅;show Re st p.isList (x:=u) (by exists hu) λh' st' sb=>?_;have I1:Inv X OK Z H {s with heap:=h'}:=I.turned (t':=s.toks) (λb o hb e=>(sb.2 b hb).trans e) f0 f1 f3 f4 f5;have(o,e,c,d):=id st';show{u,Xr,tm (s:={s with heap:=h'}) e c d (by decide) {x,H,I1,ru,{Xr,λys hy=>by rw[I.list_inj hy hq];show hx},st',λb hb=>(hf b hb).1}}
 done:=by
  intro X hP hw hK hc i OK s Z H E I hf st hg;subst hP hw hK;have(xs,hq,hx):=hg;have(its,rv,p,hz):=I.list hq;have(f0,f1,f2,f3,f4,f5):=hf it ∅;have hl:=rv.length;show Rl (I.ok.hd hc) st p.isList (by simp;lia) λh' eb=>{Xr,I.turned (t':=s.toks) (λb o hb e=>eb b o hb e) f0 f1 f3 f4 f5}
 self:=λ_ _ _ _ _ st h=>wpAny_pyIter_listiter st h
def sy{P:Os}{w:Ox}{K:yF}{tg:Expr}(a it:Addr):PJ P w K tg (Itt K a) [it] it (λi h=>h.IsTupleIter it a i) where
 mem:=by simp
 obj:=λi h st b hb=>by
  have e:b=it:=by exists hb
  subst e;have(o,e,c,d):=st;show{o,e,λv z=>by rw[d]at z;cases z}
 keep:=λi h h' st k=>st.at λo e=>k it ∅ o e
 item:=by
  intro X hP hw hK hc i OK s Z H E I hf st hg;subst hP hw hK;have(xs,x,hq,hx):=hg;have(its,rv,p,hz):=I.tuple hq;have(u,hu,ru):=rv.get hx;have(f0,f1,f2,f3,f4,f5):=hf it ∅;show Sj st (show s.heap.IsTuple a its.toArray from p) (x:=u) (by exists hu) λh' st' sb=>?_;have I1:Inv X OK Z H {s with heap:=h'}:=I.turned (t':=s.toks) (λb o hb e=>(sb.2 b hb).trans e) f0 f1 f3 f4 f5;have(o,e,c,d):=id st';show{u,Xr,tm (s:={s with heap:=h'}) e c d (by decide) {x,H,I1,ru,{Xr,λys hy=>by rw[I.tuple_inj hy hq];show hx},st',λb hb=>(hf b hb).1}}
 done:=by
  intro X hP hw hK hc i OK s Z H E I hf st hg;subst hP hw hK;have(xs,hq,hx):=hg;have(its,rv,p,hz):=I.tuple hq;have(f0,f1,f2,f3,f4,f5):=hf it ∅;have hl:=rv.length;show Sw (I.ok.hd hc) st (show s.heap.IsTuple a its.toArray from p) (by simp;lia) λh' eb=>{Xr,I.turned (t':=s.toks) (λb o hb e=>eb b o hb e) f0 f1 f3 f4 f5}
 self:=λ_ _ _ _ _ st h=>wpAny_pyIter_tupleiter st h
def sx{P:Os}{w:Ox}{K:yF}{tg:Expr}(it:Addr)(lo:Int)(n:Nat):PJ P w K tg (Itr lo n) [it] it (λi h=>IsRangeIter h it (lo+(i:Nat)*1) ((n:Int)-(i:Nat)) 1) where
 mem:=by simp
 obj:=λi h st b hb=>by
  have e:b=it:=by exists hb
  subst e;show{_,st,λv z=>by
   have z':Data.fields _=Data.cell v:=z;cases z'}
 keep:=λi h h' st k=>k it ∅ _ st
 item:=by
  intro X hP hw hK hc i OK s Z H E I hf st hg;subst hP hw hK;have(f0,f1,f2,f3,f4,f5):=hf it ∅;have W:=Vv.range (prog:=X.prog) (w:=X.w) (I.ok.hd hc) it lo 1 n;show W.item i s _ _ hg st λv h' tk hv st' kk=>?_;have(t,rfl):=hv;have I1:Inv X OK Z H {s with heap:=h',toks:=tk}:=I.turned (λb o hb e=>kk b o (by exists hb) e) f0 f1 f3 f4 f5;show{_,Xr,tm (s:={s with heap:=h',toks:=tk}) (n:="range_iterator") st' rfl rfl (by decide) {.int (lo+i),H,I1,{t,?_},⟨Xr,Xr⟩,st',λb hb=>(hf b hb).1}};rw[Int.mul_one]
 done:=by
  intro X hP hw hK hc i OK s Z H E I hf st hg;subst hP hw hK;have(f0,f1,f2,f3,f4,f5):=hf it ∅;show wpAny_pyNext_range_end (I.ok.hd hc) st (by have:n<=i:=hg;lia) λh' eb=>{Xr,I.turned (t':=s.toks) (λb o hb e=>eb b o hb e) f0 f1 f3 f4 f5}
 self:=λ_ _ _ _ _ st h=>wpAny_pyIter_rangeiter st h
section
variable {X:Cx}{tg:Expr}
abbrev tq(K:yF)(e:TE):TI:=λZ H R=>e Z H λx c=>∃a,x=.ref a/\(∃d,SqL K c a d)/\R (Itl K a) c
abbrev AD(K:yF)(e:TE):TI:=λZ H R=>e Z H λx c=>∃a,x=.ref a/\(∃d,SqT K c a d)/\R (Itt K a) c
def Bf{l:Expr}{f:TE}(k:PE X l f):PI X tg l (tq X.K f):=by
 intro i s Z H R I h;show thn (k i s Z H _ I h) λv d m=>?_;have(x,g,c,r,u):=m;obtain⟨a,e,⟨y,j⟩,q⟩:=u;subst e;cases r;have(t,z,p,A):=c.list j;show QH p.isList ?_;show{d.heap.objs.size,[d.heap.objs.size],_,_,g,Xr,c.kept (t':=d.toks) λb o e=>Of _ e,vP a _,{_,Oq _ rfl,Xr,Xr},λb w=>?_,q};have e:b=d.heap.objs.size:=by exists w
 subst e;show c.fpOk (JQ _) (c.hok.fresh (JQ _))
def EV{l:Expr}{g:TE}(m:PE X l g):PI X tg l (AD X.K g):=by
 intro j s Z H R I h;show thn (m j s Z H _ I h) λv c r=>?_;have(x,i,d,t,u):=r;obtain⟨a,e,⟨y,k⟩,q⟩:=u;subst e;cases t;have(f,z,p,A):=d.tuple k;show RV (show c.heap.IsTuple a f.toArray from p) ?_;show{c.heap.objs.size,[c.heap.objs.size],_,_,i,Xr,d.kept (t':=c.toks) λb o e=>Of _ e,sy a _,{_,Oq _ rfl,Xr,Xr},λb w=>?_,q};have e:b=c.heap.objs.size:=by exists w
 subst e;show d.fpOk (JQ _) (d.hok.fresh (JQ _))
def qh{d:!(Addr×Obj)}{Z:St}{H:Hp}{s:Og}{R:It->Hp->Prop}{E:Od->Og->Prop}{lo a:Int}{t u v:Tok}{g:Nat}(I:Inv X d Z H s)(k : -(2^62)<=lo)(h:lo<2^62)(i : -(2^62)<=a)(m:a<2^62)
  (q:R (Itr lo (a-lo).toNat) H):Oh (Om X.prog X.w) X.A (Tp (.ref s.heap.objs.size)) (PIE X d Z tg R) E {s with heap:=s.heap.push {cls:=.type "range",data:=.fields #[.int lo t,.int a u,.int 1 v]},toks:=g}:=by
 show wpAny_pyIter_range (IsRange.new ..) (small_one k h i m) ?_;have f:Inv X d Z H {s with heap:=s.heap.push {cls:=.type "range",data:=.fields #[.int lo t,.int a u,.int 1 v]},toks:=g}:=I.kept λb o e=>Of _ e;show{(s.heap.push {cls:=.type "range",data:=.fields #[.int lo t,.int a u,.int 1 v]}).objs.size,[(s.heap.push {cls:=.type "range",data:=.fields #[.int lo t,.int a u,.int 1 v]}).objs.size],_,_,H,Xr,
  f.kept (t':=g) λb o e=>Of _ e,sx _ lo (a-lo).toNat,?_,λb p=>?_,q}
 .have j:lo+((0:Nat):Int)*1=lo:=by simp
  have l:(((a-lo).toNat:Nat):Int)-((0:Nat):Int)=UW lo a 1:=by rw[rangeSize_one];split<;>lia
  change IsRangeIter _ _ (lo+((0:Nat):Int)*1) ((((a-lo).toNat:Nat):Int)-((0:Nat):Int)) 1;rw[j,l];show Oq _ rfl
 .have e:b=(s.heap.push {cls:=.type "range",data:=.fields #[.int lo t,.int a u,.int 1 v]}).objs.size:=by exists p
  subst e;show f.fpOk (JQ _) (f.hok.fresh (JQ _))
abbrev CB(a:TA):TI:=λZ H R=>a Z H λvs c=>∃j:Int,vs=[.int j]/\-(2^62)<=j/\j<2^62/\R (Itr 0 j.toNat) c
abbrev CC(a:TA):TI:=λZ H R=>a Z H λvs c=>∃i j:Int,vs=[.int i,.int j]/\(-(2^62)<=i/\i<2^62/\-(2^62)<=j/\j<2^62)/\R (Itr i (j-i).toNat) c
def u9{a:Expr}{d:TA}{p pos:Pos}(u:Gl X "range")(m:X.mg "range" = VE)(f:PA X [a] d)(hs:OD [a] X.env=[(VG,eval a X.env)]:=by rfl):PI X tg (.Call (.Name "range" p) [a] [] pos) (CB d):=by
 intro g s Z H R I h;show Call_ (gS I u m boot_range (K6 (thn (f pos g s Z H _ I h) λv x ⟨vs,w,k,l,c⟩=>?_) hs rfl));obtain⟨j,e,c,o,q⟩:=c;subst e;cases l with
 | cons r i=>
  cases i;obtain⟨t,rfl⟩:=r;show call_range_1 (qh k (by lia) (by lia) c o (by exists q))
def vc{a b:Expr}{g:TA}{p pos:Pos}(y:Gl X "range")(v:X.mg "range" = VE)(k:PA X [a,b] g)(hs:OD [a,b] X.env=[(VG,eval a X.env),(VG,eval b X.env)]:=by rfl)(c:OD [b] X.env=[(VG,eval b X.env)]:=by rfl) :
  PI X tg (.Call (.Name "range" p) [a,b] [] pos) (CC g):=by
 intro l s Z H R I h;show Call_ (gS I y v boot_range (K6 (thn (k pos l s Z H _ I h) λB A ⟨vs,C,o,u,f⟩=>?_) (by rw[hs,c]) (by rw[c];rfl)));obtain⟨i,j,e,⟨f,x,z,w⟩,q⟩:=f;subst e;cases u with
 | cons r d=>
  cases d with
  | cons m d=>
   cases d;have(t,rfl):=r;have(E,rfl):=m;show call_range_2 (qh o f x z w q)
abbrev IA(h:TI)(g:TG)(k:TS):TS:=λD Z H=>h Z H λJ f=>∃W:Nat->Nat->St->Hp->Prop,(∃m,W 0 m Z f)/\∀i m Z H,W i m Z H ->
 (J.stop i H/\D.nx Z H)\/(J.go i H/\∃N:St->Hp->Prop,(∀c a,N c a->∃d,d<m/\W (i+1) d c a)/\∀x a,J.yld i H x a->g x Z a λj e=>k {D with nx:=N,ct:=N,bk:=D.nx} j e)
abbrev eK(a:!Addr) (h:Heap):!(Addr×Obj):=a.filterMap λb=>(h.get? b).map λo=>(b,o)
def iY{a:!Addr}{h:Heap}{b:Addr}{o:Obj}(c:b∈a)(e:h.get? b*>o):(b,o)∈eK a h:=KB.mpr {b,c,by rw[e];rfl}
def nt{a:!Addr}{h:Heap}{p:Addr×Obj}(hp:p∈eK a h):p.1∈a/\h.get? p.1*>p.2:=by
 have(b,d,e):=KB.mp hp;cases q:h.get? b with
 | none=>rw[q]at e;cases e
 | some o=>
  rw[q]at e;have c:(b,o)=p:=Ke.inj e;subst c;show⟨d,q⟩
def Inv.pinned{c:!(Addr×Obj)}{Z:St}{H:Hp}{s:Og}{a:!Addr}(I:Inv X c Z H s)(h:∀b∈a,fZ X c H b)(m:∀b∈a,∃o,s.heap.get? b*>o/\∀v,o.data ≠ .cell v):Inv X (c++eK a s.heap) Z H s:=
 I.pins_of λp k=>(yaM k).elim (λz=>I.pin p (yaR _ z)) λz=>by
  have(g,e):=nt z;have(j,l,i,_):=h p.1 g;have(o,f,d):=m p.1 g;rw[e]at f;cases f;show⟨e,j,l,i,d⟩
def Inv.unpinned{a pl:!(Addr×Obj)}{Z:St}{H:Hp}{s:Og}(I:Inv X (a++pl) Z H s):Inv X a Z H s:=I.pins_of λp c=>I.pin p (yaR _ (yaL _ c))
def yz{iter:Expr}{q:!Stmt}{wi:TI}{g:TG}{tb:TS}{pos:Pos}(hp:QU (Om X.prog X.w) X.A X.env X.xe)(hc:X.calm=VH)(hi:PI X tg iter wi)(hg:PG X tg g)(k:PSs X q tb)
  (hs:∀x,OJ iter X.env x=pure x:=by intro _;rfl):PS X (.For tg iter q [] pos) (IA wi g tb):=by
 intro y s Z H D I h;show wpAny_For (thn (hi y s Z H _ I h) λv s1 h1=>thn h1 λitv s2 h2=>?_) hs;obtain⟨it,G,tn,J,H2,e,I2,T,P,f2,W,⟨m0,w0⟩,E⟩:=h2;subst e;have l:∀{p:Hp},(∀b∈G,p b=VE)->∀b∈G,fZ X y p b:=λhn b k=>{hn b k,(f2 b k).2};show codeAny_forLoop_any (λn s'=>∃i B p,Inv X y B p s'/\tn i s'.heap/\(∀b∈G,p b=VE)/\W i n B p) ?_ m0 {0,Z,H2,I2,P,λb k=>(f2 b k).1,w0};rintro n s3 ⟨i,C,H3,I3,L,K,w3⟩;rcases E i n C H3 w3 with⟨O,qn⟩|⟨go,N,hN,step⟩
 .show Qk hp (thn (T.done X rfl rfl rfl hc i y s3 C H3 X.xe I3 (l K) L O) λr s4 ⟨S,I4⟩=>?_);subst S;show Qz ⟨C,H3,I4,qn⟩
 .show Qk hp (thn (T.item X rfl rfl rfl hc i y s3 C H3 X.xe I3 (l K) L go) λr s4 ⟨u,S,h4⟩=>?_);subst S;show Qk hp (thn h4 λ_ s5 z9=>?_);have(x,H5,I5,r5,y5,z,U):=z9;have Y:=I5.pinned (l U) (T.obj _ _ z);show Qk hp (thn (hg _ s5 C H5 x u _ Y r5 (step x H5 y5)) λ_ s6 ⟨Z6,H6,I6,q6⟩=>?_);show Qk hp (thn (k _ s6 Z6 H6 _ I6 q6) λf Q t=>?_);have again:∀{j:St} {a:Hp},Inv X (y++eK G s5.heap) j a Q->N j a->∃m,m<n/\∃i B p,Inv X y B p Q/\tn i Q.heap/\(∀b∈G,p b=VE)/\W i m B p:=λ{j a} c M=>by
   have(m',hm,w7):=hN j a M;show{m',hm,i+1,j,a,c.unpinned,T.keep _ _ _ z λb k o e=>(c.pin (b,o) (yaR _ (yaR _ (iY k e)))).1,λb k=>?_,w7};have(o,e,d):=T.obj _ _ z b k;show(c.pin (b,o) (yaR _ (yaR _ (iY k e)))).2.1
  cases f with
  | next=>have(j,a,c,M):=t;show again c M
  | cont=>have(j,a,c,M):=t;show again c M
  | brk=>obtain⟨j,a,c,t⟩:=t;show⟨j,a,c.unpinned,t⟩
  | ret v=>obtain⟨x7,j,a,c,r7,t⟩:=t;show⟨x7,j,a,c.unpinned,r7,t⟩
end
protected def R2:=V->V->Hp->VK->Prop
abbrev OpR(X:Cx)(f:Od->Od->Sem Od)(r:R2):Prop:=
 ∀(a:!(Addr×Obj)) (s:Og) (Z:St) (H:Hp) (x y:V) (v u:Od) (Q:VK),Inv X a Z H s->RelV x v->RelV y u->r x y H Q ->
  Oh (Om X.prog X.w) X.A (f v u) (EP X a Z Q) X.xe s
abbrev UnR(X:Cx)(f:Od->Sem Od)(r:V->Hp->VK->Prop):Prop:=
 ∀(a:!(Addr×Obj)) (s:Og) (Z:St) (H:Hp) (x:V) (v:Od) (Q:VK),Inv X a Z H s->RelV x v->r x H Q ->
  Oh (Om X.prog X.w) X.A (f v) (EP X a Z Q) X.xe s
abbrev Pi(X:Cx)(f:Od)(r:!V->Hp->VK->Prop):Prop:=
 ∀(d:!(Addr×Obj)) (s:Og) (Z:St) (H:Hp) (a:!V) (c:!Od) (Q:VK),Inv X d Z H s->Vals a c->r a H Q ->
  Oh (Om X.prog X.w) X.A (call f c) (EP X d Z Q) X.xe s
abbrev Jd(X:Cx)(r:V->Hp->(Bool->Hp->Prop)->Prop):Prop:=
 ∀(a:!(Addr×Obj)) (s:Og) (Z:St) (H:Hp) (x:V) (v:Od) (Q:Bool->Hp->Prop),Inv X a Z H s->RelV x v->r x H Q ->
  Oh (Om X.prog X.w) X.A (UD v) (TP X a Z Q) X.xe s
abbrev tOp(r:R2)(e d:TE):TE:=λZ H Q=>e Z H λx c=>d Z c λy a=>r x y a Q
abbrev tUn(r:V->Hp->VK->Prop)(a:TE):TE:=λZ H Q=>a Z H λx c=>r x c Q
abbrev rI(C:Int->Int->Prop)(g:Int->Int->V):R2:=λx y H Q=>∃i j,x=.int i/\y=.int j/\C i j/\Q (g i j) H
abbrev rI0(g:Int->Int->V):R2:=λx y H Q=>∃i j,x=.int i/\y=.int j/\Q (g i j) H
abbrev rU(g:Int->V):V->Hp->VK->Prop:=λx H Q=>∃i,x=.int i/\Q (g i) H
section
variable {X:Cx}{a b c:Expr}{ta tb tc:TE}{pos:Pos}
def Dr(m:PE X a ta)(E:PE X b tb){i:!(Addr×Obj)}{s:Og}{Z:St}{H:Hp}{R:V->V->Hp->Prop}(I:Inv X i Z H s)
  (h:ta Z H λx k=>tb Z k λy d=>R x y d) {Q:Od->Og->Prop} {f:Od->Od->Sem Od}
  (p:∀v u j x y d,Inv X i Z d j->RelV x v->RelV y u->R x y d->Oh (Om X.prog X.w) X.A (f v u) Q X.xe j) :
  Oh (Om X.prog X.w) X.A (eval a X.env) (λv e=>Oh (Om X.prog X.w) X.A (eval b X.env) (λu g=>Oh (Om X.prog X.w) X.A (f v u) Q X.xe g) X.xe e) X.xe s:=by
 show thn (m i s Z H _ I h) λv C l=>?_;have(x,k,r,t,z):=l;show thn (E i C Z k _ r z) λu j l=>?_;have(y,d,o,q,B):=l;show p v u j x y d o t q B
def CQ{d:Operator}{r:R2}(o:OpR X (PU d) r)(f:PE X a ta)(m:PE X b tb):PE X (.BinOp a d b pos) (tOp r ta tb):=by
 intro i s Z H Q I h;show wpAny_BinOp (Dr f m I h λv u k x y g e j l q=>o i k Z g x y v u Q e j l q)
def HA{e:UnaryOp}{r:V->Hp->VK->Prop}(i:UnR X (unaryOp e) r)(f:PE X a ta):PE X (.UnaryOp e a pos) (tUn r ta):=by
 intro d s Z H Q I h;show UnaryOp_ (thn (f d s Z H _ I h) λv l ⟨x,j,m,g,k⟩=>i d l Z j x v Q m g k)
def opI{f:Od->Od->Sem Od}{C:Int->Int->Prop}{g:Int->Int->Int}
  (rule:∀(i j:Int) (t u:Tok) (s:Og) (Q:Od->Og->Prop) (E:Od->Og->Prop),C i j->Q (.int (g i j) s.toks) {s with toks:=s.toks+1}->Oh (Om X.prog X.w) X.A (f (.int i t) (.int j u)) Q E s) :
  OpR X f (rI C λi j=>.int (g i j)):=by
 intro o s Z H x y v u Q I e k h;have(i,j,rfl,rfl,m,q):=h;have(t,rfl):=e;have(l,rfl):=k;show rule i j t l s _ _ m {.int (g i j),H,I.tok _,{_,Xr},q}
def G8{f:Od->Od->Sem Od}{g:Int->Int->Int}
  (rule:∀(i j:Int) (t u:Tok) (s:Og) (Q:Od->Og->Prop) (E:Od->Og->Prop),Q (.int (g i j) s.toks) {s with toks:=s.toks+1}->Oh (Om X.prog X.w) X.A (f (.int i t) (.int j u)) Q E s) :
  OpR X f (rI0 λi j=>.int (g i j)):=by
 intro m s Z H x y v u Q I e k h;have(i,j,rfl,rfl,q):=h;have(t,rfl):=e;have(l,rfl):=k;show rule i j t l s _ _ {.int (g i j),H,I.tok _,{_,Xr},q}
def Ed{f:Od->Od->Sem Od}{g:Int->Int->Bool}
  (rule:∀(i j:Int) (t u:Tok) (s:Og) (Q:Od->Og->Prop) (E:Od->Og->Prop),Q (.bool (g i j)) s->Oh (Om X.prog X.w) X.A (f (.int i t) (.int j u)) Q E s) :
  OpR X f (rI0 λi j=>.bl (g i j)):=by
 intro l s Z H x y v u Q I d e h;have(i,j,rfl,rfl,q):=h;have(t,rfl):=d;have(k,rfl):=e;show rule i j t k s _ _ {.bl (g i j),H,I,Xr,q}
abbrev Dk(i j:Int):Prop:=0<=j/\j<=1000000/\i.natAbs<2^64
abbrev PM(i j:Int):Prop:=(-(2^64)<i/\i<2^64)\/(-(2^64)<j/\j<2^64)
def PM.ok{i j:Int}(h:PM i j):IntMulOk i j:=by
 rcases h with⟨e,d⟩|⟨e,d⟩;show .of_left (intBits_le_64 e d);show .of_right (intBits_le_64 e d)
def op_add:OpR X (PU .Add) (rI0 λi j=>.int (i+j)):=G8 λ_ _ _ _ _ _ _ q=>add_int q
def Ep:OpR X (PU .Sub) (rI0 λi j=>.int (i-j)):=G8 λ_ _ _ _ _ _ _ q=>sub_int q
def op_mul:OpR X (PU .Mult) (rI PM λi j=>.int (i*j)):=opI λ_ _ _ _ _ _ _ d q=>mul_int q d.ok
def Ej:OpR X (PU .Mod) (rI (λ_ j=>0<j) λi j=>.int (i % j)):=opI λi j _ _ _ _ _ d q=>by
 have e:(0:Int)<j:=d;show mod_int' (by lia) (by rw[Int.fmod_eq_emod_of_nonneg i (by lia)];show q)
def Eo:OpR X (PU .Pow) (rI Dk λi j=>.int (i^j.toNat)):=opI λ_ _ _ _ _ _ _ d q=>pow_int_small d.1 d.2.1 d.2.2 q
def unI{f:Od->Sem Od}{g:Int->Int}
  (rule:∀(i:Int) (t:Tok) (s:Og) (Q:Od->Og->Prop) (E:Od->Og->Prop),Q (.int (g i) s.toks) {s with toks:=s.toks+1}->Oh (Om X.prog X.w) X.A (f (.int i t)) Q E s) :
  UnR X f (rU λi=>.int (g i)):=by
 intro j s Z H x v Q I e h;have(i,rfl,q):=h;have(t,rfl):=e;show rule i t s _ _ {.int (g i),H,I.tok _,{_,Xr},q}
def FX:UnR X (unaryOp .USub) (rU λi=>.int (-i)):=unI λ_ _ _ _ _ q=>neg_int q
end
abbrev zv:V->V->Bool
 | .non,.non=>VH|.non,.int _=>VH|.int _,.non=>VH|.non,.bl _=>VH|.bl _,.non=>VH|.non,.str _=>VH|.str _,.non=>VH
 | .int _,.int _=>VH|.bl _,.bl _=>VH|.str _,.str _=>VH|.byt _,.byt _=>VH
 | .int _,.str _=>VH|.str _,.int _=>VH|.bl _,.str _=>VH|.str _,.bl _=>VH
 | _,_=>VG
abbrev rEq:R2:=λx y H Q=>zv x y=VH/\Q (.bl (decide (x=y))) H
abbrev rNe:R2:=λx y H Q=>zv x y=VH/\Q (.bl (~~~decide (x=y))) H
def sP{i j:Int}:decide (V.int i=V.int j)=(i==j):=by
 rw[Lc];simp
def wv{i j:Bool}:decide (V.bl i=V.bl j)=(i==j):=by
 rw[Lc];simp
def sQ{i j:Str}:decide (V.str i=V.str j)=(i==j):=by
 rw[Lc];simp
def sO{i j:Array UInt8}:decide (V.byt i=V.byt j)=(i.toList==j.toList):=by
 rw[Lc];cases i;cases j;simp
section
variable {X:Cx}{a b c:Expr}{ta tb tc:TE}{pos:Pos}
def aS{d:!(Addr×Obj)}{Z:St}{H:Hp}{s:Og}{Q:VK}{k f:Bool}(I:Inv X d Z H s)(q:Q (.bl k) H)(e:k=f):EP X d Z Q (.bool f) s:=by
 subst e;show{.bl k,H,I,Xr,q}
def op_eq:OpR X (OQ .Eq) rEq:=by
 intro k s Z H x y v u Q I g d h;have(f,q):=h;cases x with
 | non=>
  cases g;cases y with
  | non=>cases d;show PySem.EqNone.eq_none_none (aS I q ∅)
  | bl j=>cases d;show PySem.EqNone.eq_none_bool (aS I q ∅)
  | int j=>have(e,rfl):=d;show PySem.EqNone.eq_none_int (aS I q ∅)
  | str j=>have(e,rfl):=d;show PySem.EqNone.eq_none_str (aS I q ∅)
  | _=>show absurd (show VG=VH from f) JU
 | bl i=>
  cases g;cases y with
  | non=>cases d;show PySem.EqNone.eq_bool_none (aS I q ∅)
  | bl j=>cases d;show eq_bool (aS I q wv)
  | str j=>have(e,rfl):=d;show PySem.EqMixed.eq_bool_str (aS I q ∅)
  | _=>show absurd (show VG=VH from f) JU
 | int i=>
  have(t,rfl):=g;cases y with
  | non=>cases d;show PySem.EqNone.eq_int_none (aS I q ∅)
  | int j=>have(e,rfl):=d;show eq_int (aS I q sP)
  | str j=>have(e,rfl):=d;show PySem.EqMixed.eq_int_str (aS I q ∅)
  | _=>show absurd (show VG=VH from f) JU
 | str i=>
  have(t,rfl):=g;cases y with
  | non=>cases d;show PySem.EqNone.eq_str_none (aS I q ∅)
  | bl j=>cases d;show PySem.EqMixed.eq_str_bool (aS I q ∅)
  | int j=>have(e,rfl):=d;show PySem.EqMixed.eq_str_int (aS I q ∅)
  | str j=>have(e,rfl):=d;show eq_str (aS I q sQ)
  | _=>show absurd (show VG=VH from f) JU
 | byt i=>
  have(t,rfl):=g;cases y with
  | byt j=>have(e,rfl):=d;show PySem.W.eq_bytes (aS I q sO)
  | _=>show absurd (show VG=VH from f) JU
 | _=>cases y<;>show absurd (show VG=VH from f) JU
def op_ne:OpR X (OQ .NotEq) rNe:=by
 intro k s Z H x y v u Q I g d h;have(f,q):=h;cases x with
 | non=>
  cases g;cases y with
  | non=>cases d;show PySem.EqNone.ne_none_none (aS I q ∅)
  | bl j=>cases d;show PySem.EqNone.ne_none_bool (aS I q ∅)
  | int j=>have(e,rfl):=d;show PySem.EqNone.ne_none_int (aS I q ∅)
  | str j=>have(e,rfl):=d;show PySem.EqNone.ne_none_str (aS I q ∅)
  | _=>show absurd (show VG=VH from f) JU
 | bl i=>
  cases g;cases y with
  | non=>cases d;show PySem.EqNone.ne_bool_none (aS I q ∅)
  | bl j=>cases d;show ne_bool (aS I q (congrArg not wv))
  | str j=>have(e,rfl):=d;show PySem.EqMixed.ne_bool_str (aS I q ∅)
  | _=>show absurd (show VG=VH from f) JU
 | int i=>
  have(t,rfl):=g;cases y with
  | non=>cases d;show PySem.EqNone.ne_int_none (aS I q ∅)
  | int j=>have(e,rfl):=d;show ne_int (aS I q (congrArg not sP))
  | str j=>have(e,rfl):=d;show PySem.EqMixed.ne_int_str (aS I q ∅)
  | _=>show absurd (show VG=VH from f) JU
 | str i=>
  have(t,rfl):=g;cases y with
  | non=>cases d;show PySem.EqNone.ne_str_none (aS I q ∅)
  | bl j=>cases d;show PySem.EqMixed.ne_str_bool (aS I q ∅)
  | int j=>have(e,rfl):=d;show PySem.EqMixed.ne_str_int (aS I q ∅)
  | str j=>have(e,rfl):=d;show ne_str (aS I q (congrArg not sQ))
  | _=>show absurd (show VG=VH from f) JU
 | byt i=>
  have(t,rfl):=g;cases y with
  | byt j=>have(e,rfl):=d;show PySem.W.ne_bytes (aS I q (congrArg not sO))
  | _=>show absurd (show VG=VH from f) JU
 | _=>cases y<;>show absurd (show VG=VH from f) JU
def Hb:OpR X (OQ .Lt) (rI0 λi j=>.bl (decide (i<j))):=Ed λ_ _ _ _ _ _ _ q=>lt_int q
def Ha:OpR X (OQ .Gt) (rI0 λi j=>.bl (decide (j<i))):=Ed λ_ _ _ _ _ _ _ q=>gt_int q
def G9:OpR X (OQ .GtE) (rI0 λi j=>.bl (decide (j<=i))):=Ed λ_ _ _ _ _ _ _ q=>ge_int q
def op_in_str:OpR X (OQ .In) (λx y H Q=>∃i j,x=.str i/\y=.str j/\Q (.bl (~~~(Qa j i 0 j.length 1).isEmpty)) H):=by
 intro f s Z H x y v u Q I d e h;have(i,j,rfl,rfl,q):=h;have(t,rfl):=d;have(g,rfl):=e;show in_str (aS I q rfl)
def AY:OpR X (OQ .IsNot) (λx y H Q=>y=.non/\Q (.bl (~~~decide (x=.non))) H):=by
 intro f s Z H x y v u Q I d e h;have(rfl,q):=h;cases e;show isnot_none_gen (aS I q ?_);cases x<;>first
  | (cases d;rfl)
  | (have(t,rfl):=d;rfl)
def OpR.or{f:Od->Od->Sem Od}{r i:R2}(h:OpR X f r)(h':OpR X f i):OpR X f (λx y H Q=>r x y H Q\/i x y H Q):=by
 intro d s Z H x y v u Q I g e q;rcases q with q|q;show h d s Z H x y v u Q I g e q;show h' d s Z H x y v u Q I g e q
def gX(b:Expr){d:UC}(h:d ≠ .In:=by decide)(e:d ≠ .NotIn:=by decide):Qo d b=VG:=by
 have f:(d==UC.In)=VG:=by cases d<;>first|rfl|show absurd rfl h
 have g:(d==UC.NotIn)=VG:=by cases d<;>first|rfl|show absurd rfl e
 cases b<;>simp[Qo,f,g]
def A6{d:UC}{r:R2}(p:OpR X (OQ d) r)(f:PE X a ta)(o:PE X b tb)(k:Qo d b=VG):PE X (.Compare a [d] [b] pos) (tOp r ta tb):=by
 intro i s Z H Q I h;show wpAny_Compare1 (Dr f o I h λv u l x y g e j m q=>p i l Z g x y v u Q e j m q) k
abbrev Dg(t:TE):TT:=λZ H Q=>t Z H λx d=>∃k,x=.bl k/\Q k d
def tR{f:UC}{r:R2}(K:OpR X (OQ f) r)(i:PE X a ta)(J:PE X b tb)(A:Qo f b=VG):PT X (.Compare a [f] [b] pos) (Dg (tOp r ta tb)):=by
 intro d s Z H Q I h;show SK (thn (i d s Z H _ I h) λv p ⟨x,l,o,w,E⟩=>thn (J d p Z l _ o E) λu B ⟨y,j,g,m,C⟩=>
  thn (K d B Z j x y v u _ g w m C) λc L ⟨z,H3,t,q,k,e,G⟩=>?_) A
 subst e;cases q;show P9 ⟨H3,t,G⟩
abbrev Ak(K:yF)(x:V)(H:Hp)(k:Bool):Prop:=
 match x with
 | .non=>k=VG
 | .bl b=>k=b
 | .int i=>k=(i != 0)
 | .str y=>y.length<=sizeLine/\k=((y.length:Int) != 0)
 | .byt y=>y.size<=sizeLine/\k=((y.size:Int) != 0)
 | .ref p=>(∃d,SqL K H p d/\k =  ~~~d.isEmpty)\/(∃d,SqT K H p d/\k =  ~~~d.isEmpty) \/ ∃e,H p*>(.dK e)/\k =  ~~~e.isEmpty
 | _=>False
def rf{d : Type}{kvs:!(d×V)}{vs:!(d×Od)}(r:KV kvs vs):(~~~vs.isEmpty) =  ~~~kvs.isEmpty:=by
 cases r<;>rfl
def lx{xs:!V}{d:!Od}(r:Vals xs d):(~~~d.toArray.isEmpty) =  ~~~xs.isEmpty:=by
 cases r<;>simp
def iV:(sizeLine:Nat)<2^63:=by rw[Oj];decide
def FR:Jd X (λx H Q=>∃k,Ak X.K x H k/\Q k H):=by
 intro G s Z H x v Q I l h;have(k,e,q):=h;have J:=iV;have E:sizeLine=16777216:=Oj;cases x with
 | non=>
  cases l;have d:k=VG:=e;subst d;show truthy_none ⟨H,I,q⟩
 | bl b=>
  cases l;have d:k=b:=e;subst d;show P9 ⟨H,I,q⟩
 | int i=>
  have(t,rfl):=l;have d:k=(i != 0):=e;subst d;show PySem.P.truthy_int ⟨H,I,q⟩
 | str y=>
  have(t,rfl):=l;obtain⟨C,d⟩:y.length<=sizeLine/\k=((y.length:Int) != 0):=e;subst d;show PySem.P.truthy_str (by lia) {H,I.tok _,q}
 | byt y=>
  have(t,rfl):=l;obtain⟨C,d⟩:y.size<=sizeLine/\k=((y.size:Int) != 0):=e;subst d;show PySem.W.truthy_bytes (by lia) {H,I.tok _,q}
 | ref p=>
  cases l;have d:(∃j,SqL X.K H p j/\k =  ~~~j.isEmpty)\/(∃j,SqT X.K H p j/\k =  ~~~j.isEmpty) \/ ∃f,H p*>(.dK f)/\k =  ~~~f.isEmpty:=e;rcases d with⟨j,o,d⟩|⟨j,o,d⟩|⟨f,o,d⟩
  .subst d;have(u,r,z,A):=I.list o;have g:=r.length;show wpAny_truthy_list z.isList (by dsimp[JM];lia) {H,I.tok _,by rw[lx r];show q}
  .subst d;have(u,r,z,A):=I.tuple o;have g:=r.length;show truthy_tuple z (by dsimp[JM];lia) {H,I.tok _,by rw[lx r];show q}
  .subst d;obtain⟨A,B,vs,r,m⟩:f.length<=sizeLine/\(p==Sv)=VG/\∃vs,KV f vs/\s.heap.DictOf (cx X.prog X.w) p vs:=I.hok p _ o;have g:f.length=vs.length:=Paired.length r;show wpAny_truthy_dict B m (by lia) {H,I.tok _,by rw[rf r];show q}
 | _=>show(show False from e).elim
def yD(f:PE X a ta)(m:∀d,SN a X.env d=(do let v <-d;Qj a.pos;O7 [v] (UD v))) :
  PT X a (λZ H Q=>ta Z H λx H'=>∃k,Ak X.K x H' k/\Q k H'):=by
 intro e s Z H Q I h;show isTrue_plain (thn (f e s Z H _ I h) λv j ⟨x,g,i,l,o⟩=>FR e j Z g x v Q i l o) (m _)
def op_add_str:OpR X (PU .Add) (λx y H Q=>∃i j,x=.str i/\y=.str j/\i.length+j.length<=sizeLine/\Q (.str (i++j)) H):=by
 intro k s Z H x y v u Q I e f h;have(i,j,rfl,rfl,d,q):=h;have(t,rfl):=e;have(g,rfl):=f;show add_str (λg l=>{.str (i++j),H,I.tok _,{_,Xr},q}) d
def iN{x:V}{us:!Od}(r:Vals [x] us):∃u,us=[u]/\RelV x u:=by
 cases r with
 | cons e d=>cases d;show{_,Xr,e}
def l7{x y:V}{us:!Od}(r:Vals [x,y] us):∃u d,us=[u,d]/\RelV x u/\RelV y d:=by
 cases r with
 | cons f h=>
  cases h with
  | cons e g=>cases g;show{_,_,Xr,f,e}
def ux(e:X.calm=VH):Pi X (.builtin "max") (λxs H Q=>∃i j,xs=[.int i,.int j]/\Q (.int (if j>i then j else i)) H):=by
 intro g s Z H xs f Q I r h;have(i,j,rfl,q):=h;obtain⟨u,m,rfl,⟨t,rfl⟩,⟨o,rfl⟩⟩:=l7 r;show max_two_ints (I.ok.hd e) λp l k=>{_,H,I.kept k,?_,q};by_cases d:j>i;rw[if_pos d,if_pos d];show{_,Xr};rw[if_neg d,if_neg d];show{_,Xr}
def uy(e:X.calm=VH):Pi X (.builtin "min") (λxs H Q=>∃i j,xs=[.int i,.int j]/\Q (.int (if j<i then j else i)) H):=by
 intro g s Z H xs f Q I r h;have(i,j,rfl,q):=h;obtain⟨u,m,rfl,⟨t,rfl⟩,⟨o,rfl⟩⟩:=l7 r;show min_two_ints (I.ok.hd e) λp l k=>{_,H,I.kept k,?_,q};by_cases d:j<i;rw[if_pos d,if_pos d];show{_,Xr};rw[if_neg d,if_neg d];show{_,Xr}
def uv:Pi X (.type "int") (λxs H Q=>(∃i,xs=[.int i]/\Q (.int i) H) \/ ∃k,xs=[.bl k]/\Q (.int (if k then 1 else 0)) H):=by
 intro f s Z H xs e Q I r h;rcases h with⟨i,rfl,q⟩|⟨k,rfl,q⟩
 .have(u,rfl,t,rfl):=iN r;show call_int_int {.int i,H,I,{_,Xr},q}
 .have(u,rfl,d):=iN r;cases d;show call_int_bool {.int (if k then 1 else 0),H,I.tok _,{_,Xr},q}
end
structure ObjM(h:Heap)(x dx C:Addr)(mA:Str->↑Od):Prop where
 obj:h.get? x*>(NI C dx)
 ns:h.Ns1 dx mA
 ne:dx≠x
def m7{h:Heap}{d:Addr}{mA:Str->↑Od}(n:h.Ns1 d mA):∃od,h.get? d*>od/\∀name,NP name od*>(mA name):=by
 have(o,f,p,l,m,g,_,k):=n;show{o,l,λname=>?_};have e:=k name;unfold nsFind findBy at e;rw[<-Array.find?_toList]at e;unfold NP;rw[m];dsimp only;split
 .delta y q;rw[q]at e;show congrArg VF e
 .delta q;rw[q]at e;have a:f.toList.any (·.refKey)=VG:=by
   rw[Nr];intro y i;have(z,t,c):=g y (Array.mem_toList_iff.mp i);simp[Sh.refKey,c]
  have j:¬ f.toList.any (·.refKey)=VH:=by rw[a];show JU
  rw[if_neg j];show congrArg VF e
abbrev kP(f:Str) (v:V):!(Str×V)->!(Str×V)
 | []=>[(f,v)]
 | (g,x)::r=>if g=f then(g,v)::r else(g,x)::kP f v r
def kB(f g:Str)(v:V):∀fs:!(Str×V),(kP f v fs).lookup g=if g=f then VF v else fs.lookup g
 | []=>by
  change Ll g [(f,v)]=_;by_cases h:g=f
  .have a:(g==f)=VH:=beq_iff_eq.mpr h;dsimp[Ll,a,if_pos h]
  .have a:(g==f)=VG:=beq_eq_false_iff_ne.mpr h;dsimp[Ll,a,if_neg h]
 | (k,x)::r=>by
  have d:=kB f g v r;rw[show kP f v ((k,x)::r)=(if k=f then(k,v)::r else(k,x)::kP f v r)from rfl];by_cases c:k=f
  .rw[if_pos c];by_cases h:g=k
   .have a:(g==k)=VH:=beq_iff_eq.mpr h;dsimp[Ll,a,if_pos (h.trans c)]
   .have a:(g==k)=VG:=beq_eq_false_iff_ne.mpr h;dsimp[Ll,a,if_neg (λe:g=f=>h (e.trans c.symm))]
  .rw[if_neg c];by_cases h:g=k
   .have a:(g==k)=VH:=beq_iff_eq.mpr h;dsimp[Ll,a,if_neg (λe:g=f=>c (h.symm.trans e))]
   .have a:(g==k)=VG:=beq_eq_false_iff_ne.mpr h;dsimp[Ll,a];show d
def jX(f:Str)(v:V):∀fs:!(Str×V),f∈(kP f v fs).map (·.1)/\∀g,g∈fs.map (·.1)->g∈(kP f v fs).map (·.1)
 | []=>{by simp[kP],λg h=>by simp at h}
 | (k,x)::r=>by
  have(c,i2):=jX f v r;rw[show kP f v ((k,x)::r)=(if k=f then(k,v)::r else(k,x)::kP f v r)from rfl];by_cases a:k=f
  .rw[if_pos a];subst a;show{by simp,λg h=>by simpa using h}
  .rw[if_neg a];show{?_,λg h=>?_}
   .rw[JN];show ymC _ c
   .rw[JN]at h|-;rcases ycM h with e|e;show Kq.mpr (.inl e);show ymC _ (i2 g e)
def RelO.some_of{v:V}{o:↑Od}(r:RelO (VF v) o):∃u,o*>u/\RelV v u:=by
 cases o with
 | none=>show(show False from r).elim
 | some u=>show⟨u,Xr,r⟩
def uM{v:V}{u:Od}(r:RelV v u):PySem.W.handedIn u=VH:=by
 cases v with
 | non=>cases (show u=OY from r);rfl
 | bl b=>cases (show u=Qn b from r);rfl
 | int i=>have(t,e):=(show∃t,u=OX i t from r);cases e;rfl
 | str x=>have(t,e):=(show∃t,u=Tc x t from r);cases e;rfl
 | byt b=>have(t,e):=(show∃t,u=Vc b t from r);cases e;rfl
 | flt b=>have(t,e):=(show∃t,u=Vd b t from r);cases e;rfl
 | ref a=>cases (show u=Oy a from r);rfl
 | ty n=>cases (show u=Oo n from r);rfl
structure Cls(K:yF)(C:Addr):Prop where
 pg:PySem.W.plainGet K C Str.empty=VH
 hd:Nt K C=VH
 po:PySem.W.plainOver K C=VH
 sa:L5 K (.ref C) "__setattr__" = VF (VF (.builtin "object.__setattr__"))
abbrev Pl(K:yF)(C:Addr)(f:Str):Prop:=L5 K (.ref C) f*>VE
structure Con(K:yF)(C:Addr)(f:Str)(v:V)(u:Od):Prop where
 at_:L5 K (.ref C) f*>(VF u)
 rel:RelV v u
 get:Nu K u "__get__" = VF VE
 cp:PySem.W.copiedNames.contains f=VG
structure Meth(K:yF)(C:Addr)(m:Str)(f:Addr):Prop where
 at_:L5 K (.ref C) m*>(VF (.ref f))
 fn:Nv K (.ref f)=VH
 kp:Lm K (.ref f)=VH
section
variable {X:Cx}{OK:!(Addr×Obj)}{Z:St}{H:Hp}{s:Og}{a C dx:Addr}{fs:!(Str×V)}{f:Str}{v:V}{A:Oz}{E:Od->Og->Prop}
def Am{prog:Os}{w:Ox}{env:Env}{e:Expr}{f:Str}{pos:Pos}{s:Og}{Q:Od->Og->Prop}(d:O6 e f env (eval e env)=eval e env)
  (h:Oh (Om prog w) A (eval e env) (λo c=>Oh (Om prog w) A (U2 o f VH) Q E c) E s):Oh (Om prog w) A (eval (.Attribute e f pos) env) Q E s:=
 Attribute_any_ h (by rw[arm_eval_Attribute,d])
end
section
variable {X:Cx}{OK:!(Addr×Obj)}{Z:St}{H:Hp}{s:Og}{A:Oz}{E:Od->Og->Prop}{Q:Od->Og->Prop}{c:Od}{b:Bool}
inductive Px(K:yF) (H:Hp):V->Od->Prop where
 | non:Px K H .non (.type "NoneType")
 | bl (x:Bool):Px K H (.bl x) (.type "bool")
 | int (i:Int):Px K H (.int i) (.type "int")
 | str (x:Str):Px K H (.str x) (.type "str")
 | flt (x:UInt64):Px K H (.flt x) (.type "float")
 | lst {a:Addr} {xs:!V} (e:H a*>(.lst xs)):Px K H (.ref a) (.type "list")
 | frz {a:Addr} {o:Obj} {xs:!V} (e:H a*>(.frz o (.lst xs))):Px K H (.ref a) (.type "list")
 | tup {a:Addr} {xs:!V} (e:H a*>(.tup xs)):Px K H (.ref a) (.type "tuple")
 | dK {a:Addr} {kvs:!(Key×V)} (e:H a*>(.dK kvs)):Px K H (.ref a) (.type "dict")
 | dT {a:Addr} {kvs:!(!Key×V)} (e:H a*>(.dT kvs)):Px K H (.ref a) (.type "dict")
 | ins {a C dx:Addr} {fs:!(Str×V)} (e:H a*>(.ins C dx fs)) (cl:Cls K C) (ha:L5 K (.ref C) "__class__" = VF (VF (.builtin "object.__class__")))
   (hn:Nu K (.builtin "object.__class__") "__get__" = VF (VF (.builtin "getset_descriptor.__get__"))) (htk:PySem.W.takesIn K (.builtin "object.__class__")*>VH)
   (hm:PySem.W.mroIn K C (.type "object")*>VH):Px K H (.ref a) (.ref C)
end
structure Pj(k:Nat)(A:Oz):Prop where
 hd:A.handled=VE
 gd:A.guards=VF []
 dp:A.depth+3*k+5<UE
 un:A.units+16*k+200<P7
def Pj.mono{j k:Nat}{A:Oz}(r:Pj k A)(h:j<=k):Pj j A:={r.hd,r.gd,by have:=r.dp;lia,by have:=r.un;lia}
def Pj.deeper{k:Nat}{A:Oz}(r:Pj (k+1) A)(env:Env):Pj k (A.deeper env):=
 {r.hd,r.gd,by have:=r.dp;change A.depth+1+3*k+5<_;lia,by have:=r.un;change A.units+3+16*k+200<_;lia}
def rE{A:Oz}{C:Addr}{us:!Od}{a:!(Str×Od)}:(A.under (.builtin "type.__call__" {.ref C::us,a})).depth=A.depth+1:=by
 first|rfl|simp[Sx,Code.weight,Code.isCreation,U3,Code.isCaller,Vf,TB,guardIds]
def rF{A:Oz}{C:Addr}{us:!Od}{a:!(Str×Od)}:(A.under (.builtin "type.__call__" {.ref C::us,a})).units=A.units+1:=by
 first|rfl|simp[Sx,Code.cUnits,Vf,TB]
def pN{A:Oz}{C:Addr}{us:!Od}{f:!(Str×Od)}:(A.under (.builtin "type.__call__" {.ref C::us,f})).guards=A.guards:=by
 cases A with|mk a b c d e=>cases d<;>simp[Sx,pushGuards,Code.guards,U3,guardIds]
def Pj.make{k:Nat}{A:Oz}(r:Pj (k+1) A)(C:Addr)(us:!Od)(a:!(Str×Od)):Pj k (A.under (.builtin "type.__call__" {.ref C::us,a})):=
 {r.hd,by rw[pN];show r.gd,by have:=r.dp;rw[rE];lia,by have:=r.un;rw[rF];lia}
def Pj.depth{k:Nat}{A:Oz}(r:Pj k A):A.depth<UE:=by have:=r.dp;lia
def Pj.units{k:Nat}{A:Oz}(r:Pj k A):A.units+64<P7:=by have:=r.un;lia
abbrev FO:TA:=λ_ H Q=>Q [] H
abbrev qB(f:TE)(c:TA):TA:=λZ H Q=>f Z H λx e=>c Z e λa d=>Q (x::a) d
section
variable {X:Cx}{e:Expr}{es:!Expr}{te:TE}{t:TA}{pos:Pos}
def ft:PA X [] FO:=λ_ _ _ _ H Q I h=>TC {[],H,I,.nil,h}
def jF(f:PE X e te)(m:PA X es t)(hs:OD (e::es) X.env=(VG,eval e X.env)::OD es X.env:=by rfl):PA X (e::es) (qB te t):=by
 intro pos a s Z H Q I h;rw[hs];change Oh _ _ (spliced ((VG,eval e X.env)::QJ pos (OD es X.env))) _ _ s;show Tq (thn (f a s Z H _ I h) λu l o=>?_);have(x,i,k,p,r):=o;show thn (m pos a l Z i _ k r) λv w ⟨c,g,d,j,q⟩=>⟨x::c,g,d,.cons p j,q⟩
abbrev IJ(t:TA):TE:=λZ H Q=>t Z H λa c=>a.length<=sizeLine/\∀p,c p=VE->Q (.ref p) (upd c p (.tup a))
abbrev ID(t:TA):TE:=λZ H Q=>t Z H λa c=>a.length<=sizeLine/\∀p,c p=VE->Q (.ref p) (upd c p (.lst a))
def xY{x1}(h:PA X es t):PE X (.Tuple es x1 pos) (IJ t):=by
 intro i s Z H Q I k;show wpAny_Tuple_spliced (thn (h pos i s Z H _ I k) λg a ⟨f,c,d,r,z,q⟩=>{by rw[<-r.length];show z,?_});have j:c a.heap.objs.size=VE:=d.hok.fresh (JQ _);show{.ref a.heap.objs.size,upd c a.heap.objs.size (.tup f),d.laid (t':=a.toks) (λb u e=>Of _ e) (JQ _) ?_,Xr,q _ j};show{z,g,r,{_,Oq _ rfl,⟨Xr,Xr⟩,_,Xr}}
def EN(h:PA X es t):PE X (.List es pos) (ID t):=by
 intro i s Z H Q I k;show wpAny_List_spliced (thn (h pos i s Z H _ I k) λg a ⟨f,c,d,r,z,q⟩=>{by rw[<-r.length];show z,?_});have j:c a.heap.objs.size=VE:=d.hok.fresh (JQ _);show{.ref a.heap.objs.size,upd c a.heap.objs.size (.lst f),d.laid (t':=a.toks) (λb u e=>Of _ e) (JQ _) ?_,Xr,q _ j};show{z,g,0,r,Oq _ rfl}
end
protected def Sp:=!V->Hp->VK->XK->Prop
protected def CXT:=!Env->Hp->Og->XK->Od->Og->Prop
structure PH(P:Os)(w:Ox)(K:yF)(mg:Str->↑Od)(base:Heap)(A:Oz)(outer:!Env)(s:Og)(H:Hp):Prop where
 frames:A.frames*>outer
 mod:Mod K mg base
 bs:∀b o,base.get? b*>o->s.heap.get? b*>o/\H b=VE
 bsz:base.objs.size<=s.heap.objs.size
 funs:s.heap.FunFrames base outer
 frf:∀b∈frs outer,H b=VE
 hok:HOk P w H s.heap
 bare:RP s.gens
abbrev CE(outer:!Env)(P:Os)(w:Ox)(H:Hp)(s:Og)(Q:VK)(u:Od)(a:Og):Prop:=
 ∃v c,a.os=s.os/\RP a.gens/\Un (frs outer) [] H c s.heap a.heap/\HOk P w c a.heap/\RelV v u/\Q v c
abbrev CR(CX:CXT)(outer:!Env)(P:Os)(w:Ox)(H:Hp)(s:Og)(Q:VK)(E:XK)(r:UF)(a:Og):Prop:=
 match r with
 | .ok (.ret u)=>CE outer P w H s Q u a
 | .ok _=>False
 | .error e=>CX outer H s E e a
structure Pp(P:Os)(w:Ox)(K:yF)(mg:Str->↑Od)(base:Heap)(CX:CXT)(k:Nat)(f:Addr)(fd:PV)(ps:!Str)(sp:Sp):Prop where
 len:∀vs H Q E,sp vs H Q E->vs.length=ps.length
 run:∀(A:Oz) (outer:!Env) (s:Og) (H:Hp) (args:Args) (us:!Od) (vs:!V) (Q:VK) (E:XK),Pj k A->PH P w K mg base A outer s H->Sy s fd args (ps.zip us)->Vals vs us->sp vs H Q E ->
  Qb (Om P w) A (.call (.ref f) args) (CR CX outer P w H s Q E) s
def PH.make{P:Os}{w:Ox}{K:yF}{a:Str->↑Od}{base:Heap}{A:Oz}{outer:!Env}{s:Og}{H:Hp}(e:PH P w K a base A outer s H)(C:Addr)(us:!Od)(c:!(Str×Od)) :
  PH P w K a base (A.under (.builtin "type.__call__" {.ref C::us,c})) outer s H:={by first|show e.frames|(simpa[Sx,Code.envs,TB,pushEnvs]using e.frames),e.mod,e.bs,e.bsz,e.funs,e.frf,e.hok,e.bare}
section
variable {X:Cx}{OK:!(Addr×Obj)}{Z:St}{H:Hp}{s s':Og}
def Inv.env0(I:Inv X OK Z H s):PH X.prog X.w X.K X.mg X.base X.A X.stack s H:=
 {I.ok.frames,I.ok.mod,I.bs,Kg I.ok.bsz I.sz,I.stack,I.stkFree,I.hok,I.bare}
def Inv.after{Q:VK}{u:Od}(I:Inv X OK Z H s)(h:CE X.stack X.prog X.w H s Q u s'):EP X OK Z Q u s':=by
 have(v,f,os,a,j,c,r,q):=h;have(i,g,d,t,e):=s';obtain rfl:e=s.os:=os;show{v,f,I.call (h':=i) (g':=g) (d':=d) (t':=t) (ch:=[]) j c a (λb z=>absurd z ∅),r,q}
end
abbrev kJ(sp:Sp)(a:!V)(E:XK)(t:TA):TE:=λZ H Q=>t Z H λvs c=>sp (vs++a) c Q E
abbrev Pm(K:yF)(fd:PV)(ps:!Str)(ds:!Od):Prop:=
 ∀(s:Og) (a:!Od),K.In s.heap->(a++ds).length=ps.length->Sy s fd {a,[]} (ps.zip (a++ds))
def Pm.all{K:yF}{fd:PV}{ps:!Str}(h:∀us:!Od,us.length=ps.length->SO fd {us,[]}=pure (ps.zip us)):Pm K fd ps []:=λs us _ a=>by
 rw[Kb]at a|-;show .of_eq (h us a)
abbrev jP(CX:CXT)(X:Cx)(E:XK):Prop:=∀(c:!(Addr×Obj)) (Z:St) (H:Hp) (s:Og) (e:Od) (a:Og),Inv X c Z H s->CX X.stack H s E e a->X.xe e a
section
variable {X:Cx}{CX:CXT}{k:Nat}{f C:Addr}{fd:PV}{ps:!Str}{sp:Sp}{dvs:!V}{ds:!Od}{E:XK}{x m:Str}{p pos apos:Pos}{e o:Expr}{es:!Expr}{ta:TE}{t:TA}
def zr{c:!(Addr×Obj)}{Z:St}{H:Hp}{s:Og}{Q:VK}{us:!Od}{vs:!V}(F:Pp X.prog X.w X.K X.mg X.base CX k f fd ps sp)(i:Pj k X.A)(y:Pm X.K fd ps ds)(v:Vals dvs ds)(j:jP CX X E)
  (I:Inv X c Z H s) (r:Vals vs us) (h:sp (vs++dvs) H Q E):Oh (Om X.prog X.w) X.A (call (.ref f) us) (EP X c Z Q) X.xe s:=by
 have d:Vals (vs++dvs) (us++ds):=r.append v;have g:(us++ds).length=ps.length:=by rw[<-d.length];show F.len _ _ _ _ h
 show Qu (Qv (F.run X.A X.stack s H {us,[]} (us++ds) (vs++dvs) Q E i I.env0 (y s us I.kIn g) d h) λr q a=>?_);cases r with
 | error e=>show j c Z H s e q I a
 | ok l=>
  cases l with
  | ret u=>show I.after a
  | next=>show OE a
  | brk=>show OE a
  | cont=>show OE a
def A5(F:Pp X.prog X.w X.K X.mg X.base CX k f fd ps sp)(l:Pj k X.A)(B:Gl X x)(v:X.mg x*>(.ref f))(i:Lm X.K (.ref f)=VH)(G:Pm X.K fd ps ds)(z:Vals dvs ds)(u:jP CX X E)
  (g:PA X (e::es) t) (a:(x==("__debug__" : Str))=VG:=by decide) (y:OD (e::es) X.env=(VG,eval e X.env)::OD es X.env:=by rfl) (c:(QJ pos (OD es X.env)).any (·.1)=VG:=by rfl) :
  PE X (.Call (.Name x p) (e::es) [] pos) (kJ sp dvs E t):=by
 intro j s Z H Q I h;show Qf (ik I B v ?_ a);show LX (h₀:=X.base) I.ok.mod.kin i (thn (g pos j s Z H _ I h) λJ M ⟨vs,L,d,r,q⟩=>{d.kIn,?_}) y c;show zr F l G z u d r q
end
section
variable {X:Cx}{CX:CXT}{k:Nat}{f C:Addr}{fd:PV}{ps ks:!Str}{sp:Sp}{E:XK}{x m:Str}{p pos apos kpos:Pos}{e o:Expr}{es:!Expr}{kws:!Ux}{te ta:TE}{t tk:TA}{nm:↑Str}
structure KBinds(K:yF)(fd:PV)(ps ks:!Str)(g:!Od->!Od->!Od)(gV:!V->!V->!V):Prop where
 to:∀(s:Og) (us ws:!Od),K.In s.heap->(g us ws).length=ps.length->Sy s fd {us,ks.zip ws} (ps.zip (g us ws))
 rel:∀{vs:!V} {us:!Od} {zs:!V} {ws:!Od},Vals vs us->Vals zs ws->Vals (gV vs zs) (g us ws)
variable {g:!Od->!Od->!Od}{gV:!V->!V->!V}
end
structure Pa(N P:!Str)(sc:QV):Prop where
 kind:sc.kind=.function
 co:sc.isCoroutine=VG
 gen:sc.isGenerator=VG
 nd:N.Nodup
 pre:N.take P.length=P
 par:∀x∈P,sc.names.lookup x*>.local\/sc.names.lookup x*>.cell
 nofree:∀y∈sc.names,y.2 ≠ .free
def mN{kindOf:Str->↑Ow}{x:Str}:∀{a:!(Str×Od)} {m:Str->↑Od},(∀v,(x,v)∉a)->UG kindOf a m x=m x
 | [],_,_=>rfl
 | (n,v)::r,m,h=>by
  unfold UG;rw[mN λw c=>h w (ymC _ c)];split
  .have:x≠n:=by rintro rfl;show h v ymS
   simp[this]
  .rfl
def mK{kindOf:Str->↑Ow}{x:Str}:∀{a:!(Str×Od)} {m:Str->↑Od},(∀v,(x,v)∉a)->UH kindOf a m x=m x
 | [],_,_=>rfl
 | (n,v)::r,m,h=>by
  unfold UH;rw[mK λw c=>h w (ymC _ c)];split;rfl
  .have:x≠n:=by rintro rfl;show h v ymS
   simp[this]
def mL{kindOf:Str->↑Ow}{x:Str}{v:Od}:∀{P:!Str} {vs:!Od} {i:Nat} {m:Str->↑Od},P.Nodup->P[i]?*>x->vs[i]?*>v->kindOf x*>.local ->
  UG kindOf (P.zip vs) m x*>v
 | [],_,_,_,_,h,_,_=>by simp at h
 | _::_,[],_,_,_,_,h,_=>by simp at h
 | p::P,w::vs,0,m,e,a,c,d=>by
  simp at a c;subst a;subst c;change UG kindOf ((p,w)::P.zip vs) m p=_;unfold UG;rw[mN λv f=>(Ks.mp e).1 (MV f).1,if_pos d];simp
 | p::P,w::vs,i+1,m,e,a,c,d=>by
  change UG kindOf ((p,w)::P.zip vs) m x=_;unfold UG;show mL (i:=i) (Ks.mp e).2 (by exists a) (by exists c) d
def mJ{kindOf:Str->↑Ow}{x:Str}{v:Od}:∀{P:!Str} {vs:!Od} {i:Nat} {m:Str->↑Od},P.Nodup->P[i]?*>x->vs[i]?*>v->kindOf x≠VF .local ->
  UH kindOf (P.zip vs) m x*>v
 | [],_,_,_,_,h,_,_=>by simp at h
 | _::_,[],_,_,_,_,h,_=>by simp at h
 | p::P,w::vs,0,m,e,a,c,d=>by
  simp at a c;subst a;subst c;change UH kindOf ((p,w)::P.zip vs) m p=_;unfold UH;rw[mK λv f=>(Ks.mp e).1 (MV f).1,if_neg d];simp
 | p::P,w::vs,i+1,m,e,a,c,d=>by
  change UH kindOf ((p,w)::P.zip vs) m x=_;unfold UH;show mJ (i:=i) (Ks.mp e).2 (by exists a) (by exists c) d
abbrev bR(N:!Str) (vs:!V):St:=vs.map VF++JO (N.length-vs.length) VE
abbrev iK(CX:CXT) (P:Os) (w:Ox) (K:yF) (mg:Str->↑Od) (base:Heap) (N:!Str) (qual:Str) (scope:QV) (f:Addr) (cd:Od) (A:Oz) (outer:!Env) (s:Og) (H:Hp) (E:XK):Cx where
 prog:=P
 w:=w
 K:=K
 mg:=mg
 base:=base
 A:=A.deeper (Rn qual scope s.heap.objs.size f cd)
 N:=N
 s₀:=s
 H₀:=H
 env:=Rn qual scope s.heap.objs.size f cd
 outer:=outer
 stack:=Rn qual scope s.heap.objs.size f cd::outer
 ex:=[]
 calm:=VH
 fn:=λ_=>VH
 pn:=[]
 xe:=λe s'=>Oh (Om P w) (A.deeper (Rn qual scope s.heap.objs.size f cd)) (leaving (Rn qual scope s.heap.objs.size f cd) e) (λ_ s''=>CX outer H s E e s'') (λe' s''=>CX outer H s E e' s'') s'
def o8{a:QV}{n:Nat}{x:Str}(h:a.names.lookup x*>.cell):∃c,(OR n a.names []).lookup x*>c:=by
 have q:=L7 a.names n [] (.inl h);show Li.mp q
def uO{CX:CXT}{P:Os}{w:Ox}{K:yF}{G:Str->↑Od}{base:Heap}{N ps:!Str}{qual:Str}{scope:QV}{f:Addr}{C:Od}{A:Oz}{outer:!Env}{s M:Og}{H:Hp}{E:XK}{us:!Od}{vs:!V}
  (S:Pa N ps scope) (U:A.handled=VE) (Q:A.guards=VF []) (g:PH P w K G base A outer s H) (hl:vs.length=ps.length) (r:Vals vs us)
  (x:InCallC s s.heap.objs.size (UG (Rn qual scope s.heap.objs.size f C).kindOf (ps.zip us) λ_=>VE) (OR (s.heap.objs.size+1) scope.names []) (UH (Rn qual scope s.heap.objs.size f C).kindOf (ps.zip us) λ_=>VE) M) :
  Inv (iK CX P w K G base N qual scope f C A outer s H E) [] (bR N vs) H M:=by
 have Y:ps.length<=N.length:=by have:=congrArg Ln S.pre;rw[Kx]at this;lia
 have(B,tk,rfl,L):=x.done;have j:∀b:Addr,b∉(iK CX P w K G base N qual scope f C A outer s H E).ex:=λb z=>absurd (show b∈([]:!Addr)from z) ∅;show{{g.mod,S.kind,Xr,Xr,JQ _,λy z c B d=>?_,λy l=>?_,λy c _ h=>?_,λ_=>U,λ_=>Q,Oz.frames_deeper g.frames,.inr ⟨Xr,Xr⟩,λb z=>absurd z (j b),g.bs,g.bsz,λb _ _=>j b,λb z=>absurd z (j b),g.funs,g.frf},
  rfl,g.bare,Un.kept L,{_,x.toInCall.ns,λi y v B d Z=>?_},λy c h=>{_,x.cell y c h},g.hok.fresh (JQ _),λy c h=>?_,λp o=>absurd (show p∈([]:!(Addr×Obj))from o) ∅,g.hok.kept L,?_}
 .show name_of_addr x.apart (Lu B) (Lu d)
 .have l:scope.names.lookup y*>.cell\/scope.names.lookup y*>.free:=l;rcases l with l|l;show o8 l;show absurd rfl (S.nofree _ (Lu l))
 .show Mn (x.above y c (Lu h))
 .have t:i<vs.length:=by
   unfold bR at d;by_cases t:i<vs.length;show t
   .rw[K8 (by exists t)]at d;rw[MD]at d;split at d<;>cases d
  have O:vs[i]?*>v:=by
   unfold bR at d;rw[KO (by exists t),JR]at d;cases e:vs[i]? with
   | none=>rw[e]at d;cases d
   | some a=>rw[e]at d;cases d;rfl
  have(u,J,X):=r.get O;have o:ps[i]?*>y:=by
   rw[<-S.pre,My (by lia)];show B
  have m:ps.Nodup:=by rw[<-S.pre];show S.nd.sublist (List.take_sublist _ _)
  show{u,X,?_};rcases S.par y (ymG o)with k|k;show .inl {k,mL m o J k}
  .have(c,e):=o8 (n:=s.heap.objs.size+1) k;show .inr {.inl k,c,e,?_};have q:=x.cell y c e;rw[mJ m o J (by change scope.names.lookup y≠_;rw[k];decide)]at q;show q
 .show g.hok.fresh (Mn (x.above y c (Lu h)))
 .unfold bR;change _=N.length;rw[JT,JK,List.length_replicate]
  lia
def Cz{CX:CXT}{P:Os}{w:Ox}{K:yF}{G:Str->↑Od}{base:Heap}{k:Nat}{f:Addr}{name qual:Str}{c:TW}{d:!Stmt}{scope:QV}{dV kV p Z a ct oc:Od}{Y od:↑Addr}
  {X:Array ↑Od} {N ps:!Str} {sp:Sp} (lk:K.lookup f*>{oc,od,.func (KD name qual c d scope dV kV p Z Y a ct),X}) (L:LA K a qual=VH) (S:Pa N ps scope)
  (m:∀vs H Q E,sp vs H Q E->vs.length=ps.length)
  (h:∀(A:Oz) (outer:!Env) (s:Og) (H:Hp) (vs:!V) (Q:VK) (E:XK),Pj k (A.deeper (Rn qual scope s.heap.objs.size f a))->sp vs H Q E ->
   ∃t,PSs (iK CX P w K G base N qual scope f a A outer s H E) d t/\t {nx:=λ_ H'=>Q .non H',rt:=Q} (bR N vs) H) :
  Pp P w K G base CX (k+1) f (KD name qual c d scope dV kV p Z Y a ct) ps sp:=by
 show{m,λA outer s H args us vs Q E C z hb r l=>?_};have hl:=m _ _ _ _ l;have KX:K.In s.heap:=z.mod.kin.keeps λb o e=>(z.bs b o e).1;have O:s.heap.NoLimit:=z.mod.nolimit.keeps λb o e=>(z.bs b o e).1;have g:∀y∈ps.zip us,scope.names.lookup y.1*>.local\/(scope.names.lookup y.1*>.cell/\((OR (s.heap.objs.size+1) scope.names []).lookup y.1).isSome=VH):=fun⟨n,v⟩ hy=>by
  rcases S.par n (MV hy).1 with q|q;show .inl q;show .inr {q,L7 _ _ _ (.inl q)}
 show codeAny_call_function C.depth (KX _ _ lk) rfl S.co S.gen rfl (PySem.W.codeRec_of KX L) (hb _ _ _ _ ?_);show wpAny_newFunctionEnv_cells S.kind g λenv he s1 x=>?_;subst he;show{O.keeps x.toInCall.keep,codeAny_func ?_};have(t,ht,hq):=h A outer s H vs Q E (C.deeper _) l;have I:Inv (iK CX P w K G base N qual scope f a A outer s H E) [] (bR N vs) H s1:=uO S C.hd C.gd z hl r x;show Ov (ht [] s1 (bR N vs) H _ I hq) (λfl M i=>?_) λe M i=>i;have j:∀{B:St} {H':Hp} {v:V} {u:Od},Inv (iK CX P w K G base N qual scope f a A outer s H E) [] B H' M->RelV v u->Q v H'->CE outer P w H s Q u M:=
  λ{B H' v u} J U q=>⟨v,H',J.os,J.bare,J.base,J.hok,U,q⟩
 cases fl with
 | ret u=>
  have(v,B,H',J,U,q):=i;show j J U q
 | next=>
  have(B,H',J,q):=i;show j (v:=V.non) (u:=OY) J rfl q
 | brk=>
  have(_,_,_,q):=i;show OE q
 | cont=>
  have(_,_,_,q):=i;show OE q
section
variable {X:Cx}{x:Str}{p pos:Pos}{e:Expr}{es:!Expr}{t:TA}{id T:String}{r:!V->Hp->VK->Prop}
abbrev tCB(r:!V->Hp->VK->Prop)(t:TA):TE:=λZ H Q=>t Z H λvs a=>r vs a Q
def xO(y:Pi X (.builtin id) r)(w:Gl X x)(o:X.mg x=VE)(u:PZ x*>(.builtin id))(f:PA X (e::es) t)(j:x ≠ "__name__" :=by decide)(a:(x==("__debug__" : Str))=VG:=by decide)
  (q:OD (e::es) X.env=(VG,eval e X.env)::OD es X.env:=by rfl) (c:(QJ pos (OD es X.env)).any (·.1)=VG:=by rfl):PE X (.Call (.Name x p) (e::es) [] pos) (tCB r t):=by
 intro d s Z H Q I h;show Qf (gS I w o u ?_ j a);show Me (thn (f pos d s Z H _ I h) λg l ⟨vs,i,k,m,v⟩=>y d l Z i vs g Q k m v) q c
def u8(y:Pi X (.type T) r)(w:Gl X x)(o:X.mg x=VE)(u:PZ x*>(.type T))(f:PA X (e::es) t)(j:x ≠ "__name__" :=by decide)(a:(x==("__debug__" : Str))=VG:=by decide)
  (q:OD (e::es) X.env=(VG,eval e X.env)::OD es X.env:=by rfl) (c:(QJ pos (OD es X.env)).any (·.1)=VG:=by rfl):PE X (.Call (.Name x p) (e::es) [] pos) (tCB r t):=by
 intro d s Z H Q I h;show Qf (gS I w o u ?_ j a);show K6 (thn (f pos d s Z H _ I h) λg l ⟨vs,i,k,m,v⟩=>y d l Z i vs g Q k m v) q c
end
end L2
namespace HT
open PySem PyProof.Rows
section
variable {prog:Os}{w:Ox}{A:Oz}{E:Od->Og->Prop}{s:Og}
def cat_tup{t b:Addr}{vs ws:!Od}{Q:Od->Og->Prop}(y:Ud s.heap t vs.toArray)(B:Ud s.heap b ws.toArray)(r:vs≠[])
  (z:ws=[]->Q (.ref t) s) (x:ws≠[]->Q (.ref s.heap.objs.size) {s with heap:=s.heap.push {cls:=.type "tuple",data:=.seq (vs++ws).toArray}})
  (hsz:vs.length+ws.length<=sizeLine):Oh (Om prog w) A (PU .Add (.ref t) (.ref b)) Q E s:=by
 obtain⟨⟨k,q,d,l⟩,j,v,n,u⟩:=id y;obtain⟨⟨m,h,data2,g⟩,a,c,p,f⟩:=id B;simp only at v u c f;subst v u c f;have e:vs.toArray++ws.toArray=(vs++ws).toArray:=by simp
 by_cases i:ws=[]
 .show TD {_,j,Xr} {_,a,Xr} Sk Tk PySem.F.slot_tuple_add PySem.F.entry_tuple_add (PySem.F.args_tuple_add_2 _ _)
   (tuple_addW1 t b vs.toArray ws.toArray n p q h l g (by exists r) (by simp[i])) {j,a,z i}
 .show TD {_,j,Xr} {_,a,Xr} Sk Tk PySem.F.slot_tuple_add PySem.F.entry_tuple_add (PySem.F.args_tuple_add_2 _ _)
   (tuple_addW2 t b vs.toArray ws.toArray n p q h l g (by exists r) (by exists i) (by rw[JM,JM];show hsz)) {j,a,?_}
  rw[e];show x i
abbrev sIx(n d:Nat):↑Int->Nat
 | none=>d
 | some v=>if v<0 then(v+(n:Int)).toNat else min v.toNat n
def sIx_none(n d:Nat):sIx n d VE=d:=rfl
def sIx_nat(n d k:Nat):sIx n d (VF (k:Int))=min k n:=by
 change(if(k:Int)<0 then((k:Int)+(n:Int)).toNat else min (k:Int).toNat n)=min k n;rw[if_neg (by lia),Kh]
def sIx_le(n d:Nat)(c:d<=n)(o:↑Int):sIx n d o<=n:=by
 cases o with
 | none=>show c
 | some v=>
  change(if v<0 then(v+(n:Int)).toNat else min v.toNat n)<=n;by_cases a:v<0;rw[if_pos a];lia;rw[if_neg a];show NA _ _
def clip_eq(v:Int)(n d:Nat):(if v<0 then max (v+(n:Int)) 0 else min v (n:Int))=((sIx n d (VF v):Nat):Int):=by
 change(if v<0 then max (v+(n:Int)) 0 else min v (n:Int))=(((if v<0 then(v+(n:Int)).toNat else min v.toNat n):Nat):Int);by_cases a:v<0;dsimp[if_pos a];lia;dsimp[if_neg a];lia
def adjust_gen(lo a:↑Int)(n:Nat):O8 lo a 1 (n:Int)=(((sIx n 0 lo:Nat):Int),((sIx n n a:Nat):Int)):=by
 have c:¬ ((1:Int)<0):=by lia
 unfold O8;dsimp[c,if_false];show Oa ?_ ?_
 .cases lo with
  | none=>rfl
  | some v=>show clip_eq v n 0
 .cases a with
  | none=>rfl
  | some v=>show clip_eq v n n
def places_gen(i j:Nat):OO (i:Int) (j:Int) 1=j-i:=by
 unfold OO;have a:(1:Int)>0:=by lia
 dsimp[a,if_true,NY];split<;>lia
def slicePart_{v:Od}{o:↑Int}{Q:↑Int->Og->Prop}(p:RF v o)(h:Q o s):Oh (Om prog w) A (Uk v) Q E s:=by
 cases p with
 | none=>show RW h
 | int i t=>show slicePart_int h
def sliceApplied_gen{sl:Addr}{f e:Od}{lo a:↑Int}{n:Nat}{Q:Int×Int×Nat->Og->Prop}(hs:s.heap.IsSliceOf sl f e .none)(pl:RF f lo)(g:RF e a)
  (h:Q (((sIx n 0 lo:Nat):Int),1,sIx n n a-sIx n 0 lo) s):Oh (Om prog w) A (Qg (.ref sl) (pure (n:Int))) Q E s:=by
 have(os,d,i,c):=id hs;unfold Qg R5;show Oc (Oc (OB d c (x:=f) rfl (Oc (OB d c (x:=e) rfl (Oc (OB d c (x:=.none) rfl (Oe ?_)))))));show Oc (RW ?_);change Oh _ _ (if((1:Int)==0)=VH then _ else _) _ _ s;rw[if_neg (by decide)];show Oc (slicePart_ pl (Oc (slicePart_ g (Oc (Oe ?_)))));change Oh _ _ (match O8 lo a 1 (n:Int)with|(lo,a)=>pure (lo,(1:Int),OO lo a 1)) _ _ s;rw[adjust_gen lo a n];change Oh _ _ (pure (((sIx n 0 lo:Nat):Int),(1:Int),OO ((sIx n 0 lo:Nat):Int) ((sIx n n a:Nat):Int) 1)) _ _ s;rw[places_gen];show Oe h
def pick_gen(xs:Array Od)(i k:Nat):((Kk k).filterMap λ(m:Nat)=>xs[((i:Int)+(m:Int)*1).toNat]?).toArray=((xs.toList.drop i).take k).toArray:=by
 have e:(λ(m:Nat)=>xs[((i:Int)+(m:Int)*1).toNat]?)=λm=>xs[i+m]?:=by
  funext m;have:((i:Int)+(m:Int)*1).toNat=i+m:=by lia
  rw[this]
 rw[e];have:=Vg xs i k;rw[LF]at this;have a:((λx=>xs[x]?)∘λx=>i+x)=λm=>xs[i+m]?:=rfl;rw[a]at this;rw[this]
def getItem_tuple_cut{t sl:Addr}{items:Array Od}{l j:Od}{lo c:↑Int}{Q:Od->Og->Prop}(d:Ud s.heap t items)(hs:s.heap.IsSliceOf sl l j .none)(pl:RF l lo)(o:RF j c)
  (p:¬ (sIx items.size 0 lo=0/\sIx items.size items.size c=items.size))
  (h:Q (.ref s.heap.objs.size) {s with heap:=s.heap.push {cls:=.type "tuple",data:=.seq ((items.toList.drop (sIx items.size 0 lo)).take (sIx items.size items.size c-sIx items.size 0 lo)).toArray}})
  (hsz:items.size<=sizeLine):Oh (Om prog w) A (Rf (.ref t) (.ref sl)) Q E s:=by
 have a:sizeOk (.seq ((items.toList.drop (sIx items.size 0 lo)).take (sIx items.size items.size c-sIx items.size 0 lo)).toArray):=by
  change((items.toList.drop (sIx items.size 0 lo)).take (sIx items.size items.size c-sIx items.size 0 lo)).toArray.size<=sizeLine;rw[JM,Kx,K0,KY]
  lia
 have u:sIx items.size items.size c<=items.size:=sIx_le _ _ (JQ _) c;have(os,g,e,r):=id hs;have f:s.TypeIs (.ref sl) "slice" :=⟨os,g,e⟩;unfold Rf;try with_reducible refine OA ?_
 first|refine Oc (Oe ?_)|skip
 show Oc (Rg d.typeIs (by decide) ?_);show Oc (OV (name:=Op "__getitem__") d.typeIs Km
  (P0 Km d.typeIs RM ?_ (RX _ _)))
 change Oh _ _ (QM (.ref t) >>= _) _ _ s;show Oc (Sd d ?_);show Oc (Ql f ?_);rw[if_pos (by decide)];show Oc (sliceApplied_gen hs pl o ?_);have i:¬ ((((sIx items.size 0 lo:Nat):Int)==0&&(1:Int)==1&&(sIx items.size items.size c-sIx items.size 0 lo)==items.size)=VH):=by
  intro q;rw[JL,JL]at q;have x:((sIx items.size 0 lo:Nat):Int)=0:=eq_of_beq q.1.1;have v:sIx items.size items.size c-sIx items.size 0 lo=items.size:=eq_of_beq q.2;show p {by lia,by lia}
 change Oh _ _ (if(((sIx items.size 0 lo:Nat):Int)==0&&(1:Int)==1&&(sIx items.size items.size c-sIx items.size 0 lo)==items.size)=VH then _ else _) _ _ s;rw[if_neg i,pick_gen];first
  | show Oc (m:=OG _) (OC (Oe ⟨_,rfl,Oe h⟩) a)
  | show Oc (m:=OG _) (OC (Oc (Oe (Oe ⟨_,rfl,Oe h⟩))) a)
  | show Oc (Oc (m:=OG _) (OC (Oe (Oe ⟨_,rfl,Oe h⟩)) a))
  | show Oc (Oc (m:=OG _) (OC (Oe ⟨_,rfl,Oe h⟩) a))
end
end HT
namespace L2
open PySem PySem.Spec PyProof.Rows
protected def TO:=St->Hp->(↑Int->Hp->Prop)->Prop
abbrev PO(X:Cx)(e:↑Expr)(t:TO):Prop:=
 ∀(a:!(Addr×Obj)) (s:Og) (Z:St) (H:Hp) (Q:↑Int->Hp->Prop),Inv X a Z H s->t Z H Q ->
  Oh (Om X.prog X.w) X.A (evalPart e X.env) (λu d=>∃o c,Inv X a Z c d/\RF u o/\Q o c) X.xe s
abbrev ui:TO:=λ_ H Q=>Q VE H
abbrev uj(t:TE):TO:=λZ H Q=>t Z H λx a=>∃i,x=.int i/\Q (VF i) a
section
variable {X:Cx}{e:Expr}{te:TE}{lo hi:↑Expr}{tl th:TO}{pos p2:Pos}
def Bh:PO X VE ui:=by
 intro a s Z H Q I h;rw[Se];show Oe {VE,H,I,.none,h}
def oE(h:PE X e te):PO X (VF e) (uj te):=by
 intro c s Z H Q I f;rw[evalPart_some];show thn (h c s Z H _ I f) λu l g=>?_;have(x,a,d,j,k):=g;have(i,rfl,q):=k;have(t,rfl):=j;show{VF i,a,d,.int i t,q}
abbrev SlR(X:Cx)(r:V->↑Int->↑Int->Hp->VK->Prop):Prop:=
 ∀(d:!(Addr×Obj)) (s:Og) (Z:St) (H:Hp) (x:V) (v f a:Od) (lo hi:↑Int) (c:Addr) (Q:VK),Inv X d Z H s->RelV x v->s.heap.IsSliceOf c f a .none->RF f lo->RF a hi->r x lo hi H Q ->
  ∃T id,Sz (.type T) "__getitem__" = pure (VF (.builtin id))/\s.TypeIs v T/\Oh (Om X.prog X.w) X.A (Rf v (.ref c)) (EP X d Z Q) X.xe s
def SlR.or{r j:V->↑Int->↑Int->Hp->VK->Prop}(h:SlR X r)(h':SlR X j):SlR X (λx lo hi H Q=>r x lo hi H Q\/j x lo hi H Q):=by
 intro f s Z H x v k c lo hi a Q I i l g d q;rcases q with q|q;show h f s Z H x v k c lo hi a Q I i l g d q;show h' f s Z H x v k c lo hi a Q I i l g d q
abbrev tSl(r:V->↑Int->↑Int->Hp->VK->Prop)(te:TE)(tl th:TO):TE:=λZ H Q=>te Z H λx c=>tl Z c λl a=>th Z a λu H3=>r x l u H3 Q
def pW{r:V->↑Int->↑Int->Hp->VK->Prop}(L:SlR X r)(N:PE X e te)(G:PO X lo tl)(m:PO X hi th):PE X (.Subscript e (.Slice lo hi VE p2) pos) (tSl r te tl th):=by
 intro d s Z H Q I h;show Tr (thn (N d s Z H _ I h) λv y i=>?_);have(x,C,J,M,t):=i;show Uf (thn (G d y Z C _ J t) λg P ⟨l,B,j,E,O⟩=>thn (m d P Z B _ j O) λf a i=>?_);have(u,H3,p,z,U):=i;rw[Se];show Oe ?_;have k:Inv X d Z H3 {a with heap:=a.heap.push {cls:=.type "slice",data:=.fields #[g,f,.none]}}:=p.kept (t':=a.toks) λb Y q=>Of _ q;have(T,id,o,K,S):=L d {a with heap:=a.heap.push {cls:=.type "slice",data:=.fields #[g,f,.none]}} Z H3 x v g f l u a.heap.objs.size Q k M (RY ..) E z U;change Oh (Om X.prog X.w) X.A (Sf e (.Slice lo hi VE p2) v (.ref a.heap.objs.size)) (EP X d Z Q) X.xe {a with heap:=a.heap.push {cls:=.type "slice",data:=.fields #[g,f,.none]}};show Vh (ops:=[.ref a.heap.objs.size,v]) K o S (by unhygienic rfl)
abbrev ln(xs:!V) (lo hi:↑Int):!V:=(xs.drop (HT.sIx xs.length 0 lo)).take (HT.sIx xs.length xs.length hi-HT.sIx xs.length 0 lo)
def ku(xs:!V)(lo hi:↑Int):(ln xs lo hi).length<=xs.length:=by
 unfold ln;rw[Kx,K0]
 lia
abbrev Fy(K:yF):V->↑Int->↑Int->Hp->VK->Prop:=λx lo hi H Q=>∃a c,x=.ref a/\SqT K H a c /\
 ¬ (HT.sIx c.length 0 lo=0/\HT.sIx c.length c.length hi=c.length)/\∀p,H p=VE->Q (.ref p) (upd H p (.tup (ln c lo hi)))
def sl_tup:SlR X (Fy X.K):=by
 intro y s Z H x v z w lo hi u Q I l t k j h;have(a,d,rfl,p,m,q):=h;cases l;have(f,r,i,g):=I.tuple p;have c:f.toArray.size=d.length:=by rw[JM];show r.length.symm
 show{"tuple",_,Km.lookup,i.typeIs,?_};show HT.getItem_tuple_cut i t k j (by rw[c];show m) ?_ (by rw[c];show g);rw[c];show{.ref s.heap.objs.size,_,I.laid (t':=s.toks) (o:=.tup (ln d lo hi)) (λb A q=>Of _ q) (JQ _) ?_,Xr,q _ (I.hok.fresh (JQ _))};show{Kg (ku d lo hi) g,_,(r.drop (HT.sIx d.length 0 lo)).take (HT.sIx d.length d.length hi-HT.sIx d.length 0 lo),Pq.new _ _}
abbrev C0(K:yF):R2:=λx y H Q=>∃a b d c,x=.ref a/\y=.ref b/\SqT K H a d/\SqT K H b c/\d≠[]/\d.length+c.length<=sizeLine /\
 (c=[]->Q (.ref a) H)/\(c≠[]->∀p,H p=VE->Q (.ref p) (upd H p (.tup (d++c))))
def Vals.nil_iff{xs:!V}{us:!Od}(r:Vals xs us):us=[]↔xs=[]:=by
 cases r with
 | nil=>simp
 | cons _ _=>simp
def AV:OpR X (PU .Add) (C0 X.K):=by
 intro G s Z H x y v u Q I k B h;obtain⟨a,b,i,p,rfl,rfl,j,C,r,f,m,A⟩:=h;cases k;cases B;have(l,d,t,_):=I.tuple j;have(g,c,p2,_):=I.tuple C;show HT.cat_tup t p2 (λz=>r (d.nil_iff.mp z)) (λz=>{.ref a,H,I,Xr,m (c.nil_iff.mp z)}) (λz=>?_) (by rw[<-d.length,<-c.length];show f);show{.ref s.heap.objs.size,_,I.laid (t':=s.toks) (o:=.tup (i++p)) (λb E q=>Of _ q) (JQ _) ?_,Xr,A (λw=>z (c.nil_iff.mpr w)) _ (I.hok.fresh (JQ _))};show{by rw[JT];show f,_,d.append c,Pq.new _ _}
end
abbrev ixN(n:Nat) (i:Int):↑Nat:=if 0<=i then(if i<n then VF i.toNat else VE)else if -(n:Int)<=i then VF (i+n).toNat else VE
abbrev atI{a:Type} (xs:!a) (i:Int):↑a:=(ixN xs.length i).bind λj=>xs[j]?
def tD{n:Nat}{i:Int}{j:Nat}(h:ixN n i*>j):seqIndex? i n*>j/\j<n/\-(n:Int)<=i/\i<n:=by
 unfold ixN at h;by_cases c:0<=i
 .rw[if_pos c]at h;by_cases a:i<n
  .rw[if_pos a]at h;have e:i.toNat=j:=Ke.inj h;show{by rw[Ug c a,e],by lia,by lia,a}
  .rw[if_neg a]at h;cases h
 .rw[if_neg c]at h;by_cases a : -(n:Int)<=i
  .rw[if_pos a]at h;have e:(i+n).toNat=j:=Ke.inj h;show{by rw[seqIndex_neg (by lia) a,e],by lia,a,by lia}
  .rw[if_neg a]at h;cases h
def nO{a:Type}{xs:!a}{i:Int}{v : a}(h:atI xs i*>v):∃j,seqIndex? i xs.length*>j/\xs[j]?*>v/\j<xs.length/\-(xs.length:Int)<=i/\i<xs.length:=by
 unfold atI at h;cases e:ixN xs.length i with
 | none=>rw[e]at h;cases h
 | some j=>
  rw[e]at h;have(d,c,f,g):=tD e;show⟨j,d,h,c,f,g⟩
abbrev sI(b:Expr):Prop:=∀o i,SQ b VG o i=operate [o,i] (Rf o i)
abbrev IxR(X:Cx)(r:R2):Prop:=
 ∀(a slice:Expr) (c:!(Addr×Obj)) (s:Og) (Z:St) (H:Hp) (x y:V) (v u:Od) (Q:VK),Inv X c Z H s->RelV x v->RelV y u->r x y H Q ->
  SQ slice VG v u=operate [v,u] (Rf v u)->Oh (Om X.prog X.w) X.A (Sf a slice v u) (EP X c Z Q) X.xe s
abbrev MtR(X:Cx)(id:String)(r:V->!V->Hp->VK->Prop):Prop:=
 ∀(d:!(Addr×Obj)) (s:Og) (Z:St) (H:Hp) (x:V) (a:!V) (v:Od) (c:!Od) (Q:VK),Inv X d Z H s->RelV x v->Vals a c->r x a H Q ->
  Oh (Om X.prog X.w) X.A (call (.builtin id) (v::c)) (EP X d Z Q) X.xe s
section
variable {X:Cx}{a b:Expr}{ta tb:TE}{pos:Pos}
def IxR.or{r f:R2}(h:IxR X r)(h':IxR X f):IxR X (λx y H Q=>r x y H Q\/f x y H Q):=by
 intro c slice d s Z H x y v u Q I e i q g;rcases q with q|q;show h c slice d s Z H x y v u Q I e i q g;show h' c slice d s Z H x y v u Q I e i q g
def MtR.or{id:String}{r g:V->!V->Hp->VK->Prop}(h:MtR X id r)(h':MtR X id g):MtR X id (λx xs H Q=>r x xs H Q\/g x xs H Q):=by
 intro d s Z H x xs v c Q I f e q;rcases q with q|q;show h d s Z H x xs v c Q I f e q;show h' d s Z H x xs v c Q I f e q
def Hz{r:R2}(i:IxR X r)(d:PE X a ta)(l:PE X b tb)(hs:sI b):PE X (.Subscript a b pos) (tOp r ta tb):=by
 intro f s Z H Q I h;show Tr (Dr d l I h λv u j x y e c g k q=>i a b f j Z e x y v u Q c g k q (hs _ _))
abbrev Ih(K:yF):R2:=λx y H Q=>∃p c i v,x=.ref p/\y=.int i/\SqL K H p c/\atI c i*>v/\Q v H
abbrev Ij(K:yF):R2:=λx y H Q=>∃p c i v,x=.ref p/\y=.int i/\SqT K H p c/\atI c i*>v/\Q v H
abbrev Ii:R2:=λx y H Q=>∃z i c,x=.str z/\y=.int i/\z.length<=sizeLine/\atI z.cps.toList i*>c/\Q (.str {#[c]}) H
def ix_list:IxR X (Ih X.K):=by
 intro f slice B s Z H x y v u Q I E P h o;have(p,S,i,z,rfl,rfl,C,O,q):=h;cases E;have(t,rfl):=P;have(e,r,k,hz):=I.list C;have(j,d,M,Y,J,G):=nO O;have(w,m,g):=r.get M;have N:=r.length;have U:=iV;have c:EP X B Z Q w s:=⟨z,H,I,g,q⟩;by_cases A:0<=i
 .have l:i.toNat=j:=by
   rw[Ug A G]at d;show Ke.inj d
  show item_listR k.isList A (by lia) (by rw[l];exists m) c o
 .have l:(i+(e.toArray.size:Int)).toNat=j:=by
   rw[seqIndex_neg (by lia) J]at d;rw[JM,<-N];show Ke.inj d
  show SA (x:=w) k.isList.typeIs TF.lookup
   (wpAny_getItem_list_neg (Q:=λr L=>r=w/\EP X B Z Q r L) k.isList (by lia) (by rw[JM]<;>lia) (by lia) (by rw[l];exists m) ⟨Xr,c⟩) o
def ix_tup:IxR X (Ij X.K):=by
 intro d slice f s Z H x y v u Q I m L h B;have(p,M,i,z,rfl,rfl,k,J,q):=h;cases m;have(t,rfl):=L;have(C,r,g,U):=I.tuple k;have(j,o,E,S,P,O):=nO J;have(w,l,e):=r.get E;have G:=r.length;have N:=iV;have c:EP X f Z Q w s:=⟨z,H,I,e,q⟩;show SA (x:=w) g.typeIs slot_tuple_getitem.lookup
  (getItem_tuple (j:=j) (Q:=λr A=>r=w/\EP X f Z Q r A) g (by lia) (by lia) (by rw[JM,<-G];show o) (by exists l) ⟨Xr,c⟩) B
def DU:IxR X Ii:=by
 intro d slice G s Z H x y v u Q I g A h m;have(z,i,c,rfl,rfl,E,w,q):=h;have(t,rfl):=g;have(J,rfl):=A;have(j,e,o,C,l,k):=nO w;have p:z.cps.toList.length=z.length:=by simp[Vr]
 rw[p]at e l k;have B:=iV;show Vh (UI s z t) slot_str_getitem.lookup (getItem_str (c:=c) (by
  have f:decide (i < -(2^63:Int))=VG:=decide_eq_false (by lia);have r:decide (i≥2^63)=VG:=decide_eq_false (by lia);rw[f,r,Bool.or_false]) (by rw[e];exists o) {.str {#[c]},H,I.tok _,{_,Xr},q}) m
abbrev rIx(K:yF):R2:=λx y H Q=>Ih K x y H Q\/Ij K x y H Q\/Ii x y H Q
def DT:IxR X (rIx X.K):=ix_list.or (ix_tup.or DU)
def rG(c:!Od)(n j:Nat)(u:Od):Ro (·.setIfInBounds j u) {cls:=.type "list",data:=.seq c.toArray n}={cls:=.type "list",data:=.seq (c.set j u).toArray n}:=by
 simp[Ro]
def Inv.lst{d:!(Addr×Obj)}{Z:St}{H:Hp}{s:Og}{p:Addr}{xs:!V}(I:Inv X d Z H s)(h:H p*>(.lst xs)) :
  ∃(c:!Od) (n:Nat),Vals xs c/\s.heap.get? p=VF {cls:=.type "list",data:=.seq c.toArray n}/\xs.length<=sizeLine:=by
 have(z,c,n,r,e):=I.hok p _ h;show⟨c,n,r,e,z⟩
def Inv.lstUpd{j:!(Addr×Obj)}{Z:St}{H:Hp}{s:Og}{p:Addr}{xs d:!V}{c its':!Od}{n g:Nat}{f:Obj->Obj}(I:Inv X j Z H s)(h:H p*>(.lst xs))
  (m:s.heap.get? p=VF {cls:=.type "list",data:=.seq c.toArray n}) (i:f {cls:=.type "list",data:=.seq c.toArray n}={cls:=.type "list",data:=.seq its'.toArray g}) (r:Vals d its') (hz:d.length<=sizeLine) (t:Nat) :
  Inv X j Z (upd H p (.lst d)) {s with heap:=s.heap.update p f,toks:=t}:=by
 have e:(s.heap.update p f).get? p=VF {cls:=.type "list",data:=.seq its'.toArray g}:=by
  rw[OL f m (by rw[i]<;>rfl),i]
 show I.write (x:=p) (e:=p) (by rw[h];trivial) (.inl rfl) (λb u l q=>(OM _ _ (Ot l)).trans q) {_,e} ?_;show⟨hz,its',g,r,e⟩
abbrev C8:V->V->V->Hp->(Hp->Prop)->Prop:=λo i v H Q=>∃p c k j,o=.ref p/\i=.int k/\H p*>(.lst c)/\ixN c.length k*>j/\Q (upd H p (.lst (c.set j v)))
def zy:Dm X C8:=by
 intro G s Z H o i v O N u Q I K B C h;have(p,A,k,j,rfl,rfl,z,J,q):=h;cases K;have(t,rfl):=B;have(c,n,r,f,E):=I.lst z;have(d,M,x,w):=tD J;have g:=r.length;have L:=iV;have l:Inv X G Z (upd H p (.lst (A.set j v))) {s with heap:=s.heap.update p (Ro (·.setIfInBounds j u))}:=
  I.lstUpd z f (rG c n j u) (r.set C j) (by rw[Lr];show E) s.toks
 by_cases y:0<=k
 .have e:k.toNat=j:=by
   rw[Ug y w]at d;show Ke.inj d
  show PySem.W.ki_setAt f y (by lia) (by rw[JM,<-g];show w) (by rw[e];show{_,l,q})
 .have e:(k+(c.toArray.size:Int)).toNat=j:=by
   rw[seqIndex_neg (by lia) x]at d;rw[JM,<-g];show Ke.inj d
  show PySem.W.ki_setBack f (by lia) (by rw[JM,<-g];show x) (by lia) (by rw[e];show{_,l,q})
def oY(lo c:↑Int)(n:Nat):(Qs lo c VE n).1=((HT.sIx n 0 lo:Nat):Int)/\(Qs lo c VE n).2.1=((HT.sIx n n c:Nat):Int)/\(Qs lo c VE n).2.2=1:=by
 show{?_,?_,Xr}
 .cases lo with
  | none=>simp[Qs,HT.sIx]
  | some i=>
   dsimp[Qs,HT.sIx,MF,show(1:Int)>0 by decide,if_true];by_cases h:i<0;dsimp[h,if_true]<;>lia;dsimp[h,if_false]<;>lia
 .cases c with
  | none=>simp[Qs,HT.sIx]
  | some i=>
   dsimp[Qs,HT.sIx,MF,show(1:Int)>0 by decide,if_true];by_cases h:i<0;dsimp[h,if_true]<;>lia;dsimp[h,if_false]<;>lia
def mF(c:!Od)(lo d:↑Int):slicePick c.toArray lo d VE=((c.drop (HT.sIx c.length 0 lo)).take (HT.sIx c.length c.length d-HT.sIx c.length 0 lo)).toArray:=by
 have(f,e,g):=oY lo d c.toArray.size;unfold slicePick;rw[f,e,g];dsimp[UJ,Vg,JM]<;>rfl
abbrev Ip(K:yF):V->↑Int->↑Int->Hp->VK->Prop:=λx lo d H Q=>∃a c,x=.ref a/\SqL K H a c/\∀p,H p=VE->Q (.ref p) (upd H p (.lst (ln c lo d)))
def sl_list:SlR X (Ip X.K):=by
 intro w s Z H x v y u lo e t Q I k m j g h;have(a,c,rfl,l,q):=h;cases k;have(p,r,f,i):=I.list l;have d:=r.length;show{"list",_,TF.lookup,f.isList.typeIs,?_};show wpAny_getItem_list_slice f.isList m j g .none ∅ ?_ (by rw[JM]<;>lia);rw[mF,<-d];show{.ref s.heap.objs.size,_,I.laid (t':=s.toks) (o:=.lst (ln c lo e)) (λb z q=>Of _ q) (JQ _) ?_,Xr,q _ (I.hok.fresh (JQ _))};show{Kg (ku c lo e) i,_,0,(r.drop (HT.sIx c.length 0 lo)).take (HT.sIx c.length c.length e-HT.sIx c.length 0 lo),Oq _ rfl}
abbrev kz:V->Bool
 | .non=>VH
 | .bl _=>VH
 | .int _=>VH
 | .str _=>VH
 | _=>VG
abbrev eqV:V->V->Bool
 | .non,.non=>VH
 | .bl a,.bl b=>a==b
 | .bl a,.int b=>(if a then 1 else 0)==b
 | .int a,.bl b=>a==(if b then 1 else 0)
 | .int a,.int b=>a==b
 | .str a,.str b=>a==b
 | _,_=>VG
def Dz{A:Oz}{s:Og}{y x:V}{u v:Od}(e:RelV y u)(c:RelV x v)(g:kz y=VH)(f:kz x=VH):OU A s u v (eqV y x):=by
 cases y with
 | non=>
  cases e;cases x with
  | non=>cases c;show OU.same _
  | bl b=>cases c;show OU.none_bool b
  | int b=>have(t,rfl):=c;show OU.none_int b t
  | str b=>have(t,rfl):=c;show OU.none_str b t
  | _=>show absurd (show VG=VH from f) JU
 | bl a=>
  cases e;cases x with
  | non=>cases c;show OU.bool_none a
  | bl b=>cases c;show OU.bool_bool a b
  | int b=>have(t,rfl):=c;show OU.bool_int a b t
  | str b=>have(t,rfl):=c;show OU.bool_str a b t
  | _=>show absurd (show VG=VH from f) JU
 | int a=>
  have(d,rfl):=e;cases x with
  | non=>cases c;show OU.int_none a d
  | bl b=>cases c;show OU.int_bool a d b
  | int b=>have(t,rfl):=c;show OU.int_int a d b t
  | str b=>have(t,rfl):=c;show Tl a d b t
  | _=>show absurd (show VG=VH from f) JU
 | str a=>
  have(d,rfl):=e;cases x with
  | non=>cases c;show OU.str_none a d
  | bl b=>cases c;show OU.str_bool a d b
  | int b=>have(t,rfl):=c;show Tn a d b t
  | str b=>have(t,rfl):=c;show OU.str_str a d b t
  | _=>show absurd (show VG=VH from f) JU
 | _=>show absurd (show VG=VH from g) JU
abbrev eqU(x:V) (u:Od):Bool:=match u with
 | .none=>eqV .non x
 | .bool b=>eqV (.bl b) x
 | .int i _=>eqV (.int i) x
 | .str z _=>eqV (.str z) x
 | _=>VG
def wJ{x y:V}{u:Od}(r:RelV y u)(f:kz y=VH):eqU x u=eqV y x:=by
 cases y with
 | non=>cases r;rfl
 | bl b=>cases r;rfl
 | int i=>have(t,rfl):=r;rfl
 | str z=>have(t,rfl):=r;rfl
 | _=>show absurd (show VG=VH from f) JU
def jh{x:V}:∀{xs:!V} {us:!Od},Vals xs us->xs.all kz=VH->us.any (eqU x)=xs.any λy=>eqV y x
 | _,_,.nil,_=>rfl
 | y::xs,u::us,.cons r t,f=>by
  rw[Lj,JL]at f;rw[Mg,Mg,wJ r f.1,jh t f.2]
def gU{A:Oz}{s:Og}{x:V}{v:Od}(e:RelV x v)(d:kz x=VH):∀{xs:!V} {us:!Od},Vals xs us->xs.all kz=VH->∀u∈us,OU A s u v (eqU x u)
 | _,_,.nil,_=>λu c=>by cases c
 | y::xs,u::us,.cons r t,f=>λg c=>by
  rw[Lj,JL]at f;rcases ycM c with rfl|c;rw[wJ r f.1];show Dz r e f.1 d;show gU e d t f.2 g c
abbrev inV(x:V) (xs:!V):Bool:=xs.any λy=>eqV y x
abbrev rIn(K:yF)(d:Bool):R2:=λx y H Q=>∃p c,y=.ref p/\(SqL K H p c\/SqT K H p c)/\kz x=VH/\c.all kz=VH/\Q (.bl (if d then ~~~inV x c else inV x c)) H
def op_in_seq:OpR X (OQ .In) (rIn X.K VG):=by
 intro o s Z H x y v u Q I i l h;have(p,m,rfl,d,j,e,q):=h;cases l;rcases d with d|d
 .have(c,r,f,k):=I.list d;show Ul (eqU x) f.isList (λw g=>gU i j r e w (by exists g)) {.bl _,H,I,Xr,?_};rw[show c.toArray.any (eqU x)=c.any (eqU x) by simp,jh r e];show q
 .have(c,r,f,k):=I.tuple d;show T1 (eqU x) f (λw g=>gU i j r e w (by exists g)) {.bl _,H,I,Xr,?_};rw[show c.toArray.any (eqU x)=c.any (eqU x) by simp,jh r e];show q
def op_notIn_seq:OpR X (OQ .NotIn) (rIn X.K VH):=by
 intro o s Z H x y v u Q I i l h;have(p,m,rfl,d,j,e,q):=h;cases l;rcases d with d|d
 .have(c,r,f,k):=I.list d;show Ts (eqU x) f.isList (λw g=>gU i j r e w (by exists g)) {.bl _,H,I,Xr,?_};rw[show c.toArray.any (eqU x)=c.any (eqU x) by simp,jh r e];show q
 .have(c,r,f,k):=I.tuple d;show Th (eqU x) f (λw g=>gU i j r e w (by exists g)) {.bl _,H,I,Xr,?_};rw[show c.toArray.any (eqU x)=c.any (eqU x) by simp,jh r e];show q
def op_notIn_str:OpR X (OQ .NotIn) (λx y H Q=>∃i j,x=.str i/\y=.str j/\Q (.bl (~~~(~~~(Qa j i 0 j.length 1).isEmpty))) H):=by
 intro e s Z H x y v u Q I c d h;have(i,j,rfl,rfl,q):=h;have(t,rfl):=c;have(f,rfl):=d;show notIn_str {.bl _,H,I,Xr,q}
def nR:Pi X (.builtin "len") (λxs H Q=>∃p d,xs=[.ref p]/\(SqL X.K H p d\/SqT X.K H p d)/\Q (.int d.length) H):=by
 intro m s Z H xs l Q I r h;have(p,d,rfl,e,q):=h;have(u,rfl,k):=iN r;cases k;have o:=iV;rcases e with e|e
 .have(i,g,f,j):=I.list e;have c:=g.length;show Calls.call_len_list f.isList (by dsimp[JM]<;>lia) {.int d.length,H,I.tok _,{s.toks+1,by rw[JM,c]},q}
 .have(i,g,f,j):=I.tuple e;have c:=g.length;show len_tuple f (by dsimp[JM]<;>lia) {.int d.length,H,I.tok _,{s.toks+1,by rw[JM,c]},q}
def nS:Pi X (.builtin "len") (λxs H Q=>∃z,xs=[.str z]/\z.length<=sizeLine/\Q (.int z.length) H):=by
 intro e s Z H xs c Q I r h;have(z,rfl,d,q):=h;have(u,rfl,t,rfl):=iN r;have f:=iV;show len_str (by lia) {.int z.length,H,I.tok _,{_,Xr},q}
def Pi.or{f:Od}{r g:!V->Hp->VK->Prop}(h:Pi X f r)(h':Pi X f g):Pi X f (λxs H Q=>r xs H Q\/g xs H Q):=by
 intro d s Z H xs c Q I e q;rcases q with q|q;show h d s Z H xs c Q I e q;show h' d s Z H xs c Q I e q
def nU:Pi X (.type "list") (λxs H Q=>∃p f,xs=[.ref p]/\(SqL X.K H p f\/SqT X.K H p f)/\∀l,H l=VE->Q (.ref l) (upd H l (.lst f))):=by
 intro G s Z H xs J Q I r h;have(p,f,rfl,j,q):=h;have(u,rfl,E):=iN r;cases E;have k:∀(c:!Od),Vals f c->f.length<=sizeLine->∀(d:Heap) (i:Nat),(∀b C,s.heap.get? b*>C->d.get? b*>C) ->
   d.get? s.heap.objs.size=VF {cls:=.type "list",dict:=VE,data:=.seq c.toArray i,slots:=#[]}->EP X G Z Q (.ref s.heap.objs.size) {s with heap:=d}:=λc g t d i v e=>
  {.ref s.heap.objs.size,_,I.laid (t':=s.toks) v (JQ _) (show Pe X.prog X.w _ d _ (.lst f)from⟨t,c,i,g,e⟩),Xr,q _ (I.hok.fresh (JQ _))}
 rcases j with j|j
 .have(c,g,A,t):=I.list j;have m:=g.length;have(o,z,y,n,x):=A.isList;show call_list_seq p (.inl rfl) z y x (λd i v e=>k c g t d i v e) (by dsimp[JM]<;>lia)
 .have(c,g,A,t):=I.tuple j;have m:=g.length;have(o,z,y,n,x):=A;show call_list_seq p (.inr rfl) z y x (λd i v e=>k c g t d i v e) (by dsimp[JM]<;>lia)
def mn:Pi X (.type "tuple") (λxs H Q=>∃p d,xs=[.ref p]/\((SqL X.K H p d/\∀l,H l=VE->Q (.ref l) (upd H l (.tup d)))\/(SqT X.K H p d/\Q (.ref p) H))):=by
 intro t s Z H xs B Q I r h;have(p,d,rfl,h):=h;have(u,rfl,A):=iN r;cases A;rcases h with⟨j,q⟩|⟨j,q⟩
 .have(c,k,i,m):=I.list j;have x:=k.length;show call_tuple_list i.isList (λg z=>?_) (by dsimp[JM]<;>lia);have v:Inv X t Z H {s with heap:=g}:=I.kept (t':=s.toks) z;have y:Inv X t Z (upd H g.objs.size (.tup d)) {s with heap:=g.push {cls:=.type "tuple",data:=.seq c.toArray}}:=
   v.laid (t':=s.toks) (λb o e=>Of _ e) (JQ _) (show Pe X.prog X.w _ _ _ (.tup d)from{m,c,k,Pq.new _ _})
  show{.ref g.objs.size,_,y,Xr,q _ (v.hok.fresh (JQ _))}
 .have(c,k,i,m):=I.tuple j;show call_tuple_same i {.ref p,H,I,Xr,q}
abbrev tyV(K:yF)(T:String)(x:V)(H:Hp):Prop:=match x with
 | .str _=>T = "str"
 | .int _=>T = "int"
 | .ref p=>(T = "list" /\ ∃d,SqL K H p d)\/(T = "tuple" /\ ∃o,K.lookup p*>o/\o.cls=.type "tuple" /\ o.dict=VE) \/
   (T = "dict" /\ ((∃c,H p*>(.dK c)) \/ ∃c,H p*>(.dT c)))\/(T = "set" /\ ∃S n,H p*>(.set S n))
 | _=>False
def zO{q:!(Addr×Obj)}{Z:St}{H:Hp}{s:Og}{T:String}{x:V}{v:Od}(I:Inv X q Z H s)(r:RelV x v)(g:tyV X.K T x H) :
  s.TypeIs v T/\∀a,v=.ref a->∃m,s.heap.get? a*>m/\m.dict=VE:=by
 cases x with
 | str z=>
  have(t,rfl):=r;cases (show T = "str" from g);show{UI s z t,λ_ e=>nomatch e}
 | int i=>
  have(t,rfl):=r;cases (show T = "int" from g);show{Rq s i t,λ_ e=>nomatch e}
 | ref p=>
  cases r;rcases g with⟨rfl,A,u⟩|⟨rfl,o,d,y,k⟩|⟨rfl,d⟩|⟨rfl,S,n,d⟩
  .have(w,_,l,_):=I.list u;show{l.isList.typeIs,λa e=>?_};cases e;have(o,n,e,c,k,_):=l;show⟨o,e,k⟩
  .show{{o,I.kIn p o d,y},λa e=>?_};cases e;show{o,I.kIn _ o d,k}
  .have z:∃o,s.heap.get? p*>o/\o.ExactDict:=by
    rcases d with⟨j,d⟩|⟨j,d⟩
    .obtain⟨_,_,_,_,o,_,_,e,f,_⟩:=I.hok p _ d;show⟨o,e,f⟩
    .obtain⟨_,_,_,_,o,_,_,e,f,_⟩:=I.hok p _ d;show⟨o,e,f⟩
   have(o,e,f):=z;show{⟨o,e,f.1⟩,λa h=>?_};cases h;show⟨o,e,f.2.1⟩
  .have(o,_,_,_,e,f,_):=I.hok p _ d;show{⟨o,e,f.1⟩,λa h=>?_};cases h;show⟨o,e,f.2.1⟩
 | _=>show OE g
abbrev FM(K:yF)(T:String)(r:V->!V->Hp->VK->Prop)(d:TE):TE:=λZ H Q=>d Z H λx c=>tyV K T x c/\r x [] c Q
abbrev tBM(K:yF)(T:String)(r:V->!V->Hp->VK->Prop)(f:TE)(t:TA):TE:=λZ H Q=>f Z H λx c=>tyV K T x c/\t Z c λd e=>r x d e Q
variable {o e:Expr}{es:!Expr}{to:TE}{t:TA}{name:Str}{apos cpos:Pos}{T id:String}{r:V->!V->Hp->VK->Prop}
def EL(m:Rs T)(f:Slot T name id)(g:RG (.builtin id)=pure (.type "method_descriptor"))(z:MtR X id r)(B:PE X o to)
  (c:O6 o name X.env (eval o X.env)=eval o X.env:=by rfl) (d:(apos.endLine==cpos.line)=VH:=by rfl):PE X (.Call (.Attribute o name apos) [] [] cpos) (FM X.K T r to):=by
 intro i s Z H Q I h;show Sl c d (thn (B i s Z H _ I h) λv q w=>?_);have(x,p,j,k,u,A):=w;have(y,l):=zO j k u;show{T,id,m,f,g,y,l,Rh rfl (Nd (z i q Z p x [] v [] Q j k .nil A))}
def Hy(A:Rs T)(i:Slot T name id)(j:RG (.builtin id)=pure (.type "method_descriptor"))(M:MtR X id r)(S:PE X o to)(w:PA X (e::es) t)
  (d:O6 o name X.env (eval o X.env)=eval o X.env:=by rfl)
  (g:((QJ cpos (OD (e::es) X.env)).all (λx=> ~~~x.1)&&(TH cpos (Sa [] X.env)).all (λx=>x.1.isSome)
   && decide ((e::es).length+([]:!Ux).length+(if([]:!Ux).isEmpty then 0 else 1)<30))=VH:=by rfl)
  (f:(apos.endLine==cpos.line)=VH:=by rfl) (hs:OD (e::es) X.env=(VG,eval e X.env)::OD es X.env:=by rfl) (c:(QJ cpos (OD es X.env)).any (·.1)=VG:=by rfl) :
  PE X (.Call (.Attribute o name apos) (e::es) [] cpos) (tBM X.K T r to t):=by
 intro k s Z H Q I h;show wpAny_Call_method_late d g f rfl (thn (S k s Z H _ I h) λv E J=>?_);have(x,B,l,m,G,P):=J;have(L,u):=zO l m G;show{T,id,A,i,j,L,u,?_};have p:=w cpos k E Z B _ l P;rw[hs]at p|-;show Rh (by change(VG||(QJ cpos (OD es X.env)).any (·.1))=VG;rw[c]<;>rfl) (Calls.evalArgs_plain ?_);show thn p λy O ⟨vs,z,q,C,N⟩=>M k O Z z x vs v y Q q m C N
end
abbrev MtM(X:Cx)(id:String)(r:V->!V->Hp->VK->Prop):Prop:=
 ∀(d:!(Addr×Obj)) (s:Og) (Z:St) (H:Hp) (x:V) (a:!V) (v:Od) (c:!Od) (Q:VK),Inv X d Z H s->RelV x v->Vals a c->r x a H Q ->
  Oh (Om X.prog X.w) X.A (call (.builtin id) (v::c)) (EP X d Z Q) X.xe s
def Vals.one:∀{x:V} {us:!Od},Vals [x] us->∃u,us=[u]/\RelV x u:=by
 intro x us h;cases h with
 | cons r t=>cases t;show{_,Xr,r}
def Vals.zero:∀{us:!Od},Vals [] us->us=[]
 | _,.nil=>rfl
def Vals.dropLast{xs:!V}{us:!Od}(h:Vals xs us):Vals xs.dropLast us.dropLast:=by
 induction h with
 | nil=>show .nil
 | cons r t a=>
  cases t with
  | nil=>show .nil
  | cons q c=>show .cons r a
def Vals.reverse{xs:!V}{us:!Od}(h:Vals xs us):Vals xs.reverse us.reverse:=by
 induction h with
 | nil=>show .nil
 | cons r t a=>rw[LO,LO];show Vals.append a (.cons r .nil)
def Vals.rep{xs:!V}{us:!Od}(h:Vals xs us):∀k:Nat,Vals (JO k xs).flatten (JO k us).flatten
 | 0=>.nil
 | k+1=>by
  rw[KC,KC,K9,K9];show Vals.append h (Vals.rep h k)
def qW{d:Type}(l:!d):l.eraseIdx (l.length-1)=l.dropLast:=by
 induction l with
 | nil=>rfl
 | cons a r c=>
  cases r with
  | nil=>rfl
  | cons b r=>
   have e:(a::b::r).length-1=((b::r).length-1)+1:=by
    have f:(a::b::r).length=r.length+2:=rfl;have g:(b::r).length=r.length+1:=rfl
    lia
   rw[e,List.eraseIdx_cons_succ,c];all_goals rfl
def fL(c:!Od):∀(k:Nat) (a:!Od),
  MP (λd g=>d++g) a.toArray (JO k c.toArray)=(a++(JO k c).flatten).toArray
 | 0,a=>by simp
 | k+1,a=>by
  have e:a.toArray++c.toArray=(a++c).toArray:=by simp
  have f:(a++c)++(JO k c).flatten=a++(JO (k+1) c).flatten:=by
   rw[KC,K9,Ka]
  rw[<-f,<-fL c k (a++c),<-e,KC,LV]
section
variable {X:Cx}{OK:!(Addr×Obj)}{Z:St}{H:Hp}{s:Og}{l b:Addr}{xs ys zs:!V}
def Inv.lset{a its':!Od}{n:Nat}{f:Array Od->Array Od}{t':Nat}(I:Inv X OK Z H s)(h:H l*>(.lst xs))
  (e:s.heap.get? l=VF {cls:=.type "list",data:=.seq a.toArray n}) (g:f a.toArray=its'.toArray) (i:Vals ys its') (hz:ys.length<=sizeLine) :
  Inv X OK Z (upd H l (.lst ys)) {s with heap:=s.heap.update l (Ro f),toks:=t'}:=by
 have q:=PySem.IsL.update e f;rw[g]at q;show I.write (x:=l) (e:=l) (by rw[h];show trivial) (.inl rfl) (λk u j d=>(OM s.heap (Ro f) (Ot j)).trans d) {_,q} ?_;show{hz,its',_,i,q}
def Inv.lnew{a:!Od}{t':Nat}(I:Inv X OK Z H s)(d:Vals ys a)(hz:ys.length<=sizeLine) :
  Inv X OK Z (upd H s.heap.objs.size (.lst ys)) {s with heap:=s.heap.push {cls:=.type "list",data:=.seq a.toArray},toks:=t'}:=
 I.laid (λ_ _ q=>Of _ q) (JQ _) {hz,a,0,d,Oq _ rfl}
def Inv.fresh(I:Inv X OK Z H s):H s.heap.objs.size=VE:=I.hok.fresh (JQ _)
def Inv.lstM(I:Inv X OK Z H s)(c:H l*>(.lst xs)):xs.length<=sizeLine/\∃(a:!Od) (n:Nat),Vals xs a/\xs.length=a.length/\s.heap.get? l=VF {cls:=.type "list",data:=.seq a.toArray n}:=by
 have(z,a,n,r,e):=I.hok l _ c;show⟨z,a,n,r,r.length,e⟩
def eJ{n:Nat}(h:n<=sizeLine):OS n=VG:=by
 unfold OS;show decide_eq_false (by lia)
end
section
variable {X:Cx}
abbrev oJ:V->!V->Hp->VK->Prop:=λx vs H Q=>∃l a y,x=.ref l/\vs=[y]/\H l*>(.lst a)/\a.length<sizeLine/\Q .non (upd H l (.lst (a++[y])))
def uX:MtM X "list.append" oJ:=by
 intro m s Z H x vs v j Q I f d h;have(l,i,y,rfl,rfl,c,k,q):=h;cases f;have(u,rfl,g):=d.one;have(z,a,n,r,o,e):=I.lstM c;show P5 F.slot_list_append {_,e,Xr} F.entry_list_append (F.args_list_append_2 _ _) (PySem.list_append l a.toArray n u (by rw[JM];lia)) {e,?_};show{.non,_,I.lset (its':=a++[u]) c e ∅ (r.append (.cons g .nil)) ?_,Xr,q};rw[JT,List.length_singleton]
 lia
abbrev BE:V->!V->Hp->VK->Prop:=λx vs H Q=>∃l b a c,x=.ref l/\vs=[.ref b]/\H l*>(.lst a)/\H b*>(.lst c)/\a.length+c.length<=sizeLine/\Q .non (upd H l (.lst (a++c)))
def mt_extend:MtM X "list.extend" BE:=by
 intro G s Z H x vs v C Q I j o h;obtain⟨l,b,y,A,rfl,rfl,g,p,E,q⟩:=h;cases j;have(u,rfl,m):=o.one;cases m;have(z,c,n,r,J,e):=I.lstM g;have(B,a,t,i,k,w):=I.lstM p;have f:c.toArray.size+a.toArray.size<=sizeLine:=by rw[JM,JM];lia
 have d:¬ (~~~c.toArray.isEmpty&&OS (c.toArray.size+a.toArray.size))=VH:=by
  rw[eJ f,LP];show JU
 show P5 RZ {_,e,Xr} RN (RC _ _)
  (Ri l c.toArray n b a.toArray t d (by rw[JM];lia) (by lia)) {e,w,?_}
 show{.non,_,I.lset (its':=c++a) g e ∅ (r.append i) ?_,Xr,q};rw[JT]
 lia
abbrev Fx:V->!V->Hp->VK->Prop:=λx vs H Q=>∃l a y,x=.ref l/\vs=[]/\H l*>(.lst a)/\a[a.length-1]?*>y/\Q y (upd H l (.lst a.dropLast))
def D8:MtM X "list.pop" Fx:=by
 intro w s Z H x vs v t Q I k g h;have(l,p,y,rfl,rfl,f,o,q):=h;cases k;have c:=g.zero;subst c;have(z,a,n,r,j,e):=I.lstM f;have(u,i,m):=r.get o;have d:a.toArray[a.toArray.size-1]?*>u:=by
  change a.toArray[a.length-1]?*>u;rw[<-M3,<-j];show i
 show P5 F.slot_list_pop {_,e,Xr} F.entry_list_pop (F.args_list_pop_1 _) (MeetsSeq.list_pop_last l a.toArray n u d (by rw[JM];lia)) {e,?_};show{y,_,I.lset (its':=a.dropLast) f e ?_ r.dropLast ?_,m,q}
 .change a.toArray.eraseIdxIfInBounds (a.toArray.size-1)=a.dropLast.toArray;rw[JM,List.eraseIdxIfInBounds_toArray,qW]
 .rw[List.length_dropLast]
  lia
abbrev Ib:R2:=λx y H Q=>∃l b a c,x=.ref l/\y=.ref b/\H l*>(.lst a)/\H b*>(.lst c)/\a.length+c.length<=sizeLine/\∀p,H p=VE->Q (.ref p) (upd H p (.lst (a++c)))
def op_cat:OpR X (PU .Add) Ib:=by
 intro B s Z H x y v u Q I f o h;obtain⟨l,b,p,t,rfl,rfl,g,k,A,q⟩:=h;cases f;cases o;have(z,c,n,r,C,e):=I.lstM g;have(w,a,E,d,i,m):=I.lstM k;show PySem.P.add_list e m ?_ (by rw[JM,JM];lia);have j:c.toArray++a.toArray=(c++a).toArray:=by simp
 rw[j];show{.ref _,_,I.lnew (t':=s.toks) (r.append d) (by rw[JT];lia),Xr,q _ I.fresh}
abbrev Im:R2:=λx y H Q=>∃l k a,x=.ref l/\y=.int k/\H l*>(.lst a)/\-(2^63)<=k/\k<2^63/\a.length*k.toNat<=sizeLine /\
 ∀p,H p=VE->Q (.ref p) (upd H p (.lst (JO k.toNat a).flatten))
def jw{a:Type}(xs:!a)(k:Nat):(JO k xs).flatten.length=k*xs.length:=by
 induction k with
 | zero=>simp
 | succ k c=>rw[KC,K9,JT,c,Nat.succ_mul,Nat.add_comm]
def op_rep:OpR X (PU .Mult) Im:=by
 intro N s Z H x y v u Q I A L h;obtain⟨l,k,M,rfl,rfl,C,B,G,w,q⟩:=h;cases A;have(t,rfl):=L;have(z,c,n,r,J,e):=I.lstM C;have g:c.toArray.size*k.toNat<=sizeLine:=by rw[JM,<-J];show w
 have i:¬ c.toArray.size*k.toNat>(2^63-1) / 8:=by
  have:(sizeLine:Nat)<=(2^63-1) / 8:=by decide
  lia
 have j:¬ (~~~Builtin.List.listFitsIndex k)=VH:=by
  rw[SR B G];show JU
 have d:¬ OS (c.toArray.size*k.toNat)=VH:=by
  rw[eJ g];show JU
 have f:MP (λp o=>p++o) #[] (JO (if c.toArray.isEmpty=VH then 0 else k.toNat) c.toArray)=(JO k.toNat c).flatten.toArray:=by
  have K:∀m:Nat,MP (λp o=>p++o) #[] (JO m c.toArray)=(JO m c).flatten.toArray:=λm=>by
   have:=fL c m [];rw[KT]at this;show this
  rw[K];cases c with
  | nil=>simp
  | cons a O=>rw[if_neg ∅]
 show QY (T:="list") (U:="int") (by decide) {_,e,Xr} (λE=>Rq E k t) Um SE QB repeat_list Sm.lookup
  (P5 QB (Rq s k t) Sn (Sb _ _) (SM k t l c.toArray n)
   {e,Xr,{_,e,Xr},P5 Uo {_,e,Xr} T3 (TJ _ _) (Rb l c.toArray n k t j i d) {e,?_}})
 rw[f];show{.ref _,_,I.lnew (t':=s.toks) (r.rep k.toNat) (by rw[jw,Nw];show w),Xr,q _ I.fresh}
end
section
variable {prog:Os}{w:Ox}{A:Oz}{E:Od->Og->Prop}{s:Og}
def vK(d e:!Od)(a c:Nat):d.toArray.extract 0 a++e.toArray++d.toArray.extract c d.toArray.size=(d.take a++e++d.drop c).toArray:=by
 apply Array.toList_inj.mp;first
  | (simp
     show J1 ∅)
  | simp[J1]
  | simp
def qR{a c n:Nat}(f:a<=c)(g:c<=n):Qs (VF (a:Int)) (VF (c:Int)) VE n=((a:Int),(c:Int),1):=by
 dsimp[Qs,MF];have e:¬ ((a:Int)<0):=by lia
 have d:¬ ((c:Int)<0):=by lia
 dsimp[e,d,if_false,show(1:Int)>0 by decide,if_true];congr 1
 .lia
 .congr 1;lia
set_option maxRecDepth 100000 in
def mE{l b sl:Addr}{items new:Array Od}{n G:Nat}{r o:Od}{a c:Nat}{Q:Unit->Og->Prop}
  (e:s.heap.get? l=VF {cls:=.type "list",data:=.seq items n}) (z:s.heap.get? b=VF {cls:=.type "list",data:=.seq new G}) (p:l≠b)
  (hs:s.heap.IsSliceOf sl r o .none) (pl:RF r (VF (a:Int))) (C:RF o (VF (c:Int))) (q:a<=c) (B:c<=items.size)
  (hsz:items.size+new.size<=sizeLine) (h:Q () {s with heap:=s.heap.update l (Ro λxs=>xs.extract 0 a++new++xs.extract c xs.size)}) :
  Oh (Om prog w) A (R8 (.ref l) (.ref sl) (.ref b)) Q E s:=by
 have v:s.heap.IsList l items:=PySem.IsL.isList e;have H:s.heap.IsList b new:=PySem.IsL.isList z;have(os,f,t,g):=id hs;have k:s.TypeIs (.ref sl) "slice" :=⟨os,f,t⟩;have i:¬ ((rawPart VE==Q8 0)=VH):=JU;have d:Sg (.ref l) (.ref b)=VG:=by
  unfold Sg;show beq_eq_false_iff_ne.mpr p
 have j:(max (a:Int) (c:Int)).toNat=c:=by lia
 have u:((λxs:Array Od=>xs.extract 0 a++new++xs.extract c xs.size) items).size<=sizeLine+1:=by
  dsimp[Nx,Array.size_extract]
  lia
 unfold R8;try with_reducible refine OA ?_
 first|refine Oc (Oe ?_)|skip
 show Oc (Rg v.typeIs (by decide) ?_);show Oc (OV (name:=Op "__setitem__") v.typeIs TK
  (P0 TK v.typeIs entry_list_setitem ?_ (args_list_setitem _ _ _)))
 change Oh _ _ (RQ (.ref sl) >>= _) _ _ s;show Oc ?_;unfold RQ;show Oc (SG k slice_no_index ?_);dsimp[Option.isNone_none,if_true];show Oe ?_;change Oh _ _ (RG (.ref sl) >>= _) _ _ s;show Oc (Ql k ?_);first
  | rw[if_neg (by decide)]
  | refine PySem.W.KFB.if_not (by decide) ?_
 rw[listSliceParts_eq];show Oc (Oc (OB f g (x:=.none) rfl (Oc (SS .none ?_))));rw[if_neg i];show Oc (OB f g (x:=r) rfl (Oc (SS pl ?_)));show Oc (OB f g (x:=o) rfl (Oc (SS C (Oe ?_))));first
  | dsimp[d,Le,if_false]
  | refine PySem.W.KFB.if_not d ?_
  | (dsimp only
     rw[if_neg (by rw[d];show JU)])
 show Oc (m:=R6 (.ref b) "must assign iterable to extended slice") ?_;unfold R6;show Oc (Ql H.typeIs ?_);first
  | refine PySem.W.KFB.if_so (by decide) ?_
  | rw[if_pos (by decide)]
  | dsimp[beq_self_eq_true,NZ,if_true]
 unfold U4;show Oc (PX z rfl (Oe ?_));show Oc (Oc (PX e rfl (Oe ?_)));show Oc (SU ((sliceIndices_raw (VF (a:Int)) (VF (c:Int)) VE items.size ∅).trans (congrArg (pure:Int×Int×Int->Sem (Int×Int×Int)) (qR q B))) ?_);change Oh _ _ (if((1:Int)==1)=VH then _ else _) _ _ s;rw[if_pos (by decide)];show Oc (Qt ?_);first
  | dsimp[eJ hsz,Le,if_false]
  | refine PySem.W.KFB.if_not (eJ hsz) ?_
 first|refine Oc (Oe ?_)|skip
 change Oh _ _ (updateSeq l (λxs=>xs.extract 0 ((a:Int)).toNat++new++xs.extract (max (a:Int) (c:Int)).toNat xs.size) >>= _) _ _ s;rw[j,Kh];show Oc (Up (hz:=Kg (K1 _ _) hsz) (_hz':=u) e rfl ?_);show Oc (SV ?_);first
  | show Oc (Oe (Oe ⟨.none,rfl,Oe h⟩))
  | show Oe ⟨.none,rfl,Oe h⟩
end
section
variable {X:Cx}
def vI{v:!(Addr×Obj)}{s:Og}{Z:St}{H:Hp}{l b sl:Addr}{xs k:!V}{a c:Int}{p o:Od}{Q:Unit->Og->Prop}(I:Inv X v Z H s)
  (t:H l*>(.lst xs)) (B:H b*>(.lst k)) (g:l≠b) (hs:s.heap.IsSliceOf sl p o .none) (E:RelV (.int a) p) (G:RelV (.int c) o) (u:0<=a) (i:a<=c) (K:c<=xs.length)
  (hz:xs.length+k.length<=sizeLine) (h:∀q,Inv X v Z (upd H l (.lst (xs.take a.toNat++k++xs.drop c.toNat))) q->Q () q) :
  Oh (Om X.prog X.w) X.A (R8 (.ref l) (.ref sl) (.ref b)) Q X.xe s:=by
 have(J,rfl):=E;have(L,rfl):=G;have(z,f,n,r,N,e):=I.lstM t;have(M,d,O,x,y,C):=I.lstM B;have(j,rfl):=MH u;have(m,rfl):=MH (Int.le_trans u i);dsimp[Kh]at h;show mE (a:=j) (c:=m) e C g hs (.int _ _) (.int _ _) (by lia) (by rw[JM];lia) (by rw[JM,JM];lia) (h _ ?_);show I.lset (its':=f.take j++d++f.drop m) (t':=s.toks) t e ?_ (Vals.append (Vals.append (r.take _) x) (r.drop _)) ?_;show vK f d j m
 .rw[JT,JT,Kx,K0]
  lia
end
end L2
namespace Att
open PySem PySem.W PySem.Calls PyProof.Rows
def ints_of_wellAll{P:TY}{h:Heap}:∀(ns:!Int) (vs:!Od),WellAll P h vs (ns.map VA)->Uy vs ns:=by
 intro ns
 induction ns with
 | nil=>
  intro vs w;rw[Lv]at w;cases w;show .nil
 | cons n ns c=>
  intro vs w;rw[JN]at w;cases w with
  | cons a b=>
   cases a;show .cons _ _ (c _ b)
def script_of{l:U5}{n:Nat}(v:l.most*>n){P:TY}{h:Heap}{c:!Vw}{f:!Od}
  (e:l.row.toRowW.claim.pre c=VH) (o:WellAll P h f c) :
  ∃a vs ns,f=[Oy a]/\c=[Vw.list (ns.map VA)]/\h.get? a=VF {cls:=.type "list",data:=.seq vs.toArray}/\Uy vs ns/\ns.length<=n:=by
 have m:U6.hasAll [] c [.list .int]=VH:=(pre_splitW e).1;have p:l.pre.holds [] {args:=c}=VH:=(pre_splitW e).2;have(d,r,rfl,x,s):=hasAllW_cons m;obtain rfl:=hasAllW_nil s;have(z,rfl,t):=hasW_list x;have(ns,rfl):=items_int t;have i:ns.length<=n:=by
  unfold U5.pre at p;have k:(WTm.not (.lt (.lit (.int (n:Int))) (.len (.arg 0)))).holds [] {args:=[.list (ns.map .int)]}=VH:=by
   have k:=(holds_andW p).1;rw[v]at k;show k
  have j:=condW_of k (w_not (w_lt w_lit (w_len_list (w_arg rfl))));rw[JK]at j;show Nat.le_of_not_lt λq=>?_;have u:(n:Int)<((ns.length:Nat):Int):=by lia
  first
   | (rw[decide_eq_true u]at j;show absurd j (by decide))
   | (simp at j;lia)
 cases o with
 | cons w1 w=>
  cases w;cases w1 with
  | list y g=>show{_,_,ns,Xr,Xr,y,ints_of_wellAll ns _ g,i}
def post_true(l:U5)(a:!Vw):l.row.toRowW.claim.post a (.bool VH) a=VH:=
 postW_of (r:=l.row.toRowW) (X:=(VH==VH))
  (show Vs [] (.bool VH) .bool=VH by first|rfl|decide|simp[Vs,U6.arms,U6.armsAll])
  (show(WTm.eq .res (.lit (.bool VH))).value [] {args:=a,res:=VF (.bool VH),after:=a}*>(.bool (VH==VH))from w_eq_bool (w_res rfl) w_lit) rfl
def attach_call{l:U5}{n:Nat}{q:Os}{loose:!Str}{XP:(Str->↑Od)->Heap->Prop}{YP:Ox->Heap->Prop}{d:DefRec}
  (J:l.most*>n) (y:d.params.defaults=[])
  (call:∀(w:Ox) (e c : Og) (t x:Str->↑Od) (j:Addr) (o:Obj) (v s h:Od) (a:Addr) (vs:!Od) (ns:!Int),
   Ground q loose [] XP w e t x c.heap->YP w c.heap ->
   c.heap.get? j*>o->o.data=.func (docDef d.name d.params d.body d.scope v s h)->c.heap.CodeRec s d.name->t d.name*>(.ref j) ->
   c.heap.get? a=VF {cls:=.type "list",data:=.seq vs.toArray}->Uy vs ns->ns.length<=n->c.gens = #[] ->
   Qb (Om l.prog w) SB (.call (.ref j) {[.ref a],[]}) (λr p=>r=.ok (.ret (.bool VH))/\OldK c.heap p.heap/\p.os=c.os/\RP p.gens) c) :
  WalkO q loose XP YP l.row.toRowW d [] (λf vs=>PySem.call f vs):=by
 intro w e c t x G Y j o v s h Z kV N M u B z X C E as i H U A Q;obtain rfl:Z=.none:=Dflts.none B y;obtain rfl:kV=.none:=Dflts.noKw B;have(a,vs,ns,rfl,rfl,m,g,k):=script_of J i A;show enter_call (Qv (call w e c t x j o v s h a vs ns G Y N (fd_plain M) u z m g k X) λr p K=>?_);have(rfl,O,P,L):=K;show{.inl {.bool VH,.bool VH,[],Xr,λ_=>rfl,.bool VH,post_true l _,λ_=>{List.Pairwise.nil,λ_ S=>(nomatch S)}},O,P,L}
end Att
namespace L2
open PySem PySem.Spec PyProof.Rows
def nK:∀{vs:!Od} {ns:!Int},Uy vs ns->Vals (ns.map V.int) vs
 | _,_,.nil=>.nil
 | _,_,.cons n t h=>.cons ⟨t,Xr⟩ (nK h)
abbrev Gz(H:Hp):Prop:=∀b,H b=VE \/ ∃o a,H b*>(.frz o (.lst a))
def xn{P:Os}{w:Ox}{K:yF}{M S:Str->↑Od}{CX:CXT}{k:Nat}{fa a:Addr}{fd:PV}{x:Str}{sp:Sp}{c : Og}{vs:!Od}{ns:!Int}
  (KX:K.In c.heap) (y:c.heap.Ns Ou M) (g:c.heap.Ns To S) (X:∀x:Str,x ≠ "__name__" -> S x=PZ x) (L:c.heap.NoLimit) (hg:c.gens = #[])
  (O:c.heap.get? a=VF {cls:=.type "list",data:=.seq vs.toArray}) (hi:Uy vs ns) (hl:ns.length<=sizeLine) (hr:Pj k SB)
  (F:∀base:Heap,K.In base->base.Ns Ou M->Pp P w K M base CX k fa fd [x] sp) (p:∀(s:Og) (u:Od),Sy s fd {[u],[]} [(x,u)])
  (U:∀H:Hp,Gz H->SqL K H a (ns.map V.int)->sp [.ref a] H (λv _=>v=.bl VH) λ_ _ _=>False)
  (Z:∀H e i,CX [] H c (λ_ _ _=>False) e i->False) :
  Qb (Om P w) SB (.call (.ref fa) {[.ref a],[]}) (λr i=>r=.ok (.ret (.bool VH))/\OldK c.heap i.heap/\i.os=c.os/\RP i.gens) c:=by
 have rv:=nK hi;have A:=hi.length;have l:∀H:Hp,Gz H->SqL K H a (ns.map V.int)->HOk P w H c.heap->(∀b,H b≠VE->b=a)->(H a≠VE->K.lookup a=VE) ->
   Qb (Om P w) SB (.call (.ref fa) {[.ref a],[]}) (λr i=>r=.ok (.ret (.bool VH))/\OldK c.heap i.heap/\i.os=c.os/\RP i.gens) c:=by
  intro H hO hS C hA hK;have f:∀{b:Addr} {o:Obj},c.heap.get? b*>o->H b=VE->(oo c.heap H).get? b*>o:=λe n=>wZ e n;have Y:∀{b:Addr} {o:Obj} {N:Array Sh} {B:Nat},c.heap.get? b*>o->o.data=.dict N B->H b=VE:=λ{b o N B} e d=>by
   cases q:H b with
   | none=>rfl
   | some u=>
    have Q:b=a:=hA b (by rw[q];simp);subst Q;rw[O]at e;cases e;have d':Data.seq vs.toArray _=VB N B:=d;cases d'
  have j:∀{b:Addr} {m:Str->↑Od},c.heap.Ns b m->(oo c.heap H).Ns b m:=λ{b m} ⟨o,N,B,e,d,r⟩=>{o,N,B,f e (Y e d),d,r};have E:K.In (oo c.heap H):=λb o e=>f (KX b o e) (by
   cases q:H b with
   | none=>rfl
   | some u=>
    have Q:b=a:=hA b (by rw[q];simp);subst Q;rw[hK (by rw[q];simp)]at e;cases e)
  have hM:Mod K M (oo c.heap H):={E,j y,{S,j g,X},let ⟨mc,h1,h2⟩:=L;{mc,j h1,h2}};have e0:PH P w K M (oo c.heap H) SB [] c H:={Xr,hM,λb o e=>AU e,Nat.le_of_eq (uN _ _),trivial,λb g=>absurd (show b∈([]:!Addr)from g) ∅,C,.of_eq hg};show Qv ((F _ E (j y)).run SB [] c H {[.ref a],[]} [.ref a] [.ref a] _ _ hr e0 (p c (.ref a)) (.cons rfl .nil) (U H hO hS)) λr i h=>?_;cases r with
  | error e=>show(Z H e i h).elim
  | ok fl=>
   cases fl with
   | next=>show OE h
   | brk=>show OE h
   | cont=>show OE h
   | ret u=>
    have(v,H',os,G,un,J,r',q):=h;have q':v=.bl VH:=q;subst q';obtain rfl:u=Qn VH:=r';show{Xr,OldK.of_keep λb o e=>?_,os,G};cases q:H b with
    | none=>show un.keep b o e q (by intro z;show absurd (show b∈([]:!Addr)from z) ∅) ∅
    | some u=>
     rcases hO b with z|⟨ob,xs,z⟩;rw[q]at z;cases z
     .have z2:=un.frzs b ob _ z;have(e1,_):=C b _ z;have(e2,_):=J b _ z2;rw[e]at e1;cases e1;show e2
 cases hk:K.lookup a with
 | some o=>
  have e:=KX a o hk;rw[O]at e;cases e;show l (λ_=>VE) (λ_=>.inl rfl) (.inr {_,vs.toArray,_,hk,Xr,Xr,Xr,by rw[JM,A];show hl,by simpa using rv}) (λb u z=>by have t:(VE:↑HO)*>u:=z;cases t) (λb z=>absurd rfl z) λz=>absurd rfl z
 | none=>
  show l (λb=>if b=a then VF (.frz {cls:=.type "list",data:=.seq vs.toArray} (.lst (ns.map V.int)))else VE) (λb=>?_) (.inl (.inr {{cls:=.type "list",data:=.seq vs.toArray},if_pos rfl})) (λb u z=>?_) (λb z=>?_) λ_=>hk
  .by_cases g:b=a;show .inr {_,_,if_pos g};show .inl (if_neg g)
  .by_cases g:b=a
   .have t:=(if_pos g).symm.trans z;cases t;subst g;show{O,by rw[JK];show hl,vs,_,rv,O}
   .have t:=(if_neg g).symm.trans z;cases t
  .by_cases g:b=a;show g;show absurd (if_neg g) z
abbrev cc(s:Stmt):TW:=match s with
 | .FunctionDef _ a _ _ _ _ _ _ _ _=>a
 | _=>{posonlyargs:=[],args:=[],vararg:=VE,kwonlyargs:=[],kw_defaults:=[],kwarg:=VE,defaults:=[]}
abbrev ba(s:Stmt):!Stmt:=match s with
 | .FunctionDef _ _ b _ _ _ _ _ _ _=>b
 | _=>[]
abbrev ai(s:Stmt):QV:=match s with
 | .FunctionDef _ _ _ _ _ _ a _ _ _=>a
 | _=>{kind:=.function,names:=[],isGenerator:=VG,isCoroutine:=VG}
protected def CX0:CXT:=λ_ _ _ _ _ _=>False
protected def E0:XK:=λ_ _ _=>False
def xN{X:Cx}:jP CX0 X E0:=λ_ _ _ _ _ _ _ h=>h.elim
structure Fun(K:yF)(x qual:Str)(st:Stmt)(f:Addr)(fd:PV):Prop where
 ex:∃(oc:Od) (od:↑Addr) (kV doc pm:Od) (an:↑Addr) (cdv ct:Od) (osl:Array ↑Od),
  fd=KD x qual (cc st) (ba st) (ai st) .none kV doc pm an cdv ct/\K.lookup f*>{oc,od,.func fd,osl}/\LA K cdv qual=VH
 kp:Lm K (.ref f)=VH
section
variable {P:Os}{w:Ox}{K:yF}{mg:Str->↑Od}{base:Heap}
def Fun.ok{x qual:Str}{st:Stmt}{f:Addr}{fd:PV}{N ps:!Str}{k:Nat}{sp:Sp}(F:Fun K x qual st f fd)(S:Pa N ps (ai st))(e:∀vs H Q E,sp vs H Q E->vs.length=ps.length)
  (c:∀(a:Od) (A:Oz) (outer:!Env) (s:Og) (H:Hp) (vs:!V) (Q:VK) (E:XK),Pj k (A.deeper (Rn qual (ai st) s.heap.objs.size f a))->sp vs H Q E ->
   ∃t,PSs (iK CX0 P w K mg base N qual (ai st) f a A outer s H E).nox (ba st) t/\t {nx:=λ_ H'=>Q .non H',rt:=Q} (bR N vs) H):Pp P w K mg base CX0 (k+1) f fd ps sp:=by
 obtain⟨oc,u,kV,i,r,p,a,o,l,rfl,j,d⟩:=F.ex;show Cz j d S e λA outer s H vs Q E m g=>?_;have(t,h,q):=c a A outer s H vs Q E m g;show⟨t,h.nox,q⟩
def Fun.binds{x qual:Str}{st:Stmt}{f:Addr}{fd:PV}{ps:!Str}(F:Fun K x qual st f fd)
  (h:∀(kV a g:Od) (e:↑Addr) (c d:Od) (us:!Od),us.length=ps.length->SO (KD x qual (cc st) (ba st) (ai st) .none kV a g e c d) {us,[]}=pure (ps.zip us)):Pm K fd ps []:=by
 obtain⟨oc,k,kV,a,g,e,c,d,j,rfl,l,i⟩:=F.ex;show .all (h kV a g e c d)
def wW{x qual:Str}{st:Stmt}{f:Addr}{oc:Od}{od h:↑Addr}{e:Array ↑Od}{kV d i a g:Od}(l:K.lookup f*>{oc,od,.func (KD x qual (cc st) (ba st) (ai st) .none kV d i h a g),e})
  (c:LA K a qual=VH) (k:Lm K (.ref f)=VH):Fun K x qual st f (KD x qual (cc st) (ba st) (ai st) .none kV d i h a g):={⟨oc,od,kV,d,i,h,a,g,e,Xr,l,c⟩,k}
end
def GN{A:Oz}{k:Nat}(a:Pj k A):A.units+1<P7:=Lf (Nf (by decide:1<=64) _) a.units
def rk{A B:Prop}(h:B):if VG=VH then A else B:=by
 rw[if_neg JU];show h
def rl{A B:Prop}(h:A):if VH=VH then A else B:=by
 rw[if_pos rfl];show h
abbrev Pk(H H':Hp):Prop:=∀b o,H b*>o->H' b*>o
def Pk.refl(H:Hp):Pk H H:=λ_ _ h=>h
abbrev bO(env:Env):!(Str×Ow)->!(Str×Addr)->!(Str×Addr)
 | [],a=>a
 | (n,k)::r,a=>if k == .free then bO env r ((n,(env.cells.lookup n).getD 0)::a)else bO env r a
def jS:∀(a:!(Str×Ow)) (d:!(Str×Addr)),(∀x∈a,x.2=.free->∃c,env.cells.lookup x.1*>c) ->
  (forIn a d λ(x:Str×Ow) (j:!(Str×Addr))=>if x.2 == .free then(do let c <-cellOf env x.1;pure (RH ((x.1,c)::j)):Sem _)else pure (RH j))=(pure (bO env a d):Sem _)
 | [],d,_=>rfl
 | (n,k)::r,d,h=>by
  have l:∀x∈r,x.2=.free->∃c,env.cells.lookup x.1*>c:=λx m=>h x (ymC _ m);rw[LW];unfold bO;by_cases g:(k==Qd)=VH
  .have(c,o):=h (n,k) ymS (by exists g);have f:env.cells.lookup n*>c:=o;have e:cellOf env n=pure c:=by unfold cellOf;rw[f]
   dsimp[g,if_true,e,f,Option.getD_some,pure_bind];show jS r _ l
  .have i:(k==Qd)=VG:=by exists g
   dsimp[i,Le,if_false,pure_bind];show jS r _ l
def fq(h:∀x∈scope.names,x.2=.free->∃c,env.cells.lookup x.1*>c):closureFor scope env=pure (bO env scope.names []):=by
 have:=jS (env:=env) scope.names [] h;dsimp[closureFor];rw[this,pure_bind]
def jR:∀(d:!(Str×Ow)) (a:!(Str×Addr)),(∀y∈d,y.2=.free->∃c,env.cells.lookup y.1*>c)->(a.lookup x*>c->env.cells.lookup x*>c) ->
  (bO env d a).lookup x*>c->env.cells.lookup x*>c
 | [],a,_,g,h=>g h
 | (n,k)::r,a,p,g,h=>by
  have q:∀y∈r,y.2=.free->∃c,env.cells.lookup y.1*>c:=λy t=>p y (ymC _ t);unfold bO at h;by_cases i:(k==Qd)=VH
  .rw[if_pos i]at h;show jR r _ q (λe=>?_) h;have(s,j):=p (n,k) ymS (by exists i);have f:env.cells.lookup n*>s:=j;rw[Ki]at e;by_cases l:(x==n)=VH
   .rw[l]at e;have m:x=n:=by exists l
    subst m;rw[f]at e|-;show e
   .have o:(x==n)=VG:=by exists l
    rw[o]at e;show g e
  .rw[if_neg i]at h;show jR r a q g h
def jQ:∀(c:!(Str×Ow)) (a:!(Str×Addr)),(a.lookup x).isSome=VH->((bO env c a).lookup x).isSome=VH
 | [],_,h=>h
 | (n,k)::r,a,h=>by
  unfold bO;by_cases d:(k==Qd)=VH
  .rw[if_pos d];show jQ r _ ?_;rw[Ki];cases hx:(x==n)with
   | true=>rfl
   | false=>show h
  .rw[if_neg d];show jQ r a h
def f6:∀(a:!(Str×Ow)) (c:!(Str×Addr)),(x,Qd)∈a->((bO env a c).lookup x).isSome=VH
 | [],_,h=>by cases h
 | (n,k)::r,c,h=>by
  unfold bO;rcases ycM h with e|h
  .cases e;rw[if_pos (by rfl)];show jQ r _ ?_;rw[Ki,beq_self_eq_true];rfl
  .by_cases d:(k==Qd)=VH
   .rw[if_pos d];show f6 r _ h
   .rw[if_neg d];show f6 r _ h
def lh:∀(a:!(Str×Ow)) (n:Nat) (e:!(Str×Addr)),(OR n a e).lookup x*>c->(n<=c/\(x,OH)∈a)\/e.lookup x*>c
 | [],_,_,h=>.inr h
 | (y,k)::r,n,e,h=>by
  unfold OR at h;by_cases g:(k==OH)=VH
  .rw[if_pos g]at h;rcases lh r (n+1) _ h with⟨d,f⟩|d;show .inl {by omega,ymC _ f}
   .rw[Ki]at d;by_cases i:(x==y)=VH
    .rw[i]at d;have l:x=y:=by exists i
     have j:k=.cell:=by exists g
     subst l j;cases d;show .inl {JQ _,ymS}
    .have m:(x==y)=VG:=by exists i
     rw[m]at d;show .inr d
  .rw[if_neg g]at h;rcases lh r n _ h with⟨d,f⟩|d;show .inl {d,ymC _ f};show .inr d
def qS:∀(g:!(Str×Ow)) (n:Nat) (f:!(Str×Addr)),(∀x c,f.lookup x*>c->c<n)->(∀x y c,f.lookup x*>c->f.lookup y*>c->x=y) ->
  ∀x y c,(OR n g f).lookup x*>c->(OR n g f).lookup y*>c->x=y
 | [],_,_,_,m,x,y,c,j,h=>m x y c j h
 | (z,k)::r,n,f,o,m,x,y,c,j,h=>by
  unfold OR at j h;by_cases p:(k==OH)=VH
  .rw[if_pos p]at j h;show qS r (n+1) ((z,n)::f) (λa b e=>?_) (λa b d i l=>?_) x y c j h
   .rw[Ki]at e;cases q:(a==z)with
    | true=>rw[q]at e;cases e;show NB _
    | false=>rw[q]at e;show Ny (o a b e)
   .rw[Ki]at i l;cases q1:(a==z)with
    | true=>
     cases q2:(b==z)with
     | true=>rw[beq_iff_eq.mp q1,beq_iff_eq.mp q2]
     | false=>rw[q1]at i;rw[q2]at l;cases (i);show absurd (o b n l) (Lh _)
    | false=>
     cases q2:(b==z)with
     | true=>rw[q1]at i;rw[q2]at l;cases (l);show absurd (o a n i) (Lh _)
     | false=>rw[q1]at i;rw[q2]at l;show m a b d i l
  .rw[if_neg p]at j h;show qS r n f o m x y c j h
def lj:∀(a:!(Str×Ow)) (n:Nat) (c:!(Str×Addr)),(x,OH)∉a->(OR n a c).lookup x=c.lookup x
 | [],_,_,_=>rfl
 | (y,k)::r,n,c,h=>by
  unfold OR;by_cases d:(k==OH)=VH
  .rw[if_pos d,lj r _ _ (λz=>h (ymC _ z)),Ki];have e:k=.cell:=by exists d
   have f:(x==y)=VG:=by
    cases q:(x==y)with
    | false=>rfl
    | true=>show absurd (by rw[beq_iff_eq.mp q,e];show ymS) h
   rw[f]
  .rw[if_neg d];show lj r _ _ λz=>h (ymC _ z)
def nV:∀(i:!(Str×Ow)) (n:Nat) (f:!(Str×Addr)),((x,OH)∈i \/ ∀g,f.lookup x*>g->n<=g)->(OR n i f).lookup x*>c->∀lo,lo<=n->(∀g,f.lookup x*>g->lo<=g)\/(x,OH)∈i->lo<=c
 | [],n,f,_,h,lo,m,d=>by
  rcases d with d|d;show d c h;cases d
 | (y,k)::r,n,f,_,h,lo,m,d=>by
  unfold OR at h;by_cases l:(k==OH)=VH
  .rw[if_pos l]at h;have a:(∀g,((y,n)::f).lookup x*>g->lo<=g)\/(x,OH)∈r:=by
    by_cases o:(x==y)=VH
    .show .inl λg e=>?_;rw[Ki,o]at e;cases e;show m
    .have p:(x==y)=VG:=by exists o
     rcases d with d|d
     .show .inl λg e=>?_;rw[Ki,p]at e;show d g e
     .rcases ycM d with e|d
      .cases e;simp at o
      .show .inr d
   have q:(x,OH)∈r \/ ∀g,((y,n)::f).lookup x*>g->n+1<=g\/True:=.inr λ_ _=>.inr trivial;rcases a with a|a
   .by_cases j:(x,OH)∈r;show nV r (n+1) _ (.inl j) h lo ⋯ (.inr j)
    .rw[lj r _ _ j]at h;show a c h
   .show nV r (n+1) _ (.inl a) h lo ⋯ (.inr a)
  .rw[if_neg l]at h;have a:(∀g,f.lookup x*>g->lo<=g)\/(x,OH)∈r:=by
    rcases d with d|d;show .inl d
    .rcases ycM d with e|d
     .cases e;show absurd rfl l
     .show .inr d
   by_cases j:(x,OH)∈r;show nV r n _ (.inl j) h lo m (.inr j)
   .rcases a with a|a
    .rw[lj r _ _ j]at h;show a c h
    .show absurd a j
def fv:∀(d:!(Str×Ow)) (h:Heap) (a:!(Str×Addr)),(OR h.objs.size d a).lookup x*>c->(pushCells h d).IsCell c VE\/a.lookup x*>c
 | [],_,_,e=>.inr e
 | (y,k)::r,h,a,e=>by
  unfold OR at e;unfold pushCells;by_cases f:(k==OH)=VH
  .rw[if_pos f]at e|-;have g:(OR (h.push {cls:=.type "cell",data:=.cell VE}).objs.size r ((y,h.objs.size)::a)).lookup x*>c:=by rw[OW];show e
   rcases fv r (h.push {cls:=.type "cell",data:=.cell VE}) ((y,h.objs.size)::a) g with q|q;show .inl q
   .rw[Ki]at q;cases hx:(x==y)with
    | true=>
     rw[hx]at q;cases q;show .inl {_,SH r _ _ _ (Oq _ rfl),Xr}
    | false=>rw[hx]at q;show .inr q
  .rw[if_neg f]at e|-;show fv r h a e
def me
  (i:∀h',h'.Ns s.heap.objs.size (λ_=>VE)->(∀b o,s.heap.get? b*>o->h'.get? b*>o)->(∀x c,(OR (s.heap.objs.size+1) scope.names cl).lookup x*>c->h'.IsCell c VE\/cl.lookup x*>c) ->
   Q (newEnv scope s.heap.objs.size globals (OR (s.heap.objs.size+1) scope.names cl) qual VE .none (VF env) To) {s with heap:=h'}) :
  Oh M A (Rj scope globals cl [] qual VE .none (VF env)) Q E s:=by
 dsimp[Rj,Option.isSome_some,if_true];show Oc (wpAny_alloc ?_);show Oc (wpAny_layCells _ (λg a f=>by cases hkc:a==OH<;>simp[hkc]) _ _ _ _ ?_);rw[show({s with heap:=s.heap.push {cls:=.type "dict",data:=.dict #[]}}:Og).heap.objs.size=s.heap.objs.size+1 from OW ..];rw[NQ];show Oc (Oe (Oe (i _ ?_ ?_ ?_)));show(Heap.Ns.new s.heap (.type "dict")).keeps (SH _ _);show λb o e=>SH _ _ b o (Of _ e)
 .intro x c e;have h:(OR (s.heap.push {cls:=.type "dict",data:=.dict #[]}).objs.size scope.names cl).lookup x*>c:=by rw[OW];show e
  show fv _ _ _ h
abbrev rlK(env:Env) (n:Str) (k:Ow):Ow:=if(k == .free&&env.scope.kind == .function&&env.kindOf n==VF .cell)then .cell else k
def m8:∀(a:!(Str×Ow)),
  (a.map λ(n,k)=>if(k==Qd&&env.scope.kind == .function&&env.kindOf n==VF .cell)then(n,OH)else(n,k)).lookup x=(a.lookup x).map (rlK env x)
 | []=>rfl
 | (n,k)::r=>by
  have c:=m8 (env:=env) (x:=x) r;rw[JN,Ki];have e:(if(k==Qd&&env.scope.kind == .function&&env.kindOf n==VF .cell)then(n,OH)else(n,k))=(n,rlK env n k):=by
   unfold rlK;split<;>rfl
  change Ll x ((if(k==Qd&&env.scope.kind == .function&&env.kindOf n==VF .cell)then(n,OH)else(n,k))::_)=_;rw[e,Ki,Ki];cases hx:(x==n)with
  | true=>
   have d:=beq_iff_eq.mp hx;subst d;rfl
  | false=>show c
def gT:(SC scope env).names.lookup x=(scope.names.lookup x).map (rlK env x):=m8 scope.names
structure Blk(osc sc:QV)(N N':!Str)(fr:! ↑Nat):Prop where
 kind:sc.kind=.function
 nd:N'.Nodup
 len:fr.length=N'.length
 free:∀(i j:Nat) (x:Str),fr[i]?*>(VF j)->N'[i]?*>x->N[j]?*>x/\sc.names.lookup x*>.free
 out:∀x∈sc.names,x.2=.free->(osc.names.lookup x.1*>.cell\/osc.names.lookup x.1*>.free)/\(x.1,OH)∉sc.names
 locl:∀x∈sc.names,x.2=.local->sc.names.lookup x.1*>.local
abbrev GD(a c:QV) (N N':!Str) (fr:! ↑Nat):Bool:=
 (c.kind == .function)&&decide N'.Nodup&&(fr.length==N'.length) &&
 (fr.zip N').all (λp=>match p.1 with|none=>VH|some j=>N[j]? == VF p.2&&c.names.lookup p.2==VF .free) &&
 c.names.all (λp=>(p.2 != .free||((a.names.lookup p.1==VF .cell||a.names.lookup p.1==VF .free) &&  ~~~c.names.contains (p.1,.cell)))&&(p.2 != .local||c.names.lookup p.1==VF .local))
def Blk.of(h:GD osc sc N N' fr=VH):Blk osc sc N N' fr:=by
 unfold GD at h;dsimp[JL]at h;obtain⟨⟨⟨⟨o,k⟩,l⟩,q⟩,g⟩:=h;show{by simpa using o,of_decide_eq_true k,by simpa using l,λi j x m p=>?_,λx d c=>?_,λx d c=>?_}
 .have e:(VF j,x)∈fr.zip N':=by
   show LM.mpr {i,?_};rw[LS];show⟨m,p⟩
  have:=Ky.mp q _ e;dsimp[JL]at this;show{by simpa using this.1,by simpa using this.2}
 .have:=Ky.mp g x d;dsimp[JL]at this;have a:=this.1;rw[c]at a;dsimp[bne_self_eq_false,Nl,JL,Mk,Kt]at a;show{a.1.imp (λz=>by exists z) (λz=>by exists z),λe=>?_};have f:=a.2;rw[M4.mpr e]at f;cases f
 .have:=Ky.mp g x d;dsimp[JL]at this;have a:=this.2;rw[c]at a;dsimp[bne_self_eq_false,Nl]at a;exists a
abbrev bn(fr:! ↑Nat) (Z:St):St:=fr.map λo=>match o with
 | none=>VE
 | some j=>Z.getD j VE
def cq(fr:! ↑Nat)(Z:St):(bn fr Z).length=fr.length:=by unfold bn;rw[JK]
abbrev Dv(X:Cx) (scope:QV) (N':!Str) (cells:!(Str×Addr)) (C:Addr) (s:Og) (H:Hp) (ex:!Addr) (pn:!(Addr×Obj)) (xe:Od->Og->Prop):Cx where
 prog:=X.prog
 w:=X.w
 K:=X.K
 mg:=X.mg
 base:=X.base
 A:=X.A
 N:=N'
 s₀:=s
 H₀:=H
 env:=Vi scope cells C X.env
 outer:=X.stack
 stack:=X.stack
 ex:=ex
 fn:=λx=>scope.names.lookup x==VF .cell
 calm:=X.calm
 pn:=pn
 xe:=xe
section
variable {X:Cx}{OK:!(Addr×Obj)}{Z:St}{H H':Hp}{s:Og}{scope:QV}{N':!Str}{fr:! ↑Nat}{ex:!Addr}{xe:Od->Og->Prop}
def eG{a:QV}{x:Str}{k:Ow}(h:a.names.lookup x*>k):(x,k)∈a.names:=Lu h
def Inv.freeCells(I:Inv X OK Z H s)(B:Blk X.env.scope scope X.N N' fr):∀x∈scope.names,x.2=.free->∃c,X.env.cells.lookup x.1*>c:=λx a d=>I.ok.has x.1 (B.out x a d).1
def Inv.enter{h':Heap}(I:Inv X OK Z H s)(B:Blk X.env.scope scope X.N N' fr)(t:∀b∈ex,fZ X OK H b/\∃o,s.heap.get? b*>o)
  (M:h'.Ns s.heap.objs.size (λ_=>VE)) (E:∀b o,s.heap.get? b*>o->h'.get? b*>o)
  (L:∀x c,(OR (s.heap.objs.size+1) scope.names (bO X.env scope.names [])).lookup x*>c->h'.IsCell c VE\/(bO X.env scope.names []).lookup x*>c) :
  Inv (Dv X scope N' (OR (s.heap.objs.size+1) scope.names (bO X.env scope.names [])) s.heap.objs.size s H ex (X.pn++OK) xe) [] (bn fr Z) H {s with heap:=h'}:=by
 have hfc:=I.freeCells B;have g:∀x c,(bO X.env scope.names []).lookup x*>c->X.env.cells.lookup x*>c:=λx c e=>jR scope.names [] hfc (λz=>by cases z) e;have lt:∀x c,X.env.cells.lookup x*>c->c<s.heap.objs.size:=λx c e=>by
  have(v,q):=I.cell x c e;show q.lt
 have a:∀x c,(OR (s.heap.objs.size+1) scope.names (bO X.env scope.names [])).lookup x*>c->s.heap.objs.size+1<=c\/X.env.cells.lookup x*>c:=λx c e=>
  (lh _ _ _ e).imp (λz=>z.1) (g x c)
 have K:∀b∈ex,b<s.heap.objs.size:=λb A=>by
  have(o,e):=(t b A).2;show Ol e
 have has:∀x,scope.names.lookup x*>.cell\/scope.names.lookup x*>.free->∃c,(OR (s.heap.objs.size+1) scope.names (bO X.env scope.names [])).lookup x*>c:=λx hx=>by
  show Li.mp (L7 _ _ _ (hx.imp id λz=>f6 _ _ (eG z)))
 show{{I.ok.mod,?_,I.ok.glob,I.ok.blt,JQ _,?_,?_,?_,I.ok.hd,I.ok.gd,I.ok.frames,.inl rfl,?_,I.bs,Kg I.ok.bsz I.sz,?_,?_,I.stack,I.stkFree},Xr,I.bare,Un.kept E,{_,M,?_},?_,?_,?_,?_,I.hok.kept E,?_};show B.kind;show qS _ _ _ (λx c e=>Ny (lt x c (g x c e))) (λx y c U w=>I.ok.inj x y c (g x c U) (g y c w))
 .intro x hx;show has x ?_;have h:(SC scope X.env).names.lookup x*>.cell\/(SC scope X.env).names.lookup x*>.free:=hx;rw[gT]at h;cases q:scope.names.lookup x with
  | none=>rw[q]at h;rcases h with z|z<;>cases z
  | some k=>
   rw[q]at h;have C:rlK X.env x k=.cell\/rlK X.env x k=.free:=h.imp (λz=>Ke.inj z) (λz=>Ke.inj z);unfold rlK at C;split at C
   .delta L;dsimp[JL]at L;have:k=.free:=by exists L.1.1
    rw[this];show .inr rfl
   .rcases C with z|z<;>rw[z];show .inl rfl;show .inr rfl
 .intro x c O e;have G:scope.names.lookup x*>.cell:=by
   have:(scope.names.lookup x==VF OH)=VH:=O;exists this
  show nV _ _ _ (.inl (eG G)) e _ (Mv _) (.inr (eG G))
 .intro b A;obtain⟨⟨_,_,_,_,f4,_⟩,_⟩:=t b A;show{J3 (K b A),λx c e z=>?_};rcases a x c e with q|q
  .rw[z]at q;show absurd (Kc (K b A) (Nat.le_of_succ_le q)) (Lh _)
  .show f4 x c q z
 .intro b o e A;obtain⟨⟨_,_,_,f3,_,_⟩,_⟩:=t b A;rcases f3 with z|z;show I.ok.noex b o e z;show absurd (Kc (Ol e) (Kg I.ok.bsz z)) (Lh _)
 .intro b A O;obtain⟨⟨_,f1,f2,_,_,_⟩,_⟩:=t b A;rcases ycM (I.stkSub b O)with z|z;show f1 z;show f2 z
 .intro i x v U w e3;unfold bn at w;rw[JR]at w;cases q:fr[i]? with
  | none=>rw[q]at w;cases w
  | some o=>
   rw[q]at w;cases o with
   | none=>simp at w
   | some j=>
    have f:Z.getD j VE*>v:=by exists w
    have(b1,b2):=B.free i j x q U;have e4:Z[j]?*>(VF v):=by
     rw[Kl]at f;cases q2:Z[j]? with
     | none=>rw[q2]at f;cases f
     | some y=>rw[q2]at f;simp at f;rw[f]
    have(o1,o2):=B.out (x,.free) (eG b2) rfl;have(m,hn,hl):=I.loc;have P:Vis X.env.scope x:=o1.elim (λz=>.inr (.inl z)) λz=>.inr (.inr z);have(u,r,l):=hl j x v b1 e4 P;show{u,r,.inr ?_};have nl:∃c,X.env.cells.lookup x*>c/\s.heap.IsCell c (VF u):=by
     rcases l with⟨kl,_⟩|⟨_,c,Y,h2⟩
     .have S:X.env.scope.names.lookup x*>.local:=kl;rcases o1 with z|z<;>· have z':X.env.scope.names.lookup x=_:=z;rw[S]at z';cases z'
     .show⟨c,Y,h2⟩
    have(c,Y,h2):=nl;have kd:(Vi scope (OR (s.heap.objs.size+1) scope.names (bO X.env scope.names [])) s.heap.objs.size X.env).kindOf x*>.cell\/(Vi scope (OR (s.heap.objs.size+1) scope.names (bO X.env scope.names [])) s.heap.objs.size X.env).kindOf x*>.free:=by
     change(SC scope X.env).names.lookup x*>.cell\/(SC scope X.env).names.lookup x*>.free;rw[gT,b2];change VF (rlK X.env x .free)=_\/VF (rlK X.env x .free)=_;unfold rlK;split;show .inl rfl;show .inr rfl
    show{kd,c,?_,h2.keeps E};change(OR (s.heap.objs.size+1) scope.names (bO X.env scope.names [])).lookup x*>c;rw[lj _ _ _ o2];have(c',J):=Li.mp (f6 (env:=X.env) scope.names [] (eG b2));rw[J];have:=g x c' J;rw[Y]at this;show this.symm
 .intro x c e;rcases L x c e with q|q;show{_,q}
  .have(v,z):=I.cell x c (g x c q);show{v,z.keeps E}
 .show I.hok.fresh (JQ _)
 .intro x c e;rcases a x c e with q|q
  .show I.hok.fresh ⋯
  .show I.freeC x c q
 .intro p hp;have Q:p∈X.pn++OK:=by
   have:p∈(X.pn++OK)++[]:=hp;rwa [Kb]at this
  have(e,n,ne,nf,d):=I.pin p Q;show{E _ _ e,n,J3 (Ol e),λz=>?_,d};rcases ycM (I.stkSub p.1 z)with q|q;show ne q;show nf q
 .change(bn fr Z).length=N'.length;rw[cq,B.len]
def Inv.leave(I:Inv X OK Z H s)(a:∀b∈ex,fZ X OK H b)
  (J:Inv (Dv X scope N' cells C s H ex pn xe) pins' Z' H' s'):Inv X OK Z H' s':=
 I.call' J.os J.base J.hok J.bare λb e=>by
  have(_,f,_,c,d,g):=a b e;show⟨c,f,d,g⟩
def Inv.track(I:Inv X OK Z H s)(v:fZ X OK H d)(E:d∉X.ex\/X.s₀.heap.objs.size<=d)(i:X.s₀.heap.objs.size<=d)(new:Pe X.prog X.w (upd H d o) s.heap d o):Inv X OK Z (upd H d o) s:=by
 have(a,A,G,C,r,j):=v;show{I.ok,I.os,I.bare,{I.base.keep,I.base.slot,λb u q n k=>?_,I.base.there,λb f q=>?_,λb u f q=>?_,λb y q=>?_},I.loc,I.cell,?_,λx c e=>?_,λp g=>?_,λb u q=>?_,I.len}
 .rw[upd_ne (J3 (Kc (Ol q) i))];show I.base.free b u q n k
 .have:=I.base.tups b f q;rw[upd_ne (bo this a)];show this
 .have:=I.base.frzs b u f q;rw[upd_ne (bo this a)];show this
 .have(m,this):=I.base.tbls b y q;show{m,by rw[upd_ne (bo this a)];show this}
 .rw[upd_ne (Ot A)];show I.free
 .rw[upd_ne (r x c e)];show I.freeC x c e
 .have(e,n,B,l,t):=I.pin p g;show{e,by rw[upd_ne (j p g)];show n,B,l,t}
 .by_cases h:b=d
  .subst h;rw[ao]at q;cases q;show new
  .rw[upd_ne h]at q;show(I.hok b u q).stay (λ_ _ _ z=>z) (λc z=>by rw[upd_ne (bo z a)];show z) λc f z=>by rw[upd_ne (bo z a)];show z
end
noncomputable abbrev k8(ifs:!Expr) (env:Env):Sem Bool:=forIn ifs VH λc r=>if r=VH then do let ok <-SN c env (eval c env);pure (RH ok)else pure (RH r)
def gN(I:Nat->Og->Prop)
  (l:∀n s,I n s->Oh (Om prog w) A (Rc it) (λr a=>match r with
   | none=>R (.ok .next) a
   | some v=>Oh (Om prog w) A (P4 target it v) (λ_ d=>Oh (Om prog w) A (QD target env v) (λ_ i=>
     Oh (Om prog w) A (k8 ifs env) (λt c=>
      if t=VH then Oh (Om prog w) A (eval elt env) (λx j=>
       Oh (Om prog w) A (call (.builtin "list.append") [acc,x]) (λ_ f=>∃m,m<n/\I m f) (λ_ _=>False) j) (λ_ _=>False) c
      else∃m,m<n/\I m c) (λ_ _=>False) i) (λ_ _=>False) d) (λ_ _=>False) a) (λ_ _=>False) s)
  (n:Nat) (h:I n s):Qb (Om prog w) A (.compLoop (.ListComp elt [{target,iter,ifs,0}] scope pos) 0 it acc env) R s:=by
 show TL rfl I (λn s u=>?_) n h;change Oh _ A ((SW (.ListComp elt [{target,iter,ifs,0}] scope pos) 0 it acc env).onRaise (λx=>do So x env;SI x)) _ _ s;show Uh ?_;rw[compTurn_list];show Oc (OZ (Oc (Ov (l n s u) (λr a g=>?_) λ_ _ z=>z.elim)));cases r with
 | none=>show Oe g
 | some v=>
  show Oc (Ov g (λ_ d k=>?_) λ_ _ z=>z.elim);show Oc (Ov k (λ_ i p=>Oc (Ov p (λt c e=>?_) λ_ _ z=>z.elim)) λ_ _ z=>z.elim);cases t with
  | false=>show Oe ⟨Xr,e⟩
  | true=>
   show Oc (Oc (Ov e (λx j q=>Oc (Ov q (λ_ f o=>Oe (Oe ⟨Xr,o⟩)) λ_ _ z=>z.elim)) λ_ _ z=>z.elim))
abbrev PTs(X:Cx)(a:!Expr)(t:TT):Prop:=
 ∀(c:!(Addr×Obj)) (s:Og) (Z:St) (H:Hp) (Q:Bool->Hp->Prop),Inv X c Z H s->t Z H Q->Oh (Om X.prog X.w) X.A (k8 a X.env) (TP X c Z Q) X.xe s
abbrev IK:TT:=λ_ H Q=>Q VH H
def Bq:PTs X [] IK:=λ_ _ _ H _ I h=>wpAny_tests_nil ⟨H,I,h⟩
def Br(h:PT X c t):PTs X [c] t:=λa s Z H Q I q=>wpAny_tests_one (h a s Z H Q I q)
abbrev Kp(fr:! ↑Nat)(Z a:St):Prop:=a.length=Z.length/\∀i j:Nat,fr[i]?*>(VF j)->a[i]?=Z[i]?
def Kp.refl(fr:! ↑Nat)(Z:St):Kp fr Z Z:={Xr,λ_ _ _=>rfl}
def Kp.trans(a:Kp fr Z Z')(b:Kp fr Z' Z''):Kp fr Z Z'':={b.1.trans a.1,λi j e=>(b.2 i j e).trans (a.2 i j e)}
abbrev dB(fr:! ↑Nat)(g:TG):Prop:=∀v Z H (Q d:St->Hp->Prop),(∀a c,Q a c->Kp fr Z a->d a c)->g v Z H Q->g v Z H d
abbrev k9(fr:! ↑Nat)(g:TGs):Prop:=∀v Z H (Q d:St->Hp->Prop),(∀a c,Q a c->Kp fr Z a->d a c)->g v Z H Q->g v Z H d
def AC(h:fr[i]?*>VE):dB fr (mV i):=λv Z H Q c k q=>by
 show k _ _ q {Lr,λa j e=>?_};have:i≠a:=λz=>by subst z;rw[h]at e;cases e
 show J4 this
def DM:k9 fr DK:=λv Z H Q a k q=>{q.1,k _ _ q.2 (Kp.refl _ _)}
def AB(j:dB fr g)(a:k9 fr gs):k9 fr (wX g gs):=λvs Z H Q p k q=>by
 obtain⟨v,r,e,q⟩:=q;show{v,r,e,j v Z H _ _ (λl h o c=>a r l h _ _ (λi d m f=>k i d m (c.trans f)) o) q}
def DN{fr:! ↑Nat}{K:yF}{n:Nat}{d:TGs}(h:k9 fr d):dB fr (Az K n d):=λv Z H Q g k q=>by
 obtain⟨a,c,i,e,f,q⟩:=q;show{a,c,i,e,f,h c Z H Q g k q}
structure Bk where
 cells:!(Str×Addr)
 C:Addr
 s:Og
 H:Hp
 ex:!Addr
 pn:!(Addr×Obj)
noncomputable abbrev cxB(X:Cx) (scope:QV) (N':!Str) (b:Bk):Cx:=Dv X scope N' b.cells b.C b.s b.H b.ex b.pn λ_ _=>False
abbrev zE(o:TI)(fr:! ↑Nat)(g:TG)(j:TT)(p:TE):TE:=λZ H Q=>
 o Z H λJ l=>∃W:Nat->Nat->!V->Hp->Prop,(∃m,W 0 m [] l)/\∀i m a H,W i m a H->a.length<sizeLine /\
  ((J.stop i H/\∀d,H d=VE->Q (.ref d) (upd H d (.lst a))) \/
  (J.go i H/\∃N:!V->Hp->Prop,(∀c e,N c e->∃h,h<m/\W (i+1) h c e) /\
   ∀x e,J.yld i H x e->g x (bn fr Z) e λf k=>j f k λb H3=>if b=VH then p f H3 λv q=>N (a++[v]) q else N a H3))
noncomputable abbrev lO(its:!Od) (n:Nat):Obj:={cls:=.type "list",data:=.seq its.toArray n}
abbrev Wk(Y:Cx)(pp:!(Addr×Obj))(fr:! ↑Nat)(g:St)(e:!Addr)(f:Nat->Heap->Prop)(d:Addr)(W:Nat->Nat->!V->Hp->Prop)(n:Nat)(s:Og):Prop:=
 ∃i a c H Z,Inv Y pp Z H s/\Kp fr g Z/\f i s.heap/\(∀b∈e,H b=VE)/\H d=VE/\s.heap.PlainList d (List.toArray c)/\Vals a c/\W i n a H
structure Wa(Y:Cx)(pp:!(Addr×Obj))(tg:Expr)(J:It)(fp:!Addr)(it:Addr)(tn:Nat->Heap->Prop)(d:Addr):Prop where
 hc:Y.calm=VH
 T:PJ Y.prog Y.w Y.K tg J fp it tn
 df:∀{Hx:Hp},Hx d=VE->fZ Y pp Hx d
 fpk:∀{Hx:Hp} {o:Obj},(∀b∈fp,Hx b=VE)->∀b∈fp,fZ Y ((d,o)::pp) Hx b
def Ck(a:Kp fr (bn fr Z) Z5):∀(k:Nat) v,(bn fr Z)[k]?*>(VF v)->Z5[k]?*>(VF v):=λk v e=>by
 cases q:fr[k]? with
 | none=>
  unfold bn at e;rw[JR,q]at e;cases e
 | some o=>
  cases o with
  | none=>
   unfold bn at e;rw[JR,q]at e;simp at e
  | some j=>rw[a.2 k j q];show e
def Wa.kept(A:Wa Y pp tg J fp it tn d)(g:tn i h7)(h:Inv Y (((d,o)::pp)++eK fp h7) Z H s):tn i s.heap/\(∀b∈fp,H b=VE)/\s.heap.get? d*>o/\H d=VE/\Inv Y pp Z H s:=by
 have c:∀p∈(d,o)::pp,p∈Y.pn++(((d,o)::pp)++eK fp h7):=λp j=>yaR _ (yaL _ j);have f:∀b∈fp,∀u,h7.get? b*>u->(b,u)∈Y.pn++(((d,o)::pp)++eK fp h7):=λb a u e=>yaR _ (yaR _ (iY a e));have k:=h.pin _ (c _ ymS);show{A.T.keep _ _ _ g λb a u e=>(h.pin _ (f b a u e)).1,λb a=>?_,k.1,k.2.1,h.pins_of λp j=>h.pin p (c p (ymC _ j))};have(u,e,_):=A.T.obj _ _ g b a;show(h.pin _ (f b a u e)).2.1
def Wa.turn(A:Wa Y pp tg J fp it tn d)(hg:PG Y tg g)(hgk:dB fr g){P:!V->Hp->Prop}{B:!V->(!V->Hp->Prop)->St->Hp->Prop}{R j:Og->Prop}
  (hW:∀i m c H,W i m c H->c.length<sizeLine/\((J.stop i H/\P c H)\/(J.go i H/\∃N:!V->Hp->Prop,(∀h H',N h H'->∃S,S<m/\W (i+1) S h H')/\∀x H',J.yld i H x H'->g x (bn fr Z) H' (B c N))))
  (hw:Wk Y pp fr (bn fr Z) fp tn d W n s)
  (stop:∀c e k y H M,Inv Y ((d,lO e k)::pp) y H M->Kp fr (bn fr Z) y->Vals c e->c.length<sizeLine->H d=VE->P c H->R M)
  (K:∀i c e k N h7 y H M,Inv Y (((d,lO e k)::pp)++eK fp h7) y H M->tn (i+1) h7->Kp fr (bn fr Z) y->Vals c e->c.length<sizeLine->(∀h H',N h H'->∃S,S<n/\W (i+1) S h H')->B c N y H->j M) :
  Oh (Om Y.prog Y.w) Y.A (Rc (.ref it)) (λr l=>match r with
   | none=>R l
   | some v=>Oh (Om Y.prog Y.w) Y.A (P4 tg (.ref it) v) (λ_ C=>Oh (Om Y.prog Y.w) Y.A (QD tg Y.env v) (λ_ L=>j L) Y.xe C) Y.xe l) Y.xe s:=by
 obtain⟨i,c,e,Q,Z5,J5,o,X,U,t,⟨n5,pl5⟩,va5,w5⟩:=hw;have(hz,cs):=hW i n c Q w5;have O:Inv Y ((d,lO e n5)::pp) Z5 Q s:=J5.pins_of λp hp=>by
  rcases ycM hp with z|z
  .subst z;have f:=A.df t;show{pl5,t,f.2.1,f.2.2.1,λv z=>by cases z}
  .show J5.pin p (yaR _ z)
 rcases cs with⟨st,q⟩|⟨go,N,hN,step⟩
 .show thn (A.T.done Y rfl rfl rfl A.hc i _ s Z5 Q _ O (A.fpk U) X st) λr s6 E=>?_;have(hr,J6):=E;subst hr;show stop c e n5 Z5 Q s6 J6 o va5 hz t q
 .show thn (A.T.item Y rfl rfl rfl A.hc i _ s Z5 Q _ O (A.fpk U) X go) λr s6 E=>?_;have(u,hr,h6):=E;subst hr;show thn h6 λ_ s7 E=>?_;have(x,H7,J7,r7,y7,st7,fr7):=E;have J7p:=(J7.weak o.1.symm (Ck o)).pinned (A.fpk fr7) (A.T.obj _ _ st7);have G:=hgk x (bn fr Z) H7 _ (λZ2 H2=>B c N Z2 H2/\Kp fr (bn fr Z) Z2) (λy H' a b=>⟨a,b⟩) (step x H7 y7);show thn (hg _ s7 (bn fr Z) H7 x u _ J7p r7 G) λ_ s8 E=>?_;have(Z8,H8,J8,q8,kp8):=E;show K i c e n5 N s7.heap Z8 H8 s8 J8 st7 kp8 va5 hz hN q8
def Wa.app{N:!V->Hp->Prop}(A:Wa Y pp tg J fp it tn d)(ht:PTs Y ifs tc)(he:PE Y elt te)
  (J8:Inv Y (((d,lO its k)::pp)++eK fp h7) Z8 H8 s8) (r:tn (i+1) h7) (q:Kp fr Z0 Z8) (h:Vals acc its) (hz:acc.length<sizeLine) (hN:∀a H',N a H'->∃j,j<n/\W (i+1) j a H')
  (q8:tc Z8 H8 λb H3=>if b=VH then te Z8 H3 λv H4=>N (acc++[v]) H4 else N acc H3) :
  Oh (Om Y.prog Y.w) Y.A (k8 ifs Y.env) (λP g=>
   if P=VH then Oh (Om Y.prog Y.w) Y.A (eval elt Y.env) (λx t=>
    Oh (Om Y.prog Y.w) Y.A (call (.builtin "list.append") [.ref d,x]) (λ_ l=>∃m,m<n/\Wk Y pp fr Z0 fp tn d W m l) Y.xe t) Y.xe g
   else∃m,m<n/\Wk Y pp fr Z0 fp tn d W m g) Y.xe s8:=by
 show thn (ht _ s8 Z8 H8 _ J8 q8) λP s9 S=>?_;have(H9,J9,B):=S;cases P with
 | false=>
  rw[if_neg (by decide)]at B|-;have(j,U,w9):=hN _ _ B;have(G,C,M,s,Z):=A.kept r J9;show{j,U,i+1,acc,its,H9,Z8,Z,q,G,C,s,⟨k,M⟩,h,w9}
 | true=>
  rw[if_pos rfl]at B|-;show thn (he _ s9 Z8 H9 _ J9 B) λy E S=>?_;have(v,O,K,Q,H):=S;have(j,U,X):=hN _ _ H;have(G,C,M,s,Z):=A.kept r K;have L:its.toArray.size<=sizeLine:=by rw[JM,<-h.length];show Mn hz
  show wpAny_list_append_plain (hsz:=L) ⟨k,M⟩ λh11 p c=>?_;have f:=A.df s;have ne:∀b∈fp,b≠d:=λb u z=>(A.fpk (o:=lO its k) C b u).2.2.2.2.2 _ (yaR _ ymS) z.symm;show{j,U,i+1,acc++[v],its++[y],O,Z8,Z.turned (it:=d) (t':=E.toks) (λb o u e=>(c.2 b u).trans e) s f.2.1 f.2.2.2.1 f.2.2.2.2.1 f.2.2.2.2.2,q,A.T.keep _ _ _ G (λb u o e=>(c.2 b (ne b u)).trans e),C,s,?_,h.append (.cons Q .nil),X};have:(its++[y]).toArray=its.toArray.push y:=by simp
  rw[this];show p
section
variable {X:Cx}{elt tg iter:Expr}{ifs:!Expr}{scope:QV}{pos:Pos}{N':!Str}{fr:! ↑Nat}{wi:TI}{g:TG}{tc:TT}{te:TE}
def ll(hc:X.calm=VH)(B:Blk X.env.scope scope X.N N' fr){u:!Comprehension}
  {f:!(Addr×Obj)} {Z:St} {Q:VK} {RI:It->Hp->Prop} {Y:Od} {i:Og} {E:Od->Og->Prop} {RR:Od->Addr->UF->Og->Prop}
  (h2:PIE X f Z tg RI Y i)
  (hRR:∀(d C:Addr) (v:V) (H':Hp) (G:Og) m',Inv X f Z H' G->v=.ref d->Q v H'->G.heap.Ns C m'->fZ X f H' C->C≠d->RR (.ref d) C (.ok .next) G)
  (loop:∀(K:Bk) (it:Addr) (m:!Addr) (y:Nat->Heap->Prop) (J:It) (h:Hp) (d:Addr) (s4:Og),Wa (cxB X scope N' K) [] tg J m it y d->RI J h ->
   (∀W n,W 0 n [] h->Wk (cxB X scope N' K) [] fr (bn fr Z) m y d W n s4) ->
   (∀c j k Z' H G,Inv (cxB X scope N' K) [(d,lO j k)] Z' H G->Kp fr (bn fr Z) Z'->Vals c j->c.length<sizeLine->H d=VE->(∀d,H d=VE->Q (.ref d) (upd H d (.lst c)))->RR (.ref d) K.C (.ok .next) G) ->
   Qb (Om X.prog X.w) X.A (.compLoop (.ListComp elt ({tg,iter,ifs,0}::u) scope pos) 0 (.ref it) (.ref d) (cxB X scope N' K).env) (RR (.ref d) K.C) s4) :
  Oh (Om X.prog X.w) X.A (U7 []) (λc s₃=>Oh (Om X.prog X.w) X.A (Rj scope X.env.globals (bO X.env scope.names []) [] X.env.qual VE .none (VF X.env)) (λx s₄=>
   Qb (Om X.prog X.w) X.A (.compStart (.ListComp elt ({tg,iter,ifs,0}::u) scope pos) 0 Y c {x with scope:=SC scope X.env}) (RR c x.locals) s₄) E s₃) E i:=by
 obtain⟨it,m,y,J,h,rfl,I2,T,M,f2,w0⟩:=h2;show OC ?_;generalize P:i.heap.objs.size=d;have fd:fZ X f h d:=I2.fpOk (by rw[P];show JQ _) (I2.hok.fresh (by rw[P];show JQ _));have ne_d:∀b∈m,b≠d:=λb a=>by
  have(o,e,_):=T.obj _ _ M b a;rw[<-P];show J3 (Ol e)
 have hd0:X.s₀.heap.objs.size<=d:=by rw[<-P];show I2.sz
 have hk3:∀b o,i.heap.get? b*>o->(i.heap.push (lO [] 0)).get? b*>o:=λb o e=>Of _ e;have I3:Inv X f Z h {i with heap:=i.heap.push (lO [] 0)}:=I2.kept (t':=i.toks) hk3;have l:(i.heap.push (lO [] 0)).get? d*>(lO [] 0):=by rw[<-P];show Oq _ rfl
 have t:y 0 (i.heap.push (lO [] 0)):=T.keep _ _ _ M λb _ o e=>hk3 b o e;generalize hs3:({i with heap:=i.heap.push (lO [] 0)}:Og)=s3 at I3;replace l:s3.heap.get? d*>(lO [] 0):=by rw[<-hs3];show l
 replace t:y 0 s3.heap:=by rw[<-hs3];show t
 have S:∀b∈d::m,fZ X f h b/\∃o,s3.heap.get? b*>o:=λb a=>by
  rcases ycM a with e|a;subst e;show{fd,_,l}
  .have(o,e,_):=T.obj _ _ t b a;show{f2 b a,o,e}
 show me λh4 hns hk hcl=>?_;have J0:=I3.enter (ex:=d::m) (xe:=λ_ _=>False) B S hns hk hcl;generalize hCs:OR (s3.heap.objs.size+1) scope.names (bO X.env scope.names [])=cells at J0;have hCd:s3.heap.objs.size≠d:=λz=>by have:=Ol l;rw[z]at this;show Lh _ this
 have s:Inv (cxB X scope N' {cells,s3.heap.objs.size,s3,h,d::m,X.pn++f}) [] (bn fr Z) h {s3 with heap:=h4}:=J0;have fpk:∀{Hx:Hp} {pq:!(Addr×Obj)} (b),b∈d::m->Hx b=VE->(∀p∈(X.pn++f)++pq,p.1≠b)->fZ (cxB X scope N' {cells,s3.heap.objs.size,s3,h,d::m,X.pn++f}) pq Hx b:=λb a L hp=>
  {L,(s.ok.exf b a).1,s.ok.exfs b a,.inl a,(s.ok.exf b a).2,hp}
 have U:y 0 h4:=T.keep _ _ _ t λb _ o e=>hk b o e;have L4:=loop {cells,s3.heap.objs.size,s3,h,d::m,X.pn++f} it m y J h d {s3 with heap:=h4} {hc,T,λ{Hx} L=>fpk d ymS L λp hp=>fd.2.2.2.2.2 p (by rwa [Kb]at hp),λ{Hx o} L b a=>fpk b (ymC _ a) (L b a) λp hp=>by
   rcases yaM hp with z|z;show(f2 b a).2.2.2.2.2 p z
   .rw[ysM z];show Ot (ne_d b a)} w0
  (λW n w=>{0,[],[],h,bn fr Z,s,Kp.refl _ _,U,λb a=>(f2 b a).1,fd.1,{0,hk d _ l},.nil,w}) λc j k Z' H5 s6 J6 _ va5 hz O q=>by
   have(e6,n6,_):=J6.pin (d,lO j k) (yaR _ ymS);have I6:Inv X f Z H5 s6:=I3.leave (λb a=>(S b a).1) J6;have I6t:Inv X f Z (upd H5 d (.lst c)) s6:=I6.track ⟨O,fd.2⟩ (.inr hd0) hd0 {by omega,j,k,va5,e6};have(m6,hn6,_):=J6.loc;show hRR d s3.heap.objs.size (.ref d) _ s6 m6 I6t rfl (q d O) hn6 ?_ hCd;show I3.fpOk (JQ _) (by rw[upd_ne hCd];show J6.free)
 show codeAny_compStart_list L4 (T.self X.A 0 _ _ _ U L4)
def lm(hc:X.calm=VH)(B:Blk X.env.scope scope X.N N' fr)
  (hg:∀b,PG (cxB X scope N' b) tg g) (y:dB fr g) (ht:∀b,PTs (cxB X scope N' b) ifs tc) (he:∀b,PE (cxB X scope N' b) elt te)
  {z:!(Addr×Obj)} {Z:St} {Q:VK} {h:Od} {P:Og} {E:Od->Og->Prop} {RR:Od->Addr->UF->Og->Prop}
  (h2:PIE X z Z tg (λJ H1=>∃W:Nat->Nat->!V->Hp->Prop,(∃m,W 0 m [] H1)/\∀i m a H,W i m a H->a.length<sizeLine /\
   ((J.stop i H/\∀d,H d=VE->Q (.ref d) (upd H d (.lst a))) \/
   (J.go i H/\∃N:!V->Hp->Prop,(∀c H',N c H'->∃o,o<m/\W (i+1) o c H') /\
    ∀x H',J.yld i H x H'->g x (bn fr Z) H' λO M=>tc O M λb H3=>if b=VH then te O H3 λv H4=>N (a++[v]) H4 else N a H3))) h P)
  (r:∀(d C:Addr) (v:V) (H':Hp) (p:Og) o,Inv X z Z H' p->v=.ref d->Q v H'->p.heap.Ns C o->fZ X z H' C->C≠d->RR (.ref d) C (.ok .next) p) :
  Oh (Om X.prog X.w) X.A (U7 []) (λa j=>Oh (Om X.prog X.w) X.A (Rj scope X.env.globals (bO X.env scope.names []) [] X.env.qual VE .none (VF X.env)) (λe l=>
   Qb (Om X.prog X.w) X.A (.compStart (.ListComp elt [{tg,iter,ifs,0}] scope pos) 0 h a {e with scope:=SC scope X.env}) (RR a e.locals) l) E j) E P:=
 ll hc B h2 r λq it S tn J M d s4 A t wk u=>by
  obtain⟨W,⟨L,t⟩,f⟩:=t;show gN (Wk (cxB X scope N' q) [] fr (bn fr Z) S tn d W) (λn s Y=>A.turn (hg q) y f Y u λi a its k N h7 Z' H p U K G va hz hN q8=>A.app (ht q) (he q) U K G va hz hN q8) L (wk W L t)
def A7(y:X.calm=VH)(B:Blk X.env.scope scope X.N N' fr)(k:PI X tg iter wi)
  (M:∀b,PG (cxB X scope N' b) tg g) (c:dB fr g) (J:∀b,PTs (cxB X scope N' b) ifs tc) (L:∀b,PE (cxB X scope N' b) elt te)
  (hs:∀x,OJ iter X.env x=pure x:=by intro _;rfl):PE X (.ListComp elt [{tg,iter,ifs,0}] scope pos) (zE wi fr g tc te):=by
 intro f s Z H Q I h;rw[eval_ListComp];show Q5 (use:=VE) rfl hs (fq (I.freeCells B)) B.kind B.locl (thn (k f s Z H _ I h) λv S p=>thn p λE U z=>?_);show lm (RR:=λa C=>Vj (Om X.prog X.w) X.A X.xe VE (EP X f Z Q) a C) y B M c J L z ?_;intro d C v G r l i t q j P K;show{l,j,λm u=>?_};have(c0,c1,c2,c3,c4,c5):=P;show{v,G,i.turned (it:=C) (t':=r.toks) (λb o O e=>(u.2 b O).trans e) c0 c1 c3 c4 c5,by rw[t];rfl,q}
def rY(U:X.calm=VH)(hN:X.N.Nodup)(f:X.N[i]?*>x)(r:X.env.scope.names.lookup x*>.local)(B:Blk X.env.scope scope X.N N' fr)(K:PI X tg iter wi)
  (hg:∀b,PG (cxB X scope N' b) tg g) (p:dB fr g) (ht:∀b,PTs (cxB X scope N' b) ifs tc) (he:∀b,PE (cxB X scope N' b) elt te)
  (l:Ra (.ListComp elt [{tg,iter,ifs,0}] scope pos) (VF (.Name x pos')) spos.line X.env=pure VH:=by rfl)
  (hs:∀x,OJ iter X.env x=pure x:=by intro _;rfl):PS X (.Assign [.Name x pos'] (.ListComp elt [{tg,iter,ifs,0}] scope pos) spos) (Ca (zE wi fr g tc te) (mV i)):=by
 intro k s Z H D I h;rw[exec_Assign_Name_used _ _ _ _ l];show Oc (OZ (Oc ?_));change Oh _ _ (do let _ <-comprehension (.ListComp elt [{tg,iter,ifs,0}] scope pos) scope X.env _ (U7 []) VG (eval iter X.env) (VF (QD (.Name x pos') X.env))) _ _ s;show Oc (Ov (Q5 (use:=VF (QD (.Name x pos') X.env)) (Q:=λ_ c=>SP X k D .next c) rfl hs (fq (I.freeCells B)) B.kind B.locl (thn (K k s Z H _ I h) λv s1 O=>thn O λitv s2 Y=>?_)) (λ_ c J=>Oe (Oe J)) λ_ _ e=>e);show lm (Q:=λv H1=>mV i v Z H1 D.nx) (RR:=λj C=>Vj (Om X.prog X.w) X.A X.xe (VF (QD (.Name x pos') X.env)) (λ_ c=>SP X k D .next c) j C) U B hg p ht he Y ?_;intro d C v H' c L y P q E fC hCd;have(c0,c1,c2,c3,c4,c5):=fC;subst P;show Tw (nD y hN f (.inl r) (show RelV (.ref d) (.ref d)from rfl) (λs6 I6 ⟨a,u,t⟩=>?_) (.inr r));have m:C≠a:=by
  rcases t with z|z;rw[z];show c1;show λG=>c4 x a z G.symm
 show{L,E.sameBut u m,λM S=>?_};show{_,H',I6.turned (it:=C) (t':=s6.toks) (λb o hb e=>(S.2 b hb).trans e) c0 c1 c3 c4 c5,q}
end
inductive D where
 | int (i:Int)|str (x:Str)|tup (ds:!D)
mutual
def Rep(K:yF)(H:Hp):D->V->Prop
 | .int i,v=>v=.int i
 | .str x,v=>v=.str x
 | .tup d,v=>∃a c,v=.ref a/\SqT K H a c/\Pg K H d c
def Pg(K:yF)(H:Hp):!D->!V->Prop
 | [],a=>a=[]
 | d::c,a=>∃x r,a=x::r/\Rep K H d x/\Pg K H c r
end
mutual
noncomputable def D.depth:D->Nat
 | .int _=>0
 | .str _=>0
 | .tup ds=>aR ds+1
noncomputable def aR:!D->Nat
 | []=>0
 | d::ds=>max d.depth (aR ds)
end
def mR:∀{ds:!D},d∈ds->d.depth<=aR ds
 | [],h=>by cases h
 | e::ds,h=>by
  rw[aR];rcases ycM h with z|z;rw[z];show MW _ _;show Kg (mR z) (MJ _ _)
def Pg.length{K:yF}{H:Hp}:∀{ds:!D} {xs:!V},Pg K H ds xs->xs.length=ds.length
 | [],xs,h=>by rw[Pg]at h;rw[h];rfl
 | d::ds,xs,h=>by
  rw[Pg]at h;have(x,r,rfl,_,a):=h;rw[JY,JY,a.length]
def Rep.tup_iff{K:yF}{H:Hp}{ds:!D}{v:V}:Rep K H (.tup ds) v ↔ ∃a xs,v=.ref a/\SqT K H a xs/\Pg K H ds xs:=by rw[Rep]
def Pk.laid(hp:H p=VE):Pk H (upd H p o):=λb u e=>by rw[upd_ne (bo e hp)];show e
section
section
variable {X:Cx}{OK:!(Addr×Obj)}{Z:St}{H:Hp}{s:Og}
mutual
theorem Rep.inj(I:Inv X OK Z H s):∀{d e:D} {v:V},Rep X.K H d v->Rep X.K H e v->d=e
 | .int i,.int j,v,h,c=>by dsimp[Rep]at h c;subst h;cases c;rfl
 | .int i,.str j,v,h,c=>by dsimp[Rep]at h c;subst h;cases c
 | .int i,.tup j,v,h,c=>by dsimp[Rep]at h c;subst h;have(_,_,z,_):=c;cases z
 | .str i,.int j,v,h,c=>by dsimp[Rep]at h c;subst h;cases c
 | .str i,.str j,v,h,c=>by dsimp[Rep]at h c;subst h;cases c;rfl
 | .str i,.tup j,v,h,c=>by dsimp[Rep]at h c;subst h;have(_,_,z,_):=c;cases z
 | .tup i,.int j,v,h,c=>by dsimp[Rep]at h c;subst c;have(_,_,z,_):=h;cases z
 | .tup i,.str j,v,h,c=>by dsimp[Rep]at h c;subst c;have(_,_,z,_):=h;cases z
 | .tup p,.tup q,v,h,c=>by
  dsimp[Rep]at h c;have(a,o,rfl,g,k):=h;have(b,m,z,l,f):=c;cases z;rw[I.tuple_inj l g]at f;rw[Pg.inj I k f]
theorem Pg.inj(I:Inv X OK Z H s):∀{ds c:!D} {xs:!V},Pg X.K H ds xs->Pg X.K H c xs->ds=c
 | [],[],xs,h,a=>rfl
 | [],e::c,xs,h,a=>by dsimp[Pg]at h a;subst h;have(_,_,z,_):=a;cases z
 | d::ds,[],xs,h,a=>by dsimp[Pg]at h a;subst a;have(_,_,z,_):=h;cases z
 | d::ds,e::c,xs,h,a=>by
  dsimp[Pg]at h a;have(x,r,rfl,f,g):=h;have(y,q,z,j,i):=a;cases z;rw[Rep.inj I f j,Pg.inj I g i]
end
open SeqAt in
mutual
theorem wH(I:Inv X OK Z H s):∀(d e:D) {x y:V} {u v:Od} {A:Oz},Rep X.K H d x->Rep X.K H e y->RelV x u->RelV y v->A.units+d.depth<P7->∃b,(b=VH↔d=e)/\EqAt A s u v b
 | .int i,.int j,x,y,u,v,A,h,c,r,g,_=>by
  dsimp[Rep]at h c;subst h c;have(t,rfl):=r;have(q,rfl):=g;show{_,by simp,EqAt.int_int i t j q}
 | .int i,.str j,x,y,u,v,A,h,c,r,g,_=>by
  dsimp[Rep]at h c;subst h c;have(t,rfl):=r;have(q,rfl):=g;show{_,by simp,EqAt.int_str i t j q}
 | .str i,.int j,x,y,u,v,A,h,c,r,g,_=>by
  dsimp[Rep]at h c;subst h c;have(t,rfl):=r;have(q,rfl):=g;show{_,by simp,EqAt.str_int i t j q}
 | .str i,.str j,x,y,u,v,A,h,c,r,g,_=>by
  dsimp[Rep]at h c;subst h c;have(t,rfl):=r;have(q,rfl):=g;show{_,by simp,EqAt.str_str i t j q}
 | .int i,.tup j,x,y,u,v,A,h,c,r,g,m=>by
  dsimp[Rep]at h c;subst h;have(t,rfl):=r;have(a,E,rfl,o,_):=c;cases g;have(f,_,p,_):=I.tuple o;show{VG,by simp,EqAt.int_tuple i t (show s.heap.IsTuple a f.toArray from p) (Lf (K1 _ _) m)}
 | .str i,.tup j,x,y,u,v,A,h,c,r,g,m=>by
  dsimp[Rep]at h c;subst h;have(t,rfl):=r;have(a,E,rfl,o,_):=c;cases g;have(f,_,p,_):=I.tuple o;show{VG,by simp,EqAt.str_tuple i t (show s.heap.IsTuple a f.toArray from p) (Lf (K1 _ _) m)}
 | .tup j,.int i,x,y,u,v,A,h,c,r,g,m=>by
  dsimp[Rep]at h c;subst c;have(t,rfl):=g;have(a,E,rfl,o,_):=h;cases r;have(f,_,p,_):=I.tuple o;show{VG,by simp,EqAt.tuple_int i t (show s.heap.IsTuple a f.toArray from p) (Lf (K1 _ _) m)}
 | .tup j,.str i,x,y,u,v,A,h,c,r,g,m=>by
  dsimp[Rep]at h c;subst c;have(t,rfl):=g;have(a,E,rfl,o,_):=h;cases r;have(f,_,p,_):=I.tuple o;show{VG,by simp,EqAt.tuple_str i t (show s.heap.IsTuple a f.toArray from p) (Lf (K1 _ _) m)}
 | .tup B,.tup P,x,y,u,v,A,h,c,r,g,m=>by
  by_cases w:u=v
  .subst w;have G:x=y:=r.inj g;subst G;show{VH,by simp[Rep.inj I h c],EqAt.same u}
  .dsimp[Rep]at h c;have(a,E,rfl,o,N):=h;have(b,ys,rfl,S,M):=c;cases r;cases g;have(f,O,p,_):=I.tuple o;have(k,C,Y,_):=I.tuple S;have L:a≠b:=λz=>w (by rw[z]);have J:A.in1.units+aR B<P7:=by
    have:A.units+(aR B+1)<P7:=by rw[D.depth]at m;show m
    change A.units+1+aR B<P7;omega
   have(e,he,U):=ij I B P (A:=A.in1) N M O C J;have R:=RcAt.tuples (A:=A) (s:=s) (l:=a) (b:=b) (items:=f.toArray) (items2:=k.toArray) (e:=e) (show s.heap.IsTuple a f.toArray from p) (show s.heap.IsTuple b k.toArray from Y) (Lf (K1 _ _) m) (λj Q o=>by
    simpa using U j (f[j]'(by exists Q)) (k[j]'(by exists o)) ∅ ∅)
   show{_,?_,EqAt.of_refs L R};rw[he.symm];have l1:f.toArray.size=B.length:=by rw[JM,<-O.length,N.length]
   have l2:k.toArray.size=P.length:=by rw[JM,<-C.length,M.length]
   rw[l1,l2];simp
theorem ij(I:Inv X OK Z H s):∀(ds a:!D) {xs g:!V} {us vs:!Od} {A:Oz},Pg X.K H ds xs->Pg X.K H a g->Vals xs us->Vals g vs->A.units+aR ds<P7 ->
  ∃e:Nat->Bool,(((Kk (min ds.length a.length)).all e=VH/\ds.length=a.length)↔D.tup ds=D.tup a)/\∀(j:Nat) u v,us[j]?*>u->vs[j]?*>v->EqAt A s u v (e j)
 | [],a,xs,g,us,vs,A,h,c,r,i,_=>by
  rw[Pg]at h;subst h;cases r;show{λ_=>VH,?_,λj u v e=>by simp at e};cases a<;>simp
 | d::ds,[],xs,g,us,vs,A,h,c,r,i,_=>by
  rw[Pg]at c;subst c;cases i;show{λ_=>VH,by simp,λj u v _ e=>by simp at e}
 | d::ds,e::a,xs,g,us,vs,A,h,c,r,i,w=>by
  dsimp[Pg]at h c;have(x,q,rfl,E,J):=h;have(y,Y,rfl,C,B):=c;cases r with
  | cons O z=>
   cases i with
   | cons N G=>
    rw[aR]at w;have S:=MW d.depth (aR ds);have U:=MJ d.depth (aR ds);have(b,P,M):=wH I d e (A:=A) E C O N ⋯;have(f,L,Q):=ij I ds a (A:=A) J B z G ⋯;show{λj=>match j with|0=>b|j+1=>f j,?_,λj u v l t=>?_}
    .have p:((Kk (min ds.length a.length)).all f=VH/\ds.length=a.length)↔ds=a:=by rw[L];simp
     rw[JY,JY,Nat.succ_min_succ,List.range_succ_eq_map,Lj,N0];dsimp[D.tup.injEq,Lp.injEq,JL,Nat.add_right_cancel_iff];rw[<-p,<-P];constructor;rintro⟨⟨m,k⟩,o⟩;show⟨m,k,o⟩;rintro⟨m,k,o⟩;show{⟨m,k⟩,o}
    .cases j with
     | zero=>simp at l t;subst l t;show M
     | succ j=>show Q j u v (by exists l) (by exists t)
end
end
end
section
variable {X:Cx}
abbrev Ic(K:yF):R2:=λx y H Q=>∃a c,Rep K H (.tup a) x/\Rep K H (.tup c) y/\aR a<=50/\∀b,(b=VH↔a=c)->Q (.bl b) H
abbrev Ik(K:yF):R2:=λx y H Q=>∃a c,Rep K H (.tup a) x/\Rep K H (.tup c) y/\aR a<=50/\∀b,(b=VH↔a≠c)->Q (.bl b) H
def Ee(P:X.A.units+64<P7):OpR X (OQ .Eq) (Ic X.K):=by
 intro Y s Z H x y v u Q I C N h;have(f,i,k,m,S,q):=h;rw[Rep.tup_iff]at k m;have(a,O,rfl,L,t):=k;have(b,U,rfl,E,B):=m;cases C;cases N;have(d,z,p,_):=I.tuple L;have(c,g,J,_):=I.tuple E;have r:X.A.in1.units+aR f<P7:=by change X.A.units+1+aR f<P7;omega
 have(e,M,G):=ij I f i (A:=X.A.in1) t B z g r;have R:=UK.tuples (A:=X.A) (s:=s) (l:=a) (b:=b) (items:=d.toArray) (items2:=c.toArray) (e:=e) (show s.heap.IsTuple a d.toArray from p) (show s.heap.IsTuple b c.toArray from J) ⋯ (λj k m=>by
  simpa using G j (d[j]'(by exists k)) (c[j]'(by exists m)) ∅ ∅)
 show R X.prog X.w X.xe _ {.bl _,H,I,Xr,q _ ?_};have l1:d.toArray.size=f.length:=by rw[JM,<-z.length,t.length]
 have l2:c.toArray.size=i.length:=by rw[JM,<-g.length,B.length]
 have o:((Kk (min f.length i.length)).all e=VH/\f.length=i.length)↔f=i:=by rw[M];simp
 rw[l1,l2,<-o];simp
def Ek(P:X.A.units+64<P7):OpR X (OQ .NotEq) (Ik X.K):=by
 intro Y s Z H x y v u Q I C N h;have(f,i,k,m,S,q):=h;rw[Rep.tup_iff]at k m;have(a,O,rfl,L,t):=k;have(b,U,rfl,E,B):=m;cases C;cases N;have(d,z,p,_):=I.tuple L;have(c,g,J,_):=I.tuple E;have r:X.A.in1.units+aR f<P7:=by change X.A.units+1+aR f<P7;omega
 have(e,M,G):=ij I f i (A:=X.A.in1) t B z g r;have R:=Vp (A:=X.A) (s:=s) (l:=a) (b:=b) (items:=d.toArray) (items2:=c.toArray) (e:=e) (show s.heap.IsTuple a d.toArray from p) (show s.heap.IsTuple b c.toArray from J) ⋯ (λj k m=>by
  simpa using G j (d[j]'(by exists k)) (c[j]'(by exists m)) ∅ ∅)
 show R X.prog X.w X.xe _ {.bl _,H,I,Xr,q _ ?_};have l1:d.toArray.size=f.length:=by rw[JM,<-z.length,t.length]
 have l2:c.toArray.size=i.length:=by rw[JM,<-g.length,B.length]
 have o:((Kk (min f.length i.length)).all e=VH/\f.length=i.length)↔f=i:=by rw[M];simp
 rw[l1,l2,ne_eq,<-not_congr o,Kt,<-NC,JL,beq_iff_eq]
abbrev Ie(K:yF):R2:=λx y H Q=>∃a b e f d g,x=.ref a/\y=.ref b/\SqL K H a e/\SqL K H b f/\Pg K H d e/\Pg K H g f/\aR d<=50/\∀c,(c=VH↔d=g)->Q (.bl c) H
abbrev Il(K:yF):R2:=λx y H Q=>∃a b e f d g,x=.ref a/\y=.ref b/\SqL K H a e/\SqL K H b f/\Pg K H d e/\Pg K H g f/\aR d<=50/\∀c,(c=VH↔d≠g)->Q (.bl c) H
def Ef(U:X.A.units+64<P7):OpR X (OQ .Eq) (Ie X.K):=by
 intro OK s Z H x y v u Q I E P h;obtain⟨a,b,S,ys,f,g,rfl,rfl,N,G,r,C,Y,q⟩:=h;cases E;cases P;have(d,B,p,_):=I.list N;have(c,i,t,_):=I.list G;have o:X.A.in1.units+aR f<P7:=by change X.A.units+1+aR f<P7;omega
 have(e,O,L):=ij I f g (A:=X.A.in1) r C B i o;have l1:d.toArray.size=f.length:=by rw[JM,<-B.length,r.length]
 have l2:c.toArray.size=g.length:=by rw[JM,<-i.length,C.length]
 have m:((Kk (min f.length g.length)).all e=VH/\f.length=g.length)↔f=g:=by rw[O];simp
 by_cases k:f.length=g.length
 .have R:=UK.lists (A:=X.A) (s:=s) (l:=a) (b:=b) (items:=d.toArray) (items2:=c.toArray) (e:=e) p.isList t.isList (by rw[l1,l2];show k) ⋯ (λj J M=>by
   simpa using L j (d[j]'(by exists J)) (c[j]'(by exists M)) ∅ ∅)
  show R X.prog X.w X.xe _ {.bl _,H,I,Xr,q _ ?_};rw[l1,<-m,<-k,N1];simp
 .have R:=UK.lists_lengths (A:=X.A) (s:=s) (l:=a) (b:=b) (items:=d.toArray) (items2:=c.toArray) p.isList t.isList (by rw[l1,l2];exists k) ⋯;show R X.prog X.w X.xe _ {.bl _,H,I,Xr,q _ ?_};constructor;intro z;cases z;intro z;show absurd (by rw[z]) k
def El(U:X.A.units+64<P7):OpR X (OQ .NotEq) (Il X.K):=by
 intro OK s Z H x y v u Q I E P h;obtain⟨a,b,S,ys,f,g,rfl,rfl,N,G,r,C,Y,q⟩:=h;cases E;cases P;have(d,B,p,_):=I.list N;have(c,i,t,_):=I.list G;have o:X.A.in1.units+aR f<P7:=by change X.A.units+1+aR f<P7;omega
 have(e,O,L):=ij I f g (A:=X.A.in1) r C B i o;have l1:d.toArray.size=f.length:=by rw[JM,<-B.length,r.length]
 have l2:c.toArray.size=g.length:=by rw[JM,<-i.length,C.length]
 have m:((Kk (min f.length g.length)).all e=VH/\f.length=g.length)↔f=g:=by rw[O];simp
 by_cases k:f.length=g.length
 .have R:=Vt (A:=X.A) (s:=s) (l:=a) (b:=b) (items:=d.toArray) (items2:=c.toArray) (e:=e) p.isList t.isList (by rw[l1,l2];show k) ⋯ (λj J M=>by
   simpa using L j (d[j]'(by exists J)) (c[j]'(by exists M)) ∅ ∅)
  show R X.prog X.w X.xe _ {.bl _,H,I,Xr,q _ ?_};rw[l1,ne_eq,<-not_congr m,<-k,N1];simp
 .have R:=UL (A:=X.A) (s:=s) (l:=a) (b:=b) (items:=d.toArray) (items2:=c.toArray) p.isList t.isList (by rw[l1,l2];exists k) ⋯;show R X.prog X.w X.xe _ {.bl _,H,I,Xr,q _ ?_};constructor;intro _ z;show absurd (by rw[z]) k;intro _;rfl
open Classical in
abbrev isD(K:yF) (H:Hp) (d:D) (u:Od):Bool:=decide (∃v,RelV v u/\Rep K H d v)
open Classical in
def tw{K:yF}{H:Hp}{d:D}{u:Od}:isD K H d u=VH ↔ ∃v,RelV v u/\Rep K H d v:=by
 unfold isD;show decide_eq_true_iff
def ji(I:Inv X OK Z H s)  : ∀{ds:!D} {xs:!V} {us:!Od},Pg X.K H ds xs->Vals xs us->(us.any (isD X.K H d)=VH↔d∈ds)
 | [],xs,us,h,r=>by rw[Pg]at h;subst h;cases r;simp
 | e::ds,xs,us,h,r=>by
  rw[Pg]at h;have(x,q,rfl,a,i):=h;cases r with
  | @cons _ l _ g c k=>
   rw[Mg,Mk,ji I i k,Kq];have:isD X.K H d l=VH↔d=e:=by
    rw[tw];constructor
    .rintro⟨v,j,f⟩;rw[j.inj c]at f;show Rep.inj I f a
    .intro z;subst z;show⟨x,c,a⟩
   rw[this]
def gQ(I:Inv X OK Z H s)(m:Rep X.K H d x)(k:RelV x v)(a:A.units+aR ds<P7) :
  ∀{j:!D} {xs:!V} {us:!Od},(∀e∈j,e∈ds)->Pg X.K H j xs->Vals xs us->∀u∈us,OU A s u v (isD X.K H d u)
 | [],xs,us,_,h,r=>by rw[Pg]at h;subst h;cases r;intro u a;cases a
 | e::j,xs,us,o,h,r=>by
  rw[Pg]at h;have(y,q,rfl,f,t):=h;cases r with
  | cons i B=>
   intro u g;rcases ycM g with z|z
   .subst z;have(b,G,C):=wH I e d (A:=A) f m i k (Lf (Nf (mR (o e ymS)) _) a);have:isD X.K H d u=b:=by
     have E:isD X.K H d u=VH↔e=d:=by
      rw[tw];constructor
      .rintro⟨w,c,l⟩;rw[c.inj i]at l;show(Rep.inj I l f).symm
      .intro z;subst z;show⟨y,i,f⟩
     rw[Lc,E,G]
    rw[this];show C
   .show gQ I m k a (λp J=>o p (ymC _ J)) t B u z
abbrev BF(K:yF)(e:Bool):R2:=λx y H Q=>∃p c d a,y=.ref p/\(SqL K H p c\/SqT K H p c)/\Rep K H d x/\Pg K H a c/\aR a<=50/\∀b,(b=VH↔(if e=VH then d∉a else d∈a))->Q (.bl b) H
def Eh(t:X.A.units+64<P7):OpR X (OQ .In) (BF X.K VG):=by
 intro w s Z H x y v u Q I l o h;obtain⟨p,r,d,k,rfl,c,m,g,B,q⟩:=h;cases o;have e:X.A.in1.units+aR k<P7:=by change X.A.units+1+aR k<P7;omega
 rcases c with c|c
 .have(f,a,i,_):=I.list c;show Ul (isD X.K H d) i.isList (λy j=>gQ I m l e (λ_ z=>z) g a y (by exists j)) {.bl _,H,I,Xr,q _ ?_};rw[if_neg (by decide),<-ji I g a];simp
 .have(f,a,i,_):=I.tuple c;show T1 (isD X.K H d) (show s.heap.IsTuple p f.toArray from i) (λy j=>gQ I m l e (λ_ z=>z) g a y (by exists j)) {.bl _,H,I,Xr,q _ ?_};rw[if_neg (by decide),<-ji I g a];simp
def u5(t:X.A.units+64<P7):OpR X (OQ .NotIn) (BF X.K VH):=by
 intro w s Z H x y v u Q I l o h;obtain⟨p,r,d,k,rfl,c,m,g,B,q⟩:=h;cases o;have e:X.A.in1.units+aR k<P7:=by change X.A.units+1+aR k<P7;omega
 rcases c with c|c
 .have(f,a,i,_):=I.list c;show Ts (isD X.K H d) i.isList (λy j=>gQ I m l e (λ_ z=>z) g a y (by exists j)) {.bl _,H,I,Xr,q _ ?_};rw[if_pos rfl,<-ji I g a];simp
 .have(f,a,i,_):=I.tuple c;show Th (isD X.K H d) (show s.heap.IsTuple p f.toArray from i) (λy j=>gQ I m l e (λ_ z=>z) g a y (by exists j)) {.bl _,H,I,Xr,q _ ?_};rw[if_pos rfl,<-ji I g a];simp
abbrev qK(i j:Int):Prop:=0<j/\j<2^64
def u4:OpR X (PU .FloorDiv) (rI qK λi j=>.int (i / j)):=opI λi j _ _ _ _ _ a q=>by
 have f:(0:Int)<j:=a.1;have e:j<2^64:=a.2;show floordiv_int ⋯ (by rw[Int.fdiv_eq_ediv_of_nonneg i ⋯];show q) (.inl (PyProof.noPylong_of_log2 ?_));have c:j.natAbs<2^64:=by omega
 have d:j.natAbs≠0:=by omega
 have:=(Nat.log2_lt d).mpr c;omega
def EU(he:PE X e te):PI X tg e (λZ H R=>te Z H λx O=>∃z:Str,x=.str z/\R {λi _=>i<z.cps.size,λi H y H'=>H'=H/\∃c,z.cps[i]?*>c/\y=.str {#[c]},λi _=>z.cps.size<=i} O):=by
 intro OK s Z H R I h;show thn (he OK s Z H _ I h) λv a z9=>?_;have(x,O,P,r1,q1):=z9;have(z,rfl,q):=q1;have(t,rfl):=r1;have j:∀(n:String) (o:Obj),(["enumerate","zip","dict_itemiterator","dict_reverseitemiterator","odict_iterator","itertools.zip_longest","itertools.pairwise"].contains n=VG) ->
   o={cls:=.type n,data:=.fields #[.str z t,.int 0 0]}->(∀G:Oz,G.handled=VE->Vv X.prog X.w G a.heap.objs.size [a.heap.objs.size] [a.heap.objs.size] z.cps.size (SignAt z) (λi h=>h.IsStrIter a.heap.objs.size n z t i)) ->
   (∀(A:Oz) (i:Nat) (s:Og) (Q:Od->Og->Prop) (E:Od->Og->Prop),s.heap.IsStrIter a.heap.objs.size n z t i->Q (.ref a.heap.objs.size) s->Oh (Om X.prog X.w) A (Tp (.ref a.heap.objs.size)) Q E s) ->
   PIE X OK Z tg R (.ref a.heap.objs.size) {a with heap:=a.heap.push o}:=by
  intro n o hn ho W m;subst ho;show{a.heap.objs.size,[a.heap.objs.size],λi h=>h.IsStrIter a.heap.objs.size n z t i/\i<=z.cps.size,_,O,Xr,P.kept (t':=a.toks) λb o e=>Of _ e,?_,{{_,Oq _ rfl,Xr,Xr},Ld _},λb g=>?_,q}
  .show{by simp,λi h st b g=>?_,λi h K st k=>{?_,st.2},?_,?_,λA i s Q E st h=>?_}
   .have e:b=a.heap.objs.size:=by exists g
    subst e;have(o,e,c,d):=st.1;show{o,e,λv z=>by rw[d]at z;cases z}
   .have(o,ho,r):=st.1;show{o,k _ ∅ o ho,r}
   .intro Y hP hw hK hc i f B Z' H' E p J st L;have(f0,f1,f2,f3,f4,f5):=J a.heap.objs.size ∅;show(W Y.A (p.ok.hd hc)).item i B _ _ L st.1 λv K S hv C M=>?_;have(c,u,hc',rfl):=hv;have N:Inv Y f Z' H' {B with heap:=K,toks:=S}:=p.turned (λb o g e=>M b o (by exists g) e) f0 f1 f3 f4 f5;have(o,e,cl,d):=id C;show{_,Xr,tm (s:={B with heap:=K,toks:=S}) e cl d hn {.str {#[c]},H',N,⟨u,Xr⟩,⟨Xr,c,hc',Xr⟩,⟨C,L⟩,λb g=>(J b g).1}}
   .intro Y hP hw hK hc i f B Z' H' E p J st L;have(f0,f1,f2,f3,f4,f5):=J a.heap.objs.size ∅;have hi:i=z.cps.size:=Nat.le_antisymm st.2 L;show(W Y.A (p.ok.hd hc)).done B _ _ (hi▸st.1) λK S M=>{Xr,?_};show p.turned (λb o g e=>M b o (by exists g) e) f0 f1 f3 f4 f5
   .show m A i s Q E st.1 h
  .have e:b=a.heap.objs.size:=by exists g
   subst e;show P.fpOk (JQ _) (P.hok.fresh (JQ _))
 cases ha:z.cps.all (· < 128);show wpAny_pyIter_wide ha (j "str_iterator" _ (by decide) rfl (λG U=>Vv.strWide U _ z t) λA i s Q E st h=>wpAny_pyIter_striter_wide st h);show wpAny_pyIter_ascii ha (j "str_ascii_iterator" _ (by decide) rfl (λG U=>Vv.strAscii U _ z t) λA i s Q E st h=>wpAny_pyIter_striter_ascii st h)
end
noncomputable abbrev sL(z:Str):!Nat:=z.cps.toList
noncomputable abbrev oL(l:!Nat):Str:=⟨l.toArray⟩
def eT(l:!Nat):sL (oL l)=l:=rfl
def xB(z:Str):oL (sL z)=z:=by cases z;rfl
def fw(z:Str):z.length=(sL z).length:=by unfold Vr sL;rw[KY]
def l0(x y:Str):sL (x++y)=sL x++sL y:=by
 change(x.cps++y.cps).toList=_;rw[Array.toList_append]
def oU(h:sL x=sL y):x=y:=by rw[<-xB x,h,xB]
abbrev cy{a:Type} (xs:!a) (lo c:↑Int):!a:=(xs.drop (HT.sIx xs.length 0 lo)).take (HT.sIx xs.length xs.length c-HT.sIx xs.length 0 lo)
def qz(lo c:↑Int)(n:Nat):OT lo c 1 n=(Kk (HT.sIx n n c-HT.sIx n 0 lo)).map (HT.sIx n 0 lo + ·):=by
 have f:(1:Int)>0:=by lia
 have a:∀(v:↑Int) (d:Nat),(match v with|none=>(d:Int)|some i=>(if(1:Int)>0 then max 0 (min (if i<0 then i+(n:Int)else i) (n:Int))else max (-1) (min (if i<0 then i+(n:Int)else i) ((n:Int)-1))))=((HT.sIx n d v:Nat):Int):=by
  intro v d;cases v with
  | none=>rfl
  | some i=>
   change(if(1:Int)>0 then max 0 (min (if i<0 then i+(n:Int)else i) (n:Int))else _)=(((if i<0 then(i+(n:Int)).toNat else min i.toNat n):Nat):Int);rw[if_pos f];by_cases c:i<0;dsimp[if_pos c];lia;dsimp[if_neg c];lia
 have e:OT lo c 1 n=sliceRange ((HT.sIx n 0 lo:Nat):Int) ((HT.sIx n n c:Nat):Int) 1:=by
  unfold OT;dsimp[f,if_true];have c1:=a lo 0;have c2:=a c n;dsimp[f,if_true]at c1 c2;rw[<-c1,<-c2];rfl
 rw[e,UJ]
def nM(x:Str)(lo a:↑Int):UX x lo a=oL (cy (sL x) lo a):=by
 have e:x.length=(sL x).length:=fw x;have d:((OT lo a 1 x.length).filterMap (x.cps[·]?))=cy (sL x) lo a:=by
  rw[qz,e];unfold cy;show Vg x.cps _ _
 unfold UX;split
 .delta h;have f:(OT lo a 1 x.length).length=x.length:=by
   dsimp[JL]at h;exists h.2
  have g:(cy (sL x) lo a)=sL x:=by
   unfold cy;rw[qz,JK,Mw,e]at f;have i:=HT.sIx_le (sL x).length (sL x).length (JQ _) a;have c:HT.sIx (sL x).length 0 lo=0\/(sL x).length=0:=by lia
   rcases c with c|c
   .rw[c,Mp];show J1 (by lia)
   .rw[LD c];simp
  rw[g,xB]
 .rw[d]
section
variable {X:Cx}
def FL:SlR X (λx lo a H Q=>∃z,x=.str z/\z.length<=sizeLine/\Q (.str (oL (cy (sL z) lo a))) H):=by
 intro B s Z H x v y w lo a A Q I d f m g h;have(z,rfl,j,q):=h;have(t,rfl):=d;have c:∀{v:Od} {o:↑Int},RF v o->∃p:↑(Int×Tok),v=partValue p/\p.map (·.1)=o:=λ{v o} p=>by
  cases p with
  | none=>show⟨VE,Xr,Xr⟩
  | int i t=>show{VF (i,t),Xr,Xr}
 have(l,rfl,rfl):=c m;have(u,rfl,rfl):=c g;show{"str",_,F.slot_str_getitem.lookup,UI _ _ _,?_};show wpAny_getItem_str_slice (l:=l) (u:=u) (st:=VE) f rfl ?_;have e:sliceMade z t l u VE=if((1:Int)==1&&(OT (l.map (·.1)) (u.map (·.1)) 1 z.length).length==z.length)=VH then Made.val (.str z t)else Made.str {((OT (l.map (·.1)) (u.map (·.1)) 1 z.length).filterMap (z.cps[·]?)).toArray}:=rfl;rw[e];show Uq {Kg (Txt.slice_le z _ _) j,λr k=>?_};show{.str (UX z (l.map (·.1)) (u.map (·.1))),H,I.tok k,⟨r,Xr⟩,?_};rw[nM];show q
abbrev rSl(K:yF):V->↑Int->↑Int->Hp->VK->Prop:=λx lo a H Q=>Fy K x lo a H Q\/Ip K x lo a H Q \/ ∃z,x=.str z/\z.length<=sizeLine/\Q (.str (oL (cy (sL z) lo a))) H
def si:∀{us:!Od},Vals (zs.map V.str) us->StrsAre us zs:=by
 induction zs with
 | nil=>intro us r;rw[Lv]at r;cases r;show .nil
 | cons n f c=>
  intro us r;rw[JN]at r;cases r with
  | cons a d=>
   have(t,e):=a;subst e;show .cons n t (c d)
def AR:MtR X "str.join" (λx vs H Q=>∃z a zs,x=.str z/\vs=[.ref a]/\SqL X.K H a (zs.map V.str)/\(zs.map (·.length)).sum+zs.length*z.length<=16777216/\Q (.str (Rk z zs)) H):=by
 intro o s Z H x l v m Q I f c h;have(z,a,zs,rfl,rfl,e,d,q):=h;have(t,rfl):=f;have(u,rfl,j):=iN c;cases j;have(g,r,p,_):=I.list e;show join_list p.isList (by simpa using si r) d λi k=>{.str (Rk z zs),H,I.tok k,⟨i,Xr⟩,q}
def uL(zs:!Str):sL (Rk (oL []) zs)=(zs.map sL).flatten:=by
 have c:∀(zs:!Str) (a:Array Nat),(zs.foldl (λa p=>a++(oL []).cps++p.cps) a).toList=a.toList++(zs.map sL).flatten:=by
  intro zs
  induction zs with
  | nil=>intro a;simp
  | cons z zs d=>
   intro a;rw[LV,d];simp
 cases zs with
 | nil=>rfl
 | cons z zs=>
  change(zs.foldl (λa p=>a++(oL []).cps++p.cps) z.cps).toList=_;rw[c];simp
def op_mulS:OpR X (PU .Mult) (λx y H Q=>∃z n,x=.str z/\y=.int n/\1<=n/\n<=1000/\z.length<=1000/\Q (.str (oL (JO n.toNat (sL z)).flatten)) H):=by
 intro N s Z H x y v u Q I j G h;have(z,n,rfl,rfl,L,M,r,q):=h;have(t,rfl):=j;have(O,rfl):=G;have A:∀(m:Nat) (d:Array Nat),(JO m z.cps).foldl (· ++ ·) d=d++(JO m (sL z)).flatten.toArray:=by
  intro m
  induction m with
  | zero=>intro d;simp
  | succ m E=>intro d;rw[KC,LV,E,KC,K9];apply Array.ext';simp
 have g:z.length*n.toNat<=1000*1000:=M9 r (by lia);have J:¬ n<1:=by lia
 show P.mul_str ?_ ?_ ?_ ?_;rw[decide_eq_false (by lia),decide_eq_false (by lia)];rfl
 .intro _ _;have K:n*9223372036854775<=2^63-1:=by lia
  have:(9223372036854775:Int)<=(2^63-1) / n:=(Int.le_ediv_iff_mul_le (by lia)).mpr (by lia)
  lia
 .intro _ _;unfold Vq;show decide_eq_false (by rw[Oj];lia)
 .rw[if_neg J];show Uq ?_;have o:(if(n==1||z.length==0)=VH then z else({(JO n.toNat z.cps).foldl (· ++ ·) #[]}:Str))=oL (JO n.toNat (sL z)).flatten:=by
   split
   .delta p;rcases Bool.or_eq_true_iff.mp p with c|c
    .have:n=1:=by exists c
     subst this;change z=oL (JO 1 (sL z)).flatten;dsimp[KC,List.replicate_zero,K9,List.flatten_nil,Kb]
    .have w:(sL z).length=0:=by rw[<-fw];exists c
     have f:sL z=[]:=LD w;rw[f];apply oU;rw[f,eT];symm;show List.eq_nil_iff_forall_not_mem.mpr λa i=>by
      have(l,B,e):=ND.mp i;rw[List.eq_of_mem_replicate B]at e;cases e
   .rw[A];simp
  rw[o];show{?_,λC k=>{.str (oL (JO n.toNat (sL z)).flatten),H,I.tok k,⟨C,Xr⟩,q}};rw[fw,eT,jw,<-fw,Oj,Nw]
  lia
def j4:fillsNumberSlot (.type "tuple") "mul" = pure VG:=
 PySem.fillsNumberSlot_seq (id:="tuple.__mul__") (r:=VF (.builtin "tuple.__rmul__")) Rt.lookup (by decide +kernel) TN.lookup (by decide +kernel)
def oT:seqRepeat? (.type "tuple")=pure (VF (.builtin "tuple.__mul__")):=by
 unfold seqRepeat?;rw[NE (T:="tuple") (name:="__mul__") (id:="tuple.__mul__") Rt.lookup (by decide +kernel),NE (T:="tuple") (name:="__rmul__") (id:="tuple.__rmul__") TN.lookup (by decide +kernel)];rfl
def lw(a:Int)(t:Tok)(l:Addr)(items:Array Od)(n:Nat)(e:↑Addr)(sl:Array ↑Od) :
  Meets (On.«int.__rmul__» {[.int a t,.ref l],[]}) (λ_ R s=>s.heap.get? l=VF {cls:=.type "tuple",dict:=e,data:=.seq items n,slots:=sl}/\R (.ok (.ret Od.notImplemented)) s):=
 .of_wp λc w A R s h=>by obtain⟨j,g,d,i,os⟩:=s;obtain⟨f,h⟩:=h;wp_walk;show{_,Xr,h}
def kQ(l:Addr)(items:Array Od)(n:Nat)(r:↑Addr)(sl:Array ↑Od)(k:Int)(t:Tok)(y:2<=k)(o:k<=1000)(c:items.isEmpty=VG)(hz:items.size<=1000) :
  Meets (On.«tuple.__mul__» {[.ref l,.int k t],[]}) (λ_ R s=>s.heap.get? l=VF {cls:=.type "tuple",dict:=r,data:=.seq items n,slots:=sl} /\
   R (.ok (.ret (.ref s.heap.objs.size))) {s with heap:=s.heap.push {cls:=.type "tuple",data:=.seq ((JO k.toNat items).foldl (· ++ ·) #[])}}):=
 .of_wp λe w A R s h=>by
  obtain⟨z,g,d,x,os⟩:=s;obtain⟨f,h⟩:=h;have c1:¬ (decide (k < -(2^63))||decide (k≥2^63))=VH:=by rw[decide_eq_false (by lia),decide_eq_false (by lia)];decide
  have c2:¬ (items.isEmpty||k==1)=VH:=by rw[c];simp;lia
  have c3:¬ (decide (k<=0)||items.isEmpty)=VH:=by rw[c,decide_eq_false (by lia)];decide
  have c0:((items.size:Nat):Int)*k<=1000*1000:=Int.mul_le_mul (by lia) o (by lia) (by lia);have c4:¬ ((items.size:Int)*k>(2^63-1) / 8):=by lia
  have c5:¬ R0 ((items.size:Int)*k)=VH:=by unfold R0;simp;rw[Oj];lia
  have u:=Sq;wp_walk using Qp f
  rw[if_neg c1];show Oc (Sd {_,f,Xr,n,Xr} ?_);dsimp only;rw[if_neg c2,if_neg c3,if_neg c4,if_neg c5];have a:sizeOk (.seq ((JO k.toNat items).foldl (· ++ ·) #[])):=by
   change((JO k.toNat items).foldl (· ++ ·) #[]).size<=sizeLine;have q:=fL items.toList k.toNat [];have j:(JO k.toNat items.toList.toArray).foldl (· ++ ·) #[]=(JO k.toNat items.toList).flatten.toArray:=by exists q
   have p:items.toList.toArray=items:=by simp
   rw[p]at j;rw[j,JM,jw,KY,Oj];have v:k.toNat*items.size<=1000*1000:=M9 (by lia) hz
   lia
  first
   | show Oc (m:=OG _) (OC (Oe ⟨_,rfl,h⟩) a)
   | show Oc (Oc (m:=OG _) (OC (Oe ⟨_,rfl,h⟩) a))
abbrev C6(K:yF):R2:=λx y H Q=>∃l k a,x=.ref l/\y=.int k/\SqT K H l a/\a≠[]/\a.length<=1000/\1<=k/\k<=1000 /\
 (k=1->Q (.ref l) H)/\(2<=k->∀p,H p=VE->Q (.ref p) (upd H p (.tup (JO k.toNat a).flatten)))
def A1:OpR X (PU .Mult) (C6 X.K):=by
 intro OK s Z H x y v u Q I L ry h;obtain⟨l,k,w,rfl,rfl,M,m,f,h1,S,P,q2⟩:=h;cases L;have(t,rfl):=ry;have(c,r,p,hz):=I.tuple (X:=X) M;obtain⟨⟨G,A,z,E⟩,j,C,n,B⟩:=id p;simp only at C B;subst C B;have Y:=r.length;have i:c.toArray.isEmpty=VG:=by
  cases c with
  | nil=>cases r;show absurd rfl m
  | cons a r'=>rfl
 have e:s.TypeIs (.ref l) "tuple" :={_,j,Xr};show QY (T:="tuple") (U:="int") (by decide) e (λN=>Rq N k t) j4 SE QB oT Sm.lookup
  (P5 QB (Rq s k t) Sn (Sb _ _) (lw k t l c.toArray n A E)
   {j,Xr,e,?_})
 by_cases J:k=1
 .subst J;show P0 Rt e TQ ?_ (Tt _ _);have f1:=Sq;have c1:¬ (decide ((1:Int) < -(2^63))||decide ((1:Int)≥2^63))=VH:=by decide
  have(hp,g,d,tk,os):=s;wp_walk using Qp j
  show{_,Xr,.ref l,H,I,Xr,P rfl}
 .show P5 Rt e TQ (Tt _ _) (kQ l c.toArray n A E k t (by lia) S i (by rw[JM,<-Y];show f)) {j,?_};have O:(JO k.toNat c.toArray).foldl (· ++ ·) #[]=(JO k.toNat c).flatten.toArray:=by simpa using fL c k.toNat []
  rw[O];show{.ref s.heap.objs.size,_,I.laid (t':=s.toks) (o:=.tup (JO k.toNat w).flatten) (λb ob q=>Of _ q) (JQ _) ?_,Xr,q2 (by lia) _ (I.hok.fresh (JQ _))};show{?_,_,r.rep k.toNat,Pq.new _ _};rw[jw,Oj];have a1:k.toNat*w.length<=1000*1000:=M9 (by lia) f
  lia
def iR(l:Addr)(items:Array Od)(n:Nat)(b:Addr)(items2:Array Od)(m:Nat)(o:↑Addr)(sl:Array ↑Od)(k:¬(~~~items.isEmpty&&OS (items.size+items2.size))=VH)(c:items.size<=sizeLine)(e:items.size+items2.size<=sizeLine+1) :
  Meets (On.«list.extend» {[.ref l,.ref b],[]}) (λ_ R s=>s.heap.get? l=VF {cls:=.type "list",dict:=VE,data:=.seq items n,slots:=#[]}/\s.heap.get? b=VF {cls:=.type "tuple",dict:=o,data:=.seq items2 m,slots:=sl}/\R (.ok (.ret OY)) {s with heap:=s.heap.update l (Ro λx=>x++items2),toks:=s.toks}):=
 .of_wp λf w A R s h=>by
  obtain⟨v,g,d,u,os⟩:=s;obtain⟨i,p,h⟩:=h;have t:=Sq;have r:=AutoSeq1.sub_tuple_tuple;have q:=AutoSeq1.sub_list_list;have y:=AutoSeq1.sub_tuple_list;have z:=AutoSeq1.sub_list_tuple;have a:(items++items2).size<=sizeLine+1:=by rw[Nx];show e
  wp_walk using(Up i rfl (hz:=c) (_hz':=a)),Qp i,Qp p;show{_,Xr,h}
abbrev qg(K:yF):V->!V->Hp->VK->Prop:=λx vs H Q=>∃l b a c,x=.ref l/\vs=[.ref b]/\H l*>(.lst a)/\SqT K H b c/\a.length+c.length<=sizeLine/\Q .non (upd H l (.lst (a++c)))
def rL:MtM X "list.extend" (qg X.K):=by
 intro S s Z H x vs v O Q I p C h;obtain⟨l,b,L,M,rfl,rfl,j,G,P,q⟩:=h;cases p;have(u,rfl,y):=C.one;cases y;have(z,c,n,r,U,e):=I.lstM j;have(a,g,E,N):=I.tuple G;obtain⟨⟨o,t,i,B⟩,A,m,J,k⟩:=id E;simp only at m k;subst m k;have w:=g.length;have f:c.toArray.size+a.toArray.size<=sizeLine:=by rw[JM,JM];lia
 have d:¬ (~~~c.toArray.isEmpty&&OS (c.toArray.size+a.toArray.size))=VH:=by
  rw[eJ f,LP];show JU
 show P5 RZ {_,e,Xr} RN (RC _ _)
  (iR l c.toArray n b a.toArray J t B d (by rw[JM];lia) (by lia)) {e,A,?_}
 show{.non,_,I.lset (its':=c++a) j e ∅ (r.append g) ?_,Xr,q};rw[JT]
 lia
end
section
variable {X:Cx}
def gF{c d:Type}{f : c->↑d}{g : c->d}:∀{l:!c},(∀k∈l,f k*>(g k))->l.filterMap f=l.map g
 | [],_=>rfl
 | a::l,h=>by
  rw[Kf,h a ymS,JN];change g a::_=_;rw[gF λk e=>h k (ymC _ e)]
def zm(xs:Array Od):((Kk xs.size).filterMap λ(k:Nat)=>xs[(((xs.size:Int)-1)+(k:Int) * -1).toNat]?)=xs.toList.reverse:=by
 apply Ly;intro i;rw[gF (g:=λk=>(xs[xs.size-1-k]?).getD default) (λk f=>?_),JR]
 .by_cases a:i<xs.size
  .have c:xs.size-1-i<xs.size:=by omega
   rw[List.getElem?_range a,List.getElem?_reverse (by exists a)];simp[c]
  .rw[M5 (by exists a),M5 (by exists a)];rfl
 .have d:=Lk.mp f;have e:((((xs.size:Nat):Int)-1)+(k:Int) * -1).toNat=xs.size-1-k:=by omega
  rw[e];have c:xs.size-1-k<xs.size:=by omega
  simp[c]
def jp(e:Ud s.heap t items)(hs:s.heap.IsSliceOf sl .none .none (.int (-1) tt))
  (h:Q (.ref s.heap.objs.size) {s with heap:=s.heap.push {cls:=.type "tuple",data:=.seq items.toList.reverse.toArray}})
  (hsz:items.size<=sizeLine):Oh (Om prog w) A (Rf (.ref t) (.ref sl)) Q E s:=by
 have a:sizeOk (.seq items.toList.reverse.toArray):=by
  change items.toList.reverse.toArray.size<=sizeLine;rw[JM,Ng,KY];show hsz
 have(os,c,f,d):=id hs;have g:s.TypeIs (.ref sl) "slice" :=⟨os,c,f⟩;unfold Rf;try with_reducible refine OA ?_
 first|refine Oc (Oe ?_)|skip
 show Oc (Rg e.typeIs (by decide) ?_);show Oc (OV (name:=Op "__getitem__") e.typeIs Km
  (P0 Km e.typeIs RM ?_ (RX _ _)))
 change Oh _ _ (QM (.ref t) >>= _) _ _ s;show Oc (Sd e ?_);show Oc (Ql g ?_);rw[if_pos (by decide)];have i:∀{j:Int×Int×Nat->Og->Prop},j ((items.size:Int)-1,-1,items.size) s->Oh (Om prog w) A.in1 (Qg (.ref sl) (pure (items.size:Int))) j E s:=by
  intro j o;unfold Qg R5;show Oc (Oc (OB c d (x:=.none) rfl (Oc (OB c d (x:=.none) rfl (Oc (OB c d (x:=.int (-1) tt) rfl (Oe ?_)))))));show Oc (slicePart_int ?_);change Oh _ _ (if((-1:Int)==0)=VH then _ else _) _ _ s;rw[if_neg (by decide)];show Oc (RW (Oc (RW (Oc (Oe ?_)))));change Oh _ _ (match O8 VE VE (-1) (items.size:Int)with|(lo,q)=>pure (lo,(-1:Int),OO lo q (-1))) _ _ s;have p:O8 VE VE (-1) (items.size:Int)=((items.size:Int)-1,-1):=by
   unfold O8;simp
  rw[p];have l:OO ((items.size:Int)-1) (-1) (-1)=items.size:=by
   unfold OO;rw[if_neg ⋯];split;rw[Int.neg_neg,NY];omega;omega
  change Oh _ _ (pure ((items.size:Int)-1,(-1:Int),OO ((items.size:Int)-1) (-1) (-1))) _ _ s;rw[l];show Oe o
 show Oc (i ?_);change Oh _ _ (if((((items.size:Int)-1)==0&&(-1:Int)==1&&items.size==items.size))=VH then _ else _) _ _ s;rw[if_neg ∅,zm];first
  | show Oc (m:=OG _) (OC (Oe ⟨_,rfl,Oe h⟩) a)
  | show Oc (m:=OG _) (OC (Oc (Oe (Oe ⟨_,rfl,Oe h⟩))) a)
  | show Oc (Oc (m:=OG _) (OC (Oe (Oe ⟨_,rfl,Oe h⟩)) a))
  | show Oc (Oc (m:=OG _) (OC (Oe ⟨_,rfl,Oe h⟩) a))
abbrev zJ(K:yF)(e:TE):TE:=λZ H Q=>e Z H λx c=>∃a d,x=.ref a/\SqT K c a d/\∀p,c p=VE->Q (.ref p) (upd c p (.tup d.reverse))
def Ba(S:PE X e te):PE X (.Subscript e (.Slice VE VE (VF (.UnaryOp .USub (.Constant (.int 1) j p1) p2)) p3) pos) (zJ X.K te):=by
 intro g s Z H Q I h;show Tr (thn (S g s Z H _ I h) λv M m=>?_);have(x,t,N,O,L):=m;have(a,z,rfl,E,q):=L;cases O;show Uf ?_;rw[Se];show Oe (Oe ?_);rw[evalPart_some];show thn (HA FX xW g M Z t (λx l=>x=.int (-1)/\l=t) N {1,Xr,Xr,Xr}) λU c m=>?_;have(y,l,B,C,G,P):=m;subst G P;have(f,rfl):=C;have i:Inv X g Z l {c with heap:=c.heap.push {cls:=.type "slice",data:=.fields #[.none,.none,.int (-1) f]}}:=B.kept (t':=c.toks) λb J q=>Of _ q;have(k,r,u,p):=i.tuple E;change Oh (Om X.prog X.w) X.A (Sf e (.Slice VE VE (VF (.UnaryOp .USub (.Constant (.int 1) j p1) p2)) p3) (.ref a) (.ref c.heap.objs.size)) (EP X g Z Q) X.xe {c with heap:=c.heap.push {cls:=.type "slice",data:=.fields #[.none,.none,.int (-1) f]}};show Vh (ops:=[.ref a,.ref c.heap.objs.size]) u.typeIs Km.lookup (jp (tt:=f) u (RY ..) ?_ (by rw[JM,<-r.length];show p)) (by unhygienic rfl);show{.ref _,_,i.laid (t':=c.toks) (o:=.tup z.reverse) (λb J q=>Of _ q) (JQ _) ?_,Xr,q _ (i.hok.fresh (JQ _))};show{by rw[Ng];show p,k.reverse,r.reverse,Pq.new _ _}
def su{A:Oz}{bs:!Bool}:TruthOf X.prog X.w A (λi v=>(bs.map Qn)[i]?*>v) (λi=>bs.getD i VG):=by
 intro i v s Q E a c;rw[JR]at a;cases q:bs[i]? with
 | none=>rw[q]at a;cases a
 | some b=>
  rw[q]at a;cases a;have e:bs.getD i VG=b:=by rw[Kl,q];rfl
  dsimp[e]at c;show P9 c
def IM{bs:!Bool}:∀{us:!Od},Vals (bs.map V.bl) us->us=bs.map Qn:=by
 induction bs with
 | nil=>intro us r;rw[Lv]at r;cases r;rfl
 | cons b bs c=>
  intro us r;rw[JN]at r;cases r with
  | cons a d=>rw[c d,JN];cases a;rfl
def range_getD(bs:!Bool):(Kk bs.length).all (λi=>bs.getD i VG)=bs.all id:=by
 have:(Kk bs.length).map (λi=>bs.getD i VG)=bs:=UY bs VG
 conv=>rhs;rw[<-this]
 rw[N0];rfl
def wp(t:X.calm=VH):Pi X (.builtin "all") (λxs H Q=>∃(a:Addr) (bs:!Bool),xs=[.ref a]/\SqL X.K H a (bs.map V.bl)/\Q (.bl (bs.all id)) H):=by
 intro x s Z H xs C Q I w h;have(a,bs,rfl,d,q):=h;have(u,rfl,l):=iN w;cases l;have(j,r,p,G):=I.list d;have e:=IM r;subst e;have c:a≠s.heap.objs.size:=by
  have(o,n,e,_):=p;show J3 (Ol e)
 show call_all_walk (QH p.isList ?_);show{s.heap.objs.size,_,_,_,_,_,λi=>bs.getD i VG,Xr,Vv.list (A:=X.A.in1) (show X.A.in1.handled=VE from I.ok.hd t) s.heap.objs.size a c (bs.map Qn).toArray,{{_,Oq _ rfl,Xr,Xr},?_},?_,λm B g=>?_};show p.isList.at λo e=>Of _ e
 .intro i v s Q E k d;show su (bs:=bs) i v s Q E (by exists k) d
 .have y:Inv X x Z H {s with heap:=m,toks:=B}:=I.kept λb o e=>g b o (λz=>absurd (ysM z) (J3 (Ol e))) (Of _ e);show{.bl _,H,y,Xr,?_};have:(Kk (bs.map Qn).toArray.size).all (λi=>bs.getD i VG)=bs.all id:=by rw[JM,JK];show range_getD bs
  rw[this];show q
abbrev wY(j:TE)(i h:TO):TG:=λv Z H Q=>j Z H λo g=>i Z g λl f=>h Z f λu H3=>∃p b d e a c,o=.ref p/\v=.ref b/\l*>a/\u*>c/\H3 p*>(.lst d)/\H3 b*>(.lst e)/\p≠b/\0<=a/\a<=c/\c<=d.length/\d.length+e.length<=sizeLine /\
 Q Z (upd H3 p (.lst (d.take a.toNat++e++d.drop c.toNat)))
def x9{o:Expr}{lo e:↑Expr}{A:TE}{z y:TO}{m pos:Pos}(S:PE X o A)(hl:PO X lo z)(J:PO X e y)
  (G:∀v,QD (.Subscript o (.Slice lo e VE m) pos) X.env v=(do
   let d <-O7 [v] (eval o X.env)
   let k <-O7 [v,d] (eval (.Slice lo e VE m) X.env)
   Qj pos
   O7 [v,d,k] (R8 d k v)
   Uw [k,v,d] []):=by intro _;rfl):PG X (.Subscript o (.Slice lo e VE m) pos) (wY A z y):=by
 intro g s Z H v u Q I r h;rw[G];show Oc (OA (thn (S g s Z H _ I h) λd N t=>?_));have(x,H1,I1,r1,O):=t;show Oc (OA (Uf (thn (hl g N Z H1 _ I1 O) λL s2 ⟨l,Y,B,pl,q2⟩=>thn (J g s2 Z Y _ B q2) λC f t=>?_)));have(w',H3,M,pu,q3):=t;rw[Se];show Oe ?_;obtain⟨p,b,xs,ys,a,c,rfl,rfl,rfl,rfl,hp,hb,i,U,j,P,hz,q⟩:=q3;have E:Inv X g Z H3 {f with heap:=f.heap.push {cls:=.type "slice",data:=.fields #[L,C,.none]}}:=M.kept (t':=f.toks) λb ob q=>Of _ q;cases r1;cases r;show Oc (OZ (Oc (OA ?_)));cases pl with
 | int _ t1=>
  cases pu with
  | int _ t2=>
   show vI (sl:=f.heap.objs.size) E hp hb i (RY ..) ⟨t1,Xr⟩ ⟨t2,Xr⟩ U j P hz λs' K=>wpAny_release {Z,_,K,q}
end
abbrev Has(P:Os)(w:Ox)(K:yF)(d:Str->↑Od)(base:Heap)(k:Nat)(name:Str)(ps:!Str)(sp:Sp):Prop:=
 ∃(f:Addr) (c:PV),d name*>(.ref f)/\Lm K (.ref f)=VH/\Pm K c ps []/\Pp P w K d base CX0 k f c ps sp/\∃oc e a,K.lookup f*>{oc,e,.func c,a}
abbrev Def(K:yF)(c:Str->↑Od)(name:Str)(st:Stmt)(ps:!Str):Prop:=
 ∃(f:Addr) (a:PV),c name*>(.ref f)/\Fun K name name st f a/\Pm K a ps []
def Def.has{P:Os}{w:Ox}{K:yF}{i:Str->↑Od}{base:Heap}{k:Nat}{name:Str}{st:Stmt}{N ps:!Str}{sp:Sp}(d:Def K i name st ps)(S:Pa N ps (ai st))(g:∀vs H Q E,sp vs H Q E->vs.length=ps.length)
  (a:∀(f:Addr) (c:Od) (A:Oz) (outer:!Env) (s:Og) (H:Hp) (vs:!V) (Q:VK) (E:XK),Pj k (A.deeper (Rn name (ai st) s.heap.objs.size f c))->sp vs H Q E ->
   ∃t,PSs (iK CX0 P w K i base N name (ai st) f c A outer s H E).nox (ba st) t/\t {nx:=λ_ H'=>Q .non H',rt:=Q} (bR N vs) H):Has P w K i base (k+1) name ps sp:=by
 have(f,q,l,F,b):=d;obtain⟨oc,p,kV,m,v,u,c,r,h,e,o,j⟩:=F.ex;show{f,q,l,F.kp,b,F.ok S g (a f),oc,p,h,o}
def xo{P:Os}{w:Ox}{K:yF}{a:Str->↑Od}{o:Addr}{name:Str}{st:Stmt}{x:Str}{k:Nat}{sp:Sp}(h:a name*>(.ref o))(d:Def K a name st [x])
  (J:∀(kV c m:Od) (l:↑Addr) (i j:Od) (s:Og) (v:Od),Sy s (KD name name (cc st) (ba st) (ai st) .none kV c m l i j) {[v],[]} [(x,v)])
  (H:∀base:Heap,K.In base->base.Ns Ou a->Has P w K a base k name [x] sp) :
  ∃fd:PV,(∀(s:Og) (v:Od),Sy s fd {[v],[]} [(x,v)])/\∀base:Heap,K.In base->base.Ns Ou a->Pp P w K a base CX0 k o fd [x] sp:=by
 have(f,fd,p,F,b):=d;rw[h]at p;cases p;obtain⟨oc,L,kV,c,m,l,i,j,B,e,A,u⟩:=F.ex;show{fd,λs v=>by rw[e];show J _ _ _ _ _ _ s v,λbase z C=>?_};obtain⟨M,t,r,_,_,E,y,G,q,g⟩:=H base z C;rw[h]at r;cases r;rw[A]at g;cases g;show E
section
variable {X:Cx}{x:Str}{e:Expr}{es:!Expr}{p pos:Pos}{k:Nat}{ps:!Str}{sp:Sp}{t:TA}
def xS(h:Has X.prog X.w X.K X.mg X.base k x ps sp)(q:Pj k X.A)(o:Gl X x)(d:PA X (e::es) t)(c:(x==("__debug__" : Str))=VG:=by decide)
  (m:OD (e::es) X.env=(VG,eval e X.env)::OD es X.env:=by rfl) (a:(QJ pos (OD es X.env)).any (·.1)=VG:=by rfl) :
  PE X (.Call (.Name x p) (e::es) [] pos) (kJ sp [] E0 t):=by
 have(f,r,i,g,j,l,_):=h;show A5 l q o i g j .nil xN d c m a
end
section
variable {X:Cx}
abbrev CY(K:yF):R2:=λx y H Q=>rI0 (λi j=>.int (i+j)) x y H Q\/((∃i j,x=.str i/\y=.str j/\i.length+j.length<=sizeLine/\Q (.str (i++j)) H)\/(Ib x y H Q\/C0 K x y H Q))
def op_addX:OpR X (PU .Add) (CY X.K):=op_add.or (op_add_str.or (op_cat.or AV))
abbrev C3(K:yF):R2:=λx y H Q=>rI PM (λi j=>.int (i*j)) x y H Q\/((∃z n,x=.str z/\y=.int n/\1<=n/\n<=1000/\z.length<=1000/\Q (.str (oL (JO n.toNat (sL z)).flatten)) H)\/(Im x y H Q\/C6 K x y H Q))
def op_mulX:OpR X (PU .Mult) (C3 X.K):=op_mul.or (op_mulS.or (op_rep.or A1))
abbrev Fs(K:yF):R2:=λx y H Q=>rEq x y H Q\/(Ic K x y H Q\/Ie K x y H Q)
def Eg(a:X.A.units+64<P7):OpR X (OQ .Eq) (Fs X.K):=op_eq.or ((Ee a).or (Ef a))
abbrev Fw(K:yF):R2:=λx y H Q=>rNe x y H Q\/(Ik K x y H Q\/Il K x y H Q)
def Em(a:X.A.units+64<P7):OpR X (OQ .NotEq) (Fw X.K):=op_ne.or ((Ek a).or (El a))
abbrev Ft(K:yF):R2:=λx y H Q=>(∃i j,x=.str i/\y=.str j/\Q (.bl (~~~(Qa j i 0 j.length 1).isEmpty)) H)\/(rIn K VG x y H Q\/BF K VG x y H Q)
def Ei(a:X.A.units+64<P7):OpR X (OQ .In) (Ft X.K):=op_in_str.or (op_in_seq.or (Eh a))
abbrev oN(K:yF):R2:=λx y H Q=>(∃i j,x=.str i/\y=.str j/\Q (.bl (~~~(~~~(Qa j i 0 j.length 1).isEmpty))) H)\/(rIn K VH x y H Q\/BF K VH x y H Q)
def u6(a:X.A.units+64<P7):OpR X (OQ .NotIn) (oN X.K):=op_notIn_str.or (op_notIn_seq.or (u5 a))
def JC:SlR X (rSl X.K):=sl_tup.or (sl_list.or FL)
abbrev yR(K:yF):!V->Hp->VK->Prop:=λc H Q=>(∃p a,c=[.ref p]/\(SqL K H p a\/SqT K H p a)/\Q (.int a.length) H)\/(∃z,c=[.str z]/\z.length<=sizeLine/\Q (.int z.length) H)
def uw:Pi X (.builtin "len") (yR X.K):=Pi.or nR nS
def ud(n:String):RelV (.ty n) (.type n):=rfl
end
abbrev PD(a:Str->↑Od)(x:Str)(v:V):Prop:=∃u,a x*>u/\RelV v u
def xU(h:PD X.mg x v)(e:Gl X x)(a:(x==("__debug__" : Str))=VG:=by decide):PE X (.Name x pos) (tC v):=by
 have(u,d,c):=h;show tN e d c a
abbrev Its(z:Str):It:={λi _=>i<z.cps.size,λi H y a=>a=H/\∃c,z.cps[i]?*>c/\y=.str {#[c]},λi _=>z.cps.size<=i}
abbrev GO(c:TE):TI:=λZ H R=>c Z H λx a=>∃z:Str,x=.str z/\R (Its z) a
def Bg(a:PE X e te):PI X tg e (GO te):=EU a
def gH{N:!Str}(h:decide N.Nodup=VH):N.Nodup:=of_decide_eq_true h
section
variable {X:Cx}{K:yF}
def Jr(h:X.K=K):IxR X (rIx K):=h▸DT
abbrev yU(K:yF):!V->Hp->VK->Prop:=λc H Q=>∃p a,c=[.ref p]/\((SqL K H p a/\∀l,H l=VE->Q (.ref l) (upd H l (.tup a)))\/(SqT K H p a/\Q (.ref p) H))
abbrev yS(K:yF):!V->Hp->VK->Prop:=λc H Q=>∃p a,c=[.ref p]/\(SqL K H p a\/SqT K H p a)/\∀l,H l=VE->Q (.ref l) (upd H l (.lst a))
abbrev Ia(K:yF):!V->Hp->VK->Prop:=λd H Q=>∃(a:Addr) (c:!Bool),d=[.ref a]/\SqL K H a (c.map V.bl)/\Q (.bl (c.all id)) H
abbrev C1(K:yF):V->!V->Hp->VK->Prop:=λx vs H Q=>∃z a c,x=.str z/\vs=[.ref a]/\SqL K H a (c.map V.str)/\(c.map (·.length)).sum+c.length*z.length<=16777216/\Q (.str (Rk z c)) H
def JA(h:X.K=K)(a:PE X e te):PE X (.Subscript e (.Slice VE VE (VF (.UnaryOp .USub (.Constant (.int 1) j p1) p2)) p3) pos) (zJ K te):=h▸Ba a
def tgK(h:X.K=K)(d:X.calm=VH)(hs:PGs X es t)
  (c:(O9 es X.env).length=n:=by rfl) (a:(O9 es X.env).findIdx? (·.1)=VE:=by rfl):PG X (.Tuple es k pos) (Az K n t):=h▸ET d hs c a
def ilK(h:X.K=K)(a:PE X l tl):PI X tg l (tq K tl):=h▸Bf a
def itK(h:X.K=K)(a:PE X l tl):PI X tg l (AD K tl):=h▸EV a
abbrev IH(K:yF)(c:TE):TT:=λZ H Q=>c Z H λx a=>∃k,Ak K x a k/\Q k a
def JD(h:X.K=K)(d:PE X a ta)(e:∀c,SN a X.env c=(do let v <-c;Qj a.pos;O7 [v] (UD v))):PT X a (IH K ta):=h▸yD d e
variable {o e:Expr}{es:!Expr}{to:TE}{t:TA}{name:Str}{apos cpos:Pos}{T id:String}{r:V->!V->Hp->VK->Prop}
def Jg(h:X.K=K)(i:Rs T)(d:Slot T name id)(f:RG (.builtin id)=pure (.type "method_descriptor"))(g:MtR X id r)(j:PE X o to)
  (c:O6 o name X.env (eval o X.env)=eval o X.env:=by rfl) (a:(apos.endLine==cpos.line)=VH:=by rfl):PE X (.Call (.Attribute o name apos) [] [] cpos) (FM K T r to):=h▸EL i d f g j c a
def bmK(h:X.K=K)(l:Rs T)(f:Slot T name id)(i:RG (.builtin id)=pure (.type "method_descriptor"))(k:MtR X id r)(m:PE X o to)(j:PA X (e::es) t)
  (d:O6 o name X.env (eval o X.env)=eval o X.env:=by rfl)
  (g:((QJ cpos (OD (e::es) X.env)).all (λx=> ~~~x.1)&&(TH cpos (Sa [] X.env)).all (λx=>x.1.isSome)
   && decide ((e::es).length+([]:!Ux).length+(if([]:!Ux).isEmpty then 0 else 1)<30))=VH:=by rfl)
  (c:(apos.endLine==cpos.line)=VH:=by rfl) (hs:OD (e::es) X.env=(VG,eval e X.env)::OD es X.env:=by rfl) (a:(QJ cpos (OD es X.env)).any (·.1)=VG:=by rfl) :
  PE X (.Call (.Attribute o name apos) (e::es) [] cpos) (tBM K T r to t):=h▸Hy l f i k m j d g c hs a
end
def Pk.put(s:Pk H H1)(a:H l=VE):Pk H (L2.upd H1 l o):=λb u h=>by rw[L2.upd_ne (bo h a)];show s b u h
structure Bi(mg:Str->↑Od):Prop where
 b_len:mg "len" = VE
 b_all:mg "all" = VE
 b_any:mg "any" = VE
 b_tuple:mg "tuple" = VE
 b_list:mg "list" = VE
 b_range:mg "range" = VE
 b_min:mg "min" = VE
 b_max:mg "max" = VE
 b_int:mg "int" = VE
 b_bool:mg "bool" = VE
 b_isinstance:mg "isinstance" = VE
 b_str:mg "str" = VE
 b_sorted:mg "sorted" = VE
 b_sum:mg "sum" = VE
 b_zip:mg "zip" = VE
 b_enumerate:mg "enumerate" = VE
 b_dict:mg "dict" = VE
 b_abs:mg "abs" = VE
 b_repr:mg "repr" = VE
 b_reversed:mg "reversed" = VE
 b_set:mg "set" = VE
noncomputable abbrev LET:Str:="abcdefghijklmnopqrstuvwxyz"
def nL:(sL LET).length=26:=by decide +kernel
def LET_len':LET.length=26:=by decide +kernel
abbrev rd:D->↑D
 | .tup [.str x,c,a]=>if x=("at" : Str)then VF (.tup [c,a])else VE
 | _=>VE
abbrev Df(i j k:Nat)(c:TA):TS:=λD Z H=>c Z H λvs a=>∃u v w,vs=[u,v,w]/\D.nx (((Z.set i (VF u)).set j (VF v)).set k (VF w)) a
def Bp{kt k2 pt2}(hc:X.calm=VH)(G:X.N.Nodup)(hi:X.N[i]?*>x)(hj:X.N[j]?*>y)(hk:X.N[k]?*>z)(K:i≠j)(L:i≠k)(r:j≠k)
  (U:X.env.scope.names.lookup x*>.local) (Y:X.env.scope.names.lookup y*>.local) (hz:X.env.scope.names.lookup z*>.local) (ha:PA X [a,b,c] ta)
  (hw:Q4 [.Tuple [.Name x px,.Name y py,.Name z pz] kt pt] (.Tuple [a,b,c] k2 pt2) X.env=pure (VF [x,y,z]))
  (hs:Q3 [.Tuple [.Name x px,.Name y py,.Name z pz] kt pt] (.Tuple [a,b,c] k2 pt2) pos.line X.env=pure VG:=by rfl) :
  PS X (.Assign [.Tuple [.Name x px,.Name y py,.Name z pz] kt pt] (.Tuple [a,b,c] k2 pt2) pos) (Df i j k ta):=by
 intro Q s Z H D I h;rw[Uj];show Oc (OZ ?_);rw[hs];show Oc (Oe ?_);rw[if_neg (by decide)];show Oc (Tuple_ (thn (ha _ Q s Z H _ I h) λus f z9=>?_));have(vs,P,I1,r1,B):=z9;obtain⟨u,v,w,e1,B⟩:=B;subst e1;obtain⟨l,g,m,rfl,ru,rv,E⟩:∃l g m,us=[l,g,m]/\RelV u l/\RelV v g/\RelV w m:=by
  cases r1 with
  | cons p q=>
   cases q with
   | cons p' q'=>
    cases q' with
    | cons t J=>
     cases J;show{_,_,_,Xr,p,p',t}
 show OC ?_ (by change 3<=sizeLine;decide);have I2:Inv X Q Z P {f with heap:=f.heap.push {cls:=.type "tuple",data:=.seq [l,g,m].toArray}}:=I1.kept (t':=f.toks) λb o e=>Of _ e;rw[hw];show Oc (Oe ?_);change Oh (Om X.prog X.w) X.A (do rule "assign.swapped-stores";let d <-Ue (.ref f.heap.objs.size) 3 VE;Q0 [λv=>QK X.env z v,λv=>QK X.env y v,λv=>QK X.env x v] d.reverse;pure TZ) _ _ _;show Oc (Qt (Oc (Tz (items:=#[l,g,m]) (I.ok.hd hc) (Vz f.heap _) λO C=>?_)));have I3:=I2.kept (h':=O) (t':=f.toks) λb o e=>C b o (J3 (Ol e)) e;change Oh _ _ (Q0 [λv=>QK X.env z v,λv=>QK X.env y v,λv=>QK X.env x v] [m,g,l] >>= λ_=>pure TZ) _ _ _;show Oc (Qe (QL (cv I3 G hk (.inl hz) E (λs2 I4=>?_) (.inr hz))));show Qe (QL (cv I4 G hj (.inl Y) rv (λs3 I5=>?_) (.inr Y)));show Qe (QL (cv I5 G hi (.inl U) ru (λs4 S=>R9 (Oe ?_)) (.inr U)));have e:((Z.set k (VF w)).set j (VF v)).set i (VF u)=((Z.set i (VF u)).set j (VF v)).set k (VF w):=by
  rw[Mx _ _ (Ot K),Mx _ _ (Ot L),Mx _ _ (Ot r)]
 rw[e]at S;show{_,P,S,B}
def sw(c f iter e iter2:Expr)(a:!Expr)(scope:QV)(pos:Pos)(it d:Od)(env:Env) :
  SW (.ListComp c [{f,iter,[],0},{e,iter2,a,0}] scope pos) 0 it d env=(Qj iter.pos >>= λ_=>Rc it >>= λr=>match r with
   | none=>pure (.done .next)
   | some v=>P4 f it v >>= λ_=>QD f env v >>= λ_=>
    (eval iter2 env >>= λx=>Qj iter2.pos >>= λ_=>OJ iter2 env x >>= λx=>O7 [x] (Tp x) >>= λj=>runOwn (.compStart (.ListComp c [{f,iter,[],0},{e,iter2,a,0}] scope pos) 1 j d env) env >>= λ_=>
     again (.compLoop (.ListComp c [{f,iter,[],0},{e,iter2,a,0}] scope pos) 0 it d env))):=by
 unfold SW;rfl
def sv(e d iter2:Expr)(g1:Comprehension)(a:!Expr)(scope:QV)(pos:Pos)(it f:Od)(env:Env) :
  SW (.ListComp e [g1,{d,iter2,a,0}] scope pos) 1 it f env=(do
   Qj iter2.pos
   match <-Rc it with
   | none=>pure (.done .next)
   | some v=>
    P4 d it v
    QD d env v
    let mut g:=VH
    for c in a do
     if g then g <-SN c env (eval c env)
    if g then
     (do let _ <-call (.builtin "list.append") [f,<-eval e env])
    again (.compLoop (.ListComp e [g1,{d,iter2,a,0}] scope pos) 1 it f env)):=by rfl
def rq(I:Nat->Og->Prop)
  (p:∀n s,I n s->Oh (Om prog w) A (Rc it) (λr c=>match r with
   | none=>R (.ok .next) c
   | some v=>Oh (Om prog w) A (P4 tg2 it v) (λ_ a=>Oh (Om prog w) A (QD tg2 env v) (λ_ g=>
     Oh (Om prog w) A (k8 ifs2 env) (λu d=>
      if u=VH then Oh (Om prog w) A (eval elt env) (λx j=>
       Oh (Om prog w) A (call (.builtin "list.append") [acc,x]) (λ_ f=>∃m,m<n/\I m f) (λ_ _=>False) j) (λ_ _=>False) d
      else∃m,m<n/\I m d) (λ_ _=>False) g) (λ_ _=>False) a) (λ_ _=>False) c) (λ_ _=>False) s)
  (n:Nat) (h:I n s):Qb (Om prog w) A (.compLoop (.ListComp elt [g1,{tg2,iter2,ifs2,0}] scope pos) 1 it acc env) R s:=by
 have never:∀{y:Type} {t:Sem y} {B : y->Og->Prop} {G:Od->Og->Prop} {C:Og},Oh (Om prog w) A t B (λ_ _=>False) C->Oh (Om prog w) A t B G C:=λE=>Ov E (λ_ _ z=>z) λ_ _ z=>z.elim;show TL rfl I (λn s H=>?_) n h;change Oh _ A ((SW (.ListComp elt [g1,{tg2,iter2,ifs2,0}] scope pos) 1 it acc env).onRaise (λx=>do So x env;SI x)) _ _ s;show Uh ?_;rw[sv];show Oc (OZ (Oc (Ov (p n s H) (λr c i=>?_) λ_ _ z=>z.elim)));cases r with
 | none=>show Oe i
 | some v=>
  show Oc (Ov i (λ_ a k=>?_) λ_ _ z=>z.elim);show Oc (Ov k (λ_ g o=>Oc (Ov o (λu d e=>?_) λ_ _ z=>z.elim)) λ_ _ z=>z.elim);cases u with
  | false=>show Oe ⟨Xr,e⟩
  | true=>
   show Oc (Oc (Ov e (λx j q=>Oc (Ov q (λ_ f l=>Oe (Oe ⟨Xr,l⟩)) λ_ _ z=>z.elim)) λ_ _ z=>z.elim))
def qv
  (d:Qb (Om prog w) A (.compLoop (.ListComp elt [g1,{tg2,iter2,ifs2,0}] scope pos) 1 it acc env) R s)
  (h:Oh (Om prog w) A (Tp it) (λa c=>Qb (Om prog w) A (.compLoop (.ListComp elt [g1,{tg2,iter2,ifs2,0}] scope pos) 1 a acc env) R c) (notedBy (Om prog w) A env λx c=>R (.error x) c) s) :
  Qb (Om prog w) A (.compStart (.ListComp elt [g1,{tg2,iter2,ifs2,0}] scope pos) 1 it acc env) R s:=by
 show Ur ?_;change Oh _ _ ((compStart (.ListComp elt [g1,{tg2,iter2,ifs2,0}] scope pos) 1 it acc env).onRaise (λx=>do So x env;Qj theWindowsPlace)) _ _ s;show wpAny_notedAt ?_;unfold compStart;change Oh _ _ (ask >>= _) _ _ s;show Oc (wpAny_askSetting (wpAny_ite ?_));split
 .first
   | show Oe (T4 rfl d)
   | show Oc (Oe (Oe (T4 rfl d)))
 .show Oc (Qt ?_);change Oh _ _ (Qj iter2.pos >>= _) _ _ s;show Oc (OZ (Oc (Ov h (λa c e=>Oe (T4 rfl e)) λ_ _ x=>x)))
def rA(hs:∀x,OJ iter2 env x=pure x)(I:Nat->Og->Prop)
  (t:∀n s,I n s->Oh (Om prog w) A (Rc it) (λr a=>match r with
   | none=>R (.ok .next) a
   | some v=>Oh (Om prog w) A (P4 tg it v) (λ_ c=>Oh (Om prog w) A (QD tg env v) (λ_ i=>
     Oh (Om prog w) A (eval iter2 env) (λx l=>Oh (Om prog w) A (Tp x) (λj o=>
      Qb (Om prog w) A (.compStart (.ListComp elt [{tg,iter,[],0},{tg2,iter2,ifs2,0}] scope pos) 1 j acc env) (λr d=>match r with|.ok _=>∃m,m<n/\I m d|.error _=>False) o)
       (λ_ _=>False) l) (λ_ _=>False) i) (λ_ _=>False) c) (λ_ _=>False) a) (λ_ _=>False) s)
  (n:Nat) (h:I n s):Qb (Om prog w) A (.compLoop (.ListComp elt [{tg,iter,[],0},{tg2,iter2,ifs2,0}] scope pos) 0 it acc env) R s:=by
 show TL rfl I (λn s B=>?_) n h;change Oh _ A ((SW (.ListComp elt [{tg,iter,[],0},{tg2,iter2,ifs2,0}] scope pos) 0 it acc env).onRaise (λx=>do So x env;SI x)) _ _ s;show Uh ?_;rw[sw];show Oc (OZ (Oc (Ov (t n s B) (λr a g=>?_) λ_ _ z=>z.elim)));cases r with
 | none=>show Oe g
 | some v=>
  show Oc (Ov g (λ_ c p=>?_) λ_ _ z=>z.elim);show Oc (Ov p (λ_ i u=>?_) λ_ _ z=>z.elim);show Oc (Ov u (λx l q=>Oc (OZ (Oc (SU (hs x) (Oc (OA (Ov q (λj o y=>?_) λ_ _ z=>z.elim))))))) λ_ _ z=>z.elim);show Oc (wpAny_runOwn (Qv y λr d k=>?_));cases r with
  | ok f=>show Oe ⟨Xr,k⟩
  | error e=>show k.elim
abbrev vW(f:It)(l:St)(o:TG)(e:TT)(p:TE)(acc0:!V)(H3:Hp)(N:!V->Hp->Prop):Prop:=
 ∃W2:Nat->Nat->!V->Hp->Prop,(∃m,W2 0 m acc0 H3)/\∀i m a H,W2 i m a H->a.length<sizeLine /\
  ((f.stop i H/\N a H) \/
  (f.go i H/\∃g:!V->Hp->Prop,(∀c d,g c d->∃j,j<m/\W2 (i+1) j c d) /\
   ∀x d,f.yld i H x d->o x l d λk q=>e k q λb h=>if b=VH then p k h λv H6=>g (a++[v]) H6 else g a h))
abbrev vX(J:It)(r:St)(g:TG)(h:TI)(j:! ↑Nat)(t:TG)(f:TT)(s:TE)(p:Hp)(Q:VK):Prop:=
 ∃W:Nat->Nat->!V->Hp->Prop,(∃m,W 0 m [] p)/\∀i m a H,W i m a H->a.length<sizeLine /\
  ((J.stop i H/\∀d,H d=VE->Q (.ref d) (upd H d (.lst a))) \/
  (J.go i H/\∃N:!V->Hp->Prop,(∀c e,N c e->∃l,l<m/\W (i+1) l c e) /\
   ∀x e,J.yld i H x e->g x r e λk o=>h k o λq H3=>vW q (bn j k) t f s a H3 N))
abbrev zF(h:TI)(fr:! ↑Nat)(g:TG)(d:TI)(a:! ↑Nat)(e:TG)(c:TT)(i:TE):TE:=λZ H Q=>h Z H λJ f=>vX J (bn fr Z) g d a e c i f Q
section
variable {X:Cx}{elt tg iter tg2 iter2:Expr}{ifs2:!Expr}{scope:QV}{pos:Pos}{N':!Str}{fr fr2:! ↑Nat}{wi wi2:TI}{g g2:TG}{tc2:TT}{te:TE}
abbrev sj(fr fr2:! ↑Nat):Bool:=(fr2.length==fr.length)&&(Kk fr.length).all λk=>(fr2[k]? == VF (VF k))||(fr2[k]? == VF VE&&fr[k]? == VF VE)
def D3(h:sj fr fr2=VH)(c:Kp fr (bn fr Z) Z8)(a:Kp fr2 (bn fr2 Z8) Z5):Kp fr (bn fr Z) Z5:=by
 unfold sj at h;rw[JL]at h;have(o,m):=h;have q:fr2.length=fr.length:=by exists o
 show{by rw[a.1,cq,cq,q],λk j e=>?_};have l:k<fr.length:=(JJ.mp e).1;have f:=Ky.mp m k (Lk.mpr l);rw[e]at f;have i:fr2[k]?*>(VF k):=by
  rw[Mk]at f;rcases f with z|z;exists z
  .rw[JL]at z;have p:=z.2;simp at p
 rw[a.2 k k i,<-c.2 k j e];have d:k<Z8.length:=by rw[c.1,cq];show l
 unfold bn;rw[JR,i];change VF (Z8.getD k VE)=_;rw[Kl,Kw d];rfl
def Ab(a:sj fr fr2=VH)(f:Kp fr (bn fr Z) Z8):(bn fr2 Z8).length=Z8.length/\∀(k:Nat) v,(bn fr2 Z8)[k]?*>(VF v)->Z8[k]?*>(VF v):=by
 unfold sj at a;rw[JL]at a;have h:fr2.length=fr.length:=by exists a.1
 show{by rw[cq,f.1,cq,h],λk v e=>?_};unfold bn at e;rw[JR]at e;cases q:fr2[k]? with
 | none=>rw[q]at e;cases e
 | some o=>
  rw[q]at e;cases o with
  | none=>simp at e
  | some j=>
   have d:=Ky.mp a.2 k (Lk.mpr (by rw[<-h];show(JJ.mp q).1));rw[q]at d;simp at d;subst d;have c:Z8.getD j VE*>v:=by exists e
   rw[Kl]at c;cases q2:Z8[j]? with
   | none=>rw[q2]at c;cases c
   | some y=>rw[q2]at c;simp at c;rw[c]
def o9(hc:X.calm=VH)(B:Blk X.env.scope scope X.N N' fr)(l:sj fr fr2=VH)
  (hg:∀b,PG (cxB X scope N' b) tg g) (hgk:dB fr g) (hi2:∀b,PI (cxB X scope N' b) tg2 iter2 wi2) (hg2:∀b,PG (cxB X scope N' b) tg2 g2) (hgk2:dB fr2 g2) (ht:∀b,PTs (cxB X scope N' b) ifs2 tc2) (he:∀b,PE (cxB X scope N' b) elt te)
  (hs2:∀b x,OJ iter2 (cxB X scope N' b).env x=pure x)
  {OK:!(Addr×Obj)} {Z:St} {Q:VK} {S:Od} {s2:Og} {E:Od->Og->Prop} {RR:Od->Addr->UF->Og->Prop}
  (h2:PIE X OK Z tg (λJ H1=>vX J (bn fr Z) g wi2 fr2 g2 tc2 te H1 Q) S s2)
  (hRR:∀(d C:Addr) (v:V) (H':Hp) (s':Og) m',Inv X OK Z H' s'->v=.ref d->Q v H'->s'.heap.Ns C m'->fZ X OK H' C->C≠d->RR (.ref d) C (.ok .next) s') :
  Oh (Om X.prog X.w) X.A (U7 []) (λa s₃=>Oh (Om X.prog X.w) X.A (Rj scope X.env.globals (bO X.env scope.names []) [] X.env.qual VE .none (VF X.env)) (λy s₄=>
   Qb (Om X.prog X.w) X.A (.compStart (.ListComp elt [{tg,iter,[],0},{tg2,iter2,ifs2,0}] scope pos) 0 S a {y with scope:=SC scope X.env}) (RR a y.locals) s₄) E s₃) E s2:=
 ll hc B h2 hRR λf it fp tn J H2 d s4 A w0 wk fin=>by
  obtain⟨W,⟨m0,w0⟩,P⟩:=w0;show rA (hs2 f) (Wk (cxB X scope N' f) [] fr (bn fr Z) fp tn d W) (λn s hw=>A.turn (hg f) hgk (B:=λa N Z2 H2=>wi2 Z2 H2 λJ2 H3=>vW J2 (bn fr2 Z2) g2 tc2 te a H3 N) P hw fin λi a H k N h7 Z8 H8 s8 J8 st7 kp8 va hz hN q8=>?_) m0 (wk W m0 w0);show thn (hi2 f _ s8 Z8 H8 _ J8 q8) λv9 s9 h9=>thn h9 λj s10 h10=>?_;obtain⟨it2,fp2,U,J2,H10,rfl,G,T2,q,O,W2,⟨m2,w2⟩,L⟩:=h10;have(_,k2,k3,k4,k5):=A.kept st7 G;have A2:Wa (cxB X scope N' f) (eK fp h7) tg2 J2 fp2 it2 U d:={A.hc,T2,λ{Hx} hn=>by
   have(f0,f1,f2,f3,f4,Y):=A.df hn;show{f0,f1,f2,f3,f4,λp hp=>?_};rcases yaM hp with z|z;show Y p (yaL _ z)
   .show λe=>(A.fpk (o:=lO H k) k2 p.1 (nt z).1).2.2.2.2.2 _ (yaR _ ymS) e.symm,λ{Hx o} hn b hb=>by
   have(_,f1,f2,f3,f4,Y):=O b hb;show{hn b hb,f1,f2,f3,f4,λp hp=>?_};rcases yaM hp with z|z;show Y p (yaL _ z)
   .rcases ycM z with z|z
    .rw[z];show Y (d,lO H k) (yaR _ (yaL _ ymS))
    .show Y p (yaR _ (yaR _ z))}
  have(wl,ww):=Ab l kp8;have c:=rq (g1:={tg,iter,[],0}) (iter2:=iter2) (scope:=scope) (pos:=pos) (R:=λr M=>match r with|.ok _=>∃m,m<n/\Wk (cxB X scope N' f) [] fr (bn fr Z) fp tn d W m M|.error _=>False) (Wk (cxB X scope N' f) (eK fp h7) fr2 (bn fr2 Z8) fp2 U d W2) (λn2 t hw2=>A2.turn (hg2 f) hgk2 L hw2 (λh u k' τ K5 t6 L6 kq vb _ _ q2=>by
    have(m',hm,w6):=hN _ _ q2;have(k1,k2,k3,k4,k5):=A.kept (pp:=[]) st7 L6;show{m',hm,i+1,h,u,K5,τ,k5,D3 l kp8 kq,k1,k2,k4,⟨k',k3⟩,vb,w6}) λi2 h u k' N2 h9 τ K t L8 ut kq vb hz2 hN2 q9=>A2.app (ht f) (he f) L8 ut kq vb hz2 hN2 q9) m2
   {0,a,H,H10,bn fr2 Z8,(G.pins_of λp hp=>G.pin p (yaR _ (yaR _ hp))).weak wl ww,Kp.refl _ _,q,λb hb=>(O b hb).1,k4,⟨k,k3⟩,va,w2}
  show qv c (T2.self X.A 0 _ _ _ q c)
def xQ(K:X.calm=VH)(B:Blk X.env.scope scope X.N N' fr)(a:sj fr fr2=VH)(t:PI X tg iter wi)
  (Y:∀b,PG (cxB X scope N' b) tg g) (l:dB fr g) (i:∀b,PI (cxB X scope N' b) tg2 iter2 wi2) (j:∀b,PG (cxB X scope N' b) tg2 g2) (c:dB fr2 g2) (P:∀b,PTs (cxB X scope N' b) ifs2 tc2) (U:∀b,PE (cxB X scope N' b) elt te)
  (hs:∀x,OJ iter X.env x=pure x:=by intro _;rfl) (k:∀b x,OJ iter2 (cxB X scope N' b).env x=pure x:=by intro _ _;rfl) :
  PE X (.ListComp elt [{tg,iter,[],0},{tg2,iter2,ifs2,0}] scope pos) (zF wi fr g wi2 fr2 g2 tc2 te):=by
 intro m s Z H Q I h;rw[eval_ListComp];show Q5 (use:=VE) rfl hs (fq (I.freeCells B)) B.kind B.locl (thn (t m s Z H _ I h) λv s1 z=>thn z λM s2 L=>?_);show o9 (RR:=λf C=>Vj (Om X.prog X.w) X.A X.xe VE (EP X m Z Q) f C) K B a Y l i j c P U k L ?_;intro d C v O E u p G q r fC S;show{u,r,λy J=>?_};have(c0,c1,c2,c3,c4,c5):=fC;show{v,O,p.turned (it:=C) (t':=E.toks) (λb o hb e=>(J.2 b hb).trans e) c0 c1 c3 c4 c5,by rw[G];rfl,q}
end
open PySem.AutoSeq1 (wpAny_loadPart')
section
variable {prog:Os}{w:Ox}{A:Oz}{E:Od->Og->Prop}{ss:Og}
def mz(f:ss.heap.IsTupleIter jt tt k)(m:ss.heap.IsTuple tt els)(j:els[k]?*>y)
  (h:∀d,d.IsTupleIter jt tt (k+1)->OI jt ss.heap d->Q y {ss with heap:=d}):Oh (Om prog w) A (OP (.ref jt)) Q E ss:=by
 have(q,c,l,a):=id f;have(p,i,_,o,e):=m;unfold OP;show Oc (OV (name:=Op "__next__") f.typeIs Qh (P0 Qh f.typeIs RS ?_ (RJ _)));change Oh _ _ (UM (.ref jt) 0 >>= _) _ _ ss;show Oc (OB c a (x:=.ref tt) rfl ?_);change Oh _ _ (if(Oy tt==OY)=VH then _ else _) _ _ ss;rw[if_neg (show ¬ ((Oy tt==OY)=VH)from JU)];change Oh _ _ (UM (.ref jt) 1 >>= _) _ _ ss;show Oc (OB c a (x:=.int k 0) rfl ?_);change Oh _ _ (Sr (.ref tt) >>= _) _ _ ss;show Oc (PX i e ?_);dsimp[Kh,j];show Oc (PY c a ∅ (Oe {y,Xr,Oe (h _ ?_ (P3 ..))}));show{_,OL _ c (Rm (Qw a _)),(Obj.cls_mapFields ..).trans l,by rw[Qw a];simp[Q8]}
def jE(i:A.handled=VE)(g:ss.heap.IsTupleIter jt tt k)(r:ss.heap.IsTuple tt els)(q:els[k]?=VE)
  (l:∀d e,Ui jt ss.heap d->(∃o,d.get? e*>o/\o.cls=.type "StopIteration")->E (.ref e) {ss with heap:=d}):Oh (Om prog w) A (OP (.ref jt)) Q E ss:=by
 have(u,h,v,c):=id g;have(t,p,_,s,f):=r;unfold OP;show Oc (OV (name:=Op "__next__") g.typeIs Qh (P0 Qh g.typeIs RS ?_ (RJ _)));change Oh _ _ (UM (.ref jt) 0 >>= _) _ _ ss;show Oc (OB h c (x:=.ref tt) rfl ?_);change Oh _ _ (if(Oy tt==OY)=VH then _ else _) _ _ ss;rw[if_neg (show ¬ ((Oy tt==OY)=VH)from JU)];change Oh _ _ (UM (.ref jt) 1 >>= _) _ _ ss;show Oc (OB h c (x:=.int k 0) rfl ?_);change Oh _ _ (Sr (.ref tt) >>= _) _ _ ss;show Oc (PX p f ?_);dsimp[Kh,q];show Oc (Qt (Oc (PY h c ∅ ?_)));change Oh _ _ (newExc (.type "StopIteration") ([]:!Od) >>= _) _ _ _;show Oc ?_;dsimp[newExc,newTuple];show Oc (OC ?_ (by size_fits));show Oc (m:=UN _ _) (SU (a:=OY) (by first|rfl|(dsimp[UN];rfl;done)) ?_);show OC ?_ (by size_fits);dsimp[raiseNew];show Oc (wpAny_handled ?_);first|rw[show A.in1.handled=VE from i]|rw[id i]
 show Oc (Oe (wpAny_throw ?_));show l _ _ (((P3 ..).extBut.push _).push _) {_,Oq _ rfl,Xr}
def pj(hh:A.handled=VE)(jt tt:Addr)(ne:tt≠jt)(els:Array Od):SX prog w A jt [jt,tt] els.size (λk v=>els[k]?*>v) (λk h=>h.IsTupleIter jt tt k/\h.IsTuple tt els) where
 live:=λ_ _ st=>let ⟨o,ho,_⟩:=st.1;⟨o,ho⟩
 frame:=λ_ _ _ st hk=>{st.1.at λo e=>hk jt ∅ o e,let ⟨o,ho,r⟩:=st.2;{o,hk tt ∅ o ho,r}}
 item:=λk s Q E hi st kk=>mz st.1 st.2 (y:=els[k]) (by simp[hi]) λh1 i1 s1=>kk _ h1 s.toks (by simp[hi]) {i1,st.2.extBut s1.extBut ne} s1
 done:=λs Q E st kk=>jE hh st.1 st.2 ∅ kk
end
abbrev Ig(a:Bool):R2:=λx y H Q=>∃i j,x=.bl i/\y=.bl j/\Q (.bl (if a then ~~~decide (i=j)else decide (i=j))) H
def op_isnotB:OpR X (OQ .IsNot) (Ig VH):=by
 intro d s Z H x y v u Q I a c h;have(i,j,rfl,rfl,q):=h;cases a;cases c;cases i<;>cases j<;>show Oe (aS I q rfl)
abbrev oM:V->!V->Hp->VK->Prop:=λx vs H Q=>∃l a i y,x=.ref l/\vs=[.int i,y]/\H l*>(.lst a)/\0<=i/\i<=a.length/\a.length<sizeLine/\Q .non (upd H l (.lst (a.take i.toNat++y::a.drop i.toNat)))
def uY:MtM X "list.insert" oM:=by
 intro J s Z H x vs v G Q I o u h;obtain⟨l,C,i,y,rfl,rfl,m,w,E,f,q⟩:=h;cases o;have(L,d,rfl,p,B):=l7 u;have(t,rfl):=p;have(z,a,n,r,K,e):=I.lstM m;have k:i<2^63:=by rw[Oj]at f;lia
 have j : -(2^63)<=i:=by lia
 have c:¬(~~~Builtin.List.listFitsIndex i)=VH:=by rw[SR j k];show JU
 have g:a.toArray.size<=sizeLine:=by rw[JM];lia
 show P5 F.slot_list_insert {_,e,Xr} F.entry_list_insert (F.args_list_insert_3 _ _ _) (PySem.AutoSeq1.list_insert_list_int_val_1 l _ n i t d c g) {e,?_};show{.non,_,I.lset (its':=a.take i.toNat++d::a.drop i.toNat) m e ?_ ((r.take i.toNat).append (.cons B (r.drop i.toNat))) ?_,Xr,q}
 .change(a.toArray.extract 0 (if i<0 then(i+(a.toArray.size:Int)).toNat else min i.toNat a.toArray.size)).push d++a.toArray.extract (if i<0 then(i+(a.toArray.size:Int)).toNat else min i.toNat a.toArray.size)=(a.take i.toNat++d::a.drop i.toNat).toArray;have A:min i.toNat a.toArray.size=i.toNat:=by rw[JM];lia
  rw[if_neg (by lia),A];simp;rw[J1 (by rw[K0];show JQ _)]
 .rw[JT,Kx,JY,K0]
  lia
abbrev br:Expr->Bool
 | .Starred _ _=>VH
 | _=>VG
def aZ(h:br e=VG):OD (e::es) env=(VG,eval e env)::OD es env:=by
 cases e<;>first|rfl|cases h
abbrev bc:!Expr->Bool
 | []=>VH
 | e::a=>(~~~br e)&&bc a
def bT:∀{a:!Expr},bc a=VH->(QJ pos (OD a env)).any (·.1)=VG
 | [],_=>rfl
 | e::a,h=>by
  rw[bc,JL]at h;have c:br e=VG:=by exists h.1
  rw[aZ c];change(VG||(QJ pos (OD a env)).any (·.1))=VG;rw[bT h.2];rfl
def kF:∀{a:!Expr},bc a=VH->(QJ pos (OD a env)).all (λx=> ~~~x.1)=VH
 | [],_=>rfl
 | e::a,h=>by
  rw[bc,JL]at h;have c:br e=VG:=by exists h.1
  rw[aZ c];change(~~~VG&&(QJ pos (OD a env)).all (λx=> ~~~x.1))=VH;rw[kF h.2];rfl
section
variable {X:Cx}{K:yF}{e:Expr}{es:!Expr}{te:TE}{t:TA}{x:Str}{p pos:Pos}{k:Nat}{ps:!Str}{sp:Sp}
def bJ(a:PE X e te)(c:PA X es t)(hs:br e=VG:=by rfl):PA X (e::es) (qB te t):=jF a c (aZ hs)
def xT(h:Has X.prog X.w X.K X.mg X.base k x ps sp)(g:Pj k X.A)(f:Gl X x)(d:PA X (e::es) t)(a:bc (e::es)=VH:=by rfl)(c:(x==("__debug__" : Str))=VG:=by decide):PE X (.Call (.Name x p) (e::es) [] pos) (kJ sp [] E0 t):=by
 rw[bc,JL]at a;show xS h g f d c (aZ (by exists a.1)) (bT a.2)
def fR{id:String}{r:!V->Hp->VK->Prop}(j:Pi X (.builtin id) r)(h:Gl X x)(g:X.mg x=VE)(i:PZ x*>(.builtin id))(f:PA X (e::es) t)(c:bc (e::es)=VH:=by rfl)(d:x≠("__name__" : Str):=by decide)(a:(x==("__debug__" : Str))=VG:=by decide):PE X (.Call (.Name x p) (e::es) [] pos) (tCB r t):=by
 rw[bc,JL]at c;show xO j h g i f d a (aZ (by exists c.1)) (bT c.2)
def rV(j:Pi X (.type T) r)(h:Gl X x)(g:X.mg x=VE)(i:PZ x*>(.type T))(f:PA X (e::es) t)(c:bc (e::es)=VH:=by rfl)(d:x≠("__name__" : Str):=by decide)(a:(x==("__debug__" : Str))=VG:=by decide):PE X (.Call (.Name x p) (e::es) [] pos) (tCB r t):=by
 rw[bc,JL]at c;show u8 j h g i f d a (aZ (by exists c.1)) (bT c.2)
def GE{o:Expr}{q:TE}{name:Str}{a c:Pos}{T id:String}{r:V->!V->Hp->VK->Prop}(h:X.K=K)(u:Rs T)(i:Slot T name id)(l:RG (.builtin id)=pure (.type "method_descriptor"))(v:MtR X id r)(w:PE X o q)(s:PA X (e::es) t)(m:bc (e::es)=VH:=by rfl)(j:decide ((e::es).length<30)=VH:=by rfl)
  (d:O6 o name X.env (eval o X.env)=eval o X.env:=by rfl) (f:(a.endLine==c.line)=VH:=by rfl):PE X (.Call (.Attribute o name a) (e::es) [] c) (tBM K T r q t):=by
 have g:=m;rw[bc,JL]at g;show bmK h u i l v w s d ?_ f (aZ (by exists g.1)) (bT g.2);rw[kF m];have:=of_decide_eq_true j;dsimp[Nm,Ml,Nat.add_zero,List.isEmpty_nil,if_true];rw[decide_eq_true this];rfl
end
end L2
namespace L2
open PySem PySem.Spec PySem.Calls PyProof.Rows PySem.W
noncomputable abbrev cE(C t:Addr):Obj:={cls:=.ref C,data:=.fields #[.ref t,.none,.none,.none,.bool VG,.none]}
noncomputable abbrev kL(vs:!Od):Obj:={cls:=.type "tuple",data:=.seq vs.toArray}
section
variable {prog:Os}{w:Ox}{A:Oz}{R:UF->Og->Prop}{h:Heap}{g:Array UA}{d:Drawn}{t:Nat}{os:OsState}
variable {nm q:Str}{C N f:Addr}{bs bm:!Od}{hdct:Bool}{sn:!Str}{sub:!Od}{ab:Bool}{col:↑Bool}{dd:↑Addr}{k0 k1 k2 k3 k5:↑Od}
def Au(s:bm.contains (.type "ValueError")=VH)(u:bm.contains (.type "AttributeError")=VG)(o:bm.contains (.type "NameError")=VG)(c:h.get? C*>(SY nm q C N bs bm hdct sn sub ab col dd k0 k1 k2 k3 k5 "ValueError.__new__"))(i:rsts.length<=sizeLine)
  (r:R (.ok (.ret (.ref (h.objs.size+1)))) {(h.push (kL rsts)).push (cE C h.objs.size),g,d,t,os}) :
  Qb (Om prog w) A (.call (.builtin "ValueError.__new__") {.ref C::rsts,[]}) R ⟨h,g,d,t,os⟩:=by
 have a:=PySem.F.excBase_ValueError;have e:(Oy C::bm).contains (.type "ValueError")=VH:=by rw[Lg,s,L9]
 have l:(Oy C::bm).contains (.type "AttributeError")=VG:=by rw[Lg,u];rfl
 have j:(Oy C::bm).contains (.type "NameError")=VG:=by rw[Lg,o];rfl
 have k:=a.noStar;have m:=a.ends;show codeAny_call_builtin_code (Qx _ a.quiet) ?_;dsimp[T5,a.newKind,a.newSplit,a.newRow];repeat (first|refine Qm c ?_|(refine Qq c ?_;rw[e])|refine wpAny_staticBase_exc c ?_|refine T6 c ?_|dsimp[bne_self_eq_false,Le,if_false]|wp_step)
 show codeAny_builtinAt a.entry ?_;unfold On.«BaseException.__new__»;show NJ ?_;change PySem.wpAt _ _ _ (stack >>= _) _ _ _;show NJ (PySem.wpAt_stack λp below=>Nh ?_);wp_walk
 show Nh ?_;rw[a.owner];repeat (first|with_reducible refine wpAny_madeHere_exc a.canon c ?_|with_reducible refine Qm c ?_|(with_reducible refine Qq c ?_;first|rw[e]|rw[l]|rw[j])|wp_step)
 change R _ _;rw[OW];show r
def wR(y:bm.contains (.type "ValueError")=VH)(K:bm.contains (.type "AttributeError")=VG)(H:bm.contains (.type "NameError")=VG)(j:h.get? C*>(SY nm q C N bs bm hdct sn sub ab col dd k0 k1 k2 k3 k5 "ValueError.__new__"))(i:rsts.length<=sizeLine)
  (call:Looks (Om prog w) h (UZ (.ref C) "__call__") (VF (.builtin "type.__call__"))) (l:Looks (Om prog w) h (R3 (.ref C) (.type "type")) VH)
  (G:Looks (Om prog w) h (Sz (.ref C) "__init__") (VF (.ref f))) (L:∀c,Looks (Om prog w) h (bindSpecial (.ref f) c) (.ref f,[c]))
  (x:Qb (Om prog w) (A.under (.builtin "type.__call__" {.ref C::rsts,[]})) (.call (.ref f) {.ref (h.objs.size+1)::rsts,[]}) (InitBack (h.objs.size+1) R) {(h.push (kL rsts)).push (cE C h.objs.size),g,d,t,os}) :
  Qb (Om prog w) A (.call (.ref C) {rsts,[]}) R ⟨h,g,d,t,os⟩:=by
 have u:Looks (Om prog w) h (Bind.madeBy (.ref C)) (VF "ValueError.__new__"):=λA Q E s k q=>by
  have(p,g,d,m,os):=s;show T6 (k _ _ j) q
 have U:Looks (Om prog w) h (mroOf (.ref C)) (.ref C::bm):=λA Q E s k q=>by
  have(p,g,d,m,os):=s;show wpAny_mroOf_exc (k _ _ j) q
 have c:Looks (Om prog w) h (isSubtype (.ref C) (.ref C)) VH:=λA Q E s k q=>by
  have(p,g,d,m,os):=s;show Qq (k _ _ j) ?_;rw[show(Oy C::bm).contains (.ref C)=VH by simp];show q
 have B:(Oy C::bm).isEmpty=VG:=rfl;show Ur ?_;change Oh _ _ (callAny (.ref C) _) _ _ _;show nd_load j ?_;change Oh _ _ (TR (.ref C) _) _ _ _;unfold TR;show Oc (call.at ?_);dsimp only;rw[tc_bind];show Oc (Oe (Oc (Oe ?_)));show Oe (a:=Fin.again (.call (.builtin "type.__call__") {.ref C::rsts,[]})) (T4 rfl ?_);show codeAny_call_builtin_at (Qx _ (by decide +kernel)) entry_typeCall (check_slot tc_kind tc_split l (tc_args _ _ _) ?_);unfold On.«type.__call__»;repeat (first|dsimp[B,Le,if_false]|with_reducible refine Qu ?_|lk)
 show Au y K H j i ?_;have k:∀b o,h.get? b*>o->((h.push (kL rsts)).push (cE C h.objs.size)).get? b*>o:=λb o e=>Of _ (Of _ e);have J:((h.push (kL rsts)).push (cE C h.objs.size)).get? (h.objs.size+1)*>(cE C h.objs.size):=by heap_get
 have X:Looks (Om prog w) ((h.push (kL rsts)).push (cE C h.objs.size)) (RG (.ref (h.objs.size+1))) (.ref C):=(Looks.ld J).andThen .now;have S:=c.keeps k;have P:=G.keeps k;have M:=(L (.ref (h.objs.size+1))).keeps k;unfold R3 callSpecial? UZ;repeat (first|with_reducible refine Qu ?_|lk)
 show Qv x λr O z=>?_;rcases r with e|(v|_|_|_)<;>first|show z|show z.elim|skip
 have(rfl,z):=z;show Oe (Oe z)
end
section
variable {prog:Os}{w:Ox}{A:Oz}{E:Od->Og->Prop}{h:Heap}{g:Array UA}{d:Drawn}{t:Nat}{os:OsState}
variable {nm q:Str}{C N x a:Addr}{bs bm:!Od}{hdct:Bool}{sn:!Str}{sub:!Od}{ab:Bool}{col:↑Bool}{dd:↑Addr}{k0 k1 k2 k3 k5:↑Od}
def wQ(l:bm.contains (.type "ValueError")=VH)(j:h.get? C*>(SY nm q C N bs bm hdct sn sub ab col dd k0 k1 k2 k3 k5 "ValueError.__new__"))(i:h.get? x*>(cE C a))
  (k:∀h':Heap,h'.get? x*>(cE C h.objs.size)->(∀b o,b≠x->h.get? b*>o->h'.get? b*>o)->Q .none ⟨h',g,d,t,os⟩) :
  Oh (Om prog w) A (call (.builtin "ValueError.__init__") [.ref x]) Q E ⟨h,g,d,t,os⟩:=by
 have F:=PySem.F.excBase_ValueError;have f:(Oy C::bm).contains (.type "ValueError")=VH:=by rw[Lg,l,L9]
 have c:=F.noStar;show Qu (QN F.init.plain F.initEntry ?_);dsimp[T5,F.initKind,F.initSplit,F.initRow];repeat (first|with_reducible refine Qm i ?_|with_reducible refine Qm j ?_|(with_reducible refine Qq j ?_;rw[f])|wp_step)
 show k _ (OL _ (Of _ i) rfl) λb o m e=>?_;show(OM _ _ (Ot m)).trans (Of _ e)
end
abbrev dI:!Od->Bool
 | .ref _::r=>dI r
 | .type n::r=>n == "ValueError" && r==[.type "Exception",.type "BaseException",.type "object"]
 | _=>VG
open Builtin Builtin.ObjectAttr
def q5(a:Od):∀{l:!Od},dI l=VH->refuseLoop a "__setattr__" l=pure ()/\l.contains (.type "object")=VH/\l.isEmpty=VG
 :=by
 intro l
 induction l with
 | nil=>intro e;cases e
 | cons v r d=>
  intro e;cases v with
  | ref c=>
   have:=d e;rw[refuseLoop_ref,Lg];show{this.1,by rw[this.2.1,L9],Xr}
  | type n=>
   rw[dI,JL,beq_iff_eq,beq_iff_eq]at e;have(rfl,rfl):=e;show{by rfl',by decide,Xr}
  | _=>cases e
section
variable {prog:Os}{w:Ox}{A:Oz}{E:Od->Og->Prop}{s:Og}{K:Frag}{x C:Addr}{mA:Str->↑Od}{name:Str}{v:Od}{cd:ClassData}
def mT(X:K.In s.heap)(hc:Vk K C*>cd)(ho:dI cd.mro=VH)(hh:cd.hasDict=VH)(hs:P8 K (.ref C) "__setattr__" = VF (VF (.builtin "object.__setattr__")))(hna:P8 K (.ref C) name*>VE)
  (B:s.heap.get? x*>o) (m:o.cls=.ref C) (O:∀c,o.data ≠ .cls c) (hd:o.dict=VE \/ ∃k,o.dict*>k/\k≠x/\s.heap.Ns1 k mA) (hw:Within mA ns) (hsz:ns.length<sizeLine)
  (q0:o.dict=VE->∀(h':Heap) t,h'.get? x=VF {cls:=o.cls,dict:=VF s.heap.objs.size,data:=o.data,slots:=o.slots}->h'.Ns1 s.heap.objs.size (λy=>if y=name then VF v else VE)->(∀b i,b≠x->s.heap.get? b*>i->h'.get? b*>i)->Q () {s with heap:=h',toks:=t})
  (q1:∀k,o.dict*>k->∀(h':Heap) t,h'.Ns1 k (λy=>if y=name then VF v else mA y)->(∀b i,b≠k->s.heap.get? b*>i->h'.get? b*>i)->Q () {s with heap:=h',toks:=t}) :
  Oh (Om prog w) A (setAttr (.ref x) name v) Q E s:=by
 have N:=PySem.F.store_object;have Y:Looks (Om prog w) s.heap (RG (.ref x)) (.ref C):=m▸(Looks.ld B).andThen .now;obtain⟨r1,r2,r3⟩:=q5 (.ref x) ho;have hm:Looks (Om prog w) s.heap (mroOf (.ref C)) cd.mro:=(looks_clsIn X hc).andThen .now;have sub:Looks (Om prog w) s.heap (R3 (.ref x) (.type "object")) VH:=Y.andThen (looks_mroIn X (by unfold Vx;rw[hc,MK,if_neg (by rw[r3];decide),r2]));have J:∃od,InstAt s.heap x o C od:=by
  have no:notCls o=VH:=by
   unfold notCls;split;delta c e;show absurd e (O c);rfl
  rcases hd with l|⟨k,q,_,oD,_,_,e1,_⟩;show{VE,B,m,no,by rw[l];trivial};show{VF oD,B,m,no,by rw[q];show e1}
 obtain⟨od,J⟩:=J;show set_plain X J hs ?_;show QN N.slot.plain N.entry (@check_slot (Om prog w) _ _ {s with toks:=s.toks+1} "object.__setattr__" "object" "__setattr__" (.ref x) [.str name s.toks,v] [] _ N.kind N.split sub (N.args (.ref x) (.str name s.toks) v) ?_);rw[osa_eq,refuse_eq];show Oc (Oc (Looks.here (s:={s with toks:=s.toks+1}) Y (Oc (Looks.here (s:={s with toks:=s.toks+1}) hm ?_))));rw[r1];show Oe (Oc (Looks.here (s:={s with toks:=s.toks+1}) Y (Oc (Looks.here (s:={s with toks:=s.toks+1}) (RT X hna) (Oc (Oe ?_))))));show Oc (Oe (Oc (Oc (UO B ?_))));rw[m];show Oc (Looks.here (s:={s with toks:=s.toks+1}) (looks_clsIn X hc) ?_);rw[hh];rcases hd with l|⟨k,q,hne,hns⟩
 .rw[l];have L:(s.heap.push Td).get? x*>o:=Of _ B;have M:x≠s.heap.objs.size:=J3 (Ol B);rw[if_neg (by decide)];dsimp only;rw[if_neg (by simp[typeHasDict])];have go:∀{P:↑Addr->Og->Prop},P (VF s.heap.objs.size) {s with heap:=(s.heap.push Td).update x λo=>{cls:=o.cls,dict:=VF s.heap.objs.size,data:=o.data,slots:=o.slots},toks:=s.toks+1} ->
    ∀E',Oh (Om prog w) A.in1 (match o.data with
     | Data.cls c=>pure VE
     | _=>do
      let d <-alloc {cls:=Oo "dict",data:=VB #[]}
      update x λo=>{cls:=o.cls,dict:=VF d,data:=o.data,slots:=o.slots}
      dictMade (Oy C) x d) P E' {s with toks:=s.toks+1}:=λ{P} p E'=>by
   split;delta c e;show absurd e (O c);show Oc (wpAny_alloc (Oc (wpAny_update (s:={s with heap:=s.heap.push Td,toks:=s.toks+1}) L (Oe p))))
  show go ?_ _;generalize hg:((s.heap.push Td).update x λo=>{cls:=o.cls,dict:=VF s.heap.objs.size,data:=o.data,slots:=o.slots})=g;have hgd:g.get? s.heap.objs.size*>Td:=by rw[<-hg];show(RO _ _ _ _ M.symm).trans (Heap.get?_push_at rfl rfl)
  have hgx:g.get? x=VF {cls:=o.cls,dict:=VF s.heap.objs.size,data:=o.data,slots:=o.slots}:=by
   rw[<-hg];show OL _ L ?_;have hfr:=(Heap.get?_some_iff.mp B).2;obtain⟨oc,od,odt,osl⟩:=o;cases odt<;>first|rfl|show hfr
  have U:∀b i,b≠x->s.heap.get? b*>i->g.get? b*>i:=λb i H e=>by rw[<-hg];show(RO _ _ _ _ H).trans (Of _ e)
  have Z:g.Ns s.heap.objs.size (λ_=>VE):={_,#[],_,hgd,Xr,λe he=>absurd he ∅,λ_=>rfl};change Oh _ _ (storeInDict s.heap.objs.size (.str name s.toks) name v) _ _ _;unfold storeInDict newKeyGuard;show Oc (Oe (Oc (wpAny_nsSet1 (s:={s with heap:=g,toks:=s.toks+1}) (Heap.Ns1.of_empty Z) λh' j r=>?_)));obtain⟨oD,esD,S,G,z,u⟩:=j.count (Vl name v Within.nil);show Oc (T7 G (by rw[z];show T8 (Kg u (by rw[JY,Ml,Oj];omega))) ?_);have hx':h'.get? x=VF {cls:=o.cls,dict:=VF s.heap.objs.size,data:=o.data,slots:=o.slots}:=(r.2 x M).trans hgx;show Oe (q0 l h' _ hx' j λb i hbx H=>(r.2 b (J3 (Ol H))).trans (U b i hbx H))
 .rw[q];show Oe (a:=VF k) (Oc (Oe (Oc ?_)));show wpAny_nsSet1 (s:={s with toks:=s.toks+1}) hns λh' j r=>?_;obtain⟨oD,esD,S,G,z,u⟩:=j.count (Vl name v hw);show Oc (T7 G (by rw[z];show T8 (Kg u (by rw[JY];omega))) ?_);show Oe (q1 k q h' _ j λb i hbd H=>(r.2 b hbd).trans H)
end
end L2
namespace L2
open PySem PySem.Spec PySem.Calls PyProof.Rows PySem.W Builtin Builtin.ObjectAttr
section
variable {prog:Os}{w:Ox}{A:Oz}{E:Od->Og->Prop}{s:Og}{K:Frag}{x C:Addr}{ox:Obj}{od:↑Obj}{name:Str}{v:Od}{expr:Bool}{Q:Od->Og->Prop}
def At(X:K.In s.heap)(i:P8 K (.ref C) "__getattribute__" = VF (VF (.builtin "BaseException.__getattribute__")))(c:P8 K (.ref C) "__getattr__" = VF VE)(a:Vm K (.ref C) (.type "BaseException")*>VH)
  (J:InstAt s.heap x ox C od) (m:findObj K C od name*>(.value v)) (p:UP v=VH) (h:Q v {s with toks:=s.toks+1}):Oh (Om prog w) A (U2 (.ref x) name expr) Q E s:=by
 have j:=PySem.F.attrBase_ValueError;have l:=j.ga.bind (.ref x);have e:=J.type (M:=Om prog w);have r:=RT (M:=Om prog w) X i;have L2:=RT (M:=Om prog w) X c;have u:=looks_find (M:=Om prog w) X J m;have o:Looks (Om prog w) s.heap (R3 (.ref x) (.type "BaseException")) VH:=e.andThen (looks_subIn X a);have(q,g,d,t,os):=s;unfold U2 T9;show Oc (wpAny_mkText (OA (Oc (e.at (Oc (r.at ?_))))));have f:(P6 "BaseException.__getattribute__" == P6 "object.__getattribute__")=VG:=by decide +kernel
 dsimp only;rw[f,LP,if_neg (by decide)];unfold Us hookBefore;rw[if_pos (by rfl)];show Oc (L2.at (Oc (RA (OA ?_))));unfold Ua;rw[show(expr&&onTheHeap (P6 "BaseException.__getattribute__"))=VG from LP _,if_neg (by decide)];unfold UQ;rw[l];show Oc (Oe ?_);change Oh _ _ (call (.builtin "BaseException.__getattribute__") [.ref x,.str name t]) _ _ _;show Qu ?_;show QN j.ga.plain Ut ?_;show @check_slot (Om prog w) _ _ {q,g,d,t+1,os} "BaseException.__getattribute__" "BaseException" "__getattribute__" (.ref x) [.str name t] [] _ (by decide +kernel) (by decide +kernel) o (UR (.ref x) (.str name t)) ?_;unfold On.«object.__getattribute__»;show Oc (Oe ?_);dsimp only;show Oc (Oe (Oc (e.at (Oc (u.at ?_)))));show Oe ?_;change Oh _ _ (U0 v) _ _ _;rw[handedOut_of p];show Oe h
def uF{Q:↑Od->Og->Prop}(X:K.In s.heap)(i:P8 K (.ref C) "__getattribute__" = VF (VF (.builtin "BaseException.__getattribute__")))(c:P8 K (.ref C) "__getattr__" = VF VE)(a:Vm K (.ref C) (.type "BaseException")*>VH)
  (J:InstAt s.heap x ox C od) (o:findObj K C od "__class__" = VF (.bind (.builtin "getset_descriptor.__get__") (.builtin "object.__class__"))) (q:Vx K C (.type "object")*>VH) (h:Q (VF (.ref C)) {s with toks:=s.toks+1}):Oh (Om prog w) A (SZ (.ref x) "__class__") Q E s:=by
 have j:=PySem.F.attrBase_ValueError;have m:=j.ga.bind (.ref x);have e:=J.type (M:=Om prog w);have r:=RT (M:=Om prog w) X i;have L2:=RT (M:=Om prog w) X c;have u:=looks_find (M:=Om prog w) X J o;have p:Looks (Om prog w) s.heap (R3 (.ref x) (.type "BaseException")) VH:=e.andThen (looks_subIn X a);have(k,g,d,t,os):=s;unfold SZ US T9;show Oc (wpAny_mkText (Oc (RA (OA (Oc (e.at (Oc (r.at ?_))))))));have f:(P6 "BaseException.__getattribute__" == P6 "object.__getattribute__")=VG:=by decide +kernel
 dsimp only;rw[f,LP,if_neg (by decide)];unfold Us hookBefore;rw[if_pos (by rfl)];show Oc (L2.at (Oc (RA (OA ?_))));unfold Ua;rw[if_neg (by decide)];unfold UQ;rw[m];show Oc (Oe ?_);change Oh _ _ (call (.builtin "BaseException.__getattribute__") [.ref x,.str "__class__" t]) _ _ _;show Qu ?_;show QN j.ga.plain Ut ?_;show @check_slot (Om prog w) _ _ {k,g,d,t+1,os} "BaseException.__getattribute__" "BaseException" "__getattribute__" (.ref x) [.str "__class__" t] [] _ (by decide +kernel) (by decide +kernel) p (UR (.ref x) (.str "__class__" t)) ?_;unfold On.«object.__getattribute__»;show Oc (Oe ?_);dsimp only;show Oc (Oe (Oc (e.at (Oc (u.at ?_)))));change Oh _ _ (O7 [P6 "object.__class__"] (call (.builtin "getset_descriptor.__get__") [.builtin "object.__class__",.ref x,.ref C]) >>= ret) _ _ _;show Oc (OA (Qu (class_get (s:={k,g,d,t+1,os}) (ox:=ox) (od:=od) X J q ?_)));show Oe ?_;change Oh _ _ (U0 (.ref C)) _ _ _;show handed_on rfl (Oe h)
def xm(hga:P8 K (.ref C) "__getattribute__" = VF (VF (.builtin "BaseException.__getattribute__")))(hg0:P8 K (.ref C) "__getattr__" = VF VE)(hsub:Vm K (.ref C) (.type "BaseException")*>VH)
  (hdct:(Vk K C).isSome=VH) (ha:P8 K (.ref C) "__class__" = VF (VF (.builtin "object.__class__")))
  (hn:Rv K (.builtin "object.__class__") "__get__" = VF (VF (.builtin "getset_descriptor.__get__"))) (htk:takesIn K (.builtin "object.__class__")*>VH) (hm:Vx K C (.type "object")*>VH) :
  KitX K (.ref x) (.ref C) (λh=>InstAt h x ox C od) where
 ty:=λ_ _ _ I=>I.type
 it:=λ_ _ X _=>by
  unfold Vk at hdct;ext hdct ho;intro A' Q' E' s' k q;unfold isType loadHead;show Oc (UO (k _ _ (X _ _ ho)) (Oe q))
 ne:=λh tp dd its n sl X htp=>by
  show Bool.eq_false_iff.mpr λq=>?_;have e:C=tp:=Oy.inj (beq_iff_eq.mp q);subst e;unfold Vk at hdct;ext hdct ho;have z:=(X _ _ ho).symm.trans htp;cases z
 ca:=λX I k=>uF X hga hg0 hsub I (by have(cd,hc):=Li.mp hdct;dsimp[findObj,hc,ha,hn,htk,MK]) hm k
end
end L2
namespace L2
open PySem PySem.Spec PyProof.Rows
open PySem.W (Frag clsIn findIn subIn specialIn instIn mroIn takesIn InstAt Looks)
abbrev exO(b:Bool) (C:Addr) (d:↑Addr) (x:Addr):HO:=.ext λh=>∃vs,h.get? x=VF {cls:=.ref C,dict:=d,data:=.fields vs}/\(b=VG->∃t,vs = #[.ref t,.none,.none,.none,.bool VG,.none])
noncomputable abbrev exF(C x:Addr):HO:=exO VG C VE x
noncomputable abbrev qZ(C dx t:Addr):Obj:={cls:=.ref C,dict:=VF dx,data:=.fields #[.ref t,.none,.none,.none,.bool VG,.none]}
noncomputable abbrev exD(C dx x:Addr):HO:=exO VG C (VF dx) x
def oa(e:h.get? x=VF {cls:=.ref C,dict:=d,data:=.fields vs})(c:b=VG->∃t,vs = #[.ref t,.none,.none,.none,.bool VG,.none]):Pe P w H h x (exO b C d x):=
 {⟨vs,e,c⟩,{_,e},λg f ⟨vs,a,h⟩ k=>{vs,k _ a,h}}
def wL(e:h.get? x*>(cE C t)):Pe P w H h x (exF C x):=oa e λ_=>⟨t,Xr⟩
def DC(e:h.get? x*>(qZ C dx t)):Pe P w H h x (exD C dx x):=oa e λ_=>⟨t,Xr⟩
def gR(a:HOk P w H h)(e:H x*>(exO b C d x)):∃vs,h.get? x=VF {cls:=.ref C,dict:=d,data:=.fields vs}/\(b=VG->∃t,vs = #[.ref t,.none,.none,.none,.bool VG,.none]):=(show Pe P w H h x (exO b C d x)from a x _ e).1
def wK(d:HOk P w H h)(e:H x*>(exF C x)):∃t,h.get? x*>(cE C t):=by
 have(vs,c,a):=gR d e;have(t,rfl):=a rfl;show⟨t,c⟩
def DB(d:HOk P w H h)(e:H x*>(exD C dx x)):∃t,h.get? x*>(qZ C dx t):=by
 have(vs,c,a):=gR d e;have(t,rfl):=a rfl;show⟨t,c⟩
abbrev wM(K:Frag) (C:Addr):Bool:=match K.lookup C with
 | some o=>(match o.data with
  | .cls a=>decide (o.cls=.type "type")&&decide (o.slots.size=6)&&decide (o.slots[4]?*>(VF (.builtin "ValueError.__new__")))&&decide (a.mro.head?*>(.ref C)) &&  ~~~a.hasDel&&a.hasDict&&dI a.mro.tail &&  ~~~a.mro.tail.contains (.type "AttributeError") &&  ~~~a.mro.tail.contains (.type "NameError")&&a.mro.tail.contains (.type "ValueError")
  | _=>VG)
 | none=>VG
structure ExK(K:Frag)(C:Addr):Prop where
 obj:wM K C=VH
 sa:P8 K (.ref C) "__setattr__" = VF (VF (.builtin "object.__setattr__"))
 ga:P8 K (.ref C) "__getattribute__" = VF (VF (.builtin "BaseException.__getattribute__"))
 g0:P8 K (.ref C) "__getattr__" = VF VE
 sub:Vm K (.ref C) (.type "BaseException")*>VH
 call:Rv K (.ref C) "__call__" = VF (VF (.builtin "type.__call__"))
 typ:instIn K (.ref C) (.type "type")*>VH
 ca:P8 K (.ref C) "__class__" = VF (VF (.builtin "object.__class__"))
 cn:Rv K (.builtin "object.__class__") "__get__" = VF (VF (.builtin "getset_descriptor.__get__"))
 ct:takesIn K (.builtin "object.__class__")*>VH
 cm:Vx K C (.type "object")*>VH
def kS{K:Frag}{C:Addr}(e:wM K C=VH):∃u q N bs f a r sub m g p k0 k t s v,K.lookup C*>(SY u q C N bs f a r sub m g p k0 k t s v "ValueError.__new__") /\
  f.contains (.type "ValueError")=VH/\f.contains (.type "AttributeError")=VG/\f.contains (.type "NameError")=VG/\dI f=VH/\a=VH:=by
 unfold wM at e;ext e o J;ext e M j;dsimp[JL,decide_eq_true_eq,Kt]at e;obtain⟨⟨⟨⟨⟨⟨⟨⟨⟨B,h⟩,y⟩,E⟩,d⟩,A⟩,i⟩,w⟩,x⟩,z⟩:=e;obtain⟨c,p,Q,⟨l⟩⟩:=o;obtain⟨u,bs,O,P,G,L,r,sub,m,g,H⟩:=M;dsimp only at E d A j B y h i w x z;have(f,rfl):=List.head?_eq_some_iff.mp E;subst d A j B;have(k0,l,rfl):=Ko (l:=l) (n:=5) h;have(k,l,rfl):=Ko (l:=l) (n:=4) (Lo.inj h);have(t,l,rfl):=Ko (l:=l) (n:=3) (Lo.inj (Lo.inj h));have(s,l,rfl):=Ko (l:=l) (n:=2) (Lo.inj (Lo.inj (Lo.inj h)));have(S,l,rfl):=Ko (l:=l) (n:=1) (Lo.inj (Lo.inj (Lo.inj (Lo.inj h))));have(v,rfl):=KI.mp (Lo.inj (Lo.inj (Lo.inj (Lo.inj (Lo.inj h)))));cases Ke.inj y;show⟨u,G,P,bs,f,VH,r,sub,m,g,p,k0,k,t,s,v,J,z,w,x,i,Xr⟩
section
variable {X:Cx}{CX:CXT}{k:Nat}{C f:Addr}{fd:PV}{ps:!Str}{sp:Sp}{E:XK}{OK:!(Addr×Obj)}{Z:St}{H:Hp}{s:Og}
structure EMk(K:Frag)(C f:Addr):Prop where
 ex:ExK K C
 init:P8 K (.ref C) "__init__" = VF (VF (.ref f))
 fn:Nv K (.ref f)=VH
 kp:Lm K (.ref C)=VH
def vG{Q:VK}{us:!Od}{vs:!V}(M:EMk X.K C f)(F:Pp X.prog X.w X.K X.mg X.base CX k f fd ps sp)(hr:Pj (k+1) X.A)(hb:Pm X.K fd ps [])(hx:jP CX X E)(I:Inv X OK Z H s)(r:Vals vs us)(hz:us.length<=sizeLine)
  (h:∀x,H x=VE->sp (.ref x::vs) (upd H x (exF C x)) (λv U=>v=.non/\Q (.ref x) U) E) :
  Oh (Om X.prog X.w) X.A (call (.ref C) us) (EP X OK Z Q) X.xe s:=by
 have p:=h (s.heap.objs.size+1) (I.hok.fresh (Mv _));obtain⟨nm,q,N,bs,bm,z,sn,sub,ab,O,dd,k0,k1,k2,k3,k5,P,c1,c2,c3,c4,c5⟩:=kS M.ex.obj;have j:((s.heap.push (kL us)).push (cE C s.heap.objs.size)).get? (s.heap.objs.size+1)*>(cE C s.heap.objs.size):=by
  have:=Oq (s.heap.push (kL us)) (o:=cE C s.heap.objs.size) rfl;rwa [OW]at this
 have l:Inv X OK Z (upd H (s.heap.objs.size+1) (exF C (s.heap.objs.size+1))) {s with heap:=(s.heap.push (kL us)).push (cE C s.heap.objs.size)}:=
  I.laid (t':=s.toks) (λb u e=>Of _ (Of _ e)) (Mv _) (wL j)
 have m:Vals (V.ref (s.heap.objs.size+1)::vs) (Oy (s.heap.objs.size+1)::us):=.cons rfl r;have hl:(Oy (s.heap.objs.size+1)::us++[]).length=ps.length:=by
  have e:=m.length;rw[F.len _ _ _ _ p]at e;rw[Kb];show e.symm
 have c:=hb _ (Oy (s.heap.objs.size+1)::us) l.kIn hl;rw[Kb]at c;have Y:=Qv (F.run _ X.stack _ _ {Oy (s.heap.objs.size+1)::us,[]} (Oy (s.heap.objs.size+1)::us) _ _ E (hr.make C us []) (l.env0.make C us []) c m p) (R':=PySem.W.InitBack (s.heap.objs.size+1) (wants (EP X OK Z Q) X.xe)) λr L a=>?_
 .show Qu ?_;have(hp,g,d,t,os):=s;show wR c1 c2 c3 (I.kIn _ _ P) hz (PySem.W.looks_specialIn I.kIn M.ex.call) (PySem.W.looks_instIn I.kIn M.ex.typ) (PySem.W.looks_findIn I.kIn M.init) (λi=>PySem.W.bind_fn I.kIn i (beq_iff_eq.mp M.fn)) Y
 .cases r with
  | error e=>show hx OK Z _ _ e L l a
  | ok J=>
   cases J with
   | ret u=>
    have(v,H',G,S,B,q3):=l.after a;subst B;show{S,{V.ref (s.heap.objs.size+1),H',G,Xr,q3}}
   | next=>show OE a
   | brk=>show OE a
   | cont=>show OE a
end
open PySem.W (Frag clsIn findIn subIn specialIn instIn mroIn takesIn InstAt Looks)
abbrev exX(fs:!(Str×V)) (c:Addr):HO:=.ext λh=>∃a,h.Ns1 c a/\(∀f,RelO (fs.lookup f) (a f))/\PySem.Within a (fs.map (·.1))
def wO(n:h.Ns1 dx mA)(r:∀f,RelO (fs.lookup f) (mA f))(a:PySem.Within mA (fs.map (·.1))):Pe P w H h dx (exX fs dx):=
 {⟨mA,n,r,a⟩,let ⟨o,_,_,e,_⟩:=n;⟨o,e⟩,λd c ⟨mA,n,q⟩ k=>{mA,n.at k,q}}
def qY(a:HOk P w H h)(e:H dx*>(exX fs dx)):∃mA,h.Ns1 dx mA/\(∀f,RelO (fs.lookup f) (mA f))/\PySem.Within mA (fs.map (·.1)):=(show Pe P w H h dx (exX fs dx)from a dx _ e).1
def ExK.cls{K:Frag}{C:Addr}(x:ExK K C):∃a,Vk K C*>a/\dI a.mro=VH/\a.hasDict=VH:=by
 obtain⟨i,q,N,k,g,c,o,sub,l,d,m,r,f,h,p,j,e,c1,c2,c3,c4,c5⟩:=kS x.obj;show{_,by unfold Vk;rw[e],c4,c5}
section
variable {X:Cx}{OK:!(Addr×Obj)}{Z:St}{H:Hp}{s:Og}{a C dx:Addr}{f:Str}{y v:V}{u:Od}{A:Oz}{E:Od->Og->Prop}{fs:!(Str×V)}
def qX{Q:Unit->Og->Prop}(I:Inv X OK Z H s)(e:H a*>(exF C a))(ex:ExK X.K C)(n:Pl X.K C f)(P:RelV y u)
  (h:∀dx L,H dx=VE->dx≠a->Inv X OK Z (upd (upd H dx (exX [(f,y)] dx)) a (exD C dx a)) L->Q () L):Oh (Om X.prog X.w) A (setAttr (.ref a) f u) Q E s:=by
 have(t,G):=wK I.hok e;have(Y,c1,c2,c3):=ex.cls;have p:a<s.heap.objs.size:=Ol G;have N:H s.heap.objs.size=VE:=I.hok.fresh (JQ _);show mT (mA:=λ_=>VE) (ns:=[]) (o:=cE C t) I.kIn c1 c2 c3 ex.sa n G rfl (λc z=>nomatch z) (.inl rfl) (λy U=>absurd rfl U) (by rw[Oj];decide) (λ_ m j i B r=>h s.heap.objs.size _ N (K7 p) ?_) λdx e=>nomatch e;have k:(m.update a λ_=>cE C t).get? a*>(cE C t):=OL _ i rfl;have d:∀b,b≠a->(m.update a λ_=>cE C t).get? b=m.get? b:=λb l=>RO _ _ _ _ l;have O:Inv X OK Z (upd H s.heap.objs.size (exX [(f,y)] s.heap.objs.size)) {s with heap:=m.update a λ_=>cE C t,toks:=j}:=by
  show I.laid (t':=j) (λb o q=>?_) (JQ _) (wO (mA:=λy=>if y=f then VF u else VE) ?_ (λg=>?_) λg S=>?_)
  .by_cases l:b=a;subst l;rw[G]at q;cases q;show k;rw[d b l];show r b o l q
  .show B.at λo q=>by rw[d _ (K7 p)];show q
  .by_cases q:g=f;subst q;rw[if_pos rfl,Ki,beq_self_eq_true];show P;rw[if_neg q,Ki,beq_eq_false_iff_ne.mpr q];trivial
  .by_cases q:g=f;subst q;show ymS;show absurd (if_neg q) S
 have M:(upd H s.heap.objs.size (exX [(f,y)] s.heap.objs.size)) a*>(exF C a):=by rw[upd_ne (J3 p)];show e
 show O.write (t':=j) (x:=a) (e:=a) (by rw[M];trivial) (.inl rfl) (λb o l q=>by rw[d b l]at q;show q) {_,i} (DC i)
def uE(I:Inv X OK Z H s)(e:H a*>(exD C dx a))(m:H dx*>(exX fs dx))(l:dx≠a)(ex:ExK X.K C)(n:Pl X.K C f)(S:fs.length<1000)(N:RelV y u)
  (h:∀B,Inv X OK Z (upd H dx (exX (kP f y fs) dx)) B->Q () B):Oh (Om X.prog X.w) A (setAttr (.ref a) f u) Q E s:=by
 have(t,M):=DB I.hok e;have(i,J,r,p):=qY I.hok m;have(P,c1,c2,c3):=ex.cls;show mT (mA:=i) (ns:=fs.map (·.1)) (o:=qZ C dx t) I.kIn c1 c2 c3 ex.sa n M rfl (λc z=>nomatch z) (.inr ⟨dx,Xr,l,J⟩) p (by rw[JK,Oj];omega) (λz=>nomatch z) λO G U j d k=>h _ ?_;cases (G);show I.write (t':=j) (x:=dx) (e:=dx) (by rw[m];trivial) (.inl rfl) k (let ⟨o,_,_,q,_⟩:=d;⟨o,q⟩) (wO d (λg=>?_) λg L=>?_)
 .rw[kB];by_cases q:g=f;rw[if_pos q,if_pos q];show N;rw[if_neg q,if_neg q];show r g
 .by_cases q:g=f;rw[q];show(jX f y fs).1
  .show(jX f y fs).2 g (p g λz=>L ?_);change(if g=f then VF u else i g)=VE;rw[if_neg q];show z
def Aq(I:Inv X OK Z H s)(e:H a*>(exO r C (VF dx) a))(i:H dx*>(exX fs dx))(ex:ExK X.K C)(n:Pl X.K C f)(l:fs.lookup f*>v)
  (h:∀u d,Inv X OK Z H d->RelV v u->Q u d):Oh (Om X.prog X.w) A (U2 (.ref a) f b) Q E s:=by
 have(vs,q,_):=gR I.hok e;have(j,m,r,z):=qY I.hok i;have(u,k,g):=RelO.some_of (v:=v) (o:=j f) (by rw[<-l];show r f);have(x,c1,c2,c3):=ex.cls;have(c,t,p):=m7 m;show At I.kIn ex.ga ex.g0 ex.sub (od:=VF c) ⟨q,Xr,Xr,t⟩ (v:=u) (PySem.W.findObj_own (by unfold Nt;rw[c1];show c3) n rfl (by rw[p,k])) (uM g) (h u _ (I.tok _) g)
def wE{c:Od}{b:Bool}{Q:Od->Og->Prop}(I:Inv X OK Z H s)(e:∃r,H a*>(exO r C VE a) \/ ∃dx fs,H a*>(exO r C (VF dx) a)/\H dx*>(exX fs dx))(ex:ExK X.K C)(k:KZ X.K (.ref C) c*>b)(h:∀p,Q (.bool b) {s with toks:=p}) :
  Oh (Om X.prog X.w) A (call (.builtin "isinstance") [.ref a,c]) Q E s:=by
 have J:∃i d,InstAt s.heap a i C d:=by
  rcases e with⟨r,e|⟨dx,fs,e,l⟩⟩
  .obtain⟨vs,g,_⟩:=gR I.hok e;show{_,VE,g,Xr,Xr,trivial}
  .obtain⟨vs,g,_⟩:=gR I.hok e;obtain⟨q,m,_⟩:=qY I.hok l;obtain⟨d,o,_⟩:=m7 m;show{_,VF d,g,Xr,Xr,o}
 obtain⟨i,d,J⟩:=J;obtain⟨t,c1,_⟩:=ex.cls;show NK (xm ex.ga ex.g0 ex.sub (by rw[c1];rfl) ex.ca ex.cn ex.ct ex.cm) I.kIn J k (λz=>nomatch z) h
end
end L2
namespace L2
open PySem PySem.Spec PySem.Calls PyProof.Rows PySem.W Builtin Builtin.ObjectAttr
def Ce{K:Frag}:U8 K (.type "ValueError") (.type "type") "__init__" = VF (.val (.builtin "ValueError.__init__")):=by rfl'
def Dh:RG (.type "ValueError")=pure (.type "type"):=by rfl'
def IN{K:Frag}:P8 K (.type "type") "__getattribute__" = VF (VF (.builtin "type.__getattribute__")):=by rfl'
def FZ{K:Frag}:Vm K (.type "type") (.type "type")*>VH:=by rfl'
def IQ:UZ (.type "ValueError") "__getattribute__" = pure (VF (.builtin "type.__getattribute__")):=by
 change RG (.type "ValueError") >>= _=_;rw[Dh,pure_bind,typeLookup_type,builtinLookup_eq_fast]
 rfl'
def IP:opaqueClassAbove (.type "ValueError")=pure VE:=by rfl'
def Cf{prog:Os}{w:Ox}{A:Oz}{E:Od->Og->Prop}{s:Og}{K:Frag}{pl:Sem Bool}{Q:Od×!Od->Og->Prop}(X:K.In s.heap)(h:Q (.builtin "ValueError.__init__",[]) {s with toks:=s.toks+1}) :
  Oh (Om prog w) A (Te (.type "ValueError") "__init__" pl) Q E s:=by
 unfold Te;show Oc (SU IQ ?_);dsimp only;rw[if_pos canon_tga];show Oc (cls_open X (Looks.of_pure IP) (Looks.of_pure Dh) IN (Looks.of_pure (r:=VE) (by rfl')) FZ Ce ?_);show Oe ?_;change Oh _ _ (U0 (.builtin "ValueError.__init__")) _ _ _;show handed_on (by rfl') (Oe h)
section
variable {X:Cx}{CX:CXT}{k:Nat}{C f:Addr}{fd:PV}{ps:!Str}{sp:Sp}{E:XK}{e o:Expr}{es:!Expr}{t:TA}{te ta tv:TE}{x:Str}{p ap pos:Pos}
abbrev zH(C:Addr)(sp:Sp)(E:XK)(t:TA):TE:=λZ H Q=>t Z H λvs a=>vs.length<=100/\∀x,a x=VE->sp (.ref x::vs) (upd a x (exF C x)) (λv c=>v=.non/\Q (.ref x) c) E
def xR(M:EMk X.K C f)(F:Pp X.prog X.w X.K X.mg X.base CX k f fd ps sp)(l:Pj (k+1) X.A)(v:Gl X x)(u:X.mg x*>(.ref C))(y:Pm X.K fd ps [])(m:jP CX X E)
  (i:PA X (e::es) t) (c:bc (e::es)=VH) (a:(x==("__debug__" : Str))=VG:=by decide):PE X (.Call (.Name x p) (e::es) [] pos) (zH C sp E t):=by
 rw[bc,JL]at c;intro j s Z H Q I h;show Qf (ik I v u ?_ a);show LX (h₀:=X.base) I.ok.mod.kin M.kp (thn (i pos j s Z H _ I h) λd G ⟨vs,B,g,r,z,q⟩=>{g.kIn,?_}) (aZ (by exists c.1)) (bT c.2);show vG (us:=d) M F l y m g r (by rw[<-r.length,Oj];omega) q
abbrev FQ(K:Frag)(t:TA):TE:=λZ H Q=>t Z H λvs c=>∃a C,vs=[.ref a]/\c a*>(exF C a)/\ExK K C/\Q .non c
def FY{H:Hp}{a:Addr}{o:HO}(e:H a*>o):upd H a o=H:=by
 funext b;by_cases c:b=a;subst c;rw[ao,e];rw[upd_ne c]
def xZ{pl:Sem Bool}(hg:Gl X "ValueError")(hm:X.mg "ValueError" = VE)(y:PA X [e] t)(hs:br e=VG)
  (P:eval (.Call (.Attribute (.Name "ValueError" p) "__init__" ap) [e] [] pos) X.env=(do
   let v <-eval (.Name "ValueError" p) X.env
   Qj ap.atName
   let (f,first) <-O7 [v] (Te v "__init__" pl)
   Vn pos f first (QJ pos (OD [e] X.env)) (TH pos (Sa [] X.env))):=by rfl) :
  PE X (.Call (.Attribute (.Name "ValueError" p) "__init__" ap) [e] [] pos) (FQ X.K t):=by
 intro O s Z H Q I h;show M6 (pl:=pl) (gS (u:=.type "ValueError") I hg hm (by rfl') ?_) P;show Cf I.kIn ?_;show Me (thn (y pos O _ Z H _ (I.tok _) h) λus J U=>?_) (aZ hs) rfl;obtain⟨vs,M,l,r,a,C,z,j,A,q⟩:=U;subst z;have(u,rfl,L):=iN r;cases L;have(b,S):=wK l.hok j;obtain⟨nm,qn,N,bs,bm,w,sn,sub,ab,B,dd,k0,k1,k2,k3,k5,G,c1,c2,c3,c4,c5⟩:=kS A.obj;have(hp,g,d,Y,os):=J;show wQ c1 (l.kIn _ _ G) S λm c i=>{.non,M,?_,Xr,q};have:=l.write (t':=Y) (x:=a) (e:=a) (o:=exF C a) (h':=m) (by rw[j];trivial) (.inl rfl) (λb o hb q=>i b o hb q) {_,c} (wL c);rw[FY j]at this;show this
def xP(N:Gl X x)(L:X.mg x*>(.ref B))(J:Rv X.K (.ref B) "__getattribute__" = VF (VF (.builtin "type.__getattribute__")))(j:readsIn X.K B mc=VH)(m:U8 X.K (.ref B) mc "__init__" = VF (.val (.ref f)))
  (u:U9 X.K (.ref f)=VH) (y:UP (.ref f)=VH) (F:Pp X.prog X.w X.K X.mg X.base CX k f fd ps sp) (z:Pj k X.A) (O:Pm X.K fd ps []) (G:jP CX X E) (i:PA X [e] t) (hs:br e=VG) (a:(x==("__debug__" : Str))=VG:=by decide)
  (v:eval (.Call (.Attribute (.Name x p) "__init__" ap) [e] [] pos) X.env=(do
   let g <-eval (.Name x p) X.env
   Qj ap.atName
   let (f,first) <-O7 [g] (Te g "__init__" pl)
   Vn pos f first (QJ pos (OD [e] X.env)) (TH pos (Sa [] X.env))):=by rfl) :
  PE X (.Call (.Attribute (.Name x p) "__init__" ap) [e] [] pos) (kJ sp [] E t):=by
 intro q s Z H Q I h;show M6 (pl:=pl) (ik I N L ?_ a) v;show method_cls I.kIn J (cls_value I.kIn j m y ?_);have l:=I.tok (s.toks+1);show LX (first:=[]) (h₀:=X.base) I.ok.mod.kin u (thn (i pos q _ Z H _ l h) λd S ⟨vs,P,c,r,M⟩=>{c.kIn,?_}) (aZ hs) rfl;show zr (us:=d) (vs:=vs) F z O .nil G c r M
end
end L2
namespace L2
open PySem PySem.Spec PyProof.Rows
open PySem.W (Frag clsIn findIn subIn specialIn instIn mroIn takesIn InstAt Looks keepIn readsIn findCls handedIn)
abbrev Iu(K:Frag)(i h:TE)(f:Str):TS:=λD Z H=>h Z H λy g=>i Z g λx d=>∃a C,x=.ref a/\ExK K C/\Pl K C f /\
 ((d a*>(exF C a)/\∀c,d c=VE->c≠a->D.nx Z (upd (upd d c (exX [(f,y)] c)) a (exD C c a))) \/
  ∃c e,d a*>(exD C c a)/\d c*>(exX e c)/\c≠a/\e.length<1000/\D.nx Z (upd d c (exX (kP f y e) c)))
abbrev Iz(K:Frag)(g:TE)(f:Str):TE:=λZ H Q=>g Z H λx d=>∃a r C c e v,x=.ref a/\d a*>(exO r C (VF c) a)/\d c*>(exX e c)/\ExK K C/\Pl K C f/\e.lookup f*>v/\Q v d
section
variable {X:Cx}{o e value:Expr}{f:Str}{pos pos':Pos}{ta tv:TE}
def tP(w:PE X o ta)(B:PE X value tv)(hs:Ra value (VF (.Attribute o f pos')) pos.line X.env=pure VG):PS X (.Assign [.Attribute o f pos'] value pos) (Iu X.K ta tv f):=by
 intro r s Z H D I h;show plainObj_wpAny_Assign_Attribute (thn (B r s Z H _ I h) λu J j=>?_) hs;have(y,L,M,t,q):=j;show thn (w r J Z L _ M q) λN S j=>?_;obtain⟨x,Q,k,z,a,C,A,m,n,c⟩:=j;subst A;obtain rfl:N=Oy a:=z;rcases c with⟨i,c⟩|⟨p,P,i,v,O,l,c⟩;show qX k i m n t λp G E d g=>{Z,_,g,c p E d};show uE k i v O m n l t λG g=>{Z,_,g,c}
def A9(z:PE X e ta)(A:O6 e f X.env (eval e X.env)=eval e X.env):PE X (.Attribute e f pos) (Iz X.K ta f):=by
 intro t s Z H Q I h;show Am A (thn (z t s Z H _ I h) λu B y=>?_);obtain⟨x,p,w,i,a,r,C,G,E,v,j,m,d,c,n,l,q⟩:=y;subst j;obtain rfl:u=Oy a:=i;show Aq w m d c n l λL J g k=>⟨v,p,g,k,q⟩
end
abbrev vJ(K:Frag):Sp:=λvs H Q _=>∃a C,vs=[.ref a]/\H a*>(exF C a)/\ExK K C/\Q .non H
abbrev Iw(K:Frag)(F:Str)(e:Sp):Sp:=λvs H Q _=>∃a C v,vs=[.ref a,v]/\H a*>(exF C a)/\ExK K C/\Pl K C F /\
 e [v] H (λw d=>d a*>(exF C a)/\∀c,d c=VE->c≠a->Q .non (upd (upd d c (exX [(F,w)] c)) a (exD C c a))) E0
abbrev Db(K:Frag)(F G:Str)(d:Sp):Sp:=λvs H Q _=>∃a C v u,vs=[.ref a,v,u]/\H a*>(exF C a)/\ExK K C/\Pl K C F/\Pl K C G /\
 d [v] H (λw f=>f a*>(exF C a)/\∀c,f c=VE->c≠a->d [u] (upd (upd f c (exX [(F,w)] c)) a (exD C c a)) (λz e=>e a*>(exD C c a)/\e c*>(exX [(F,w)] c)/\Q .non (upd e c (exX [(F,w),(G,z)] c))) E0) E0
abbrev wc(sp:Sp):Prop:=∀vs H (Q c:VK) E,sp vs H Q E->(∀v a,Q v a->c v a)->sp vs H c E
abbrev fF(o:Str)(e:Expr)(d g c:Pos):Prop:=∀a:Env,∃i:Sem Bool,eval (.Call (.Attribute (.Name o d) "__init__" g) [e] [] c) a=(do
 let h <-eval (.Name o d) a
 Qj g.atName
 let (f,first) <-O7 [h] (Te h "__init__" i)
 Vn c f first (QJ c (OD [e] a)) (TH c (Sa [] a)))
structure CIn(K:Frag)(B f:Addr):Prop where
 sp:Rv K (.ref B) "__getattribute__" = VF (VF (.builtin "type.__getattribute__"))
 rd:readsIn K B (.type "type")=VH
 fc:U8 K (.ref B) (.type "type") "__init__" = VF (.val (.ref f))
 kp:U9 K (.ref f)=VH
 hh:UP (.ref f)=VH
section
variable {P:Os}{W:Ox}{K:Frag}{mg:Str->↑Od}{base:Heap}{k j:Nat}{f g:Addr}{fd gd:PV}{st:Stmt}{qn:Str}{p1 p2 p3 p4 p5 p6 p7 p8 p9 p10 p11 p12 p13 p14 p15 p16 p17:Pos}{spk:Sp}{A B:Str}{F G:Str}{HE:Addr}
def AF(t:Fun K "__init__" qn st f fd)(S:Pa ["self"] ["self"] (ai st))(m:ba st=[.Expr (.Call (.Attribute (.Name "ValueError" p1) "__init__" p2) [.Name "self" p3] [] p4) p5])(r:mg "ValueError" = VE)
  (v:(ai st).names.lookup (Op "ValueError")*>.globalImplicit) (u:Vis (ai st) "self") (o:fF "ValueError" (.Name "self" p3) p1 p2 p4):Pp P W K mg base CX0 (k+1) f fd ["self"] (vJ K):=by
 show t.ok S (λvs H Q E ⟨a,C,e,_⟩=>by rw[e];rfl) λd A c s H vs Q E x h=>?_;have(a,C,rfl,l,p,q):=h;rw[m];have(w,e):=o (iK CX0 P W K mg base ["self"] qn (ai st) f d A c s H E).nox.env;show{_,kX (oG (xZ v r (jF (gZ (i:=0) rfl u) ft) rfl e)),.ref a,Xr,a,C,Xr,l,p,q}
def Ao{X:Cx}(p:X.K=K)(t:X.prog=P)(d:X.w=W)(v:X.mg=mg)(c:X.base=base)(o:Pj k X.A)(a:CIn K HE g)(h:Pp P W K mg base CX0 k g gd ["self"] (vJ K))(u:Pm K gd ["self"] [])(q:mg "HouseError" = VF (.ref HE))(s:Gl X "HouseError"){i:Nat}(l:X.N[i]?*>"self")(r:Vis X.env.scope "self")(m:fF "HouseError" (.Name "self" p3) p1 p2 p4) :
  PS X (.Expr (.Call (.Attribute (.Name "HouseError" p1) "__init__" p2) [.Name "self" p3] [] p4) p5) (zG (kJ (vJ K) [] E0 (qB (Cb i) FO))):=by
 subst p t d v c;have(x,e):=m X.env;show oG (xP s q a.sp a.rd a.fc a.kp a.hh h o u xN (jF (gZ l r) ft) rfl (by decide) e)
def DP(Fn:Fun K "__init__" qn st f fd)(S:Pa ["self",A,B] ["self",A,B] (ai st))(hB:ba st=[.Expr (.Call (.Attribute (.Name "HouseError" p1) "__init__" p2) [.Name "self" p3] [] p4) p5,.Assign [.Attribute (.Name "self" p6) F p7] (.Call (.Name "kept" p8) [.Name A p9] [] p10) p11,.Assign [.Attribute (.Name "self" p12) G p13] (.Call (.Name "kept" p14) [.Name B p15] [] p16) p17])(ci:CIn K HE g)(Z:Pp P W K mg base CX0 k g gd ["self"] (vJ K))(hb:Pm K gd ["self"] [])(hm:mg "HouseError" = VF (.ref HE))
  (O:Has P W K mg base k "kept" ["thing"] spk) (U:wc spk) (p:F≠G) (hg:(ai st).names.lookup (Op "HouseError")*>.globalImplicit) (l:(ai st).names.lookup (Op "kept")*>.globalImplicit) (r:Vis (ai st) "self") (o:Vis (ai st) A) (L:(A==("__debug__" : Str))=VG) (M:(A==("__classdict__" : Str))=VG) (y:Vis (ai st) B) (x:(B==("__debug__" : Str))=VG) (t:(B==("__classdict__" : Str))=VG) (ht:fF "HouseError" (.Name "self" p3) p1 p2 p4) :
  Pp P W K mg base CX0 (k+1) f fd ["self",A,B] (Db K F G spk):=by
 show Fn.ok S (λvs H Q E z9=>by have(a,C,v,u,e,_):=z9;rw[e];rfl) λN A' c s H vs Q E J h=>?_;obtain⟨a,C,v,u,rfl,ea,m,n,n2,q⟩:=h;rw[hB];show{_,jG (Ao (X:=(iK CX0 P W K mg base ["self",A,B] qn (ai st) f N A' c s H E).nox) rfl rfl rfl rfl rfl J ci Z hb hm hg (i:=0) rfl r ht) (jG (tP (gZ (i:=0) rfl r) (xS O J l (jF (gZ (i:=1) rfl o L M) ft)) rfl) (kX (tP (gZ (i:=0) rfl r) (xS O J l (jF (gZ (i:=2) rfl y x t) ft)) rfl))),?_};show{.ref a,Xr,a,C,Xr,ea,m,?_};show{v,Xr,U _ _ _ _ _ q λw H1 ⟨e1,q1⟩=>{.ref a,Xr,a,C,Xr,m,n,.inl {e1,λY hd d=>?_}}};show{u,Xr,U _ _ _ _ _ (q1 Y hd d) λz H2 ⟨e2,e3,q2⟩=>{.ref a,Xr,a,C,Xr,m,n2,.inr {Y,[(F,w)],e2,e3,d,(show 1<1000 by decide),?_}}};have:kP G z [(F,w)]=[(F,w),(G,z)]:=by change(if F=G then _ else _)=_;rw[if_neg p];rfl
 rw[this];show q2
end
inductive I where
 | non|bl (b:Bool)|int (i:Int)|str (x:Str)|tup (is:!I)|ls (is:!I)
 | fd (ks:!Key) (is:!I)
 | exn (x:Str) (ks:!Str) (is:!I)
mutual
def I.beq:I->I->Bool
 | .non,b=>(match b with|.non=>VH|_=>VG)
 | .bl a,b=>(match b with|.bl b=>a==b|_=>VG)
 | .int a,b=>(match b with|.int b=>decide (a=b)|_=>VG)
 | .str a,b=>(match b with|.str b=>decide (a=b)|_=>VG)
 | .tup a,b=>(match b with|.tup b=>I.beqs a b|_=>VG)
 | .ls a,b=>(match b with|.ls b=>I.beqs a b|_=>VG)
 | .fd k a,b=>(match b with|.fd j b=>decide (k=j)&&I.beqs a b|_=>VG)
 | .exn x k a,b=>(match b with|.exn y j b=>decide (x=y/\k=j)&&I.beqs a b|_=>VG)
def I.beqs:!I->!I->Bool
 | [],b=>b.isEmpty
 | a::d,b=>(match b with|b::c=>I.beq a b&&I.beqs d c|[]=>VG)
end
mutual
theorem I.beq_iff:∀{a b:I},I.beq a b=VH↔a=b
 | .non,b=>by cases b<;>simp[I.beq]
 | .bl x,b=>by cases b<;>simp[I.beq]
 | .int x,b=>by cases b<;>simp[I.beq]
 | .str x,b=>by cases b<;>simp[I.beq]
 | .tup x,b=>by
  cases b with
  | tup y=>dsimp[I.beq,I.beqs_iff,I.tup.injEq]
  | _=>simp[I.beq]
 | .ls x,b=>by
  cases b with
  | ls y=>dsimp[I.beq,I.beqs_iff,I.ls.injEq]
  | _=>simp[I.beq]
 | .fd k x,b=>by
  cases b with
  | fd j y=>dsimp[I.beq,JL,I.beqs_iff,I.fd.injEq,decide_eq_true_iff]
  | _=>simp[I.beq]
 | .exn z k x,b=>by
  cases b with
  | exn w j y=>dsimp[I.beq,JL,I.beqs_iff,I.exn.injEq,decide_eq_true_iff,and_assoc]
  | _=>simp[I.beq]
theorem I.beqs_iff:∀{a b:!I},I.beqs a b=VH↔a=b
 | [],b=>by cases b<;>simp[I.beqs]
 | x::d,b=>by
  cases b with
  | nil=>simp[I.beqs]
  | cons y c=>dsimp[I.beqs,JL,I.beq_iff,I.beqs_iff,Lp.injEq]
end
instance:DecidableEq I:=λa b=>decidable_of_iff (I.beq a b=VH) I.beq_iff
inductive T where
 | im (i:I)|tup (ts:!T)|li (is:!I)|lst (ts:!T)|di (kvs:!(I×I))|dc (kvs:!(I×T))|ins (C:Addr) (fs:!(Str×T))
abbrev gb:Key->I
 | .inl i=>.int i
 | .inr x=>.str x
abbrev DAt(K:yF)(H:Hp)(a:Addr)(ks:!(I×V)):Prop:=∃c:!(Key×V),H a*>(.dK c)/\ks=c.map λp=>(gb p.1,p.2)
mutual
def RpI(K:yF)(H:Hp):I->V->Prop
 | .non,v=>v=.non
 | .bl b,v=>v=.bl b
 | .int i,v=>v=.int i
 | .str x,v=>v=.str x
 | .tup c,v=>∃a e,v=.ref a/\SqT K H a e/\vx K H c e
 | .ls c,v=>∃a o e,v=.ref a/\H a*>(.frz o (.lst e))/\vx K H c e
 | .fd f c,v=>∃a o d,v=.ref a/\H a*>(.frz o (.dK d))/\d.map (·.1)=f/\vx K H c (d.map (·.2))
 | .exn x f c,v=>∃C a,v=.ref a/\KJ K Ou x*>(VF (.ref C))/\∃b,(f=[]/\c=[]/\H a*>(exO b C VE a) \/ ∃g d,H a*>(exO b C (VF g) a)/\H g*>(exX d g)/\d.map (·.1)=f/\vx K H c (d.map (·.2)))
def vx(K:yF)(H:Hp):!I->!V->Prop
 | [],a=>a=[]
 | t::c,a=>∃x r,a=x::r/\RpI K H t x/\vx K H c r
end
mutual
def Rp(K:yF)(H:Hp):T->V->!Addr->Prop
 | .im i,v,F=>RpI K H i v/\F=[]
 | .tup g,v,F=>∃a e,v=.ref a/\SqT K H a e/\Rps K H g e F
 | .li h,v,F=>∃a e,v=.ref a/\Rd H a (.lst e)/\vx K H h e/\F=[a]
 | .lst g,v,F=>∃a e f,v=.ref a/\Rd H a (.lst e)/\Rps K H g e f/\F=a::f
 | .di d,v,F=>∃a c,v=.ref a/\DAt K H a c/\vx K H (d.map (·.2)) (c.map (·.2))/\c.map (·.1)=d.map (·.1)/\F=[a]
 | .dc d,v,F=>∃a c f,v=.ref a/\DAt K H a c/\Rpk K H d c f/\F=a::f
 | .ins C k,v,F=>∃a j c f,v=.ref a/\H a*>(.ins C j c)/\Rpf K H k c f/\F=a::f
def Rps(K:yF)(H:Hp):!T->!V->!Addr->Prop
 | [],a,F=>a=[]/\F=[]
 | t::e,a,F=>∃x r c d,a=x::r/\Rp K H t x c/\Rps K H e r d/\F=c++d
def Rpk(K:yF)(H:Hp):!(I×T)->!(I×V)->!Addr->Prop
 | [],a,F=>a=[]/\F=[]
 | (k,t)::e,a,F=>∃x r c d,a=(k,x)::r/\Rp K H t x c/\Rpk K H e r d/\F=c++d
def Rpf(K:yF)(H:Hp):!(Str×T)->!(Str×V)->!Addr->Prop
 | [],a,F=>a=[]/\F=[]
 | (k,t)::e,a,F=>∃x r c d,a=(k,x)::r/\Rp K H t x c/\Rpf K H e r d/\F=c++d
end
abbrev Jo:HO->Bool
 | .lst _=>VH|.dK _=>VH|.dT _=>VH|.ins _ _ _=>VH|_=>VG
abbrev Mu(H:Hp)(a:Addr):Prop:=∃o,H a*>o/\Jo o=VH
abbrev Pd(M:!Addr)(H H':Hp):Prop:=∀b o,H b*>o->b∉M->H' b*>o
def Pk.offM(s:Pk H H')(M:!Addr):Pd M H H':=λb o h _=>s b o h
def Pd.refl(M:!Addr)(H:Hp):Pd M H H:=λb o h _=>h
def Pd.mono(x:Pd M H H1)(y:∀a∈M,a∈M'):Pd M' H H1:=λb o h n=>x b o h λz=>n (y b z)
def Pd.upd:Pd [a] H (upd H a o):=λb u h n=>by rw[upd_ne (by exists n)];show h
def Pd.rd(x:Pd M H H')(n:a∉M)(h:Rd H a o):Rd H' a o:=by
 rcases h with h|⟨u,h⟩;show .inl (x a _ h n);show .inr {u,x a _ h n}
def Pd.sqT{K:yF}{M:!Addr}{H H':Hp}{a:Addr}{xs:!V}(x:Pd M H H')(c:∀b∈M,Mu H b)(h:SqT K H a xs):SqT K H' a xs:=by
 rcases h with(h|⟨u,h⟩)|h;show .inl (.inl (x a _ h λz=>by have(o,e,m):=c a z;rw[h]at e;cases e;cases m));show .inl (.inr {u,x a _ h λz=>by have(o,e,m):=c a z;rw[h]at e;cases e;cases m});show .inr h
def DAt.off{K:yF}{M:!Addr}{H H':Hp}{a:Addr}{ks:!(I×V)}(x:Pd M H H')(n:a∉M)(h:DAt K H a ks):DAt K H' a ks:=by
 have(c,e,d):=h;show{c,x a _ e n,d}
def DAt.dom{K:yF}{H:Hp}{a:Addr}{ks:!(I×V)}(h:DAt K H a ks):∃o,H a*>o:=by
 have(d,c,e):=h;show{_,c}
def Rd.dom(h:Rd H a u):∃o,H a*>o:=by
 rcases h with h|⟨o,h⟩;show{_,h};show{_,h}
mutual
theorem RpI.off{K:yF}{M:!Addr}{H H':Hp}(x:Pd M H H')(f:∀b∈M,Mu H b):∀{t:I} {v:V},RpI K H t v->RpI K H' t v
 | .non,_,h=>by rw[RpI]at h|-;show h
 | .bl _,_,h=>by rw[RpI]at h|-;show h
 | .int _,_,h=>by rw[RpI]at h|-;show h
 | .str _,_,h=>by rw[RpI]at h|-;show h
 | .tup s,_,h=>by rw[RpI]at h|-;have(a,k,g,c,d):=h;show{a,k,g,x.sqT f c,vx.off x f d}
 | .ls s,_,h=>by
  rw[RpI]at h|-;have(a,o,k,g,c,d):=h;show{a,o,k,g,x a _ c (λz=>by have(u,e,m):=f a z;rw[c]at e;cases e;cases m),vx.off x f d}
 | .fd w s,_,h=>by
  rw[RpI]at h|-;have(a,o,j,g,c,d,A):=h;show{a,o,j,g,x a _ c (λz=>by have(u,e,m):=f a z;rw[c]at e;cases e;cases m),d,vx.off x f A}
 | .exn z w s,_,h=>by
  have i:∀{b:Addr} {q : Heap->Prop},H b*>(.ext q)->H' b*>(.ext q):=λ{b q} c=>x b _ c λz=>by have(u,e,m):=f b z;rw[c]at e;cases e;cases m
  rw[RpI]at h|-;obtain⟨C,a,g,c,d⟩:=h;obtain⟨b,d⟩:=d;show{C,a,g,c,b,?_};rcases d with⟨l,p,r⟩|⟨y,j,l,p,r,B⟩;show .inl {l,p,i r};show .inr {y,j,i l,i p,r,vx.off x f B}
theorem vx.off{K:yF}{M:!Addr}{H H':Hp}(x:Pd M H H')(a:∀b∈M,Mu H b):∀{ts:!I} {xs:!V},vx K H ts xs->vx K H' ts xs
 | [],_,h=>by rw[vx]at h|-;show h
 | t::ts,_,h=>by
  rw[vx]at h|-;have(y,r,d,c,e):=h;show{y,r,d,RpI.off x a c,vx.off x a e}
end
mutual
theorem Rp.off{K:yF}{M:!Addr}{H H':Hp}(x:Pd M H H')(g:∀b∈M,Mu H b):∀{t:T} {v:V} {F:!Addr},(∀a∈F,a∉M)->Rp K H t v F->Rp K H' t v F
 | .im _,_,_,_,h=>by rw[Rp]at h|-;show{RpI.off x g h.1,h.2}
 | .tup l,_,_,n,h=>by rw[Rp]at h|-;have(a,c,f,d,e):=h;show{a,c,f,x.sqT g d,Rps.off x g n e}
 | .li l,_,_,n,h=>by
  rw[Rp]at h|-;have(a,c,f,d,e,rfl):=h;show{a,c,f,x.rd (n a ymS) d,vx.off x g e,Xr}
 | .lst l,_,_,n,h=>by
  rw[Rp]at h|-;have(a,c,i,f,d,e,rfl):=h;show{a,c,i,f,x.rd (n a ymS) d,Rps.off x g (λb j=>n b (ymC _ j)) e,Xr}
 | .di k,_,_,n,h=>by
  rw[Rp]at h|-;have(a,c,f,d,e,o,rfl):=h;show{a,c,f,d.off x (n a ymS),vx.off x g e,o,Xr}
 | .dc k,_,_,n,h=>by
  rw[Rp]at h|-;have(a,c,i,f,d,e,rfl):=h;show{a,c,i,f,d.off x (n a ymS),Rpk.off x g (λb j=>n b (ymC _ j)) e,Xr}
 | .ins C p,_,_,n,h=>by
  rw[Rp]at h|-;have(a,m,c,i,f,d,e,rfl):=h;show{a,m,c,i,f,x a _ d (n a ymS),Rpf.off x g (λb j=>n b (ymC _ j)) e,Xr}
theorem Rps.off{K:yF}{M:!Addr}{H H':Hp}(x:Pd M H H')(d:∀b∈M,Mu H b):∀{ts:!T} {xs:!V} {F:!Addr},(∀a∈F,a∉M)->Rps K H ts xs F->Rps K H' ts xs F
 | [],_,_,_,h=>by rw[Rps]at h|-;show h
 | t::ts,_,_,n,h=>by
  rw[Rps]at h|-;have(y,r,e,i,j,f,g,rfl):=h;show{y,r,e,i,j,Rp.off x d (λb c=>n b (yaL _ c)) f,Rps.off x d (λb c=>n b (yaR _ c)) g,Xr}
theorem Rpk.off{K:yF}{M:!Addr}{H H':Hp}(x:Pd M H H')(d:∀b∈M,Mu H b):∀{ts:!(I×T)} {xs:!(I×V)} {F:!Addr},(∀a∈F,a∉M)->Rpk K H ts xs F->Rpk K H' ts xs F
 | [],_,_,_,h=>by rw[Rpk]at h|-;show h
 | (k,t)::ts,_,_,n,h=>by
  rw[Rpk]at h|-;have(y,r,e,i,j,f,g,rfl):=h;show{y,r,e,i,j,Rp.off x d (λb c=>n b (yaL _ c)) f,Rpk.off x d (λb c=>n b (yaR _ c)) g,Xr}
theorem Rpf.off{K:yF}{M:!Addr}{H H':Hp}(x:Pd M H H')(d:∀b∈M,Mu H b):∀{ts:!(Str×T)} {xs:!(Str×V)} {F:!Addr},(∀a∈F,a∉M)->Rpf K H ts xs F->Rpf K H' ts xs F
 | [],_,_,_,h=>by rw[Rpf]at h|-;show h
 | (k,t)::ts,_,_,n,h=>by
  rw[Rpf]at h|-;have(y,r,e,i,j,f,g,rfl):=h;show{y,r,e,i,j,Rp.off x d (λb c=>n b (yaL _ c)) f,Rpf.off x d (λb c=>n b (yaR _ c)) g,Xr}
end
def Rp.same{K:yF}{H H':Hp}(x:Pk H H'){t:T}{v:V}{F:!Addr}(h:Rp K H t v F):Rp K H' t v F:=Rp.off (x.offM []) ∅ ∅ h
def Rps.same{K:yF}{H H':Hp}(x:Pk H H'){t:!T}{v:!V}{F:!Addr}(h:Rps K H t v F):Rps K H' t v F:=Rps.off (x.offM []) ∅ ∅ h
def RpI.same{K:yF}{H H':Hp}(x:Pk H H'){t:I}{v:V}(h:RpI K H t v):RpI K H' t v:=RpI.off (x.offM []) ∅ h
def vx.same{K:yF}{H H':Hp}(x:Pk H H'){t:!I}{v:!V}(h:vx K H t v):vx K H' t v:=vx.off (x.offM []) ∅ h
mutual
theorem Rp.dom{K:yF}{H:Hp}:∀{t:T} {v:V} {F:!Addr},Rp K H t v F->∀a∈F,∃o,H a*>o
 | .im _,_,_,h=>by rw[Rp]at h;rw[h.2];simp
 | .tup f,_,_,h=>by rw[Rp]at h;obtain⟨_,_,_,_,h⟩:=h;show Rps.dom h
 | .li f,_,_,h=>by
  rw[Rp]at h;have(a,g,i,d,e,rfl):=h;intro b c;rw[ysM c];show d.dom
 | .lst f,_,_,h=>by
  rw[Rp]at h;have(a,g,j,i,d,e,rfl):=h;intro b c;rcases ycM c with rfl|c;show d.dom;show Rps.dom e b c
 | .di f,_,_,h=>by
  rw[Rp]at h;have(a,g,i,d,e,l,rfl):=h;intro b c;rw[ysM c];show d.dom
 | .dc f,_,_,h=>by
  rw[Rp]at h;have(a,g,j,i,d,e,rfl):=h;intro b c;rcases ycM c with rfl|c;show d.dom;show Rpk.dom e b c
 | .ins C f,_,_,h=>by
  rw[Rp]at h;have(a,k,g,j,i,d,e,rfl):=h;intro b c;rcases ycM c with rfl|c;show{_,d};show Rpf.dom e b c
theorem Rps.dom{K:yF}{H:Hp}:∀{ts:!T} {xs:!V} {F:!Addr},Rps K H ts xs F->∀a∈F,∃o,H a*>o
 | [],_,_,h=>by rw[Rps]at h;rw[h.2];simp
 | t::ts,_,_,h=>by
  rw[Rps]at h;have(y,r,f,g,i,d,e,rfl):=h;intro b c;rcases yaM c with c|c;show Rp.dom d b c;show Rps.dom e b c
theorem Rpk.dom{K:yF}{H:Hp}:∀{ts:!(I×T)} {xs:!(I×V)} {F:!Addr},Rpk K H ts xs F->∀a∈F,∃o,H a*>o
 | [],_,_,h=>by rw[Rpk]at h;rw[h.2];simp
 | (k,t)::ts,_,_,h=>by
  rw[Rpk]at h;have(y,r,f,g,i,d,e,rfl):=h;intro b c;rcases yaM c with c|c;show Rp.dom d b c;show Rpk.dom e b c
theorem Rpf.dom{K:yF}{H:Hp}:∀{ts:!(Str×T)} {xs:!(Str×V)} {F:!Addr},Rpf K H ts xs F->∀a∈F,∃o,H a*>o
 | [],_,_,h=>by rw[Rpf]at h;rw[h.2];simp
 | (k,t)::ts,_,_,h=>by
  rw[Rpf]at h;have(y,r,f,g,i,d,e,rfl):=h;intro b c;rcases yaM c with c|c;show Rp.dom d b c;show Rpf.dom e b c
end
def vx.nil{K:yF}{H:Hp}:vx K H [] []:=by rw[vx]
def vx.cons{K:yF}{H:Hp}{t:I}{ts:!I}{x:V}{xs:!V}(h:RpI K H t x)(hs:vx K H ts xs):vx K H (t::ts) (x::xs):=by rw[vx];show⟨x,xs,Xr,h,hs⟩
def vx.cons_inv{K:yF}{H:Hp}{t:I}{ts:!I}{xs:!V}(h:vx K H (t::ts) xs):∃x r,xs=x::r/\RpI K H t x/\vx K H ts r:=by rw[vx]at h;show h
def vx.nil_inv{K:yF}{H:Hp}{xs:!V}(h:vx K H [] xs):xs=[]:=by rw[vx]at h;show h
def vx.length{K:yF}{H:Hp}:∀{ts:!I} {xs:!V},vx K H ts xs->xs.length=ts.length
 | [],xs,h=>by rw[h.nil_inv];rfl
 | d::c,xs,h=>by have(x,r,rfl,_,a):=h.cons_inv;rw[JY,JY,a.length]
def vx.get{K:yF}{H:Hp}:∀{ts:!I} {xs:!V} {i:Nat} {t:I},vx K H ts xs->ts[i]?*>t->∃x,xs[i]?*>x/\RpI K H t x
 | [],_,_,_,_,e=>by simp at e
 | d::g,xs,0,f,h,e=>by
  have(x,r,rfl,a,c):=h.cons_inv;simp at e;subst e;show⟨x,Xr,a⟩
 | d::g,xs,i+1,f,h,e=>by
  have(x,r,rfl,a,c):=h.cons_inv;have(y,k,j):=vx.get (i:=i) c (by exists e);show{y,by simpa using k,j}
def vx.append{K:yF}{H:Hp}:∀{ds c:!I} {xs a:!V},vx K H ds xs->vx K H c a->vx K H (ds++c) (xs++a)
 | [],c,xs,a,h,e=>by obtain rfl:=h.nil_inv;show e
 | d::ds,c,xs,a,h,e=>by
  have(x,r,rfl,f,g):=h.cons_inv;show vx.cons f (vx.append g e)
def vx.take{K:yF}{H:Hp}:∀{ds:!I} {xs:!V} (n:Nat),vx K H ds xs->vx K H (ds.take n) (xs.take n)
 | ds,xs,0,h=>by dsimp[NR];show vx.nil
 | [],xs,n+1,h=>by obtain rfl:=h.nil_inv;show vx.nil
 | d::ds,xs,n+1,h=>by
  have(x,r,rfl,a,c):=h.cons_inv;show vx.cons a (vx.take n c)
def vx.drop{K:yF}{H:Hp}:∀{ds:!I} {xs:!V} (n:Nat),vx K H ds xs->vx K H (ds.drop n) (xs.drop n)
 | ds,xs,0,h=>h
 | [],xs,n+1,h=>by obtain rfl:=h.nil_inv;show vx.nil
 | d::ds,xs,n+1,h=>by
  have(x,r,rfl,c,a):=h.cons_inv;show vx.drop n a
def vx.one{K:yF}{H:Hp}{t:I}{x:V}(h:RpI K H t x):vx K H [t] [x]:=.cons h .nil
def vx.reverse{K:yF}{H:Hp}:∀{ds:!I} {xs:!V},vx K H ds xs->vx K H ds.reverse xs.reverse
 | [],xs,h=>by obtain rfl:=h.nil_inv;show vx.nil
 | d::ds,xs,h=>by
  have(x,r,rfl,a,c):=h.cons_inv;rw[LO,LO];show vx.append (vx.reverse c) (.one a)
def vx.set{K:yF}{H:Hp}{t:I}{x:V}(c:RpI K H t x):∀{ds:!I} {xs:!V} (n:Nat),vx K H ds xs->vx K H (ds.set n t) (xs.set n x)
 | [],xs,n,h=>by obtain rfl:=h.nil_inv;show vx.nil
 | d::ds,xs,0,h=>by have(y,r,rfl,e,a):=h.cons_inv;show vx.cons c a
 | d::ds,xs,n+1,h=>by have(y,r,rfl,e,a):=h.cons_inv;show vx.cons e (vx.set c n a)
def vx.ints{K:yF}{H:Hp}:∀(ns:!Int),vx K H (ns.map I.int) (ns.map V.int)
 | []=>vx.nil
 | n::ns=>vx.cons (by rw[RpI]) (vx.ints ns)
def Rps.nil{K:yF}{H:Hp}:Rps K H [] [] []:=by rw[Rps];show⟨Xr,Xr⟩
def Rps.cons{K:yF}{H:Hp}{t:T}{ts:!T}{x:V}{xs:!V}{F F':!Addr}(h:Rp K H t x F)(hs:Rps K H ts xs F'):Rps K H (t::ts) (x::xs) (F++F'):=by rw[Rps];show⟨x,xs,F,F',Xr,h,hs,Xr⟩
def Rps.cons_inv{K:yF}{H:Hp}{t:T}{ts:!T}{xs:!V}{F:!Addr}(h:Rps K H (t::ts) xs F):∃x r a c,xs=x::r/\Rp K H t x a/\Rps K H ts r c/\F=a++c:=by rw[Rps]at h;show h
def Rps.nil_inv{K:yF}{H:Hp}{xs:!V}{F:!Addr}(h:Rps K H [] xs F):xs=[]/\F=[]:=by rw[Rps]at h;show h
def Rps.length{K:yF}{H:Hp}:∀{ts:!T} {xs:!V} {F:!Addr},Rps K H ts xs F->xs.length=ts.length
 | [],xs,_,h=>by rw[h.nil_inv.1];rfl
 | d::c,xs,_,h=>by have(x,r,_,_,rfl,_,a,_):=h.cons_inv;rw[JY,JY,a.length]
def Rps.append{K:yF}{H:Hp}:∀{ds c:!T} {xs a:!V} {F G:!Addr},Rps K H ds xs F->Rps K H c a G->Rps K H (ds++c) (xs++a) (F++G)
 | [],c,xs,a,F,G,h,e=>by have(rfl,rfl):=h.nil_inv;show e
 | d::ds,c,xs,a,F,G,h,e=>by
  have(x,r,i,j,rfl,f,g,rfl):=h.cons_inv;rw[Ka];show Rps.cons f (Rps.append g e)
def Rps.at{K:yF}{H:Hp}:∀{ts:!T} {xs:!V} {F:!Addr} {i:Nat} {t:T},Rps K H ts xs F->ts[i]?*>t ->
  ∃x A G B,xs[i]?*>x/\Rp K H t x G/\F=A++G++B/\Rps K H (ts.take i) (xs.take i) A/\Rps K H (ts.drop (i+1)) (xs.drop (i+1)) B
 | [],_,_,_,_,_,e=>by simp at e
 | d::m,xs,_,0,k,h,e=>by
  have(x,r,a,g,rfl,c,f,rfl):=h.cons_inv;simp at e;subst e;show{x,[],a,g,Xr,c,by simp,Rps.nil,by simpa using f}
 | d::m,xs,_,i+1,k,h,e=>by
  have(x,r,a,g,rfl,c,f,rfl):=h.cons_inv;have(y,A,G,B,p,o,j,l,q):=Rps.at (i:=i) f (by exists e);show{y,a++A,G,B,by simpa using p,o,by rw[j];simp,?_,by simpa using q};simpa using Rps.cons c l
def Rps.take{K:yF}{H:Hp}:∀{ds:!T} {xs:!V} {F:!Addr} (n:Nat),Rps K H ds xs F->∃G a,Rps K H (ds.take n) (xs.take n) G/\Rps K H (ds.drop n) (xs.drop n) a/\F=G++a
 | ds,xs,F,0,h=>{[],F,by dsimp[NR];show Rps.nil,by simpa using h,Xr}
 | [],xs,F,n+1,h=>by have(rfl,rfl):=h.nil_inv;show{[],[],Rps.nil,Rps.nil,Xr}
 | d::ds,xs,F,n+1,h=>by
  have(x,r,c,j,rfl,e,f,rfl):=h.cons_inv;have(G,a,i,g,rfl):=Rps.take n f;show{c++G,a,Rps.cons e i,g,by rw[Ka]}
def Rps.ims{K:yF}{H:Hp}:∀{is:!I} {xs:!V} {F:!Addr},Rps K H (is.map T.im) xs F↔(vx K H is xs/\F=[])
 | [],xs,F=>by rw[Lv,Rps,vx]
 | i::is,xs,F=>by
  rw[JN,Rps,vx];constructor
  .rintro⟨x,r,d,e,rfl,a,c,rfl⟩;rw[Rp]at a;have:=Rps.ims.mp c;show{⟨x,r,Xr,a.1,this.1⟩,by rw[a.2,this.2];rfl}
  .rintro⟨⟨x,r,rfl,a,c⟩,rfl⟩;show{x,r,[],[],Xr,by rw[Rp];show⟨a,Xr⟩,Rps.ims.mpr ⟨c,Xr⟩,Xr}
def dF{K:yF}{H:Hp}{i:I}{v:V}(h:RpI K H i v):Rp K H (.im i) v []:=by rw[Rp];show⟨h,Xr⟩
def aV{K:yF}{H:Hp}{i:I}{v:V}{F:!Addr}(h:Rp K H (.im i) v F):RpI K H i v/\F=[]:=by rw[Rp]at h;show h
abbrev I.sc:I->↑V
 | .non=>VF .non|.bl b=>VF (.bl b)|.int i=>VF (.int i)|.str x=>VF (.str x)|.tup _=>VE|.ls _=>VE|.fd _ _=>VE|.exn _ _ _=>VE
def kI{t:I}{K:yF}{H:Hp}{v:V}(h:t.sc*>v):RpI K H t v:=by
 cases t<;>dsimp[I.sc]at h<;>cases h<;>rw[RpI]
def C9{t:I}{K:yF}{H:Hp}{v w:V}(h:t.sc*>v)(r:RpI K H t w):w=v:=by
 cases t<;>dsimp[I.sc]at h<;>cases h<;>rw[RpI]at r<;>show r
inductive Ac where
 | ix (n:Nat)|ky (k:I)|fd (f:Str)
 deriving DecidableEq
abbrev dN{a c:Type} [DecidableEq a]:!(a × c)->a->↑c
 | [],_=>VE
 | (d,t)::r,k=>if d=k then VF t else dN r k
abbrev lS{a c:Type} [DecidableEq a]:!(a × c)->a->c->!(a × c)
 | [],_,_=>[]
 | (d,t)::r,k,s=>if d=k then(d,s)::r else(d,t)::lS r k s
abbrev km:T->Ac->↑T
 | .lst c,.ix n=>c[n]?
 | .dc a,.ky k=>dN a k
 | .ins _ d,.fd f=>dN d f
 | _,_=>VE
abbrev E9:T->Ac->T->T
 | .lst d,.ix n,s=>.lst (d.set n s)
 | .dc a,.ky k,s=>.dc (lS a k s)
 | .ins C c,.fd f,s=>.ins C (lS c f s)
 | t,_,_=>t
abbrev T.sub:T->!Ac->↑T
 | t,[]=>VF t
 | t,a::p=>(km t a).bind λs=>s.sub p
abbrev T.put:T->!Ac->T->T
 | _,[],s=>s
 | t,a::p,s=>match km t a with
  | some u=>E9 t a (u.put p s)
  | none=>t
abbrev at1(K:yF)(H:Hp):V->Ac->V->Prop
 | v,.ix n,w=>∃a d,v=.ref a/\H a*>(.lst d)/\d[n]?*>w
 | v,.ky k,w=>∃a c,v=.ref a/\DAt K H a c/\dN c k*>w
 | v,.fd f,w=>∃a C e c,v=.ref a/\H a*>(.ins C e c)/\dN c f*>w
abbrev atP(K:yF)(H:Hp):V->!Ac->V->Prop
 | v,[],w=>w=v
 | v,a::p,w=>∃u,at1 K H v a u/\atP K H u p w
def DAt.det{K:yF}{H:Hp}{a:Addr}{xs c:!(I×V)}(h:DAt K H a xs)(g:DAt K H a c):xs=c:=by
 have(i,e,rfl):=h;have(f,d,rfl):=g;rw[e]at d;cases d;rfl
def sJ{K:yF}{H:Hp}{v w p:V}{a:Ac}(h:at1 K H v a w)(g:at1 K H v a p):w=p:=by
 cases a with
 | ix n=>
  have(a,m,rfl,l,i):=h;have(o,j,e,d,c):=g;cases e;rw[l]at d;cases d;rw[i]at c;cases c;rfl
 | ky k=>
  have(a,m,rfl,l,i):=h;have(o,j,e,d,c):=g;cases e;have:=l.det d;subst this;rw[i]at c;cases c;rfl
 | fd f=>
  have(a,C,s,m,rfl,l,i):=h;have(o,r,q,j,e,d,c):=g;cases e;rw[l]at d;cases d;rw[i]at c;cases c;rfl
def jj{K:yF}{H:Hp}:∀{p:!Ac} {v w c:V},atP K H v p w->atP K H v p c->w=c
 | [],v,w,c,h,g=>by rw[atP]at h g;rw[h,g]
 | a::p,v,w,c,h,g=>by
  rw[atP]at h g;have(u,f,e):=h;have(j,i,d):=g;have:=sJ f i;subst this;show jj e d
def sK{K:yF}{H:Hp}{a:Ac}:∀{p:!Ac} {v w u:V},atP K H v p w->at1 K H w a u->atP K H v (p++[a]) u
 | [],v,w,u,h,g=>by rw[atP]at h;subst h;show⟨u,g,Xr⟩
 | b::p,v,w,u,h,g=>by
  rw[atP]at h;have(x,d,c):=h;show{x,d,sK c g}
def uh:∀{p:!Ac} {t s u:T},t.sub p*>s->km s a*>u->t.sub (p++[a])*>u
 | [],t,s,u,h,g=>by rw[T.sub]at h;cases h;rw[KT,T.sub,g];rfl
 | b::p,t,s,u,h,g=>by
  rw[T.sub]at h;rw[Kn,T.sub];cases e:km t b with
  | none=>rw[e]at h;cases h
  | some x=>rw[e]at h;show uh (p:=p) h g
section
variable {K:yF}{H:Hp}
def Rpk.at:∀{ts:!(I×T)} {xs:!(I×V)} {F:!Addr} {t:T},Rpk K H ts xs F->dN ts k*>t ->
  ∃x A G B,dN xs k*>x/\Rp K H t x G/\F=A++G++B/\∀H' g f,(∀{u:T} {w:V} {F':!Addr},(∀a∈F',a∈A\/a∈B)->Rp K H u w F'->Rp K H' u w F')->Rp K H' g x f->Rpk K H' (lS ts k g) xs (A++f++B)
 | [],xs,F,t,h,e=>by simp[dN]at e
 | (v,d)::P,xs,F,t,h,e=>by
  rw[Rpk]at h;have(x,r,m,o,rfl,j,l,rfl):=h;by_cases i:v=k
  .subst i;simp[dN]at e;subst e;show{x,[],m,o,by simp[dN],j,by simp,λH' g f st q=>?_};dsimp[lS,if_pos];rw[Rpk];show{x,r,f,o,Xr,q,?_,by simp};have:∀{ts:!(I×T)} {xs:!(I×V)} {F:!Addr},(∀a∈F,a∈o)->Rpk K H ts xs F->Rpk K H' ts xs F:=by
    intro ts
    induction ts with
    | nil=>intro xs F _ h;rw[Rpk]at h|-;show h
    | cons p ts O=>
     intro xs F s h;have(Q,S):=p;rw[Rpk]at h|-;have(y,r,C,z,J,j,l,rfl):=h;show{y,r,C,z,J,st (λa c=>.inr (s a (yaL _ c))) j,O (λa c=>s a (yaR _ c)) l,Xr}
   show this (λa c=>c) l
  .simp[dN,i]at e;have(y,A,G,B,L,E,M,N):=Rpk.at l e;show{y,m++A,G,B,by simp[dN,i,L],E,by rw[M];simp,λH' g f st q=>?_};dsimp[lS,if_neg i];rw[Rpk];show{x,r,m,A++f++B,Xr,st (λa c=>.inl (yaL _ c)) j,N H' g f (λc=>st (λa h=>(c a h).imp (yaR _) id)) q,by simp}
def Rpf.at:∀{ts:!(Str×T)} {xs:!(Str×V)} {F:!Addr} {t:T},Rpf K H ts xs F->dN ts k*>t ->
  ∃x A G B,dN xs k*>x/\Rp K H t x G/\F=A++G++B/\∀H' g f,(∀{u:T} {w:V} {F':!Addr},(∀a∈F',a∈A\/a∈B)->Rp K H u w F'->Rp K H' u w F')->Rp K H' g x f->Rpf K H' (lS ts k g) xs (A++f++B)
 | [],xs,F,t,h,e=>by simp[dN]at e
 | (v,d)::P,xs,F,t,h,e=>by
  rw[Rpf]at h;have(x,r,m,o,rfl,j,l,rfl):=h;by_cases i:v=k
  .subst i;simp[dN]at e;subst e;show{x,[],m,o,by simp[dN],j,by simp,λH' g f st q=>?_};dsimp[lS,if_pos];rw[Rpf];show{x,r,f,o,Xr,q,?_,by simp};have:∀{ts:!(Str×T)} {xs:!(Str×V)} {F:!Addr},(∀a∈F,a∈o)->Rpf K H ts xs F->Rpf K H' ts xs F:=by
    intro ts
    induction ts with
    | nil=>intro xs F _ h;rw[Rpf]at h|-;show h
    | cons p ts O=>
     intro xs F s h;have(Q,S):=p;rw[Rpf]at h|-;have(y,r,C,z,J,j,l,rfl):=h;show{y,r,C,z,J,st (λa c=>.inr (s a (yaL _ c))) j,O (λa c=>s a (yaR _ c)) l,Xr}
   show this (λa c=>c) l
  .simp[dN,i]at e;have(y,A,G,B,L,E,M,N):=Rpf.at l e;show{y,m++A,G,B,by simp[dN,i,L],E,by rw[M];simp,λH' g f st q=>?_};dsimp[lS,if_neg i];rw[Rpf];show{x,r,m,A++f++B,Xr,st (λa c=>.inl (yaL _ c)) j,N H' g f (λc=>st (λa h=>(c a h).imp (yaR _) id)) q,by simp}
def Mu.lst(m:Mu H a)(h:Rd H a (.lst xs)):H a*>(.lst xs):=by
 rcases h with h|⟨o,h⟩;show h;obtain⟨u,e,m⟩:=m;rw[h]at e;cases e;cases m
def Rps.stay:∀{ts:!T} {xs:!V} {F:!Addr},(∀{u:T} {w:V} {F':!Addr},(∀a∈F',a∈F)->Rp K H u w F'->Rp K H' u w F')->Rps K H ts xs F->Rps K H' ts xs F
 | [],_,_,_,h=>by rw[Rps]at h|-;show h
 | t::ts,_,_,n,h=>by
  rw[Rps]at h|-;have(y,r,d,g,i,e,f,rfl):=h;show{y,r,d,g,i,n (λa c=>yaL _ c) e,Rps.stay (λc=>n λa h=>yaR _ (c a h)) f,Xr}
def Rp.at1(h:Rp K H t v F)(Q:∀b∈F,Mu H b)(O:F.Nodup)(e:km t a*>s) :
  ∃w A G B,L2.at1 K H v a w/\Rp K H s w G/\F=A++G++B/\∀H' j l,Pd G H H'->Rp K H' j w l->Rp K H' (E9 t a j) v (A++l++B):=by
 have y:∀{A G B:!Addr},F=A++G++B->∀b,(b∈A\/b∈B)->b∉G:=by
  intro A G B e b d X;rw[e]at O;rcases d with d|d;show(JP.mp (JP.mp O).1).2.2 b d b X rfl;show(JP.mp O).2.2 b (yaR _ X) b d rfl
 have p:∀{A G B:!Addr},F=A++G++B->∀b∈G,Mu H b:=λe b d=>Q b (by rw[e];simp[d]);cases t with
 | lst N=>
  cases a with
  | ix n=>
   rw[Rp]at h;have(a,i,f,rfl,o,J,rfl):=h;have S:=(Q a ymS).lst o;have(x,A,G,B,m,E,L,M,h8):=J.at e;have g:a::f=(a::A)++G++B:=by rw[L];simp
   show{x,a::A,G,B,⟨a,i,Xr,S,m⟩,E,g,λH' j l c q=>?_};have st:∀{u:T} {w:V} {f:!Addr},(∀b∈f,b∈A\/b∈B)->Rp K H u w f->Rp K H' u w f:=λd r=>r.off c (p g) (λb z=>y g b ((d b z).imp (ymC _) id));change Rp K H' (.lst (N.set n j)) (.ref a) _;rw[Rp];show{a,i,A++l++B,Xr,.inl (c a _ S (y g a (.inl ymS))),?_,by simp};have Y:n<N.length:=(JJ.mp e).1;have hn':n<i.length:=(JJ.mp m).1;have Z:N.set n j=N.take n++j::N.drop (n+1):=by rw[List.set_eq_take_append_cons_drop,if_pos Y]
   have e2:i=i.take n++x::i.drop (n+1):=by
    have:=JJ.mp m;have(hl,hx):=this
    conv=>lhs;rw[<-LN n i,KW hl,hx]
   rw[Z,e2,Ka];show Rps.append (Rps.stay (λd=>st λb z=>.inl (d b z)) M) (Rps.cons q (Rps.stay (λd=>st λb z=>.inr (d b z)) h8))
  | ky k=>cases e
  | fd k=>cases e
 | dc P=>
  cases a with
  | ky k=>
   rw[Rp]at h;have(a,i,f,rfl,o,J,rfl):=h;have(x,A,G,B,m,E,L,M):=J.at e;have g:a::f=(a::A)++G++B:=by rw[L];simp
   show{x,a::A,G,B,⟨a,i,Xr,o,m⟩,E,g,λH' j l c q=>?_};have st:∀{u:T} {w:V} {f:!Addr},(∀b∈f,b∈A\/b∈B)->Rp K H u w f->Rp K H' u w f:=λd r=>r.off c (p g) (λb z=>y g b ((d b z).imp (ymC _) id));change Rp K H' (.dc (lS P k j)) (.ref a) _;rw[Rp];show{a,i,A++l++B,Xr,o.off c (y g a (.inl ymS)),M H' j l st q,by simp}
  | ix k=>cases e
  | fd k=>cases e
 | ins C fs=>
  cases a with
  | fd k=>
   rw[Rp]at h;have(a,U,i,f,rfl,o,J,rfl):=h;have(x,A,G,B,m,E,L,M):=J.at e;have g:a::f=(a::A)++G++B:=by rw[L];simp
   show{x,a::A,G,B,⟨a,C,U,i,Xr,o,m⟩,E,g,λH' j l c q=>?_};have st:∀{u:T} {w:V} {f:!Addr},(∀b∈f,b∈A\/b∈B)->Rp K H u w f->Rp K H' u w f:=λd r=>r.off c (p g) (λb z=>y g b ((d b z).imp (ymC _) id));change Rp K H' (.ins C (lS fs k j)) (.ref a) _;rw[Rp];show{a,U,i,A++l++B,Xr,c a _ o (y g a (.inl ymS)),M H' j l st q,by simp}
  | ix k=>cases e
  | ky k=>cases e
 | im _=>cases a<;>cases e
 | tup _=>cases a<;>cases e
 | li _=>cases a<;>cases e
 | di _=>cases a<;>cases e
def Rp.atP:∀{p:!Ac} {t s:T} {v:V} {F:!Addr},Rp K H t v F->(∀b∈F,Mu H b)->F.Nodup->t.sub p*>s ->
  ∃w A G B,L2.atP K H v p w/\Rp K H s w G/\F=A++G++B/\∀H' c d,Pd G H H'->Rp K H' c w d->Rp K H' (t.put p c) v (A++d++B)
 | [],t,s,v,F,h,g,j,e=>by
  rw[T.sub]at e;cases e;show{v,[],F,[],Xr,h,by simp,λH' c d _ q=>by rw[T.put];simpa using q}
 | a::p,t,s,v,F,h,g,j,e=>by
  rw[T.sub]at e;cases e1:km t a with
  | none=>rw[e1]at e;cases e
  | some u=>
   rw[e1]at e;have(w,A,G,B,r,C,rfl,y):=h.at1 g j e1;have i:=(JP.mp (JP.mp j).1).2.1;have(x,o,d,m,z,E,rfl,J):=Rp.atP (p:=p) C (λb k=>g b (yaL _ (yaR _ k))) i e;show{x,A++o,d,m++B,⟨w,r,z⟩,E,by simp,λH' c l f q=>?_};rw[T.put,e1];have:=y H' (u.put p c) (o++l++m) (f.mono λb k=>by simp[k]) (J H' c l f q);exists this
end
inductive Kd where
 | ow|io (k:Nat)|vw (r:↑Nat) (p:Option !Ac)
structure R where
 k:Kd
 t:T
structure En where
 key:↑Nat
 v:V
 r:R
structure Hd where
 e:En
 F:!Addr
structure Gm where
 K:yF
 H0:Hp
 io:!Addr
 iov:!V
abbrev Kd.isOw:Kd->Bool
 | .vw _ _=>VG|_=>VH
abbrev Kd.root:Kd->↑Nat
 | .vw r _=>r|_=>VE
abbrev Hd.own(h:Hd):!Addr:=if h.e.r.k.isOw=VH then h.F else []
abbrev Ph(c:Gm)(H:Hp)(L:!Hd)(h:Hd):Prop:=match h.e.r.k with
 | .ow=>∀a∈h.F,c.H0 a=VE
 | .io k=>c.iov[k]?*>h.e.v
 | .vw VE _=>∀a∈h.F,a∉L.flatMap Hd.own
 | .vw (VF j) p=>∃g∈L,g.e.key*>j/\g.e.r.k.isOw=VH/\(∀a∈h.F,a∈g.F\/a∉L.flatMap Hd.own)/\∀q,p*>q->g.e.r.t.sub q*>h.e.r.t/\atP c.K H g.e.v q h.e.v
structure GW(Γ:Gm)(H:Hp)(L:!Hd):Prop where
 nd:(L.flatMap Hd.own).Nodup
 ad:∀a∈L.flatMap Hd.own,Mu H a/\(Γ.H0 a=VE\/a ∈ Γ.io)
 rp:∀h∈L,Rp Γ.K H h.e.r.t h.e.v h.F
 kd:∀h∈L,Ph Γ H L h
 ks:(L.filterMap λh=>h.e.key).Nodup
 fr:∀b o,Γ.H0 b*>o->b∉Γ.io->H b*>o
 iol:∀a ∈ Γ.io,∃o,H a*>o
section
variable {Γ:Gm}{H H':Hp}{L L':!Hd}{h:Hd}
def Ph.sub(k:Ph Γ H L h)(s:∀g∈L,g.e.r.k.isOw=VH->g∈L')(o:∀a∈L'.flatMap Hd.own,a∈L.flatMap Hd.own):Ph Γ H L' h:=by
 unfold Ph at k|-;split at k;show k;show k;show λa c z=>k a c (o a z)
 .have(g,i,f,d,l,j):=k;show{g,s g i d,f,d,λa c=>(l a c).imp id λz w=>z (o a w),j}
def GW.perm(G:GW Γ H L)(p:L.Perm L'):GW Γ H L':=
 {(p.flatMap_right _).nodup_iff.mp G.nd,λa c=>G.ad a ((p.flatMap_right _).mem_iff.mpr c),λh d=>G.rp h (p.mem_iff.mpr d),λh d=>(G.kd h (p.mem_iff.mpr d)).sub (λg e _=>p.mem_iff.mp e) (λa c=>(p.flatMap_right _).mem_iff.mpr c),(p.filterMap _).nodup_iff.mp G.ks,G.fr,G.iol}
def kU(s:L'.Sublist L):(L'.flatMap Hd.own).Sublist (L.flatMap Hd.own):=by
 induction s with
 | slnil=>show List.Sublist.refl _
 | cons a s c=>rw[JW];show c.trans (List.sublist_append_right _ _)
 | cons_cons a s c=>rw[JW,JW];show(List.Sublist.refl _).append c
def GW.sub(G:GW Γ H L)(s:L'.Sublist L)(q:∀h∈L',∀j,h.e.r.k.root*>j->∀g∈L,g.e.key*>j->g.e.r.k.isOw=VH->g∈L'):GW Γ H L':=by
 show{(kU s).nodup G.nd,λa c=>G.ad a ((kU s).subset c),λh d=>G.rp h (s.subset d),λh d=>?_,(s.filterMap _).nodup G.ks,G.fr,G.iol};have k:=G.kd h (s.subset d);unfold Ph at k|-;split at k;show k;show k;show λa c z=>k a c ((kU s).subset z)
 .delta j p e;have(g,m,f,i,o,l):=k;show{g,q h d j (by rw[e];rfl) g m f i,f,i,λa c=>(o a c).imp id λz w=>z ((kU s).subset w),l}
def GW.drop(G:GW Γ H (h::L))(d:h.e.key=VE):GW Γ H L:=by
 show G.sub (MQ _ _) λg f j _ x a c _=>?_;rcases ycM a with rfl|a;rw[d]at c;cases c;show a
def GW.dropK(G:GW Γ H (h::L))(i:∀g∈L,∀j,h.e.key*>j->g.e.r.k.root≠VF j):GW Γ H L:=by
 show G.sub (MQ _ _) λg f j d x a c _=>?_;rcases ycM a with rfl|a;show absurd d (i g f j c);show a
def GW.filter(G:GW Γ H L)(p:Hd->Bool)(hp:∀h∈L,h.e.r.k.isOw=VH->p h=VH):GW Γ H (L.filter p):=
 G.sub KM λh i j f g a d c=>JX.mpr {a,hp g a c}
def GW.new0(G:GW Γ H L)(e:H a=VE) : Γ.H0 a=VE:=by
 cases q : Γ.H0 a with
 | none=>rfl
 | some o=>
  exfalso;by_cases c:a ∈ Γ.io;have(o,d):=G.iol a c;rw[e]at d;cases d;have:=G.fr a o q c;rw[e]at this;cases this
def GW.push(G:GW Γ H L)(l:Rp Γ.K H r.t v F)(i:Ph Γ H L {⟨VE,v,r⟩,F})(j:r.k.isOw=VG\/F=[]):GW Γ H ({⟨VE,v,r⟩,F}::L):=by
 have e:Hd.own {⟨VE,v,r⟩,F}=[]:=by
  unfold Hd.own;rcases j with h|h;simp[h];simp[h]
 show{by rw[JW,e];show G.nd,λa c=>G.ad a (by rw[JW,e]at c;show c),λx d=>?_,λx d=>?_,?_,G.fr,G.iol}
 .rcases ycM d with rfl|d;show l;show G.rp x d
 .rcases ycM d with rfl|d;show i.sub (λg f _=>ymC _ f) (λa c=>by rw[JW,e]at c;show c);show(G.kd x d).sub (λg f _=>ymC _ f) (λa c=>by rw[JW,e]at c;show c)
 .rw[Kf];show G.ks
def GW.rekey(G:GW Γ H (h::L))(i:h.e.key=VE)(m:∀j,key*>j->j∉L.filterMap λh=>h.e.key):GW Γ H ({⟨key,h.e.v,h.e.r⟩,h.F}::L):=by
 have o:(({⟨key,h.e.v,h.e.r⟩,h.F}:Hd)::L).flatMap Hd.own=(h::L).flatMap Hd.own:=rfl;have l:∀x∈L,Ph Γ H (h::L) x->Ph Γ H ({⟨key,h.e.v,h.e.r⟩,h.F}::L) x:=λx a k=>by
  unfold Ph at k|-;split at k;show k;show k;show k
  .have(g,d,c,f):=k;rcases ycM d with rfl|d;rw[i]at c;cases c;show{g,ymC _ d,c,f}
 show{G.nd,G.ad,λx a=>?_,λx a=>?_,?_,G.fr,G.iol}
 .rcases ycM a with rfl|a;show G.rp h ymS;show G.rp x (ymC _ a)
 .rcases ycM a with rfl|a
  .have k:=G.kd h ymS;unfold Ph at k|-;split at k;delta e;dsimp[e];show k;delta e;dsimp[e];show k;delta e;dsimp[e];show k
   .delta e;dsimp[e];have(g,d,c,f):=k;rcases ycM d with rfl|d;rw[i]at c;cases c;show{g,ymC _ d,c,f}
  .show l x a (G.kd x (ymC _ a))
 .have g:=G.ks;rw[Kf,i]at g;rw[Kf];cases key with
  | none=>show g
  | some j=>show Ks.mpr {m j rfl,g}
def jB(d:h.e.r.k.isOw=VH)(c:a∈h.F):a∈h.own:=by unfold Hd.own;rw[if_pos d];show c
def GW.apart(G:GW Γ H (hs++L))(A:∀g∈L,∀h∈hs,∀j,h.e.key*>j->g.e.r.k.root≠VF j)(C:∀h∈hs,h.e.r.k.isOw=VH):∀g∈L,∀a∈g.F,∀h∈hs,a∉h.F:=by
 intro g l a i h t q;have s:=G.nd;rw[JV]at s;have u:a∈hs.flatMap Hd.own:=KU.mpr {h,t,jB (C h t) q};have d:a∉(hs++L).flatMap Hd.own->False:=λn=>n (by rw[JV];show yaL _ u);have k:=G.kd g (yaR _ l);have c:∀x∈L,x.e.r.k.isOw=VH->a∈x.F->False:=λx f y m=>
  (JP.mp s).2.2 a u a (KU.mpr {x,f,jB y m}) rfl
 unfold Ph at k;split at k;delta e;show c g l (by rw[e];rfl) i;delta e;show c g l (by rw[e];rfl) i;show d (k a i)
 .delta j p e;have(x,o,v,w,B,_):=k;rcases B a i with z|z
  .rcases yaM o with f|f;show A g l x f j v (by rw[e];rfl);show c x f w z
  .show d z
def nP{M:!Addr}(c:Pd M H H'){F:!Addr}(p:∀a∈F,a∉M)(E:∀a∈F,Mu H a):∀{q:!Ac} {t s:T} {v w:V} {F':!Addr},(∀a∈F',a∈F)->F'.Nodup->Rp Γ.K H t v F'->t.sub q*>s->atP Γ.K H v q w->atP Γ.K H' v q w
 | [],_,_,_,_,_,_,_,_,_,h=>h
 | a::q,t,s,v,w,F',g,N,r,e,h=>by
  rw[atP]at h|-;have(u,o,Q):=h;rw[T.sub]at e;cases e1:km t a with
  | none=>rw[e1]at e;cases e
  | some x=>
   rw[e1]at e;have(y,A,G,B,O,U,rfl,_):=r.at1 (λb z=>E b (g b z)) N e1;have:=sJ o O;subst this;show{u,?_,nP c p E (λb z=>g b (yaL _ (yaR _ z))) (JP.mp (JP.mp N).1).2.1 U e Q};cases a with
   | ix n=>
    have(b,d,rfl,l,k):=o;show{b,d,Xr,c b _ l (p b ?_),k};cases t<;>dsimp[km]at e1<;>try cases e1
    rw[Rp]at r;have(J,f,m,j,_,_,i):=r;cases j;show g b (by rw[i];show ymS)
   | ky n=>
    have(b,d,rfl,l,k):=o;show{b,d,Xr,l.off c (p b ?_),k};cases t<;>dsimp[km]at e1<;>try cases e1
    rw[Rp]at r;have(J,f,m,j,_,_,i):=r;cases j;show g b (by rw[i];show ymS)
   | fd n=>
    have(b,C,S,d,rfl,l,k):=o;show{b,C,S,d,Xr,c b _ l (p b ?_),k};cases t<;>dsimp[km]at e1<;>try cases e1
    rw[Rp]at r;have(J,P,f,m,j,_,_,i):=r;cases j;show g b (by rw[i];show ymS)
def GW.ndF(G:GW Γ H L)(c:h∈L)(d:h.e.r.k.isOw=VH):h.F.Nodup:=by
 have a:=G.nd;have(s,t,rfl):=LY c;rw[JV,JW]at a;have:=(JP.mp (JP.mp a).2.1).1;unfold Hd.own at this;rw[if_pos d]at this;show this
def GW.muF(G:GW Γ H L)(d:h∈L)(f:h.e.r.k.isOw=VH):∀a∈h.F,Mu H a:=λa c=>(G.ad a (KU.mpr {h,d,jB f c})).1
def gY{hs:!Hd}(a:∀h∈hs,h.e.r.k.isOw=VH):hs.flatMap Hd.own=hs.flatMap (·.F):=by
 induction hs with
 | nil=>rfl
 | cons x f c=>
  rw[JW,JW,c λh d=>a h (ymC _ d)];unfold Hd.own;rw[if_pos (a x ymS)]
def GW.step{hs:!Hd}(G:GW Γ H (hs++L))(Z:∀h∈hs,h.e.r.k.isOw=VH)(hr:∀g∈L,∀h∈hs,∀j,h.e.key*>j->g.e.r.k.root≠VF j)
  (d:Pd (hs.flatMap (·.F)) H H') (J:∀a∈hs.flatMap (·.F),∃o,H' a*>o) {key:↑Nat} {v:V} {r:R} {F:!Addr} (nd:F.Nodup) (C:∀a∈F,(a∈hs.flatMap (·.F)\/H a=VE)/\Mu H' a) (hp:Rp Γ.K H' r.t v F)
  (Y:(r.k=.ow/\∀h∈hs,h.e.r.k=.ow) \/ ∃k,r.k=.io k/\Γ.iov[k]?*>v) (y:∀j,key*>j->j∉L.filterMap λh=>h.e.key):GW Γ H' ({⟨key,v,r⟩,F}::L):=by
 have P:r.k.isOw=VH:=by rcases Y with⟨e,_⟩|⟨k,e,_⟩<;>rw[e]<;>rfl
 have X:=gY Z;have U:=G.nd;rw[JV,X]at U;have N:=(JP.mp U).2.1;have dj:=(JP.mp U).2.2;have B:∀a∈L.flatMap Hd.own,Mu H a/\(Γ.H0 a=VE\/a ∈ Γ.io):=λa c=>G.ad a (by rw[JV];show yaR _ c);have u:∀a∈hs.flatMap (·.F),Mu H a/\(Γ.H0 a=VE\/a ∈ Γ.io):=λa c=>G.ad a (by rw[JV,X];show yaL _ c);have ap:=G.apart hr Z;have A:∀g∈L,∀a∈g.F,a∉hs.flatMap (·.F):=λg i a c l=>by
  have(h,E,s):=KU.mp l;show ap g i a c h E s
 have Q:Hd.own {⟨key,v,r⟩,F}=F:=by unfold Hd.own;rw[if_pos P]
 have f0:∀a∈F,Γ.H0 a=VE\/a ∈ Γ.io:=λa c=>by
  rcases(C a c).1 with z|z;show(u a z).2;show .inl (G.new0 z)
 show{?_,λa c=>?_,λx f=>?_,λx f=>?_,?_,λb o e n=>?_,λa c=>?_}
 .rw[JW,Q];show JP.mpr {nd,N,λa c b hb=>?_};rintro rfl;rcases(C a c).1 with z|z;show dj a z a hb rfl
  .have(o,e,_):=(B a hb).1;rw[z]at e;cases e
 .rw[JW,Q]at c;rcases yaM c with c|c;show{(C a c).2,f0 a c}
  .obtain⟨⟨o,e,m⟩,z⟩:=B a c;show{{o,d a o e λl=>dj a l a c rfl,m},z}
 .rcases ycM f with rfl|f;show hp;show(G.rp x (yaR _ f)).off d (λa c=>(u a c).1) (A x f)
 .rcases ycM f with rfl|f
  .unfold Ph;rcases Y with⟨e,eh⟩|⟨k,e,ek⟩
   .dsimp[e];intro a c;rcases(C a c).1 with z|z
    .have(h,E,s):=KU.mp z;have q:=G.kd h (yaL _ E);unfold Ph at q;rw[eh h E]at q;show q a s
    .show G.new0 z
   .dsimp[e];show ek
  .have k:=G.kd x (yaR _ f);have st:∀a∈x.F,a∉(hs++L).flatMap Hd.own->a∉(({⟨key,v,r⟩,F}:Hd)::L).flatMap Hd.own:=λa c n z=>by
    rw[JW,Q]at z;rcases yaM z with z|z
    .rcases(C a z).1 with w|w;show n (by rw[JV,X];show yaL _ w)
     .have(o,e):=(G.rp x (yaR _ f)).dom a c;rw[w]at e;cases e
    .show n (by rw[JV];show yaR _ z)
   unfold Ph at k|-;split at k;show k;show k;show λa c=>st a c (k a c)
   .delta j p e;have(g,h1,h2,S,h4,O):=k;rcases yaM h1 with i|i;show absurd (by rw[e];rfl) (hr x f g i j h2)
    .show{g,ymC _ i,h2,S,λa c=>(h4 a c).imp id (st a c),λq M=>{(O q M).1,?_}};show nP d (F:=g.F) (A g i) (G.muF (yaR _ i) S) (λa c=>c) (G.ndF (yaR _ i) S) (G.rp g (yaR _ i)) (O q M).1 (O q M).2
 .have g:=G.ks;rw[Kj]at g;have g2:=(JP.mp g).2.1;rw[Kf];cases key with
  | none=>show g2
  | some j=>show Ks.mpr {y j rfl,g2}
 .show d b o (G.fr b o e n) λl=>?_;rcases(u b l).2 with z|z;rw[z]at e;cases e;show n z
 .have(o,e):=G.iol a c;by_cases l:a∈hs.flatMap (·.F);show J a l;show{o,d a o e l}
end
def ny{j k:Type}{f : j->k}{N M:!k}(p:N.Perm M):∀L:!j,L.map f=N->∃c,L.Perm c/\c.map f=M:=by
 induction p with
 | nil=>intro L h;show{L,List.Perm.refl _,h}
 | cons x p o=>
  intro L h;cases L with
  | nil=>cases h
  | cons a L=>
   rw[JN,Lp.injEq]at h;have(c,i,d):=o L h.2;show⟨a::c,i.cons a,by rw[JN,h.1,d]⟩
 | swap x y l=>
  intro L h;cases L with
  | nil=>cases h
  | cons a L=>
   cases L with
   | nil=>cases h
   | cons b L=>
    dsimp[JN,Lp.injEq]at h;show⟨b::a::L,List.Perm.swap _ _ _,by simp[h.1,h.2.1,h.2.2]⟩
 | trans p q g e=>
  intro L h;have(s,i,d):=g L h;have(L2,m,r):=e s d;show{L2,i.trans m,r}
abbrev Pc(a:Gm)(H:Hp)(X:!En):Prop:=∃L,GW a H L/\L.map (·.e)=X
section
variable {Γ:Gm}{H H':Hp}{X Y:!En}{e:En}
def Pc.perm(S:Pc Γ H X)(p:X.Perm Y):Pc Γ H Y:=by
 have(L,g,e):=S;have(a,d,c):=ny p L e;show{a,g.perm d,c}
def aH{d c:Type}{f : d->c}{L:!d}{b : c}{X:!c}(h:L.map f=b::X):∃a g,L=a::g/\f a=b/\g.map f=X:=by
 cases L with
 | nil=>cases h
 | cons a L=>rw[JN,Lp.injEq]at h;show⟨a,L,Xr,h.1,h.2⟩
def cC{g d:Type}{f : g->d}:∀{A:!d} {L:!g} {B:!d},L.map f=A++B->∃c L2,L=c++L2/\c.map f=A/\L2.map f=B
 | [],L,B,h=>{[],L,Xr,Xr,h}
 | a::A,L,B,h=>by
  have(x,m,rfl,j,i):=aH h;have(c,L2,rfl,k,l):=cC i;show⟨x::c,L2,Xr,by rw[JN,j,k],l⟩
def Pc.drop(S:Pc Γ H (e::X))(d:e.key=VE):Pc Γ H X:=by
 have(L,g,h):=S;have(x,f,rfl,c,a):=aH h;subst c;show{f,g.drop d,a}
def Pc.dropK(S:Pc Γ H (e::X))(l:∀g∈X,∀j,e.key*>j->g.r.k.root≠VF j):Pc Γ H X:=by
 have(L,g,h):=S;have(x,d,rfl,c,a):=aH h;subst c;show{d,g.dropK λy i j f=>l y.e (by rw[<-a];show Kv i) j f,a}
abbrev aD(M:!Nat) (e:En):Bool:=match e.r.k.root with
 | some j=> ~~~M.contains j
 | none=>VH
abbrev ah(M:!Nat) (E:!En):!En:=E.filter (aD M)
def uP(e:En):aD [] e=VH:=by unfold aD;split<;>rfl
def cB(E:!En):ah [] E=E:=by unfold ah;rw[Lb];intro a _;show uP a
def aL(M:!Nat)(A B:!En):ah M (A++B)=ah M A++ah M B:=LG ..
def jV(M N:!Nat)(e:En):aD (M++N) e=(aD N e&&aD M e):=by
 unfold aD;split
 .rename_i j _;by_cases c:j∈M<;>by_cases a:j∈N<;>simp[c,a]
 .rfl
def af(M N:!Nat)(E:!En):ah N (ah M E)=ah (M++N) E:=by
 unfold ah;rw[LZ];congr 1;funext e;rw[jV]
def Pc.kill(S:Pc Γ H X)(M:!Nat):Pc Γ H (ah M X):=by
 have(L,g,h):=S;show{L.filter λx=>aD M x.e,g.filter _ λx _ a=>?_,?_}
 .unfold aD;cases k:x.e.r.k with
  | vw r p=>rw[k]at a;cases a
  | ow=>rfl
  | io _=>rfl
 .rw[<-h];unfold ah;rw[LJ];rfl
def Pc.push(S:Pc Γ H X)(h:RpI Γ.K H i v):Pc Γ H ({VE,v,{.ow,.im i}}::X):=by
 have(L,g,d):=S;show{_,g.push (v:=v) (r:={.ow,.im i}) (dF h) (λa c=>by cases c) (.inr rfl),by rw[JN,d]}
def Pc.rekey(S:Pc Γ H (e::X))(i:e.key=VE){key:↑Nat}(k:∀j,key*>j->∀g∈X,g.key≠VF j):Pc Γ H (⟨key,e.v,e.r⟩::X):=by
 have(L,g,h):=S;have(x,o,rfl,d,c):=aH h;subst d;show{_,g.rekey i (key:=key) λj l f=>?_,by rw[JN,c]};have(y,m,a):=KB.mp f;show k j l y.e (by rw[<-c];show Kv m) a
def Pc.rd(S:Pc Γ H X)(a:e∈X):∃F,Rp Γ.K H e.r.t e.v F:=by
 have(L,g,rfl):=S;have(h,c,rfl):=JS.mp a;show{h.F,g.rp h c}
def Pc.view(S:Pc Γ H X)(i:e∈X)(f:e.key*>j)(m:e.r.k.isOw=VH):Pc Γ H ({VE,e.v,{.vw (VF j) (VF []),e.r.t}}::X):=by
 have(L,g,rfl):=S;have(h,c,rfl):=JS.mp i;show{_,g.push (v:=h.e.v) (r:={.vw (VF j) (VF []),h.e.r.t}) (g.rp h c) {h,c,f,m,λa d=>.inl d,λq l=>by cases l;show⟨Xr,Xr⟩} (.inl rfl),Xr}
def Pc.copy(S:Pc Γ H X)(c:e∈X)(d:e.r.k.isOw=VG):Pc Γ H (⟨VE,e.v,e.r⟩::X):=by
 have(L,g,rfl):=S;have(h,a,rfl):=JS.mp c;show{_,g.push (v:=h.e.v) (r:=h.e.r) (F:=h.F) (g.rp h a) (g.kd h a) (.inl d),Xr}
def Pc.part(S:Pc Γ H X)(B:e∈X){c:↑Nat}{p:Option !Ac}(C:e.r.k=.vw c p){P:V->Prop}{s:T}(hp:∀F,Rp Γ.K H e.r.t e.v F->∃w G,P w/\Rp Γ.K H s w G/\∀a∈G,a∈F):∃w,P w/\Pc Γ H ({VE,w,{.vw c VE,s}}::X):=by
 have(L,g,rfl):=S;have(h,i,rfl):=JS.mp B;have(w,G,A,l,f):=hp h.F (g.rp h i);show{w,A,_,g.push (v:=w) (r:={.vw c VE,s}) (F:=G) l ?_ (.inl rfl),Xr};have k:=g.kd h i;unfold Ph at k|-;rw[C]at k;cases c with
 | none=>show λa d=>k a (f a d)
 | some j=>
  have(x,z,y,o,u,E):=k;show{x,z,y,o,λa d=>u a (f a d),λq m=>by cases m}
def Pc.partP(S:Pc Γ H X)(he:e∈X)(Q:e.r.k=.vw (VF j) (VF q))(hs:km e.r.t a*>s):∃w,at1 Γ.K H e.v a w/\Pc Γ H ({VE,w,{.vw (VF j) (VF (q++[a])),s}}::X):=by
 have(L,g,rfl):=S;have(h,J,rfl):=JS.mp he;have k:=g.kd h J;unfold Ph at k;rw[Q]at k;have(x,c,P,d,x4,O):=k;have(l,z):=O q rfl;have o:x.e.r.t.sub (q++[a])*>s:=uh l hs;have(w,A,G,B,p,U,Z,_):=(g.rp x c).atP (g.muF c d) (g.ndF c d) o;have(w0,A0,i,B0,y,u2,m,_):=(g.rp x c).atP (g.muF c d) (g.ndF c d) l;have E:=jj y z;subst E;have M:i.Nodup:=by
  have:=g.ndF c d;rw[m]at this;show(JP.mp (JP.mp this).1).2.1
 have N:∀b∈i,Mu H b:=λb f=>g.muF c d b (by rw[m];show yaL _ (yaR _ f));have(u,A',G',B',v1,v2,v3,_):=u2.at1 N M hs;have e2:=jj (sK y v1) p;subst e2;show{u,v1,_,g.push (v:=u) (r:={.vw (VF j) (VF (q++[a])),s}) (F:=G) U {x,c,P,d,λb f=>.inl (by rw[Z];show yaL _ (yaR _ f)),λq' C=>?_} (.inl rfl),Xr};cases C;show⟨o,p⟩
abbrev aN:!V->!T->!En
 | v::vs,t::a=>{VE,v,{.ow,t}}::aN vs a
 | _,_=>[]
def l6:∀{vs:!V} {ts:!T} {L:!Hd},vs.length=ts.length->L.map (·.e)=aN vs ts->(∀h∈L,Rp Γ.K H h.e.r.t h.e.v h.F)->Rps Γ.K H ts vs (L.flatMap (·.F))/\∀h∈L,h.e.r.k=.ow/\h.e.key=VE
 | [],[],L,_,h,_=>by
  have:L=[]:=List.map_eq_nil_iff.mp h;subst this;show{Rps.nil,by simp}
 | v::vs,t::ts,L,j,h,d=>by
  have(x,m,rfl,f,g):=aH h;have(l,i):=l6 (vs:=vs) (ts:=ts) (by exists j) g λy a=>d y (ymC _ a);have c:=d x ymS;rw[f]at c;rw[JW];show{Rps.cons c l,λy a=>?_};rcases ycM a with rfl|a;rw[f];show⟨Xr,Xr⟩;show i y a
 | [],_::_,_,h,_,_=>by cases h
 | _::_,[],_,h,_,_=>by cases h
def Pc.use{vs:!V}{ts:!T}(S:Pc Γ H (aN vs ts++X))(C:vs.length=ts.length):∃F,Rps Γ.K H ts vs F/\F.Nodup/\(∀a∈F,Mu H a) /\
  ∀H' v t F',Pd F H H'->(∀a∈F,∃o,H' a*>o)->F'.Nodup->(∀a∈F',(a∈F\/H a=VE)/\Mu H' a)->Rp Γ.K H' t v F'->Pc Γ H' ({VE,v,{.ow,t}}::X):=by
 have(L,g,h):=S;have(z,L2,rfl,w,B):=cC h;have(E,i):=l6 C w λy c=>g.rp y (yaL _ c);have m:∀h∈z,h.e.r.k.isOw=VH:=λh u=>by rw[(i h u).1];rfl
 have q:=g.nd;rw[JV,gY m]at q;show{_,E,(JP.mp q).1,λa s=>(g.ad a (by rw[JV,gY m];show yaL _ s)).1,λH' v t F' p f l G A=>?_};show{_,g.step m (λx _ y c j d=>by rw[(i y c).2]at d;cases d) p f (key:=VE) (v:=v) (r:={.ow,t}) l G A (.inl {Xr,λy c=>(i y c).1}) (λj d=>by cases d),by rw[JN,B]}
def Pc.mutP{vs:!V}{ts:!T}{p:!Ac}{s:T}(S:Pc Γ H (e::aN vs ts++X))(hl:vs.length=ts.length)(U:e.r.k.isOw=VH)(hr:∀g∈X,∀j,e.key*>j->g.r.k.root≠VF j)(hs:e.r.t.sub p*>s)(hX:∀j,e.key*>j->∀g∈X,g.key≠VF j) :
  ∃w G F,atP Γ.K H e.v p w/\Rp Γ.K H s w G/\Rps Γ.K H ts vs F/\(G++F).Nodup/\(∀a∈G++F,Mu H a) /\
  ∀H' P E,Pd G H H'->(∀a∈G,∃o,H' a*>o)->E.Nodup->(∀a∈E,(a∈G++F\/H a=VE)/\Mu H' a)->Rp Γ.K H' P w E->Pc Γ H' ({e.key,e.v,{e.r.k,e.r.t.put p P}}::X):=by
 have(L,g,h):=S;rw[Kn]at h;have(x,L',rfl,h1,h2):=aH h;have(c,L2,rfl,h3,h4):=cC h2;subst h1;have(r1,r2):=l6 hl h3 λy m=>g.rp y (ymC _ (yaL _ m));have J:∀h∈x::c,h.e.r.k.isOw=VH:=λh hh=>by
  rcases ycM hh with rfl|hh;show U;rw[(r2 h hh).1];rfl
 have nx:=g.ndF ymS U;have(w,A,G,B,z1,z2,z3,z4):=(g.rp x ymS).atP (g.muF ymS U) nx hs;have nd:=g.nd;rw[show x::(c++L2)=(x::c)++L2 from rfl,JV,gY J]at nd;have O:=(JP.mp nd).1;rw[JW,z3]at O;have mu:∀a∈(x::c).flatMap (·.F),Mu H a:=λa d=>(g.ad a (by rw[show x::(c++L2)=(x::c)++L2 from rfl,JV,gY J];show yaL _ d)).1;have C:∀a,a∈G++c.flatMap (·.F)->a∈(x::c).flatMap (·.F):=λa d=>by
  rw[JW,z3];rcases yaM d with z|z;show yaL _ (yaL _ (yaR _ z));show yaR _ z
 have f:=(JP.mp O);have ndG:(G++c.flatMap (·.F)).Nodup:=JP.mpr {(JP.mp (JP.mp f.1).1).2.1,f.2.1,λa d b M=>f.2.2 a (yaL _ (yaR _ d)) b M};show{w,G,c.flatMap (·.F),z1,z2,r1,ndG,λa d=>mu a (C a d),λH' P E l dom nd' hG rp=>?_};have u:∀a,(a∈A\/a∈B)->a∉G++c.flatMap (·.F):=λa d i=>by
  rcases yaM i with z|z
  .rcases d with q|q;show(JP.mp (JP.mp f.1).1).2.2 a q a z rfl;show(JP.mp f.1).2.2 a (yaR _ z) a q rfl
  .rcases d with q|q;show f.2.2 a (yaL _ (yaL _ q)) a z rfl;show f.2.2 a (yaR _ q) a z rfl
 have rp':=z4 H' P E l rp;show{_,g.step (hs:=x::c) (L:=L2) J (λy m z hz j Z=>?_) (l.mono λa d=>C a (yaL _ d)) (λa d=>?_) (key:=x.e.key) (v:=x.e.v) (r:={x.e.r.k,x.e.r.t.put p P}) (F:=A++E++B) ?_ (λa d=>?_) rp' ?_ (λj Z i=>?_),by rw[JN,h4]}
 .rcases ycM hz with rfl|hz;show hr y.e (by rw[<-h4];show Kv m) j Z;rw[(r2 z hz).2]at Z;cases Z
 .by_cases i:a∈G;show dom a i
  .have(o,N,_):=mu a d;show{o,l a o N i}
 .have ab:=JP.mp f.1;have aG:=JP.mp ab.1;have nG:∀a,(a∈A\/a∈B)->a∉E:=λa d hg=>by
   rcases(hG a hg).1 with z|z;show u a d z
   .have:Mu H a:=mu a (by
     rw[JW,z3];rcases d with q|q;show yaL _ (yaL _ (yaL _ q));show yaL _ (yaR _ q))
    have(o,N,_):=this;rw[z]at N;cases N
  show JP.mpr {JP.mpr {aG.1,nd',λa d b M e=>nG a (.inl d) (e▸M)},ab.2.1,λa d b M e=>?_};subst e;rcases yaM d with z|z;show ab.2.2 a (yaL _ z) a M rfl;show nG a (.inr M) z
 .have Q:a∈A\/a∈B->(a∈(x::c).flatMap (·.F)\/H a=VE)/\Mu H' a:=λq=>by
   have i:a∈(x::c).flatMap (·.F):=by
    rw[JW,z3];rcases q with q|q;show yaL _ (yaL _ (yaL _ q));show yaL _ (yaR _ q)
   have(o,N,m1):=mu a i;show{.inl i,o,l a o N (λz=>u a q (yaL _ z)),m1}
  rcases yaM d with z|z
  .rcases yaM z with z|z;show Q (.inl z);show{(hG a z).1.imp (C a) id,(hG a z).2}
  .show Q (.inr z)
 .have k:=g.kd x ymS;unfold Ph at k;cases ek:x.e.r.k with
  | ow=>
   show .inl {Xr,λy m=>?_};rcases ycM m with rfl|m;show ek;show(r2 y m).1
  | io n=>rw[ek]at k;show .inr ⟨n,Xr,k⟩
  | vw a b=>rw[ek]at U;cases U
 .have(y,m,hyk):=KB.mp i;show hX j Z y.e (by rw[<-h4];show Kv m) hyk
end
protected def Rho:=! ↑R
abbrev aF:Nat->! ↑V->Rho->!En
 | i,VF v::Z,VF r::O=>{VF i,v,r}::aF (i+1) Z O
 | i,VE::Z,_::O=>aF (i+1) Z O
 | i,VF _::Z,VE::O=>aF (i+1) Z O
 | _,_,_=>[]
def bE{r:R}:∀{k:Nat} {Z:! ↑V} {O:Rho} {i:Nat} {v:V},Z[i]?*>(VF v)->O[i]?*>(VF r)->(aF k Z O).Perm ({VF (k+i),v,r}::aF k Z (O.set i VE))
 | _,[],_,_,_,h,_=>by simp at h
 | _,_::_,[],_,_,_,h=>by simp at h
 | k,x::Z,y::O,0,v,c,a=>by
  simp at c a;subst c a;simp[aF]
 | k,x::Z,y::O,i+1,v,c,a=>by
  have d:=bE (k:=k+1) (Z:=Z) (O:=O) (i:=i) (v:=v) (r:=r) (by exists c) (by exists a);rw[show k+1+i=k+(i+1) by omega]at d;cases x with
  | none=>simpa[aF]using d
  | some x=>
   cases y with
   | none=>simpa[aF]using d
   | some y=>
    dsimp[aF,Np];show(List.Perm.cons _ d).trans (List.Perm.swap _ _ _)
def jU:∀{k:Nat} {Z:! ↑V} {O:Rho} {i:Nat} {x:↑V},aF k (Z.set i x) (O.set i VE)=aF k Z (O.set i VE)
 | _,[],O,_,_=>rfl
 | _,x::Z,[],i,y=>by cases i<;>cases x<;>simp[aF]<;>cases y<;>simp[aF]
 | _,x::Z,y::O,0,z=>by cases x<;>cases z<;>simp[aF]
 | k,x::Z,y::O,i+1,z=>by
  have a:=jU (k:=k+1) (Z:=Z) (O:=O) (i:=i) (x:=z);cases x<;>cases y<;>simp[aF,a]
def gP{k:Nat}{Z:! ↑V}{O:Rho}{i:Nat}{v:V}{r:R}(c:i<Z.length)(a:i < O.length):(aF k (Z.set i (VF v)) (O.set i (VF r))).Perm ({VF (k+i),v,r}::aF k Z (O.set i VE)):=by
 have:=bE (k:=k) (Z:=Z.set i (VF v)) (O:=O.set i (VF r)) (i:=i) (v:=v) (r:=r) (by simp[c]) (by simp[a]);rw[List.set_set,jU]at this;show this
def dk{e:En}:∀{k:Nat} {Z:! ↑V} {O:Rho},e∈aF k Z O->∃i,e.key*>(k+i)/\O[i]?*>(VF e.r)/\Z[i]?*>(VF e.v)
 | _,[],_,h=>by simp[aF]at h
 | _,x::_,[],h=>by cases x<;>simp[aF]at h
 | k,x::Z,y::O,h=>by
  have a:e∈aF (k+1) Z O->∃i,e.key*>(k+i)/\(y::O)[i]?*>(VF e.r)/\(x::Z)[i]?*>(VF e.v):=λh=>by
   have(i,d,c,f):=dk h;show{i+1,by rw[d];congr 1;omega,by simpa using c,by simpa using f}
  cases x with
  | none=>dsimp[aF]at h;show a h
  | some x=>
   cases y with
   | none=>dsimp[aF]at h;show a h
   | some y=>
    dsimp[aF]at h;rcases ycM h with rfl|h;show{0,Xr,Xr,Xr};show a h
abbrev dD(M:!Nat) (r:R):Bool:=match r.k.root with
 | some j=> ~~~M.contains j
 | none=>VH
abbrev cF(M:!Nat):↑R->↑R
 | some r=>if dD M r=VH then VF r else VE
 | none=>VE
abbrev au(M:!Nat) (O:Rho):Rho:=O.map (cF M)
def aO(M:!Nat)(O:Rho):(au M O).length=O.length:=by unfold au;rw[JK]
def fK(M:!Nat):∀{k:Nat} {Z:! ↑V} {O:Rho},aF k Z (au M O)=ah M (aF k Z O)
 | _,[],_=>rfl
 | _,x::_,[]=>by cases x<;>rfl
 | k,x::Z,y::O=>by
  have a:=fK M (k:=k+1) (Z:=Z) (O:=O);have e:au M (y::O)=cF M y::au M O:=rfl;rw[e];cases x with
  | none=>simpa[aF]using a
  | some v=>
   cases y with
   | none=>simpa[aF,cF]using a
   | some r=>
    have c:aD M {VF k,v,r}=dD M r:=rfl;cases q:dD M r with
    | true=>dsimp[aF,cF,q,if_true,ah,KN,c,a]
    | false=>
     dsimp[aF,cF,q,ah,KN,c,a];simp[aF,a,ah]
def mX{M:!Nat}{O:Rho}{i:Nat}{r:R}(h:(au M O)[i]?*>(VF r)) : O[i]?*>(VF r):=by
 unfold au at h;rw[JR]at h;cases q : O[i]? with
 | none=>rw[q]at h;cases h
 | some o=>
  rw[q]at h;cases o with
  | none=>cases h
  | some x=>
   have a:cF M (VF x)*>r:=by exists h
   dsimp[cF]at a;split at a;rw[Ke.inj a];show absurd a ∅
def uS{M:!Nat}{O:Rho}{i:Nat}{r:R}(h : O[i]?*>(VF r))(c:r.k.isOw=VH):(au M O)[i]?*>(VF r):=by
 unfold au;rw[JR,h];have:dD M r=VH:=by
  unfold dD;cases e:r.k with
  | vw a b=>rw[e]at c;cases c
  | ow=>rfl
  | io _=>rfl
 simp[cF,this]
structure Sim(Γ:Gm)(H:Hp)(O:Rho)(Z:St)(E:!En):Prop where
 sl:Pc Γ H (E++aF 0 Z O)
 al:∀(i:Nat) r,O[i]?*>(VF r)->∃v,Z[i]?*>(VF v)
 len:Z.length=O.length
 hi:∀e∈E,∀j,e.key*>j->O.length<=j
section
variable {Γ:Gm}{H H':Hp}{O:Rho}{Z:St}{E E':!En}{e:En}{r:R}{v w x:V}{i j:Nat}{t s:T}
def Sim.perm(S:Sim Γ H O Z E)(p:E.Perm E'):Sim Γ H O Z E':={S.sl.perm (p.append_right _),S.al,S.len,λe a=>S.hi e (p.mem_iff.mpr a)}
def Sim.drop(S:Sim Γ H O Z (e::E))(c:e.key=VE):Sim Γ H O Z E:={S.sl.drop c,S.al,S.len,λx a=>S.hi x (ymC _ a)}
def Sim.swap(S:Sim Γ H O Z (e::f::E)):Sim Γ H O Z (f::e::E):=S.perm (List.Perm.swap _ _ _)
def Sim.imm(S:Sim Γ H O Z E){i:I}(h:RpI Γ.K H i v):Sim Γ H O Z ({VE,v,{.ow,.im i}}::E):=
 {S.sl.push h,S.al,S.len,λx a j c=>by
  rcases ycM a with rfl|a;cases c;show S.hi x a j c}
def Sim.rd(S:Sim Γ H O Z E)(a:e∈E):∃F,Rp Γ.K H e.r.t e.v F:=S.sl.rd (yaL _ a)
def Sim.slot(S:Sim Γ H O Z E)(h : O[i]?*>(VF r)):∃v,Z[i]?*>(VF v)/\({VF i,v,r}:En)∈E++aF 0 Z O:=by
 have(v,a):=S.al i r h;show{v,a,yaR _ ((bE a h).mem_iff.mpr ?_)};rw[KP];show ymS
abbrev rdR(i:Nat):R->R
 | ⟨.ow,.im x⟩=>{.ow,.im x}
 | ⟨.vw a b,t⟩=>{.vw a b,t}
 | ⟨_,t⟩=>{.vw (VF i) (VF []),t}
def Sim.cons(S:Sim Γ H O Z E)(h:Pc Γ H' (⟨VE,v,r⟩::(E++aF 0 Z O))):Sim Γ H' O Z (⟨VE,v,r⟩::E):=
 {h,S.al,S.len,λx a j c=>by
  rcases ycM a with rfl|a;cases c;show S.hi x a j c}
def Sim.var(S:Sim Γ H O Z E)(h : O[i]?*>(VF r)):∃v,Z[i]?*>(VF v)/\Sim Γ H O Z ({VE,v,rdR i r}::E):=by
 have(v,d,c):=S.slot h;show{v,d,S.cons ?_};have(k,t):=r;cases k with
 | vw a b=>show S.sl.copy (e:={VF i,v,{.vw a b,t}}) c rfl
 | io n=>
  have:=S.sl.view (e:={VF i,v,{.io n,t}}) c rfl rfl;cases t<;>show this
 | ow=>
  cases t with
  | im x=>
   have(F,f):=S.sl.rd c;show S.sl.push (aV f).1
  | tup _=>show S.sl.view (e:={VF i,v,{.ow,_}}) c rfl rfl
  | li _=>show S.sl.view (e:={VF i,v,{.ow,_}}) c rfl rfl
  | lst _=>show S.sl.view (e:={VF i,v,{.ow,_}}) c rfl rfl
  | di _=>show S.sl.view (e:={VF i,v,{.ow,_}}) c rfl rfl
  | dc _=>show S.sl.view (e:={VF i,v,{.ow,_}}) c rfl rfl
  | ins _ _=>show S.sl.view (e:={VF i,v,{.ow,_}}) c rfl rfl
def Sim.kill(S:Sim Γ H O Z E)(M:!Nat):Sim Γ H (au M O) Z (ah M E):=by
 show{?_,λi r h=>S.al i r (mX h),by rw[aO];show S.len,λx a j c=>by rw[aO];show S.hi x (JX.mp a).1 j c};rw[fK,<-aL];show S.sl.kill M
def lL{M:!Nat}{X:!En}(a:i∈M):∀g∈ah M X,g.r.k.root≠VF i:=λg c z=>by
 have:=(JX.mp c).2;unfold aD at this;rw[z]at this;simp[a]at this
def Sim.out(S:Sim Γ H O Z E)(h : O[i]?*>(VF r))(A:r.k.isOw=VH):∃v,Z[i]?*>(VF v)/\Pc Γ H ({VF i,v,r}::(ah [i] E++aF 0 Z ((au [i] O).set i VE))) /\
  (∀g∈ah [i] E++aF 0 Z ((au [i] O).set i VE),g.r.k.root≠VF i)/\∀g∈ah [i] E++aF 0 Z ((au [i] O).set i VE),g.key≠VF i:=by
 have(v,q):=S.al i r h;have o:=S.kill [i];have u:=uS (M:=[i]) h A;have c:i < O.length:=(JJ.mp h).1;show{v,q,o.sl.perm ?_,λg f=>?_,λg f l=>?_}
 .have:=(bE (k:=0) q u).append_left (ah [i] E);rw[KP]at this;show this.trans Kz
 .rcases yaM f with z|z;show lL ∅ g z
  .have:g∈aF 0 Z (au [i] O):=by
    have(m,d,a,p):=dk z;have y:m≠i:=λe=>by subst e;simp[aO,c]at a
    rw[J4 (Ot y)]at a;have:=(bE (k:=0) p a).mem_iff.mpr (ymS);have e:g={VF (0+m),g.v,g.r}:=by cases g;dsimp[En.mk.injEq,and_self,and_true];show d
    rw[e];show this
   rw[fK]at this;show lL ∅ g this
 .rcases yaM f with z|z
  .have:=o.hi g z i l;rw[aO]at this;omega
  .have(m,d,a,p):=dk z;rw[l,KP]at d;cases d;simp[aO,c]at a
def Sim.back(S:Sim Γ H O Z E){a:Rho}{c:St}(h:Pc Γ H' (E'++aF 0 c a))(f : a.length=O.length)(g:c.length=Z.length)(k:∀(i:Nat) r,a[i]?*>(VF r)->∃v,c[i]?*>(VF v))(m:∀e∈E',∀j,e.key*>j->e∈E):Sim Γ H' a c E':=
 {h,k,by rw[f,g];show S.len,λe l j d=>by rw[f];show S.hi e (m e l j d) j d}
abbrev dn(O:Rho) (i:Nat):Bool:=match O[i]? with
 | some (VF ⟨.io _,_⟩)=>VG
 | some _=>VH
 | none=>VG
def Dn{O:Rho}{Z:St}(g:∀(i:Nat) r,O[i]?*>(VF r)->∃v,Z[i]?*>(VF v))(f:i<Z.length):∀(m:Nat) a,(O.set i (VF r))[m]?*>(VF a)->∃d,(Z.set i (VF v))[m]?*>(VF d):=λm a c=>by
 by_cases e:m=i;subst e;show{v,by simp[f]};rw[J4 (Ot e)]at c|-;show g m a c
def Sim.put(S:Sim Γ H O Z (⟨VE,v,r⟩::E))(J:dn O i=VH)(hr:r.k.root≠VF i):Sim Γ H ((au [i] O).set i (VF r)) (Z.set i (VF v)) (ah [i] E):=by
 have d:i < O.length:=by
  unfold dn at J;cases q : O[i]? with
  | none=>rw[q]at J;cases J
  | some o=>show(JJ.mp q).1
 have C:i<Z.length:=by rw[S.len];show d
 have u:aD [i] ⟨VE,v,r⟩=VH:=by
  unfold aD;split
  .delta j h;have:j≠i:=λz=>hr (z▸h);simp[this]
  .rfl
 have M:ah [i] (⟨VE,v,r⟩::E)=⟨VE,v,r⟩::ah [i] E:=by unfold ah;rw[KN,if_pos u]
 have l:=S.kill [i];rw[M]at l;have N:Pc Γ H (⟨VE,v,r⟩::(ah [i] E++aF 0 Z ((au [i] O).set i VE)))/\∀g∈ah [i] E++aF 0 Z ((au [i] O).set i VE),g.key≠VF i:=by
  cases q:(au [i] O)[i]? with
  | none=>rw[List.getElem?_eq_none_iff,aO]at q;omega
  | some o=>
   cases o with
   | none=>
    have e:(au [i] O).set i VE=au [i] O:=by
     apply Ly;intro m;by_cases G:m=i;subst G;rw[q];simp[aO,d];rw[J4 (Ot G)]
    rw[e];show{l.sl,λg f y=>?_};rcases yaM f with z|z
    .have:=l.hi g (ymC _ z) i y;rw[aO]at this;omega
    .obtain⟨m,a,c,K⟩:=dk z;rw[y,KP]at a;cases a;rw[q]at c;cases c
   | some Q=>
    have P:=mX q;by_cases Y:Q.k.isOw=VH
    .obtain⟨v0,A,a,U,c⟩:=S.out P Y;rw[M]at a U c;show{a.dropK λg f j h=>by cases h;show U g f,λg f=>c g (ymC _ f)}
    .obtain⟨v0,A⟩:=S.al i Q P;have p:=(bE (k:=0) A q).append_left (⟨VE,v,r⟩::ah [i] E);rw[KP]at p;have a:=l.sl.perm (p.trans Kz);show{a.dropK λg f j h=>?_,λg f y=>?_}
     .cases (h);have B:g∈ah [i] (⟨VE,v,r⟩::E)++ah [i] (aF 0 Z O):=by
       rw[M,<-fK];rcases yaM f with z|z;show yaL _ z
       .show yaR _ ?_;obtain⟨m,a,c,K⟩:=dk z;have G:m≠i:=λe=>by subst e;simp[aO,d]at c
        rw[J4 (Ot G)]at c;have:=(bE (k:=0) K c).mem_iff.mpr (ymS);have e:g={VF (0+m),g.v,g.r}:=by cases (g);dsimp[En.mk.injEq,and_self,and_true];show a
        rw[e];show this
      rw[<-aL]at B;show lL ∅ g B
     .rcases yaM f with z|z
      .have:=l.hi g (ymC _ z) i y;rw[aO]at this;omega
      .obtain⟨m,a,c,K⟩:=dk z;rw[y,KP]at a;cases a;simp[aO,d]at c
 obtain⟨N,L⟩:=N;have X:=N.rekey (e:=⟨VE,v,r⟩) rfl (key:=VF i) λj h g f=>by cases h;show L g f
 show l.back (X.perm ?_) (by simp[aO]) ∅ (Dn l.al C) (λe he j h=>ymC _ he);have p:=(gP (k:=0) (Z:=Z) (O:=au [i] O) (v:=v) (r:=r) C (by rw[aO];show d)).append_left (ah [i] E);rw[KP]at p;show(Kz.symm).trans p.symm
def Sim.mut{vs:!V}{ts:!T}{p:!Ac}{k:Kd}(S:Sim Γ H O Z (aN vs ts++{VE,w,{.vw (VF i) (VF p),s}}::E))(hl:vs.length=ts.length)(h : O[i]?*>(VF ⟨k,t⟩))(ho:k.isOw=VH) :
  ∃G F,Rp Γ.K H s w G/\Rps Γ.K H ts vs F/\(G++F).Nodup/\(∀a∈G++F,Mu H a) /\
  ∀H' C M,Pd G H H'->(∀a∈G,∃o,H' a*>o)->M.Nodup->(∀a∈M,(a∈G++F\/H a=VE)/\Mu H' a)->Rp Γ.K H' C w M->Sim Γ H' ((au [i] O).set i (VF {k,t.put p C})) Z (ah [i] E):=by
 have u:i < O.length:=(JJ.mp h).1;have(v0,l,f):=S.slot h;have pl:t.sub p*>s/\atP Γ.K H v0 p w:=by
  have(L,g,e):=S.sl;have:({VE,w,{.vw (VF i) (VF p),s}}:En)∈L.map (·.e):=by rw[e];simp
  have(y,hy,ey):=JS.mp this;have U:=g.kd y hy;unfold Ph at U;rw[ey]at U;have(x,x1,x2,x3,x4,x5):=U;have hm':({VF i,v0,⟨k,t⟩}:En)∈L.map (·.e):=by rw[e];show f
  have(z,d,Q):=JS.mp hm';have:x=z:=by
   have nk:=g.ks;by_cases q:x=z;show q
   .exfalso;have(A,B,rfl):=LY x1;rw[Kj,Kf,x2]at nk;rcases yaM d with d|d;show(JP.mp nk).2.2 i (KB.mpr {z,d,by rw[Q]}) i ymS rfl
    .rcases ycM d with d|d;show q d.symm;show(Ks.mp (JP.mp nk).2.1).1 (KB.mpr {z,d,by rw[Q]})
  subst this;have:=x5 p rfl;rw[Q]at this;show this
 have(v1,J,Y,h2,h3):=S.out h ho;rw[l]at J;cases J;have c:∀{vs:!V} {ts:!T},ah [i] (aN vs ts)=aN vs ts:=by
  intro vs
  induction vs with
  | nil=>intro ts;rfl
  | cons v vs ih=>
   intro ts;cases ts with
   | nil=>rfl
   | cons t ts=>change List.filter _ _=_;rw[aN,KN,if_pos (show aD [i] {VE,v,{.ow,t}}=VH from rfl)];show congrArg _ ih
 have kv:aD [i] {VE,w,{.vw (VF i) (VF p),s}}=VG:=by unfold aD;simp[Kd.root]
 have ek:ah [i] (aN vs ts++{VE,w,{.vw (VF i) (VF p),s}}::E)=aN vs ts++ah [i] E:=by
  rw[aL,c];unfold ah;rw[KN,if_neg (by rw[kv];simp)]
 rw[ek]at Y h2 h3;rw[Ka]at Y h2 h3;have(w',G,F,m1,m2,m3,m4,m5,m6):=Pc.mutP (e:={VF i,v0,⟨k,t⟩}) (X:=ah [i] E++aF 0 Z ((au [i] O).set i VE)) (by rw[Kn];show Y) hl ho (λg hg j N=>by cases N;show h2 g (yaR _ hg)) pl.1 (λj N g hg=>by cases N;show h3 g (yaR _ hg));have ew:=jj m1 pl.2;subst ew;show{G,F,m2,m3,m4,m5,λH' C M off P nd hG rp=>?_};have S5:=m6 H' C M off P nd hG rp;have S2:=S.kill [i];show S2.back (S5.perm ?_) (by simp[aO]) rfl (λm r' f=>?_) (λe he j N=>by rw[ek];show yaR _ he)
 .have p:=(gP (k:=0) (Z:=Z) (O:=au [i] O) (v:=v0) (r:={k,t.put p C}) (by rw[S.len];show u) (by rw[aO];show u)).append_left (ah [i] E);rw[KP]at p;have eZ:Z.set i (VF v0)=Z:=by
   apply Ly;intro m;by_cases f:m=i;subst f;rw[l];simp[S.len,u];rw[J4 (Ot f)]
  rw[eZ]at p;show(Kz.symm).trans p.symm
 .by_cases e:m=i;subst e;show⟨v0,l⟩;rw[J4 (Ot e)]at f;show S2.al m r' f
def Sim.move(S:Sim Γ H O Z ({VE,w,{.vw (VF i) (VF []),s}}::E))(h : O[i]?*>(⇑t)):Sim Γ H ((au [i] O).set i VE) Z ({VE,w,{.ow,s}}::ah [i] E):=by
 have J:i < O.length:=(JJ.mp h).1;have(v0,C,p):=S.slot h;have pl:s=t/\w=v0:=by
  have(L,g,e):=S.sl;have:({VE,w,{.vw (VF i) (VF []),s}}:En)∈L.map (·.e):=by rw[e];simp
  have(y,d,ey):=JS.mp this;have G:=g.kd y d;unfold Ph at G;rw[ey]at G;have(x,x1,x2,x3,x4,x5):=G;have K:({VF i,v0,{.ow,t}}:En)∈L.map (·.e):=by rw[e];show p
  have(z,c,u):=JS.mp K;have:x=z:=by
   have M:=g.ks;by_cases q:x=z;show q
   .exfalso;have(A,B,rfl):=LY x1;rw[Kj,Kf,x2]at M;rcases yaM c with c|c;show(JP.mp M).2.2 i (KB.mpr {z,c,by rw[u]}) i ymS rfl
    .rcases ycM c with c|c;show q c.symm;show(Ks.mp (JP.mp M).2.1).1 (KB.mpr {z,c,by rw[u]})
  subst this;have:=x5 [] rfl;rw[u]at this;have(U,q2):=this;rw[T.sub]at U;cases U;show⟨Xr,q2⟩
 have(rfl,rfl):=pl;have(v1,o,P,X,h3):=S.out h rfl;rw[C]at o;cases o;have kv:aD [i] {VE,w,{.vw (VF i) (VF []),s}}=VG:=by unfold aD;simp[Kd.root]
 have Y:ah [i] ({VE,w,{.vw (VF i) (VF []),s}}::E)=ah [i] E:=by
  unfold ah;rw[KN,if_neg (by rw[kv];simp)]
 rw[Y]at P X h3;have Q:=S.kill [i];show Q.back (E':={VE,w,{.ow,s}}::ah [i] E) ?_ (by simp[aO]) rfl (λm r' p=>?_) (λe N j l=>?_)
 .have(L,g,e):=P;have(x,L',rfl,k,e2):=aH e;have:=g.step (hs:=[x]) (L:=L') (H':=H) (λy d=>by rw[ysM d,k];rfl) (λy d z c j l=>by
   rw[ysM c,k]at l;cases l;show X y.e (by rw[<-e2];show Kv d)) (Pd.refl _ _) (λa f=>by
    have(y,d,f):=KU.mp f;rw[ysM d]at f;show(g.rp x ymS).dom a f) (key:=VE) (v:=w) (r:={.ow,s}) (F:=x.F) (g.ndF ymS (by rw[k];rfl)) (λa f=>{.inl (by exists f),g.muF ymS (by rw[k];rfl) a f})
    (by have:=g.rp x ymS;rw[k]at this;show this) (.inl {Xr,λy d=>by rw[ysM d,k]}) (λj l=>by cases l)
  show{_,this,by rw[JN,e2];rfl}
 .by_cases e:m=i;subst e;simp[aO,J]at p;rw[J4 (Ot e)]at p;show Q.al m r' p
 .rcases ycM N with rfl|N;cases l;rw[Y];show N
def Sim.use(S:Sim Γ H O Z (aN vs ts++E))(m:vs.length=ts.length):∃F,Rps Γ.K H ts vs F/\F.Nodup/\(∀a∈F,Mu H a) /\
  ∀H' v t F',Pd F H H'->(∀a∈F,∃o,H' a*>o)->F'.Nodup->(∀a∈F',(a∈F\/H a=VE)/\Mu H' a)->Rp Γ.K H' t v F'->Sim Γ H' O Z ({VE,v,{.ow,t}}::E):=by
 have h:=S.sl;rw[Ka]at h;have(F,p,k,l,q):=h.use m;show{F,p,k,l,λH' v t F' a b c d e=>?_};show{q H' v t F' a b c d e,S.al,S.len,λx f j g=>by
  rcases ycM f with rfl|f;cases g;show S.hi x (yaR _ f) j g}
def Sim.part(S:Sim Γ H O Z E)(h:e∈E){c:↑Nat}{p:Option !Ac}(g:e.r.k=.vw c p){P:V->Prop}(hp:∀F,Rp Γ.K H e.r.t e.v F->∃w G,P w/\Rp Γ.K H s w G/\∀a∈G,a∈F):∃w,P w/\Sim Γ H O Z ({VE,w,{.vw c VE,s}}::E):=by
 have(w,f,d):=S.sl.part (yaL _ h) g hp;show{w,f,S.cons d}
def Sim.partP(S:Sim Γ H O Z E)(f:e∈E)(g:e.r.k=.vw (VF j) (VF q))(hs:km e.r.t a*>s):∃w,at1 Γ.K H e.v a w/\Sim Γ H O Z ({VE,w,{.vw (VF j) (VF (q++[a])),s}}::E):=by
 have(w,d,c):=S.sl.partP (yaL _ f) g hs;show{w,d,S.cons c}
end
structure ME where
 run:Rho->↑(R×Rho)
 mu:!Nat
structure MT where
 run:Rho->↑(Bool×Rho)
 mu:!Nat
structure MA where
 run:Rho->↑(!R×Rho)
 mu:!Nat
inductive Fl where
 | nx|rt (t:T)|bk|ct
structure MS where
 run:Rho->↑(Fl×Rho)
 mu:!Nat
structure MG where
 run:R->Rho->↑Rho
 mu:!Nat
structure MGs where
 run:!R->Rho->↑Rho
 mu:!Nat
abbrev ens:!V->!R->!En
 | v::vs,r::a=>⟨VE,v,r⟩::ens vs a
 | _,_=>[]
abbrev az(M:!Nat) (r:R):Bool:=dD M r
def bj(h:az M r=VH):aD M ⟨VE,v,r⟩=VH:=h
def ax(h:aD M e=VH):ah M (e::E)=e::ah M E:=by unfold ah;rw[KN,if_pos h]
def jY:∀{vs:!V} {rs:!R},rs.all (az M)=VH->ah M (ens vs rs)=ens vs rs
 | [],_,_=>by cases ‹!R›<;>rfl
 | _::_,[],_=>rfl
 | v::vs,r::rs,h=>by
  rw[Lj,JL]at h;rw[ens,ax (bj h.1),jY h.2]
def Sim.weak(S:Sim Γ H O Z E)(M:!Nat):Sim Γ H O Z (ah M E):=by
 show{?_,S.al,S.len,λe l=>S.hi e (JX.mp l).1};have(L,g,h):=S.sl;have(A,B,rfl,i,d):=cC h;show{A.filter (λx=>aD M x.e)++B,g.sub (KM.append (List.Sublist.refl _)) λx p j o y f m c=>?_,?_}
 .rcases yaM f with z|z
  .show yaL _ (JX.mpr {z,?_});unfold aD;cases e:y.e.r.k with
   | vw a b=>rw[e]at c;cases c
   | ow=>rfl
   | io _=>rfl
  .show yaR _ z
 .rw[JZ,d,<-i];unfold ah;rw[LJ];rfl
abbrev be(K:yF)(e:TE)(m:ME):Prop:=∀(a:Gm) (H:Hp) (O:Rho) (Z:St) (E:!En) (Q:VK) (r:R) (c:Rho),a.K=K->m.run O*>(r,c)->Sim a H O Z E->(∀v d,Sim a d c Z (⟨VE,v,r⟩::ah m.mu E)->Q v d)->e Z H Q
abbrev fo(K:yF)(e:TT)(m:MT):Prop:=∀(a:Gm) (H:Hp) (O:Rho) (Z:St) (E:!En) (Q:Bool->Hp->Prop) (b:Bool) (c:Rho),a.K=K->m.run O*>(b,c)->Sim a H O Z E->(∀d,Sim a d c Z (ah m.mu E)->Q b d)->e Z H Q
abbrev fH(K:yF)(f:TA)(m:MA):Prop:=∀(a:Gm) (H:Hp) (O:Rho) (Z:St) (E:!En) (Q:!V->Hp->Prop) (c:!R) (d:Rho),a.K=K->m.run O*>(c,d)->Sim a H O Z E->(∀vs e,vs.length=c.length->Sim a e d Z (ens vs c++ah m.mu E)->Q vs e)->f Z H Q
abbrev Pu(d:Gm)(e:Rho)(E:!En)(D:Pw):Fl->Prop
 | .nx=>∀c a,Sim d a e c E->D.nx c a
 | .bk=>∀c a,Sim d a e c E->D.bk c a
 | .ct=>∀c a,Sim d a e c E->D.ct c a
 | .rt t=>∀v c a,Sim d a e c [{VE,v,{.ow,t}}]->D.rt v a
abbrev cD(K:yF)(ts:TS)(m:MS):Prop:=∀(a:Gm) (H:Hp) (O:Rho) (Z:St) (E:!En) (D:Pw) (f:Fl) (c:Rho),a.K=K->(∀e∈E,e.key=VE)->m.run O*>(f,c)->Sim a H O Z E->Pu a c (ah m.mu E) D f->ts D Z H
abbrev jg(K:yF)(g:TG)(m:MG):Prop:=∀(a:Gm) (H:Hp) (O:Rho) (Z:St) (E:!En) (Q:St->Hp->Prop) (v:V) (r:R) (c:Rho),a.K=K->m.run r O*>c->Sim a H O Z (⟨VE,v,r⟩::E)->(∀e d,Sim a d c e (ah m.mu E)->Q e d)->g v Z H Q
abbrev mI(K:yF)(g:TGs)(m:MGs):Prop:=∀(a:Gm) (H:Hp) (O:Rho) (Z:St) (E:!En) (Q:St->Hp->Prop) (vs:!V) (c:!R) (d:Rho),a.K=K->m.run c O*>d->vs.length=c.length->Sim a H O Z (ens vs c++E)->(∀f e,Sim a e d f (ah m.mu E)->Q f e)->g vs Z H Q
abbrev GA(X:Cx)(st:!Stmt)(m:MS):Prop:=∃a,PSs X st a/\cD X.K a m
section
variable {K:yF}{X:Cx}
private def mC(i:I):ME:={λO=>VF ({.ow,.im i},O),[]}
private def ae(i:Nat):ME:={λO=>match O[i]? with
 | some (VF r)=>VF (rdR i r,O)
 | _=>VE,[]}
def qk(h:i.sc*>v):be K (tC v) (mC i):=by unhygienic
 intro c H O Z E Q r e d a S q;cases a;show q v H (by rw[show(mC i).mu=[]from rfl,cB];show S.imm (kI h))
def BX:be K (Cb i) (ae i):=by unhygienic
 intro g H O Z E Q r j h a S q;dsimp[ae]at a;ext a f c;cases a;have(v,e,d):=S.var c;show{v,e,q v H (by rw[show(ae i).mu=[]from rfl,cB];show d)}
private def mNil:MA:={λO=>VF ([],O),[]}
private def aa(m:ME)(a:MA):MA:={λO=>match m.run O with
 | some (r,e)=>match a.run e with
  | some (c,d)=>if az a.mu r=VH then VF (r::c,d)else VE
  | none=>VE
 | none=>VE,m.mu++a.mu}
def BN:fH K FO mNil:=by unhygienic
 intro c H O Z E Q f e d a S q;cases a;show q [] H rfl (by rw[show mNil.mu=[]from rfl,cB];show S)
def Ar{v:V}{r:R}{E:!En}:∀{vs:!V} {rs:!R},(ens vs rs++⟨VE,v,r⟩::E).Perm (⟨VE,v,r⟩::(ens vs rs++E)):=Kz
def y3(p:be K te m)(h:fH K ta ms):fH K (qB te ta) (aa m ms):=by unhygienic
 intro d H O Z E Q w u g a S q;dsimp[aa]at a;ext a r e l;ext a c x s;ext a t;cases a;show p d H O Z E _ r e g l S λv j o=>?_;show h d j e Z _ _ c _ g s o λvs i k f=>q (v::vs) i (by rw[JY,JY,k]) ?_;rw[ax (bj t),af]at f;show f.perm Ar
private def mNext:MS:={λO=>VF (.nx,O),[]}
private def aq(a b:MS):MS:={λO=>match a.run O with
 | some (.nx,c)=>b.run c
 | some (.rt t,c)=>VF (.rt t,c)
 | some (.bk,c)=>VF (.bk,c)
 | some (.ct,c)=>VF (.ct,c)
 | none=>VE,a.mu++b.mu}
private def mIf(c:MT)(a b:MS):MS:={λO=>match c.run O with
 | some (VH,d)=>a.run d
 | some (VG,d)=>b.run d
 | none=>VE,c.mu++(a.mu++b.mu)}
private def bD(e:ME):MS:={λO=>match e.run O with
 | some (_,a)=>VF (.nx,a)
 | none=>VE,e.mu}
private def aC(e:ME)(g:MG):MS:={λO=>match e.run O with
 | some (r,c)=>match g.run r c with
  | some a=>VF (.nx,a)
  | none=>VE
 | none=>VE,e.mu++g.mu}
private def vE:R->Rho->↑(T×Rho)
 | ⟨.ow,t⟩,O=>VF (t,O)
 | ⟨.vw (VF i) (VF []),t⟩,O=>match O[i]? with
  | some (⇑_)=>VF (t,(au [i] O).set i VE)
  | _=>VE
 | _,_=>VE
private def bh(e:ME):MS:={λO=>match e.run O with
 | some (r,c)=>match vE r c with
  | some (t,a)=>VF (.rt t,a)
  | none=>VE
 | none=>VE,e.mu}
def Pu.weak{d:Gm}{e:Rho}{E:!En}{D:Pw}{f:Fl}{M N:!Nat}(h:Pu d e (ah (M++N) E) D f):Pu d e (ah M E) D f:=by
 cases f with
 | rt t=>show h
 | nx=>show λc a S=>h c a (by rw[<-af];show S.weak N)
 | bk=>show λc a S=>h c a (by rw[<-af];show S.weak N)
 | ct=>show λc a S=>h c a (by rw[<-af];show S.weak N)
def rm(M N:!Nat)(E:!En):ah M (ah N E)=ah N (ah M E):=by
 unfold ah;rw[LZ,LZ];congr 1;funext e;show Bool.and_comm _ _
def Pu.weak2{a:Gm}{c:Rho}{E:!En}{D:Pw}{f:Fl}{M N:!Nat}(h:Pu a c (ah (M++N) E) D f):Pu a c (ah N E) D f:=by
 show Pu.weak (N:=M) ?_;rwa [<-af,rm,af]
def bC(h:∀e∈E,e.key=VE):∀e∈ah M E,e.key=VE:=λe a=>h e (JX.mp a).1
def qq:cD K Dd mNext:=by unhygienic
 intro c H O Z E D f e d g a S q;cases a;show q Z H (by rw[show mNext.mu=[]from rfl,cB];show S)
def ub(j:cD K t a)(k:cD K u b):cD K (FP t u) (aq a b):=by
 intro c H O Z E D f p h i e S q;change t {D with nx:=u D} Z H;dsimp[aq]at e q;split at e
 .delta g d;show j c H O Z E _ .nx g h i d S λo l m=>?_;show k c l g o _ D f p h (bC i) e m ?_;rw[af];show q
 .delta r g d;cases e;show j c H O Z E _ (.rt r) _ h i d S q
 .delta g d;cases e;show j c H O Z E _ .bk _ h i d S (show Pu c _ (ah a.mu E) D .bk from q.weak)
 .delta g d;cases e;show j c H O Z E _ .ct _ h i d S (show Pu c _ (ah a.mu E) D .ct from q.weak)
 .cases e
def ua(o:fo K c mc)(r:cD K t a)(p:cD K u b):cD K (IC c t u) (mIf mc a b):=by
 intro g H O Z E D f l h m e S q;dsimp[mIf]at e q;rw[<-af]at q;split at e
 .delta d j;show o g H O Z E _ VH d h j S λi k=>rl ?_;show r g i d Z _ D f l h (bC m) e k q.weak
 .delta d j;show o g H O Z E _ VG d h j S λi k=>rk ?_;show p g i d Z _ D f l h (bC m) e k q.weak2
 .cases e
def y4(h:be K te m):cD K (zG te) (bD m):=by unhygienic
 intro c H O Z E D f k i l a S q;dsimp[bD]at a;ext a r j e;cases a;show h c H O Z E _ r _ i e S λv d g=>q Z d (g.drop rfl)
def oP(h:be K te m)(t:jg K g mg):cD K (Ca te g) (aC m mg):=by
 intro c H O Z E D f u e w a S q;dsimp[aC]at a q;ext a r d k;ext a x s;cases a;show h c H O Z E _ r d e k S λv j l=>?_;show t c j d Z _ _ v r _ e s l λo i p=>q o i (by rw[<-af];show p)
def Sim.only(S:Sim Γ H O Z (e::E))(a:∀x∈E,x.key=VE):Sim Γ H O Z [e]:=by
 induction E with
 | nil=>show S
 | cons x E c=>show c (S.swap.drop (a x ymS)) λy d=>a y (ymC _ d)
def BQ(h:be K te m):cD K (IG te) (bh m):=by unhygienic
 intro l H O Z E D f y w e d S q;dsimp[bh]at d;ext d r s o;ext d t z c;cases d;show h l H O Z E _ r s w o S λv g j=>?_;have(k,x):=r;cases k with
 | ow=>
  cases c;show q v Z g (j.only (bC e))
 | io n=>cases c
 | vw a b=>
  cases a with
  | none=>cases c
  | some i=>
   cases b with
   | none=>cases c
   | some p=>
    cases p with
    | cons _ _=>cases c
    | nil=>
     dsimp[vE]at c;ext c A u;cases c;show q v Z g ((j.move u).only (bC (bC e)))
private def ag(i:Nat):MG:={λr O=>if(dn O i&&az [i] r)=VH then VF ((au [i] O).set i (VF r))else VE,[i]}
def cY(h:az [i] r=VH):r.k.root≠VF i:=λz=>by
 unfold az dD at h;rw[z]at h;simp at h
def hJ:jg K (mV i) (ag i):=by unhygienic
 intro c H O Z E Q v r e d a S q;dsimp[ag]at a;ext a h;cases a;rw[JL]at h;show q _ H (S.put h.1 (cY h.2))
end
section
variable {X:Cx}
def Inv.lstR(I:Inv X OK Z H s)(c:Rd H l (.lst xs)):xs.length<=sizeLine/\∃(a:!Od) (n:Nat),Vals xs a/\xs.length=a.length/\s.heap.get? l=VF {cls:=.type "list",data:=.seq a.toArray n}:=by
 have(z,a,n,r,e):=c.ok I.hok;show⟨z,a,n,r,r.length,e⟩
abbrev CZ:R2:=λx y H Q=>∃l b a c,x=.ref l/\y=.ref b/\Rd H l (.lst a)/\Rd H b (.lst c)/\a.length+c.length<=sizeLine/\∀p,H p=VE->Q (.ref p) (upd H p (.lst (a++c)))
def op_catR:OpR X (PU .Add) CZ:=by
 intro B s Z H x y v u Q I f o h;obtain⟨l,b,p,t,rfl,rfl,g,k,A,q⟩:=h;cases f;cases o;have(z,c,n,r,C,e):=I.lstR g;have(w,a,E,d,i,m):=I.lstR k;show PySem.P.add_list e m ?_ (by rw[JM,JM];omega);have j:c.toArray++a.toArray=(c++a).toArray:=by simp
 rw[j];show{.ref _,_,I.lnew (t':=s.toks) (r.append d) (by rw[JT];omega),Xr,q _ I.fresh}
abbrev yP(K:yF):R2:=λx y H Q=>∃a b c,x=.ref a/\y=.ref b/\SqT K H a []/\SqT K H b c/\Q (.ref b) H
def xC:OpR X (PU .Add) (yP X.K):=by
 intro P s Z H x y v u Q I w L h;have(a,b,O,rfl,rfl,r,M,q):=h;cases w;cases L;have(g,G,E,_):=I.tuple r;have(d,N,C,_):=I.tuple M;have A:g=[]:=G.nil_iff.mpr rfl;subst A;obtain⟨⟨t,z,k,B⟩,o,m,n,l⟩:=id E;obtain⟨⟨p,j,data2,i⟩,f,c,J,e⟩:=id C;simp only at m l c e;subst m l c e;show TD {_,o,Xr} {_,f,Xr} Sk Tk PySem.F.slot_tuple_add PySem.F.entry_tuple_add (PySem.F.args_tuple_add_2 _ _)
   (tuple_addW0 a b #[] d.toArray n J z j B i rfl) {o,f,{.ref b,H,I,Xr,q}}
abbrev tZ(K:yF):R2:=λx y H Q=>CY K x y H Q\/(CZ x y H Q\/yP K x y H Q)
def tK:OpR X (PU .Add) (tZ X.K):=op_addX.or (op_catR.or xC)
abbrev C5:R2:=λx y H Q=>∃l k a,x=.ref l/\y=.int k/\Rd H l (.lst a)/\-(2^63)<=k/\k<2^63/\a.length*k.toNat<=sizeLine/\∀p,H p=VE->Q (.ref p) (upd H p (.lst (JO k.toNat a).flatten))
def AZ:OpR X (PU .Mult) C5:=by
 intro N s Z H x y v u Q I A L h;obtain⟨l,k,M,rfl,rfl,C,B,G,w,q⟩:=h;cases A;have(t,rfl):=L;have(z,c,n,r,J,e):=I.lstR C;have g:c.toArray.size*k.toNat<=sizeLine:=by rw[JM,<-J];show w
 have i:¬ c.toArray.size*k.toNat>(2^63-1) / 8:=by
  have:(sizeLine:Nat)<=(2^63-1) / 8:=by decide
  omega
 have j:¬ (~~~Builtin.List.listFitsIndex k)=VH:=by
  rw[SR B G];show JU
 have d:¬ OS (c.toArray.size*k.toNat)=VH:=by
  rw[eJ g];show JU
 have f:MP (λp o=>p++o) #[] (JO (if c.toArray.isEmpty=VH then 0 else k.toNat) c.toArray)=(JO k.toNat c).flatten.toArray:=by
  have K:∀m:Nat,MP (λp o=>p++o) #[] (JO m c.toArray)=(JO m c).flatten.toArray:=λm=>by
   have:=fL c m [];rw[KT]at this;show this
  rw[K];cases c with
  | nil=>simp
  | cons a O=>rw[if_neg ∅]
 show QY (T:="list") (U:="int") (by decide) {_,e,Xr} (λE=>Rq E k t) Um SE QB repeat_list Sm.lookup
  (P5 QB (Rq s k t) Sn (Sb _ _) (SM k t l c.toArray n)
   {e,Xr,{_,e,Xr},P5 Uo {_,e,Xr} T3 (TJ _ _) (Rb l c.toArray n k t j i d) {e,?_}})
 rw[f];show{.ref _,_,I.lnew (t':=s.toks) (r.rep k.toNat) (by rw[jw,Nw];show w),Xr,q _ I.fresh}
abbrev yT(K:yF):R2:=λx y H Q=>C3 K x y H Q\/C5 x y H Q
def AW:OpR X (PU .Mult) (yT X.K):=op_mulX.or AZ
abbrev qf:V->!V->Hp->VK->Prop:=λx vs H Q=>∃l b a c,x=.ref l/\vs=[.ref b]/\H l*>(.lst a)/\Rd H b (.lst c)/\a.length+c.length<=sizeLine/\Q .non (upd H l (.lst (a++c)))
def rK:MtM X "list.extend" qf:=by
 intro G s Z H x vs v C Q I j o h;obtain⟨l,b,y,A,rfl,rfl,g,p,E,q⟩:=h;cases j;have(u,rfl,m):=o.one;cases m;have(z,c,n,r,J,e):=I.lstM g;have(B,a,t,i,k,w):=I.lstR p;have f:c.toArray.size+a.toArray.size<=sizeLine:=by rw[JM,JM];omega
 have d:¬ (~~~c.toArray.isEmpty&&OS (c.toArray.size+a.toArray.size))=VH:=by
  rw[eJ f,LP];show JU
 show P5 RZ {_,e,Xr} RN (RC _ _)
  (Ri l c.toArray n b a.toArray t d (by rw[JM];omega) ⋯) {e,w,?_}
 show{.non,_,I.lset (its':=c++a) g e ∅ (r.append i) ?_,Xr,q};rw[JT];omega
abbrev yQ(K:yF):V->!V->Hp->VK->Prop:=λx a H Q=>qf x a H Q\/qg K x a H Q
def AQ:MtR X "list.extend" (yQ X.K):=MtR.or rK rL
end
abbrev Rpx(K:yF)(H:Hp)(t:T)(v:V):Prop:=∃F,Rp K H t v F
abbrev New(K:yF)(H H':Hp)(t:T)(v:V):Prop:=Pk H H'/\∃F,Rp K H' t v F/\F.Nodup/\∀a∈F,H a=VE/\Mu H' a
section
variable {K:yF}{H H':Hp}{Γ:Gm}{O:Rho}{Z:St}{E:!En}{t:T}{v x y:V}{Q:VK}
def Sim.fresh(S:Sim Γ H O Z E)(n:New Γ.K H H' t v):Sim Γ H' O Z ({VE,v,{.ow,t}}::E):=by
 have(f,F,g,h,c):=n;have(i,e,_,_,k):=Sim.use (vs:=[]) (ts:=[]) S rfl;have:=e.nil_inv.2;subst this;show k H' v t F (f.offM _) ∅ h (λa d=>{.inr (c a d).1,(c a d).2}) g
def New.im(h:RpI K H i v):New K H H (.im i) v:={Pk.refl H,[],dF h,KS,by simp}
def New.sc(h:i.sc*>v):New K H H (.im i) v:=.im (kI h)
def New.tup(hp:H p=VE)(h:vx K H is xs):New K H (upd H p (.tup xs)) (.im (.tup is)) (.ref p):=by
 show{Pk.laid hp,[],dF ?_,KS,by simp};rw[RpI];show{p,xs,Xr,SqT.of ao,h.same (Pk.laid hp)}
def New.li(hp:H p=VE)(h:vx K H is xs):New K H (upd H p (.lst xs)) (.li is) (.ref p):=by
 show{Pk.laid hp,[p],?_,by simp,λa c=>?_};rw[Rp];show{p,xs,Xr,.inl ao,h.same (Pk.laid hp),Xr};rw[ysM c];show{hp,_,ao,Xr}
def cu(h:Rpx K H (.im i) v):RpI K H i v:=by obtain⟨F,h⟩:=h;show(aV h).1
def aY(h:Rpx K H (.im (.int n)) v):v=.int n:=by have:=cu h;rw[RpI]at this;show this
def dy(h:Rpx K H (.im (.str n)) v):v=.str n:=by have:=cu h;rw[RpI]at this;show this
def kH(h:Rpx K H (.im (.bl n)) v):v=.bl n:=by have:=cu h;rw[RpI]at this;show this
def zt(h:Rpx K H (.im .non) v):v=.non:=by have:=cu h;rw[RpI]at this;show this
def bX(h:Rpx K H (.im (.tup is)) v):∃a xs,v=.ref a/\SqT K H a xs/\vx K H is xs:=by have:=cu h;rw[RpI]at this;show this
def bW(h:Rpx K H (.li is) v):∃a xs,v=.ref a/\Rd H a (.lst xs)/\vx K H is xs:=by
 obtain⟨F,h⟩:=h;rw[Rp]at h;obtain⟨a,xs,d,c,e,_⟩:=h;show⟨a,xs,d,c,e⟩
def nB(h:Rpx K H (.im (.ls is)) v):∃a xs,v=.ref a/\Rd H a (.lst xs)/\vx K H is xs:=by
 have:=cu h;rw[RpI]at this;have(a,o,xs,d,c,e):=this;show{a,xs,d,.inr ⟨o,c⟩,e}
def gx(h:Rpx K H (.lst ts) v):∃a xs F,v=.ref a/\Rd H a (.lst xs)/\Rps K H ts xs F:=by
 obtain⟨F,h⟩:=h;rw[Rp]at h;obtain⟨a,xs,f,d,c,e,_⟩:=h;show⟨a,xs,f,d,c,e⟩
def aQ(h:Rd H a (.lst xs)):SqL K H a xs:=.inl h
abbrev jf(K:yF)(red:V->Hp->VK->Prop)(f:T->↑T):Prop:=∀(H:Hp) (x:V) (a t:T) (Q:VK),Rpx K H a x->f a*>t->(∀v H',New K H H' t v->Q v H')->red x H Q
abbrev eC(K:yF)(red:R2)(f:T->T->↑T):Prop:=∀(H:Hp) (x y:V) (c a t:T) (Q:VK),Rpx K H c x->Rpx K H a y->f c a*>t->(∀v H',New K H H' t v->Q v H')->red x y H Q
abbrev Pr(K:yF)(H:Hp):!T->!V->Prop
 | [],vs=>vs=[]
 | t::a,vs=>∃v r,vs=v::r/\Rpx K H t v/\Pr K H a r
abbrev gM(K:yF)(red:!V->Hp->VK->Prop)(f:!T->↑T):Prop:=∀(H:Hp) (vs:!V) (a:!T) (t:T) (Q:VK),Pr K H a vs->f a*>t->(∀v H',New K H H' t v->Q v H')->red vs H Q
private def mOp(f:T->T->↑T)(a b:ME):ME:={λO=>match a.run O with
 | some (c,g)=>match b.run g with
  | some (d,e)=>if az b.mu c=VH then(match f c.t d.t with
   | some t=>VF ({.ow,t},e)
   | none=>VE)else VE
  | none=>VE
 | none=>VE,a.mu++b.mu}
def kf(hp:eC K red f)(l:be K ta a)(z:be K tb b):be K (tOp red ta tb) (mOp f a b):=by unhygienic
 intro Γ H O Z E Q r B e c S q;dsimp[mOp]at c;ext c k h m;ext c i C u;ext c w;ext c t A;cases c;show l Γ H O Z E _ k h e m S λx p s=>?_;show z Γ p h Z _ _ i _ e u s λy o d=>?_;rw[ax (bj w),af]at d;have j:=d.rd (ymC _ ymS);have g:=d.rd ymS;rw[e]at j g;show hp o x y k.t i.t t Q j g A λv H3 n=>q v H3 ?_;rw[<-e]at n;show((d.drop rfl).drop rfl).fresh n
private def mUn(f:T->↑T)(a:ME):ME:={λO=>match a.run O with
 | some (c,d)=>(match f c.t with
  | some t=>VF ({.ow,t},d)
  | none=>VE)
 | none=>VE,a.mu}
def kh(hp:jf K red f)(i:be K ta a):be K (tUn red ta) (mUn f a):=by unhygienic
 intro Γ H O Z E Q r o d c S q;dsimp[mUn]at c;ext c h m k;ext c t l;cases c;show i Γ H O Z E _ h _ d k S λx j e=>?_;have g:=e.rd ymS;rw[d]at g;show hp j x h.t t Q g l λv H3 n=>q v H3 ?_;rw[<-d]at n;show(e.drop rfl).fresh n
def Sim.rds:∀{vs:!V} {rs:!R} {E:!En},Sim Γ H O Z (ens vs rs++E)->vs.length=rs.length->Pr Γ.K H (rs.map (·.t)) vs
 | [],[],E,S,_=>rfl
 | v::vs,r::rs,E,S,h=>by
  rw[ens,Kn]at S;show{v,vs,Xr,S.rd ymS,Sim.rds (S.drop rfl) (by exists h)}
 | [],_::_,_,_,h=>by cases h
 | _::_,[],_,_,h=>by cases h
def Sim.drops:∀{vs:!V} {rs:!R} {E:!En},Sim Γ H O Z (ens vs rs++E)->Sim Γ H O Z E
 | [],rs,E,S=>by cases rs<;>show S
 | v::vs,[],E,S=>S
 | v::vs,r::rs,E,S=>by
  rw[ens,Kn]at S;show Sim.drops (S.drop rfl)
private def mB(f:!T->↑T)(a:MA):ME:={λO=>match a.run O with
 | some (c,d)=>(match f (c.map (·.t))with
  | some t=>VF ({.ow,t},d)
  | none=>VE)
 | none=>VE,a.mu}
def yZ(hp:gM K red f)(h:fH K ta a):be K (tCB red ta) (mB f a):=by unhygienic
 intro Γ H O Z E Q r p d c S q;dsimp[mB]at c;ext c l o k;ext c t m;cases c;show h Γ H O Z E _ l _ d k S λvs i j e=>?_;have g:=e.rds j;rw[d]at g;show hp i vs _ t Q g m λv H3 n=>q v H3 ?_;rw[<-d]at n;show e.drops.fresh n
private def mM(f:T->!T->↑T)(o:ME)(a:MA):ME:={λO=>match o.run O with
 | some (r,d)=>match a.run d with
  | some (c,e)=>if az a.mu r=VH then(match f r.t (c.map (·.t))with
   | some t=>VF ({.ow,t},e)
   | none=>VE)else VE
  | none=>VE
 | none=>VE,o.mu++a.mu}
abbrev wb(K:yF)(d:String)(red:V->!V->Hp->VK->Prop)(f:T->!T->↑T):Prop:=∀(H:Hp) (x:V) (vs:!V) (a:T) (c:!T) (t:T) (Q:VK),Rpx K H a x->Pr K H c vs->f a c*>t->(∀v H',New K H H' t v->Q v H')->red x vs H Q
def Is(hp:wb K T0 red f)(g:∀(H:Hp) (x:V) (i:T) ts t,Rpx K H i x->f i ts*>t->tyV K T0 x H)(A:be K to o)(u:fH K ta a):be K (tBM K T0 red to ta) (mM f o a):=by unhygienic
 intro Γ H O Z E Q r P e c S q;dsimp[mM]at c;ext c B J z;ext c M N w;ext c L;ext c t s;cases c;show A Γ H O Z E _ B _ e z S λx k l=>?_;have d:=l.rd ymS;rw[e]at d;show{g k x _ _ _ d s,?_};show u Γ k J Z _ _ M _ e w l λvs C G h=>?_;rw[ax (bj L),af]at h;have p:=h.rds G;have m:=h.drops;have j:=m.rd ymS;rw[e]at p j;show hp C x vs _ _ t Q j p s λv H3 n=>q v H3 ?_;rw[<-e]at n;show(m.drop rfl).fresh n
private def aB(a:ME):MT:={λO=>match a.run O with
 | some (⟨_,.im (.bl b)⟩,c)=>VF (b,c)
 | _=>VE,a.mu}
def lY(e:be K ta a):fo K (Dg ta) (aB a):=by unhygienic
 intro Γ H O Z E Q b m i c S q;dsimp[aB]at c;ext c k j l g;cases c;show e Γ H O Z E _ _ _ i g S λx f d=>{b,?_,q f (d.drop rfl)};have h:=d.rd ymS;show kH h
def FK(c:be K ta a):fo K (tB ta) (aB a):=lY c
abbrev tru:T->↑Bool
 | .im .non=>VF VG
 | .im (.bl b)=>VF b
 | .im (.int i)=>VF (i != 0)
 | .im (.str x)=>if x.length<=sizeLine then VF ((x.length:Int) != 0)else VE
 | .im (.tup a)=>VF (~~~a.isEmpty)
 | .li a=>VF (~~~a.isEmpty)
 | .lst c=>VF (~~~c.isEmpty)
 | .tup c=>VF (~~~c.isEmpty)
 | _=>VE
private def uW(a:ME):MT:={λO=>match a.run O with
 | some (r,c)=>(match tru r.t with
  | some b=>VF (b,c)
  | none=>VE)
 | none=>VE,a.mu}
def ii{a c:Type}{l:!a}{m:!c}(h:l.length=m.length):l.isEmpty=m.isEmpty:=by
 cases l<;>cases m<;>first|rfl|cases h
def tru_ok'{b:Bool}(h:tru t*>b)(r:Rpx K H t v):Ak K v H b:=by
 cases t with
 | im i=>
  cases i with
  | non=>rw[zt r];cases h;rfl
  | bl x=>rw[kH r];cases h;rfl
  | int x=>rw[aY r];cases h;rfl
  | str x=>
   rw[dy r];dsimp[tru]at h;split at h;cases h;show{by assumption,Xr};cases h
  | tup f=>
   have(a,c,rfl,e,d):=bX r;cases h;show .inr (.inl {c,e,by rw[ii d.length]})
  | ls f=>cases h
  | fd _ _=>cases h
  | exn _ _ _=>cases h
 | li f=>
  have(a,c,rfl,e,d):=bW r;cases h;show .inl {c,aQ e,by rw[ii d.length]}
 | lst f=>
  have(a,c,F,rfl,e,d):=gx r;cases h;show .inl {c,aQ e,by rw[ii d.length]}
 | tup g=>
  obtain⟨F,r⟩:=r;rw[Rp]at r;have(a,c,rfl,e,d):=r;cases h;show .inr (.inl {c,e,by rw[ii d.length]})
 | di _=>cases h
 | dc _=>cases h
 | ins _ _=>cases h
def BV(g:be K ta a):fo K (IH K ta) (uW a):=by unhygienic
 intro Γ H O Z E Q b m f c S q;dsimp[uW]at c;ext c r l i;ext c k j;cases c;show g Γ H O Z E _ _ _ f i S λx h d=>{b,?_,q h (d.drop rfl)};have e:=d.rd ymS;rw[f]at e;show tru_ok' j e
private def mw(a b:MT):MT:={λO=>match a.run O with
 | some (VH,c)=>b.run c
 | some (VG,c)=>VF (VG,c)
 | none=>VE,a.mu++b.mu}
private def mOr(a b:MT):MT:={λO=>match a.run O with
 | some (VH,c)=>VF (VH,c)
 | some (VG,c)=>b.run c
 | none=>VE,a.mu++b.mu}
private def rB(a:MT):MT:={λO=>match a.run O with
 | some (b,c)=>VF (~~~b,c)
 | none=>VE,a.mu}
def BI(i:fo K ta a)(m:fo K tb b):fo K (Ix ta tb) (mw a b):=by
 intro Γ H O Z E Q c o h d S q;dsimp[mw]at d q;split at d
 .delta j f;show i Γ H O Z E _ _ _ h f S λe g=>rl ?_;show m Γ e j Z _ _ _ _ h d g λk l=>q k (by rw[<-af];show l)
 .delta j f;cases d;show i Γ H O Z E _ _ _ h f S λe g=>rk (q e (by rw[<-af];show g.weak _))
 .cases d
def FG(i:fo K ta a)(m:fo K tb b):fo K (tOr ta tb) (mOr a b):=by
 intro Γ H O Z E Q c o h d S q;dsimp[mOr]at d q;split at d
 .delta j f;cases d;show i Γ H O Z E _ _ _ h f S λe g=>rl (q e (by rw[<-af];show g.weak _))
 .delta j f;show i Γ H O Z E _ _ _ h f S λe g=>rk ?_;show m Γ e j Z _ _ _ _ h d g λk l=>q k (by rw[<-af];show l)
 .cases d
def BO(e:fo K ta a):fo K (IE ta) (rB a):=by
 intro Γ H O Z E Q c k i d S q;dsimp[rB]at d q;ext d b j g;cases d;show e Γ H O Z E _ _ _ i g S λf h=>q f h
private def jx(a b:ME):ME:={λO=>match a.run O with
 | some (⟨_,.im (.bl VH)⟩,c)=>b.run c
 | some (⟨_,.im (.bl VG)⟩,c)=>VF ({.ow,.im (.bl VG)},c)
 | _=>VE,a.mu++b.mu}
private def lG(a:ME):ME:={λO=>match a.run O with
 | some (⟨_,.im (.bl b)⟩,c)=>VF ({.ow,.im (.bl (~~~b))},c)
 | _=>VE,a.mu}
def y0(i:be K ta a)(o:be K tb b):be K (Dc ta tb) (jx a b):=by
 intro Γ H O Z E Q c p h e S q;dsimp[jx]at e q;split at e
 .delta k j g;show i Γ H O Z E _ _ _ h g S λx f d=>{VH,kH (d.rd ymS),rl ?_};show o Γ f j Z _ _ _ _ h e (d.drop rfl) λv l m=>q v l (by rw[<-af];show m)
 .delta k j g;cases e;show i Γ H O Z E _ _ _ h g S λx f d=>{VG,kH (d.rd ymS),rk (q _ f ?_)};rw[<-af];show((d.drop rfl).weak _).imm (kI rfl)
 .cases e
def zd(f:be K ta a):be K (De ta) (lG a):=by
 intro Γ H O Z E Q c l i d S q;dsimp[lG]at d q;ext d k b j h;cases d;show f Γ H O Z E _ _ _ i h S λx g e=>{b,kH (e.rd ymS),q _ g ((e.drop rfl).imm (kI rfl))}
private def AN(c:MT)(a b:ME):ME:={λO=>match c.run O with
 | some (VH,d)=>a.run d
 | some (VG,d)=>b.run d
 | none=>VE,c.mu++(a.mu++b.mu)}
def BK(P:fo K tc c)(U:be K ta a)(hb:be K tb b):be K (tIf tc ta tb) (AN c a b):=by
 intro Γ H O Z E Q r O' p m S q;dsimp[AN]at m q;split at m
 .delta C u;show P Γ H O Z E _ _ _ p u S λJ M=>rl ?_;show U Γ J C Z _ _ _ _ p m M λv o f=>q v o ?_;rw[af]at f;rw[<-Ka,<-af];show{?_,f.al,f.len,λe i=>f.hi e ?_}
  .have h:=(f.drop rfl).weak b.mu;have h2:Sim Γ o O' Z (⟨VE,v,r⟩::ah (c.mu++a.mu) E):=f;have(L,g,e):=h2.sl;have(x,L',rfl,N,G):=aH e;have(A,B,rfl,z,s):=cC G;show⟨x::(A.filter (λw=>aD b.mu w.e)++B),g.sub (List.Sublist.cons_cons _ (KM.append (List.Sublist.refl _))) λw Y j hj y d X l=>?_,?_⟩
   .rcases ycM d with rfl|d;show ymS
    .show ymC _ ?_;rcases yaM d with d|d
     .show yaL _ (JX.mpr {d,?_});unfold aD;cases e:y.e.r.k with
      | vw a b=>rw[e]at l;cases l
      | ow=>rfl
      | io _=>rfl
     .show yaR _ d
   .rw[JN,N,JZ,s,<-z];unfold ah;rw[LJ];rfl
  .rcases ycM i with rfl|i;show ymS;show ymC _ (JX.mp i).1
 .delta C u;show P Γ H O Z E _ _ _ p u S λJ M=>rk ?_;show hb Γ J C Z _ _ _ _ p m M λv o f=>q v o ?_;rw[af]at f;have ek:ah (c.mu++(a.mu++b.mu)) E=ah a.mu (ah (c.mu++b.mu) E):=by
   rw[af];unfold ah;congr 1;funext e;dsimp[jV];rcases aD c.mu e<;>rcases aD a.mu e<;>rcases aD b.mu e<;>rfl
  rw[ek];show{?_,f.al,f.len,λe i=>f.hi e ?_}
  .have(L,g,e):=f.sl;have(x,L',rfl,N,G):=aH e;have(A,B,rfl,z,s):=cC G;show⟨x::(A.filter (λw=>aD a.mu w.e)++B),g.sub (List.Sublist.cons_cons _ (KM.append (List.Sublist.refl _))) λw Y j hj y d X l=>?_,?_⟩
   .rcases ycM d with rfl|d;show ymS
    .show ymC _ ?_;rcases yaM d with d|d
     .show yaL _ (JX.mpr {d,?_});unfold aD;cases e:y.e.r.k with
      | vw a b=>rw[e]at l;cases l
      | ow=>rfl
      | io _=>rfl
     .show yaR _ d
   .rw[JN,N,JZ,s,<-z];unfold ah;rw[LJ];rfl
  .rcases ycM i with rfl|i;show ymS;show ymC _ (JX.mp i).1
 .cases m
end
mutual
noncomputable def I.dok:I->Bool
 | .int _=>VH|.str _=>VH|.tup is=>I.doks is|_=>VG
noncomputable def I.doks:!I->Bool
 | []=>VH
 | i::is=>i.dok&&I.doks is
end
mutual
noncomputable def I.toD:I->D
 | .int i=>.int i|.str x=>.str x|.tup is=>.tup (I.toDs is)|_=>.int 0
noncomputable def I.toDs:!I->!D
 | []=>[]
 | i::is=>i.toD::I.toDs is
end
mutual
noncomputable def I.dep:I->Nat
 | .tup is=>I.deps is+1|_=>0
noncomputable def I.deps:!I->Nat
 | []=>0
 | i::is=>max i.dep (I.deps is)
end
mutual
theorem Dx:∀(i:I),i.toD.depth=i.dep
 | .non=>rfl|.bl _=>rfl|.int _=>rfl|.str _=>rfl|.ls _=>rfl|.fd _ _=>rfl|.exn _ _ _=>rfl
 | .tup a=>by rw[I.toD,D.depth,I.dep,ig a]
theorem ig:∀(is:!I),aR (I.toDs is)=I.deps is
 | []=>rfl
 | i::is=>by rw[I.toDs,aR,I.deps,Dx i,ig is]
end
mutual
theorem uk:∀{a b:I},a.dok=VH->b.dok=VH->(a.toD=b.toD↔a=b)
 | .non,_,h,_=>by simp[I.dok]at h
 | .bl _,_,h,_=>by simp[I.dok]at h
 | .ls _,_,h,_=>by simp[I.dok]at h
 | .fd _ _,_,h,_=>by simp[I.dok]at h
 | .exn _ _ _,_,h,_=>by simp[I.dok]at h
 | .int x,b,_,h=>by cases b<;>simp[I.dok]at h<;>simp[I.toD]
 | .str x,b,_,h=>by cases b<;>simp[I.dok]at h<;>simp[I.toD]
 | .tup x,b,c,h=>by
  cases b with
  | tup y=>
   rw[I.dok]at h c;rw[I.toD,I.toD,D.tup.injEq,I.tup.injEq];show jN c h
  | non=>simp[I.dok]at h
  | bl _=>simp[I.dok]at h
  | ls _=>simp[I.dok]at h
  | fd _ _=>simp[I.dok]at h
  | exn _ _ _=>simp[I.dok]at h
  | int _=>simp[I.toD]
  | str _=>simp[I.toD]
theorem jN:∀{a b:!I},I.doks a=VH->I.doks b=VH->(I.toDs a=I.toDs b↔a=b)
 | [],b,_,_=>by cases b<;>simp[I.toDs]
 | x::d,b,c,h=>by
  cases b with
  | nil=>simp[I.toDs]
  | cons y e=>
   rw[I.doks,JL]at h c;rw[I.toDs,I.toDs,Lp.injEq,Lp.injEq,uk c.1 h.1,jN c.2 h.2]
end
section
section
variable {K:yF}{H:Hp}
mutual
theorem lZ:∀{i:I} {v:V},i.dok=VH->RpI K H i v->Rep K H i.toD v
 | .non,_,h,_=>by simp[I.dok]at h
 | .bl _,_,h,_=>by simp[I.dok]at h
 | .ls _,_,h,_=>by simp[I.dok]at h
 | .fd _ _,_,h,_=>by simp[I.dok]at h
 | .exn _ _ _,_,h,_=>by simp[I.dok]at h
 | .int _,_,_,r=>by rw[RpI]at r;rw[I.toD,Rep];show r
 | .str _,_,_,r=>by rw[RpI]at r;rw[I.toD,Rep];show r
 | .tup g,_,h,r=>by
  rw[RpI]at r;rw[I.dok]at h;have(a,c,e,d,f):=r;rw[I.toD,Rep];show{a,c,e,d,iH h f}
theorem iH:∀{is:!I} {vs:!V},I.doks is=VH->vx K H is vs->Pg K H (I.toDs is) vs
 | [],_,_,r=>by rw[vx]at r;rw[I.toDs,Pg];show r
 | i::is,_,h,r=>by
  rw[vx]at r;rw[I.doks,JL]at h;have(x,a,c,d,e):=r;rw[I.toDs,Pg];show{x,a,c,lZ h.1 d,iH h.2 e}
end
def lJ:∀{is:!I},i.dok=VH->I.doks is=VH->(i.toD∈I.toDs is↔i∈is)
 | [],_,_=>by simp[I.toDs]
 | x::c,h,a=>by
  rw[I.doks,JL]at a;rw[I.toDs,Kq,Kq,uk h a.1,lJ h a.2]
abbrev isI:T->↑Int
 | .im i=>(match i with|.int a=>VF a|_=>VE)
 | _=>VE
abbrev isS:T->↑Str
 | .im i=>(match i with|.str a=>VF a|_=>VE)
 | _=>VE
abbrev DS:T->Option !I
 | .im i=>(match i with|.tup a=>VF a|_=>VE)
 | _=>VE
abbrev xc:T->Option !I
 | .li a=>VF a
 | _=>VE
def dL{t:T}{a:Int}(h:isI t*>a):t=.im (.int a):=by
 cases t with
 | im i=>cases i<;>cases h;rfl
 | _=>cases h
def AH{t:T}{a:Str}(h:isS t*>a):t=.im (.str a):=by
 cases t with
 | im i=>cases i<;>cases h;rfl
 | _=>cases h
def pF{t:T}{a:!I}(h:DS t*>a):t=.im (.tup a):=by
 cases t with
 | im i=>cases i<;>cases h;rfl
 | _=>cases h
def fM{t:T}{a:!I}(h:xc t*>a):t=.li a:=by
 cases t with
 | li i=>cases h;rfl
 | _=>cases h
abbrev i2(g:Int->Int->↑T) (x y:T):↑T:=match isI x with
 | some a=>(match isI y with
  | some b=>g a b
  | none=>VE)
 | none=>VE
def iS{g:Int->Int->↑T}{x y t:T}(h:i2 g x y*>t):∃a b,x=.im (.int a)/\y=.im (.int b)/\g a b*>t:=by
 unfold i2 at h;ext h a d;ext h b c;show{a,b,dL d,dL c,h}
def aX{d:Type}{c:Prop}[Decidable c]{t u : d}(h:(if c then VF t else VE)*>u):c/\t=u:=by
 by_cases a:c;rw[if_pos a]at h;show{a,Ke.inj h};rw[if_neg a]at h;cases h
abbrev GC(i:I) (y:T):↑T:=match i with
 | .int a=>(match isI y with|some b=>VF (.im (.int (a+b)))|none=>VE)
 | .str a=>(match isS y with|some b=>if a.length+b.length<=sizeLine then VF (.im (.str (a++b)))else VE|none=>VE)
 | .tup a=>(match DS y with|some b=>if a.length+b.length<=sizeLine then VF (.im (.tup (a++b)))else VE|none=>VE)
 | _=>VE
private def aW(x y:T):↑T:=match x with
 | .im i=>GC i y
 | .li a=>(match xc y with|some b=>if a.length+b.length<=sizeLine then VF (.li (a++b))else VE|none=>VE)
 | _=>VE
def vx.nil_iff(h:vx K H is xs):xs=[]↔is=[]:=by
 have:=h.length;cases is<;>cases xs<;>first|(simp;done)|(cases this;done)
def pY:eC K (tZ K) aW:=by
 intro H x y v w t Q o r e q;unfold aW at e;split at e
 .delta i;unfold GC at e;split at e
  .ext e b d;cases dL d;cases e;rw[aY o,aY r];show .inl (.inl {_,_,Xr,Xr,q _ H (.sc rfl)})
  .ext e b d;cases AH d;have(h,rfl):=aX e;rw[dy o,dy r];show .inl (.inr (.inl {_,_,Xr,Xr,h,q _ H (.sc rfl)}))
  .delta a;ext e b d;cases pF d;have(h,rfl):=aX e;have(p,m,rfl,j,c):=bX o;have(l,g,rfl,k,f):=bX r;by_cases u:a=[]
   .subst u;have:=c.nil_inv;subst this;show .inr (.inr {p,l,g,Xr,Xr,j,k,q _ H (.im ?_)});rw[RpI];show⟨l,g,Xr,k,f⟩
   .show .inl (.inr (.inr (.inr {p,l,m,g,Xr,Xr,j,k,λz=>u (c.nil_iff.mp z),by rw[c.length,f.length];show h,λz=>q _ H (.im ?_),λz p s=>q _ _ (.tup s (c.append f))})));have:=f.nil_iff.mp z;subst this;rw[Kb,RpI];show⟨p,m,Xr,j,c⟩
  .cases e
 .ext e b d;cases fM d;have(h,rfl):=aX e;have(p,m,rfl,j,c):=bW o;have(l,g,rfl,k,f):=bW r;show .inr (.inl {p,l,m,g,Xr,Xr,j,k,by rw[c.length,f.length];show h,λp s=>q _ _ (.li s (c.append f))})
 .cases e
private def cW:T->T->↑T:=i2 λa b=>VF (.im (.int (a-b)))
def yv:eC K (rI0 λi j=>.int (i-j)) cW:=by
 intro H x y f g t Q c d e q;unfold cW at e;have(a,b,rfl,rfl,e):=iS e;cases e;rw[aY c,aY d];show{_,_,Xr,Xr,q _ H (.sc rfl)}
abbrev kD(i j:Int):Bool:=(decide (-(2^64)<i)&&decide (i<2^64))||(decide (-(2^64)<j)&&decide (j<2^64))
def AS{i j:Int}(h:kD i j=VH):PM i j:=by
 unfold kD at h;dsimp[Mk,JL,decide_eq_true_eq]at h;show h
abbrev G5(i:I) (b:Int):↑T:=match i with
 | .int a=>if kD a b=VH then VF (.im (.int (a*b)))else VE
 | .str a=>if 1<=b/\b<=1000/\a.length<=1000 then VF (.im (.str (oL (JO b.toNat (sL a)).flatten)))else VE
 | .tup a=>if a≠[]/\a.length<=1000/\1<=b/\b<=1000 then VF (.im (.tup (JO b.toNat a).flatten))else VE
 | _=>VE
private def e8(x y:T):↑T:=match isI y with
 | some b=>(match x with
  | .im i=>G5 i b
  | .li a=>if -(2^63)<=b/\b<2^63/\a.length*b.toNat<=sizeLine then VF (.li (JO b.toNat a).flatten)else VE
  | _=>VE)
 | none=>VE
def vx.reps{is:!I}{xs:!V}(h:vx K H is xs):∀n:Nat,vx K H (JO n is).flatten (JO n xs).flatten
 | 0=>.nil
 | n+1=>by
  rw[KC,KC,K9,K9];show h.append (h.reps n)
def yq:eC K (yT K) e8:=by
 intro H x y m o t Q f i e q;unfold e8 at e;ext e b k;cases dL k;split at e
 .unfold G5 at e;split at e
  .have(h,rfl):=aX e;rw[aY f,aY i];show .inl (.inl {_,_,Xr,Xr,AS h,q _ H (.sc rfl)})
  .have(h,rfl):=aX e;rw[dy f,aY i];show .inl (.inr (.inl {_,_,Xr,Xr,h.1,h.2.1,h.2.2,q _ H (.sc rfl)}))
  .delta a;have(h,rfl):=aX e;have(p,d,rfl,g,c):=bX f;rw[aY i];show .inl (.inr (.inr (.inr {p,b,d,Xr,Xr,g,λz=>h.1 (c.nil_iff.mp z),by rw[c.length];show h.2.1,h.2.2.1,h.2.2.2,λz=>q _ H (.im ?_),λz p j=>q _ _ (.tup j (c.reps _))})));subst z;have l:(JO (1:Int).toNat a).flatten=a:=by simp
   rw[l,RpI];show⟨p,d,Xr,g,c⟩
  .cases e
 .have(h,rfl):=aX e;have(p,d,rfl,g,c):=bW f;rw[aY i];show .inr {p,b,d,Xr,Xr,g,h.1,h.2.1,by rw[c.length];show h.2.2,λp j=>q _ _ (.li j (c.reps _))}
 .cases e
private def jo:T->T->↑T:=i2 λa b=>if 0<b/\b<2^64 then VF (.im (.int (a / b)))else VE
def vh:eC K (rI qK λi j=>.int (i / j)) jo:=by
 intro H x y f g t Q c d e q;unfold jo at e;have(a,b,rfl,rfl,e):=iS e;have(h,rfl):=aX e;rw[aY c,aY d];show{_,_,Xr,Xr,h,q _ H (.sc rfl)}
private def gK:T->T->↑T:=i2 λa b=>if 0<b then VF (.im (.int (a % b)))else VE
def yp:eC K (rI (λ_ j=>0<j) λi j=>.int (i % j)) gK:=by
 intro H x y f g t Q c d e q;unfold gK at e;have(a,b,rfl,rfl,e):=iS e;have(h,rfl):=aX e;rw[aY c,aY d];show{_,_,Xr,Xr,h,q _ H (.sc rfl)}
private def vd:T->T->↑T:=i2 λa b=>if 0<=b/\b<=1000000/\a.natAbs<2^64 then VF (.im (.int (a^b.toNat)))else VE
def yu:eC K (rI Dk λi j=>.int (i^j.toNat)) vd:=by
 intro H x y f g t Q c d e q;unfold vd at e;have(a,b,rfl,rfl,e):=iS e;have(h,rfl):=aX e;rw[aY c,aY d];show{_,_,Xr,Xr,h,q _ H (.sc rfl)}
private def dH(p:Int->Int->Bool):T->T->↑T:=i2 λa b=>VF (.im (.bl (p a b)))
def lR:eC K (rI0 λi j=>.bl (p i j)) (dH p):=by
 intro H x y f g t Q c d e q;unfold dH at e;have(a,b,rfl,rfl,e):=iS e;cases e;rw[aY c,aY d];show{_,_,Xr,Xr,q _ H (.sc rfl)}
abbrev Da(a b:I):Bool:=match a.sc with
 | some v=>(match b.sc with
  | some w=>zv v w
  | none=>VG)
 | none=>VG
abbrev ofV:V->I
 | .bl b=>.bl b
 | .int i=>.int i
 | .str x=>.str x
 | _=>.non
def CH(h:a.sc*>v):ofV v=a:=by cases a<;>cases h<;>rfl
abbrev eqI:I->I->↑Bool
 | .tup a,.tup b=>if I.doks a=VH/\I.doks b=VH/\I.deps a<=50 then VF (decide (a=b))else VE
 | a,b=>if Da a b=VH then VF (decide (a=b))else VE
abbrev eqB:T->T->↑Bool
 | .im a,.im b=>eqI a b
 | .li a,.li b=>if I.doks a=VH/\I.doks b=VH/\I.deps a<=50 then VF (decide (a=b))else VE
 | _,_=>VE
private def eqT(x y:T):↑T:=(eqB x y).map λb=>.im (.bl b)
private def neT(x y:T):↑T:=(eqB x y).map λb=>.im (.bl (~~~b))
def DA(h:eqI a b*>c):(∃x y,a=.tup x/\b=.tup y/\I.doks x=VH/\I.doks y=VH/\I.deps x<=50/\c=decide (x=y)) \/ ∃v w,a.sc*>v/\b.sc*>w/\zv v w=VH/\c=decide (v=w):=by
 unfold eqI at h;split at h
 .delta x y;split at h;delta d;cases h;show .inl ⟨x,y,Xr,Xr,d.1,d.2.1,d.2.2,Xr⟩;cases h
 .ext h d;cases h;right;unfold Da at d;ext d v e;ext d w f;show{v,w,e,f,d,?_};have:(a=b)↔(v=w):={λz=>Ke.inj (e.symm.trans ((congrArg I.sc z).trans f)),λz=>by rw[<-CH e,<-CH f,z]};show decide_eq_decide.mpr this
def wI{x y:V}{o t:T}{b:Bool}{P:V->Prop}(l:Rpx K H o x)(m:Rpx K H t y)(e:eqB o t*>b) :
  (zv x y=VH/\b=decide (x=y))\/(∃ds g,Rep K H (.tup ds) x/\Rep K H (.tup g) y/\aR ds<=50/\(b=VH↔ds=g))\/(∃p q xs j ds g,x=.ref p/\y=.ref q/\SqL K H p xs/\SqL K H q j/\Pg K H ds xs/\Pg K H g j/\aR ds<=50/\(b=VH↔ds=g)):=by
 unfold eqB at e;split at e
 .delta a c;rcases DA e with⟨s,r,rfl,rfl,f,d,k,rfl⟩|⟨v,w,f,d,k,rfl⟩
  .show .inr (.inl {I.toDs s,I.toDs r,?_,?_,by rw[ig];show k,?_})
   .have:=lZ (i:=.tup s) (by rw[I.dok];show f) (cu l);rwa [I.toD]at this
   .have:=lZ (i:=.tup r) (by rw[I.dok];show d) (cu m);rwa [I.toD]at this
   .rw[decide_eq_true_eq,jN f d]
  .rw[C9 f (cu l),C9 d (cu m)];show .inl ⟨k,Xr⟩
 .ext e a c h;cases e;have(p,xs,rfl,f,d):=bW l;have(A,j,rfl,z,u):=bW m;show .inr (.inr {p,A,xs,j,_,_,Xr,Xr,aQ f,aQ z,iH h.1 d,iH h.2.1 u,by rw[ig];show h.2.2,by rw[decide_eq_true_eq,jN h.1 h.2.1]})
 .cases e
def Bm:eC K (Fs K) eqT:=by
 intro H x y m r t Q o B e q;unfold eqT at e;cases h:eqB m r with
 | none=>rw[h]at e;cases e
 | some b=>
  rw[h]at e;cases e;rcases wI (P:=λ_=>True) o B h with⟨a,rfl⟩|⟨d,k,a,i,j,f⟩|⟨p,u,l,v,d,k,a,i,j,f,s,w,z,A⟩;show .inl {a,q _ H (.sc rfl)}
  .show .inr (.inl {d,k,a,i,j,λc g=>?_});have:c=b:=by rw[Lc,g,f]
   subst this;show q _ H (.sc rfl)
  .show .inr (.inr {p,u,l,v,d,k,a,i,j,f,s,w,z,λc g=>?_});have:c=b:=by rw[Lc,g,A]
   subst this;show q _ H (.sc rfl)
def Bo:eC K (Fw K) neT:=by
 intro H x y l o t Q m A e q;unfold neT at e;cases h:eqB l o with
 | none=>rw[h]at e;cases e
 | some b=>
  rw[h]at e;cases e;rcases wI (P:=λ_=>True) m A h with⟨a,rfl⟩|⟨d,i,a,f,g,j⟩|⟨p,s,k,v,d,i,a,f,g,j,r,w,z,B⟩;show .inl {a,q _ H (.sc rfl)}
  .show .inr (.inl {d,i,a,f,g,λc u=>?_});have:c =  ~~~b:=by cases b<;>cases c<;>simp_all
   subst this;show q _ H (.sc rfl)
  .show .inr (.inr {p,s,k,v,d,i,a,f,g,j,r,w,z,λc u=>?_});have:c =  ~~~b:=by cases b<;>cases c<;>simp_all
   subst this;show q _ H (.sc rfl)
abbrev occ(i j:Str):Bool:= ~~~(Qa j i 0 j.length 1).isEmpty
abbrev inI(i:I) (y:T):↑Bool:=match y with
 | .im j=>(match j with
  | .str b=>(match i with
   | .str a=>VF (occ a b)
   | _=>VE)
  | .tup c=>if i.dok=VH/\I.doks c=VH/\I.deps c<=50 then VF (decide (i∈c))else VE
  | _=>VE)
 | .li c=>if i.dok=VH/\I.doks c=VH/\I.deps c<=50 then VF (decide (i∈c))else VE
 | _=>VE
abbrev inB(x y:T):↑Bool:=match x with
 | .im i=>inI i y
 | _=>VE
private def inT(x y:T):↑T:=(inB x y).map λb=>.im (.bl b)
private def pT(x y:T):↑T:=(inB x y).map λb=>.im (.bl (~~~b))
def w8{x y:V}{k l:T}{b:Bool}(c:Rpx K H k x)(g:Rpx K H l y)(e:inB k l*>b) :
  (∃i j,x=.str i/\y=.str j/\b=occ i j)\/(∃p xs d ds,y=.ref p/\(SqL K H p xs\/SqT K H p xs)/\Rep K H d x/\Pg K H ds xs/\aR ds<=50/\(b=VH↔d∈ds)):=by
 unfold inB at e;ext e;unfold inI at e;split at e
 .split at e
  .split at e;cases e;show .inl {_,_,dy c,dy g,Xr};cases e
  .have(h,rfl):=aX e;have(p,xs,rfl,f,a):=bX g;show .inr {p,xs,_,_,Xr,.inr f,lZ h.1 (cu c),iH h.2.1 a,by rw[ig];show h.2.2,by rw[decide_eq_true_eq,lJ h.1 h.2.1]}
  .cases e
 .have(h,rfl):=aX e;have(p,xs,rfl,f,a):=bW g;show .inr {p,xs,_,_,Xr,.inl (aQ f),lZ h.1 (cu c),iH h.2.1 a,by rw[ig];show h.2.2,by rw[decide_eq_true_eq,lJ h.1 h.2.1]}
 .cases e
def Bn:eC K (Ft K) inT:=by
 intro H x y k r t Q o w e q;unfold inT at e;cases h:inB k r with
 | none=>rw[h]at e;cases e
 | some b=>
  rw[h]at e;cases e;rcases w8 o w h with⟨i,j,rfl,rfl,rfl⟩|⟨p,a,d,m,u,f,g,v,s,l⟩;show .inl {i,j,Xr,Xr,q _ H (.sc rfl)}
  .show .inr (.inr {p,a,d,m,u,f,g,v,s,λc z=>?_});have:c=b:=by rw[Lc,z,l];simp
   subst this;show q _ H (.sc rfl)
def yr:eC K (oN K) pT:=by
 intro H x y k o t Q m v e q;unfold pT at e;cases h:inB k o with
 | none=>rw[h]at e;cases e
 | some b=>
  rw[h]at e;cases e;rcases w8 m v h with⟨i,j,rfl,rfl,rfl⟩|⟨p,a,d,l,s,f,g,u,r,w⟩;show .inl {i,j,Xr,Xr,q _ H (.sc rfl)}
  .show .inr (.inr {p,a,d,l,s,f,g,u,r,λc z=>?_});have:c =  ~~~b:=by cases b<;>cases c<;>simp_all
   subst this;show q _ H (.sc rfl)
abbrev l1{a:Type} (g:T->↑a) (ts:!T):↑a:=match ts with
 | []=>VE
 | t::r=>(match r with
  | []=>g t
  | _::_=>VE)
def eD{a:Type}{g:T->↑a}{ts:!T}{u : a}(h:l1 g ts*>u):∃t,ts=[t]/\g t*>u:=by
 cases ts with
 | nil=>cases h
 | cons t r=>cases r with
  | nil=>show⟨t,Xr,h⟩
  | cons _ _=>cases h
abbrev l2{a:Type} (g:T->T->↑a) (ts:!T):↑a:=match ts with
 | []=>VE
 | t::r=>l1 (g t) r
def lD{a:Type}{g:T->T->↑a}{ts:!T}{u : a}(h:l2 g ts*>u):∃t s,ts=[t,s]/\g t s*>u:=by
 cases ts with
 | nil=>cases h
 | cons t r=>
  have(s,rfl,e):=eD (show l1 (g t) r*>u from h);show⟨t,s,Xr,e⟩
abbrev GY(i:I):↑T:=match i with
 | .str x=>if x.length<=sizeLine then VF (.im (.int x.length))else VE
 | .tup a=>VF (.im (.int a.length))
 | _=>VE
abbrev GX(t:T):↑T:=match t with
 | .im i=>GY i
 | .li c=>VF (.im (.int c.length))
 | .lst a=>VF (.im (.int a.length))
 | .tup a=>VF (.im (.int a.length))
 | _=>VE
private def bG:!T->↑T:=l1 GX
def mD(h:Pr K H [t] vs):∃v,vs=[v]/\Rpx K H t v:=by
 have(v,r,rfl,c,a):=h;rw[Pr]at a;subst a;show⟨v,Xr,c⟩
def B4(h:Pr K H [t,u] vs):∃v w,vs=[v,w]/\Rpx K H t v/\Rpx K H u w:=by
 have(v,r,rfl,c,a):=h;have(w,rfl,d):=mD a;show⟨v,w,Xr,c,d⟩
def kZ(h:Rpx K H (.tup ts) v):∃a xs F,v=.ref a/\SqT K H a xs/\Rps K H ts xs F:=by
 obtain⟨F,h⟩:=h;rw[Rp]at h;obtain⟨a,xs,d,c,e⟩:=h;show⟨a,xs,F,d,c,e⟩
def yk:gM K (yR K) bG:=by
 intro H vs i t Q r e q;unfold bG at e;have g:=eD e;clear e;have(x,rfl,e):=g;have(v,rfl,f):=mD r;unfold GX at e;split at e
 .unfold GY at e;split at e
  .have(h,rfl):=aX e;rw[dy f];show .inr {_,Xr,h,q _ H (.sc rfl)}
  .cases e;have(p,a,rfl,d,c):=bX f;show .inl {p,a,Xr,.inr d,q _ H (.sc (by rw[c.length];rfl))}
  .cases e
 .cases e;have(p,a,rfl,d,c):=bW f;show .inl {p,a,Xr,.inl (aQ d),q _ H (.sc (by rw[c.length];rfl))}
 .cases e;have(p,a,F,rfl,d,c):=gx f;show .inl {p,a,Xr,.inl (aQ d),q _ H (.sc (by rw[c.length];rfl))}
 .cases e;have(p,a,F,rfl,d,c):=kZ f;show .inl {p,a,Xr,.inr d,q _ H (.sc (by rw[c.length];rfl))}
 .cases e
private def oA:!T->↑T:=l2 (i2 λa b=>VF (.im (.int (if b<a then b else a))))
def yn:gM K (λxs H Q=>∃i j,xs=[.int i,.int j]/\Q (.int (if j<i then j else i)) H) oA:=by
 intro H vs g t Q r e q;unfold oA at e;have f:=lD e;clear e;have(x,y,rfl,e):=f;have(a,b,rfl,rfl,e):=iS e;cases e;have(v,w,rfl,d,c):=B4 r;rw[aY d,aY c];show{_,_,Xr,q _ H (.sc rfl)}
private def pP:!T->↑T:=l2 (i2 λa b=>VF (.im (.int (if b>a then b else a))))
def ym:gM K (λxs H Q=>∃i j,xs=[.int i,.int j]/\Q (.int (if j>i then j else i)) H) pP:=by
 intro H vs g t Q r e q;unfold pP at e;have f:=lD e;clear e;have(x,y,rfl,e):=f;have(a,b,rfl,rfl,e):=iS e;cases e;have(v,w,rfl,d,c):=B4 r;rw[aY d,aY c];show{_,_,Xr,q _ H (.sc rfl)}
abbrev GR(t:T):↑T:=match t with
 | .im i=>(match i with
  | .int a=>VF (.im (.int a))
  | .bl b=>VF (.im (.int (if b then 1 else 0)))
  | _=>VE)
 | _=>VE
private def pE:!T->↑T:=l1 GR
def yf:gM K (λxs H Q=>(∃i,xs=[.int i]/\Q (.int i) H) \/ ∃k,xs=[.bl k]/\Q (.int (if k then 1 else 0)) H) pE:=by
 intro H vs d t Q r e q;unfold pE at e;have c:=eD e;clear e;have(x,rfl,e):=c;have(v,rfl,a):=mD r;unfold GR at e;ext e;split at e
 .cases e;rw[aY a];show .inl {_,Xr,q _ H (.sc rfl)}
 .cases e;rw[kH a];show .inr {_,Xr,q _ H (.sc rfl)}
 .cases e
abbrev B5(g:!I->T) (t:T):↑T:=match t with
 | .im i=>(match i with
  | .tup a=>VF (g a)
  | .ls a=>VF (g a)
  | _=>VE)
 | .li a=>VF (g a)
 | _=>VE
private def kn:!T->↑T:=l1 (B5 λa=>.im (.tup a))
def yw:gM K (yU K) kn:=by
 intro H vs i t Q r e q;unfold kn at e;have h:=eD e;clear e;have(x,rfl,e):=h;have(v,rfl,f):=mD r;unfold B5 at e;split at e
 .split at e
  .cases e;have(p,a,rfl,c,d):=bX f;show{p,a,Xr,.inr {c,q _ H (.im (cu f))}}
  .cases e;have(p,a,rfl,c,d):=nB f;show{p,a,Xr,.inl {aQ c,λl g=>q _ _ (.tup g d)}}
  .cases e
 .cases e;have(p,a,rfl,c,d):=bW f;show{p,a,Xr,.inl {aQ c,λl g=>q _ _ (.tup g d)}}
 .cases e
private def uV:!T->↑T:=l1 (B5 λa=>.li a)
def yl:gM K (yS K) uV:=by
 intro H vs i t Q r e q;unfold uV at e;have h:=eD e;clear e;have(x,rfl,e):=h;have(v,rfl,g):=mD r;unfold B5 at e;split at e
 .split at e
  .cases e;have(p,a,rfl,f,c):=bX g;show{p,a,Xr,.inr f,λl d=>q _ _ (.li d c)}
  .cases e;have(p,a,rfl,f,c):=nB g;show{p,a,Xr,.inl (aQ f),λl d=>q _ _ (.li d c)}
  .cases e
 .cases e;have(p,a,rfl,f,c):=bW g;show{p,a,Xr,.inl (aQ f),λl d=>q _ _ (.li d c)}
 .cases e
abbrev bls:!I->Option !Bool
 | []=>VF []
 | .bl b::a=>(bls a).map (b :: ·)
 | _=>VE
def Dt:∀{bs:!Bool},bls is*>bs->vx K H is xs->xs=bs.map V.bl:=by
 induction is generalizing xs with
 | nil=>intro bs h r;cases h;show r.nil_inv
 | cons i is d=>
  intro bs h r;cases i with
  | bl b=>
   dsimp[bls]at h;cases e:bls is with
   | none=>rw[e]at h;cases h
   | some g=>
    rw[e]at h;cases h;have(x,f,rfl,a,c):=r.cons_inv;rw[RpI]at a;rw[a,d e c];rfl
  | _=>simp[bls]at h
abbrev qN:!T->↑T
 | [.li a]=>(bls a).map λc=>.im (.bl (c.all id))
 | _=>VE
def yd:gM K (Ia K) qN:=by
 intro H vs j t Q r e q;unfold qN at e;ext e a;cases h:bls a with
 | none=>rw[h]at e;cases e
 | some d=>
  rw[h]at e;cases e;have(v,rfl,g):=mD r;have(p,i,rfl,f,c):=bW g;have:=Dt h c;subst this;show{p,d,Xr,aQ f,q _ H (.sc rfl)}
abbrev qA:!I->Option !Str
 | []=>VF []
 | .str b::a=>(qA a).map (b :: ·)
 | _=>VE
def B8:∀{bs:!Str},qA is*>bs->vx K H is xs->xs=bs.map V.str:=by
 induction is generalizing xs with
 | nil=>intro bs h r;cases h;show r.nil_inv
 | cons i is d=>
  intro bs h r;cases i with
  | str b=>
   dsimp[qA]at h;cases e:qA is with
   | none=>rw[e]at h;cases h
   | some g=>
    rw[e]at h;cases h;have(x,f,rfl,a,c):=r.cons_inv;rw[RpI]at a;rw[a,d e c];rfl
  | _=>simp[qA]at h
abbrev lB:T->!T->↑T
 | .im (.str z),[.li c]=>match qA c with
  | some a=>if(a.map (·.length)).sum+a.length*z.length<=16777216 then VF (.im (.str (Rk z a)))else VE
  | none=>VE
 | _,_=>VE
def vj:wb K "str" (C1 K) lB:=by
 intro H x vs k l t Q f r e q;unfold lB at e;ext e z i;ext e d c;ext e;cases e;have(v,rfl,h):=mD r;have(p,j,rfl,g,a):=bW h;have:=B8 c a;subst this;rw[dy f];show{z,p,d,Xr,Xr,aQ g,by assumption,q _ H (.sc rfl)}
end
end
section
variable {Γ:Gm}{H H':Hp}{X:!En}{e:En}{O:Rho}{Z:St}{E:!En}{v:V}{t:T}{K:yF}
def Sim.partN(S:Sim Γ H O Z E)(C:Pk H H'){s:T}(he:e∈E){i:↑Nat}{p:Option !Ac}(U:e.r.k=.vw i p){P:V->Prop}(hp:∀F,Rp Γ.K H e.r.t e.v F->∃w G,P w/\Rp Γ.K H' s w G/\∀a∈G,a∈F\/H a=VE):∃w,P w/\Sim Γ H' O Z ({VE,w,{.vw i VE,s}}::E):=by
 have(L,g,y):=S.sl;have l:e∈L.map (·.e):=by rw[y];show yaL _ he
 have(h,u,rfl):=JS.mp l;have(w,G,N,Y,A):=hp h.F (g.rp h u);have d:∀a,H a=VE->a∉L.flatMap Hd.own:=λa c z=>by
  have(o,e,_):=(g.ad a z).1;rw[c]at e;cases e
 have B:GW Γ H' L:=by
  have:=g.step (hs:=[]) (L:=L) (H':=H') ∅ ∅ (C.offM _) ∅ (key:=VE) (v:=.non) (r:={.ow,.im .non}) (F:=[]) KS ∅ (dF (by rw[RpI])) (.inl {Xr,by simp}) (λj f=>by cases f);show this.drop rfl
 show{w,N,{{_,B.push (v:=w) (r:={.vw i VE,s}) (F:=G) Y ?_ (.inl rfl),by rw[JN,y];rfl},S.al,S.len,λx m j f=>?_}}
 .have k:=B.kd h u;unfold Ph at k|-;rw[U]at k;cases i with
  | none=>show λa c=>(A a c).elim (k a) (d a)
  | some j=>
   have(x,x1,Q,M,x4,x5):=k;show{x,x1,Q,M,λa c=>(A a c).elim (x4 a) (λz=>.inr (d a z)),λq J=>by cases J}
 .rcases ycM m with rfl|m;cases f;show S.hi x m j f
def zp:∀{ts:!T} {xs:!V} {F:!Addr},Rps K H ts xs F->∃hs:!Hd,hs.map (·.e)=aN xs ts/\hs.flatMap (·.F)=F/\∀h∈hs,Rp K H h.e.r.t h.e.v h.F/\h.e.r.k=.ow/\h.e.key=VE/\∀a∈h.F,a∈F
 | [],xs,F,r=>by
  have(rfl,rfl):=r.nil_inv;show{[],Xr,Xr,by simp}
 | t::ts,xs,F,r=>by
  have(y,u,i,s,rfl,q,m,rfl):=r.cons_inv;have(hs,p,j,l):=zp m;show{{{VE,y,{.ow,t}},i}::hs,by rw[JN,p];rfl,by rw[JW,j],λh f=>?_};rcases ycM f with rfl|f;show{q,Xr,Xr,λa g=>yaL _ g}
  .have(a,b,c,d):=l h f;show{a,b,c,λx o=>yaR _ (d x o)}
def Sim.split(S:Sim Γ H O Z ({VE,v,{.ow,.tup ts}}::E)):∃a xs,v=.ref a/\SqT Γ.K H a xs/\xs.length=ts.length/\Sim Γ H O Z (aN xs ts++E):=by
 have(L,g,h):=S.sl;rw[Kn]at h;have(x,u,rfl,i,N):=aH h;have w:=g.rp x ymS;rw[i,Rp]at w;have(a,xs,J,B,l):=w;have o:=g.kd x ymS;unfold Ph at o;rw[i]at o;have eo:x.own=x.F:=by unfold Hd.own;rw[i];rfl
 have(m,C,e2,f):=zp l;have M:∀h∈m,h.e.r.k.isOw=VH:=λh G=>by rw[(f h G).2.1];rfl
 have d:(m++u).flatMap Hd.own=(x::u).flatMap Hd.own:=by rw[JV,JW,gY M,e2,eo]
 show{a,xs,J,B,l.length,{{m++u,{?_,?_,λy c=>?_,λy c=>?_,?_,g.fr,g.iol},?_},S.al,S.len,λy c j q=>?_}};rw[d];show g.nd;rw[d];show g.ad
 .rcases yaM c with c|c;show(f y c).1;show g.rp y (ymC _ c)
 .rcases yaM c with c|c
  .unfold Ph;rw[(f y c).2.1];show λb hb=>o b ((f y c).2.2.2 b hb)
  .have k:=g.kd y (ymC _ c);unfold Ph at k|-;split at k;show k;show k;rw[d];show k
   .have(z,s,p,Q,U,P):=k;rcases ycM s with rfl|s;rw[i]at p;cases p;show{z,yaR _ s,p,Q,by rw[d];show U,P}
 .have A:=g.ks;rw[Kf,i]at A;rw[Kj,List.filterMap_eq_nil_iff.mpr λy c=>(f y c).2.2.1];show A
 .rw[JZ,C,N,Ka]
 .rcases yaM c with c|c
  .have:∀{xs:!V} {ts:!T},y∈aN xs ts->y.key=VE:=by
    intro xs
    induction xs with
    | nil=>intro ts h;cases ts<;>cases h
    | cons x xs Y=>
     intro ts h;cases ts with
     | nil=>cases h
     | cons t ts=>
      rcases ycM h with rfl|h;rfl;show Y h
   rw[this c]at q;cases q
  .show S.hi y (ymC _ c) j q
abbrev partV(a:↑Nat):T->R
 | .im i=>{.ow,.im i}
 | t=>{.vw a VE,t}
abbrev parts:R->Option !R
 | ⟨_,.im (.tup c)⟩=>VF (c.map λi=>{.ow,.im i})
 | ⟨.ow,.tup a⟩=>VF (a.map λt=>{.ow,t})
 | ⟨.vw d _,.tup a⟩=>VF (a.map (partV d))
 | _=>VE
def nI:∀{xs:!V} {ts:!T},aN xs ts=ens xs (ts.map λt=>{.ow,t})
 | [],ts=>by cases ts<;>rfl
 | x::xs,[]=>rfl
 | x::xs,t::ts=>by rw[aN,JN,ens,nI]
def Sim.imms:∀{is:!I} {xs:!V} {E:!En},Sim Γ H O Z E->vx Γ.K H is xs->Sim Γ H O Z (ens xs (is.map λi=>{.ow,.im i})++E)
 | [],xs,E,S,r=>by obtain rfl:=r.nil_inv;show S
 | i::is,xs,E,S,r=>by
  have(x,d,rfl,c,a):=r.cons_inv;rw[JN,ens,Kn];show(Sim.imms S a).imm c
def Sim.parts(S:Sim Γ H O Z (⟨VE,v,r⟩::E))(h:L2.parts r*>rs):∃a xs,v=.ref a/\SqT Γ.K H a xs/\xs.length=rs.length/\Sim Γ H O Z (ens xs rs++E):=by
 unfold L2.parts at h;split at h
 .delta k is;cases h;have(F,r):=S.rd ymS;have(a,xs,e,m,M):=bX ⟨F,r⟩;show{a,xs,e,m,by rw[M.length,JK],(S.drop rfl).imms M}
 .delta f;cases h;have(a,xs,e,m,hl,S2):=S.split;rw[nI]at S2;show{a,xs,e,m,by rw[hl,JK],S2}
 .delta o p f;cases h;have(F,r):=S.rd ymS;have(a,xs,G,e,m,M):=kZ ⟨F,r⟩;have(L,g,hL):=S.sl;rw[Kn]at hL;have(x,s,rfl,P,h2):=aH hL;have rp:=g.rp x ymS;rw[P,Rp]at rp;have(a',l,ev,Y,A):=rp;have S3:Sim Γ H O Z (ens l (f.map (partV o))++E):=by
   have go:∀(f:!T) (xs:!V) (G:!Addr),Rps Γ.K H f xs G->(∀a∈G,a∈x.F)->∃c,GW Γ H (c++x::s)/\c.map (·.e)=ens xs (f.map (partV o))/\∀h∈c,h.e.key=VE:=by
    intro f
    induction f with
    | nil=>intro xs G r _;have(rfl,rfl):=r.nil_inv;show{[],g,Xr,by simp}
    | cons t f ih=>
     intro xs G r U;have(y,r',F1,F2,rfl,r1,r2,rfl):=r.cons_inv;have(c,B,C,N):=ih r' F2 r2 λa d=>U a (yaR _ d);have J:=B.kd x (yaR _ ymS);unfold Ph at J;rw[P]at J;have key:∃h:Hd,GW Γ H (h::(c++x::s))/\h.e={VE,y,partV o t}:=by
      have vw:GW Γ H ({{VE,y,{.vw o VE,t}},F1}::(c++x::s)):=by
       show B.push (v:=y) (r:={.vw o VE,t}) (F:=F1) r1 ?_ (.inl rfl);unfold Ph;cases o with
       | none=>show λa d=>J a (U a (yaL _ d))
       | some j=>
        have(z,z1,z2,z3,z4,z5):=J;show{z,z1,z2,z3,λa d=>z4 a (U a (yaL _ d)),λq m=>by cases m}
      cases t with
      | im i=>show{_,B.push (v:=y) (r:={.ow,.im i}) (F:=[]) (dF (aV r1).1) (λa d=>by cases d) (.inr rfl),Xr}
      | _=>show{_,vw,Xr}
     have(h,gh,eh):=key;show⟨h::c,gh,by rw[JN,eh,C];rfl,λz w=>?_⟩;rcases ycM w with rfl|w;rw[eh];show N z w
   have(c,B,C,N):=go f l x.F A λa d=>d;have g2:GW Γ H (c++s):=by
    have p:(c++x::s).Perm (x::(c++s)):=Kz;show(B.perm p).drop (by rw[P])
   show{{_,g2,by rw[JZ,C,h2,Ka]},S.al,S.len,λy u j Q=>?_};rcases yaM u with u|u
   .rw[<-C]at u;have(z,w,rfl):=JS.mp u;rw[N z w]at Q;cases Q
   .show S.hi y (ymC _ u) j Q
  show{a',l,ev,Y,by rw[A.length,JK],S3}
 .cases h
private def mGNil:MGs:={λa O=>match a with
 | []=>VF O
 | _=>VE,[]}
private def ay(g:MG)(c:MGs):MGs:={λa O=>match a with
 | r::a=>if a.all (az g.mu)=VH then(match g.run r O with
  | some d=>c.run a d
  | none=>VE)else VE
 | []=>VE,g.mu++c.mu}
private def bH(a:MGs):MG:={λr O=>match parts r with
 | some c=>a.run c O
 | none=>VE,a.mu}
def y8:mI K DK mGNil:=by unhygienic
 intro Γ H O Z E Q vs d g f a c S q;cases d with
 | nil=>
  cases a;have:vs=[]:=KR.mp c;subst this;show{Xr,q Z H (by rw[show mGNil.mu=[]from rfl,cB];show S)}
 | cons _ _=>cases a
def vA(s:jg K g m)(j:mI K gs ms):mI K (wX g gs) (ay m ms):=by unhygienic
 intro Γ H O Z E Q vs c y i a d S q;cases c with
 | nil=>cases a
 | cons r c=>
  cases vs with
  | nil=>cases d
  | cons v vs=>
   dsimp[ay]at a q;ext a x;ext a h o;show{v,vs,Xr,?_};rw[ens,Kn]at S;show s Γ H O Z _ _ v r h i o S λw l f=>?_;rw[aL,jY x]at f;show j Γ l h w _ _ vs c y i a (by exists d) f λp k u=>q p k (by rw[<-af];show u)
def y9(h:mI K gs ms)(k:∀rs O d,ms.run rs O*>d->rs.length=n):jg K (Az K n gs) (bH ms):=by
 intro Γ H O Z E Q v r d j c S q;dsimp[bH]at c q;ext c rs l;have(a,f,e,g,i,m):=S.parts l;rw[j]at g;show{a,f,e,g,by rw[i];show k _ _ _ c,h Γ H O Z _ _ f rs d j c i m q}
abbrev consL(mv:!Nat):!R->Rho->↑(!T×Rho)
 | [],O=>VF ([],O)
 | ⟨.ow,t⟩::a,O=>match consL mv a O with
  | some (d,c)=>VF (t::d,c)
  | none=>VE
 | ⟨.vw (VF i) (VF []),t⟩::a,O=>if(mv.contains i&&a.all (az [i]))=VH then(match O[i]? with
  | some (⇑_)=>(match consL mv a ((au [i] O).set i VE)with
   | some (d,c)=>VF (t::d,c)
   | none=>VE)
  | _=>VE)else VE
 | _,_=>VE
def Sim.consL:∀{rs:!R} {vs:!V} {ts:!T} {O g:Rho} {A E:!En},Sim Γ H O Z (A++(ens vs rs++E))->vs.length=rs.length->L2.consL mv rs O*>(ts,g)->(∀e∈A,e.r.k=.ow/\e.key=VE)->vs.length=ts.length/\Sim Γ H g Z (A++(aN vs ts++ah mv E))
 | [],[],ts,O,g,A,E,S,_,h,f=>by
  cases h;show{Xr,?_};have:=S.weak mv;rw[aL]at this;have q:ah mv A=A:=Lb.mpr λe c=>by unfold aD;rw[(f e c).1];rfl
  rw[q]at this;show this
 | r::rs,v::vs,ts,O,g,A,E,S,x,h,f=>by
  rw[ens,Kn]at S;have(k,t):=r;cases k with
  | ow=>
   dsimp[L2.consL]at h;ext h u y m;cases h;have(o,l):=Sim.consL (rs:=rs) (vs:=vs) (A:=A++[{VE,v,{.ow,t}}]) (E:=E) (by exists S) (by exists x) m (λe c=>by
    rcases yaM c with c|c;show f e c;rw[ysM c];show⟨Xr,Xr⟩)
   show{by simp[o],by rw[aN];simpa using l}
  | io n=>cases h
  | vw a b=>
   cases a with
   | none=>cases h
   | some i=>
    cases b with
    | none=>cases h
    | some p=>
     cases p with
     | cons _ _=>cases h
     | nil=>
      dsimp[L2.consL]at h;ext h s;rw[JL]at s;ext h L o;ext h u y m;cases h;have J:Sim Γ H O Z ({VE,v,{.vw (VF i) (VF []),t}}::(A++(ens vs rs++E))):=S.perm Kz;have l:=J.move o;have q:ah [i] A=A:=Lb.mpr λe c=>by unfold aD;rw[(f e c).1];rfl
      rw[aL,q,aL,jY s.2]at l;have(B,w):=Sim.consL (rs:=rs) (vs:=vs) (A:=A++[{VE,v,{.ow,t}}]) (E:=ah [i] E) (l.perm (by
       rw[Ka];show(Kz).symm)) (by exists x) m (λe c=>by
       rcases yaM c with c|c;show f e c;rw[ysM c];show⟨Xr,Xr⟩)
      show{by simp[B],?_};rw[aN];have C:ah mv (ah [i] E)=ah mv E:=by
       rw[af];unfold ah;congr 1;funext e;rw[jV];by_cases d:aD mv e=VH
       .rw[d,Nm];unfold aD at d|-;split
        .delta j G;rw[G]at d;have:j≠i:=λz=>by subst z;simp at d;show d (by exists s.1)
         simp[this]
        .rfl
       .rw[NC]at d;rw[d,NO]
      rw[C]at w;exists w
 | [],_::_,_,_,_,_,_,_,h,_,_=>by cases h
 | _::_,[],_,_,_,_,_,_,h,_,_=>by cases h
abbrev ims:!T->Option !I
 | []=>VF []
 | .im i::a=>(ims a).map (i :: ·)
 | _=>VE
def oq:∀{ts:!T} {is:!I},ims ts*>is->ts=is.map T.im
 | [],is,h=>by cases h;rfl
 | .im i::ts,is,h=>by
  dsimp[ims]at h;cases e:ims ts with
  | none=>rw[e]at h;cases h
  | some a=>rw[e]at h;cases h;rw[JN,<-oq e]
 | .tup _::_,_,h=>by cases h
 | .li _::_,_,h=>by cases h
 | .lst _::_,_,h=>by cases h
 | .di _::_,_,h=>by cases h
 | .dc _::_,_,h=>by cases h
 | .ins _ _::_,_,h=>by cases h
abbrev nr(ts:!T):T:=match ims ts with
 | some a=>.im (.tup a)
 | none=>.tup ts
abbrev bI(ts:!T):T:=match ims ts with
 | some a=>.li a
 | none=>.lst ts
private def ar(mv:!Nat)(a:MA):ME:={λO=>match a.run O with
 | some (c,g)=>if c.length<=1000 then(match consL mv c g with
  | some (d,f)=>VF ({.ow,nr d},f)
  | none=>VE)else VE
 | none=>VE,a.mu++mv}
private def aU(mv:!Nat)(a:MA):ME:={λO=>match a.run O with
 | some (c,g)=>if c.length<=1000 then(match consL mv c g with
  | some (d,f)=>VF ({.ow,bI d},f)
  | none=>VE)else VE
 | none=>VE,a.mu++mv}
def zC(h:n<=1000):n<=sizeLine:=by rw[Oj];omega
def zj(c:fH K ta a):be K (IJ ta) (ar mv a):=by
 intro Γ H O Z E Q r U G f S q;dsimp[ar]at f q;ext f M s l;ext f z;ext f N Y L;cases f;show c Γ H O Z E _ M s G l S λvs H1 k C=>{by rw[k];show zC z,λp J=>?_};have(h,i):=Sim.consL (A:=[]) (by exists C) k L ∅;rw[KT,af]at i;have(F,g,y,j,x):=i.use h;have d:=Pk.laid (o:=.tup vs) J;show q _ _ (x _ (.ref p) (nr N) F (d.offM _) (λa c=>let ⟨o,e,_⟩:=j a c;{o,d a o e}) y (λa c=>{.inl c,let ⟨o,e,m⟩:=j a c;{o,d a o e,m}}) ?_);unfold nr;split
 .delta P u;rw[oq u]at g;have(w,B):=Rps.ims.mp g;subst B;show dF ?_;rw[RpI];show{p,vs,Xr,SqT.of ao,w.same d}
 .rw[Rp];show{p,vs,Xr,SqT.of ao,g.same d}
def za(c:fH K ta a):be K (ID ta) (aU mv a):=by
 intro Γ H O Z E Q r O' M f S q;dsimp[aU]at f q;ext f P w u;ext f G;ext f U O2 N;cases f;show c Γ H O Z E _ P w M u S λvs H1 l L=>{by rw[l];show zC G,λp j=>?_};have(h,k):=Sim.consL (A:=[]) (by exists L) l N ∅;rw[KT,af]at k;have(F,g,C,i,B):=k.use h;have d:=Pk.laid (o:=.lst vs) j;have s:p∉F:=λz=>by have(o,e,_):=i p z;rw[j]at e;cases e
 show q _ _ (B _ (.ref p) (bI U) (p::F) (d.offM _) (λa c=>let ⟨o,e,_⟩:=i a c;{o,d a o e}) (Ks.mpr ⟨s,C⟩) (λa c=>?_) ?_)
 .rcases ycM c with rfl|c;show{.inr j,_,ao,Xr};show{.inl c,let ⟨o,e,m⟩:=i a c;{o,d a o e,m}}
 .unfold bI;split
  .delta Y x;rw[oq x]at g;have(y,J):=Rps.ims.mp g;subst J;rw[Rp];show{p,vs,Xr,.inl ao,y.same d,Xr}
  .rw[Rp];show{p,vs,F,Xr,.inl ao,g.same d,Xr}
end
section
variable {Γ:Gm}{H H':Hp}{O:Rho}{Z:St}{E:!En}{v x y:V}{t:T}{K:yF}{Q:VK}
abbrev ixK:Kd->↑Ac->↑Kd
 | .ow,_=>VF .ow
 | .io _,_=>VE
 | .vw (VF r) (VF p),VF a=>VF (.vw (VF r) (VF (p++[a])))
 | .vw c _,_=>VF (.vw c VE)
abbrev ixP(k:Kd) (a:↑Ac):T->↑R
 | .im i=>↥i
 | t=>match ixK k a with
  | some c=>VF ⟨c,t⟩
  | none=>VE
abbrev ixI(i:I) (n:Int):↑R:=match i with
 | .tup a=>(atI a n).map λi=>{.ow,.im i}
 | .ls a=>(atI a n).map λi=>{.ow,.im i}
 | .str z=>if z.length<=sizeLine then(atI (sL z) n).map λc=>{.ow,.im (.str {#[c]})}else VE
 | _=>VE
abbrev ixX(k:Kd) (t:T) (n:Int):↑R:=match t with
 | .im i=>ixI i n
 | .li c=>(atI c n).map λi=>{.ow,.im i}
 | .lst a=>(match ixN a.length n with
  | some j=>(a[j]?).bind (ixP k (VF (.ix j)))
  | none=>VE)
 | .tup a=>(match ixN a.length n with
  | some j=>(a[j]?).bind (ixP k VE)
  | none=>VE)
 | _=>VE
private def ixR(r:R)(t:T):↑R:=match isI t with
 | some n=>ixX r.k r.t n
 | none=>VE
private def mIx(a b:ME):ME:={λO=>match a.run O with
 | some (c,f)=>match b.run f with
  | some (d,e)=>if az b.mu c=VH then(match ixR c d.t with
   | some r=>VF (r,e)
   | none=>VE)else VE
  | none=>VE
 | none=>VE,a.mu++b.mu}
def lg(r:vx K H is xs)(e:atI is n*>i):∃w,atI xs n*>w/\RpI K H i w:=by
 unfold atI at e|-;rw[r.length];cases h:ixN is.length n with
 | none=>rw[h]at e;cases e
 | some j=>rw[h]at e;show r.get e
def Sim.takeO{s:T}(S:Sim Γ H O Z ({VE,x,{.ow,t}}::E)){P:V->Prop}(hp:∀F,Rp Γ.K H t x F->∃w A G B,P w/\Rp Γ.K H s w G/\F=A++G++B):∃w,P w/\Sim Γ H O Z ({VE,w,{.ow,s}}::E):=by
 have(F,l,g,f,h):=Sim.use (vs:=[x]) (ts:=[t]) S rfl;have(y,r,i,q,e,m,j,rfl):=l.cons_inv;cases e;have:=j.nil_inv.2;subst this;rw[Kb]at g f h;have(w,A,G,B,p,k,rfl):=hp i m;have d:∀a∈G,a∈A++G++B:=λa c=>yaL _ (yaR _ c);show{w,p,h H w s G (Pd.refl _ _) (λa c=>let ⟨o,e,_⟩:=f a c;⟨o,e⟩) (JP.mp (JP.mp g).1).2.1 (λa c=>{.inl (d a c),f a (d a c)}) k}
def qP{a:Type}{xs:!a}{n:Int}{j m:Nat}{w : a}(h:ixN m n*>j)(c:xs.length=m)(d:xs[j]?*>w):atI xs n*>w:=by
 unfold atI;rw[c,h];show d
def Sim.ixL{k:Kd}{ts:!T}{s:T}{j:Nat}{n:Int}{r:R}(S:Sim Γ H O Z ({VE,x,{k,.lst ts}}::E))(hn:ixN ts.length n*>j)(hj:ts[j]?*>s)(M:L2.ixP k (VF (.ix j)) s*>r) :
  ∃w,(∀Q:VK,Q w H->rIx Γ.K x (.int n) H Q)/\Sim Γ H O Z (⟨VE,w,r⟩::E):=by
 have h:∀F,Rp Γ.K H (.lst ts) x F->∃w A G B,(∀Q:VK,Q w H->rIx Γ.K x (.int n) H Q)/\Rp Γ.K H s w G/\F=A++G++B:=λF g=>by
  rw[Rp]at g;have(a,Y,F',rfl,f,u,rfl):=g;have(w,A,G,B,h4,h5,h6,_,_):=u.at hj;show{w,a::A,G,B,λQ q=>.inl {a,Y,n,w,Xr,Xr,aQ f,qP hn u.length h4,q},h5,by rw[h6];simp}
 have c:∀N p,k=.vw N p->∃w,(∀Q:VK,Q w H->rIx Γ.K x (.int n) H Q)/\Sim Γ H O Z ({VE,w,{.vw N VE,s}}::E):=λN p hk=>by
  have(w,l,S2):=S.part (e:={VE,x,{k,.lst ts}}) ymS hk (P:=λw=>∀Q:VK,Q w H->rIx Γ.K x (.int n) H Q) (s:=s) (λF g=>by
   have(w,A,G,B,l,f,u):=h F g;show{w,G,l,f,λa ha=>by rw[u];show yaL _ (yaR _ ha)})
  show{w,l,S2.swap.drop rfl}
 have X:∀C,ixK k (VF (.ix j))*>C->∃w,(∀Q:VK,Q w H->rIx Γ.K x (.int n) H Q)/\Sim Γ H O Z ({VE,w,⟨C,s⟩}::E):=λC d=>by
  cases k with
  | ow=>
   cases d;show S.takeO h
  | io m=>cases d
  | vw N p=>
   cases N with
   | none=>
    cases d;show c VE p rfl
   | some i=>
    cases p with
    | none=>cases d;show c (VF i) VE rfl
    | some p=>
     cases d;have(w,l,S2):=S.partP (e:={VE,x,{.vw (VF i) (VF p),.lst ts}}) ymS rfl (a:=.ix j) (s:=s) hj;show{w,λQ q=>?_,S2.swap.drop rfl};have(F,g):=S.rd ymS;have(a,Y,G,e1,f,u):=gx ⟨F,g⟩;have(a',J,e2,L,g2):=l;have z:x=.ref a:=e1;have U:x=.ref a':=e2;rw[z]at U;cases U;have e3:J=Y:=by
      rcases f with f|⟨o,f⟩;rw[f]at L;cases L;rfl;rw[f]at L;cases L
     subst e3;rw[z];show .inl {a,J,n,w,Xr,Xr,SqL.of L,qP hn u.length g2,q}
 cases s with
 | im i=>
  cases M;have(F,g):=S.rd ymS;have(w,A,G,B,l,f,_):=h F g;show{w,l,(S.drop rfl).imm (aV f).1}
 | _=>
  dsimp[L2.ixP]at M;split at M;delta C e;cases M;show X C e;cases M
def Sim.ixT{k:Kd}{ts:!T}{s:T}{j:Nat}{n:Int}{r:R}(S:Sim Γ H O Z ({VE,x,{k,.tup ts}}::E))(M:ixN ts.length n*>j)(hj:ts[j]?*>s)(o:L2.ixP k VE s*>r) :
  ∃w,(∀Q:VK,Q w H->rIx Γ.K x (.int n) H Q)/\Sim Γ H O Z (⟨VE,w,r⟩::E):=by
 have c:∀F,Rp Γ.K H (.tup ts) x F->∃w A G B,(∀Q:VK,Q w H->rIx Γ.K x (.int n) H Q)/\Rp Γ.K H s w G/\F=A++G++B:=λF g=>by
  rw[Rp]at g;have(a,J,rfl,l,z):=g;have(w,A,G,B,X,N,h6,_,_):=z.at hj;show{w,A,G,B,λQ q=>.inr (.inl {a,J,n,w,Xr,Xr,l,qP M z.length X,q}),N,h6}
 have u:∀f,ixK k VE*>f->∃w,(∀Q:VK,Q w H->rIx Γ.K x (.int n) H Q)/\Sim Γ H O Z ({VE,w,⟨f,s⟩}::E):=λf d=>by
  cases k with
  | ow=>
   cases d;show S.takeO c
  | io m=>cases d
  | vw C p=>
   have Y:f=.vw C VE:=by cases C<;>cases p<;>cases d<;>rfl
   subst Y;have(w,h,U):=S.part (e:={VE,x,{.vw C p,.tup ts}}) ymS rfl (P:=λw=>∀Q:VK,Q w H->rIx Γ.K x (.int n) H Q) (s:=s) (λF g=>by
    have(w,A,G,B,h,l,z):=c F g;show{w,G,h,l,λa L=>by rw[z];show yaL _ (yaR _ L)})
   show{w,h,U.swap.drop rfl}
 cases s with
 | im i=>
  cases o;have(F,g):=S.rd ymS;have(w,A,G,B,h,l,_):=c F g;show{w,h,(S.drop rfl).imm (aV l).1}
 | _=>
  dsimp[L2.ixP]at o;split at o;delta f e;cases o;show u f e;cases o
def Sim.ixR(h:L2.ixR ra tb*>r)(S:Sim Γ H O Z (⟨VE,x,ra⟩::E))(G:Rpx Γ.K H tb y):∃w,(∀Q:VK,Q w H->rIx Γ.K x y H Q)/\Sim Γ H O Z (⟨VE,w,r⟩::E):=by
 have a:Rpx Γ.K H ra.t x:=S.rd (e:=⟨VE,x,ra⟩) ymS;unfold L2.ixR at h;ext h n J;cases dL J;have(L,C):=ra;replace a:Rpx Γ.K H C x:=a;rw[aY G];unfold ixX at h;dsimp only at h;split at h
 .unfold ixI at h;split at h
  .delta d;cases h0:atI d n with
   | none=>rw[h0]at h;cases h
   | some i=>
    rw[h0]at h;cases h;have(p,f,l,o,k):=bX a;have(w,g,m):=lg k h0;show{w,λQ q=>.inr (.inl ⟨p,f,n,w,l,Xr,o,g,q⟩),(S.drop rfl).imm m}
  .delta d;cases h0:atI d n with
   | none=>rw[h0]at h;cases h
   | some i=>
    rw[h0]at h;cases h;have(p,f,l,o,k):=nB a;have(w,g,m):=lg k h0;show{w,λQ q=>.inl {p,f,n,w,l,Xr,aQ o,g,q},(S.drop rfl).imm m}
  .delta z;ext h B;cases h0:atI (sL z) n with
   | none=>rw[h0]at h;cases h
   | some c=>
    rw[h0]at h;cases h;show{_,λQ q=>.inr (.inr {z,n,c,dy a,Xr,B,h0,q}),(S.drop rfl).imm (kI rfl)}
  .cases h
 .delta d;cases h0:atI d n with
  | none=>rw[h0]at h;cases h
  | some i=>
   rw[h0]at h;cases h;have(p,f,l,o,k):=bW a;have(w,g,m):=lg k h0;show{w,λQ q=>.inl {p,f,n,w,l,Xr,aQ o,g,q},(S.drop rfl).imm m}
 .delta A;ext h j u;cases h0:A[j]? with
  | none=>rw[h0]at h;cases h
  | some s=>
   rw[h0]at h;show S.ixL u h0 h
 .delta A;ext h j u;cases h0:A[j]? with
  | none=>rw[h0]at h;cases h
  | some s=>
   rw[h0]at h;show S.ixT u h0 h
 .cases h
def FF(g:be K ta a)(z:be K tb b):be K (tOp (rIx K) ta tb) (mIx a b):=by unhygienic
 intro Γ H O Z E Q r G e c S q;dsimp[mIx]at c;ext c u f k;ext c m J p;ext c s;ext c B A;cases c;show g Γ H O Z E _ u f e k S λx i l=>?_;show z Γ i f Z _ _ m _ e p l λy C d=>?_;rw[ax (bj s),af]at d;have j:=d.rd ymS;have(w,o,h):=Sim.ixR A (d.drop rfl) j;rw[<-e];show o Q (q w _ h)
structure MO where
 run:Rho->↑(↑Int×Rho)
 mu:!Nat
abbrev qM(K:yF)(c:TO)(m:MO):Prop:=∀(Γ:Gm) (H:Hp) (O:Rho) (Z:St) (E:!En) (Q:↑Int->Hp->Prop) (o:↑Int) (a:Rho),Γ.K=K->m.run O*>(o,a)->Sim Γ H O Z E->(∀H',Sim Γ H' a Z (ah m.mu E)->Q o H')->c Z H Q
private def mNoPart:MO:={λO=>VF (VE,O),[]}
private def ff(a:ME):MO:={λO=>match a.run O with
 | some (⟨_,.im (.int n)⟩,c)=>VF (VF n,c)
 | _=>VE,a.mu}
def r9:qM K ui mNoPart:=by unhygienic
 intro Γ H O Z E Q o d c a S q;cases a;show q H (by rw[show mNoPart.mu=[]from rfl,cB];show S)
def zg(e:be K ta a):qM K (uj ta) (ff a):=by unhygienic
 intro Γ H O Z E Q o j h c S q;dsimp[ff]at c;ext c k n i g;cases c;show e Γ H O Z E _ _ _ h g S λx f d=>{n,aY (d.rd ymS),q f (d.drop rfl)}
def vx.cut(r:vx K H is xs)(lo a:↑Int):vx K H (cy is lo a) (ln xs lo a):=by
 unfold cy ln;rw[r.length];show(r.drop _).take _
def Rps.cut(r:Rps K H ts xs F)(lo a:↑Int):∃A G B,Rps K H (cy ts lo a) (ln xs lo a) G/\F=A++G++B:=by
 unfold cy ln;rw[r.length];have(A,g,e,c,rfl):=r.take (HT.sIx ts.length 0 lo);have(G,B,d,f,rfl):=c.take (HT.sIx ts.length ts.length a-HT.sIx ts.length 0 lo);show{A,G,B,d,by simp}
abbrev slI(i:I) (lo c:↑Int):↑R:=match i with
 | .tup a=>if HT.sIx a.length 0 lo=0/\HT.sIx a.length a.length c=a.length then VE else ↥(.tup (cy a lo c))
 | .str z=>if z.length<=sizeLine then ↥(.str (oL (cy (sL z) lo c)))else VE
 | _=>VE
abbrev slX(k:Kd) (t:T) (lo a:↑Int):↑R:=match t with
 | .li c=>⇑(.li (cy c lo a))
 | .im i=>slI i lo a
 | .lst e=>(match k with
  | .vw d _=>VF {.vw d VE,.lst (cy e lo a)}
  | _=>VE)
 | _=>VE
private def slR(r:R)(lo a:↑Int):↑R:=slX r.k r.t lo a
private def mSl(a:ME)(lo c:MO):ME:={λO=>match a.run O with
 | some (d,g)=>match lo.run g with
  | some (l,f)=>match c.run f with
   | some (h,e)=>if az (lo.mu++c.mu) d=VH then(match slR d l h with
    | some r=>VF (r,e)
    | none=>VE)else VE
   | none=>VE
  | none=>VE
 | none=>VE,a.mu++(lo.mu++c.mu)}
def FJ{ta:TE}{tl th:TO}{a:ME}{lo hi:MO}(ha:be K ta a)(hl:qM K tl lo)(hh:qM K th hi):be K (tSl (rSl K) ta tl th) (mSl a lo hi):=by unhygienic
 intro Γ H O Z E Q r O' L f S q;dsimp[mSl]at f;ext f ra O1 e1;ext f l O2 e2;ext f h O3 e3;ext f al;ext f r0 c;cases f;show ha Γ H O Z E _ ra O1 L e1 S λx H1 S1=>?_;show hl Γ H1 O1 Z _ _ l _ L e2 S1 λH2 S2=>?_;show hh Γ H2 O2 Z _ _ h _ L e3 S2 λH3 j=>?_;rw[af,ax (bj al),af]at j;have k:=j.rd ymS;unfold slR slX at c;have(k0,t0):=ra;replace k:Rpx Γ.K H3 t0 x:=k;dsimp only at c;split at c
 .cases c;have(p,g,m,e,z):=bW k;show .inr (.inl {p,g,m,aQ e,λp i=>q _ _ ((j.drop rfl).fresh (.li i (z.cut l h)))})
 .unfold slI at c;split at c
  .delta is;split at c;cases c
   .delta M;cases c;have(p,g,m,e,z):=bX k;rw[L]at e;show .inl {p,g,m,e,by rw[z.length];show M,λp i=>q _ _ ((j.drop rfl).fresh (.tup i (z.cut l h)))}
  .ext c hz;cases c;show .inr (.inr {_,dy k,hz,q _ _ ((j.drop rfl).imm (kI rfl))})
  .cases c
 .delta ts;ext c ro p0;cases c;have(p,g,F,N,e,z):=gx k;have m:x=.ref p:=N;show .inr (.inl {p,g,m,aQ e,λu i=>?_});have(w,M,S4):=j.partN (H':=upd H3 u (.lst (ln g l h))) (Pk.laid i) (s:=.lst (cy ts l h)) ymS rfl (P:=λw=>w=.ref u) (λF rp=>by
   have C:Rp Γ.K H3 (.lst ts) x F:=rp;rw[Rp]at C;have(a',X,F',J,d,Y,rfl):=C;rw[m]at J;cases J;have e3:X=g:=by
    rcases e with e|⟨o,e⟩<;>rcases d with d|⟨o',d⟩<;>rw[e]at d<;>cases d<;>rfl
   subst e3;have(A,G,B,g3,rfl):=Y.cut l h;show{.ref u,u::G,Xr,?_,λb U=>?_}
   .rw[Rp];show{u,_,G,Xr,.inl ao,g3.same (Pk.laid i),Xr}
   .rcases ycM U with rfl|U;show .inr i;show .inl (ymC _ (yaL _ (yaR _ U))))
  subst M;show q _ _ (S4.swap.drop rfl)
 .cases c
private def zk:T->↑T
 | .im (.tup a)=>VF (.im (.tup a.reverse))
 | _=>VE
def BR(o:be K e a):be K (zJ K e) (mUn zk a):=by unhygienic
 intro Γ H O Z E Q r G i c S q;dsimp[mUn]at c;ext c j C s;ext c t f;cases c;show o Γ H O Z E _ j _ i s S λx J h=>?_;have A:=h.rd ymS;have(k,e):=j;unfold zk at f;ext f l w;cases f;have d:e=.im (.tup l):=w;subst d;have(p,m,u,g,z):=bX A;rw[i]at g;show{p,m,u,g,λp B=>q _ _ ((h.drop rfl).fresh (.tup B z.reverse))}
abbrev fb(K:yF)(red:V->!V->Hp->VK->Prop)(f:T->!T->↑(T×I)):Prop:=∀(H:Hp) (w:V) (vs:!V) (s:T) (e:!T) (d:T) (i:I) (G F:!Addr) (Q:VK),Rp K H s w G->Rps K H e vs F->(G++F).Nodup->(∀a∈G++F,Mu H a)->f s e*>(d,i) ->
 (∀v H' c,Pd G H H'->(∀a∈G,∃o,H' a*>o)->c.Nodup->(∀a∈c,(a∈G++F\/H a=VE)/\Mu H' a)->Rp K H' d w c->RpI K H' i v->Q v H')->red w vs H Q
private def mutR(i:Nat)(mv:!Nat)(f:T->!T->↑(T×I))(r0:R)(rs:!R)(d:Rho):↑(R×Rho):=match r0 with
 | ⟨.vw (VF j) (VF p),s⟩=>if(decide (j=i) &&  ~~~mv.contains i)=VH then(match consL mv rs d with
  | some (g,c)=>(match f s g with
   | some (e,a)=>(match c[i]? with
    | some (VF ⟨k,t⟩)=>if k.isOw=VH then VF ({.ow,.im a},(au [i] c).set i (VF {k,t.put p e}))else VE
    | _=>VE)
   | none=>VE)
  | none=>VE)else VE
 | _=>VE
def Sim.mutR(J : Γ.K=K)(hp:fb K red f)(h:L2.mutR i mv f r0 rs O1*>(r,O'))(X:vs.length=rs.length)(S:Sim Γ H O1 Z (ens vs rs++⟨VE,x,r0⟩::E))(q:∀v H',Sim Γ H' O' Z (⟨VE,v,r⟩::ah (mv++[i]) E)->Q v H'):red x vs H Q:=by
 unfold L2.mutR at h;ext h j p s;ext h B;rw[JL,decide_eq_true_eq,Kt]at B;have(rfl,l):=B;ext h ts O2 L;ext h z o Y;ext h k t e3;ext h P;cases h;have(m,w):=Sim.consL (A:=[]) (by exists S) X L ∅;rw[KT,ax (show aD mv {VE,x,{.vw (VF j) (VF p),s}}=VH by unfold aD;dsimp[Kd.root];rw[l];rfl)]at w;have(G,F,u,C,U,N,M):=w.mut m e3 P;rw[J]at u C;show hp H x vs s ts z o G F Q u C U N Y λv H' G' a b c d e g=>q v H' ?_;rw[<-af];rw[<-J]at e g;show(M H' z G' a b c d e).imm g
private def dm(i:Nat)(mv:!Nat)(f:T->!T->↑(T×I))(o:ME)(a:MA):ME:={λO=>match o.run O with
 | some (c,e)=>match a.run e with
  | some (d,g)=>if az a.mu c=VH then L2.mutR i mv f c d g else VE
  | none=>VE
 | none=>VE,(o.mu++a.mu)++(mv++[i])}
def BM(hp:fb K red f)(g:∀(H:Hp) (x:V) (h:T) ts r,Rpx K H h x->f h ts*>r->tyV K T0 x H)(u:be K to o)(m:fH K ta a):be K (tBM K T0 red to ta) (dm i mv f o a):=by
 intro Γ H O Z E Q r M e c S q;dsimp[dm]at c q;ext c w A s;ext c J L p;ext c G;show u Γ H O Z E _ w _ e s S λx k l=>?_;have d:=l.rd ymS;rw[e]at d;show{?_,?_}
 .unfold L2.mutR at c;ext c;ext c;ext c;ext c C;show g k x _ _ _ d C
 .show m Γ k A Z _ _ J _ e p l λvs N z j=>?_;rw[ax (bj G),af]at j;show Sim.mutR e hp c z j λv H' B=>q v H' (by rw[<-af];show B)
private def nc(i:Nat)(f:T->!T->↑(T×I))(o:ME):ME:={λO=>match o.run O with
 | some (a,c)=>L2.mutR i [] f a [] c
 | none=>VE,o.mu++[i]}
def zb(hp:fb K red f)(d:∀(H:Hp) (x:V) (g:T) ts r,Rpx K H g x->f g ts*>r->tyV K T0 x H)(s:be K to o):be K (FM K T0 red to) (nc i f o):=by
 intro Γ H O Z E Q r w e a S q;dsimp[nc]at a q;ext a j u p;show s Γ H O Z E _ j _ e p S λx k h=>?_;have c:=h.rd ymS;rw[e]at c;show{?_,?_}
 .unfold L2.mutR at a;ext a;ext a;ext a;ext a m;show d k x _ _ _ c m
 .show Sim.mutR (vs:=[]) (mv:=[]) e hp a rfl h λv H' l=>q v H' (by rw[<-af];show l)
def lK(h:Rp K H (.li is) w G)(c:∀a∈G,Mu H a):∃a xs,w=.ref a/\H a*>(.lst xs)/\vx K H is xs/\G=[a]:=by
 rw[Rp]at h;have(a,xs,e,d,f,rfl):=h;show{a,xs,e,(c a ymS).lst d,f,Xr}
def D9(h:Rp K H (.lst ts) w G)(c:∀a∈G,Mu H a):∃a xs F,w=.ref a/\H a*>(.lst xs)/\Rps K H ts xs F/\G=a::F:=by
 rw[Rp]at h;have(a,xs,F,e,d,f,rfl):=h;show{a,xs,F,e,(c a ymS).lst d,f,Xr}
def je(g:H a*>(.lst xs))(h:vx K H is' xs')(f:RpI K H i v)
  (q:∀v H' d,Pd [a] H H'->(∀b∈[a],∃o,H' b*>o)->d.Nodup->(∀b∈d,(b∈[a]++F\/H b=VE)/\Mu H' b)->Rp K H' (.li is') (.ref a) d->RpI K H' i v->Q v H'):Q v (upd H a (.lst xs')):=by
 have e:∀b∈[a],Mu H b:=λb c=>by rw[ysM c];show{_,g,Xr}
 show q v _ [a] Pd.upd (λb c=>by rw[ysM c];show{_,ao}) ∅ (λb c=>?_) ?_ (f.off Pd.upd e);rw[ysM c];show{.inl ∅,_,ao,Xr};rw[Rp];show{a,xs',Xr,.inl ao,h.off Pd.upd e,Xr}
def um(r:H a*>(.lst xs))(f:(a::F').Nodup)(k:∀b∈F',Mu H b)(s:∀b∈F',b∈(a::G)++F)(p:Rps K H ts' xs' F')(l:RpI K H i v)
  (q:∀v H' d,Pd (a::G) H H'->(∀b∈a::G,∃o,H' b*>o)->d.Nodup->(∀b∈d,(b∈(a::G)++F\/H b=VE)/\Mu H' b)->Rp K H' (.lst ts') (.ref a) d->RpI K H' i v->Q v H') (u:∀b∈G,∃o,H b*>o):Q v (upd H a (.lst xs')):=by
 have j:∀b∈[a],Mu H b:=λb c=>by rw[ysM c];show{_,r,Xr}
 have g:∀b∈F',b≠a:=λb c z=>(Ks.mp f).1 (z▸c);show q v _ (a::F') (Pd.upd.mono λb c=>by rw[ysM c];show ymS) (λb c=>?_) f (λb c=>?_) ?_ (l.off Pd.upd j)
 .by_cases e:b=a;subst e;show{_,ao}
  .rcases ycM c with z|z;show absurd z e;have(o,h):=u b z;show{o,by rw[upd_ne e];show h}
 .rcases ycM c with rfl|c;show{.inl ∅,_,ao,Xr}
  .show{.inl (s b c),?_};have(o,h,m):=k b c;show{o,by rw[upd_ne (g b c)];show h,m}
 .rw[Rp];show{a,xs',F',Xr,.inl ao,p.off Pd.upd j (λb c z=>g b c (ysM z)),Xr}
abbrev ap1(s t:T):↑(T×I):=match s with
 | .li a=>(match t with
  | .im i=>if a.length<sizeLine then VF (.li (a++[i]),.non)else VE
  | _=>if a.length<sizeLine then VF (.lst (a.map .im++[t]),.non)else VE)
 | .lst c=>if c.length<sizeLine then VF (.lst (c++[t]),.non)else VE
 | _=>VE
private def apT(s:T)(ts:!T):↑(T×I):=l1 (ap1 s) ts
def vF(h:Rps K H [t] vs F):∃v,vs=[v]/\Rp K H t v F:=by
 have(v,r,d,e,rfl,a,c,rfl):=h.cons_inv;have(rfl,rfl):=c.nil_inv;show{v,Xr,by rw[Kb];show a}
def JB(h:Rps K H [t,u] vs F):∃v w a c,vs=[v,w]/\Rp K H t v a/\Rp K H u w c/\F=a++c:=by
 have(v,r,a,c,rfl,d,e,rfl):=h.cons_inv;have(w,rfl,f):=vF e;show⟨v,w,a,c,Xr,d,f,Xr⟩
def ce:RpI K H .non .non:=by rw[RpI]
def pZ:fb K oJ apT:=by
 intro H w vs s L J i G F Q g A p j e q;unfold apT at e;have u:=eD e;clear e;have(B,rfl,e):=u;have(y,rfl,o):=vF A;unfold ap1 at e;split at e
 .delta C;have(a,k,rfl,f,d,rfl):=lK g λa m=>j a (yaL _ m);split at e
  .have(h,e):=aX e;cases e;show{a,k,y,Xr,Xr,f,by rw[d.length];show h,je f (d.append (.one (aV o).1)) ce q}
  .have(h,e):=aX e;cases e;show{a,k,y,Xr,Xr,f,by rw[d.length];show h,um (G:=[]) (F:=F) (F':=F) f p (λb c=>j b (yaR _ c)) (λb c=>yaR _ c) ?_ ce q ∅};have:=Rps.append (Rps.ims.mpr ⟨d,Xr⟩) (Rps.cons o Rps.nil);exists this
 .have(h,e):=aX e;cases e;have(a,k,l,rfl,f,d,rfl):=D9 g λa m=>j a (yaL _ m);have r:∀b∈l++F,b∈(a::l)++F:=λb c=>(yaM c).elim (λz=>yaL _ (ymC _ z)) λz=>yaR _ z;show{a,k,y,Xr,Xr,f,by rw[d.length];show h,um (G:=l) (F:=F) (F':=l++F) f (by exists p) (λb c=>j b (r b c)) r ?_ ce q (λb c=>d.dom b c)};have:=Rps.append d (Rps.cons o Rps.nil);exists this
 .cases e
def ul(h:Rpx K H (.li is) x):tyV K "list" x H:=by
 have(a,c,rfl,d,e):=bW h;show .inl {Xr,c,aQ d}
def FV(h:Rpx K H (.lst is) x):tyV K "list" x H:=by
 have(a,c,F,rfl,d,e):=gx h;show .inl {Xr,c,aQ d}
def vR(H:Hp)(x:V)(a:T)(ts:!T)(r:T×I)(h:Rpx K H a x)(e:apT a ts*>r):tyV K "list" x H:=by
 unfold apT at e;have(t,_,e):=eD e;unfold ap1 at e;split at e;show ul h;show FV h;cases e
abbrev DD(s t:T):↑(T×I):=match xc s with
 | some c=>(match xc t with
  | some a=>if c.length+a.length<=sizeLine then VF (.li (c++a),.non)else VE
  | none=>(match DS t with
   | some a=>if c.length+a.length<=sizeLine then VF (.li (c++a),.non)else VE
   | none=>VE))
 | none=>VE
private def oe(s:T)(ts:!T):↑(T×I):=l1 (DD s) ts
def qa:fb K (yQ K) oe:=by
 intro H w vs s P M i G F Q g B N r e q;unfold oe at e;have z:=eD e;clear e;have(J,rfl,e):=z;have(y,rfl,l):=vF B;unfold DD at e;ext e L C;cases fM C;have(a,o,rfl,d,f,rfl):=lK g λa u=>r a (yaL _ u);split at e
 .delta A h;cases fM h;have(m,e):=aX e;cases e;rw[Rp]at l;have(b,k,rfl,j,c,rfl):=l;show .inl {a,b,o,k,Xr,Xr,d,j,by rw[f.length,c.length];show m,je d (f.append c) ce q}
 .ext e A h;cases pF h;have(m,e):=aX e;cases e;have p:=(aV l).1;rw[RpI]at p;have(b,k,rfl,j,c):=p;show .inr {a,b,o,k,Xr,Xr,d,j,by rw[f.length,c.length];show m,je d (f.append c) ce q}
def vS(H:Hp)(x:V)(a:T)(ts:!T)(r:T×I)(h:Rpx K H a x)(e:oe a ts*>r):tyV K "list" x H:=by
 unfold oe at e;have(t,_,e):=eD e;unfold DD at e;ext e d c;cases fM c;show ul h
private def pX:T->!T->↑(T×I)
 | .li a,[]=>match a[a.length-1]? with
  | some i=>VF (.li a.dropLast,i)
  | none=>VE
 | _,_=>VE
def vx.dropLast(h:vx K H is xs):vx K H is.dropLast xs.dropLast:=by
 rw[M7,M7,h.length];show h.take _
def yt:fb K Fx pX:=by
 intro H w vs s A z i G F Q d o u h e q;unfold pX at e;ext e p;ext e j m;cases e;have(a,k,rfl,f,c,rfl):=lK d λa l=>h a (yaL _ l);have(rfl,rfl):=o.nil_inv;have(y,g,r):=c.get m;rw[<-c.length]at g;show{a,k,y,Xr,Xr,f,g,je f c.dropLast r q}
def FW(H:Hp)(x:V)(a:T)(ts:!T)(r:T×I)(h:Rpx K H a x)(e:pX a ts*>r):tyV K "list" x H:=by
 unfold pX at e;split at e;show ul h;cases e
abbrev DQ(s n t:T):↑(T×I):=match xc s with
 | some a=>(match isI n with
  | some n=>(match t with
   | .im i=>if 0<=n/\n<=a.length/\a.length<sizeLine then VF (.li (a.take n.toNat++i::a.drop n.toNat),.non)else VE
   | _=>VE)
  | none=>VE)
 | none=>VE
private def ot(s:T)(ts:!T):↑(T×I):=l2 (DQ s) ts
def qb:fb K oM ot:=by
 intro H w vs s S M i G F Q d A P h e q;unfold ot at e;have o:=lD e;clear e;have(N,C,rfl,e):=o;have(y,z,j,L,rfl,p,u,rfl):=JB A;unfold DQ at e;ext e J B;cases fM B;have(a,k,rfl,g,c,rfl):=lK d λa l=>h a (yaL _ l);ext e n r;cases dL r;ext e;have(f,e):=aX e;cases e;have m:=aY ⟨j,p⟩;subst m;show{a,k,n,z,Xr,Xr,g,f.1,by rw[c.length];show f.2.1,by rw[c.length];show f.2.2,je g ((c.take _).append (.cons (aV u).1 (c.drop _))) ce q}
def vT(H:Hp)(x:V)(a:T)(ts:!T)(r:T×I)(h:Rpx K H a x)(e:ot a ts*>r):tyV K "list" x H:=by
 unfold ot at e;have(t,u,_,e):=lD e;unfold DQ at e;ext e d c;cases fM c;show ul h
private def zw(s:T)(n:T)(v:T):↑T:=match s,n,v with
 | .li a,.im (.int n),.im i=>match ixN a.length n with
  | some j=>VF (.li (a.set j i))
  | none=>VE
 | _,_,_=>VE
private def rC(j:Nat)(o i:ME):MG:={λr O=>match r with
 | ⟨.ow,d⟩=>match o.run O with
  | some (⟨.vw (VF g) (VF p),s⟩,e)=>match i.run e with
   | some (c,a)=>if(decide (g=j) &&  ~~~i.mu.contains j)=VH then(match zw s c.t d with
    | some f=>(match a[j]? with
     | some (VF ⟨k,t⟩)=>if k.isOw=VH then VF ((au [j] a).set j (VF {k,t.put p f}))else VE
     | _=>VE)
    | none=>VE)else VE
   | none=>VE
  | _=>VE
 | _=>VE,(o.mu++i.mu)++[j]}
def vx.set'(a:RpI K H i w)(n:Nat)(h:vx K H is xs):vx K H (is.set n i) (xs.set n w):=vx.set a n h
def BU(ho:be K to o)(P:be K ti i):jg K (DL to ti C8) (rC j o i):=by
 intro Γ H O Z E Q v r O' C c S q;dsimp[rC]at c q;ext c B;ext c j' p s O1 e1;ext c l O2 e2;ext c A;rw[JL,decide_eq_true_eq,Kt]at A;have(rfl,g):=A;ext c s' e;ext c k t e4;ext c N;cases c;show ho Γ H O Z _ _ _ _ C e1 S λx Y S1=>?_;show P Γ Y O1 Z _ _ _ _ C e2 S1 λy H2 h=>?_;have L:aD i.mu {VE,x,{.vw (VF j') (VF p),s}}=VH:=by unfold aD;dsimp[Kd.root];rw[g];rfl
 have k2:∀M:!Nat,aD M {VE,v,{.ow,B}}=VH:=λM=>rfl;rw[ax L,af,ax (k2 _)]at h;have ry:=h.rd ymS;have S3:=h.drop rfl;have(G,F,h1,h2,h3,h4,h5):=Sim.mut (vs:=[v]) (ts:=[B]) (S3.perm (List.Perm.swap _ _ _)) rfl e4 N;generalize f:l.t=tri at e;unfold zw at e;ext e is n i0;ext e m hm;cases e;have(a,xs,rfl,w,u,rfl):=lK h1 λa J=>h4 a (yaL _ J);have(z,X,g3):=vF h2;cases X;have(g4,rfl):=aV g3;have d:∃F,Rp Γ.K H2 l.t y F:=ry;have ey:y=.int n:=by rw[f]at d;show aY d
 subst ey;show{a,xs,n,m,Xr,Xr,w,by rw[u.length];show hm,?_};show je (Q:=λ_ H'=>Q Z H') (F:=[]) (v:=.non) (i:=.non) w (u.set' g4 m) ce λv' H' G' U a2 a3 a4 a5 _=>q Z H' ?_;have:=h5 H' _ G' U a2 a3 a4 a5;rw[af]at this;show this
end
section
variable {Γ:Gm}{H H':Hp}{O:Rho}{Z:St}{E:!En}{v x y:V}{t:T}{K:yF}{Q:VK}
def jW(h:∀j∈N,j∈M)(k:aD M e=VH):aD N e=VH:=by
 unfold aD at k|-;split at k
 .delta j a;dsimp[Kt,K2,decide_eq_false_iff_not]at k|-;show λz=>k (h j z)
 .rfl
def cZ(h:∀j∈N,j∈M)(E:!En):ah N (ah M E)=ah M E:=by
 unfold ah;rw[Lb];intro e a;show jW h (JX.mp a).2
abbrev itW(c:MT) (b:MS):Nat->Rho->↑(Fl×Rho)
 | 0,_=>VE
 | n+1,O=>match c.run O with
  | some (VH,d)=>(match b.run d with
   | some (.nx,a)=>itW c b n a
   | some (.ct,a)=>itW c b n a
   | some (.bk,a)=>VF (.nx,a)
   | some (.rt t,a)=>VF (.rt t,a)
   | none=>VE)
  | some (VG,d)=>VF (.nx,d)
  | none=>VE
def fO:∀{n:Nat} {O:Rho} {r:Fl×Rho},itW c b n O*>r->∀m,n<=m->itW c b m O*>r
 | 0,_,_,h,_,_=>by cases h
 | n+1,O,r,h,m,f=>by
  obtain⟨a,rfl⟩:∃a,m=a+1:={m-1,by omega};rw[itW]at h|-;split at h
  .delta i g;split at h;delta e d;show fO h a ⋯;delta e d;show fO h a ⋯;show h;show h;show h
  .show h
  .show h
abbrev zS(c:MT) (b:MS) (O:Rho):↑(Fl×Rho):=@dite _ (∃n,(itW c b n O).isSome=VH) (Classical.propDecidable _) (λh=>itW c b (Rw h) O) (λ_=>VE)
private def ge(c:MT)(b:MS):MS:={zS c b,c.mu++b.mu}
def vV(h:itW c b n O*>r):(ge c b).run O*>r:=by unhygienic
 have d:∃n,(itW c b n O).isSome=VH:={n,by rw[h];rfl};change zS c b O=_;unfold zS;rw[dif_pos d];have f:=Classical.choose_spec d;cases e:itW c b (Rw d) O with
 | none=>rw[e]at f;cases f
 | some i=>
  have a:=fO h (max n (Rw d)) (MW _ _);have g:=fO e (max n (Rw d)) (MJ _ _);rw[a]at g;show g.symm
def Ag(h:(ge c b).run O*>r):∃n,itW c b n O*>r:=by unhygienic
 have a:zS c b O*>r:=h;unfold zS at a;split at a;show{_,a};cases a
def vD(G:fo K tc c)(u:cD K tb b):cD K (zK tc tb) (ge c b):=by unhygienic
 intro Γ H O Z E D f C r U Y S q;have(n,P):=Ag Y;have qe:(ge c b).mu=c.mu++b.mu:=rfl;rw[qe]at q;have w:ah c.mu (ah (c.mu++b.mu) E)=ah (c.mu++b.mu) E:=cZ (λj A=>yaL _ A) E;have s:ah b.mu (ah (c.mu++b.mu) E)=ah (c.mu++b.mu) E:=cZ (λj A=>yaR _ A) E;have d:=bC (M:=c.mu++b.mu) U;have N:=S.weak (c.mu++b.mu);generalize ah (c.mu++b.mu) E=E0 at q w s d N;show{λm Z H=>∃O,itW c b m O*>(f,C)/\Sim Γ H O Z E0,⟨n,O,P,N⟩,?_}
 .rintro m i J ⟨B,a,L⟩;cases m with
  | zero=>cases a
  | succ m=>
   rw[itW]at a;split at a
   .delta o z;show G Γ J B i E0 _ VH o r z L λp h=>rl ?_;rw[w]at h;show{λl H'=>∃O,itW c b m O*>(f,C)/\Sim Γ H' O l E0,λl H' ⟨g,X,e⟩=>{m,NB m,g,X,e},?_};split at a
    .delta g k;show u Γ p o i E0 _ .nx g r d k h λl H' e=>{g,a,by rw[s]at e;show e}
    .delta g k;show u Γ p o i E0 _ .ct g r d k h λl H' e=>{g,a,by rw[s]at e;show e}
    .delta g k;cases a;show u Γ p o i E0 _ .bk _ r d k h λl H' e=>q l H' (by rw[s]at e;show e)
    .delta t g k;cases a;show u Γ p o i E0 _ (.rt t) _ r d k h q
    .cases a
   .delta o z;cases a;show G Γ J B i E0 _ VG _ r z L λp h=>rk (q i p (by rw[w]at h;show h))
   .cases a
structure MI where
 run:Rho->↑((!R×!R)×Rho)
 mu:!Nat
abbrev iO(Γ:Gm)(J:It)(vs:!V)(a:!R)(items:!R):Prop:=∀(H:Hp) (O:Rho) (Z:St) (E:!En),Sim Γ H O Z (ens vs a++E)->(∀i,items.length<=i->J.stop i H)/\∀i r,items[i]?*>r->J.go i H/\∀x H',J.yld i H x H'->Sim Γ H' O Z (⟨VE,x,r⟩::(ens vs a++E))
abbrev le(K:yF)(g:TI)(m:MI):Prop:=∀(Γ:Gm) (H:Hp) (O:Rho) (Z:St) (E:!En) (f:It->Hp->Prop) (a:!R) (c:!R) (e:Rho),Γ.K=K->m.run O*>((a,c),e)->Sim Γ H O Z E->(∀d:Gm,d.K=Γ.K->(∀H O Z E,Sim d H O Z E->Sim Γ H O Z E)->∀J vs H',vs.length=a.length->Sim d H' e Z (ens vs a++ah m.mu E)->iO d J vs a c->f J H')->g Z H f
def eg:∀{A:!En},(∀e∈A,aD M e=VH)->ah M A=A
 | [],_=>rfl
 | e::A,h=>by rw[ax (h e ymS),eg λx a=>h x (ymC _ a)]
def lq:∀{vs:!V} {rs:!R},rs.all (az M)=VH->∀e∈ens vs rs,aD M e=VH
 | [],rs,_,e,h=>by cases rs<;>cases h
 | _::_,[],_,e,h=>by cases h
 | v::vs,r::rs,a,e,h=>by
  rw[Lj,JL]at a;rcases ycM h with rfl|h;show a.1;show lq a.2 e h
def pk:∀{vs:!V} {rs:!R},∀e∈ens vs rs,e.key=VE
 | [],rs,e,h=>by cases rs<;>cases h
 | _::_,[],e,h=>by cases h
 | v::vs,r::rs,e,h=>by
  rcases ycM h with rfl|h;rfl;show pk e h
abbrev lX(n:Int):R:={.ow,.im (.int n)}
abbrev r8:R:={.ow,.im .non}
abbrev i8(lo:Int) (n:Nat):!R:=(Kk n).map λi:Nat=>lX (lo+(i:Int))
def qH{lo:Int}{n:Nat}:iO Γ (Itr lo n) [.non] [r8] (i8 lo n):=λH O Z E S=>by
 show{λi f=>(show n<=i by simpa[i8]using f),λi r a=>?_};unfold i8 at a;rw[JR]at a;cases e:(Kk n)[i]? with
 | none=>rw[e]at a;cases a
 | some m=>
  rw[e]at a;cases a;have(d,c):=JJ.mp e;simp at d c;subst c;show{d,λx H' y=>?_};have(rfl,rfl):=y;show S.imm (kI rfl)
abbrev ii2(x y:T):↑(Int×Int):=match isI x with
 | some i=>(match isI y with
  | some j=>VF (i,j)
  | none=>VE)
 | none=>VE
def AE{x y:T}{i j:Int}(h:ii2 x y*>(i,j)):x=.im (.int i)/\y=.im (.int j):=by
 unfold ii2 at h;ext h a d;ext h b c;cases h;show{dL d,dL c}
private def bt(a:MA):MI:={λO=>match a.run O with
 | some (c,d)=>(match l1 isI (c.map (·.t))with
  | some j=>if -(2^62)<=j/\j<2^62 then VF (([r8],i8 0 j.toNat),d)else VE
  | none=>VE)
 | none=>VE,a.mu}
private def gG(a:MA):MI:={λO=>match a.run O with
 | some (c,d)=>(match l2 ii2 (c.map (·.t))with
  | some (i,j)=>if -(2^62)<=i/\i<2^62/\-(2^62)<=j/\j<2^62 then VF (([r8],i8 i (j-i).toNat),d)else VE
  | none=>VE)
 | none=>VE,a.mu}
def zh(i:fH K ta a):le K (CB ta) (bt a):=by unhygienic
 intro Γ H O Z E C z d B s c S q;dsimp[bt]at c;ext c G A l;ext c j m;have(f,e):=aX c;cases e;have(t,u,o):=eD m;cases dL o;show i Γ H O Z E _ _ _ s l S λvs p r g=>?_;have h:=g.rds r;rw[u]at h;have(w,rfl,k):=mD h;show{j,by rw[aY k],f.1,f.2,q Γ rfl (λ_ _ _ _ S=>S) _ [.non] p rfl ?_ qH};show g.drops.imm ce
def zi(h:fH K ta a):le K (CC ta) (gG a):=by unhygienic
 intro Γ H O Z E L C d J A c S q;dsimp[gG]at c;ext c N G l;ext c i j m;have(r,e):=aX c;cases e;have(t,u,B,o):=lD m;have(rfl,rfl):=AE o;show h Γ H O Z E _ _ _ A l S λvs p s f=>?_;have g:=f.rds s;rw[B]at g;have(w,M,rfl,k,z):=B4 g;show{i,j,by rw[aY k,aY z],r,q Γ rfl (λ_ _ _ _ S=>S) _ [.non] p rfl ?_ qH};show f.drops.imm ce
abbrev iU:R->Option !R
 | ⟨_,.li a⟩=>VF (a.map λi=>{.ow,.im i})
 | ⟨.vw c _,.lst d⟩=>VF (d.map (partV c))
 | ⟨_,.im (.ls a)⟩=>VF (a.map λi=>{.ow,.im i})
 | _=>VE
abbrev lA:R->Option !R
 | ⟨_,.im (.tup a)⟩=>VF (a.map λi=>{.ow,.im i})
 | _=>VE
abbrev xp(a:ME):MI:={λO=>match a.run O with
 | some (r,d)=>(match iU r with
  | some c=>VF (([r],c),d)
  | none=>VE)
 | none=>VE,a.mu}
abbrev D5(a:ME):MI:={λO=>match a.run O with
 | some (r,d)=>(match lA r with
  | some c=>VF (([r],c),d)
  | none=>VE)
 | none=>VE,a.mu}
def Rd.det(h:Rd H a (.lst xs))(g:Rd H a (.lst ys)):xs=ys:=by
 rcases h with h|⟨o,h⟩<;>rcases g with g|⟨c,g⟩<;>rw[h]at g<;>cases g<;>rfl
def aI{d c:Type}{f : d->c}{l:!d}{i:Nat}{b : c}(h:(l.map f)[i]?*>b):∃a,l[i]?*>a/\f a=b:=by
 rw[JR]at h;cases e:l[i]? with
 | none=>rw[e]at h;cases h
 | some a=>rw[e]at h;show{a,Xr,Ke.inj h}
def Sim.partV(S:Sim Γ H O Z E)(d:e∈E)(j:e.r.k=.vw ro p)(hp:∀F,Rp Γ.K H e.r.t e.v F->∃G,Rp Γ.K H s w G/\∀a∈G,a∈F):Sim Γ H O Z ({VE,w,L2.partV ro s}::E):=by
 cases s with
 | im i=>
  have(F,r):=S.rd d;have(G,g,_):=hp F r;show S.imm (aV g).1
 | _=>
  have(c,f,h):=S.part d j (P:=λc=>c=w) (s:=_) (λF r=>let ⟨G,g,l⟩:=hp F r;⟨w,G,Xr,g,l⟩);subst f;show h
def Gk{a:Addr}{g:R}{items:!R}(c:iU g*>items):iO Γ (Itl Γ.K a) [.ref a] [g] items:=λH O Z E S=>by
 replace S:Sim Γ H O Z ({VE,.ref a,g}::E):=S;have C:Rpx Γ.K H g.t (.ref a):=S.rd (e:={VE,.ref a,g}) ymS;unfold iU at c;split at c
 .cases c;have(J,f,m,d,l):=bW C;cases m;show{λi c=>{f,aQ d,by rw[l.length];simpa using c},λi r u=>?_};have(j,o,rfl):=aI u;have(w,k,h):=l.get o;show{{f,w,aQ d,k},λx H' y=>?_};obtain⟨rfl,y⟩:=y;have:=y f (aQ d);rw[k]at this;cases this;show S.imm h
 .delta ro p L;cases c;have(J,f,F,m,d,l):=gx C;cases m;show{λi c=>{f,aQ d,by rw[l.length];simpa using c},λi r u=>?_};have(j,o,rfl):=aI u;have(w,A,G,B,k,h,_):=l.at o;show{{f,w,aQ d,k},λx H' y=>?_};obtain⟨rfl,y⟩:=y;have:=y f (aQ d);rw[k]at this;cases this;show S.partV (e:={VE,.ref a,{.vw ro p,.lst L}}) ymS rfl λF X=>?_;have s:Rp Γ.K _ (.lst L) (.ref a) F:=X;rw[Rp]at s;have(P,U,F',m,N,Y,rfl):=s;cases m;have:=N.det d;subst this;have(w',A',G',B',q,z,M,_):=Y.at o;rw[k]at q;cases q;show{G',z,λb hb=>by rw[M];show ymC _ (yaL _ (yaR _ hb))}
 .cases c;have(J,f,m,d,l):=nB C;cases m;show{λi c=>{f,aQ d,by rw[l.length];simpa using c},λi r u=>?_};have(j,o,rfl):=aI u;have(w,k,h):=l.get o;show{{f,w,aQ d,k},λx H' y=>?_};obtain⟨rfl,y⟩:=y;have:=y f (aQ d);rw[k]at this;cases this;show S.imm h
 .cases c
def oR(r:be K ta a):le K (tq K ta) (xp a):=by
 intro Γ H O Z E B l i A p g S q;dsimp[xp]at g;ext g f z s;ext g C h;cases g;show r Γ H O Z E _ _ _ p s S λx j m=>?_;have k:Rpx Γ.K j f.t x:=m.rd (e:=⟨VE,x,f⟩) ymS;have w:∃a c,x=.ref a/\SqL K j a c:=by
  unfold iU at h;split at h;have(a,c,e,d,o):=bW k;show{a,c,e,aQ d};have(a,c,F,e,d,o):=gx k;show{a,c,e,aQ d};have(a,c,e,d,o):=nB k;show{a,c,e,aQ d};cases h
 have(b,c,rfl,u):=w;show{b,Xr,⟨c,u⟩,q Γ rfl (λ_ _ _ _ S=>S) _ [.ref b] j rfl m (by rw[<-p];show Gk h)}
def Gn{a:Addr}{c:R}{items:!R}(d:lA c*>items):iO Γ (Itt Γ.K a) [.ref a] [c] items:=λH O Z E S=>by
 replace S:Sim Γ H O Z ({VE,.ref a,c}::E):=S;have q:Rpx Γ.K H c.t (.ref a):=S.rd (e:={VE,.ref a,c}) ymS;unfold lA at d;ext d;cases d;have(s,f,m,h,l):=bX q;cases m;show{λi d=>{f,h,by rw[l.length];simpa using d},λi r p=>?_};have(j,o,rfl):=aI p;have(w,k,g):=l.get o;show{⟨f,w,h,k⟩,λx H' y=>?_};obtain⟨rfl,y⟩:=y;have:=y f h;rw[k]at this;cases this;show S.imm g
def BL(o:be K ta a):le K (AD K ta) (D5 a):=by
 intro Γ H O Z E A k h z j f S q;dsimp[D5]at f;ext f d w p;ext f C g;cases f;show o Γ H O Z E _ _ _ j p S λx i m=>?_;have u:Rpx Γ.K i d.t x:=m.rd (e:=⟨VE,x,d⟩) ymS;have s:∃a c,x=.ref a/\SqT K i a c:=by
  unfold lA at g;split at g;have(a,c,e,l,B):=bX u;rw[j]at l;show⟨a,c,e,l⟩;cases g
 have(b,c,rfl,r):=s;show{b,Xr,⟨c,r⟩,q Γ rfl (λ_ _ _ _ S=>S) _ [.ref b] i rfl m (by rw[<-j];show Gn g)}
def Pu.back{Γ c:Gm}{d:Rho}{E:!En}{D:Pw}{f:Fl}(bk:∀H O Z E,Sim c H O Z E->Sim Γ H O Z E)(q:Pu Γ d E D f):Pu c d E D f:=by
 cases f with
 | nx=>show λa H' S=>q a H' (bk _ _ _ _ S)
 | bk=>show λa H' S=>q a H' (bk _ _ _ _ S)
 | ct=>show λa H' S=>q a H' (bk _ _ _ _ S)
 | rt t=>show λv a H' S=>q v a H' (bk _ _ _ _ S)
abbrev f7(g:R->Rho->↑Rho) (b:Rho->↑(Fl×Rho)):!R->Rho->↑(Fl×Rho)
 | [],O=>VF (.nx,O)
 | r::c,O=>match g r O with
  | some d=>(match b d with
   | some (.nx,a)=>f7 g b c a
   | some (.ct,a)=>f7 g b c a
   | some (.bk,a)=>VF (.nx,a)
   | some (.rt t,a)=>VF (.rt t,a)
   | none=>VE)
  | none=>VE
private def cr(it:MI)(g:MG)(b:MS):MS:={λO=>match it.run O with
 | some ((c,a),d)=>if(c.all (az (g.mu++b.mu))&&a.all (az (g.mu++b.mu)))=VH then f7 g.run b.run a d else VE
 | none=>VE,it.mu++(g.mu++b.mu)}
def t9(hi:le K wi it)(hg:jg K g mg)(N:cD K tb b):cD K (IA wi g tb) (cr it mg b):=by
 intro Γ H O Z E D f O' o hE L S q;dsimp[cr]at L q;ext L c a O1 e1;ext L al;rw[JL]at al;show hi Γ H O Z E _ c a O1 o e1 S λΓ hK2 bk J vs H1 hlv S1 wk=>?_;replace o:=hK2.trans o;replace q:=Pu.back bk q;rw[<-af]at q;have A:=bC (M:=it.mu) hE;generalize ah it.mu E=E1 at q S1 A;have Y:∀e∈ens vs c,aD (mg.mu++b.mu) e=VH:=lq al.1;have kg:ah mg.mu (ens vs c++ah (mg.mu++b.mu) E1)=ens vs c++ah (mg.mu++b.mu) E1:=by
  rw[aL,eg (λe k=>jW (λj s=>yaL _ s) (Y e k)),cZ (λj s=>yaL _ s)]
 have P:ah b.mu (ens vs c++ah (mg.mu++b.mu) E1)=ens vs c++ah (mg.mu++b.mu) E1:=by
  rw[aL,eg (λe k=>jW (λj s=>yaR _ s) (Y e k)),cZ (λj s=>yaR _ s)]
 have S2:=S1.weak (mg.mu++b.mu);rw[aL,eg Y]at S2;have B:=bC (M:=mg.mu++b.mu) A;generalize ah (mg.mu++b.mu) E1=E2 at q kg P S2 B;have h:∀e∈ens vs c++E2,e.key=VE:=λe k=>by
  rcases yaM k with k|k;show pk e k;show B e k
 show{λi m Z H=>m=a.length-i/\i<=a.length/\∃O,f7 mg.run b.run (a.drop i) O*>(f,O')/\Sim Γ H O Z (ens vs c++E2),{a.length,by simp,Ld _,O1,by simpa using L,S2},?_};rintro i m Z1 H2 ⟨rfl,hil,O2,d,S3⟩;have(w1,w2):=wk H2 O2 Z1 E2 S3;by_cases u:i<a.length
 .have hx:a[i]?=VF a[i]:=by simp[u]
  have(w3,w4):=w2 i _ hx;rw[KW u,f7]at d;show .inr {w3,λz H'=>∃O,f7 mg.run b.run (a.drop (i+1)) O*>(f,O')/\Sim Γ H' O z (ens vs c++E2),λz H' ⟨w,h3,X⟩=>{a.length-(i+1),by omega,Xr,u,w,h3,X},λx H3 y=>?_};have X:=w4 x H3 y;ext d w e3;show hg Γ H3 O2 Z1 _ _ x _ w o e3 X λU G C=>?_;rw[kg]at C;split at d
  .delta r p;show N Γ G w U _ _ .nx r o h p C λz H' l=>{r,d,by rw[P]at l;show l}
  .delta r p;show N Γ G w U _ _ .ct r o h p C λz H' l=>{r,d,by rw[P]at l;show l}
  .delta r p;cases d;show N Γ G w U _ _ .bk _ o h p C λz H' l=>q z H' (by rw[P]at l;show l.drops)
  .delta t r p;cases d;show N Γ G w U _ _ (.rt t) _ o h p C q
  .cases d
 .have e:i=a.length:=by omega
  subst e;rw[Mf,f7]at d;cases d;show .inl {w1 _ (JQ _),q Z1 H2 S3.drops}
end
abbrev kj(π:Nat->Nat):Kd->Kd
 | .vw (VF j) p=>.vw (VF (π j)) p
 | k=>k
abbrev jL(π:Nat->Nat) (r:R):R:={kj π r.k,r.t}
abbrev bV(π:Nat->Nat) (e:En):En:={e.key.map π,e.v,jL π e.r}
section
variable {Γ:Gm}{H H':Hp}{O:Rho}{Z:St}{E X:!En}{v x y:V}{t:T}{K:yF}{Q:VK}{π:Nat->Nat}
def uc(k:Kd):(kj π k).isOw=k.isOw:=by
 cases k with
 | vw a b=>cases a<;>rfl
 | _=>rfl
def nA(k:Kd):(kj π k).root=k.root.map π:=by
 cases k with
 | vw a b=>cases a<;>rfl
 | _=>rfl
def Pc.ren(S:Pc Γ H X)(inj:∀e∈X,∀f∈X,∀a b,e.key*>a->f.key*>b->π a=π b->a=b):Pc Γ H (X.map (bV π)):=by
 have(L,g,rfl):=S;have c:∀L:!Hd,(L.map λh:Hd=>({bV π h.e,h.F}:Hd)).flatMap Hd.own=L.flatMap Hd.own:=by
  intro L
  induction L with
  | nil=>rfl
  | cons h L q=>
   rw[JN,JW,JW,q];congr 1;unfold Hd.own;change(if(kj π h.e.r.k).isOw=VH then h.F else [])=_;rw[uc]
 show{L.map λh=>{bV π h.e,h.F},{by rw[c];show g.nd,by rw[c];show g.ad,λh s=>?_,λh s=>?_,?_,g.fr,g.iol},by rw[Kr,Kr];rfl}
 .have(i,u,rfl):=JS.mp s;show g.rp i u
 .have(i,u,rfl):=JS.mp s;have k:=g.kd i u;unfold Ph at k|-;change match kj π i.e.r.k with
   | .ow=>_|.io k=>_|.vw VE _=>_|.vw (VF j) p=>_
  cases ek:i.e.r.k with
  | ow=>rw[ek]at k;show k
  | io n=>rw[ek]at k;show k
  | vw a p=>
   rw[ek]at k;cases a with
   | none=>rw[c];show k
   | some j=>
    have(x,N,G,B,M,C):=k;show{{bV π x.e,x.F},Kv N,by change x.e.key.map π=_;rw[G];rfl,by change(kj π x.e.r.k).isOw=VH;rw[uc];show B,λa A=>by rw[c];show M a A,C}
 .rw[LF];have e:(λh:Hd=>h.e.key)∘(λh:Hd=>({bV π h.e,h.F}:Hd))=λh=>h.e.key.map π:=rfl;rw[e];have:∀d:!Hd,(∀h∈d,h∈L)->(d.filterMap λh=>h.e.key).Nodup->(d.filterMap λh=>h.e.key.map π).Nodup:=by
   intro d
   induction d with
   | nil=>intro _ _;show KS
   | cons h d q=>
    intro m l;rw[Kf]at l|-;cases ek:h.e.key with
    | none=>rw[ek]at l;show q (λx w=>m x (ymC _ w)) l
    | some a=>
     rw[ek]at l;have(J,P):=Ks.mp l;show Ks.mpr {λU=>?_,q (λx w=>m x (ymC _ w)) P};have(y,z,o):=KB.mp U;cases eb:y.e.key with
     | none=>rw[eb]at o;cases o
     | some b=>
      rw[eb]at o;have Y : π b=π a:=Ke.inj o;have:=inj y.e (Kv (m y (ymC _ z))) h.e (Kv (m h ymS)) b a eb ek Y;subst this;show J (KB.mpr ⟨y,z,eb⟩)
  show this L (λ_ h=>h) g.ks
def Pc.filt(S:Pc Γ H X)(p:En->Bool)(hp:∀e∈X,p e=VH->∀j,e.r.k.root*>j->∀f∈X,f.key*>j->p f=VH):Pc Γ H (X.filter p):=by
 have(L,g,rfl):=S;show{L.filter λh=>p h.e,g.sub KM λh m j l x a i o=>?_,by rw[LJ];rfl};have(d,c):=JX.mp m;show JX.mpr {a,hp h.e (Kv d) c j l x.e (Kv a) i}
def ents_iff:e∈aF 0 Z O ↔ ∃i,e.key*>i/\O[i]?*>(VF e.r)/\Z[i]?*>(VF e.v):=by
 constructor
 .intro h;have(i,c,a,d):=dk h;show{i,by rw[c,KP],a,d}
 .rintro⟨i,c,a,d⟩;have:=(bE (k:=0) d a).mem_iff.mpr ymS;have f:e={VF (0+i),e.v,e.r}:=by cases e;dsimp[En.mk.injEq,and_self,and_true,KP];show c
  rw[f];show this
def n9:∀{k:Nat} {Z:! ↑V} {O:Rho},(aF k Z O).Pairwise λa b=>∃i j,a.key*>i/\b.key*>j/\i<j
 | _,[],_=>List.Pairwise.nil
 | _,x::_,[]=>by cases x<;>show List.Pairwise.nil
 | k,x::Z,y::O=>by
  have c:=n9 (k:=k+1) (Z:=Z) (O:=O);cases x with
  | none=>simpa[aF]using c
  | some v=>
   cases y with
   | none=>simpa[aF]using c
   | some r=>
    dsimp[aF];show List.Pairwise.cons (λb e=>?_) c;have(i,d,_,_):=dk e;show{k,k+1+i,Xr,d,by lia}
def ents_nodup:(aF k Z O).Nodup:=by
 show List.Pairwise.imp ?_ n9;rintro a b ⟨i,j,d,c,e⟩ rfl;rw[d]at c;cases c;lia
abbrev cb(fr:! ↑Nat) (j:Nat):Bool:=match fr[j]? with
 | some (VF i)=>i==j
 | _=>VG
abbrev piF(fr:! ↑Nat) (j:Nat):Nat:=if cb fr j=VH then j else fr.length+j
abbrev psF(fr:! ↑Nat) (k:Nat):Nat:=if k<fr.length then k else k-fr.length
abbrev kN(π:Nat->Nat):Nat->! ↑Nat->Rho->Rho
 | _,[],_=>[]
 | k,o::a,r::O=>(if o*>k then r.map (jL π)else VE)::kN π (k+1) a O
 | k,o::a,[]=>VE::kN π (k+1) a []
abbrev inR(fr:! ↑Nat) (O:Rho):Rho:=kN (piF fr) 0 fr O
abbrev iM(d : Nat->Nat) (c a:!Nat):Nat->! ↑Nat->Rho->Rho->Rho
 | k,o::f,e::g,r::O=>(if o*>k then(cF c e).map (jL d)else cF a r)::iM d c a (k+1) f g O
 | _,[],_,O=>O.map (cF a)
 | _,_::_,[],O=>O.map (cF a)
 | _,_::_,_::_,[]=>[]
abbrev tgF(fr:! ↑Nat):!Nat:=(Kk fr.length).filter λi=> ~~~cb fr i
abbrev muF(fr:! ↑Nat) (a:!Nat):!Nat:=a.filter (cb fr)
abbrev de(fr:! ↑Nat) (a:!Nat) (c O:Rho):Rho:=iM (psF fr) (tgF fr) (muF fr a) 0 fr c O
def capB_iff:cb fr j=VH↔fr[j]?*>(VF j):=by
 unfold cb;split;delta i h;rw[h];simp
 .delta h;constructor;intro z;cases z;intro z;show absurd z (h j)
def lv:∀{k:Nat} {fr:! ↑Nat} {O:Rho} {i:Nat} {a:R},(kN π k fr O)[i]?*>(VF a)↔fr[i]?*>(VF (k+i))/\∃r,O[i]?*>(VF r)/\a=jL π r
 | k,[],O,i,a=>by simp[kN]
 | k,o::fr,[],0,a=>by simp[kN]
 | k,o::fr,[],i+1,a=>by
  rw[kN,K3,lv (k:=k+1) (fr:=fr) (O:=[]) (i:=i)];simp
 | k,o::fr,r::O,0,a=>by
  rw[kN,Lq,Lq,Lq];by_cases h:o*>k
  .subst h;rw[if_pos rfl];cases r with
   | none=>simp
   | some r=>simp[eq_comm]
  .rw[if_neg h];constructor;intro z;cases z;rintro⟨c,_⟩;show absurd (by exists c) h
 | k,o::fr,r::O,i+1,a=>by
  rw[kN,K3,K3,K3,lv (k:=k+1) (fr:=fr) (O:=O) (i:=i),show k+1+i=k+(i+1) by lia]
def jq:∀{k:Nat} {fr:! ↑Nat} {O:Rho},(kN π k fr O).length=fr.length
 | k,[],O=>rfl
 | k,o::fr,[]=>by rw[kN,JY,jq,JY]
 | k,o::fr,r::O=>by rw[kN,JY,jq,JY]
def inR_get:(inR fr O)[i]?*>(VF r')↔cb fr i=VH/\∃r,O[i]?*>(VF r)/\r'=jL (piF fr) r:=by
 unfold inR;rw[lv,KP,capB_iff]
def jr(h:cb fr i=VH):(bn fr Z)[i]?*>(Z.getD i VE):=by
 unfold bn;rw[JR,capB_iff.mp h];rfl
def getD_some:Z.getD i VE*>v↔Z[i]?*>(VF v):=by
 rw[Kl];cases h:Z[i]? with
 | none=>simp
 | some o=>simp
def dS(h:cb fr j=VH):piF fr j=j:=by unfold piF;rw[if_pos h]
def cM(h:cb fr j=VG):piF fr j=fr.length+j:=by unfold piF;rw[if_neg (by rw[h];simp)]
def bM(h:cb fr j=VH):j<fr.length:=(JJ.mp (capB_iff.mp h)).1
def Be(h:piF fr a=piF fr b):a=b:=by
 cases ha:cb fr a<;>cases hb:cb fr b;rw[cM ha,cM hb]at h;lia;rw[cM ha,dS hb]at h;have:=bM hb;lia;rw[dS ha,cM hb]at h;have:=bM ha;lia;rw[dS ha,dS hb]at h;show h
def yy(a:Nat):psF fr (piF fr a)=a:=by
 cases ha:cb fr a;rw[cM ha];unfold psF;rw[if_neg (by lia)];lia;rw[dS ha];unfold psF;rw[if_pos (bM ha)]
def oS(e:En):bV (psF fr) (bV (piF fr) e)=e:=by
 obtain⟨c,v,⟨k,t⟩⟩:=e;have f:(c.map (piF fr)).map (psF fr)=c:=by cases c<;>simp[yy]
 have d:kj (psF fr) (kj (piF fr) k)=k:=by
  cases k with
  | vw a p=>cases a<;>simp[kj,yy]
  | _=>rfl
 change({(c.map (piF fr)).map (psF fr),v,{kj (psF fr) (kj (piF fr) k),t}}:En)=_;rw[f,d]
abbrev fJ(fr:! ↑Nat) (e:En):Bool:=match e.key with
 | some j=>cb fr j
 | none=>VG
def j3{c o:Type}{f : c->o}{l:!c}(h:l.Nodup)(inj:∀a∈l,∀b∈l,f a=f b->a=b):(l.map f).Nodup:=by
 induction l with
 | nil=>show KS
 | cons a l j=>
  have(k,g):=Ks.mp h;rw[JN];show Ks.mpr {λm=>?_,j g λx i y p=>inj x (ymC _ i) y (ymC _ p)};have(b,d,e):=JS.mp m;have:=inj b (ymC _ d) a ymS e;subst this;show k d
def inn_perm{fr:! ↑Nat}:((aF 0 Z O).map (bV (piF fr))).Perm (aF 0 (bn fr Z) (inR fr O)++((aF 0 Z O).filter λe=> ~~~fJ fr e).map (bV (piF fr))):=by
 have inj:∀a∈aF 0 Z O,∀b∈aF 0 Z O,bV (piF fr) a=bV (piF fr) b->a=b:=λa _ b _ h=>by
  have:=congrArg (bV (psF fr)) h;rwa [oS,oS]at this
 have l:=j3 (ents_nodup (k:=0) (Z:=Z) (O:=O)) inj;have u:(((aF 0 Z O).filter λe=> ~~~fJ fr e).map (bV (piF fr))).Nodup:=l.sublist (KM.map _);show(Mq l (JP.mpr {ents_nodup,u,?_})).mpr λe=>?_
 .rintro a L b P rfl;have(i,s,w,z):=ents_iff.mp L;have(c,_):=inR_get.mp w;have(f,g,rfl):=JS.mp P;have(B,d):=JX.mp g;have(j,m,G,J):=ents_iff.mp B;have M:cb fr j=VG:=by unfold fJ at d;rw[m]at d;exists d
  have q:(f.key.map (piF fr))*>i:=s;rw[m]at q;have o:piF fr j=i:=by exists q
  rw[cM M]at o;have:=bM c
  lia
 .rw[LU];constructor
  .intro p;have(f,g,rfl):=JS.mp p;have(j,m,G,J):=ents_iff.mp g;cases c:cb fr j;show .inr (JS.mpr {f,JX.mpr {g,by unfold fJ;rw[m];simp[c]},Xr})
   .left;show ents_iff.mpr {j,?_,inR_get.mpr {c,_,G,Xr},?_}
    .change f.key.map (piF fr)=_;rw[m];simp[dS c]
    .rw[jr c,getD_some.mpr J];rfl
  .rintro(p|p)
   .have(i,s,w,z):=ents_iff.mp p;have(c,r,N,C):=inR_get.mp w;rw[jr c]at z;have A:=getD_some.mp (Ke.inj z);show JS.mpr {{VF i,e.v,r},ents_iff.mpr ⟨i,Xr,N,A⟩,?_};cases e;simp only at s C;simp[bV,dS c,s,C]
   .have(f,g,rfl):=JS.mp p;show Kv (JX.mp g).1
abbrev gl(fr:! ↑Nat) (Z:St) (O:Rho) (E:!En):!En:=(E++(aF 0 Z O).filter λe=> ~~~fJ fr e).map (bV (piF fr))
abbrev dJ(fr:! ↑Nat) (n:Nat):Bool:=decide (n<=fr.length)&&(Kk fr.length).all λi=> ~~~cb fr i||decide (i<n)
def oj(h:dJ fr n=VH)(a:cb fr j=VH):j<n:=by
 unfold dJ at h;rw[JL]at h;have:=Ky.mp h.2 j (Lk.mpr (bM a));rw[a]at this;exists this
def Sim.inn(S:Sim Γ H O Z E)(m:dJ fr O.length=VH):Sim Γ H (inR fr O) (bn fr Z) (gl fr Z O E):=by
 show{?_,λi r h=>?_,by rw[cq];unfold inR;rw[jq],λe k j o=>?_}
 .have:=S.sl.ren (π:=piF fr) λe _ f _ a b _ _ h=>Be h;rw[JZ]at this;show this.perm ?_;unfold gl;rw[JZ,Ka];show(inn_perm.append_left _).trans (List.perm_append_comm.append_left _)
 .have(d,l,q,_):=inR_get.mp h;have(v,s):=S.al i l q;show{v,by rw[jr d,getD_some.mpr s]}
 .unfold inR;rw[jq];unfold gl at k;have(f,g,rfl):=JS.mp k;have c:f.key.map (piF fr)*>j:=o;cases hk:f.key with
  | none=>rw[hk]at c;cases c
  | some i=>
   rw[hk]at c;have p:piF fr i=j:=by exists c
   have d:cb fr i=VG:=by
    rcases yaM g with z|z
    .cases d:cb fr i with
     | false=>rfl
     | true=>
      have:=oj m d;have:=S.hi f z i hk
      lia
    .have:=(JX.mp z).2;unfold fJ at this;rw[hk]at this;exists this
   rw[cM d]at p
   lia
def nu:∀{k:Nat} {fr:! ↑Nat} {a O:Rho} {i:Nat},i < O.length->O.length<=fr.length->fr.length=a.length->(iM ψ tg mu k fr a O)[i]?*>(if fr[i]?*>(VF (k+i))then(cF tg (a.getD i VE)).map (jL ψ)else cF mu (O.getD i VE))
 | k,fr,a,[],i,h,_,_=>by cases h
 | k,[],a,r::O,i,_,h,_=>by simp at h
 | k,o::fr,[],r::O,i,_,_,h=>by cases h
 | k,o::fr,e::a,r::O,0,h,c,d=>by
  rw[iM,Lq,Lq];simp
 | k,o::fr,e::a,r::O,i+1,h,c,d=>by
  rw[iM,K3,nu (k:=k+1) (by exists h) (by exists c) (by exists d),K3,show k+1+i=k+(i+1) by lia];simp
def j6:∀{k:Nat} {fr:! ↑Nat} {a O:Rho},(iM ψ tg mu k fr a O).length=O.length
 | k,[],a,O=>by cases a<;>simp[iM]
 | k,o::fr,[],O=>by simp[iM]
 | k,o::fr,c::a,[]=>by simp[iM]
 | k,o::fr,c::a,r::O=>by rw[iM,JY,j6,JY]
def jM:i∈tgF fr↔i<fr.length/\cb fr i=VG:=by
 unfold tgF;rw[JX,Lk];simp
def killO_iff:cF M o*>r↔o*>r/\dD M r=VH:=by
 cases o with
 | none=>simp[cF]
 | some x=>
  dsimp[cF];split
  .delta h;constructor;intro z;cases z;show⟨Xr,h⟩;rintro⟨z,_⟩;rw[z]
  .delta h;constructor;intro z;cases z;rintro⟨z,a⟩;cases z;show absurd a h
def xj(a:∀j∈mu,j<fr.length)(e:En):aD mu (bV (piF fr) e)=aD (muF fr mu) e:=by
 unfold aD;change(match (kj (piF fr) e.r.k).root with|some j=> ~~~mu.contains j|none=>VH)=_;rw[nA];cases e.r.k.root with
 | none=>rfl
 | some j=>
  change(~~~mu.contains (piF fr j)) =  ~~~(muF fr mu).contains j;congr 1;rw[Lc];dsimp[K2,decide_eq_true_eq,muF,JX];cases hc:cb fr j
  .rw[cM hc];constructor;intro z;have:=a _ z;lia;rintro⟨_,z⟩;cases z
  .rw[dS hc];simp
def AJ(e:En):aD (tgF fr) (bV (piF fr) e)=VH:=by
 unfold aD;change(match (kj (piF fr) e.r.k).root with|some j=> ~~~(tgF fr).contains j|none=>VH)=_;rw[nA];cases e.r.k.root with
 | none=>rfl
 | some j=>
  change(~~~(tgF fr).contains (piF fr j))=VH;dsimp[K2,Kt,decide_eq_false_iff_not,jM];rintro⟨c,a⟩;cases hc:cb fr j;rw[cM hc]at c;lia;rw[dS hc,hc]at a;cases a
def Sim.outt{fr:! ↑Nat}{B:!Nat}{U:Rho}{Z2:St}(S:Sim Γ H' U Z2 (ah B (gl fr Z O E)))(hf:dJ fr O.length=VH)(hmu:∀j∈B,j<fr.length)(hl : U.length=fr.length)(kp:Kp fr (bn fr Z) Z2)
  (al:∀(i:Nat) r,O[i]?*>(VF r)->∃v,Z[i]?*>(VF v)) (len:Z.length=O.length) (hi:∀e∈E,∀j,e.key*>j->O.length<=j):Sim Γ H' (de fr B U O) Z (ah (muF fr B) E):=by
 have hn : O.length<=fr.length:=by unfold dJ at hf;rw[JL,decide_eq_true_eq]at hf;show hf.1
 have val:∀{i:Nat} {w:V},cb fr i=VH->Z2[i]?*>(VF w)->Z[i]?*>(VF w):=λ{i w} d h=>by
  rw[kp.2 i i (capB_iff.mp d),jr d]at h;show getD_some.mp (Ke.inj h)
 have eE:ah B (gl fr Z O E)=(ah (muF fr B) (E++(aF 0 Z O).filter λe=> ~~~fJ fr e)).map (bV (piF fr)):=by
  unfold gl ah;rw[LJ];congr 1;apply List.filter_congr;intro e _;show xj hmu e
 have s1:=(S.sl.kill (tgF fr));rw[aL,eE]at s1;have e1:ah (tgF fr) ((ah (muF fr B) (E++(aF 0 Z O).filter λe=> ~~~fJ fr e)).map (bV (piF fr)))=(ah (muF fr B) (E++(aF 0 Z O).filter λe=> ~~~fJ fr e)).map (bV (piF fr)):=by
  unfold ah;rw[Lb];intro e C;have(f,_,rfl):=JS.mp C;show AJ f
 rw[e1]at s1
 let p:En->Bool:=λe=>match e.key with
  | some k=> ~~~(tgF fr).contains k
  | none=>VH
 have kout:∀f∈E++(aF 0 Z O).filter λe=> ~~~fJ fr e,∀j,f.key*>j->cb fr j=VG:=λf q j P=>by
  rcases yaM q with z|z
  .cases d:cb fr j with
   | false=>rfl
   | true=>have:=oj hf d;have:=hi f z j P;lia
  .have:=(JX.mp z).2;unfold fJ at this;rw[P]at this;exists this
 have pO:∀e∈(ah (muF fr B) (E++(aF 0 Z O).filter λe=> ~~~fJ fr e)).map (bV (piF fr)),p e=VH:=λe C=>by
  have(f,q,rfl):=JS.mp C;have hf'':=(JX.mp q).1;change(match f.key.map (piF fr)with|some k=> ~~~(tgF fr).contains k|none=>VH)=VH;cases L:f.key with
  | none=>rfl
  | some j=>
   have:=kout f hf'' j L;dsimp[Ls,K2,Kt,decide_eq_false_iff_not,jM];rw[cM this]
   lia
 have s2:=s1.filt p λe C _ j P f q L=>by
  change(match f.key with|some k=> ~~~(tgF fr).contains k|none=>VH)=VH;rw[L];have hm:e∈ah (tgF fr) (ah B (gl fr Z O E)++aF 0 Z2 U):=by rw[aL,eE,e1];show C
  by_cases u:j∈tgF fr;show absurd P (lL (M:=tgF fr) (i:=j) u e hm);simp[u]
 rw[LG,Lb.mpr pO]at s2;have s3:=s2.ren (π:=psF fr) (λe C f q a b ha hb s=>by
  have key:∀e∈(ah (muF fr B) (E++(aF 0 Z O).filter λe=> ~~~fJ fr e)).map (bV (piF fr))++(ah (tgF fr) (aF 0 Z2 U)).filter p,∀a,e.key*>a->(∃j,a=fr.length+j/\cb fr j=VG)\/cb fr a=VH:=λe C a ha=>by
   rcases yaM C with z|z
   .left;have(g,hg,rfl):=JS.mp z;have hg':=(JX.mp hg).1;have ha':g.key.map (piF fr)*>a:=ha;cases L:g.key with
    | none=>rw[L]at ha';cases (ha')
    | some j=>
     have d:=kout g hg' j L;rw[L]at ha';have:piF fr j=a:=by exists ha'
     show{j,by rw[<-this,cM d],d}
   .right;have(z1,z2):=JX.mp z;have(i,c,l,A):=ents_iff.mp (JX.mp z1).1;rw[ha]at c;cases (c);have G:(match e.key with|some k=> ~~~(tgF fr).contains k|none=>VH)=VH:=z2;rw[ha]at G;have m:a<fr.length:=by
     have:=(JJ.mp l).1
     lia
    dsimp[K2,Kt,decide_eq_false_iff_not,jM]at G;cases d:cb fr a with
    | true=>rfl
    | false=>show absurd ⟨m,d⟩ G
  rcases key e C a ha with⟨j,rfl,P⟩|P<;>rcases key f q b hb with⟨j',rfl,u⟩|u;unfold psF at s;rw[if_neg (by lia),if_neg (by lia)]at s;lia
  .unfold psF at s;rw[if_neg (by lia),if_pos (bM u)]at s;have:j=b:=by lia
   subst this;rw[P]at u;cases (u)
  .unfold psF at s;rw[if_pos (bM P),if_neg (by lia)]at s;have:j'=a:=by lia
   subst this;rw[u]at P;cases (P)
  .unfold psF at s;rw[if_pos (bM P),if_pos (bM u)]at s;show s)
 rw[JZ,Kr]at s3;have e2:(ah (muF fr B) (E++(aF 0 Z O).filter λe=> ~~~fJ fr e)).map (bV (psF fr)∘bV (piF fr))=ah (muF fr B) (E++(aF 0 Z O).filter λe=> ~~~fJ fr e):=by
  conv=>rhs;rw[<-List.map_id (ah (muF fr B) (E++(aF 0 Z O).filter λe=> ~~~fJ fr e))]
  apply Ni;intro e _;show oS e
 rw[e2,aL,Ka]at s3;have olen:(de fr B U O).length=O.length:=by unfold de;show j6
 have J:∀{i:Nat} {r:R},(de fr B U O)[i]?*>(VF r)↔i < O.length/\((cb fr i=VH/\∃N,U[i]?*>(VF N)/\dD (tgF fr) N=VH/\r=jL (psF fr) N)\/(cb fr i=VG/\O[i]?*>(VF r)/\dD (muF fr B) r=VH)):=λ{i r}=>by
  by_cases m:i < O.length
  .unfold de;rw[nu m hn hl.symm,KP];cases d:cb fr i
   .rw[if_neg (λz=>by rw[capB_iff.mpr z]at d;cases (d))];rw[Ke.injEq,killO_iff];have : O.getD i VE*>r↔O[i]?*>(VF r):=by
     rw[Kl];cases O[i]?<;>simp
    rw[this];simp[m]
   .rw[if_pos (capB_iff.mp d)];rw[Ke.injEq,KA];constructor
    .rintro⟨N,c,l⟩;have(A,h4):=killO_iff.mp c;show{m,.inl {Xr,N,?_,h4,l.symm}};rw[Kl]at A;cases h5 : U[i]? with
     | none=>rw[h5]at A;cases (A)
     | some o=>rw[h5]at A;have:o*>N:=A;rw[this]
    .rintro⟨_,⟨_,N,c,l,A⟩|⟨z,_⟩⟩;show{N,killO_iff.mpr {by rw[Kl,c];rfl,l},A.symm};cases (z)
  .constructor
   .intro z;have:=(JJ.mp z).1;rw[olen]at this;show absurd this m
   .rintro⟨z,_⟩;show absurd z m
 show{s3.perm (List.Perm.append_left _ ?_),λi r h=>?_,by rw[olen];show len,λe C j P=>by rw[olen];show hi e (JX.mp C).1 j P}
 .have ndA:(ah (muF fr B) ((aF 0 Z O).filter λe=> ~~~fJ fr e)).Nodup:=ents_nodup.sublist (KM.trans KM);have inB:∀e∈(ah (tgF fr) (aF 0 Z2 U)).filter p,∃i,e.key*>i/\cb fr i=VH/\U[i]?*>(VF e.r)/\Z2[i]?*>(VF e.v)/\dD (tgF fr) e.r=VH:=λe C=>by
   have(z1,z2):=JX.mp C;have(z3,z4):=JX.mp z1;have(i,c,l,A):=ents_iff.mp z3;have G:(match e.key with|some k=> ~~~(tgF fr).contains k|none=>VH)=VH:=z2;rw[c]at G;have m:i<fr.length:=by
    have:=(JJ.mp l).1
    lia
   dsimp[K2,Kt,decide_eq_false_iff_not,jM]at G;show{i,c,?_,l,A,z4};cases d:cb fr i with
   | true=>rfl
   | false=>show absurd ⟨m,d⟩ G
  have ndB:(((ah (tgF fr) (aF 0 Z2 U)).filter p).map (bV (psF fr))).Nodup:=by
   show j3 (ents_nodup.sublist (KM.trans KM)) λa ha b hb h=>?_;have(i,c,l,A,h4,_):=inB a ha;have(j,Y,g2,g3,g4,_):=inB b hb;have L:a.key.map (psF fr)=b.key.map (psF fr):=congrArg En.key h;rw[c,Y]at L;have hk':psF fr i=psF fr j:=by exists L
   unfold psF at hk';rw[if_pos (bM l),if_pos (bM g2)]at hk';subst hk';rw[A]at g3;rw[h4]at g4;cases (a);cases (b);simp only at c Y g3 g4;have e1:=Ke.inj (Ke.inj g3);have e2:=Ke.inj (Ke.inj g4);simp[c,Y,e1,e2]
  show(Mq (JP.mpr {ndA,ndB,?_}) ents_nodup).mpr λe=>?_
  .rintro a ha b hb rfl;have(f,q,hfe):=JS.mp hb;have(i,c,l,_):=inB f q;have L:f.key.map (psF fr)=a.key:=congrArg En.key hfe;rw[c]at L;have hk':a.key*>i:=by rw[<-L];simp[psF,bM l]
   have(y1,y2):=JX.mp (JX.mp ha).1;unfold fJ at y2;rw[hk']at y2;simp[l]at y2
  .rw[LU,ents_iff];constructor
   .rintro(C|C)
    .have(z1,z2):=JX.mp C;have(z3,z4):=JX.mp z1;have(i,c,l,A):=ents_iff.mp z3;unfold fJ at z4;rw[c]at z4;show{i,c,J.mpr {(JJ.mp l).1,.inr {by simpa using z4,l,z2}},A}
    .have(f,q,rfl):=JS.mp C;have(i,c,l,A,h4,h5):=inB f q;show{i,?_,J.mpr {oj hf l,.inl ⟨l,f.r,A,h5,Xr⟩},val l h4};change f.key.map (psF fr)*>i;rw[c];simp[psF,bM l]
   .rintro⟨i,c,l,A⟩;obtain⟨m,⟨d,N,Y,g2,g3⟩|⟨d,Y,g2⟩⟩:=J.mp l
    .right;have(w,hw):=S.al i N Y;have hw':=val d hw;rw[A]at hw';have ew:e.v=w:=Ke.inj (Ke.inj hw');show JS.mpr {{VF i,w,N},JX.mpr {JX.mpr {ents_iff.mpr ⟨i,Xr,Y,hw⟩,g2},?_},?_}
     .change(~~~(tgF fr).contains i)=VH;dsimp[K2,Kt,decide_eq_false_iff_not,jM];rintro⟨_,z⟩;rw[d]at z;cases (z)
     .cases (e);simp only at c g3 ew;simp[bV,c,g3,ew,psF,bM d]
    .left;show JX.mpr {JX.mpr {ents_iff.mpr ⟨i,c,Y,A⟩,?_},g2};unfold fJ;rw[c];simp[d]
 .obtain⟨m,⟨d,N,Y,g2,g3⟩|⟨d,Y,g2⟩⟩:=J.mp h
  .have(w,hw):=S.al i N Y;show{w,val d hw}
  .show al i r Y
end
section
variable {Γ:Gm}{H H':Hp}{O:Rho}{Z:St}{E X:!En}{v x y:V}{t:T}{K:yF}{Q:VK}
def Sim.mkL(S:Sim Γ H O Z (aN vs ts++E))(k:vs.length=ts.length)(hp:H p=VE):Sim Γ (upd H p (.lst vs)) O Z ({VE,.ref p,{.ow,bI ts}}::E):=by
 have(F,g,h,f,r):=S.use k;have d:=Pk.laid (o:=.lst vs) hp;have i:p∉F:=λz=>by have(o,e,_):=f p z;rw[hp]at e;cases e
 show r _ (.ref p) (bI ts) (p::F) (d.offM _) (λa c=>let ⟨o,e,_⟩:=f a c;{o,d a o e}) (Ks.mpr ⟨i,h⟩) (λa c=>?_) ?_
 .rcases ycM c with rfl|c;show{.inr hp,_,ao,Xr};show{.inl c,let ⟨o,e,m⟩:=f a c;{o,d a o e,m}}
 .unfold bI;split
  .delta s l;rw[oq l]at g;have(q,j):=Rps.ims.mp g;subst j;rw[Rp];show{p,vs,Xr,.inl ao,q.same d,Xr}
  .rw[Rp];show{p,vs,F,Xr,.inl ao,g.same d,Xr}
def nH:∀{vs:!V} {ts:!T},vs.length=ts.length->aN (vs++[v]) (ts++[t])=aN vs ts++[{VE,v,{.ow,t}}]
 | [],[],_=>rfl
 | a::vs,b::ts,h=>by
  rw[Kn,Kn,aN,aN,nH (by exists h),Kn]
 | [],_::_,h=>by cases h
 | _::_,[],h=>by cases h
def gc:∀{vs:!V} {ts:!T},ah M (aN vs ts)=aN vs ts
 | [],ts=>by cases ts<;>rfl
 | a::vs,[]=>rfl
 | a::vs,b::ts=>by rw[aN,ax rfl,gc]
abbrev bv(fr:! ↑Nat) (M:!Nat) (g:MG) (c:MT) (e:ME):!R->Rho->!T->↑(!T×Rho)
 | [],O,a=>VF (a,O)
 | r::f,O,a=>match g.run (jL (piF fr) r) (inR fr O)with
  | some i=>(match c.run i with
   | some (VH,d)=>(match e.run d with
    | some (⟨.ow,t⟩,h)=>bv fr M g c e f (de fr M h O) (a++[t])
    | _=>VE)
   | some (VG,d)=>bv fr M g c e f (de fr M d O) a
   | none=>VE)
  | none=>VE
def iB:gl fr Z O (e::E)=bV (piF fr) e::gl fr Z O E:=rfl
def lM:(de fr M Oi O).length=O.length:=j6
def mP(hK : Γ.K=K)(wk:iO Γ J vs srcs items)(hgk:dB fr g)(hg:jg K g mg)(hc:fo K tc c)(he:be K te e)(hM:M=mg.mu++(c.mu++e.mu))
  (Y:∀j∈M,j<fr.length) (ks:∀e∈ens vs srcs,aD (muF fr M) e=VH) {E2:!En} (kE:ah (muF fr M) E2=E2) {k:!T} {OF:Rho} {acc0:!V} {ts0:!T} (hl0:acc0.length=ts0.length) (hz:acc0.length+items.length<sizeLine)
  (hf:dJ fr O.length=VH) (S:Sim Γ H O Z (ens vs srcs++(aN acc0 ts0++E2))) (hr:bv fr M mg c e items O ts0*>(k,OF))
  (q:∀a H',a.length=k.length->a.length<=acc0.length+items.length->OF.length=O.length->Sim Γ H' OF Z (ens vs srcs++(aN a k++E2))->N a H'):vW J (bn fr Z) g tc te acc0 H N:=by
 have kE2:∀a f,ah (muF fr M) (ens vs srcs++(aN a f++E2))=ens vs srcs++(aN a f++E2):=λa f=>by rw[aL,eg ks,aL,gc,kE]
 show{λi m a H=>m=items.length-i/\i<=items.length/\a.length<=acc0.length+i/\∃h f,bv fr M mg c e (items.drop i) h f*>(k,OF)/\a.length=f.length/\h.length=O.length/\Sim Γ H h Z (ens vs srcs++(aN a f++E2)),{items.length,by simp,Ld _,by omega,O,ts0,by simpa using hr,hl0,Xr,S},?_};rintro i m a H1 ⟨rfl,hil,hal,h,f,o,hl,hO,p⟩;show{by omega,?_};have(w1,w2):=wk H1 h Z _ p;by_cases G:i<items.length
 .have hx:items[i]?=VF items[i]:=by simp[G]
  have(w3,w4):=w2 i _ hx;rw[KW G,bv]at o;show .inr {w3,λd H'=>d.length<=acc0.length+(i+1)/\∃h f,bv fr M mg c e (items.drop (i+1)) h f*>(k,OF)/\d.length=f.length/\h.length=O.length/\Sim Γ H' h Z (ens vs srcs++(aN d f++E2)),λd H' ⟨ha,P,ts3,h3,hl3,hO3,S3⟩=>{items.length-(i+1),by omega,Xr,G,ha,P,ts3,h3,hl3,hO3,S3},λx H2 y=>?_};have S2:=w4 x H2 y;have L:dJ fr h.length=VH:=by rw[hO];show hf
  have S3:=S2.inn L;rw[iB]at S3;ext o O2 e2;show hgk x (bn fr Z) H2 (λu H3=>Kp fr (bn fr Z) u->_) _ (λu H3 z U=>z U) ?_;show hg Γ H2 (inR fr h) (bn fr Z) _ _ x _ O2 hK e2 S3 λu H3 S4 U=>?_;split at o
  .delta P e3;show hc Γ H3 O2 u _ _ VH P hK e3 S4 λH4 S5=>rl ?_;ext o t O4 e4;show he Γ H4 P u _ _ _ O4 hK e4 S5 λw H5 l=>?_;rw[af,af]at l;rw[<-hM]at l;have S7:Sim Γ H5 O4 u (ah M (gl fr Z h ({VE,w,{.ow,t}}::(ens vs srcs++(aN a f++E2))))):=by
    rw[iB,ax (show aD M (bV (piF fr) {VE,w,{.ow,t}})=VH from rfl)];show l
   have r : O4.length=fr.length:=by rw[<-l.len,U.1,cq]
   have S8:=S7.outt L Y r U p.al p.len (λe' s j hj=>by
    rcases ycM s with rfl|s;cases hj;show p.hi e' s j hj)
   rw[ax (show aD (muF fr M) {VE,w,{.ow,t}}=VH from rfl),kE2]at S8;show{by simp;omega,_,_,o,by simp[hl],by rw[lM,hO],?_};rw[nH hl,Ka];show S8.perm ?_;have pp:∀(A B C:!En) (x:En),(x::(A++(B++C))).Perm (A++(B++(x::C))):=λA B C x=>by
    rw[<-Ka,<-Ka];show Kz.symm
   show pp _ _ _ _
  .delta P e3;show hc Γ H3 O2 u _ _ VG P hK e3 S4 λH4 S5=>rk ?_;have l:=S5.weak e.mu;rw[af,af]at l;rw[<-hM]at l;have r : P.length=fr.length:=by rw[<-l.len,U.1,cq]
   have S8:=l.outt L Y r U p.al p.len p.hi;rw[kE2]at S8;show{by omega,_,_,o,hl,by rw[lM,hO],S8}
  .cases o
 .have ei:i=items.length:=by omega
  subst ei;rw[Mf,bv]at o;cases o;show .inl {w1 _ (JQ _),q a H1 hl hal hO p}
abbrev dE(M:!Nat) (n:Nat):Bool:=M.all λj=>decide (j<n)
def lE(h:dE M n=VH):∀j∈M,j<n:=λj a=>by
 have:=Ky.mp h j a;exists this
private def bg(fr:! ↑Nat)(it:MI)(g:MG)(c:MT)(e:ME):ME:={λO=>match it.run O with
 | some ((d,a),f)=>if(dJ fr f.length&&dE (g.mu++(c.mu++e.mu)) fr.length&&d.all (az (muF fr (g.mu++(c.mu++e.mu))))&&decide (a.length<sizeLine))=VH then(match bv fr (g.mu++(c.mu++e.mu)) g c e a f []with
  | some (h,i)=>VF ({.ow,bI h},i)
  | none=>VE)else VE
 | none=>VE,it.mu++muF fr (g.mu++(c.mu++e.mu))}
def qm(C:le K wi it)(l:dB fr g)(hg:jg K g mg)(Y:fo K tc c)(he:be K te e):be K (zE wi fr g tc te) (bg fr it mg c e):=by
 intro Γ H O Z E Q r O' i h S q;dsimp[bg]at h q;ext h a f B z;ext h u;dsimp[JL,decide_eq_true_eq]at u;obtain⟨⟨⟨A,b2⟩,P⟩,L⟩:=u;ext h ts O2 e2;cases h;show C Γ H O Z E _ a f B i z S λΓ m bk J vs H1 G p wk=>?_;replace i:=m.trans i;replace q:=λv H' S=>q v H' (bk _ _ _ _ S);rw[<-af]at q;generalize ah it.mu E=E1 at q p;have o:∀w∈ens vs a,aD (muF fr (mg.mu++(c.mu++e.mu))) w=VH:=lq P;have k:=p.weak (muF fr (mg.mu++(c.mu++e.mu)));rw[aL,eg o]at k;have s:=cZ (M:=muF fr (mg.mu++(c.mu++e.mu))) (N:=muF fr (mg.mu++(c.mu++e.mu))) (λj hj=>hj) E1;generalize ah (muF fr (mg.mu++(c.mu++e.mu))) E1=E2 at q k s;show mP (acc0:=[]) (ts0:=[]) i wk l hg Y he rfl (lE b2) o s rfl (by exists L) A k e2 λacc H' hl _ _ S3 d U=>?_;show q _ _ (S3.drops.mkL hl U)
abbrev cj(fr d:! ↑Nat) (g:MG) (i:MI) (j:MG) (c:MT) (e:ME):!R->Rho->!T->↑(!T×Rho)
 | [],O,h=>VF (h,O)
 | r::o,O,h=>match g.run (jL (piF fr) r) (inR fr O)with
  | some l=>(match i.run l with
   | some ((f,a),k)=>if(dJ d k.length&&(decide (f.length=1)&&f.all (az (muF d (j.mu++(c.mu++e.mu)))))&&decide (h.length+a.length<sizeLine))=VH then(match bv d (j.mu++(c.mu++e.mu)) j c e a k h with
    | some (p,m)=>cj fr d g i j c e o (de fr (g.mu++(i.mu++muF d (j.mu++(c.mu++e.mu)))) m O) p
    | none=>VE)else VE
   | none=>VE)
  | none=>VE
private def j2(fr a:! ↑Nat)(it:MI)(g:MG)(d:MI)(i:MG)(c:MT)(e:ME):ME:={λO=>match it.run O with
 | some ((f,h),k)=>if(dJ fr k.length&&dE (g.mu++(d.mu++muF a (i.mu++(c.mu++e.mu)))) fr.length&&dE (i.mu++(c.mu++e.mu)) a.length&&(decide (f.length=1)&&f.all (az (muF fr (g.mu++(d.mu++muF a (i.mu++(c.mu++e.mu))))))))=VH then(match cj fr a g d i c e h k []with
  | some (j,l)=>if j.length<sizeLine then VF ({.ow,bI j},l)else VE
  | none=>VE)else VE
 | none=>VE,it.mu++muF fr (g.mu++(d.mu++muF a (i.mu++(c.mu++e.mu))))}
def gO:∀{items:!R} {O:Rho} {a ts:!T} {d:Rho},bv fr M g c e items O a*>(ts,d)->a.length<=ts.length
 | [],O,a,ts,d,h=>by cases h;show JQ _
 | r::f,O,a,ts,d,h=>by
  rw[bv]at h;ext h;split at h
  .split at h;have:=gO h;simp at this;omega;cases h
  .show gO h
  .cases h
def jk:∀{items:!R} {O:Rho} {a ts:!T} {d:Rho},cj fr fr2 g it2 g2 c e items O a*>(ts,d)->a.length<=ts.length
 | [],O,a,ts,d,h=>by cases h;show JQ _
 | r::i,O,a,ts,d,h=>by
  rw[cj]at h;ext h;ext h;ext h;ext h f;show Kg (gO f) (jk h)
def vN:∀{vs:!V} {ts:!T},(aN vs ts).map (bV (piF fr))=aN vs ts:=by
 intro vs
 induction vs with
 | nil=>intro ts;cases ts<;>rfl
 | cons a vs c=>
  intro ts;cases ts with
  | nil=>rfl
  | cons b ts=>rw[aN,JN,c];rfl
def vM:∀{vs:!V} {ts:!T} {c:En},c∈aN vs ts->c.key=VE:=by
 intro vs
 induction vs with
 | nil=>intro ts c h;cases ts<;>cases h
 | cons a vs d=>
  intro ts c h;cases ts with
  | nil=>cases h
  | cons b ts=>
   rcases ycM h with rfl|h;rfl;show d h
def pV(M:!Nat)(fr:! ↑Nat)(Z:St)(O:Rho)(e:En)(vs:!V)(ts:!T)(E:!En):(aN vs ts++ah M (bV (piF fr) e::gl fr Z O E)).Perm (ah M (gl fr Z O (e::(aN vs ts++E)))):=by
 have a:gl fr Z O (e::(aN vs ts++E))=bV (piF fr) e::(aN vs ts++gl fr Z O E):=by
  rw[iB];congr 1;unfold gl;rw[Ka,JZ,vN]
 have c:ah M (aN vs ts++(bV (piF fr) e::gl fr Z O E))=aN vs ts++ah M (bV (piF fr) e::gl fr Z O E):=by rw[aL,gc]
 rw[a,<-c];show List.Perm.filter _ Kz
def vy(hi:le K wi it)(hgk:dB fr g)(hg:jg K g mg)(hi2:le K wi2 it2)(hgk2:dB fr2 g2)(hg2:jg K g2 mg2)(hc:fo K tc c)(he:be K te e):be K (zF wi fr g wi2 fr2 g2 tc te) (j2 fr fr2 it mg it2 mg2 c e):=by
 intro Γ H O Z E Q r O' Y U S q;dsimp[j2]at U q;ext U srcs a O1 e1;ext U hb;dsimp[JL,decide_eq_true_eq]at hb;obtain⟨⟨⟨b1,b2⟩,b3⟩,b5,b4⟩:=hb;have(f,rfl):=KI.mp b5;rw[Lj,Mo,Mz]at b4;ext U tsF OF e2;ext U hz;cases U;show hi Γ H O Z E _ [f] a O1 Y e1 S λΓ hK2 bk J vs H1 hlv S1 wk=>?_;replace Y:=hK2.trans Y;replace q:=λv H' S=>q v H' (bk _ _ _ _ S);have(v,rfl):=KI.mp hlv;replace S1:Sim Γ H1 O1 Z (⟨VE,v,f⟩::ah it.mu E):=S1;rw[<-af]at q;generalize G:mg2.mu++(c.mu++e.mu)=M2 at *;generalize hM:mg.mu++(it2.mu++muF fr2 M2)=M at *;generalize ah it.mu E=E1 at q S1;have ks:aD (muF fr M) ⟨VE,v,f⟩=VH:=b4;have S2:=S1.weak (muF fr M);rw[ax ks]at S2;have kE:=cZ (M:=muF fr M) (N:=muF fr M) (λj A=>A) E1;generalize ah (muF fr M) E1=E2 at q S2 kE;have kE2:∀h s,ah (muF fr M) (⟨VE,v,f⟩::(aN h s++E2))=⟨VE,v,f⟩::(aN h s++E2):=λh s=>by rw[ax ks,aL,gc,kE]
 show{λi m h H=>m=a.length-i/\i<=a.length/\∃l s,cj fr fr2 mg it2 mg2 c e (a.drop i) l s*>(tsF,O')/\h.length=s.length/\l.length=O1.length/\Sim Γ H l Z (⟨VE,v,f⟩::(aN h s++E2)),{a.length,by simp,Ld _,O1,[],by simpa using e2,Xr,Xr,S2},?_};rintro i m h H2 ⟨rfl,hil,l,s,u,hl,hO,B⟩;have:=jk u;show{by omega,?_};have(w1,w2):=wk H2 l Z _ B;by_cases L:i<a.length
 .have hx:a[i]?=VF a[i]:=by simp[L]
  have(w3,w4):=w2 i _ hx;rw[KW L,cj]at u;show .inr {w3,λo H'=>∃l s,cj fr fr2 mg it2 mg2 c e (a.drop (i+1)) l s*>(tsF,O')/\o.length=s.length/\l.length=O1.length/\Sim Γ H' l Z (⟨VE,v,f⟩::(aN o s++E2)),λo H' ⟨O3,C,h3,hl3,hO3,B⟩=>{a.length-(i+1),by omega,Xr,L,O3,C,h3,hl3,hO3,B},λx H3 y=>?_};have S4:Sim Γ H3 l Z ({VE,x,a[i]}::⟨VE,v,f⟩::(aN h s++E2)):=w4 x H3 y;have hf1:dJ fr l.length=VH:=by rw[hO];show b1
  have S5:=S4.inn hf1;rw[iB]at S5;ext u O3 e3;show hgk x (bn fr Z) H3 (λZ2 H4=>Kp fr (bn fr Z) Z2->_) _ (λZ2 H4 z kp=>z kp) ?_;show hg Γ H3 (inR fr l) (bn fr Z) _ _ x _ O3 Y e3 S5 λZ2 H4 S6 kp=>?_;ext u srcs2 w O4 e4;ext u P;rw[G]at P;dsimp[JL,decide_eq_true_eq]at P;obtain⟨⟨c1,c4,c2⟩,c3⟩:=P;have(p,rfl):=KI.mp c4;rw[Lj,Mo,Mz]at c2;ext u C O5 e5;rw[G]at e5 u;show hi2 Γ H4 O3 Z2 _ _ [p] w O4 Y e4 S6 λΓ2 hK3 bk2 J2 vs2 H5 hlv2 S7 wk2=>?_;have(v2,rfl):=KI.mp hlv2;rw[show ens [v2] [p]=[⟨VE,v2,p⟩]from rfl,List.singleton_append]at S7;rw[af]at S7;have ks2:aD (muF fr2 M2) ⟨VE,v2,p⟩=VH:=c2;have S8:=S7.weak (muF fr2 M2);rw[ax ks2,af]at S8;have S9:=S8.perm (List.Perm.cons _ (pV _ _ _ _ _ _ _ _).symm);have kE9:=cZ (M:=mg.mu++it2.mu++muF fr2 M2) (N:=muF fr2 M2) (λj A=>yaR _ A) (bV (piF fr) ⟨VE,v,f⟩::gl fr Z l E2);show mP (H:=H5) (O:=O4) (Z:=Z2) (E2:=ah (mg.mu++it2.mu++muF fr2 M2) (bV (piF fr) ⟨VE,v,f⟩::gl fr Z l E2)) (acc0:=h) (ts0:=s) (hK3.trans Y) wk2 hgk2 hg2 hc he G.symm (lE b3) (λe' k=>by rcases ysM k with rfl;show ks2) kE9 hl (by rw[hl];show c3) c1 S9 e5 λo H6 hl' _ hO5 S10=>?_;show{_,C,u,hl',by rw[lM,hO],?_};have S11:=bk2 _ _ _ _ (S10.drop rfl);have em:mg.mu++it2.mu++muF fr2 M2=M:=by rw[<-hM,Ka]
  rw[em]at S11;have S12:=S11.perm (pV _ _ _ _ _ _ _ _);have hl5 : O5.length=fr.length:=by rw[<-S12.len,kp.1,cq]
  have S13:=S12.outt hf1 (lE b2) hl5 kp B.al B.len (λe' k j A=>by
   rcases ycM k with rfl|k;cases A
   .rcases yaM k with k|k;rw[vM k]at A;cases A;show B.hi e' (ymC _ (yaR _ k)) j A)
  rw[kE2]at S13;rw[hM];show S13
 .have ei:i=a.length:=by omega
  subst ei;rw[Mf,cj]at u;cases u;show .inl {w1 _ (JQ _),λd hd=>q _ _ ((B.drop rfl).mkL hl hd)}
end
section
variable {Γ:Gm}{H H':Hp}{L:!Hd}{O:Rho}{Z:St}{E X:!En}{v w x y:V}{t s:T}{K:yF}{Q:VK}
def GW.stepN(G:GW Γ H (hs++L))(ho:∀h∈hs,h.e.r.k.isOw=VH)(hr:∀g∈L,∀h∈hs,∀j,h.e.key*>j->g.e.r.k.root≠VF j)
  (f:Pd (hs.flatMap (·.F)) H H') (N:∀a∈hs.flatMap (·.F),∃o,H' a*>o) (nd:(ns.flatMap (·.F)).Nodup) (M:∀a∈ns.flatMap (·.F),(a∈hs.flatMap (·.F)\/H a=VE)/\Mu H' a) (hp:∀n∈ns,Rp Γ.K H' n.e.r.t n.e.v n.F)
  (hk:∀n∈ns,(n.e.r.k=.ow/\∀a∈n.F,H a=VE \/ ∃h∈hs,h.e.r.k=.ow/\a∈h.F) \/ ∃k,n.e.r.k=.io k/\Γ.iov[k]?*>n.e.v) (B:((ns++L).filterMap λh=>h.e.key).Nodup):GW Γ H' (ns++L):=by
 have iow:∀n∈ns,n.e.r.k.isOw=VH:=λn hn=>by rcases hk n hn with⟨e,_⟩|⟨k,e,_⟩<;>rw[e]<;>rfl
 have eo:=gY ho;have en:=gY iow;have G':=G.nd;rw[JV,eo]at G';have S:=(JP.mp G').2.1;have dj:=(JP.mp G').2.2;have J:∀a∈L.flatMap Hd.own,Mu H a/\(Γ.H0 a=VE\/a ∈ Γ.io):=λa c=>G.ad a (by rw[JV];show yaR _ c);have A:∀a∈hs.flatMap (·.F),Mu H a/\(Γ.H0 a=VE\/a ∈ Γ.io):=λa c=>G.ad a (by rw[JV,eo];show yaL _ c);have ap:=G.apart hr ho;have C:∀g∈L,∀a∈g.F,a∉hs.flatMap (·.F):=λg i a c l=>by
  have(h,U,u):=KU.mp l;show ap g i a c h U u
 show{?_,λa c=>?_,λx d=>?_,λx d=>?_,B,λb o e n=>?_,λa c=>?_}
 .rw[JV,en];show JP.mpr {nd,S,λa c b hb=>?_};rintro rfl;rcases(M a c).1 with z|z;show dj a z a hb rfl
  .have(o,e,_):=(J a hb).1;rw[z]at e;cases e
 .rw[JV,en]at c;rcases yaM c with c|c
  .show{(M a c).2,?_};rcases(M a c).1 with z|z;show(A a z).2;show .inl (G.new0 z)
  .obtain⟨⟨o,e,m⟩,z⟩:=J a c;show{{o,f a o e λl=>dj a l a c rfl,m},z}
 .rcases yaM d with d|d;show hp x d;show(G.rp x (yaR _ d)).off f (λa c=>(A a c).1) (C x d)
 .rcases yaM d with d|d
  .unfold Ph;rcases hk x d with⟨e,eh⟩|⟨k,e,ek⟩
   .dsimp[e];intro a c;rcases eh a c with z|⟨h,U,he,u⟩;show G.new0 z
    .have q:=G.kd h (yaL _ U);unfold Ph at q;rw[he]at q;show q a u
   .dsimp[e];show ek
  .have k:=G.kd x (yaR _ d);have st:∀a∈x.F,a∉(hs++L).flatMap Hd.own->a∉(ns++L).flatMap Hd.own:=λa c n z=>by
    rw[JV,en]at z;rcases yaM z with z|z
    .rcases(M a z).1 with w|w;show n (by rw[JV,eo];show yaL _ w)
     .have(o,e):=(G.rp x (yaR _ d)).dom a c;rw[w]at e;cases e
    .show n (by rw[JV];show yaR _ z)
   unfold Ph at k|-;split at k;show k;show k;show λa c=>st a c (k a c)
   .delta j p e;have(g,h1,h2,h3,h4,Y):=k;rcases yaM h1 with i|i;show absurd (by rw[e];rfl) (hr x d g i j h2)
    .show{g,yaR _ i,h2,h3,λa c=>(h4 a c).imp id (st a c),λq P=>{(Y q P).1,?_}};show nP f (F:=g.F) (C g i) (G.muF (yaR _ i) h3) (λa c=>c) (G.ndF (yaR _ i) h3) (G.rp g (yaR _ i)) (Y q P).1 (Y q P).2
 .show f b o (G.fr b o e n) λl=>?_;rcases(A b l).2 with z|z;rw[z]at e;cases e;show n z
 .have(o,e):=G.iol a c;by_cases l:a∈hs.flatMap (·.F);show N a l;show{o,f a o e l}
def GW.uniq(g:GW Γ H L){x z:Hd}{i:Nat}(d:x∈L)(hz:z∈L)(f:x.e.key*>i)(c:z.e.key*>i):x=z:=by
 have a:=g.ks;by_cases q:x=z;show q
 .exfalso;have(A,B,rfl):=LY d;rw[Kj,Kf,f]at a;rcases yaM hz with hz|hz;show(JP.mp a).2.2 i (KB.mpr ⟨z,hz,c⟩) i ymS rfl
  .rcases ycM hz with hz|hz;show q hz.symm;show(Ks.mp (JP.mp a).2.1).1 (KB.mpr ⟨z,hz,c⟩)
def Sim.place{i:Nat}{p:!Ac}{r:R}{v0:V}(S:Sim Γ H O Z E)(A:({VE,w,{.vw (VF i) (VF p),s}}:En)∈E)(h : O[i]?*>(VF r))(B:Z[i]?*>(VF v0)):r.t.sub p*>s/\atP Γ.K H v0 p w:=by
 have(v1,a,q):=S.slot h;rw[B]at a;cases a;have(L,g,e):=S.sl;have o:({VE,w,{.vw (VF i) (VF p),s}}:En)∈L.map (·.e):=by rw[e];show yaL _ A
 have(y,k,l):=JS.mp o;have d:=g.kd y k;unfold Ph at d;rw[l]at d;have(x,m,C,G,J,u):=d;have c:({VF i,v0,r}:En)∈L.map (·.e):=by rw[e];show q
 have(z,j,f):=JS.mp c;have:=g.uniq m j C (by rw[f]);subst this;have:=u p rfl;rw[f]at this;show this
def Pc.dropsN:∀{A X:!En},Pc Γ H (A++X)->(∀e∈A,e.key=VE)->Pc Γ H X
 | [],_,S,_=>S
 | a::A,X,S,h=>Pc.dropsN (Pc.drop S (h a ymS)) λe c=>h e (ymC _ c)
def n8:∀{vs:!V} {rs:!R} {m:Nat} {r:R} {x:V},rs[m]?*>r->vs[m]?*>x->(⟨VE,x,r⟩:En)∈ens vs rs
 | [],_,m,_,_,_,h=>by simp at h
 | _::_,[],m,_,_,h,_=>by simp at h
 | v::vs,d::rs,0,r,x,c,a=>by simp at c a;subst c a;show ymS
 | v::vs,d::rs,m+1,r,x,c,a=>ymC _ (n8 (by exists c) (by exists a))
def sW:∀{vs:!V} {rs:!R} {e:En},e∈ens vs rs->e.key=VE
 | [],rs,e,h=>by cases rs<;>cases h
 | _::_,[],e,h=>by cases h
 | v::vs,r::rs,e,h=>by
  rcases ycM h with rfl|h;rfl;show sW h
def Sim.io{vs:!V}{rs:!R}{k i:Nat}{p:!Ac}{kd:Kd}{t0:T}(S:Sim Γ H O Z (ens vs rs++E))(hk:rs[k]?*>{.vw (VF i) (VF p),s})(hw:vs[k]?*>w)(hal:∀m r,m≠k->rs[m]?*>r->az [i] r=VH)(h : O[i]?*>(VF ⟨kd,t0⟩))(ho:kd.isOw=VH) :
  ∃G,Rp Γ.K H s w G/\G.Nodup/\(∀a∈G,Mu H a)/\(∀m r x,m≠k->rs[m]?*>r->vs[m]?*>x->∃F,Rp Γ.K H r.t x F/\∀a∈F,a∉G) /\
  ∀H' u v t F N,Pd G H H'->(∀a∈G,∃o,H' a*>o)->(F++N).Nodup->(∀a∈F,H a=VE/\Mu H' a)->(∀a∈N,(a∈G\/H a=VE)/\Mu H' a)->Rp Γ.K H' u w N->Rp Γ.K H' t v F->Sim Γ H' ((au [i] O).set i (VF {kd,t0.put p u})) Z ({VE,v,{.ow,t}}::ah [i] E):=by
 have hil:i < O.length:=(JJ.mp h).1;have(v0,hv0,h1,h2,h3):=S.out h ho;have pl:=S.place (yaL _ (n8 hk hw)) h hv0;have(L,g,eL):=h1;have(x,L',rfl,P,Y):=aH eL;have M:x.e.r.k.isOw=VH:=by rw[P];show ho
 have nx:=g.ndF ymS M;have mx:=g.muF ymS M;have hsub:x.e.r.t.sub p*>s:=by rw[P];show pl.1
 have(w',A,G,B,z1,z2,z3,z4):=(g.rp x ymS).atP mx nx hsub;have ew:w'=w:=by rw[P]at z1;show jj z1 pl.2
 subst ew;have inG:∀a∈G,a∈x.F:=λa c=>by rw[z3];show yaL _ (yaR _ c)
 have ndx:=nx;rw[z3]at ndx;have U:=JP.mp ndx;have ndG:=JP.mp U.1;have keyL:∀g∈L',g.e.key≠VF i:=λy hy=>h3 y.e (by rw[<-Y];show Kv hy);have l:∀g∈L',g.e.r.k.root≠VF i:=λy hy=>h2 y.e (by rw[<-Y];show Kv hy);have ap:=GW.apart (hs:=[x]) (L:=L') g (λy hy z C j hj=>by rw[ysM C,P]at hj;cases hj;show l y hy) (λz C=>by rw[ysM C];show M);show{G,z2,ndG.2.1,λa c=>mx a (inG a c),λm r y J hr hy=>?_,λH' u v t F N off dom nd hF hG rp' rpt=>?_}
 .have hmem:(⟨VE,y,r⟩:En)∈ah [i] (ens vs rs++E):=JX.mpr {yaL _ (n8 hr hy),hal m r J hr};have hmem2:(⟨VE,y,r⟩:En)∈L'.map (·.e):=by rw[Y];show yaL _ hmem
  have(z,C,ez):=JS.mp hmem2;have rz:=g.rp z (ymC _ C);rw[ez]at rz;show{z.F,rz,λa c hg=>ap z C a c x ymS (inG a hg)}
 .have apAB:∀a,(a∈A\/a∈B)->a∉G:=λa c J=>by
   rcases c with q|q;show ndG.2.2 a q a J rfl;show U.2.2 a (yaR _ J) a q rfl
  have f:∀a,(a∈A\/a∈B)->a∈x.F:=λa c=>by
   rw[z3];rcases c with q|q;show yaL _ (yaL _ q);show yaR _ q
  have rp2:=z4 H' u N off rp';have nFG:=JP.mp nd;have d:∀a,(a∈A\/a∈B)->H a≠VE:=λa c z=>by have(o,e1,_):=mx a (f a c);rw[z]at e1;cases e1
  have nG':∀a,(a∈A\/a∈B)->a∉N:=λa c hg=>by
   rcases(hG a hg).1 with z|z;show apAB a c z;show d a c z
  have ndR:(A++N++B).Nodup:=by
   show JP.mpr {JP.mpr {ndG.1,nFG.2.1,λa c b hb e=>nG' a (.inl c) (e▸hb)},U.2.1,λa c b hb e=>?_};subst e;rcases yaM c with z|z;show U.2.2 a (yaL _ z) a hb rfl;show nG' a (.inr hb) z
  have memR:∀a∈A++N++B,(a∈x.F\/H a=VE)/\Mu H' a:=λa c=>by
   have old:a∈A\/a∈B->(a∈x.F\/H a=VE)/\Mu H' a:=λq=>by
    have(o,e1,m1):=mx a (f a q);show{.inl (f a q),o,off a o e1 (apAB a q),m1}
   rcases yaM c with z|z
   .rcases yaM z with z|z;show old (.inl z);show{(hG a z).1.imp (inG a) id,(hG a z).2}
   .show old (.inr z)
  have st:=GW.stepN (hs:=[x]) (L:=L') (H':=H') (ns:=[{{VE,v,{.ow,t}},F},{{VF i,v0,{kd,t0.put p u}},A++N++B}]) g (λz C=>by rw[ysM C];show M) (λy hy z C j hj=>by rw[ysM C,P]at hj;cases hj;show l y hy)
   (by simpa using off.mono inG) (λa c=>by
    have ha':a∈x.F:=by exists c
    by_cases hg:a∈G;show dom a hg;have(o,e1,_):=mx a ha';show{o,off a o e1 hg})
   (by
    dsimp[JW,LR,Kb];show JP.mpr {nFG.1,ndR,λa c b hb e=>?_};subst e;rcases yaM hb with z|z
    .rcases yaM z with z|z;show d a (.inl z) (hF a c).1;show nFG.2.2 a c a z rfl
    .show d a (.inr z) (hF a c).1)
   (λa c=>by
    dsimp[JW,LR,Kb]at c|-;rcases yaM c with z|z;show{.inr (hF a z).1,(hF a z).2};show memR a z)
   (λn hn=>by
    rcases ycM hn with rfl|hn;show rpt;rw[ysM hn];rw[P]at rp2;show rp2)
   (λn hn=>by
    rcases ycM hn with rfl|hn;show .inl {Xr,λa c=>.inl (hF a c).1}
    .rw[ysM hn];have kx:=g.kd x ymS;unfold Ph at kx;rw[P]at kx;cases kd with
     | ow=>show .inl {Xr,λa c=>(memR a c).1.elim (λz=>.inr {x,ymS,by rw[P],z}) .inl}
     | io n=>show .inr ⟨n,Xr,kx⟩
     | vw a b=>cases ho)
   (by
    have ks:=g.ks;rw[Kf,P]at ks;show ks)
  have S2:=S.kill [i];have SL:Pc Γ H' ({VE,v,{.ow,t}}::{VF i,v0,{kd,t0.put p u}}::(ah [i] (ens vs rs++E)++aF 0 Z ((au [i] O).set i VE))):={_,st,by rw[JZ,Y];rfl};have SL2:Pc Γ H' ({VE,v,{.ow,t}}::{VF i,v0,{kd,t0.put p u}}::(ah [i] E++aF 0 Z ((au [i] O).set i VE))):=by
   rw[aL,Ka]at SL;have pp:({VE,v,{.ow,t}}::{VF i,v0,{kd,t0.put p u}}::(ah [i] (ens vs rs)++(ah [i] E++aF 0 Z ((au [i] O).set i VE)))).Perm (ah [i] (ens vs rs)++({VE,v,{.ow,t}}::{VF i,v0,{kd,t0.put p u}}::(ah [i] E++aF 0 Z ((au [i] O).set i VE)))):=by
    show List.Perm.trans ?_ (Kz.symm);show List.Perm.cons _ ?_;show Kz.symm
   show(SL.perm pp).dropsN λe he=>sW (JX.mp he).1
  show S2.back (E':={VE,v,{.ow,t}}::ah [i] E) (SL2.perm ?_) (by simp[aO]) rfl (λm r' J=>?_) (λe he j hj=>?_)
  .have pq:=(gP (k:=0) (Z:=Z) (O:=au [i] O) (v:=v0) (r:={kd,t0.put p u}) (by rw[S.len];show hil) (by rw[aO];show hil)).append_left (ah [i] E);rw[KP]at pq;have eZ:Z.set i (VF v0)=Z:=by
    apply Ly;intro m;by_cases J:m=i;subst J;rw[hv0];simp[S.len,hil];rw[J4 (Ot J)]
   rw[eZ]at pq;rw[Kn];show List.Perm.cons _ ((Kz.symm).trans pq.symm)
  .by_cases e:m=i;subst e;show⟨v0,hv0⟩;rw[J4 (Ot e)]at J;show S2.al m r' J
  .rcases ycM he with rfl|he;cases hj;rw[aL];show yaR _ he
abbrev spP(K:yF)(run:!T->↑T):Sp:=λvs H Q _=>∃a t,Pr K H a vs/\run a*>t/\∀v H',New K H H' t v->Q v H'
abbrev spI(K:yF)(k:Nat)(run:!T->↑(T×T)):Sp:=λvs H Q _=>∃c s w G t e,vs.length=c.length/\vs[k]?*>w/\c[k]?*>s/\Rp K H s w G/\G.Nodup/\(∀a∈G,Mu H a)/\(∀(m:Nat) x u,m≠k->vs[m]?*>x->c[m]?*>u->∃F,Rp K H u x F/\∀a∈F,a∉G)/\run c*>(t,e) /\
 ∀v H' F d,Pd G H H'->(∀a∈G,∃o,H' a*>o)->(F++d).Nodup->(∀a∈F,H a=VE/\Mu H' a)->(∀a∈d,(a∈G\/H a=VE)/\Mu H' a)->Rp K H' e w d->Rp K H' t v F->Q v H'
def vv{run:!T->↑T}{c:TA}{a:MA}(d:fH K c a):be K (kJ (spP K run) [] E0 c) (mB run a):=by
 have e:kJ (spP K run) [] E0 c=tCB (λvs H Q=>spP K run vs H Q E0) c:=by
  funext Z H Q;change(c Z H λvs f=>spP K run (vs++[]) f Q E0)=_;dsimp[Kb];rfl
 rw[e];show yZ (λH vs g t Q r e q=>⟨g,t,r,e,q⟩) d
private def am(k j:Nat)(run:!T->↑(T×T))(a:MA):ME:={λO=>match a.run O with
 | some (c,e)=>(match c[k]? with
  | some ⟨.vw (VF i) (VF p),_⟩=>if(decide (i=j)&&(Kk c.length).all λm=>decide (m=k)||az [j] (c.getD m ⟨.ow,.im .non⟩))=VH then(match run (c.map (·.t))with
   | some (t,g)=>(match e[j]? with
    | some (VF ⟨d,f⟩)=>if d.isOw=VH then VF ({.ow,t},(au [j] e).set j (VF {d,f.put p g}))else VE
    | _=>VE)
   | none=>VE)else VE
  | _=>VE)
 | none=>VE,a.mu++[j]}
def vt{k j:Nat}{run:!T->↑(T×T)}{l:TA}{a:MA}(ha:fH K l a):be K (kJ (spI K k run) [] E0 l) (am k j run a):=by
 intro Γ H O Z E Q r O' g c S q;change l Z H λvs P=>spI K k run (vs++[]) P Q E0;dsimp[Kb];dsimp[am]at c q;ext c e O1 e1;ext c i p s z;ext c hb;rw[JL,decide_eq_true_eq]at hb;have(rfl,h):=hb;ext c t M e3;ext c kd t0 e4;ext c ho;cases c;show ha Γ H O Z E _ e O1 g e1 S λvs P U S1=>?_;have A:k<e.length:=(JJ.mp z).1;obtain⟨w,J⟩:∃w,vs[k]?*>w:={vs[k],by simp[U,A]};have f:∀m r,m≠k->e[m]?*>r->az [i] r=VH:=λm r o c=>by
  have B:=(JJ.mp c).1;have:=Ky.mp h m (Lk.mpr B);rw[Kl,c]at this;simpa[o]using this
 have(G,N,g2,g3,g4,g5):=S1.io z J f e4 ho;rw[g]at N;show{e.map (·.t),s,w,G,t,M,by rw[JK,U],J,by rw[JR,z];rfl,N,g2,g3,λm x u o hx d=>?_,e3,λv H' F G' a1 a2 a3 a4 a5 C Y=>q v H' ?_}
 .rw[JR]at d;cases c:e[m]? with
  | none=>rw[c]at d;cases d
  | some r=>
   rw[c]at d;cases d;have:=g4 m r x o c hx;rw[g]at this;show this
 .rw[<-g]at C Y;have:=g5 H' M v t F G' a1 a2 a3 a4 a5 C Y;rw[af]at this;show this
abbrev roR:T->R
 | .im i=>{.ow,.im i}
 | t=>{.vw VE VE,t}
abbrev cA(ts:!T) (n:Nat):Rho:=(ts.map λt=>VF (roR t))++JO (n-ts.length) VE
def iQ:∀(k n m:Nat),aF k (JO n VE) (JO m VE)=[]
 | _,0,_=>rfl
 | _,n+1,0=>rfl
 | k,n+1,m+1=>by dsimp[KC,aF];show iQ (k+1) n m
def uf{H0:Hp}{io:!Addr}{iov:!V}(n m:Nat):∀{ts:!T} {vs:!V} {k:Nat},Pr K H ts vs->∃L:!Hd,L.map (·.e)=aF k (vs.map VF++JO n VE) ((ts.map λt=>VF (roR t))++JO m VE)/\L.flatMap Hd.own=[]/\(∀h∈L,Rp K H h.e.r.t h.e.v h.F)/\(∀h∈L,(h.e.r.k=.ow/\h.F=[])\/h.e.r.k=.vw VE VE)
 | [],vs,k,r=>by
  rw[Pr]at r;subst r;show{[],by simp[iQ],Xr,by simp,by simp}
 | t::ts,vs,k,r=>by
  obtain⟨v,vr,rfl,⟨F,g⟩,o⟩:=r;have(L,p,j,l,q):=uf (H0:=H0) (io:=io) (iov:=iov) n m (k:=k+1) o;have c:∃d,Rp K H (roR t).t v d/\(((roR t).k=.ow/\d=[])\/(roR t).k=.vw VE VE):=by
   cases t with
   | im i=>show{[],dF (aV g).1,.inl ⟨Xr,Xr⟩}
   | _=>show{F,g,.inr rfl}
  have(d,u,f):=c;show{{{VF k,v,roR t},d}::L,by simp[aF,p],?_,λh a=>?_,λh a=>?_}
  .rw[JW,j,Kb];unfold Hd.own;rcases f with⟨e,rfl⟩|e;simp;rw[show({{VF k,v,roR t},d}:Hd).e.r.k=(roR t).k from rfl,e];rfl
  .rcases ycM a with rfl|a;show u;show l h a
  .rcases ycM a with rfl|a
   .rcases f with⟨e,rfl⟩|e;show .inl ⟨e,Xr⟩;show .inr e
   .show q h a
def Pr.length:∀{ts:!T} {vs:!V},Pr K H ts vs->vs.length=ts.length
 | [],vs,r=>by rw[Pr]at r;subst r;rfl
 | t::ts,vs,r=>by have(v,vr,rfl,_,a):=r;rw[JY,JY,Pr.length a]
def qu{ts:!T}{vs:!V}{n m:Nat}(a:vs.length=ts.length)(i:Nat)(r:R)(h:((ts.map λt=>VF (roR t))++JO m VE)[i]?*>(VF r)):∃v,(vs.map VF++JO n VE)[i]?*>(VF v):=by
 have c:i<ts.length:=by
  by_cases e:i<ts.length;show e
  .rw[K8 (by simp;omega),MD]at h;split at h<;>cases h
 show{vs[i],?_};rw[KO (by simp;omega),JR];simp[a,c]
def sX:((aF k Z O).filterMap λe=>e.key).Nodup:=by
 have:=n9 (k:=k) (Z:=Z) (O:=O);show List.Pairwise.filterMap (R:=λa b=>∃i j,a.key*>i/\b.key*>j/\i<j) (λe:En=>e.key) (λa m ⟨i,j,f,g,h⟩ b d l c=>?_) this;rw[f]at d;rw[g]at c;cases d;cases c;omega
def ug{ts:!T}{vs:!V}{N:!Str}(r:Pr K H ts vs):Sim {K,H,[],[]} H (cA ts N.length) (bR N vs) []:=by
 have(L,c,a,d,f):=uf (H0:=H) (io:=[]) (iov:=[]) (N.length-vs.length) (N.length-ts.length) (k:=0) r;show{{L,{by rw[a];show KS,by rw[a];simp,d,λh l=>?_,?_,λb o e _=>e,by simp},by rw[c];rfl},λi j h=>qu r.length i j h,?_,by simp}
 .unfold Ph;rcases f h l with⟨e,g⟩|e;rw[e,g];simp;rw[e,a];simp
 .have:(L.filterMap λh=>h.e.key)=(L.map (·.e)).filterMap λe=>e.key:=by rw[LF];rfl
  rw[this,c];show sX
 .simp[bR,cA,r.length]
abbrev du(m:MS) (n:Nat) (ts:!T):↑T:=match m.run (cA ts n)with
 | some (.rt t,_)=>VF t
 | some (.nx,_)=>VF (.im .non)
 | _=>VE
def wG(S:Sim {K,H0,[],[]} H' O Z [{VE,v,{.ow,t}}]):New K H0 H' t v:=by
 have(L,g,e):=S.sl;have(x,l,rfl,c,_):=aH e;have i:=g.rp x ymS;rw[c]at i;have d:=g.kd x ymS;unfold Ph at d;rw[c]at d;have j:x.e.r.k.isOw=VH:=by rw[c];rfl
 show{λb o h=>g.fr b o h ∅,x.F,i,g.ndF ymS j,λa f=>{d a f,g.muF ymS j a f}}
def Def.mp{P:Os}{W:Ox}{o:Str->↑Od}{base:Heap}{k:Nat}{name:Str}{st:Stmt}{N ps:!Str}(d:Def K o name st ps)(S:Pa N ps (ai st)){m:MS}
  (g:∀(f:Addr) (a:Od) (A:Oz) (outer:!Env) (s:Og) (H:Hp) (E:XK),Pj k (A.deeper (Rn name (ai st) s.heap.objs.size f a))->GA (iK CX0 P W K o base N name (ai st) f a A outer s H E).nox (ba st) m)
  {run:!T->↑T} (c:∀ts,run ts=if ts.length=ps.length then du m N.length ts else VE):Has P W K o base (k+1) name ps (spP K run):=by
 show d.has S (λvs H Q E h=>?_) (λf a A outer s H vs Q E G h=>?_)
 .have(ts,t,r,e,_):=h;rw[c]at e;split at e;delta C;rw[r.length,C];cases e
 .have(ts,t,r,e,q):=h;rw[c]at e;ext e;have(z,J,p):=g f a A outer s H E G;show{z,J,?_};have u:=ug (N:=N) r;unfold du at e;split at e
  .delta M j i;cases e;show p {K,H,[],[]} H _ _ [] _ _ j rfl ∅ i u λv B H' l=>q v H' (wG l)
  .delta j i;cases e;show p {K,H,[],[]} H _ _ [] _ .nx j rfl ∅ i u λB H' l=>q .non H' (wG (l.imm ce))
  .cases e
abbrev gr(k:Nat) (ts:!T) (n:Nat):Rho:=(cA ts n).set k (VF {.io 0,ts.getD k (.im .non)})
abbrev fW(m:MS) (k n:Nat) (ts:!T):↑(T×T):=match m.run (gr k ts n)with
 | some (.rt t,c)=>(match c[k]? with
  | some (VF ⟨.io 0,a⟩)=>VF (t,a)
  | _=>VE)
 | some (.nx,c)=>(match c[k]? with
  | some (VF ⟨.io 0,a⟩)=>VF (.im .non,a)
  | _=>VE)
 | _=>VE
def qr{G:!Addr}(n m:Nat):∀{ts:!T} {vs:!V} {k:Nat},vs.length=ts.length->(∀(i:Nat) x u,vs[i]?*>x->ts[i]?*>u->∃F,Rp K H u x F/\∀a∈F,a∉G)->∃L:!Hd,L.map (·.e)=aF k (vs.map VF++JO n VE) ((ts.map λt=>VF (roR t))++JO m VE)/\L.flatMap Hd.own=[]/\(∀h∈L,Rp K H h.e.r.t h.e.v h.F/\∀a∈h.F,a∉G)/\(∀h∈L,(h.e.r.k=.ow/\h.F=[])\/h.e.r.k=.vw VE VE)
 | [],[],k,_,_=>{[],by simp[iQ],Xr,by simp,by simp}
 | t::ts,v::vs,k,J,r=>by
  have(F,o,j):=r 0 v t rfl rfl;have(L,q,B,C,z):=qr (G:=G) n m (ts:=ts) (vs:=vs) (k:=k+1) (by exists J) (λi x u M p=>r (i+1) x u (by exists M) (by exists p));have f:∃d,Rp K H (roR t).t v d/\(∀a∈d,a∉G)/\(((roR t).k=.ow/\d=[])\/(roR t).k=.vw VE VE):=by
   cases t with
   | im i=>show{[],dF (aV o).1,by simp,.inl ⟨Xr,Xr⟩}
   | _=>show{F,o,j,.inr rfl}
  have(d,A,g,l):=f;show{{{VF k,v,roR t},d}::L,by simp[aF,q],?_,λh c=>?_,λh c=>?_}
  .rw[JW,B,Kb];unfold Hd.own;rcases l with⟨e,rfl⟩|e;simp;rw[show({{VF k,v,roR t},d}:Hd).e.r.k=(roR t).k from rfl,e];rfl
  .rcases ycM c with rfl|c;show⟨A,g⟩;show C h c
  .rcases ycM c with rfl|c
   .rcases l with⟨e,rfl⟩|e;show .inl ⟨e,Xr⟩;show .inr e
   .show z h c
 | [],_::_,_,h,_=>by cases h
 | _::_,[],_,h,_=>by cases h
def B7{ts:!T}{vs:!V}{N:!Str}{k:Nat}{G:!Addr}(j:vs.length=ts.length)(hw:vs[k]?*>w)(hs:ts[k]?*>s)(rp:Rp K H s w G)(nd:G.Nodup)(U:∀a∈G,Mu H a)(ro:∀(m:Nat) x u,m≠k->vs[m]?*>x->ts[m]?*>u->∃F,Rp K H u x F/\∀a∈F,a∉G):Sim {K,H,G,[w]} H (gr k ts N.length) (bR N vs) []:=by
 have f:k<ts.length:=(JJ.mp hs).1;have M:(vs.set k .non).length=(ts.set k (.im .non)).length:=by simp[j]
 have(L,J,h2,h3,h4):=qr (K:=K) (H:=H) (G:=G) (N.length-vs.length) (N.length-ts.length) (ts:=ts.set k (.im .non)) (vs:=vs.set k .non) (k:=0) M (λm x u C B=>by
  by_cases e:m=k
  .subst e;simp[j,f]at C B;subst C B;show{[],dF ce,by simp}
  .rw[J4 (Ot e)]at C B;show ro m x u e C B)
 have eZ:(vs.set k .non).map VF++JO (N.length-vs.length) VE=(bR N vs).set k (VF .non):=by
  unfold bR;rw[Na _ _ (by simp[j,f]),MR]
 have eO:((ts.set k (.im .non)).map λt=>VF (roR t))++JO (N.length-ts.length) VE=(cA ts N.length).set k (↥(.non)):=by
  unfold cA;rw[Na _ _ (by simp[f]),MR];rfl
 rw[eZ,eO]at J;have A:k<(cA ts N.length).length:=by simp[cA];omega
 have p:k<(bR N vs).length:=by simp[bR,j];omega
 have S:=gP (k:=0) (Z:=bR N vs) (O:=cA ts N.length) (v:=.non) (r:={.ow,.im .non}) p A;rw[KP,<-J]at S;have(L2,pL,Y):=ny S L rfl;have(x,l,rfl,ex,e3):=aH Y;have g:∀h∈l,h∈L:=λh c=>pL.mem_iff.mpr (ymC _ c);have z:l.flatMap Hd.own=[]:=by
  rw[ML];intro h c;rw[ML]at h2;show h2 h (g h c)
 have d:(({{VF k,w,{.io 0,s}},G}:Hd)::l).flatMap Hd.own=G:=by rw[JW,z,Kb];rfl
 have ht:ts.getD k (.im .non)=s:=by rw[Kl,hs];rfl
 have P:(bR N vs).set k (VF w)=bR N vs:=by
  apply Ly;intro m;by_cases hm:m=k
  .subst hm;rw[KG p];unfold bR;rw[KO (by simp[j,f]),JR,hw];rfl
  .rw[J4 (Ot hm)]
 have p2:=gP (k:=0) (Z:=bR N vs) (O:=cA ts N.length) (v:=w) (r:={.io 0,s}) p A;rw[KP,P]at p2;have gw:GW {K,H,G,[w]} H ({{VF k,w,{.io 0,s}},G}::l):=by
  show{by rw[d];show nd,λa q=>by rw[d]at q;show{U a q,.inr q},λh c=>?_,λh c=>?_,?_,λb o e _=>e,λa q=>let ⟨o,e,_⟩:=U a q;⟨o,e⟩}
  .rcases ycM c with rfl|c;show rp;show(h3 h (g h c)).1
  .rcases ycM c with rfl|c;rfl
   .unfold Ph;rcases h4 h (g h c)with⟨e,eF⟩|e;rw[e,eF];simp;rw[e,d];show(h3 h (g h c)).2
  .have e5:(({{VF k,w,{.io 0,s}},G}:Hd)::l).filterMap (λh=>h.e.key)=(x::l).filterMap λh=>h.e.key:=by rw[Kf,Kf,ex]
   rw[e5];have e6:((x::l).filterMap λh=>h.e.key)=((x::l).map (·.e)).filterMap λe=>e.key:=by rw[LF];rfl
   rw[e6,Y];have:=(S.filterMap (λe:En=>e.key)).nodup_iff.mp (by rw[J];show sX);show this
 show{Pc.perm {_,gw,Xr} ?_,λi r' h=>?_,?_,by simp}
 .rw[JN,e3,KT];unfold gr;rw[ht];show p2.symm
 .unfold gr at h;rw[ht]at h;by_cases e:i=k
  .subst e;show{w,?_};unfold bR;rw[KO (by simp[j,f]),JR,hw];rfl
  .rw[J4 (Ot e)]at h;show qu j i r' h
 .simp[bR,gr,cA,j]
def Cw{H0:Hp}{G:!Addr}{p:V}{k:Nat}{q:T}(S:Sim {K,H0,G,[p]} H' O Z [{VE,v,{.ow,t}}])(h : O[k]?*>(VF {.io 0,q})):∃F J,Pd G H0 H'/\(∀a∈G,∃o,H' a*>o)/\(F++J).Nodup/\(∀a∈F,H0 a=VE/\Mu H' a)/\(∀a∈J,(a∈G\/H0 a=VE)/\Mu H' a)/\Rp K H' q p J/\Rp K H' t v F:=by
 have(w,hw,U):=S.slot h;have(L,g,e):=S.sl;rw[Kn]at e U;have(x,L',rfl,m,e2):=aH e;have B:({VF k,w,{.io 0,q}}:En)∈L'.map (·.e):=by
  rw[e2];rcases ycM U with z|z;cases z;show z
 have(y,l,A):=JS.mp B;have i:=g.rp x ymS;rw[m]at i;have f:=g.rp y (ymC _ l);rw[A]at f;have N:=g.kd x ymS;unfold Ph at N;rw[m]at N;have C:=g.kd y (ymC _ l);unfold Ph at C;rw[A]at C;have ew:p=w:=by exists C
 subst ew;have j:x.e.r.k.isOw=VH:=by rw[m];rfl
 have c:y.e.r.k.isOw=VH:=by rw[A];rfl
 show{x.F,y.F,λb o M n=>g.fr b o M n,g.iol,?_,λa d=>{N a d,g.muF ymS j a d},λa d=>?_,f,i}
 .have u:=g.nd;rw[JW]at u;have Y:x.own=x.F:=by unfold Hd.own;rw[if_pos j]
  rw[Y]at u;have P:=JP.mp u;show JP.mpr {P.1,g.ndF (ymC _ l) c,λa d b M=>P.2.2 a d b (KU.mpr {y,l,jB c M})}
 .have:=g.ad a (KU.mpr {y,ymC _ l,jB c d});show⟨this.2.symm,this.1⟩
def Def.mi{P:Os}{W:Ox}{Y:Str->↑Od}{base:Heap}{k:Nat}{name:Str}{st:Stmt}{N ps:!Str}{j:Nat}(d:Def K Y name st ps)(S:Pa N ps (ai st)){m:MS}
  (g:∀(f:Addr) (a:Od) (A:Oz) (outer:!Env) (s:Og) (H:Hp) (E:XK),Pj k (A.deeper (Rn name (ai st) s.heap.objs.size f a))->GA (iK CX0 P W K Y base N name (ai st) f a A outer s H E).nox (ba st) m)
  {run:!T->↑(T×T)} (c:∀ts,run ts=if ts.length=ps.length then fW m j N.length ts else VE):Has P W K Y base (k+1) name ps (spI K j run):=by
 show d.has S (λvs H Q E h=>?_) (λf a A outer s H vs Q E hr h=>?_)
 .obtain⟨ts,s0,w,G,t,s',B,_,_,_,_,_,_,e,_⟩:=h;rw[c]at e;split at e;delta h2;rw[B,h2];cases e
 .obtain⟨ts,s0,w,G,t,s',B,hw,hs,rp,nd,mu,ro,e,q⟩:=h;rw[c]at e;ext e;have(tS,p1,p2):=g f a A outer s H E hr;show{tS,p1,?_};have S0:=B7 (N:=N) B hw hs rp nd mu ro;unfold fW at e;split at e
  .delta t0 z o;ext e s1 M;cases e;show p2 {K,H,G,[w]} H _ _ [] _ _ z rfl ∅ o S0 λv Z' H' C=>?_;have(F,G',p,l,J,r,u,i,U):=Cw C M;show q v H' F G' p l J r u i U
  .delta z o;ext e s1 M;cases e;show p2 {K,H,G,[w]} H _ _ [] _ .nx z rfl ∅ o S0 λZ' H' C=>?_;have(F,G',p,l,J,r,u,i,U):=Cw (C.imm ce) M;show q .non H' F G' p l J r u i U
  .cases e
end
structure CK{ι : Type}(C:ι->Cx)(P:Os)(W:Ox)(K:yF)(mg:Str->↑Od)(base:Heap)(k:Nat):Prop where
 prog:∀i,(C i).prog=P
 w:∀i,(C i).w=W
 kk:∀i,(C i).K=K
 mg:∀i,(C i).mg=mg
 base:∀i,(C i).base=base
 calm:∀i,(C i).calm=VH
 room:∀i,Pj k (C i).A
section
variable {ι : Type}{C:ι->Cx}{P:Os}{W:Ox}{K:yF}{mg:Str->↑Od}{base:Heap}{k:Nat}
noncomputable abbrev kM(C:ι->Cx) (scope:QV) (N':!Str):ι×Bk->Cx:=λp=>cxB (C p.1) scope N' p.2
def CK.blk(a:CK C P W K mg base k)  : CK (kM C scope N') P W K mg base k:=
 {λp=>a.prog p.1,λp=>a.w p.1,λp=>a.kk p.1,λp=>a.mg p.1,λp=>a.base p.1,λp=>a.calm p.1,λp=>a.room p.1}
structure QE(C:ι->Cx)(K:yF)(e:Expr)(m:ME):Prop where
 ex:∃te,(∀i,PE (C i) e te)/\be K te m
structure QT(C:ι->Cx)(K:yF)(e:Expr)(m:MT):Prop where
 ex:∃te,(∀i,PT (C i) e te)/\fo K te m
structure QW(C:ι->Cx)(K:yF)(e:Expr)(m:MT):Prop where
 ex:∃te,(∀i,PW (C i) e te)/\fo K te m
structure QTs(C:ι->Cx)(K:yF)(e:!Expr)(m:MT):Prop where
 ex:∃te,(∀i,PTs (C i) e te)/\fo K te m
structure QA(C:ι->Cx)(K:yF)(es:!Expr)(m:MA):Prop where
 ex:∃ta,(∀i,PA (C i) es ta)/\bc es=VH/\fH K ta m
structure QS(C:ι->Cx)(K:yF)(st:Stmt)(m:MS):Prop where
 ex:∃ts,(∀i,PS (C i) st ts)/\cD K ts m
structure QSs(C:ι->Cx)(K:yF)(st:!Stmt)(m:MS):Prop where
 ex:∃ts,(∀i,PSs (C i) st ts)/\cD K ts m
structure QG(C:ι->Cx)(K:yF)(fr:Option ! ↑Nat)(e:Expr)(m:MG):Prop where
 ex:∃g,(∀i,PG (C i) e g)/\jg K g m/\∀f,fr*>f->dB f g
structure QGs(C:ι->Cx)(K:yF)(fr:Option ! ↑Nat)(n:Nat)(es:!Expr)(m:MGs):Prop where
 ex:∃g,(∀i,PGs (C i) es g)/\mI K g m/\(∀f,fr*>f->k9 f g)/\(∀rs O O',m.run rs O*>O'->rs.length=n)
structure QI(C:ι->Cx)(K:yF)(tg e:Expr)(m:MI):Prop where
 ex:∃wi,(∀i,PI (C i) tg e wi)/\le K wi m
structure QO(C:ι->Cx)(K:yF)(e:↑Expr)(m:MO):Prop where
 ex:∃t,(∀i,PO (C i) e t)/\qM K t m
section
variable {a b c e o:Expr}{es:!Expr}{ma mb mc m:ME}{ms:MA}{pos:Pos}{mt mt':MT}
def bK:QE C K (.Constant (.int i) j pos) (mC (.int i)):={_,λ_=>xW,qk rfl}
def HF:QE C K (.Constant (.bool x) j pos) (mC (.bl x)):={_,λ_=>Hw,qk rfl}
def CU:QE C K (.Constant .none j pos) (mC .non):={_,λ_=>EO,qk rfl}
def gI:QE C K (.Constant (.str x) j pos) (mC (.str x)):={_,λ_=>ES,qk rfl}
def aM(n:Nat)(f:∀i,(C i).N[n]?*>x:=by intro _;rfl)(g:∀i,Vis (C i).env.scope x:=by first|show λ_=>Rx rfl|show λ_=>Qy (Rx rfl)|show λ_=>Qy (Qy rfl))(h:(x==("__debug__" : Str))=VG:=by decide)(d:(x==("__classdict__" : Str))=VG:=by decide):QE C K (.Name x pos) (ae n):={_,λi=>gZ (f i) (g i) h d,BX}
def jH(d:CK C P W K mg base k)(h:PD mg x v)(hs:i0.sc*>v)(g:∀i,Gl (C i) x:=by intro _;rfl)(f:(x==("__debug__" : Str))=VG:=by decide):QE C K (.Name x pos) (mC i0):=
 {_,λi=>xU (by rw[d.mg i];show h) (g i) f,qk hs}
def bB:QA C K [] mNil:={_,λ_=>ft,Xr,BN}
def aE(g:QE C K e m)(f:QA C K es ms)(hs:br e=VG:=by rfl):QA C K (e::es) (aa m ms):=by
 have(j,a,b):=g;have(h,c,n,d):=f;show{_,λi=>bJ (a i) (c i) hs,by rw[bc,hs,n];rfl,y3 b d}
def vo{d:Operator}{red:yF->R2}{f:T->T->↑T}(g:CK C P W K mg base k)(s:∀X:Cx,OpR X (PU d) (red X.K))(hp:eC K (red K) f)(h:QE C K a ma)(l:QE C K b mb):QE C K (.BinOp a d b pos) (mOp f ma mb):=by
 have(u,p,r):=h;have(t,q,j):=l;show{_,λi=>CQ (r:=red K) (by have:=s (C i);rw[g.kk i]at this;show this) (p i) (q i),kf hp r j}
def qc(d:CK C P W K mg base k)(f:QE C K a ma)(g:QE C K b mb):QE C K (.BinOp a .Add b pos) (mOp aW ma mb):=vo d (red:=tZ) (λ_=>tK) pY f g
def HY(d:CK C P W K mg base k)(f:QE C K a ma)(g:QE C K b mb):QE C K (.BinOp a .Sub b pos) (mOp cW ma mb):=vo d (red:=λ_=>rI0 λi j=>.int (i-j)) (λ_=>Ep) yv f g
def HQ(d:CK C P W K mg base k)(f:QE C K a ma)(g:QE C K b mb):QE C K (.BinOp a .Mult b pos) (mOp e8 ma mb):=vo d (red:=yT) (λ_=>AW) yq f g
def Fc(d:CK C P W K mg base k)(f:QE C K a ma)(g:QE C K b mb):QE C K (.BinOp a .FloorDiv b pos) (mOp jo ma mb):=vo d (red:=λ_=>rI qK λi j=>.int (i / j)) (λ_=>u4) vh f g
def HP(d:CK C P W K mg base k)(f:QE C K a ma)(g:QE C K b mb):QE C K (.BinOp a .Mod b pos) (mOp gK ma mb):=vo d (red:=λ_=>rI (λ_ j=>0<j) λi j=>.int (i % j)) (λ_=>Ej) yp f g
def HV(d:CK C P W K mg base k)(f:QE C K a ma)(g:QE C K b mb):QE C K (.BinOp a .Pow b pos) (mOp vd ma mb):=vo d (red:=λ_=>rI Dk λi j=>.int (i^j.toNat)) (λ_=>Eo) yu f g
def CV(d:QE C K a ma):QE C K (.UnaryOp .Not a pos) (lG ma):=by
 have(f,p,r):=d;show{_,λi=>EQ (p i),zd r}
abbrev fG(g:UC)(f:T->T->↑T):Prop:=∃d:yF->R2,(∀X:Cx,X.A.units+64<P7->OpR X (OQ g) (d X.K))/\∀K,eC K (d K) f
def Jj:fG .Lt (dH λi j=>decide (i<j)):={λ_=>_,λ_ _=>Hb,λ_=>lR}
def wm:fG .Gt (dH λi j=>decide (j<i)):={λ_=>_,λ_ _=>Ha,λ_=>lR}
def Ji:fG .GtE (dH λi j=>decide (j<=i)):={λ_=>_,λ_ _=>G9,λ_=>lR}
def Jh:fG .Eq eqT:={Fs,λ_ d=>Eg d,λ_=>Bm}
def wn:fG .NotEq neT:={Fw,λ_ d=>Em d,λ_=>Bo}
def Du:fG .In inT:={Ft,λ_ d=>Ei d,λ_=>Bn}
def GF:fG .NotIn pT:={oN,λ_ d=>u6 d,λ_=>yr}
abbrev CG:T->Bool
 | .im .non=>VH
 | _=>VG
abbrev isB(t u:T):↑Bool:=match u with
 | .im j=>(match j with|.non=>VF (CG t)|.bl b=>(match t with|.im i=>(match i with|.bl a=>VF (decide (a=b))|_=>VE)|_=>VE)|_=>VE)
 | _=>VE
def xg:∀{t:T},Rpx K H t x->CG t=decide (x=.non)
 | .im i,r=>by
  have h:=cu r;cases i<;>rw[RpI]at h;rw[h];rfl;rw[h];rfl;rw[h];rfl;rw[h];rfl;have(a,d,rfl,_):=h;rfl;have(a,o,d,rfl,_):=h;rfl;have(a,o,d,rfl,_):=h;rfl;have(_,_,rfl,_):=h;rfl
 | .tup f,r=>by have(a,d,F,rfl,_):=kZ r;rfl
 | .li f,r=>by have(a,d,rfl,_):=bW r;rfl
 | .lst f,r=>by have(a,d,F,rfl,_):=gx r;rfl
 | .di f,r=>by obtain⟨F,r⟩:=r;rw[Rp]at r;obtain⟨a,d,rfl,_⟩:=r;rfl
 | .dc f,r=>by obtain⟨F,r⟩:=r;rw[Rp]at r;obtain⟨a,d,g,rfl,_⟩:=r;rfl
 | .ins C f,r=>by obtain⟨F,r⟩:=r;rw[Rp]at r;obtain⟨a,j,d,g,rfl,_⟩:=r;rfl
private def xx(x y:T):↑T:=(isB x y).map λb=>.im (.bl (~~~b))
def DR{H:Hp}{x y:V}{f d:T}{b:Bool}(h:Rpx K H f x)(g:Rpx K H d y)(e:isB f d*>b):(∃i j,x=.bl i/\y=.bl j/\b=decide (i=j))\/(y=.non/\b=decide (x=.non)):=by
 unfold isB at e;split at e;split at e;(cases e;show .inr {zt g,xg h});(split at e;(split at e;(cases e;show .inl {_,_,kH h,kH g,Xr});cases e);cases e);cases e;cases e
def GG:fG .IsNot xx:=by
 show{λ_ x y H Q=>Ig VH x y H Q\/(y=.non/\Q (.bl (~~~decide (x=.non))) H),λX _=>op_isnotB.or AY,λK H x y d g t Q f l e q=>?_};unfold xx at e;cases h:isB d g with
 | none=>rw[h]at e;cases e
 | some b=>
  rw[h]at e;cases e;rcases DR f l h with⟨i,j,rfl,rfl,rfl⟩|⟨rfl,rfl⟩;show .inl {i,j,Xr,Xr,q _ H (.sc rfl)};show .inr {Xr,q _ H (.sc rfl)}
def HG(g:CK C P W K mg base k)(j:fG op f)(h:QE C K a ma)(t:QE C K b mb)(q:Qo op b=VG):QE C K (.Compare a [op] [b] pos) (mOp f ma mb):=by
 have(d,v,l):=j;have(x,p,r):=h;have(w,u,s):=t;show{_,λi=>A6 (r:=d K) (by have:=v (C i) (g.room i).units;rw[g.kk i]at this;show this) (p i) (u i) q,kf (l K) r s}
def eN(g:CK C P W K mg base k)(j:fG op f)(h:QE C K a ma)(t:QE C K b mb)(q:Qo op b=VG):QT C K (.Compare a [op] [b] pos) (aB (mOp f ma mb)):=by
 have(d,v,l):=j;have(x,p,r):=h;have(w,u,s):=t;show{_,λi=>tR (r:=d K) (by have:=v (C i) (g.room i).units;rw[g.kk i]at this;show this) (p i) (u i) q,lY (kf (l K) r s)}
def yM(f:QE C K e m)(g:∀i d,SN e (C i).env d=(do let v <-d;Qj e.pos;O7 [v] (UD v)):=by intro _ _;rfl):QT C K e (aB m):=by
 have(h,p,r):=f;show{_,λi=>E8 (p i) (g i),FK r}
def Fo(f:CK C P W K mg base k)(g:QE C K e m)(h:∀i d,SN e (C i).env d=(do let v <-d;Qj e.pos;O7 [v] (UD v)):=by intro _ _;rfl):QT C K e (uW m):=by
 have(j,p,r):=g;show{_,λi=>JD (f.kk i) (p i) (h i),BV r}
def Fm(d:QT C K a mt):QT C K (.UnaryOp .Not a pos) (rB mt):=by
 have(f,p,r):=d;show{_,λi=>E7 (p i),BO r}
def tY(d:QT C K a mt):QW C K (.BoolOp .And [a] pos) mt:=by
 have(f,p,r):=d;show{_,λi=>Bs (p i),r}
def Fp(d:QT C K a mt):QW C K (.BoolOp .Or [a] pos) mt:=by
 have(f,p,r):=d;show{_,λi=>Fb (p i),r}
def yN{rest:!Expr}(d:QT C K a mt)(g:QW C K (.BoolOp .And (b::rest) pos) mt'):QW C K (.BoolOp .And (a::b::rest) pos) (mw mt mt'):=by
 have(l,p,r):=d;have(j,h,f):=g;show{_,λi=>Fa (p i) (h i),BI r f}
def HZ{rest:!Expr}(d:QT C K a mt)(g:QW C K (.BoolOp .Or (b::rest) pos) mt'):QW C K (.BoolOp .Or (a::b::rest) pos) (mOr mt mt'):=by
 have(l,p,r):=d;have(j,h,f):=g;show{_,λi=>HC (p i) (h i),FG r f}
def QW.t(h:QW C K e mt):QT C K e mt:=by
 have(d,p,r):=h;show{_,λi=>(p i).pt,r}
def HU(h:QE C K a m):QE C K (.BoolOp op [a] pos) m:=by
 have(d,p,r):=h;show{_,λi=>ER (p i),r}
def HD{rest:!Expr}(d:QE C K a ma)(g:QE C K (.BoolOp .And (b::rest) pos) mb):QE C K (.BoolOp .And (a::b::rest) pos) (jx ma mb):=by
 have(l,p,r):=d;have(j,h,f):=g;show{_,λi=>EK (p i) (h i),y0 r f}
def HK(g:QT C K c mt)(f:QE C K a ma)(l:QE C K b mb):QE C K (.IfExp c a b pos) (AN mt ma mb):=by
 have(s,j,d):=g;have(u,p,r):=f;have(t,q,h):=l;show{_,λi=>xV (j i) (p i) (q i),BK d r h}
def tV(mv:!Nat)(h:QA C K es ms):QE C K (.List es pos) (aU mv ms):=by
 have(d,p,_,r):=h;show{_,λi=>EN (p i),za r}
def tW(mv:!Nat)(h:QA C K es ms):QE C K (.Tuple es x1 pos) (ar mv ms):=by
 have(d,p,_,r):=h;show{_,λi=>xY (p i),zj r}
def dv(d:CK C P W K mg base k)(f:QE C K a ma)(h:QE C K b mb)(hs:sI b:=by show λ_ _=>rfl):QE C K (.Subscript a b pos) (mIx ma mb):=by
 have(q,p,r):=f;have(l,j,g):=h;show{_,λi=>Hz (Jr (d.kk i)) (p i) (j i) hs,FF r g}
def Bx:QO C K VE mNoPart:={_,λ_=>Bh,r9}
def By(h:QE C K e m):QO C K (VF e) (ff m):=by
 have(d,p,r):=h;show{_,λi=>oE (p i),zg r}
def Jw{lo g:↑Expr}{h j:MO}{s:Pos}(l:CK C P W K mg base k)(q:QE C K a ma)(t:QO C K lo h)(v:QO C K g j):QE C K (.Subscript a (.Slice lo g VE s) pos) (mSl ma h j):=by
 have(z,p,r):=q;have(y,w,u):=t;have(x,f,d):=v;show{_,λi=>pW (r:=rSl K) (by have:=JC (X:=C i);rw[l.kk i]at this;show this) (p i) (w i) (f i),FJ r u d}
def HW(d:CK C P W K mg base k)(f:QE C K a ma):QE C K (.Subscript a (.Slice VE VE (VF (.UnaryOp .USub (.Constant (.int 1) j p1) p2)) p3) pos) (mUn zk ma):=by
 have(g,p,r):=f;show{_,λi=>JA (d.kk i) (p i),BR r}
def yI{x:Str}{p:Pos}{j:Nat}{ps:!Str}{run:!T->↑T}(d:CK C P W K mg base k)(h:Has P W K mg base j x ps (spP K run))(g:QA C K (e::es) ms)(l:j<=k:=by first|decide|omega)(s:∀i,Gl (C i) x:=by intro _;rfl)(f:(x==("__debug__" : Str))=VG:=by decide):QE C K (.Call (.Name x p) (e::es) [] pos) (mB run ms):=by
 have(t,q,n,r):=g;show{_,λi=>xT (by rw[d.prog i,d.w i,d.kk i,d.mg i,d.base i];show h) ((d.room i).mono l) (s i) (q i) n f,vv r}
def HI(l:Nat){x:Str}{p:Pos}{j g:Nat}{ps:!Str}{run:!T->↑(T×T)}(d:CK C P W K mg base k)(h:Has P W K mg base j x ps (spI K g run))(s:QA C K (e::es) ms)(t:j<=k:=by first|decide|omega)(u:∀i,Gl (C i) x:=by intro _;rfl)(f:(x==("__debug__" : Str))=VG:=by decide):QE C K (.Call (.Name x p) (e::es) [] pos) (am g l run ms):=by
 have(v,q,n,r):=s;show{_,λi=>xT (by rw[d.prog i,d.w i,d.kk i,d.mg i,d.base i];show h) ((d.room i).mono t) (u i) (q i) n f,vt r}
abbrev o6(x:Str)(f:!T->↑T):Prop:=∃(id:String) (d:yF->!V->Hp->VK->Prop),PZ x*>(.builtin id)/\(∀X:Cx,X.calm=VH->Pi X (.builtin id) (d X.K))/\∀K,gM K (d K) f
abbrev wd(x:Str)(f:!T->↑T):Prop:=∃(id:String) (d:yF->!V->Hp->VK->Prop),PZ x*>(.type id)/\(∀X:Cx,X.calm=VH->Pi X (.type id) (d X.K))/\∀K,gM K (d K) f
def lU(d:CK C P W K mg base k)(y:o6 x f)(s:mg x=VE)(j:QA C K (e::es) ms)(w:∀i,Gl (C i) x:=by intro _;rfl)(l:x≠("__name__" : Str):=by decide)(g:(x==("__debug__" : Str))=VG:=by decide):QE C K (.Call (.Name x p) (e::es) [] pos) (mB f ms):=by
 have(id,h,v,u,t):=y;have(z,q,n,r):=j;show{_,λi=>fR (r:=h K) (by have:=u (C i) (d.calm i);rw[d.kk i]at this;show this) (w i) (by rw[d.mg i];show s) v (q i) n l g,yZ (t K) r}
def Jy(d:CK C P W K mg base k)(y:wd x f)(s:mg x=VE)(j:QA C K (e::es) ms)(w:∀i,Gl (C i) x:=by intro _;rfl)(l:x≠("__name__" : Str):=by decide)(g:(x==("__debug__" : Str))=VG:=by decide):QE C K (.Call (.Name x p) (e::es) [] pos) (mB f ms):=by
 have(id,h,v,u,t):=y;have(z,q,n,r):=j;show{_,λi=>rV (r:=h K) (by have:=u (C i) (d.calm i);rw[d.kk i]at this;show this) (w i) (by rw[d.mg i];show s) v (q i) n l g,yZ (t K) r}
def b_len:o6 "len" bG:={_,yR,PySem.boot_len,λ_ _=>uw,λ_=>yk}
def b_min:o6 "min" oA:={_,λ_=>_,N6,λ_ h=>uy h,λ_=>yn}
def b_max:o6 "max" pP:={_,λ_=>_,N7,λ_ h=>ux h,λ_=>ym}
def b_all:o6 "all" qN:={_,Ia,N8,λ_ h=>wp h,λ_=>yd}
def b_int:wd "int" pE:={_,λ_=>_,N9,λ_ _=>uv,λ_=>yf}
def b_tuple:wd "tuple" kn:={_,yU,LB,λ_ _=>mn,λ_=>yw}
def b_list:wd "list" uV:={_,yS,LH,λ_ _=>nU,λ_=>yl}
abbrev wa(g:String)(name:Str)(f:T->!T->↑T):Prop:=∃(id:String) (d:yF->V->!V->Hp->VK->Prop),Rs g/\Slot g name id/\RG (.builtin id)=pure (.type "method_descriptor")/\(∀X:Cx,MtR X id (d X.K))/\(∀K,wb K g (d K) f)/\∀K (H:Hp) (x:V) (h:T) i t,Rpx K H h x->f h i*>t->tyV K g x H
abbrev mH(g:String)(name:Str)(f:T->!T->↑(T×I)):Prop:=∃(id:String) (d:yF->V->!V->Hp->VK->Prop),Rs g/\Slot g name id/\RG (.builtin id)=pure (.type "method_descriptor")/\(∀X:Cx,MtR X id (d X.K))/\(∀K,fb K (d K) f)/\∀K (H:Hp) (x:V) (h:T) i r,Rpx K H h x->f h i*>r->tyV K g x H
def Fd(l:CK C P W K mg base k)(z:wa T0 name f)(B:QE C K o mo)(p:QA C K (e::es) ms)(h:decide ((e::es).length<30)=VH:=by rfl)
  (d:∀i,O6 o name (C i).env (eval o (C i).env)=eval o (C i).env:=by intro _;rfl) (g:(apos.endLine==pos.line)=VH:=by rfl):QE C K (.Call (.Attribute o name apos) (e::es) [] pos) (mM f mo ms):=by
 have(id,j,y,s,t,A,x,v):=z;have(E,q,r):=B;have(G,u,n,w):=p;show{_,λi=>GE (r:=j K) (l.kk i) y s t (by have:=A (C i);rw[l.kk i]at this;show this) (q i) (u i) n h (d i) g,Is (x K) (v K) r w}
def HS(l:Nat)(mv:!Nat)(p:CK C P W K mg base k)(A:mH T0 name f)(E:QE C K o mo)(s:QA C K (e::es) ms)(h:decide ((e::es).length<30)=VH:=by rfl)
  (d:∀i,O6 o name (C i).env (eval o (C i).env)=eval o (C i).env:=by intro _;rfl) (g:(apos.endLine==pos.line)=VH:=by rfl):QE C K (.Call (.Attribute o name apos) (e::es) [] pos) (dm l mv f mo ms):=by
 have(id,j,z,t,u,B,y,w):=A;have(G,q,r):=E;have(H,v,n,x):=s;show{_,λi=>GE (r:=j K) (p.kk i) z t u (by have:=B (C i);rw[p.kk i]at this;show this) (q i) (v i) n h (d i) g,BM (y K) (w K) r x}
def Fe(l:Nat)(j:CK C P W K mg base k)(w:mH T0 name f)(y:QE C K o mo)
  (d:∀i,O6 o name (C i).env (eval o (C i).env)=eval o (C i).env:=by intro _;rfl) (g:(apos.endLine==pos.line)=VH:=by rfl):QE C K (.Call (.Attribute o name apos) [] [] pos) (nc l f mo):=by
 have(id,h,v,p,s,x,u,t):=w;have(z,q,r):=y;show{_,λi=>Jg (r:=h K) (j.kk i) v p s (by have:=x (C i);rw[j.kk i]at this;show this) (q i) (d i) g,zb (u K) (t K) r}
def D6:wa "str" "join" lB:={_,C1,PySem.F.plainAttrs_str,PySem.F.slot_str_join,PySem.F.type_str_join,λ_=>AR,λ_=>vj,λK H x d f t r e=>by
 unfold lB at e;split at e;rw[dy r];rfl;cases e}
def xq:mH "list" "append" apT:={_,λ_=>oJ,PySem.F.plainAttrs_list,PySem.F.slot_list_append,PySem.F.type_list_append,λ_=>uX,λ_=>pZ,λK=>vR}
def xr:mH "list" "extend" oe:={_,yQ,PySem.F.plainAttrs_list,PySem.F.slot_list_extend,PySem.F.type_list_extend,λ_=>AQ,λ_=>qa,λK=>vS}
def GZ:mH "list" "pop" pX:={_,λ_=>Fx,PySem.F.plainAttrs_list,PySem.F.slot_list_pop,PySem.F.type_list_pop,λ_=>D8,λ_=>yt,λK=>FW}
def xt:mH "list" "insert" ot:={_,λ_=>oM,PySem.F.plainAttrs_list,PySem.F.slot_list_insert,PySem.F.type_list_insert,λ_=>uY,λ_=>qb,λK=>vT}
end
end
section
variable {ι : Type}{C:ι->Cx}{P:Os}{W:Ox}{K:yF}{mg:Str->↑Od}{base:Heap}{k:Nat}
section
variable {a b c e o tg iter:Expr}{es:!Expr}{ma mb mc m mo mi:ME}{ms:MA}{pos:Pos}{mt mt':MT}{s1 s2:MS}{g g':MG}{gs:MGs}{it it2:MI}{fr:Option ! ↑Nat}
def dU(n:Nat)(p:∀i,(C i).N.Nodup)(r:∀i,(C i).N[n]?*>x:=by intro _;rfl)(l:∀i,Loc (C i).env.scope x:=by first|show λ_=>Rx rfl|show λ_=>Qy rfl)(q:∀i,(C i).fn x=VH\/(C i).env.scope.names.lookup x*>.local:=by first|show λ_=>.inl rfl|show λ_=>.inr rfl)
  (j:∀f,fr*>f->f[n]?*>VE:=by first|(intro f h;cases h;done)|(intro f h;cases h;rfl)):QG C K fr (.Name x pos) (ag n):=
 {_,λi=>Bb (p i) (r i) (l i) (q i),hJ,λf d=>AC (j f d)}
def gn:QGs C K fr 0 [] mGNil:=by unhygienic show{_,λ_=>Bd,y8,λ_ _=>DM,λd O f h=>by cases d<;>first|rfl|cases h}
def bu(w:QG C K fr e g)(l:QGs C K fr n es gs)(hs:∀i,(O9 (e::es) (C i).env).map (·.2)=QD e (C i).env::(O9 es (C i).env).map (·.2):=by intro _;rfl):QGs C K fr (n+1) (e::es) (ay g gs):=by unhygienic
 have(z,u,v,p):=w;have(x,s,t,q,l2):=l;show{_,λi=>yb (u i) (s i) (hs i),vA v t,λf d=>AB (p f d) (q f d),λj O y h=>?_};cases j with
 | nil=>cases h
 | cons r j=>
  dsimp[ay]at h;ext h;split at h;rw[JY,l2 _ _ _ h];cases h
def j7(j:CK C P W K mg base k)(h:QGs C K fr n es gs)(t:∀i,(O9 es (C i).env).length=n:=by intro _;rfl)(d:∀i,(O9 es (C i).env).findIdx? (·.1)=VE:=by intro _;rfl):QG C K fr (.Tuple es k0 pos) (bH gs):=by
 have(g,p,r,q,l):=h;show{_,λi=>tgK (j.kk i) (j.calm i) (p i) (t i) (d i),y9 r l,λf s=>DN (q f s)}
def Ff(j:Nat)(s:QE C K o mo)(t:QE C K e mi)
  (q:∀i v,QD (.Subscript o e pos) (C i).env v=(do
   let d <-O7 [v] (eval o (C i).env)
   let l <-O7 [v,d] (eval e (C i).env)
   Qj pos
   O7 [v,d,l] (R8 d l v)
   Uw [v,d,l] []):=by intro _ _;rfl):QG C K VE (.Subscript o e pos) (rC j mo mi):=by
 have(y,p,r):=s;have(x,w,u):=t;show{_,λi=>x8 (p i) (w i) zy (q i),BU r u,λf h=>by cases h}
def i4:QSs C K [] mNext:={_,λ_=>tQ,qq}
def eM{st:Stmt}(d:QS C K st s1):QSs C K [st] s1:=by
 have(t,p,r):=d;show{_,λi=>kX (p i),r}
def bQ{st:Stmt}{rest:!Stmt}(f:QS C K st s1)(d:QSs C K rest s2):QSs C K (st::rest) (aq s1 s2):=by
 have(t,p,r):=f;have(u,j,h):=d;show{_,λi=>jG (p i) (j i),ub r h}
def lW(q:QT C K c mt)(h:QSs C K b1 s1)(f:QSs C K b2 s2):QS C K (.If c b1 b2 pos) (mIf mt s1 s2):=by
 have(v,l,d):=q;have(t,p,r):=h;have(u,s,j):=f;show{_,λi=>CS (l i) (p i) (s i),ua d r j}
def rZ(h:QE C K e m):QS C K (.Return (VF e) pos) (bh m):=by
 have(t,p,r):=h;show{_,λi=>E4 (p i),BQ r}
def Bz(h:QE C K e m)(hs:∀i,Ra e VE pos.line (C i).env=pure VG:=by intro _;rfl):QS C K (.Expr e pos) (bD m):=by
 have(t,p,r):=h;show{_,λi=>oG (p i) (hs i),y4 r}
def Fh(h:QE C K e m)(l:QG C K VE tg g)(hs:∀i,Q3 [tg] e pos.line (C i).env=pure VG:=by intro _;rfl)(f:∀i,Q4 [tg] e (C i).env=pure VE:=by intro _;rfl)
  (d:∀i,(O9 [tg] (C i).env).map (·.2)=[QD tg (C i).env]:=by intro _;rfl):QS C K (.Assign [tg] e pos) (aC m g):=by
 have(t,p,r):=h;have(u,q,j,_):=l;show{_,λi=>EZ (p i) (q i) (hs i) (f i) (d i),oP r j}
def gp(n:Nat)(f:∀i,(C i).N.Nodup)(h:QE C K e m)(l:∀i,(C i).N[n]?*>x:=by intro _;rfl)(d:∀i,Loc (C i).env.scope x:=by first|show λ_=>Rx rfl|show λ_=>Qy rfl)(hs:∀i,Ra e (VF (.Name x pos')) pos.line (C i).env=pure VG:=by intro _;rfl)(j:∀i,(C i).fn x=VH\/(C i).env.scope.names.lookup x*>.local:=by first|show λ_=>.inl rfl|show λ_=>.inr rfl) :
  QS C K (.Assign [.Name x pos'] e pos) (aC m (ag n)):=by
 have(t,p,r):=h;show{_,λi=>E5 (f i) (l i) (d i) (p i) (hs i) (j i),oP r hJ}
abbrev AO(i j:Nat) (a:MA):MS:={λO=>match a.run O with
 | some ([h,d],f)=>if(dn f i&&az [i] h&&az [i] d&&dn f j&&az [j] d)=VH then VF (.nx,(au [j] ((au [i] f).set i (VF h))).set j (VF d))else VE
 | _=>VE,a.mu++[i,j]}
def iA(h:dn O j=VH)(l:∀n,r.k ≠ .io n):dn ((au [i] O).set i (VF r)) j=VH:=by
 unfold dn at h|-;by_cases e:j=i
 .subst e;have d:j < O.length:=by
   cases q : O[j]? with
   | none=>rw[q]at h;cases h
   | some o=>show(JJ.mp q).1
  rw[KG (by rw[aO];show d)];have(k,t):=r;cases k with
  | io n=>show absurd rfl (l n)
  | _=>rfl
 .rw[J4 (Ot e)];unfold au;rw[JR];cases q : O[j]? with
  | none=>rw[q]at h;cases h
  | some o=>
   rw[q]at h;cases o with
   | none=>rfl
   | some x=>
    change(match VF (cF [i] (VF x))with|some (VF ⟨.io _,_⟩)=>VG|some _=>VH|none=>VG)=VH;cases hk:cF [i] (VF x)with
    | none=>rfl
    | some y=>
     have(f,_):=killO_iff.mp hk;cases f;show h
abbrev eI(r:R):Bool:=match r.k with
 | .io _=>VG
 | _=>VH
def BP{i j:Nat}{G:TA}{a:MA}(N:fH K G a)(hio:∀O rs B,a.run O*>(rs,B)->True):cD K (IF i j G) (AO i j {λO=>match a.run O with
  | some (rs,p)=>if rs.all eI=VH then VF (rs,p)else VE
  | none=>VE,a.mu}):=by
 intro y H O Z E D f B hK hE h S q;dsimp[AO]at h q;ext h x Q p l;ext l rs O2 e2;ext l d;cases l;ext h M;cases h;dsimp[JL]at M;obtain⟨⟨⟨⟨U,b2⟩,Y⟩,b4⟩,X⟩:=M;show N y H O Z E _ _ _ hK e2 S λvs J t u=>?_;obtain⟨v,w,rfl⟩:∃v w,vs=[v,w]:=by
  cases vs with
  | nil=>cases t
  | cons v r=>cases r with
   | nil=>cases t
   | cons w r=>cases r with
    | nil=>show⟨v,w,Xr⟩
    | cons _ _=>cases t
 have u:Sim y J p Z (⟨VE,v,x⟩::⟨VE,w,Q⟩::ah a.mu E):=u;show{v,w,Xr,q _ J ?_};have A:=u.put U (cY b2);rw[ax (bj Y)]at A;have s:∀n,x.k ≠ .io n:=λn z=>by
  have:=Ky.mp d x ymS;unfold eI at this;rw[z]at this;cases this
 have L:=A.put (iA b4 s) (cY X);rw[af,af]at L;have:a.mu++([i]++[j])=a.mu++[i,j]:=rfl;rw[<-Ka]at this;show L
private def ng(i j:Nat)(a:MA):MS:=AO i j {λO=>match a.run O with
  | some (d,f)=>if d.all eI=VH then VF (d,f)else VE
  | none=>VE,a.mu}
def Fj(i j:Nat){x y:Str}{px py pt:Pos}{kt k2 pt2}(f:CK C P W K mg base k)(l:∀i,(C i).N.Nodup)(h:QA C K [a,b] ms)(t:∀n,(C n).N[i]?*>x:=by intro _;rfl)(q:∀n,(C n).N[j]?*>y:=by intro _;rfl)(d:i≠j:=by decide)
  (u:∀n,(C n).env.scope.names.lookup x*>.local:=by intro _;rfl) (v:∀n,(C n).env.scope.names.lookup y*>.local:=by intro _;rfl)
  (s:∀n,Q4 [.Tuple [.Name x px,.Name y py] kt pt] (.Tuple [a,b] k2 pt2) (C n).env=pure (VF [x,y]):=by intro _;rfl)
  (hs:∀n,Q3 [.Tuple [.Name x px,.Name y py] kt pt] (.Tuple [a,b] k2 pt2) pos.line (C n).env=pure VG:=by intro _;rfl) :
  QS C K (.Assign [.Tuple [.Name x px,.Name y py] kt pt] (.Tuple [a,b] k2 pt2) pos) (ng i j ms):=by unhygienic
 have(w,p,_,r):=h;show{_,λn=>E3 (f.calm n) (l n) (t n) (q n) d (u n) (v n) (p n) (s n) (hs n),BP r (λ_ _ _ _=>trivial)}
def yL(hp:∀i,QU (Om (C i).prog (C i).w) (C i).A (C i).env (C i).xe)(d:QT C K c mt)(h:QSs C K body s1):QS C K (.While c body [] pos) (ge mt s1):=by
 have(l,p,r):=d;have(q,j,f):=h;show{_,λi=>yC (hp i) (p i) (j i),vD r f}
def yK(d:CK C P W K mg base k)(hp:∀i,QU (Om (C i).prog (C i).w) (C i).A (C i).env (C i).xe)(l:QI C K tg iter it)(s:QG C K VE tg g)(t:QSs C K body s1)(hs:∀i x,OJ iter (C i).env x=pure x:=by intro _ _;rfl):QS C K (.For tg iter body [] pos) (cr it g s1):=by
 have(v,p,r):=l;have(j,f,h,_):=s;have(y,u,q):=t;show{_,λi=>yz (hp i) (d.calm i) (p i) (f i) (u i) (hs i),t9 r h q}
def vp(d:CK C P W K mg base k)(T:Bi mg)(f:QA C K [a] ms)(h:∀i,Gl (C i) "range" :=by intro _;rfl)(hs:br a=VG:=by rfl):QI C K tg (.Call (.Name "range" p) [a] [] pos) (bt ms):=by
 have(j,q,_,r):=f;show{_,λi=>u9 (h i) (by rw[d.mg i];show T.b_range) (q i) (by rw[aZ hs];rfl),zh r}
def vq(f:CK C P W K mg base k)(T:Bi mg)(h:QA C K [a,b] ms)(j:∀i,Gl (C i) "range" :=by intro _;rfl)(hs:br a=VG:=by rfl)(d:br b=VG:=by rfl):QI C K tg (.Call (.Name "range" p) [a,b] [] pos) (gG ms):=by
 have(l,q,_,r):=h;show{_,λi=>vc (j i) (by rw[f.mg i];show T.b_range) (q i) (by rw[aZ hs,aZ d];rfl) (by rw[aZ d];rfl),zi r}
def PI.or(i:PI X tg iter w1)(f:PI X tg iter w2):PI X tg iter (λZ H R=>w1 Z H R\/w2 Z H R):=by
 intro d s Z H R I h;rcases h with h|h;show i d s Z H R I h;show f d s Z H R I h
abbrev f8:R->Option !R
 | ⟨_,.li d⟩=>VF (d.map λi=>{.ow,.im i})
 | ⟨.vw f _,.lst h⟩=>VF (h.map (partV f))
 | ⟨_,.im (.tup d)⟩=>VF (d.map λi=>{.ow,.im i})
 | ⟨_,.im (.str z)⟩=>VF ((sL z).map λc=>{.ow,.im (.str {#[c]})})
 | ⟨_,.im (.ls d)⟩=>VF (d.map λi=>{.ow,.im i})
 | _=>VE
private def mIt(a:ME):MI:={λO=>match a.run O with
 | some (r,f)=>(match f8 r with
  | some d=>VF (([r],d),f)
  | none=>VE)
 | none=>VE,a.mu}
def Cj:iO Γ (Its z) [v] [src] ((sL z).map λc=>{.ow,.im (.str {#[c]})}):=λH O Z E S=>by
 show{λi h=>?_,λi r j=>?_}
 .change z.cps.size<=i;simpa[sL]using h
 .have(c,l,rfl):=aI j;have d:z.cps[i]?*>c:=by simpa[sL]using l
  show{?_,λx p y=>?_}
  .change i<z.cps.size;show(La.mp d).1
  .have(rfl,q,f,rfl):=y;rw[d]at f;cases f;show S.imm (kI rfl)
def FE(i:be K ta m):le K (λZ H R=>tq K ta Z H R\/(AD K ta Z H R\/GO ta Z H R)) (mIt m):=by unhygienic
 intro h H O Z E p w d t l s S q;dsimp[mIt]at s;ext s r B j;ext s G f;cases s;unfold f8 at f;split at f
 .delta y A;show .inl (oR i h H O Z E p _ d t l (by dsimp[xp,j,iU];cases f;rfl) S q)
 .show .inl (oR i h H O Z E p _ d t l (by dsimp[xp,j,iU];cases f;rfl) S q)
 .show .inr (.inl (BL i h H O Z E p _ d t l (by dsimp[D5,j,lA];cases f;rfl) S q))
 .delta y z;cases f;right;right;show i h H O Z E _ _ _ l j S λx v u=>?_;show{z,dy (u.rd ymS),q h rfl (λ_ _ _ _ S=>S) _ [x] v rfl u Cj}
 .show .inl (oR i h H O Z E p _ d t l (by dsimp[xp,j,iU];cases f;rfl) S q)
 .cases f
def lV(d:CK C P W K mg base k)(f:QE C K iter m):QI C K tg iter (mIt m):=by
 have(h,q,r):=f;show{_,λi=>PI.or (ilK (d.kk i) (q i)) (PI.or (itK (d.kk i) (q i)) (Bg (q i))),FE r}
private def mYes:MT:={λO=>VF (VH,O),[]}
def BY:fo K IK mYes:=by unhygienic
 intro f H O Z E Q b i h d S q;cases d;show q H (by rw[show mYes.mu=[]from rfl,cB];show S)
def oI:QTs C K [] mYes:={_,λ_=>Bq,BY}
def BC(h:QT C K c mt):QTs C K [c] mt:=by
 have(t,p,r):=h;show{_,λi=>Br (p i),r}
section
variable {elt tg2 iter2:Expr}{ifs:!Expr}{scope:QV}
def cN(h:CK C P W K mg base k)(q:∀i,Blk (C i).env.scope scope (C i).N N' f)(u:QI C K tg iter it)(A:QG (kM C scope N') K (VF f) tg g)(t:QTs (kM C scope N') K ifs mt)(z:QE (kM C scope N') K elt m)(hs:∀i x,OJ iter (C i).env x=pure x:=by intro _ _;rfl) :
  QE C K (.ListComp elt [{tg,iter,ifs,0}] scope pos) (bg f it g mt m):=by
 have(E,s,j):=u;have(H,w,y,d):=A;have(B,l,p):=t;have(G,r,v):=z;show{_,λi=>A7 (h.calm i) (q i) (s i) (λb=>w (i,b)) (d f rfl) (λb=>l (i,b)) (λb=>r (i,b)) (hs i),qm j (d f rfl) y p v}
def bF(n:Nat)(j:CK C P W K mg base k)(p:∀i,(C i).N.Nodup)(t:∀i,Blk (C i).env.scope scope (C i).N N' f)(y:QI C K tg iter it)(H:QG (kM C scope N') K (VF f) tg g)(w:QTs (kM C scope N') K ifs mt)(G:QE (kM C scope N') K elt m)(s:∀i,(C i).N[n]?*>x:=by intro _;rfl)(A:∀i,(C i).env.scope.names.lookup x*>.local:=by intro _;rfl)
  (d:∀i,Ra (.ListComp elt [{tg,iter,ifs,0}] scope pos) (VF (.Name x pos')) spos.line (C i).env=pure VH:=by intro _;rfl) (hs:∀i x,OJ iter (C i).env x=pure x:=by intro _ _;rfl) :
  QS C K (.Assign [.Name x pos'] (.ListComp elt [{tg,iter,ifs,0}] scope pos) spos) (aC (bg f it g mt m) (ag n)):=by
 have(L,v,l):=y;have(O,B,E,h):=H;have(J,q,r):=w;have(M,u,z):=G;show{_,λi=>rY (j.calm i) (p i) (s i) (A i) (t i) (v i) (λb=>B (i,b)) (h f rfl) (λb=>q (i,b)) (λb=>u (i,b)) (d i) (hs i),oP (qm l (h f rfl) E r z) hJ}
def Bt(r:CK C P W K mg base k)(y:∀i,Blk (C i).env.scope scope (C i).N N' f)(d:sj f f2=VH)(G:QI C K tg iter it)(U:QG (kM C scope N') K (VF f) tg g)(j:QI (kM C scope N') K tg2 iter2 it2)(l:QG (kM C scope N') K (VF f2) tg2 g')(B:QTs (kM C scope N') K ifs mt)(O:QE (kM C scope N') K elt m)(hs:∀i x,OJ iter (C i).env x=pure x:=by intro _ _;rfl)(p:∀i b x,OJ iter2 (cxB (C i) scope N' b).env x=pure x:=by intro _ _ _;rfl) :
  QE C K (.ListComp elt [{tg,iter,[],0},{tg2,iter2,ifs,0}] scope pos) (j2 f f2 it g it2 g' mt m):=by
 have(Y,A,s):=G;have(gg,J,L,q):=U;have(u,S,t):=j;have(M,Q,E,h):=l;have(X,v,w):=B;have(Z,z,H):=O;show{_,λi=>xQ (r.calm i) (y i) d (A i) (λb=>J (i,b)) (q f rfl) (λb=>S (i,b)) (λb=>Q (i,b)) (h f2 rfl) (λb=>v (i,b)) (λb=>z (i,b)) (hs i) (p i),vy s (q f rfl) L t (h f2 rfl) E w H}
end
end
structure DI(k:Nat)(name:Str)(st:Stmt) where
 f:Addr
 cdv:Od
 A:Oz
 outer:!Env
 s:Og
 H:Hp
 E:XK
 hr:Pj k (A.deeper (Rn name (ai st) s.heap.objs.size f cdv))
noncomputable abbrev dC(P:Os) (W:Ox) (K:yF) (mg:Str->↑Od) (base:Heap) (k:Nat) (N:!Str) (name:Str) (st:Stmt):DI k name st->Cx:=λd=>(iK CX0 P W K mg base N name (ai st) d.f d.cdv d.A d.outer d.s d.H d.E).nox
def aA{N:!Str}{name:Str}{st:Stmt}:CK (dC P W K mg base k N name st) P W K mg base k:=
 {λ_=>rfl,λ_=>rfl,λ_=>rfl,λ_=>rfl,λ_=>rfl,λ_=>rfl,λd=>d.hr}
def Def.qp{name:Str}{st:Stmt}{N ps:!Str}(d:Def K mg name st ps)(S:Pa N ps (ai st)){m:MS}(h:QSs (dC P W K mg base k N name st) K (ba st) m)
  {run:!T->↑T} (c:∀ts,run ts=if ts.length=ps.length then du m N.length ts else VE):Has P W K mg base (k+1) name ps (spP K run):=by
 have(t,p,r):=h;show d.mp S (λf e A a s H E g=>{t,p ⟨f,e,A,a,s,H,E,g⟩,r}) c
def Def.qi{name:Str}{st:Stmt}{N ps:!Str}{j:Nat}(d:Def K mg name st ps)(S:Pa N ps (ai st)){m:MS}(h:QSs (dC P W K mg base k N name st) K (ba st) m)
  {run:!T->↑(T×T)} (c:∀ts,run ts=if ts.length=ps.length then fW m j N.length ts else VE):Has P W K mg base (k+1) name ps (spI K j run):=by
 have(t,p,r):=h;show d.mi S (λf e A a s H E g=>{t,p ⟨f,e,A,a,s,H,E,g⟩,r}) c
end
section
variable {Γ:Gm}{H H':Hp}{L:!Hd}{O:Rho}{Z:St}{E X:!En}{v w x y:V}{t s:T}{K:yF}{Q:VK}
private def mCallT(k:Nat)(run:!T->↑(T×T))(a:MA):ME:={λO=>match a.run O with
 | some (c,d)=>(match c[k]? with
  | ⇑_=>(match run (c.map (·.t))with
   | some (t,_)=>VF ({.ow,t},d)
   | none=>VE)
  | _=>VE)
 | none=>VE,a.mu}
private def iW(j:Nat)(o:ME)(lo e:ME):MG:={λr O=>match r with
 | ⟨.ow,.li f⟩=>match o.run O with
  | some (⟨.vw (VF i) (VF p),.li d⟩,h)=>match lo.run h with
   | some (⟨_,.im (.int a)⟩,l)=>match e.run l with
    | some (⟨_,.im (.int c)⟩,g)=>if(decide (i=j) &&  ~~~(lo.mu++e.mu).contains j&&decide (0<=a/\a<=c/\c<=d.length/\d.length+f.length<=sizeLine))=VH then(match g[j]? with
     | some (VF ⟨k,t⟩)=>if k.isOw=VH then VF ((au [j] g).set j (VF {k,t.put p (.li (d.take a.toNat++f++d.drop c.toNat))}))else VE
     | _=>VE)else VE
    | _=>VE
   | _=>VE
  | _=>VE
 | _=>VE,(o.mu++(lo.mu++e.mu))++[j]}
def vC{to tl th:TE}{o lo l:ME}{j:Nat}(ho:be K to o)(hl:be K tl lo)(hh:be K th l):jg K (wY to (uj tl) (uj th)) (iW j o lo l):=by
 intro Γ H O Z E Q v r O' U d S q;dsimp[iW]at d q;ext d ys;ext d j' p xs O1 e1;ext d k1 a O2 e2;ext d k2 c O3 e3;ext d hc;rw[JL,JL,decide_eq_true_eq,Kt,decide_eq_true_eq]at hc;obtain⟨⟨rfl,N⟩,e⟩:=hc;ext d k t e4;ext d hw;cases d;show ho Γ H O Z _ _ _ _ U e1 S λx H1 S1=>?_;show hl Γ H1 O1 Z _ _ _ _ U e2 S1 λya H2 S2=>?_;show{a,aY (S2.rd ymS),?_};show hh Γ H2 O2 Z _ _ _ _ U e3 (S2.drop rfl) λyc H3 S3=>?_;show{c,aY (S3.rd ymS),?_};have Y:=S3.drop rfl;have m:aD (lo.mu++l.mu) {VE,x,{.vw (VF j') (VF p),.li xs}}=VH:=by unfold aD;dsimp[Kd.root];rw[N];rfl
 have u:∀M:!Nat,aD M {VE,v,{.ow,.li ys}}=VH:=λM=>rfl;rw[af,ax m,af,ax (u _)]at Y;have(G,F,h1,h2,h3,h4,h5):=Sim.mut (vs:=[v]) (ts:=[.li ys]) (Y.perm (List.Perm.swap _ _ _)) rfl e4 hw;have(p0,J,rfl,g1,f,rfl):=lK h1 λa g=>h4 a (yaL _ g);have(z,ez,g3):=vF h2;cases ez;have(h,A,rfl,g4,g5,rfl):=lK g3 λa g=>h4 a (yaR _ g);have B:p0≠h:=λz=>by
  have:=h3;rw[z]at this;simp at this
 show{p0,h,J,A,a,c,Xr,Xr,Xr,Xr,g1,g4,B,e.1,e.2.1,by rw[f.length];show e.2.2.1,by rw[f.length,g5.length];show e.2.2.2,?_};show je (Q:=λ_ H'=>Q Z H') (F:=[h]) (v:=.non) (i:=.non) g1 (((f.take _).append g5).append (f.drop _)) ce λv' H' G' a1 a2 a3 a4 a5 _=>q Z H' ?_;have:=h5 H' _ G' a1 a2 a3 a4 a5;rw[af]at this;show this
abbrev cf:MS:={λ_=>VE,[]}
def ke{t:TS}:cD K t cf:=by
 intro Γ H O Z E D f d c e a S q;cases a
end
section
variable {ι : Type}{C:ι->Cx}{P:Os}{W:Ox}{K:yF}{mg:Str->↑Od}{base:Heap}{k:Nat}
section
variable {a b c e o tg iter:Expr}{es:!Expr}{ma mb mc m mo mi ml mh:ME}{ms:MA}{pos:Pos}{mt mt':MT}{s1 s2:MS}{g g':MG}{gs:MGs}{it it2:MI}{fr:Option ! ↑Nat}
def fU{st:Stmt}:QS C K st cf:={_,λ_=>yA,ke}
end
end
section
variable {Γ:Gm}{H H':Hp}{O:Rho}{Z:St}{E:!En}{v w x y:V}{t s:T}{K:yF}{Q:VK}
private def ac(n:Nat)(a:MA):MA:={λO=>match a.run O with
 | some (d,c)=>(match c[n]? with
  | some (VF r)=>(match O[n]? with
   | some (VF _)=>VF (rdR n r::d,c)
   | _=>VE)
  | _=>VE)
 | none=>VE,a.mu}
def vz(f:fH K ta ms):fH K (qB (Cb n) ta) (ac n ms):=by unhygienic
 intro Γ H O Z E Q B A m c S q;dsimp[ac]at c;ext c d G o;ext c r p;ext c u i;cases c;have(v,e,_):=S.var i;show{v,e,?_};show f Γ H O Z E _ d _ m o S λvs g h l=>q (v::vs) g (by rw[JY,JY,h]) ?_;have(z,a,j):=l.var p;rw[e]at a;cases a;show j
private def nq(i j k:Nat)(a:MA):MS:={λO=>match a.run O with
 | some ([f,d,c],e)=>if(eI f&&eI d&&dn e i&&az [i] f&&az [i] d&&az [i] c&&dn e j&&az [j] d&&az [j] c&&dn e k&&az [k] c)=VH then VF (.nx,(au [k] ((au [j] ((au [i] e).set i (VF f))).set j (VF d))).set k (VF c))else VE
 | _=>VE,a.mu++[i,j,k]}
def j5(h:eI r=VH):∀n,r.k ≠ .io n:=λn z=>by
 unfold eI at h;rw[z]at h;cases h
def ze(z:fH K ta a):cD K (Df i j k ta) (nq i j k a):=by
 intro Γ H O Z E D f O' hK hE d S q;dsimp[nq]at d q;ext d r1 A r3 J B;ext d p;cases d;dsimp[JL]at p;obtain⟨⟨⟨⟨⟨⟨⟨⟨⟨⟨l,n2⟩,G⟩,b2⟩,N⟩,U⟩,L⟩,M⟩,X⟩,b8⟩,Y⟩:=p;show z Γ H O Z E _ _ _ hK B S λvs m c e=>?_;obtain⟨v,w,u,rfl⟩:∃v w u,vs=[v,w,u]:=by
  cases vs with
  | nil=>cases c
  | cons v r=>cases r with
   | nil=>cases c
   | cons w r=>cases r with
    | nil=>cases c
    | cons u r=>cases r with
     | nil=>show⟨v,w,u,Xr⟩
     | cons _ _=>cases c
 have e:Sim Γ m J Z (⟨VE,v,r1⟩::⟨VE,w,A⟩::⟨VE,u,r3⟩::ah a.mu E):=e;show{v,w,u,Xr,q _ m ?_};have h:=e.put G (cY b2);rw[ax (bj N),ax (bj U)]at h;have o:=h.put (iA L (j5 l)) (cY M);rw[ax (bj X)]at o;have g:=o.put (iA (iA b8 (j5 l)) (j5 n2)) (cY Y);rw[af,af,af]at g;show g
end
section
variable {ι : Type}{C:ι->Cx}{P:Os}{W:Ox}{K:yF}{mg:Str->↑Od}{base:Heap}{k:Nat}
section
variable {a b c e o tg iter:Expr}{es:!Expr}{ma mb mc m mo mi ml mh:ME}{ms:MA}{pos:Pos}{mt mt':MT}{s1 s2:MS}{g g':MG}{gs:MGs}{it it2:MI}{fr:Option ! ↑Nat}
def fS(n:Nat)(h:QA C K es ms)(j:∀i,(C i).N[n]?*>x:=by intro _;rfl)(q:∀i,Vis (C i).env.scope x:=by first|show λ_=>Rx rfl|show λ_=>Qy (Rx rfl)|show λ_=>Qy (Qy rfl))(r:(x==("__debug__" : Str))=VG:=by decide)(f:(x==("__classdict__" : Str))=VG:=by decide):QA C K (.Name x p::es) (ac n ms):=by
 have(s,c,l,d):=h;show{_,λi=>bJ (gZ (j i) (q i) r f) (c i) rfl,by rw[bc,l];rfl,vz d}
def yJ(j:Nat){lo l:Expr}{s:Pos}(B:QE C K o mo)(x:QE C K lo ml)(z:QE C K l mh)
  (w:∀i v,QD (.Subscript o (.Slice (VF lo) (VF l) VE s) pos) (C i).env v=(do
   let d <-O7 [v] (eval o (C i).env)
   let q <-O7 [v,d] (eval (.Slice (VF lo) (VF l) VE s) (C i).env)
   Qj pos
   O7 [v,d,q] (R8 d q v)
   Uw [q,v,d] []):=by intro _ _;rfl):QG C K VE (.Subscript o (.Slice (VF lo) (VF l) VE s) pos) (iW j mo ml mh):=by
 have(H,p,r):=B;have(G,A,y):=x;have(E,u,t):=z;show{_,λi=>x9 (p i) (oE (A i)) (oE (u i)) (w i),vC r y t,λf h=>by cases h}
def BA(i j l:Nat){kt k2 pt2}(q:CK C P W K mg base k)(t:∀i,(C i).N.Nodup)(s:QA C K [a,b,c] ms)(A:∀n,(C n).N[i]?*>x:=by intro _;rfl)(v:∀n,(C n).N[j]?*>y:=by intro _;rfl)(u:∀n,(C n).N[l]?*>z:=by intro _;rfl)(f:i≠j:=by decide)(h:i≠l:=by decide)(d:j≠l:=by decide)
  (B:∀n,(C n).env.scope.names.lookup x*>.local:=by intro _;rfl) (E:∀n,(C n).env.scope.names.lookup y*>.local:=by intro _;rfl) (hz:∀n,(C n).env.scope.names.lookup z*>.local:=by intro _;rfl)
  (w:∀n,Q4 [.Tuple [.Name x px,.Name y py,.Name z pz] kt pt] (.Tuple [a,b,c] k2 pt2) (C n).env=pure (VF [x,y,z]):=by intro _;rfl)
  (hs:∀n,Q3 [.Tuple [.Name x px,.Name y py,.Name z pz] kt pt] (.Tuple [a,b,c] k2 pt2) pos.line (C n).env=pure VG:=by intro _;rfl) :
  QS C K (.Assign [.Tuple [.Name x px,.Name y py,.Name z pz] kt pt] (.Tuple [a,b,c] k2 pt2) pos) (nq i j l ms):=by
 have(G,p,_,r):=s;show{_,λn=>Bp (q.calm n) (t n) (A n) (v n) (u n) f h d (B n) (E n) (hz n) (p n) (w n) (hs n),ze r}
def iC{st:!Stmt}:QSs C K st cf:={λ_ _ _=>False,λ_ _ _ _ _ _ _ h=>h.elim,ke}
end
end
section
variable {ι : Type}{C:ι->Cx}{P:Os}{W:Ox}{K:yF}{mg:Str->↑Od}{base:Heap}{k:Nat}
section
variable {Γ:Gm}{H:Hp}{O:Rho}{Z:St}{E:!En}
abbrev fgt(i:Nat) (O:Rho):Rho:=(au [i] O).set i VE
def Sim.fgt(S:Sim Γ H O Z E)(i:Nat):Sim Γ H (L2.fgt i O) Z (ah [i] E):=by
 have a:=S.kill [i];unfold L2.fgt;cases h:(au [i] O)[i]? with
 | none=>rw[List.set_eq_of_length_le (by exists h)];show a
 | some o=>
  cases o with
  | none=>
   have:(au [i] O).set i VE=au [i] O:=by
    apply Ly;intro j;by_cases e:i=j
    .subst e;have w:=(JJ.mp h).1;rw[KG w,h]
    .rw[J4 e]
   rw[this];show a
  | some r=>
   have(v,u):=a.al i r h;have p:=bE (k:=0) u h;have SL:Pc Γ H ({VF (0+i),v,r}::(ah [i] E++aF 0 Z ((au [i] O).set i VE))):=a.sl.perm ((List.Perm.append_left _ p).trans Kz);have(L,g,e):=SL;have(x,s,rfl,t,q):=aH e;have f:∀y∈ah [i] E++aF 0 Z (au [i] O),y.r.k.root≠VF i:=by
    rw[fK,<-aL];show lL ∅
   show{{s,g.dropK λy l j c A=>?_,q},λm z d=>?_,by rw[Lr];show a.len,λy l j c=>by rw[Lr];show a.hi y l j c}
   .rw[t]at c;have:j=i:=by exists c.symm
    subst this;have:y.e∈s.map (·.e):=JS.mpr ⟨y,l,Xr⟩;rw[q]at this;have B:=(List.Perm.append_left (ah [j] E) p).trans Kz;show f y.e (B.mem_iff.mpr (ymC _ this)) A
   .by_cases e:i=m
    .subst e;rw[KG (JJ.mp h).1]at d;cases d
    .rw[J4 e]at d;show a.al m z d
abbrev fgts:!Nat->Rho->Rho
 | [],O=>O
 | i::a,O=>fgts a (fgt i O)
def Sim.fgts:∀{ks:!Nat} {O:Rho} {E:!En},Sim Γ H O Z E->Sim Γ H (L2.fgts ks O) Z (ah ks E)
 | [],O,E,S=>by rw[cB];show S
 | i::ks,O,E,S=>by
  have:=Sim.fgts (ks:=ks) (S.fgt i);rw[af]at this;show this
private def bS(ks:!Nat)(s:MS):MS:={λO=>match s.run O with
 | some (.nx,a)=>VF (.nx,fgts ks a)
 | some (.ct,a)=>VF (.ct,fgts ks a)
 | some (.rt t,a)=>VF (.rt t,a)
 | some (.bk,a)=>VF (.bk,a)
 | none=>VE,s.mu++ks}
def oQ(h:cD K ts s):cD K ts (bS ks s):=by
 intro Γ H O Z E D f m d e c S q;dsimp[bS]at c q;split at c
 .delta i a;cases c;show h Γ H O Z E D _ _ d e a S λl g j=>q l g (by rw[<-af];show j.fgts)
 .delta i a;cases c;show h Γ H O Z E D _ _ d e a S λl g j=>q l g (by rw[<-af];show j.fgts)
 .delta t i a;cases c;show h Γ H O Z E D _ _ d e a S q.weak
 .delta i a;cases c;show h Γ H O Z E D _ _ d e a S q.weak
 .cases c
def Fi(ks:!Nat){st:Stmt}{s:MS}(h:QS C K st s):QS C K st (bS ks s):=by
 have(t,p,r):=h;show{t,p,oQ r}
def tX(ks:!Nat){st:!Stmt}{s:MS}(h:QSs C K st s):QSs C K st (bS ks s):=by
 have(t,p,r):=h;show{t,p,oQ r}
end
end
structure W1{α:Type}(o:↑α)(Q : α->Prop):Prop where
 ex:∃x,o*>x/\Q x
structure W2{α β:Type}(o:↑(α × β))(Q : α->β->Prop):Prop where
 ex:∃x y,o*>(x,y)/\Q x y
structure WE(m:ME)(O:Rho)(Q:R->Rho->Prop):Prop where
 ex:∃x y,m.run O*>(x,y)/\Q x y
structure WT(m:MT)(O:Rho)(Q:Bool->Rho->Prop):Prop where
 ex:∃x y,m.run O*>(x,y)/\Q x y
structure WA(m:MA)(O:Rho)(Q:!R->Rho->Prop):Prop where
 ex:∃x y,m.run O*>(x,y)/\Q x y
structure WS(m:MS)(O:Rho)(Q:Fl->Rho->Prop):Prop where
 ex:∃x y,m.run O*>(x,y)/\Q x y
structure WG(m:MG)(r:R)(O:Rho)(Q:Rho->Prop):Prop where
 ex:∃x,m.run r O*>x/\Q x
structure WGs(m:MGs)(rs:!R)(O:Rho)(Q:Rho->Prop):Prop where
 ex:∃x,m.run rs O*>x/\Q x
structure WI(m:MI)(O:Rho)(Q:!R->!R->Rho->Prop):Prop where
 ex:∃r rs O',m.run O*>((r,rs),O')/\Q r rs O'
structure WO(m:MO)(O:Rho)(Q:↑Int->Rho->Prop):Prop where
 ex:∃x y,m.run O*>(x,y)/\Q x y
structure Gu(b:Bool)(P:Prop):Prop where
 ex:b=VH/\P
structure IsB(t:T)(Q:Bool->Prop):Prop where
 ex:∃b,t=.im (.bl b)/\Q b
structure IsN(t:T)(Q:Int->Prop):Prop where
 ex:∃n,t=.im (.int n)/\Q n
structure AtV(n:Nat)(O:Rho)(Q:R->Prop):Prop where
 ex:∃r,O[n]?*>(VF r)/\Q r
structure AtC(k j:Nat)(rs:!R)(O:Rho)(Q:!Ac->Kd->T->Prop):Prop where
 ex:∃p t1 kd t0,rs[k]?*>{.vw (VF j) (VF p),t1}/\((Kk rs.length).all λm=>decide (m=k)||az [j] (rs.getD m ⟨.ow,.im .non⟩))=VH/\O[j]?*>(VF ⟨kd,t0⟩)/\kd.isOw=VH/\Q p kd t0
structure AtT(k:Nat)(rs:!R)(P:Prop):Prop where
 ex:∃t1,rs[k]?=⇑t1/\P
structure AtM(l:Nat)(O:Rho)(Q:Kd->T->Prop):Prop where
 ex:∃k t,O[l]?*>(VF ⟨k,t⟩)/\k.isOw=VH/\Q k t
structure AtS(j:Nat)(r:R)(Q:!Ac->T->Prop):Prop where
 ex:∃p s,r={.vw (VF j) (VF p),s}/\Q p s
structure Two(rs:!R)(Q:R->R->Prop):Prop where
 ex:∃r1 r2,rs=[r1,r2]/\Q r1 r2
structure Three(rs:!R)(Q:R->R->R->Prop):Prop where
 ex:∃r1 r2 r3,rs=[r1,r2,r3]/\Q r1 r2 r3
structure PL(rs:!R)(Q:Int->Prop):Prop where
 ex:∃n,rs.map (·.t)=[.im (.int n)]/\Q n
structure PR(rs:!R)(Q:Int->Int->Prop):Prop where
 ex:∃m n,rs.map (·.t)=[.im (.int m),.im (.int n)]/\Q m n
def Jp(q:Q b):IsB (.im (.bl b)) Q:=⟨b,Xr,q⟩
def Jq(q:Q n):IsN (.im (.int n)) Q:=⟨n,Xr,q⟩
def qQ(h : O[n]?*>(VF r))(q:Q r):AtV n O Q:=⟨r,h,q⟩
def Dp(c:rs[k]?*>{.vw (VF j) (VF p),t1})(a:((Kk rs.length).all λm=>decide (m=k)||az [j] (rs.getD m ⟨.ow,.im .non⟩))=VH)(d : O[j]?*>(VF ⟨kd,t0⟩))(e:kd.isOw=VH)(q:Q p kd t0):AtC k j rs O Q:=⟨p,t1,kd,t0,c,a,d,e,q⟩
def Dq(h : O[l]?*>(VF ⟨k,t⟩))(a:k.isOw=VH)(q:Q k t):AtM l O Q:=⟨k,t,h,a,q⟩
def Jf(q:Q p s):AtS j {.vw (VF j) (VF p),s} Q:=⟨p,s,Xr,q⟩
def FU(q:Q r1 r2):Two [r1,r2] Q:=⟨r1,r2,Xr,q⟩
def zL(q:Q r1 r2 r3):Three [r1,r2,r3] Q:=⟨r1,r2,r3,Xr,q⟩
def tu(h:rs.map (·.t)=[.im (.int n)])(q:Q n):PL rs Q:=⟨n,h,q⟩
def AG(h:rs.map (·.t)=[.im (.int m),.im (.int n)])(q:Q m n):PR rs Q:=⟨m,n,h,q⟩
section
variable {α β:Type}{O:Rho}{a b c m:ME}{ms:MA}{ct ct':MT}{s1 s2:MS}{g:MG}{gs:MGs}{it:MI}{QE':R->Rho->Prop}{QT':Bool->Rho->Prop}{QA':!R->Rho->Prop}{Q:Fl->Rho->Prop}{QG':Rho->Prop}{P:Prop}{o:↑α}{x : α}{Q1 : α->Prop}
def W2.mono{o:↑(α × β)}{Q1 d : α->β->Prop}(h:W2 o Q1)(k:∀x y,Q1 x y->d x y):W2 o d:=by have(x,y,e,q):=h;show{x,y,e,k x y q}
def w1(h:o*>x)(q:Q1 x):W1 o Q1:=⟨x,h,q⟩
def W1.mono(h:W1 o Q1)(k:∀x,Q1 x->Q2 x):W1 o Q2:=by have(x,e,q):=h;show{x,e,k x q}
def gu{b:Bool}(h:b=VH)(p:P):Gu b P:=⟨h,p⟩
def WS.mono(h:WS s1 O Q)(k:∀f O,Q f O->Q2 f O):WS s1 O Q2:=by have(x,y,e,q):=h;show{x,y,e,k x y q}
def WG.mono{r:R}{Q1 d:Rho->Prop}(h:WG g r O Q1)(k:∀O,Q1 O->d O):WG g r O d:=by have(x,e,q):=h;show{x,e,k x q}
def WA.mono{Q1 d:!R->Rho->Prop}(h:WA ms O Q1)(k:∀rs O,Q1 rs O->d rs O):WA ms O d:=by have(x,y,e,q):=h;show{x,y,e,k x y q}
def WT.mono{Q1 d:Bool->Rho->Prop}(h:WT ct O Q1)(k:∀b O,Q1 b O->d b O):WT ct O d:=by have(x,y,e,q):=h;show{x,y,e,k x y q}
def WE.mono(h:WE m O QE')(k:∀f O,QE' f O->Q2 f O):WE m O Q2:=by have(x,y,e,q):=h;show{x,y,e,k x y q}
def w_C(q:QE' {.ow,.im i} O):WE (mC i) O QE':=by unhygienic show{_,_,Xr,q}
def gJ(h : O[n]?*>(VF r))(q:QE' (rdR n r) O):WE (ae n) O QE':={rdR n r,O,by dsimp[ae,h],q}
def sE(h:WE a O λd j=>WE b j λi e=>Gu (az b.mu d) (W1 (f d.t i.t) λt=>QE' {.ow,t} e)):WE (mOp f a b) O QE':=by
 obtain⟨d,j,r,i,e,l,p,t,s,q⟩:=h;show{{.ow,t},e,by dsimp[mOp,r,l,p,if_true,s],q}
def JH(h:WE a O λe d=>W1 (f e.t) λt=>QE' {.ow,t} d):WE (mUn f a) O QE':=by
 have(e,d,i,t,j,q):=h;show{{.ow,t},d,by dsimp[mUn,i,j],q}
def w_B(h:WA ms O λrs d=>W1 (f (rs.map (·.t))) λt=>QE' {.ow,t} d):WE (mB f ms) O QE':=by
 have(j,d,e,t,i,q):=h;show{{.ow,t},d,by dsimp[mB,e,i],q}
def w_M(h:WE a O λd i=>WA ms i λrs e=>Gu (az ms.mu d) (W1 (f d.t (rs.map (·.t))) λt=>QE' {.ow,t} e)):WE (mM f a ms) O QE':=by
 obtain⟨d,i,p,s,e,j,l,t,r,q⟩:=h;show{{.ow,t},e,by dsimp[mM,p,j,l,if_true,r],q}
def zX(h:WE a O λd i=>WE b i λf e=>Gu (az b.mu d) (W1 (ixR d f.t) λr=>QE' r e)):WE (mIx a b) O QE':=by
 obtain⟨d,i,p,f,e,j,l,r,s,q⟩:=h;show{r,e,by dsimp[mIx,p,j,l,if_true,s],q}
def Cp(q:QO' VE O):WO mNoPart O QO':=by unhygienic show{_,_,Xr,q}
def Cq(h:WE a O λr d=>IsN r.t λn=>QO' (VF n) d):WO (ff a) O QO':=by
 obtain⟨⟨k,t⟩,d,f,n,e,q⟩:=h;cases e;show{VF n,d,by dsimp[ff,f],q}
def JF{lo e:MO}(h:WE a O λf j=>WO lo j λl i=>WO e i λu d=>Gu (az (lo.mu++e.mu) f) (W1 (slR f l u) λr=>QE' r d)):WE (mSl a lo e) O QE':=by
 obtain⟨f,j,w,l,i,p,u,d,t,s,r,v,q⟩:=h;show{r,d,by dsimp[mSl,w,p,t,s,if_true,v],q}
def F3(h:WE a O λr f=>IsB r.t λd=>(d=VH->WE b f QE')/\(d=VG->QE' {.ow,.im (.bl VG)} f)):WE (jx a b) O QE':=by
 obtain⟨⟨k,t⟩,f,i,d,j,s,l⟩:=h;cases j;cases d with
 | true=>have(p,u,e,q):=s rfl;show{p,u,by dsimp[jx,i,e],q}
 | false=>show{_,_,by dsimp[jx,i],l rfl}
def Gb(h:WE a O λr e=>IsB r.t λd=>QE' {.ow,.im (.bl (~~~d))} e):WE (lG a) O QE':=by
 obtain⟨⟨k,t⟩,e,i,d,f,q⟩:=h;cases f;show{_,_,by dsimp[lG,i],q}
def zZ(h:WA ms O λrs e=>Gu (decide (rs.length<=1000)) (W2 (consL mv rs e) λts d=>QE' {.ow,bI ts} d)):WE (aU mv ms) O QE':=by
 have(rs,e,j,i,ts,d,f,q):=h;show{{.ow,bI ts},d,by dsimp[aU,j,if_pos (of_decide_eq_true i),f],q}
def z8(h:WA ms O λrs e=>Gu (decide (rs.length<=1000)) (W2 (consL mv rs e) λts d=>QE' {.ow,nr ts} d)):WE (ar mv ms) O QE':=by
 have(rs,e,j,i,ts,d,f,q):=h;show{{.ow,nr ts},d,by dsimp[ar,j,if_pos (of_decide_eq_true i),f],q}
def o0{k j:Nat}{run:!T->↑(T×T)}(h:WA ms O λrs d=>AtC k j rs d λp kd e=>W2 (run (rs.map (·.t))) λt f=>QE' {.ow,t} ((au [j] d).set j (VF {kd,e.put p f}))):WE (am k j run ms) O QE':=by
 obtain⟨rs,d,l,p,w,kd,e,r,s,v,u,t,f,i,q⟩:=h;show{{.ow,t},(au [j] d).set j (VF {kd,e.put p f}),?_,q};dsimp[am,l];dsimp[r];rw[if_pos (by rw[JL];show⟨Xr,s⟩)];dsimp[i,v,u,if_true]
def z0(h:WE a O λd i=>WA ms i λrs e=>Gu (az ms.mu d) (W2 (mutR l mv f d rs e) QE')):WE (dm l mv f a ms) O QE':=by
 obtain⟨d,i,t,rs,e,r,s,p,j,u,q⟩:=h;show{p,j,by dsimp[dm,t,r,s,if_true,u],q}
def F9(h:WE a O λd e=>W2 (mutR l [] f d [] e) QE'):WE (nc l f a) O QE':=by
 have(d,e,j,p,i,r,q):=h;show{p,i,by dsimp[nc,j,r],q}
def sD(u:mv.contains l=VG)(h:W2 (consL mv rs O) λts i=>AtM l i λk t=>W2 (f s ts) λj d=>QQ {.ow,.im d} ((au [l] i).set l (VF {k,t.put p j}))):W2 (mutR l mv f {.vw (VF l) (VF p),s} rs O) QQ:=by
 obtain⟨ts,i,r,k,t,v,w,j,d,e,q⟩:=h;show{_,_,?_,q};unfold mutR;dsimp[decide_true,u,r,e,v,w,NS,LL,if_true]
def md(q:QA' [] O):WA mNil O QA':=by unhygienic show{_,_,Xr,q}
def o4(h:WE m O λr e=>WA ms e λrs d=>Gu (az ms.mu r) (QA' (r::rs) d)):WA (aa m ms) O QA':=by
 have(l,e,p,f,d,i,j,q):=h;show⟨l::f,d,by dsimp[aa,p,i,j,if_true],q⟩
def eX(i : O[n]?*>(VF r0))(h:WA ms O λrs d=>AtV n d λr=>QA' (rdR n r::rs) d):WA (ac n ms) O QA':=by
 have(rs,d,e,r,f,q):=h;show{rdR n r::rs,d,by dsimp[ac,e,f,i],q}
def Cr(h:WE a O λr e=>IsB r.t λd=>QT' d e):WT (aB a) O QT':=by
 obtain⟨⟨k,t⟩,e,i,d,f,q⟩:=h;cases f;show{d,e,by dsimp[aB,i],q}
def Gw(h:WE a O λr e=>W1 (tru r.t) λd=>QT' d e):WT (uW a) O QT':=by
 have(r,e,f,d,i,q):=h;show{d,e,by dsimp[uW,f,i],q}
def Gv(h:WT ct O λf d=>QT' (~~~f) d):WT (rB ct) O QT':=by
 have(r,d,e,q):=h;show{_,_,by dsimp[rB,e],q}
def Gs(h:WT ct O λd f=>(d=VH->WT ct' f QT')/\(d=VG->QT' VG f)):WT (mw ct ct') O QT':=by
 have(d,f,i,l,j):=h;cases d with
 | true=>have(p,r,e,q):=l rfl;show{p,r,by dsimp[mw,i,e],q}
 | false=>show{_,_,by dsimp[mw,i],j rfl}
def Jb(h:WT ct O λd f=>(d=VH->QT' VH f)/\(d=VG->WT ct' f QT')):WT (mOr ct ct') O QT':=by
 have(d,f,i,l,j):=h;cases d with
 | false=>have(p,r,e,q):=j rfl;show{p,r,by dsimp[mOr,i,e],q}
 | true=>show{_,_,by dsimp[mOr,i],l rfl}
def kr(q:QT' VH O):WT mYes O QT':=by unhygienic show{_,_,Xr,q}
def uu(h:(dn O i&&az [i] r)=VH)(q:QG' ((au [i] O).set i (VF r))):WG (ag i) r O QG':={(au [i] O).set i (VF r),by dsimp[ag,h,if_true],q}
def Cm(q:QG' O):WGs mGNil [] O QG':=by unhygienic show{_,Xr,q}
def Af(i:rs.all (az g.mu)=VH)(h:WG g r O λd=>WGs gs rs d QG'):WGs (ay g gs) (r::rs) O QG':=by
 have(d,e,j,f,q):=h;show{j,by dsimp[ay,i,if_true,e,f],q}
def Gq(hp:parts r*>rs)(h:WGs gs rs O QG'):WG (bH gs) r O QG':=by
 have(e,d,q):=h;show{e,by dsimp[bH,hp,d],q}
def Gp(h:WE a O λl e=>WE b e λf d=>AtS j l λp s=>Gu (~~~b.mu.contains j) (AtM j d λk t=>W1 (zw s f.t tv) λi=>QG' ((au [j] d).set j (VF {k,t.put p i})))):WG (rC j a b) {.ow,tv} O QG':=by
 obtain⟨l,e,u,f,d,v,p,s,rfl,w,k,t,z,y,i,r,q⟩:=h;show{_,?_,q};dsimp[rC,u,v,w,decide_true,LL,if_true,r,z,y]
def Ae(h:WE a O λf e=>WE b e λv l=>WE c l λz d=>∃p xs k t i n,f={.vw (VF j) (VF p),.li xs}/\v.t=.im (.int i)/\z.t=.im (.int n)/\(b.mu++c.mu).contains j=VG/\(0<=i/\i<=n/\n<=xs.length/\xs.length+ys.length<=sizeLine)/\d[j]?*>(VF ⟨k,t⟩)/\k.isOw=VH/\QG' ((au [j] d).set j (VF {k,t.put p (.li (xs.take i.toNat++ys++xs.drop n.toNat))}))):WG (iW j a b c) {.ow,.li ys} O QG':=by
 obtain⟨f,e,u,⟨_,_⟩,l,y,⟨_,_⟩,d,B,p,xs,k,t,i,n,rfl,rfl,rfl,w,r,s,A,q⟩:=h;show{_,?_,q};dsimp[iW,u,y,B,w,decide_true,NS,Nm];rw[if_pos (decide_eq_true r)];dsimp[s,A,if_true]
def Ga(q:Q .nx O):WS mNext O Q:=by unhygienic show{_,_,Xr,q}
@[irreducible] def DE(b:MS)(Q:Fl->Rho->Prop):Fl->Rho->Prop
 | .nx,O=>WS b O Q
 | .rt t,O=>Q (.rt t) O
 | .bk,O=>Q .bk O
 | .ct,O=>Q .ct O
def Di(h:WS s1 O (DE s2 Q)):WS (aq s1 s2) O Q:=by unhygienic
 have(f,i,d,q):=h;cases f with
 | nx=>have q:WS s2 i Q:=q;have(p,j,e,q):=q;show{p,j,by dsimp[aq,d,e],q}
 | rt t=>show{.rt t,i,by dsimp[aq,d],q}
 | bk=>show{.bk,i,by dsimp[aq,d],q}
 | ct=>show{.ct,i,by dsimp[aq,d],q}
def aT(h:WT ct O λd i=>(d=VH->WS s1 i Q)/\(d=VG->WS s2 i Q)):WS (mIf ct s1 s2) O Q:=by
 have(d,i,j,r,l):=h;cases d with
 | true=>have(p,f,e,q):=r rfl;show{p,f,by dsimp[mIf,j,e],q}
 | false=>have(p,f,e,q):=l rfl;show{p,f,by dsimp[mIf,j,e],q}
def sC(h:WE m O λ_ d=>Q .nx d):WS (bD m) O Q:=by
 have(r,d,e,q):=h;show{.nx,d,by dsimp[bD,e],q}
def IR(h:WE m O λr e=>WG g r e λd=>Q .nx d):WS (aC m g) O Q:=by
 have(r,e,f,d,i,q):=h;show{.nx,d,by dsimp[aC,f,i],q}
def IY(h:WE m O λr e=>W2 (vE r e) λt d=>Q (.rt t) d):WS (bh m) O Q:=by
 have(r,e,f,t,d,i,q):=h;show{.rt t,d,by dsimp[bh,f,i],q}
def IX(h:WA ms O λrs f=>Two rs λe d=>Gu (eI e&&eI d) (Gu (dn f i&&az [i] e&&az [i] d&&dn f j&&az [j] d) (Q .nx ((au [j] ((au [i] f).set i (VF e))).set j (VF d))))):WS (ng i j ms) O Q:=by
 have(rs,f,r,e,d,rfl,l,p,q):=h;show{.nx,(au [j] ((au [i] f).set i (VF e))).set j (VF d),?_,q};rw[JL]at l;dsimp[ng,AO,r,Lj,Mo,l.1,l.2,Mz,LL,if_true,p]
def Gg(h:WA ms O λrs f=>Three rs λl e d=>Gu (eI l&&eI e&&dn f i&&az [i] l&&az [i] e&&az [i] d&&dn f j&&az [j] e&&az [j] d&&dn f k&&az [k] d) (Q .nx ((au [k] ((au [j] ((au [i] f).set i (VF l))).set j (VF e))).set k (VF d)))):WS (nq i j k ms) O Q:=by
 have(rs,f,p,l,e,d,rfl,r,q):=h;show{_,_,by dsimp[nq,p,r,if_true],q}
@[irreducible] def re(ks:!Nat)(Q:Fl->Rho->Prop):Fl->Rho->Prop
 | .nx,O=>Q .nx (fgts ks O)
 | .ct,O=>Q .ct (fgts ks O)
 | .rt t,O=>Q (.rt t) O
 | .bk,O=>Q .bk O
def IS(h:WS s1 O (re ks Q)):WS (bS ks s1) O Q:=by unhygienic
 have(f,e,d,q):=h;cases f with
 | nx=>show{_,_,by dsimp[bS,d],q}
 | ct=>show{_,_,by dsimp[bS,d],q}
 | rt t=>show{_,_,by dsimp[bS,d],q}
 | bk=>show{_,_,by dsimp[bS,d],q}
abbrev uG(Inv:Nat->Rho->Prop)(i:Nat)(Q:Fl->Rho->Prop):Fl->Rho->Prop
 | .nx,O=>Inv (i+1) O
 | .ct,O=>Inv (i+1) O
 | .bk,O=>Q .nx O
 | .rt t,O=>Q (.rt t) O
def sZ{items:!R}(Inv:Nat->Rho->Prop)(hs:∀i r O,items[i]?*>r->Inv i O->WG g r O λp=>WS s1 p (uG Inv i Q))(u:∀O,Inv items.length O->Q .nx O):∀(l:!R) (i:Nat) (O:Rho),items.drop i=l->i<=items.length->Inv i O->W2 (f7 g.run s1.run l O) Q
 | [],i,O,d,w,j=>by
  have:i=items.length:=by have:=congrArg Ln d;simp at this;omega
  subst this;show{_,_,Xr,u O j}
 | r::l,i,O,d,w,j=>by
  have s:items[i]?*>r:=by rw[<-MX,d];rfl
  have e:=(JJ.mp s).1;have h:items.drop (i+1)=l:=by rw[<-Nb,d];rfl
  have(p,v,f,z,y,q):=hs i r O s j;have k:=sZ Inv hs u l (i+1) z h e;dsimp[f7,v,y];cases f with
  | nx=>show k q
  | ct=>show k q
  | bk=>show{_,_,Xr,q}
  | rt t=>show{_,_,Xr,q}
def zV(h:WI it O λf items d=>Gu (f.all (az (g.mu++s1.mu))&&items.all (az (g.mu++s1.mu))) (∃Inv:Nat->Rho->Prop,Inv 0 d/\(∀i r O,items[i]?*>r->Inv i O->WG g r O λd=>WS s1 d (uG Inv i Q))/\∀O,Inv items.length O->Q .nx O)):WS (cr it g s1) O Q:=by
 have(f,items,d,l,s,Inv,j,t,u):=h;have(p,v,e,q):=sZ (Q:=Q) Inv t u items 0 d rfl (Ld _) j;show{p,v,by dsimp[cr,l];rw[if_pos s];show e,q}
def nN{M:!Nat}{items:!R}(h:∀r∈items,r.k=.ow):items.all (az M)=VH:=Ky.mpr λr d=>by unfold az dD;rw[h r d];rfl
def F5{i:Nat}(h:WA ms O λrs d=>∃n:Int,rs.map (·.t)=[.im (.int n)]/\-(2^62)<=n/\n<2^62/\(∃Inv:Nat->Rho->Prop,Inv 0 d/\(∀(j:Nat) O,(j:Int)<n->Inv j O->WG (ag i) (lX j) O λd=>WS s1 d (uG Inv j Q))/\∀O,Inv n.toNat O->Q .nx O)):WS (cr (bt ms) (ag i) s1) O Q:=by
 obtain⟨rs,d,s,n,y,w,p,Inv,q,z,A⟩:=h;show zV {[r8],i8 0 n.toNat,d,by dsimp[bt,s,y,l1,isI];rw[if_pos ⟨w,p⟩],?_,Inv,q,λj r O e f=>?_,λO f=>A O (by simpa[i8]using f)}
 .rw[JL];show{Xr,nN λr e=>by have(x,_,rfl):=JS.mp e;rfl}
 .have(x,u,rfl):=aI e;have(v,l):=JJ.mp u;simp at v l;subst l;have:=z j O ⋯ f;rw[N3];show this
def Ch{i:Nat}(h:WA ms O λrs d=>∃m n:Int,rs.map (·.t)=[.im (.int m),.im (.int n)]/\(-(2^62)<=m/\m<2^62/\-(2^62)<=n/\n<2^62)/\(∃Inv:Nat->Rho->Prop,Inv 0 d/\(∀(j:Nat) O,m+(j:Int)<n->Inv j O->WG (ag i) (lX (m+j)) O λd=>WS s1 d (uG Inv j Q))/\∀O,Inv (n-m).toNat O->Q .nx O)):WS (cr (gG ms) (ag i) s1) O Q:=by
 obtain⟨rs,d,q,m,n,w,v,Inv,p,y,z⟩:=h;show zV {[r8],i8 m (n-m).toNat,d,by dsimp[gG,q,w,l2,l1,ii2,isI];rw[if_pos v],?_,Inv,p,λj r O e f=>?_,λO f=>z O (by simpa[i8]using f)}
 .rw[JL];show{Xr,nN λr e=>by have(x,_,rfl):=JS.mp e;rfl}
 .have(x,s,rfl):=aI e;have(u,l):=JJ.mp s;simp at u l;subst l;show y j O ⋯ f
def F4(h:WE m O λr d=>∃is:!I,f8 r*>(is.map λi=>{.ow,.im i})/\az (g.mu++s1.mu) r=VH/\(∃Inv:Nat->Rho->Prop,Inv 0 d/\(∀j x O,is[j]?*>x->Inv j O->WG g {.ow,.im x} O λd=>WS s1 d (uG Inv j Q))/\∀O,Inv is.length O->Q .nx O)):WS (cr (mIt m) g s1) O Q:=by
 obtain⟨r,d,p,is,s,u,Inv,l,t,v⟩:=h;show zV {[r],is.map (λi=>{.ow,.im i}),d,by dsimp[mIt,p,s],?_,Inv,l,λj r O e f=>?_,λO f=>v O (by exists f)}
 .rw[JL];show{by rw[Lj,Mo,u];rfl,nN λr e=>by have(x,_,rfl):=JS.mp e;rfl}
 .have(x,q,rfl):=aI e;show t j x O q f
def Ci(Inv:Nat->Rho->Prop)(n:Nat)(y:Inv n O) (hs:∀n O,Inv n O->WT ct O λl r=>(l=VG->Q .nx r)/\(l=VH->WS s1 r λf d=>match f with
  | .nx=>∃m,m<n/\Inv m d
  | .ct=>∃m,m<n/\Inv m d
  | .bk=>Q .nx d
  | .rt t=>Q (.rt t) d)):WS (ge ct s1) O Q:=by
 have v:∀n O,Inv n O->W2 (itW ct s1 (n+1) O) Q:=by
  intro n
  induction n using Nat.strongRecOn with
  | _ n w=>
   intro O z;have(l,r,i,B,A):=hs n O z;cases l with
   | false=>show{.nx,r,by dsimp[itW,i],B rfl}
   | true=>
    have(f,d,s,q):=A rfl;cases f with
    | nx=>
     have(m,u,h):=q;have(p,j,e,q):=w m u d h;show{p,j,by dsimp[itW,i,s];show fO e _ ⋯,q}
    | ct=>
     have(m,u,h):=q;have(p,j,e,q):=w m u d h;show{p,j,by dsimp[itW,i,s];show fO e _ ⋯,q}
    | bk=>show{.nx,d,by dsimp[itW,i,s],q}
    | rt t=>show{.rt t,d,by dsimp[itW,i,s],q}
 have(p,j,e,q):=v n O y;show{p,j,vV e,q}
def jl{fr:! ↑Nat}{M:!Nat}{items:!R}{QC:!T->Rho->Prop}(Inv:Nat->!T->Rho->Prop)
  (hs:∀i r d O,items[i]?*>r->Inv i d O->WG g (jL (piF fr) r) (inR fr O) λw=>WT ct w λh u=>(h=VH->WE m u λr z=>∃t,r={.ow,t}/\Inv (i+1) (d++[t]) (de fr M z O))/\(h=VG->Inv (i+1) d (de fr M u O)))
  (s:∀d O,Inv items.length d O->QC d O):∀(l:!R) (i:Nat) (d:!T) (O:Rho),items.drop i=l->i<=items.length->Inv i d O->W2 (bv fr M g ct m l O d) QC
 | [],i,d,O,j,B,p=>by
  have:i=items.length:=by have:=congrArg Ln j;simp at this;omega
  subst this;show{_,_,Xr,s d O p}
 | r::l,i,d,O,j,B,p=>by
  have y:items[i]?*>r:=by rw[<-MX,j];rfl
  have e:=(JJ.mp y).1;have f:items.drop (i+1)=l:=by rw[<-Nb,j];rfl
  have(w,v,h,u,A,G,E):=hs i r d O y p;cases h with
  | true=>
   have(J,z,H,t,rfl,q):=G rfl;dsimp[bv,v,A,H];show jl Inv hs s l (i+1) _ _ f e q
  | false=>
   dsimp[bv,v,A];show jl Inv hs s l (i+1) _ _ f e (E rfl)
def o3{fr:! ↑Nat} (h:WI it O λj items f=>Gu (dJ fr f.length&&dE (g.mu++(ct.mu++m.mu)) fr.length&&j.all (az (muF fr (g.mu++(ct.mu++m.mu))))) (items.length<sizeLine/\∃Inv:Nat->!T->Rho->Prop,Inv 0 [] f /\
  (∀i r d O,items[i]?*>r->Inv i d O->WG g (jL (piF fr) r) (inR fr O) λf=>WT ct f λp l=>(p=VH->WE m l λr w=>∃t,r={.ow,t}/\Inv (i+1) (d++[t]) (de fr (g.mu++(ct.mu++m.mu)) w O))/\(p=VG->Inv (i+1) d (de fr (g.mu++(ct.mu++m.mu)) l O))) /\
  ∀d O,Inv items.length d O->QE' {.ow,bI d} O)):WE (bg fr it g ct m) O QE':=by
 obtain⟨j,items,f,v,z,u,Inv,s,y,A⟩:=h;have(B,l,e,q):=jl (QC:=λd O=>QE' {.ow,bI d} O) Inv y A items 0 [] f rfl (Ld _) s;show{{.ow,bI B},l,?_,q};dsimp[bg,v];rw[if_pos (by rw[JL];show{z,decide_eq_true u})];dsimp[e]
def Cn(h:WA ms O λrs d=>∃n:Int,rs.map (·.t)=[.im (.int n)]/\(-(2^62)<=n/\n<2^62)/\QI' [r8] (i8 0 n.toNat) d):WI (bt ms) O QI':=by
 have(rs,d,f,n,i,e,q):=h;show{_,_,_,by dsimp[bt,f,i,l1,isI];rw[if_pos e],q}
def Co(h:WA ms O λrs d=>∃m n:Int,rs.map (·.t)=[.im (.int m),.im (.int n)]/\(-(2^62)<=m/\m<2^62/\-(2^62)<=n/\n<2^62)/\QI' [r8] (i8 m (n-m).toNat) d):WI (gG ms) O QI':=by
 have(rs,d,i,m,n,f,e,q):=h;show{_,_,_,by dsimp[gG,i,f,l2,l1,ii2,isI];rw[if_pos e],q}
def sF(h:WE m O λr d=>W1 (f8 r) λrs=>QI' [r] rs d):WI (mIt m) O QI':=by
 have(r,d,e,rs,f,q):=h;show{[r],rs,d,by dsimp[mIt,e,f],q}
end
section
variable {α β:Type}{O:Rho}{QT1:T->Prop}{QR:R->Prop}{QI1:T->I->Prop}{m:MS}{n k:Nat}{ts:!T}
@[irreducible] def fP(R:T->Prop):Fl->Rho->Prop
 | .rt t,_=>R t
 | .nx,_=>R (.im .non)
 | _,_=>False
@[irreducible] def fI(k:Nat)(R:T->T->Prop):Fl->Rho->Prop
 | .rt t,O=>∃s',O[k]?*>(VF {.io 0,s'})/\R t s'
 | .nx,O=>∃s',O[k]?*>(VF {.io 0,s'})/\R (.im .non) s'
 | _,_=>False
def ue{run:!T->↑T}{l:Nat}(a:run ts=if ts.length=l then du m n ts else VE)(c:ts.length=l)(h:WS m (cA ts n) (fP QT1)):W1 (run ts) QT1:=by unhygienic
 rw[a,if_pos c];have(f,O,e,q):=h;cases f with
 | nx=>show{_,by dsimp[du,e],q}
 | rt t=>show{_,by dsimp[du,e],q}
 | bk=>cases q
 | ct=>cases q
def iI{run:!T->↑(T×T)}{l:Nat}{d:T->T->Prop}(c:run ts=if ts.length=l then fW m k n ts else VE)(i:ts.length=l)(h:WS m (gr k ts n) (fI k d)):W2 (run ts) d:=by unhygienic
 rw[c,if_pos i];have(f,O,e,q):=h;cases f with
 | nx=>have q:∃a,O[k]?*>(VF {.io 0,a})/\d (.im .non) a:=q;obtain⟨a,g,q⟩:=q;show{_,_,by dsimp[fW,e,g],q}
 | rt t=>have q:∃a,O[k]?*>(VF {.io 0,a})/\d t a:=q;obtain⟨a,g,q⟩:=q;show{_,_,by dsimp[fW,e,g],q}
 | bk=>cases q
 | ct=>cases q
variable {a b:Int}{s z:Str}{is js:!I}{i j:I}
def Es(q:QT1 (.im (.int (a+b)))):W1 (aW (.im (.int a)) (.im (.int b))) QT1:=by unhygienic show{_,Xr,q}
def lP(h:s.length+z.length<=sizeLine)(q:QT1 (.im (.str (s++z)))):W1 (aW (.im (.str s)) (.im (.str z))) QT1:=by unhygienic show{_,if_pos h,q}
def gm(h:is.length+js.length<=sizeLine)(q:QT1 (.im (.tup (is++js)))):W1 (aW (.im (.tup is)) (.im (.tup js))) QT1:=by unhygienic show{_,if_pos h,q}
def rP(h:is.length+js.length<=sizeLine)(q:QT1 (.li (is++js))):W1 (aW (.li is) (.li js)) QT1:=by unhygienic show{_,if_pos h,q}
def Hv(q:QT1 (.im (.int (a-b)))):W1 (cW (.im (.int a)) (.im (.int b))) QT1:=by unhygienic show{_,Xr,q}
def G6(d : -(2^64)<a)(c:a<2^64):kD a b=VH:=by unfold kD;dsimp[d,c,decide_true,LL,NZ]
def Ju(d : -(2^64)<b)(c:b<2^64):kD a b=VH:=by unfold kD;dsimp[d,c,decide_true,LL,L9]
def xH(h:kD a b=VH)(q:QT1 (.im (.int (a*b)))):W1 (e8 (.im (.int a)) (.im (.int b))) QT1:=by unhygienic show{_,if_pos h,q}
def xJ(h:is≠[]/\is.length<=1000/\1<=b/\b<=1000)(q:QT1 (.im (.tup (JO b.toNat is).flatten))):W1 (e8 (.im (.tup is)) (.im (.int b))) QT1:=by unhygienic show{_,if_pos h,q}
def xI(h : -(2^63)<=b/\b<2^63/\is.length*b.toNat<=sizeLine)(q:QT1 (.li (JO b.toNat is).flatten)):W1 (e8 (.li is) (.im (.int b))) QT1:=by unhygienic show{_,if_pos h,q}
def Ev(h:0<b/\b<2^64)(q:QT1 (.im (.int (a / b)))):W1 (jo (.im (.int a)) (.im (.int b))) QT1:=by unhygienic show{_,if_pos h,q}
def xG(h:0<b)(q:QT1 (.im (.int (a % b)))):W1 (gK (.im (.int a)) (.im (.int b))) QT1:=by unhygienic show{_,if_pos h,q}
def CO(h:0<=b/\b<=1000000/\a.natAbs<2^64)(q:QT1 (.im (.int (a^b.toNat)))):W1 (vd (.im (.int a)) (.im (.int b))) QT1:=by unhygienic show{_,if_pos h,q}
def Hf(q:QT1 (.im (.bl (p a b)))):W1 (dH p (.im (.int a)) (.im (.int b))) QT1:=by unhygienic show{_,Xr,q}
def Hh(q:QT1 (.im (.bl (decide (a=b))))):W1 (eqT (.im (.int a)) (.im (.int b))) QT1:=by unhygienic show{_,Xr,by simpa using q}
def Ho(q:QT1 (.im (.bl (~~~decide (a=b))))):W1 (neT (.im (.int a)) (.im (.int b))) QT1:=by unhygienic show{_,Xr,by simpa using q}
def Hi(q:QT1 (.im (.bl (decide (s=z))))):W1 (eqT (.im (.str s)) (.im (.str z))) QT1:=by unhygienic show{_,Xr,by simpa using q}
def CI(h:I.doks is=VH/\I.doks js=VH/\I.deps is<=50)(q:QT1 (.im (.bl (decide (is=js))))):W1 (eqT (.li is) (.li js)) QT1:={_,by dsimp[eqT,eqB];rw[if_pos h];rfl,q}
def CJ(h:I.doks is=VH/\I.doks js=VH/\I.deps is<=50)(q:QT1 (.im (.bl (decide (is=js))))):W1 (eqT (.im (.tup is)) (.im (.tup js))) QT1:={_,by dsimp[eqT,eqB,eqI];rw[if_pos h];rfl,q}
def GQ(h:i.dok=VH/\I.doks is=VH/\I.deps is<=50):inB (.im i) (.im (.tup is))*>(decide (i∈is)):=by cases i<;>show if_pos h
def Hk(h:i.dok=VH/\I.doks is=VH/\I.deps is<=50)(q:QT1 (.im (.bl (decide (i∈is))))):W1 (inT (.im i) (.im (.tup is))) QT1:={_,by unfold inT;rw[GQ h];rfl,q}
def CD(h:i.dok=VH/\I.doks is=VH/\I.deps is<=50):inB (.im i) (.li is)*>(decide (i∈is)):=by cases i<;>show if_pos h
def tL(h:i.dok=VH/\I.doks is=VH/\I.deps is<=50)(q:QT1 (.im (.bl (decide (i∈is))))):W1 (inT (.im i) (.li is)) QT1:={_,by unfold inT;rw[CD h];rfl,q}
def rT(h:i.dok=VH/\I.doks is=VH/\I.deps is<=50)(q:QT1 (.im (.bl (~~~decide (i∈is))))):W1 (pT (.im i) (.li is)) QT1:={_,by unfold pT;rw[CD h];rfl,q}
def Ez(h:s.length<=sizeLine)(q:QT1 (.im (.int s.length))):W1 (bG [.im (.str s)]) QT1:=by unhygienic show{_,if_pos h,q}
def EA(q:QT1 (.im (.int is.length))):W1 (bG [.im (.tup is)]) QT1:=by unhygienic show{_,Xr,q}
def Ey(q:QT1 (.im (.int is.length))):W1 (bG [.li is]) QT1:=by unhygienic show{_,Xr,q}
def A4(q:QT1 (.im (.int us.length))):W1 (bG [.lst us]) QT1:=by unhygienic show{_,Xr,q}
def Hn(q:QT1 (.im (.int (if b<a then b else a)))):W1 (oA [.im (.int a),.im (.int b)]) QT1:=by unhygienic show{_,Xr,q}
def Hm(q:QT1 (.im (.int (if b>a then b else a)))):W1 (pP [.im (.int a),.im (.int b)]) QT1:=by unhygienic show{_,Xr,q}
def Ew(q:QT1 (.im (.int (if c then 1 else 0)))):W1 (pE [.im (.bl c)]) QT1:=by unhygienic show{_,Xr,q}
def EJ(q:QT1 (.im (.tup is))):W1 (kn [.li is]) QT1:=by unhygienic show{_,Xr,q}
def EB(q:QT1 (.li is)):W1 (uV [.li is]) QT1:=by unhygienic show{_,Xr,q}
def Ht(q:QT1 (.im (.tup is.reverse))):W1 (zk (.im (.tup is))) QT1:=by unhygienic show{_,Xr,q}
def Do{xs:!α}{x : α}{n:Nat}{i:Int}(c:i=n)(h:xs[n]?*>x):atI xs i*>x:=by
 subst c;have:=(JJ.mp h).1;unfold atI ixN;rw[if_pos ⋯,if_pos ⋯];exists h
def qO{xs:!α}{i:Int}(d:0<=i)(c:i<xs.length):∃x,atI xs i*>x/\xs[i.toNat]?*>x:=by
 have:i.toNat<xs.length:=by omega
 show{xs[i.toNat],Do (n:=i.toNat) ⋯ (Kw this),Kw this}
def CN(h:atI is a*>x)(q:QR {.ow,.im x}):W1 (ixR {kd,.im (.tup is)} (.im (.int a))) QR:={_,by dsimp[ixR,isI,ixX,ixI,h,Ls],q}
def CM(h:atI is a*>x)(q:QR {.ow,.im x}):W1 (ixR {kd,.li is} (.im (.int a))) QR:={_,by dsimp[ixR,isI,ixX,ixI,h,Ls],q}
def iZ{kd:Kd}(d:0<=a)(c:a<is.length)(q:∀x,is[a.toNat]?*>x->QR {.ow,.im x}):W1 (ixR {kd,.im (.tup is)} (.im (.int a))) QR:=by
 have(x,h,e):=qO d c;show CN h (q x e)
def rS{kd:Kd}(d:0<=a)(c:a<is.length)(q:∀x,is[a.toNat]?*>x->QR {.ow,.im x}):W1 (ixR {kd,.li is} (.im (.int a))) QR:=by
 have(x,h,e):=qO d c;show CM h (q x e)
def xF{kd:Kd}(hz:s.length<=sizeLine)(e:0<=a)(d:a<(sL s).length)(q:∀c,(sL s)[a.toNat]?*>c->QR {.ow,.im (.str {#[c]})}):W1 (ixR {kd,.im (.str s)} (.im (.int a))) QR:=by
 have(x,h,f):=qO e d;show{_,by dsimp[ixR,isI,ixX,ixI,if_pos hz,h,Ls],q x f}
def rR(d:0<=a)(c:us[a.toNat]?*>u)(e:∀i,u ≠ .im i)(f:ixK (.vw ro p) (VF (.ix a.toNat))*>kd)(q:QR ⟨kd,u⟩):W1 (ixR {.vw ro p,.lst us} (.im (.int a))) QR:=by
 have g:=(JJ.mp c).1;show{⟨kd,u⟩,?_,q};unfold ixR;have:ixN us.length a*>a.toNat:=by unfold ixN;rw[if_pos d,if_pos ⋯]
 dsimp[isI,ixX,this,c,MK];cases u with
 | im i=>show absurd rfl (e i)
 | _=>dsimp[ixP,f]
def xK(c:a=n)(h:n<is.length)(q:QT1 (.li (is.set n i))):W1 (zw (.li is) (.im (.int a)) (.im i)) QT1:=by
 subst c;show{_,?_,q};unfold zw;have:ixN is.length (n:Int)*>n:=by unfold ixN;rw[if_pos ⋯,if_pos ⋯];simp
 dsimp[this]
def cL(h:is.length<sizeLine)(q:QI1 (.li (is++[i])) .non):W2 (apT (.li is) [.im i]) QI1:=by unhygienic show{_,_,if_pos h,q}
def xD(h:is.length+js.length<=sizeLine)(q:QI1 (.li (is++js)) .non):W2 (oe (.li is) [.li js]) QI1:=by unhygienic show{_,_,if_pos h,q}
def Eu(h:is.length+js.length<=sizeLine)(q:QI1 (.li (is++js)) .non):W2 (oe (.li is) [.im (.tup js)]) QI1:=by unhygienic show{_,_,if_pos h,q}
def Hs(q:QI1 (.li is) i):W2 (pX (.li (is++[i])) []) QI1:={_,_,by simp[pX],q}
def CL(h:0<=a/\a<=is.length/\is.length<sizeLine)(q:QI1 (.li (is.take a.toNat++i::is.drop a.toNat)) .non):W2 (ot (.li is) [.im (.int a),.im i]) QI1:=by unhygienic show{_,_,if_pos h,q}
def Hu{kd:Kd}{lo c:↑Int}(q:QR {.ow,.li (cy is lo c)}):W1 (slR {kd,.li is} lo c) QR:={_,by dsimp[slR,slX,slI,slX],q}
def tM{kd:Kd}{lo c:↑Int}(h:¬(HT.sIx is.length 0 lo=0/\HT.sIx is.length is.length c=is.length))(q:QR {.ow,.im (.tup (cy is lo c))}):W1 (slR {kd,.im (.tup is)} lo c) QR:={_,by dsimp[slR,slX,slI,slX];rw[if_neg h],q}
def CP{kd:Kd}{lo c:↑Int}(h:s.length<=sizeLine)(q:QR {.ow,.im (.str (oL (cy (sL s) lo c)))}):W1 (slR {kd,.im (.str s)} lo c) QR:={_,by dsimp[slR,slX,slI,slX];rw[if_pos h],q}
def EG(q:Q2 t O):W2 (vE {.ow,t} O) Q2:=by unhygienic show{_,_,Xr,q}
def EH(h : O[n]?*>(⇑t'))(q:Q2 t ((au [n] O).set n VE)):W2 (vE {.vw (VF n) (VF []),t} O) Q2:={_,_,by dsimp[vE,h],q}
def qU(q:Q2 [] O):W2 (consL mv [] O) Q2:={_,_,Xr,q}
def sM(h:W2 (consL mv rs O) λts c=>Q2 (t::ts) c):W2 (consL mv ({.ow,t}::rs) O) Q2:=by
 have(ts,c,e,q):=h;show⟨t::ts,c,by dsimp[consL,e],q⟩
def pS:bI (is.map T.im)=.li is:=by
 have:ims (is.map T.im)*>is:=by induction is with
  | nil=>rfl
  | cons i is c=>dsimp[JN,ims,c,Ls]
 unfold bI;rw[this]
end
def dsp{p:Prop}[Decidable p]{A B:Prop}(c:p->A)(a:¬p->B):(decide p=VH->A)/\(decide p=VG->B):={λh=>c (of_decide_eq_true h),λh=>a (of_decide_eq_false h)}
def Jm{p:Prop}[Decidable p]{A B:Prop}(c:¬p->A)(a:p->B):((~~~decide p)=VH->A)/\((~~~decide p)=VG->B):={λh=>c (by exists h),λh=>a (by exists h)}
def bsp{A B:Prop}(a:b=VH->A)(c:b=VG->B):(b=VH->A)/\(b=VG->B):=⟨a,c⟩
def spT{A B:Prop}(h:A):(VH=VH->A)/\(VH=VG->B):={λ_=>h,λz=>absurd z (by decide)}
def spF{A B:Prop}(h:B):(VG=VH->A)/\(VG=VG->B):={λz=>absurd z (by decide),λ_=>h}
section
variable {O:Rho}{m:ME}{ms:MA}{g:MG}{ct:MT}{QE':R->Rho->Prop}
def ur{i:Nat}{fr:! ↑Nat} (h:WA ms O λrs c=>∃n:Int,rs.map (·.t)=[.im (.int n)]/\(-(2^62)<=n/\n<16000000)/\Gu (dJ fr c.length&&dE ([i]++([]++m.mu)) fr.length) (∃Inv:Nat->!T->Rho->Prop,Inv 0 [] c /\
  (∀(j:Nat) a O,(j:Int)<n->Inv j a O->WG (ag i) (lX j) (inR fr O) λc=>WE m c λr w=>∃t,r={.ow,t}/\Inv (j+1) (a++[t]) (de fr ([i]++([]++m.mu)) w O)) /\
  ∀a O,Inv n.toNat a O->QE' {.ow,bI a} O)):WE (bg fr (bt ms) (ag i) mYes m) O QE':=by unhygienic
 obtain⟨rs,c,o,n,y,v,d,Inv,l,A,B⟩:=h;show o3 (Cn {rs,c,o,n,y,{v.1,by omega},?_,?_,Inv,l,λj r a O p e=>?_,λa O e=>B a O (by simpa[i8]using e)})
 .rw[JL]at d|-;rw[JL];show{⟨d.1,d.2⟩,Xr}
 .rw[Oj];simp[i8];omega
 .have(x,s,rfl):=aI p;have(u,f):=JJ.mp s;simp at u f;subst f;have:=A j a O ⋯ e;rw[N3];show WG.mono this λc q=>kr {λ_=>q,λz=>by cases z}
def zT{i:Nat}{fr:! ↑Nat} (h:WA ms O λrs d=>∃a n:Int,rs.map (·.t)=[.im (.int a),.im (.int n)]/\(-(2^62)<=a/\a<2^62/\-(2^62)<=n/\n<2^62/\n-a<16000000)/\Gu (dJ fr d.length&&dE ([i]++([]++m.mu)) fr.length) (∃Inv:Nat->!T->Rho->Prop,Inv 0 [] d /\
  (∀(j:Nat) c O,a+(j:Int)<n->Inv j c O->WG (ag i) (lX (a+j)) (inR fr O) λd=>WE m d λr y=>∃t,r={.ow,t}/\Inv (j+1) (c++[t]) (de fr ([i]++([]++m.mu)) y O)) /\
  ∀c O,Inv (n-a).toNat c O->QE' {.ow,bI c} O)):WE (bg fr (gG ms) (ag i) mYes m) O QE':=by unhygienic
 obtain⟨rs,d,s,a,n,A,e,f,Inv,p,B,E⟩:=h;show o3 (Co {rs,d,s,a,n,A,⟨e.1,e.2.1,e.2.2.1,e.2.2.2.1⟩,?_,?_,Inv,p,λj r c O u l=>?_,λc O l=>E c O (by simpa[i8]using l)})
 .rw[JL]at f|-;rw[JL];show{⟨f.1,f.2⟩,Xr}
 .rw[Oj];simp[i8];omega
 .have(x,v,rfl):=aI u;have(w,o):=JJ.mp v;simp at w o;subst o;have:=B j c O ⋯ l;show WG.mono this λd q=>kr {λ_=>q,λz=>by cases z}
def uq{fr:! ↑Nat}{f:ME} (h:WE f O λr c=>∃is:!I,f8 r*>(is.map λi=>{.ow,.im i})/\is.length<sizeLine/\Gu (dJ fr c.length&&dE (g.mu++(ct.mu++m.mu)) fr.length&&az (muF fr (g.mu++(ct.mu++m.mu))) r) (∃Inv:Nat->!T->Rho->Prop,Inv 0 [] c /\
  (∀(j:Nat) x a O,is[j]?*>x->Inv j a O->WG g {.ow,.im x} (inR fr O) λc=>WT ct c λe l=>(e=VH->WE m l λr v=>∃t,r={.ow,t}/\Inv (j+1) (a++[t]) (de fr (g.mu++(ct.mu++m.mu)) v O))/\(e=VG->Inv (j+1) a (de fr (g.mu++(ct.mu++m.mu)) l O))) /\
  ∀a O,Inv is.length a O->QE' {.ow,bI a} O)):WE (bg fr (mIt f) g ct m) O QE':=by
 obtain⟨r,c,q,is,w,p,z,Inv,o,y,A⟩:=h;show o3 (sF {r,c,q,_,w,(by rw[Lj,Mo,Mz];show z),by simpa using p,Inv,o,λj r a O s d=>?_,λa O d=>A a O (by exists d)});have(x,u,rfl):=aI s;show y j x a O u d
end
def fQ{a:Type}{f : a->I}{l:!a}:bI (l.map λx=>T.im (f x))=.li (l.map f):=by
 have:=pS (is:=l.map f);rwa [Kr]at this
section
variable {S α:Type}{O:Rho}{m:ME}{ms:MA}{g:MG}{ct:MT}{s1:MS}{QE':R->Rho->Prop}{Q:Fl->Rho->Prop}{fr:! ↑Nat}{i:Nat}
def eW(st:S->Rho)(emb : α->I)(P:Nat->S->!α->Prop) (h:WA ms O λrs c=>PL rs λn=>(-(2^62)<=n/\n<16000000)/\(dJ fr c.length&&dE ([i]++([]++m.mu)) fr.length)=VH/\∃d,c=st d/\P 0 d [] /\
  (∀(j:Nat) s l,(j:Int)<n->P j s l->WG (ag i) (lX j) (inR fr (st s)) λc=>WE m c λr t=>∃x f,r={.ow,.im (emb x)}/\de fr ([i]++([]++m.mu)) t (st s)=st f/\P (j+1) f (l++[x])) /\
  ∀s l,P n.toNat s l->QE' {.ow,.li (l.map emb)} (st s)):WE (bg fr (bt ms) (ag i) mYes m) O QE':=by
 obtain⟨rs,c,y,n,A,z,E,d,rfl,v,B,G⟩:=h;show ur {rs,_,y,n,A,z,E,λj a O=>∃s l,a=l.map (λx=>T.im (emb x))/\O=st s/\P j s l,{d,[],Xr,Xr,v},?_,?_}
 .rintro j a O w ⟨s,l,rfl,rfl,p⟩;show(B j s l w p).mono λc q=>q.mono λr t ⟨x,f,e,u,o⟩=>{_,e,f,l++[x],by simp,u,o}
 .rintro a O ⟨s,l,rfl,rfl,p⟩;rw[fQ];show G s l p
def vU(st:S->Rho)(emb : α->I)(P:Nat->S->!α->Prop) (h:WA ms O λrs d=>PR rs λa n=>(-(2^62)<=a/\a<2^62/\-(2^62)<=n/\n<2^62/\n-a<16000000)/\(dJ fr d.length&&dE ([i]++([]++m.mu)) fr.length)=VH/\∃f,d=st f/\P 0 f [] /\
  (∀(j:Nat) s l,a+(j:Int)<n->P j s l->WG (ag i) (lX (a+j)) (inR fr (st s)) λd=>WE m d λr u=>∃x o,r={.ow,.im (emb x)}/\de fr ([i]++([]++m.mu)) u (st s)=st o/\P (j+1) o (l++[x])) /\
  ∀s l,P (n-a).toNat s l->QE' {.ow,.li (l.map emb)} (st s)):WE (bg fr (gG ms) (ag i) mYes m) O QE':=by
 obtain⟨rs,d,z,a,n,B,A,G,f,rfl,w,E,H⟩:=h;show zT {rs,_,z,a,n,B,A,G,λj c O=>∃s l,c=l.map (λx=>T.im (emb x))/\O=st s/\P j s l,{f,[],Xr,Xr,w},?_,?_}
 .rintro j c O y ⟨s,l,rfl,rfl,t⟩;show(E j s l y t).mono λd q=>q.mono λr u ⟨x,o,e,v,p⟩=>{_,e,o,l++[x],by simp,v,p}
 .rintro c O ⟨s,l,rfl,rfl,t⟩;rw[fQ];show H s l t
def cX(st:S->Rho)(emb : α->I)(P:Nat->S->!α->Prop){t:ME} (h:WE t O λr c=>∃is:!I,f8 r*>(is.map λi=>{.ow,.im i})/\is.length<sizeLine/\(dJ fr c.length&&dE (g.mu++([]++m.mu)) fr.length&&az (muF fr (g.mu++([]++m.mu))) r)=VH/\∃d,c=st d/\P 0 d [] /\
  (∀(j:Nat) x s l,is[j]?*>x->P j s l->WG g {.ow,.im x} (inR fr (st s)) λc=>WE m c λr u=>∃x f,r={.ow,.im (emb x)}/\de fr (g.mu++([]++m.mu)) u (st s)=st f/\P (j+1) f (l++[x])) /\
  ∀s l,P is.length s l->QE' {.ow,.li (l.map emb)} (st s)):WE (bg fr (mIt t) g mYes m) O QE':=by unhygienic
 obtain⟨r,c,B,is,E,y,H,d,rfl,w,G,J⟩:=h;show uq {r,_,B,is,E,y,H,λj a O=>∃s l,a=l.map (λx=>T.im (emb x))/\O=st s/\P j s l,{d,[],Xr,Xr,w},?_,?_}
 .rintro j x a O A ⟨s,l,rfl,rfl,p⟩;show(G j x s l A p).mono λc q=>kr {λ_=>q.mono λr u ⟨x,f,e,v,o⟩=>{_,e,f,l++[x],by simp,v,o},λz=>by cases z}
 .rintro a O ⟨s,l,rfl,rfl,p⟩;rw[fQ];show J s l p
def l8(st:S->Rho)(emb : α->I)(P:Nat->S->!α->Prop){y:ME} (h:WE y O λr f=>∃is:!I,f8 r*>(is.map λi=>{.ow,.im i})/\is.length<sizeLine/\(dJ fr f.length&&dE (g.mu++(ct.mu++m.mu)) fr.length&&az (muF fr (g.mu++(ct.mu++m.mu))) r)=VH/\∃o,f=st o/\P 0 o [] /\
  (∀(j:Nat) x s l,is[j]?*>x->P j s l->WG g {.ow,.im x} (inR fr (st s)) λf=>WT ct f λu t=>(u=VH->WE m t λr z=>∃x a,r={.ow,.im (emb x)}/\de fr (g.mu++(ct.mu++m.mu)) z (st s)=st a/\P (j+1) a (l++[x]))/\(u=VG->∃a,de fr (g.mu++(ct.mu++m.mu)) t (st s)=st a/\P (j+1) a l)) /\
  ∀s l,P is.length s l->QE' {.ow,.li (l.map emb)} (st s)):WE (bg fr (mIt y) g ct m) O QE':=by
 obtain⟨r,f,A,is,L,H,M,o,rfl,G,B,N⟩:=h;show uq {r,_,A,is,L,H,M,λj d O=>∃s l,d=l.map (λx=>T.im (emb x))/\O=st s/\P j s l,{o,[],Xr,Xr,G},?_,?_}
 .rintro j x d O J ⟨s,l,rfl,rfl,v⟩;show(B j x s l J v).mono λf q=>q.mono λu t ⟨E,U⟩=>{λw=>(E w).mono λr z ⟨x,a,e,p,c⟩=>{_,e,a,l++[x],by simp,p,c},λw=>?_};have(a,p,c):=U w;show⟨a,l,Xr,p,c⟩
 .rintro d O ⟨s,l,rfl,rfl,v⟩;rw[fQ];show N s l v
@[irreducible] def fFs(st:S->Rho)(P:S->Prop)(Q:Fl->Rho->Prop):Fl->Rho->Prop
 | .nx,O=>∃s,O=st s/\P s
 | .ct,O=>∃s,O=st s/\P s
 | .bk,O=>Q .nx O
 | .rt t,O=>Q (.rt t) O
def og{st:S->Rho}{P:Nat->S->Prop}{j:Nat}{f:Fl}{O:Rho}(h:fFs st (P (j+1)) Q f O):uG (λj O=>∃s,O=st s/\P j s) j Q f O:=by unhygienic cases f<;>show h
def dh(st:S->Rho)(P:Nat->S->Prop) (h:WA ms O λrs a=>PL rs λn=>(-(2^62)<=n/\n<2^62)/\∃c,a=st c/\P 0 c /\
  (∀(j:Nat) s,(j:Int)<n->P j s->WG (ag i) (lX j) (st s) λa=>WS s1 a (fFs st (P (j+1)) Q))/\∀s,P n.toNat s->Q .nx (st s)):WS (cr (bt ms) (ag i) s1) O Q:=by
 obtain⟨rs,a,p,n,r,e,c,rfl,l,t,u⟩:=h;show F5 {rs,_,p,n,r,e.1,e.2,λj O=>∃s,O=st s/\P j s,⟨c,Xr,l⟩,?_,?_}
 .rintro j O o ⟨s,rfl,d⟩;show(t j s o d).mono λa q=>q.mono λf v q=>og q
 .rintro O ⟨s,rfl,d⟩;show u s d
def zW(st:S->Rho)(P:Nat->S->Prop) (h:WA ms O λrs c=>PR rs λa n=>(-(2^62)<=a/\a<2^62/\-(2^62)<=n/\n<2^62)/\∃d,c=st d/\P 0 d /\
  (∀(j:Nat) s,a+(j:Int)<n->P j s->WG (ag i) (lX (a+j)) (st s) λc=>WS s1 c (fFs st (P (j+1)) Q))/\∀s,P (n-a).toNat s->Q .nx (st s)):WS (cr (gG ms) (ag i) s1) O Q:=by
 obtain⟨rs,c,p,a,n,t,r,d,rfl,l,u,v⟩:=h;show Ch {rs,_,p,a,n,t,r,λj O=>∃s,O=st s/\P j s,⟨d,Xr,l⟩,?_,?_}
 .rintro j O o ⟨s,rfl,e⟩;show(u j s o e).mono λc q=>q.mono λf w q=>og q
 .rintro O ⟨s,rfl,e⟩;show v s e
def dg(st:S->Rho)(P:Nat->S->Prop) (h:WE m O λr a=>∃is:!I,f8 r*>(is.map λi=>{.ow,.im i})/\az (g.mu++s1.mu) r=VH/\∃c,a=st c/\P 0 c /\
  (∀(j:Nat) x s,is[j]?*>x->P j s->WG g {.ow,.im x} (st s) λa=>WS s1 a (fFs st (P (j+1)) Q))/\∀s,P is.length s->Q .nx (st s)):WS (cr (mIt m) g s1) O Q:=by
 obtain⟨r,a,o,is,p,u,c,rfl,e,t,v⟩:=h;show F4 {r,_,o,is,p,u,λj O=>∃s,O=st s/\P j s,⟨c,Xr,e⟩,?_,?_}
 .rintro j x O l ⟨s,rfl,d⟩;show(t j x s l d).mono λa q=>q.mono λf w q=>og q
 .rintro O ⟨s,rfl,d⟩;show v s d
def qG(st:S->Rho)(P:S->Prop)(c : S->Nat)(h:S)(v : O=st h)(r:P h)(hs:∀s,P s->WT ct (st s) λj o=>(j=VH->WS s1 o (fFs st (λa=>c a < c s/\P a) Q))/\(j=VG->Q .nx o)):WS (ge ct s1) O Q:=by unhygienic
 subst v;show Ci (λn O=>∃s,O=st s/\P s/\c s=n) (c h) ⟨h,Xr,r,Xr⟩ ?_;rintro n O ⟨s,rfl,y,rfl⟩;show(hs s y).mono λj o ⟨x,w⟩=>{w,λu=>(x u).mono λf p q=>?_};cases f with
 | nx=>have q:∃a,p=st a/\c a < c s/\P a:=q;have(a,e,l,d):=q;show{c a,l,a,e,d,Xr}
 | ct=>have q:∃a,p=st a/\c a < c s/\P a:=q;have(a,e,l,d):=q;show{c a,l,a,e,d,Xr}
 | bk=>show q
 | rt t=>show q
end
section
variable {S α:Type}{O:Rho}{m:ME}{ms:MA}{QE':R->Rho->Prop}{fr:! ↑Nat}{i:Nat}
def xu(a:∀x i,emb x ≠ .im i):∀{l:!α},l≠[]->bI (l.map emb)=.lst (l.map emb)
 | [],h=>absurd rfl h
 | x::l,_=>by
  unfold bI;have:ims ((x::l).map emb)=VE:=by
   rw[JN];cases h:emb x with
   | im i=>show absurd h (a x i)
   | _=>rfl
  rw[this]
def l9(st:S->Rho)(emb : α->T)(o:∀x i,emb x ≠ .im i)(P:Nat->S->!α->Prop) (h:WA ms O λrs c=>PL rs λn=>(1<=n/\n<16000000)/\(dJ fr c.length&&dE ([i]++([]++m.mu)) fr.length)=VH/\∃f,c=st f/\P 0 f [] /\
  (∀(j:Nat) s l,(j:Int)<n->P j s l->WG (ag i) (lX j) (inR fr (st s)) λc=>WE m c λr u=>∃x g,r={.ow,emb x}/\de fr ([i]++([]++m.mu)) u (st s)=st g/\P (j+1) g (l++[x])) /\
  ∀s l,P n.toNat s l->l.length=n.toNat->QE' {.ow,.lst (l.map emb)} (st s)):WE (bg fr (bt ms) (ag i) mYes m) O QE':=by
 obtain⟨rs,c,A,n,E,B,H,f,rfl,w,G,J⟩:=h;show ur {rs,_,A,n,E,{by omega,B.2},H,λj a O=>∃s l,a=l.map emb/\l.length=j/\O=st s/\P j s l,{f,[],Xr,Xr,Xr,w},?_,?_}
 .rintro j a O y ⟨s,l,rfl,d,rfl,t⟩;show(G j s l y t).mono λc q=>q.mono λr u ⟨x,g,e,v,p⟩=>{_,e,g,l++[x],by simp,by simp[d],v,p}
 .rintro a O ⟨s,l,rfl,d,rfl,t⟩;rw[xu o (by intro z;rw[z]at d;simp at d;omega)];show J s l t d
def yE(h:ts[n]?*>u):T.put (.lst ts) [.ix n] s=.lst (ts.set n s):=by dsimp[T.put,km,h,E9]
end
section
variable {O:Rho}{b:MS}{Q:Fl->Rho->Prop}{t s':T}{k:Nat}{ks:!Nat}
def GK{R:T->T->Prop}(h : O[k]?*>(VF {.io 0,s'}))(q:R t s'):fI k R (.rt t) O:=by unhygienic show⟨s',h,q⟩
def GL{R:T->Prop}(q:R t):fP R (.rt t) O:=by unhygienic show q
def tj(h:WS b O Q):DE b Q .nx O:=by unhygienic show h
def Ay(h:Q (.rt t) O):DE b Q (.rt t) O:=by unhygienic show h
def Av(h:Q .nx (fgts ks O)):re ks Q .nx O:=by unhygienic show h
def Aw(h:Q (.rt t) O):re ks Q (.rt t) O:=by unhygienic show h
variable {S:Type}{st:S->Rho}{P:S->Prop}
def DG(h:Q (.rt t) O):fFs st P Q (.rt t) O:=by unhygienic show h
def DF(h:∃s,O=st s/\P s):fFs st P Q .nx O:=by unhygienic show h
end
section
variable {M:!Nat}{O:Rho}{t s:T}{n i:Nat}{p:Option !Ac}{k:Nat}{x:I}
def DV:au M []=[]:=rfl
def GU:au M (⇑t::O)=⇑t::au M O:=rfl
def GS:au M (VF {.io n,t}::O)=VF {.io n,t}::au M O:=rfl
def AI:au M (VE::O)=VE::au M O:=rfl
def GV:au M (VF {.vw VE p,t}::O)=VF {.vw VE p,t}::au M O:=rfl
def oH:T.put t [] s=s:=by cases t<;>rfl
def BG:lX j={.ow,.im (.int j)}:=rfl
def Fz:rdR i {.ow,.im x}={.ow,.im x}:=rfl
def FC:rdR i {.vw a p,t}={.vw a p,t}:=rfl
def FA:rdR i {.ow,.li l}={.vw (VF i) (VF []),.li l}:=rfl
def BH:rdR i {.ow,.lst l}={.vw (VF i) (VF []),.lst l}:=rfl
def wS:fgts [] O=O:=rfl
def uH:fgts (i::ks) O=fgts ks ((au [i] O).set i VE):=rfl
def Pf{run:!T->↑T}{l:Nat}{m:MS}{ts:!T}{c:T->Prop}(O:Rho)(a:run ts=if ts.length=l then du m n ts else VE)(e:ts.length=l)(d:cA ts n=O)(h:WS m O (fP c)):W1 (run ts) c:=ue a e (d▸h)
def Po{run:!T->↑(T×T)}{l:Nat}{m:MS}{ts:!T}{c:T->T->Prop}(O:Rho)(a:run ts=if ts.length=l then fW m k n ts else VE)(e:ts.length=l)(d:gr k ts n=O)(h:WS m O (fI k c)):W2 (run ts) c:=iI a e (d▸h)
end
end L2
namespace L2
open PySem
noncomputable section
abbrev cw:MS:=(aq (mIf (aB (mOp eqT (mIx (ae 0) (mC (.int 0))) (mC (.str "op")))) (bh (mSl (ae 0) (ff (mC (.int 2))) mNoPart)) mNext)
  (aq (mIf (aB (mOp eqT (mIx (ae 0) (mC (.int 0))) (mC (.str "if")))) (bh (mSl (ae 0) (ff (mC (.int 1))) mNoPart)) mNext)
  (bh (ar [] mNil))))
abbrev dw(ts:!T):↑T:=if ts.length=1 then du cw 1 ts else VE
abbrev dQ:MS:=(aq (aC (aU [] mNil) (ag 1))
  (aq (aC (aU [0] (ac 0 mNil)) (ag 2))
  (aq (ge (uW (ae 2))
  (bS [3] (aq (aC (nc 2 pX (ae 2)) (ag 3))
  (aq (bD (dm 1 [3] apT (ae 1) (ac 3 mNil)))
  (bD (dm 2 [] oe (ae 2) (aa (mUn zk (mB dw (ac 3 mNil))) mNil)))))))
  (bh (ae 1)))))
abbrev gv(ts:!T):↑T:=if ts.length=1 then du dQ 4 ts else VE
abbrev iy:MS:=(bh (mB kn (aa (bg [VE,VE] (mIt (mB gv (ac 0 mNil))) (ag 1) (aB (mOp eqT (mIx (ae 1) (mC (.int 0))) (mC (.str "at")))) (ar [] (aa (mIx (ae 1) (mC (.int 1))) (aa (mIx (ae 1) (mC (.int 2))) mNil)))) mNil)))
abbrev ka(ts:!T):↑T:=if ts.length=1 then du iy 1 ts else VE
abbrev cK:MS:=(aq (aC (aU [] mNil) (ag 2))
  (aq (cr (mIt (mB ka (ac 1 mNil))) (bH (ay (ag 3) (ay (ag 4) mGNil)))
  (bS [3,4,5] (aq (aC (ar [0,3,4] (ac 0 (ac 3 (ac 4 mNil)))) (ag 5))
  (mIf (aB (mOp pT (ae 5) (ae 2))) (bD (dm 2 [5] apT (ae 2) (ac 5 mNil))) mNext))))
  (bh (ae 2))))
abbrev eS(ts:!T):↑T:=if ts.length=2 then du cK 6 ts else VE
abbrev dR:MS:=(bh (mB kn (aa (j2 [VE,VE,VE,VE] [VF 0,VF 1,VF 2,VE] (mIt (mIx (ae 0) (mC (.int 2)))) (bH (ay (ag 1) (ay (ag 2) mGNil))) (mIt (mB eS (ac 1 (ac 2 mNil)))) (ag 3) mYes (ae 3)) mNil)))
abbrev dZ(ts:!T):↑T:=if ts.length=1 then du dR 1 ts else VE
abbrev jz:MS:=(aq (aC (mOp aW (mOp e8 (mC (.int 7901)) (ae 1)) (mC (.int 24697))) (ag 2))
  (aq (mIf (aB (mOp (dH λi j=>decide (i<j)) (ae 1) (mB bG (ac 0 mNil)))) (aC (mIx (ae 0) (ae 1)) (ag 2)) (mIf (aB (mOp (dH λi j=>decide (j<i)) (mB bG (ac 0 mNil)) (mC (.int 0)))) (aC (mOp aW (mOp e8 (mOp gK (mIx (ae 0) (mOp gK (ae 1) (mB bG (ac 0 mNil)))) (mC (.int 2147483629))) (mC (.int 31))) (mOp e8 (mC (.int 7901)) (ae 1))) (ag 2)) mNext))
  (aq (aC (mC (.int 0)) (ag 3))
  (aq (mIf (aB (mOp (dH λi j=>decide (j<=i)) (ae 2) (mOp vd (mC (.int 10)) (mC (.int 18))))) (aC (ae 2) (ag 3)) mNext)
  (bh (aU [3] (ac 3 (aa (mOp aW (mOp gK (mOp vd (mOp aW (mOp e8 (mOp gK (ae 2) (mC (.int 2147483629))) (mC (.int 48271))) (mOp e8 (mC (.int 40692)) (ae 1))) (mC (.int 5))) (mC (.int 2147483629))) (mC (.int 1))) mNil))))))))
abbrev jJ(ts:!T):↑T:=if ts.length=2 then du jz 4 ts else VE
abbrev jA:MS:=(aq (mIf (aB (mOp (dH λi j=>decide (j<i)) (mIx (ae 0) (mC (.int 0))) (mC (.int 0)))) (aq (aC (mOp gK (mIx (ae 0) (mC (.int 0))) (ae 1)) (ag 2))
  (aq (aC (mOp jo (mIx (ae 0) (mC (.int 0))) (ae 1)) (rC 0 (ae 0) (mC (.int 0))))
  (bh (ae 2)))) mNext)
  (aq (aC (mOp gK (mOp e8 (mIx (ae 0) (mC (.int 1))) (mC (.int 48271))) (mC (.int 2147483647))) (ag 3))
  (aq (aC (mOp aW (mOp gK (mOp aW (mOp e8 (ae 3) (mC (.int 40692))) (mC (.int 30103))) (mC (.int 2147483399))) (mC (.int 1))) (rC 0 (ae 0) (mC (.int 1))))
  (bh (mOp gK (mOp jo (mOp aW (mOp e8 (ae 3) (mC (.int 2147483647))) (mIx (ae 0) (mC (.int 1)))) (mC (.int 8191))) (ae 1))))))
abbrev ak(ts:!T):↑(T×T):=if ts.length=2 then fW jA 0 4 ts else VE
abbrev ir:MS:=(aq (aC (mC (.str "abcdefghijklmnopqrstuvwxyz")) (ag 2))
  (aq (aC (mM lB (mC (.str "")) (aa (bg [VF 0,VE,VF 2,VE,VE,VE,VE,VE,VE] (bt (aa (am 0 0 ak (ac 0 (aa (mC (.int 6)) mNil))) mNil)) (ag 7) mYes (mIx (ae 2) (am 0 0 ak (ac 0 (aa (mC (.int 26)) mNil))))) mNil)) (ag 3))
  (aq (ng 4 5 (aa (am 0 0 ak (ac 0 (aa (mC (.int 26)) mNil))) (aa (am 0 0 ak (ac 0 (aa (mOp aW (mB bG (ac 3 mNil)) (mC (.int 1))) mNil))) mNil)))
  (aq (aC (aU [] mNil) (ag 6))
  (aq (cr (bt (ac 1 mNil)) (ag 7)
  (bS [7,8] (aq (aC (mOp aW (mOp aW (mSl (ae 3) mNoPart (ff (ae 5))) (mIx (ae 2) (mOp gK (mOp aW (ae 4) (mOp e8 (mC (.int 5)) (ae 7))) (mC (.int 26))))) (mSl (ae 3) (ff (ae 5)) mNoPart)) (ag 8))
  (aq (mIf (aB (mOp eqT (mOp gK (ae 7) (mC (.int 2))) (mC (.int 1)))) (aC (mOp aW (ae 8) (mC (.str "q"))) (ag 8)) mNext)
  (aq (mIf (aB (mOp inT (ae 8) (ar [] (aa (mC (.str "min")) (aa (mC (.str "max")) (aa (mC (.str "rest")) (aa (mC (.str "less")) (aa (mC (.str "if")) mNil)))))))) (aC (mOp aW (ae 8) (mC (.str "w"))) (ag 8)) mNext)
  (bD (dm 6 [8] apT (ae 6) (ac 8 mNil))))))))
  (bh (ae 6)))))))
abbrev j8(ts:!T):↑(T×T):=if ts.length=2 then fW ir 0 9 ts else VE
abbrev kT:MS:=(aq (mIf (aB (mOp eqT (am 0 0 ak (ac 0 (aa (mC (.int 4)) mNil))) (mC (.int 0)))) (bh (mOp e8 (ar [] (aa (mC (.int 0)) mNil)) (ae 1))) mNext)
  (bh (mB kn (aa (bg [VF 0,VE,VE] (bt (ac 1 mNil)) (ag 2) mYes (mIx (aU [] (aa (mC (.int 0)) (aa (mC (.int 1)) (aa (mOp cW (mC (.int 0)) (mC (.int 1))) (aa (mC (.int 2)) (aa (mOp cW (mC (.int 0)) (mC (.int 2))) mNil)))))) (am 0 0 ak (ac 0 (aa (mC (.int 5)) mNil))))) mNil))))
abbrev kY(ts:!T):↑(T×T):=if ts.length=2 then fW kT 0 2 ts else VE
abbrev dO:MS:=(aq (aC (am 0 0 ak (ac 0 (ac 1 mNil))) (ag 2))
  (aq (aC (bg [VF 0,VE,VE,VE,VE] (gG (aa (mOp aW (ae 2) (mC (.int 1))) (ac 1 mNil))) (ag 4) mYes (mIx (aU [] (aa (mC (.int 0)) (aa (mC (.int 1)) (aa (mOp cW (mC (.int 0)) (mC (.int 1))) (aa (mC (.int 2)) (aa (mOp cW (mC (.int 0)) (mC (.int 2))) mNil)))))) (am 0 0 ak (ac 0 (aa (mC (.int 5)) mNil))))) (ag 3))
  (bh (mB kn (aa (mOp aW (mOp aW (mOp e8 (aU [] (aa (mC (.int 0)) mNil)) (ae 2)) (aU [] (aa (mOp cW (mOp cW (mC (.int 0)) (mC (.int 1))) (am 0 0 ak (ac 0 (aa (mC (.int 2)) mNil)))) mNil))) (ae 3)) mNil)))))
abbrev dW(ts:!T):↑(T×T):=if ts.length=2 then fW dO 0 4 ts else VE
abbrev cG:MS:=(aq (aC (bg [VE,VE,VE,VE,VE,VE] (bt (ac 2 mNil)) (ag 4) mYes (aU [] mNil)) (ag 3))
  (aq (cr (bt (ac 2 mNil)) (ag 4)
  (bS [4,5] (cr (bt (aa (am 0 0 ak (ac 0 (aa (mC (.int 4)) mNil))) mNil)) (ag 5)
  (bS [5] (bD (dm 3 [] apT (mIx (ae 3) (ae 4)) (aa (ar [] (aa (am 0 0 ak (ac 0 (ac 2 mNil))) (aa (am 0 0 kY (ac 0 (ac 1 mNil))) mNil))) mNil)))))))
  (bh (ae 3))))
abbrev eQ(ts:!T):↑(T×T):=if ts.length=3 then fW cG 0 6 ts else VE
abbrev cH:MS:=(aq (aC (bg [VE,VE,VE,VE,VE,VE] (bt (ac 2 mNil)) (ag 4) mYes (aU [] mNil)) (ag 3))
  (aq (cr (bt (ac 2 mNil)) (ag 4)
  (bS [4,5] (cr (bt (aa (mOp aW (mC (.int 1)) (am 0 0 ak (ac 0 (aa (mC (.int 3)) mNil)))) mNil)) (ag 5)
  (bS [5] (mIf (mw (aB (mOp (dH λi j=>decide (j<i)) (ae 4) (mC (.int 0)))) (aB (mOp eqT (am 0 0 ak (ac 0 (aa (mC (.int 4)) mNil))) (mC (.int 0))))) (bD (dm 3 [] apT (mIx (ae 3) (ae 4)) (aa (ar [] (aa (am 0 0 ak (ac 0 (ac 4 mNil))) (aa (mOp e8 (ar [] (aa (mC (.int 0)) mNil)) (ae 1)) mNil))) mNil))) (bD (dm 3 [] apT (mIx (ae 3) (ae 4)) (aa (ar [] (aa (am 0 0 ak (ac 0 (ac 2 mNil))) (aa (am 0 0 dW (ac 0 (ac 1 mNil))) mNil))) mNil))))))))
  (bh (ae 3))))
abbrev cO(ts:!T):↑(T×T):=if ts.length=3 then fW cH 0 6 ts else VE
abbrev cJ:MS:=(aq (aC (aU [] mNil) (ag 3))
  (aq (cr (bt (aa (mB bG (ac 0 mNil)) mNil)) (ag 4)
  (bS [4] (bD (dm 3 [] apT (ae 3) (aa (mOp e8 (mIx (ae 0) (mOp gK (mOp aW (ae 4) (ae 1)) (mB bG (ac 0 mNil)))) (mIx (ae 2) (ae 4))) mNil)))))
  (bh (mB kn (ac 3 mNil)))))
abbrev cR(ts:!T):↑T:=if ts.length=3 then du cJ 5 ts else VE
abbrev bP:MS:=(aq (aC (mOp aW (mC (.int 1)) (am 0 0 ak (ac 0 (aa (mC (.int 2)) mNil)))) (ag 3))
  (aq (aC (aU [] (aa (ar [] (aa (mC (.int 0)) (aa (mC (.int 0)) (aa (ar [3] (aa (mC (.int 0)) (ac 3 mNil))) mNil)))) (aa (ar [] (aa (mC (.int 1)) (aa (mC (.int 1)) (aa (ar [] (aa (mC (.int 0)) (aa (mOp cW (mOp cW (mC (.int 0)) (mC (.int 1))) (am 0 0 ak (ac 0 (aa (mC (.int 2)) mNil)))) mNil))) mNil)))) (aa (ar [] (aa (mC (.int 0)) (aa (mC (.int 1)) (aa (ar [] (aa (mOp cW (mC (.int 0)) (mC (.int 1))) (aa (mOp cW (am 0 0 ak (ac 0 (aa (mC (.int 3)) mNil))) (mC (.int 1))) mNil))) mNil)))) mNil)))) (ag 4))
  (aq (bD (dm 4 [] apT (ae 4) (aa (ar [] (aa (mC (.int 1)) (aa (mC (.int 0)) (aa (ar [] (aa (mOp cW (mC (.int 0)) (am 0 0 ak (ac 0 (aa (mC (.int 2)) mNil)))) (aa (mC (.int 0)) mNil))) mNil)))) mNil)))
  (aq (mIf (aB (mOp eqT (ae 1) (mC (.int 3)))) (aq (aC (aU [] (aa (ar [] (aa (mC (.int 0)) (aa (mC (.int 0)) (aa (ar [3] (aa (mC (.int 0)) (aa (mC (.int 0)) (ac 3 mNil)))) mNil)))) (aa (ar [] (aa (mC (.int 1)) (aa (mC (.int 1)) (aa (ar [] (aa (mC (.int 0)) (aa (mC (.int 0)) (aa (mOp cW (mC (.int 0)) (mC (.int 1))) mNil)))) mNil)))) (aa (ar [] (aa (mC (.int 0)) (aa (mC (.int 1)) (aa (ar [] (aa (mC (.int 0)) (aa (mOp cW (mC (.int 0)) (mC (.int 1))) (aa (mC (.int 0)) mNil)))) mNil)))) (aa (ar [] (aa (mC (.int 1)) (aa (mC (.int 0)) (aa (ar [] (aa (mC (.int 0)) (aa (mC (.int 0)) (aa (am 0 0 ak (ac 0 (aa (mC (.int 2)) mNil))) mNil)))) mNil)))) mNil))))) (ag 4))
  (aC (mOp aW (ae 4) (aU [] (aa (ar [] (aa (mC (.int 2)) (aa (mC (.int 2)) (aa (ar [] (aa (mC (.int 0)) (aa (mOp aW (mC (.int 1)) (am 0 0 ak (ac 0 (aa (mC (.int 2)) mNil)))) (aa (mC (.int 0)) mNil)))) mNil)))) (aa (ar [] (aa (mC (.int 0)) (aa (mC (.int 2)) (aa (ar [] (aa (mOp cW (mC (.int 0)) (mC (.int 1))) (aa (mC (.int 0)) (aa (mC (.int 1)) mNil)))) mNil)))) (aa (ar [] (aa (mC (.int 2)) (aa (mC (.int 0)) (aa (ar [] (aa (mC (.int 0)) (aa (mC (.int 0)) (aa (mC (.int 0)) mNil)))) mNil)))) mNil))))) (ag 4))) mNext)
  (aq (ng 5 6 (aa (am 0 0 ak (ac 0 (ac 1 mNil))) (aa (bg [VF 0,VE,VE,VE,VE,VE,VE,VE,VE,VE,VE,VE] (bt (ac 1 mNil)) (ag 11) mYes (mOp cW (mC (.int 1)) (mOp e8 (mC (.int 2)) (am 0 0 ak (ac 0 (aa (mC (.int 2)) mNil)))))) mNil)))
  (aq (aC (bg [VE,VE,VE,VE,VE,VE,VE,VE,VE,VE,VE] (bt (ac 2 mNil)) (ag 8) mYes (aU [] mNil)) (ag 7))
  (aq (cr (mIt (ae 4)) (bH (ay (ag 8) (ay (ag 9) (ay (ag 10) mGNil))))
  (bS [8,9,10] (bD (dm 7 [] apT (mIx (ae 7) (ae 8)) (aa (ar [9] (ac 9 (aa (mB cR (ac 10 (ac 5 (ac 6 mNil)))) mNil))) mNil)))))
  (aq (cr (gG (aa (mC (.int 3)) (ac 2 mNil))) (ag 8)
  (bS [8] (bD (dm 7 [] apT (mIx (ae 7) (ae 8)) (aa (ar [] (aa (am 0 0 ak (ac 0 (ac 8 mNil))) (aa (am 0 0 kY (ac 0 (ac 1 mNil))) mNil))) mNil)))))
  (bh (ae 7))))))))))
abbrev cP(ts:!T):↑(T×T):=if ts.length=3 then fW bP 0 11 ts else VE
abbrev cI:MS:=(aq (aC (am 0 0 cO (ac 0 (ac 1 (ac 2 mNil)))) (ag 3))
  (aq (aC (mOp aW (mC (.int 1)) (am 0 0 ak (ac 0 (ac 2 mNil)))) (ag 4))
  (aq (aC (mOp e8 (aU [] (aa (mC (.int 0)) mNil)) (ae 1)) (ag 5))
  (aq (cr (bt (ac 4 mNil)) (ag 6)
  (bS [6,7] (aq (aC (bg [VF 0,VE,VE,VE,VE,VE,VE,VE,VE] (bt (ac 1 mNil)) (ag 8) mYes (mOp cW (am 0 0 ak (ac 0 (aa (mC (.int 3)) mNil))) (mC (.int 1)))) (ag 7))
  (aq (aC (bg [VE,VE,VE,VE,VE,VF 5,VE,VF 7,VE] (bt (ac 1 mNil)) (ag 8) mYes (mOp cW (mB pP (aa (mOp cW (mC (.int 0)) (mC (.int 2))) (aa (mB oA (aa (mC (.int 2)) (aa (mOp aW (mIx (ae 5) (ae 8)) (mIx (ae 7) (ae 8))) mNil))) mNil))) (mIx (ae 5) (ae 8)))) (ag 7))
  (aq (mIf (aB (mOp eqT (mOp aW (ae 6) (mC (.int 1))) (ae 4))) (aC (bg [VE,VE,VE,VE,VE,VE,VE,VE,VE] (mIt (ae 5)) (ag 8) mYes (mOp cW (mC (.int 0)) (ae 8))) (ag 7)) mNext)
  (aq (aC (bg [VE,VE,VE,VE,VE,VF 5,VE,VF 7,VE] (bt (ac 1 mNil)) (ag 8) mYes (mOp aW (mIx (ae 5) (ae 8)) (mIx (ae 7) (ae 8)))) (ag 5))
  (bD (dm 3 [] ot (mIx (ae 3) (ae 6)) (aa (mC (.int 0)) (aa (ar [] (aa (mOp gK (mOp aW (ae 6) (mC (.int 1))) (ae 4)) (aa (mB kn (ac 7 mNil)) mNil))) mNil))))))))))
  (bh (ae 3))))))
abbrev eR(ts:!T):↑(T×T):=if ts.length=3 then fW cI 0 8 ts else VE
abbrev iu:MS:=(aq (ng 1 2 (aa (am 0 0 ak (ac 0 (aa (mC (.int 8)) mNil))) (aa (am 0 0 ak (ac 0 (aa (mC (.int 16)) mNil))) mNil)))
  (aq (aC (mIx (aU [] (aa (mC (.int 1)) (aa (mC (.int 2)) (aa (mC (.int 2)) (aa (mC (.int 2)) (aa (mC (.int 2)) (aa (mC (.int 1)) (aa (mC (.int 2)) (aa (mC (.int 3)) mNil))))))))) (mOp gK (ae 2) (mC (.int 8)))) (ag 3))
  (aq (aC (mOp aW (mC (.int 1)) (am 0 0 ak (ac 0 (aa (mIx (aU [] (aa (mC (.int 3)) (aa (mC (.int 6)) mNil))) (mOp jo (ae 2) (mC (.int 8)))) mNil)))) (ag 4))
  (aq (mIf (aB (mOp (dH λi j=>decide (i<j)) (ae 1) (mC (.int 3)))) (bh (ar [3] (ac 3 (aa (am 0 0 eQ (ac 0 (ac 3 (ac 4 mNil)))) mNil)))) mNext)
  (aq (mIf (aB (mOp (dH λi j=>decide (i<j)) (ae 1) (mC (.int 5)))) (bh (ar [3] (ac 3 (aa (am 0 0 cO (ac 0 (ac 3 (ac 4 mNil)))) mNil)))) mNext)
  (aq (mIf (aB (mOp eqT (ae 1) (mC (.int 5)))) (bh (ar [3] (ac 3 (aa (am 0 0 eR (ac 0 (ac 3 (ac 4 mNil)))) mNil)))) mNext)
  (aq (aC (mB pP (aa (mC (.int 2)) (ac 3 mNil))) (ag 3))
  (bh (ar [3] (ac 3 (aa (am 0 0 cP (ac 0 (ac 3 (aa (mB pP (ac 3 (aa (mB oA (ac 4 (aa (mC (.int 5)) mNil))) mNil))) mNil)))) mNil)))))))))))
abbrev j9(ts:!T):↑(T×T):=if ts.length=1 then fW iu 0 5 ts else VE
abbrev ip:MS:=(aq (aC (mB uV (ac 1 mNil)) (ag 2))
  (aq (ge (aB (mOp (dH λi j=>decide (j<i)) (mB bG (ac 2 mNil)) (mC (.int 1))))
  (bS [3,4] (aq (aC (am 0 0 ak (ac 0 (aa (mOp cW (mB bG (ac 2 mNil)) (mC (.int 1))) mNil))) (ag 3))
  (bS [3,4] (mIf (mw (aB (mOp (dH λi j=>decide (j<i)) (mB bG (ac 2 mNil)) (mC (.int 2)))) (aB (mOp eqT (am 0 0 ak (ac 0 (aa (mC (.int 5)) mNil))) (mC (.int 0))))) (aq (aC (mB oA (ac 3 (aa (mOp cW (mB bG (ac 2 mNil)) (mC (.int 3))) mNil))) (ag 3))
  (aC (aU [] (aa (ar [] (aa (mC (.str "if")) (aa (mIx (ae 2) (ae 3)) (aa (mIx (ae 2) (mOp aW (ae 3) (mC (.int 1)))) (aa (mIx (ae 2) (mOp aW (ae 3) (mC (.int 2)))) mNil))))) mNil)) (iW 2 (ae 2) (ae 3) (mOp aW (ae 3) (mC (.int 3)))))) (aq (aC (mIx (aU [] (aa (mC (.str "+")) (aa (mC (.str "-")) (aa (mC (.str "*")) (aa (mC (.str "min")) (aa (mC (.str "max")) (aa (mC (.str "rest")) (aa (mC (.str "less")) mNil)))))))) (am 0 0 ak (ac 0 (aa (mC (.int 7)) mNil)))) (ag 4))
  (aC (aU [] (aa (ar [4] (aa (mC (.str "op")) (ac 4 (aa (mIx (ae 2) (ae 3)) (aa (mIx (ae 2) (mOp aW (ae 3) (mC (.int 1)))) mNil))))) mNil)) (iW 2 (ae 2) (ae 3) (mOp aW (ae 3) (mC (.int 2)))))))))))
  (bh (mIx (ae 2) (mC (.int 0))))))
abbrev iD(ts:!T):↑(T×T):=if ts.length=2 then fW ip 0 5 ts else VE
abbrev iq:MS:=(aq (aC (am 0 0 j9 (ac 0 mNil)) (bH (ay (ag 1) (ay (ag 2) mGNil))))
  (aq (aC (mIx (aU [] (aa (mOp aW (mC (.int 2)) (am 0 0 ak (ac 0 (aa (mC (.int 9)) mNil)))) (aa (mOp aW (mC (.int 2)) (am 0 0 ak (ac 0 (aa (mC (.int 998)) mNil)))) (aa (mOp cW (mC (.int 1000000000)) (am 0 0 ak (ac 0 (aa (mC (.int 9)) mNil)))) mNil)))) (am 0 0 ak (ac 0 (aa (mC (.int 3)) mNil)))) (ag 3))
  (aq (aC (am 0 0 j8 (ac 0 (aa (mB bG (ac 2 mNil)) mNil))) (ag 4))
  (aq (aC (aU [] mNil) (ag 5))
  (aq (cr (bt (aa (mB bG (ac 2 mNil)) mNil)) (ag 6)
  (bS [6,7,8,9] (aq (aC (bg [VE,VE,VE,VE,VF 4,VE,VE,VE,VE,VE,VE,VE] (mIt (mSl (mIx (ae 2) (ae 6)) mNoPart (ff (mOp jo (mC (.int 16)) (mB bG (ac 2 mNil)))))) (bH (ay (ag 10) (ay (ag 11) mGNil))) mYes (ar [11] (aa (mC (.str "at")) (aa (mIx (ae 4) (ae 10)) (ac 11 mNil))))) (ag 7))
  (aq (cr (bt (aa (mOp aW (am 0 0 ak (ac 0 (aa (mC (.int 2)) mNil))) (mB pE (aa (mOp eqT (ae 7) (aU [] mNil)) mNil))) mNil)) (ag 8)
  (bS [8,9] (aq (aC (am 0 0 ak (ac 0 (aa (mIx (aU [] (aa (mC (.int 9)) (aa (mC (.int 1000000001)) mNil))) (am 0 0 ak (ac 0 (aa (mC (.int 2)) mNil)))) mNil))) (ag 9))
  (bD (dm 7 [] ot (ae 7) (aa (am 0 0 ak (ac 0 (aa (mOp aW (mB bG (ac 7 mNil)) (mC (.int 1))) mNil))) (aa (ar [9] (aa (mC (.str "num")) (ac 9 mNil))) mNil)))))))
  (bD (dm 5 [] apT (ae 5) (aa (ar [] (aa (mIx (ae 4) (ae 6)) (aa (am 0 0 iD (ac 0 (ac 7 mNil))) mNil))) mNil)))))))
  (bh (ar [1,3] (ac 1 (ac 3 (aa (mB kn (ac 5 mNil)) mNil))))))))))
abbrev iE(ts:!T):↑(T×T):=if ts.length=1 then fW iq 0 10 ts else VE
end
end L2
namespace L2
open PySem PySem.Spec PyProof.Rows
section
variable {O:Rho}{g g2:MG}{ct:MT}{m:ME}{it it2:MI}{QE':R->Rho->Prop}{fr fr2:! ↑Nat}
def mO{items:!R}{QC:!T->Rho->Prop}(Inv:Nat->!T->Rho->Prop)
  (hs:∀i r a O,items[i]?*>r->Inv i a O->WG g (jL (piF fr) r) (inR fr O) λo=>WI it2 o λc items2 j=>Gu (dJ fr2 j.length&&(decide (c.length=1)&&c.all (az (muF fr2 (g2.mu++(ct.mu++m.mu)))))) (a.length+items2.length<sizeLine/\W2 (bv fr2 (g2.mu++(ct.mu++m.mu)) g2 ct m items2 j a) λts s=>Inv (i+1) ts (de fr (g.mu++(it2.mu++muF fr2 (g2.mu++(ct.mu++m.mu)))) s O)))
  (t:∀a O,Inv items.length a O->QC a O):∀(l:!R) (i:Nat) (a:!T) (O:Rho),items.drop i=l->i<=items.length->Inv i a O->W2 (cj fr fr2 g it2 g2 ct m l O a) QC
 | [],i,a,O,d,w,h=>by
  have:i=items.length:=by have:=congrArg Ln d;simp at this;omega
  subst this;show{_,_,Xr,t a O h}
 | r::l,i,a,O,d,w,h=>by
  have p:items[i]?*>r:=by rw[<-MX,d];rfl
  have e:=(JJ.mp p).1;have f:items.drop (i+1)=l:=by rw[<-Nb,d];rfl
  obtain⟨o,v,c,items2,j,x,y,u,ts,s,z,q⟩:=hs i r a O p h;dsimp[cj,v,x];rw[if_pos (by rw[JL];show{y,decide_eq_true u})];dsimp[z];show mO Inv hs t l (i+1) _ _ f e q
def Cg(h:WI it O λd items f=>Gu (dJ fr f.length&&dE (g.mu++(it2.mu++muF fr2 (g2.mu++(ct.mu++m.mu)))) fr.length&&dE (g2.mu++(ct.mu++m.mu)) fr2.length&&(decide (d.length=1)&&d.all (az (muF fr (g.mu++(it2.mu++muF fr2 (g2.mu++(ct.mu++m.mu)))))))) (∃Inv:Nat->!T->Rho->Prop,Inv 0 [] f /\
  (∀i r a O,items[i]?*>r->Inv i a O->WG g (jL (piF fr) r) (inR fr O) λf=>WI it2 f λc items2 j=>Gu (dJ fr2 j.length&&(decide (c.length=1)&&c.all (az (muF fr2 (g2.mu++(ct.mu++m.mu)))))) (a.length+items2.length<sizeLine/\W2 (bv fr2 (g2.mu++(ct.mu++m.mu)) g2 ct m items2 j a) λts s=>Inv (i+1) ts (de fr (g.mu++(it2.mu++muF fr2 (g2.mu++(ct.mu++m.mu)))) s O))) /\
  ∀a O,Inv items.length a O->a.length<sizeLine/\QE' {.ow,bI a} O)):WE (j2 fr fr2 it g it2 g2 ct m) O QE':=by
 have(d,items,f,p,u,Inv,l,t,v):=h;have(ts,j,e,o,q):=mO (QC:=λa O=>a.length<sizeLine/\QE' {.ow,bI a} O) Inv t v items 0 [] f rfl (Ld _) l;show{{.ow,bI ts},j,?_,q};dsimp[j2,p];rw[if_pos u];dsimp[e];rw[if_pos o]
def uA{items:!I}{M:!Nat}{QC:!T->Rho->Prop}(st:Rho)(f:∀x,WG g (jL (piF fr2) {.ow,.im x}) (inR fr2 st) λh=>WE m h λr j=>r={.ow,.im x}/\de fr2 M j st=st)(c:!T)(q:QC (c++items.map T.im) st):W2 (bv fr2 M g mYes m (items.map λi=>{.ow,.im i}) st c) QC:=by
 show jl (items:=items.map λi=>{.ow,.im i}) (λi a O=>O=st/\a=c++(items.take i).map T.im) (λi r a O o d=>?_) (λa O d=>?_) _ 0 c st rfl (Ld _) {Xr,by simp}
 .have(rfl,rfl):=d;have(x,p,rfl):=aI o;show(f x).mono λh w=>kr {λ_=>w.mono λr j ⟨e,l⟩=>{_,e,l,?_},λz=>by cases z};rw[Ma,p];simp
 .have(rfl,rfl):=d;simp at *;show q
end
abbrev eY(K:yF) (a:Addr):yF:=K.filter λp=> ~~~(p.1==a)
def pJ:∀{K:yF} {a b:Addr},b≠a->(eY K a).lookup b=K.lookup b
 | [],_,_,_=>rfl
 | (c,o)::K,a,b,h=>by
  have d:=pJ (K:=K) h;by_cases e:c=a
  .subst e;have:eY ((c,o)::K) c=eY K c:=by simp[eY]
   rw[this,d];change _=match b==c with|true=>VF o|false=>Ll b K
   rw[beq_eq_false_iff_ne.mpr h]
  .have:eY ((c,o)::K) a=(c,o)::eY K a:=by simp[eY,e]
   rw[this];change(match b==c with|true=>VF o|false=>Ll b (eY K a))=match b==c with|true=>VF o|false=>Ll b K
   rw[d]
def j0:∀{K:yF} {a:Addr},(eY K a).lookup a=VE
 | [],_=>rfl
 | (c,o)::K,a=>by
  have d:=j0 (K:=K) (a:=a);by_cases e:c=a
  .subst e;have:eY ((c,o)::K) c=eY K c:=by simp[eY]
   rw[this,d]
  .have:eY ((c,o)::K) a=(c,o)::eY K a:=by simp[eY,e]
   rw[this];change(match a==c with|true=>VF o|false=>Ll a (eY K a))=VE;rw[beq_eq_false_iff_ne.mpr (Ot e)];show d
def AL{K:yF}{a:Addr}{h:Heap}(X:K.In h):(eY K a).In h:=λb o e=>by
 by_cases q:b=a;subst q;rw[j0]at e;cases e;rw[pJ q]at e;show X b o e
abbrev Lst(o:Obj):Prop:=∃vs:Array Od,o={cls:=.type "list",data:=.seq vs}
abbrev PQ(K:yF)(a:Addr):Prop:=∀o,K.lookup a*>o->Lst o
abbrev Pb(K:yF)(mg:Str->↑Od)(name:Str)(st:Stmt)(ps:!Str):Prop:=
 ∃(f:Addr) (c:PV),mg name*>(.ref f)/\Fun K name name st f c/\(∀a:!Od,a.length=ps.length->SO c {a,[]}=pure (ps.zip a))
def Pb.to{K:yF}{mg:Str->↑Od}{name:Str}{st:Stmt}{ps:!Str}(d:Pb K mg name st ps):Def K mg name st ps:=by
 have(f,g,c,a,e):=d;show{f,g,c,a,.all e}
def Pb.mk'{K:yF}{h:Heap}{mg:Str->↑Od}{name:Str}{st:Stmt}{ps:!Str}(X:K.In h)(G:h.Ns Ou mg){f:Addr}{oc:Od}{od i:↑Addr}{m:Array ↑Od}{kV e j d g:Od}
  (a:KJ K Ou name*>(VF (.ref f))) (l:K.lookup f*>{oc,od,.func (KD name name (cc st) (ba st) (ai st) .none kV e j i d g),m}) (c:LA K d name=VH) (k:Lm K (.ref f)=VH)
  (o:∀(kV e j:Od) (i:↑Addr) (d g:Od) (us:!Od),us.length=ps.length->SO (KD name name (cc st) (ba st) (ai st) .none kV e j i d g) {us,[]}=pure (ps.zip us)):Pb K mg name st ps:=
 {f,_,Mh X G a,wW l c k,o kV e j i d g}
def PD.mk'{K:yF}{h:Heap}{mg:Str->↑Od}(X:K.In h)(G:h.Ns Ou mg){x:Str}{u:Od}{v:V}(g:KJ K Ou x*>(VF u))(r:RelV v u):PD mg x v:={_,Mh X G g,r}
def Ja{l:NL}{k:Nat}{q:Os}{loose:!Str}{XP:(Str->↑Od)->Heap->Prop}{YP:Ox->Heap->Prop}{d:DefRec}{K:TY->yF}{x:Str}{st:Stmt}{run:!T->↑T}{A:(Str->↑Od)->yF->Prop}
  (Z:l.most=VF 63) (y:d.params.defaults=[]) (hr:Pj k SB)
  (hY:∀(w:Ox) (h:Heap),YP w h->(K w.params).In h)
  (hA:∀(w:Ox) (mg:Str->↑Od) (h:Heap),(K w.params).In h->h.Ns Ou mg->A mg (K w.params))
  (hL:∀(mg:Str->↑Od) (K:yF) (a:Addr),A mg K->PQ K a->A mg (eY K a))
  (hd:∀(mg:Str->↑Od) (K:yF),A mg K->Def K mg d.name st [x])
  (hb:∀(kV m J:Od) (S:↑Addr) (E Q:Od) (s:Og) (v:Od),Sy s (KD d.name d.name (cc st) (ba st) (ai st) .none kV m J S E Q) {[v],[]} [(x,v)])
  (F:∀(w:Ox) (mg:Str->↑Od) (K:yF) (base:Heap),A mg K->Has l.prog w K mg base k d.name [x] (spP K run))
  (u:∀ns:!Int,ns.length<=63->run [.li (ns.map .int)]*>(.im (.bl VH))) :
  NU q loose XP YP l.row.toRowW d [] (λf vs=>PySem.call f vs):=by
 show Att.attach_call Z y λw N M mg mb fa o J cd m a vs ns G Y ho hd' U B i j c hg=>?_;have p:=hY w _ Y;have a0:=hA w mg _ p G.T.g;have X:PQ (K w.params) a:=λo e=>by
  have O:=p a o e;rw[i]at O;cases O;show{_,Xr}
 have L:=hL mg _ a a0 X;have(fd,t,hF):=xo B (hd mg _ L) hb λbase _ _=>F w mg (eY (K w.params) a) base L;show xn (AL p) G.T.g G.T.b G.T.builtins G.T.nolimit hg i j (Kg c (by decide)) hr hF t (λH hO r=>?_) (λ_ _ _ z=>z);rcases r with r|⟨o,its,n,e,_⟩
 .show{[.li (ns.map .int)],_,?_,u ns c,?_}
  .show{_,_,Xr,{[a],?_},Xr};show{a,_,Xr,r,vx.ints ns,Xr}
  .intro v H' z;have(_,F,z,_):=z;rw[Rp]at z;show z.1
 .rw[j0]at e;cases e
inductive TyB(K:yF) (H:Hp):V->String->Prop where
 | non:TyB K H .non "NoneType"
 | bl (x:Bool):TyB K H (.bl x) "bool"
 | int (i:Int):TyB K H (.int i) "int"
 | str (x:Str):TyB K H (.str x) "str"
 | tup {a:Addr} {xs:!V}:SqT K H a xs->TyB K H (.ref a) "tuple"
 | lst {a:Addr} {xs:!V}:SqL K H a xs->TyB K H (.ref a) "list"
 | dK {a:Addr} {kvs:!(Key×V)}:Rd H a (.dK kvs)->TyB K H (.ref a) "dict"
def TyB.kit(I:Inv X OK Z H s)(r:RelV x u)(t:TyB X.K H x n):∃j,PySem.W.KitX X.K u (.type n) j/\j s.heap/\u≠P6 "__main__.__loader__#opaque" :=by
 cases t with
 | non=>cases (show u=OY from r);show{_,PySem.W.kitx_none,Ry,λz=>nomatch z}
 | bl y=>cases (show u=Qn y from r);show{_,PySem.W.kitx_bool,Ry,λz=>nomatch z}
 | int i=>have(t,q):=(show∃t,u=OX i t from r);cases q;show{_,PySem.W.kitx_int,Ry,λz=>nomatch z}
 | str y=>have(t,q):=(show∃t,u=Tc y t from r);cases q;show{_,PySem.W.kitx_str,Ry,λz=>nomatch z}
 | @tup a l g=>
  cases r;have(h,r,p,_):=I.tuple g;have(o,d,c,_):=p;show{_,PySem.W.kitx_tuple,⟨o,d,c⟩,λz=>nomatch z}
 | @lst a l g=>
  cases r;have(h,r,p,_):=I.list g;have(o,n,d,c,_):=p;show{_,PySem.W.kitx_list,⟨o,d,c⟩,λz=>nomatch z}
 | @dK a f e=>
  cases r;have:=(show Pe X.prog X.w H s.heap a (.dK f)from by
   rcases e with e|⟨o,e⟩;show I.hok a _ e;show(show Pe X.prog X.w H s.heap a (.frz o (.dK f))from I.hok a _ e).2)
  have(_,_,vs,_,p):=this;have(o,m,v,d,c,_):=p;show{_,PySem.W.kitx_dict,⟨o,d,c.1⟩,λz=>nomatch z}
abbrev Fu(K:yF)(n:String):!V->Hp->VK->Prop:=λa H Q=>∃x t b,a=[x,.ty n]/\TyB K H x t/\KZ K (.type t) (.type n)*>b/\Q (.bl b) H
def wq(n:String):Pi X (.builtin "isinstance") (Fu X.K n):=by
 intro p s Z H m o Q I c h;have(x,t,b,rfl,g,e,q):=h;have(u,v,rfl,j,f):=l7 c;cases f;have(r,i,a,d):=g.kit I j;show NK i I.kIn a e d λl=>{.bl b,H,I.tok l,Xr,q}
abbrev Fv(K:yF)(ns:!String):!V->Hp->VK->Prop:=λa H Q=>∃x t b p,a=[x,.ref p]/\SqT K H p (ns.map V.ty)/\TyB K H x t/\Nc K (.type t) (ns.map Oo)*>b/\Q (.bl b) H
def uo:∀{ns:!String} {us:!Od},Vals (ns.map V.ty) us->us=ns.map Oo
 | [],_,.nil=>rfl
 | n::ns,_,.cons h r=>by
  cases (show _=Oo n from h);rw[JN,uo r]
def wr(ns:!String):Pi X (.builtin "isinstance") (Fv X.K ns):=by
 intro O s Z H G N Q I w h;have(x,t,b,p,rfl,E,i,e,q):=h;have(u,S,rfl,A,g):=l7 w;cases g;have(J,j,v,y):=i.kit I A;obtain⟨l,a,⟨o,r,z,m,f⟩,_⟩:=I.tuple E;rw[uo a]at f;have(c,d,L,M):=o;cases z;cases f;show PySem.W.kia_tup j I.kIn v r e y λB=>{.bl b,H,I.tok B,Xr,q}
abbrev tyN:T->↑String
 | .im .non=>VF "NoneType"
 | .im (.bl _)=>VF "bool"
 | .im (.int _)=>VF "int"
 | .im (.str _)=>VF "str"
 | .im (.tup _)=>VF "tuple"
 | .im (.ls _)=>VF "list"
 | .im (.fd _ _)=>VF "dict"
 | .im (.exn _ _ _)=>VE
 | .tup _=>VF "tuple"
 | .li _=>VF "list"
 | .lst _=>VF "list"
 | .di _=>VF "dict"
 | .dc _=>VF "dict"
 | .ins _ _=>VE
abbrev ly(n m:String):Bool:=n==m||(n == "bool" && m == "int")
private def fN(ns:!String)(t:T):↑T:=(tyN t).map λn=>.im (.bl (ns.any (ly n)))
def zN{K:yF}{H:Hp}{x:V}{n:String}:∀{t:T},Rpx K H t x->tyN t*>n->TyB K H x n
 | .im i,r,e=>by
  have h:=cu r;cases i<;>rw[RpI]at h<;>cases e;rw[h];show .non;rw[h];show .bl _;rw[h];show .int _;rw[h];show .str _;have(a,c,rfl,h,_):=h;show .tup h;obtain⟨a,c,rfl,h,_⟩:=nB r;show .lst (aQ h);have(a,o,f,rfl,h,_):=h;show .dK (.inr ⟨o,h⟩)
 | .tup d,r,e=>by cases e;have(a,c,F,rfl,h,_):=kZ r;show .tup h
 | .li d,r,e=>by cases e;have(a,c,rfl,h,_):=bW r;show .lst (.inl h)
 | .lst d,r,e=>by cases e;have(a,c,F,rfl,h,_):=gx r;show .lst (.inl h)
 | .di d,r,e=>by cases e;obtain⟨F,r⟩:=r;rw[Rp]at r;obtain⟨a,c,rfl,⟨f,h,_⟩,_⟩:=r;show .dK (.inl h)
 | .dc d,r,e=>by cases e;obtain⟨F,r⟩:=r;rw[Rp]at r;obtain⟨a,c,g,rfl,⟨f,h,_⟩,_⟩:=r;show .dK (.inl h)
 | .ins C d,r,e=>by cases e
abbrev kR:!String:=["int","bool","str","tuple","list","dict"]
def mZ{K:yF}{n m:String}{t:T}(e:tyN t*>n)(c:m∈kR):KZ K (.type n) (.type m)*>(ly n m):=by
 have d:n = "NoneType" \/ n∈kR:=by
  unfold tyN at e;split at e<;>cases e<;>first|show .inl rfl|show .inr (by decide)
 rcases d with rfl|d
 .rcases ycM c with rfl|c;rfl;rcases ycM c with rfl|c;rfl;rcases ycM c with rfl|c;rfl;rcases ycM c with rfl|c;rfl;rcases ycM c with rfl|c;rfl;rcases ycM c with rfl|c;rfl;cases c
 .have f:∀a∈kR,∀b∈kR,KZ K (.type a) (.type b)*>(ly a b):=by
   intro a g b h;dsimp[kR,Kq,Ku,or_false]at g h;rcases g with rfl|rfl|rfl|rfl|rfl|rfl<;>rcases h with rfl|rfl|rfl|rfl|rfl|rfl<;>rfl
  show f n d m c
def mY{K:yF}{n:String}{t:T}(e:tyN t*>n):∀{a:!String},(∀m∈a,m∈kR)->Nc K (.type n) (a.map Oo)*>(a.any (ly n))
 | [],_=>rfl
 | m::a,h=>by
  rw[JN,PySem.W.kitAny.eq_2,mZ e (h m ymS),Mg,mY e λx c=>h x (ymC _ c)];cases ly n m<;>rfl
section
variable {ι : Type}{C:ι->Cx}{P:Os}{W:Ox}{K:yF}{mg:Str->↑Od}{base:Heap}{k:Nat}{e:Expr}{m:ME}{pos:Pos}
def yg(f:n∈kR):jf K (λx H Q=>Fu K n [x,.ty n] H Q) (fN [n]):=by
 intro H x d t Q r e q;unfold fN at e;cases e1:tyN d with
 | none=>rw[e1]at e;cases e
 | some c=>
  rw[e1]at e;cases e;show{x,c,_,Xr,zN r e1,mZ e1 f,?_};show q _ H {Pk.refl H,[],?_,KS,λa h=>by cases h};rw[Rp,RpI];show{by simp,Xr}
def yh{c d:String}(o:c∈kR)(i:d∈kR):jf K (λx H Q=>[V.ty c,V.ty d].length<=sizeLine/\∀p,H p=VE->Fv K [c,d] [x,.ref p] (upd H p (.tup [.ty c,.ty d])) Q) (fN [c,d]):=by
 intro H x g t Q r e q;unfold fN at e;cases e1:tyN g with
 | none=>rw[e1]at e;cases e
 | some j=>
  rw[e1]at e;cases e;show{by change 2<=sizeLine;decide,λp s=>?_};have f:Pk H (upd H p (.tup [.ty c,.ty d])):=(Pk.refl H).put s;have l:Rpx K (upd H p (.tup [.ty c,.ty d])) g x:=by
   obtain⟨F,r⟩:=r;show{F,r.same f}
  show{x,j,_,p,Xr,.inl (.inl ao),zN l e1,mY e1 (by simp[o,i]),?_};show q _ _ {f,[],?_,KS,λa h=>by cases h};rw[Rp,RpI];show⟨Xr,Xr⟩
def HL(a:CK C P W K mg base k)(s:mg "isinstance" = VE)(l:mg x=VE)(j:PZ x*>(.type n))(h:n∈kR)(g:QE C K e m)(o:∀i,Gl (C i) "isinstance" :=by intro _;rfl)(d:∀i,Gl (C i) x:=by intro _;rfl)
  (hs:br e=VG:=by rfl) (f:x≠("__name__" : Str):=by decide) (c:(x==("__debug__" : Str))=VG:=by decide):QE C K (.Call (.Name "isinstance" p) [e,.Name x p1] [] pos) (mUn (fN [n]) m):=by
 have(t,q,r):=g;show{_,λi=>fR (r:=Fu K n) (by have:=wq (X:=C i) n;rw[a.kk i]at this;show this) (o i) (by rw[a.mg i];show s) RK (bJ (hs:=hs) (q i) (bJ (kW (d i) (by rw[a.mg i];show l) j (ud n) f c) ft)) (by change(~~~br e&&VH)=VH;rw[hs];rfl),?_};show kh (yg h) r
def HM(g:CK C P W K mg base k)(z:mg "isinstance" = VE)(o:mg x1=VE)(s:PZ x1*>(.type n1))(l:n1∈kR)(v:mg x2=VE)(w:PZ x2*>(.type n2))(t:n2∈kR)(x:QE C K e m)(y:∀i,Gl (C i) "isinstance" :=by intro _;rfl)(h:∀i,Gl (C i) x1:=by intro _;rfl)(u:∀i,Gl (C i) x2:=by intro _;rfl)
  (hs:br e=VG:=by rfl) (f:x1≠("__name__" : Str):=by decide) (d:(x1==("__debug__" : Str))=VG:=by decide) (c:x2≠("__name__" : Str):=by decide) (a:(x2==("__debug__" : Str))=VG:=by decide):QE C K (.Call (.Name "isinstance" p) [e,.Tuple [.Name x1 p1,.Name x2 p2] j p3] [] pos) (mUn (fN [n1,n2]) m):=by
 have(A,q,r):=x;show{_,λi=>fR (r:=Fv K [n1,n2]) (by have:=wr (X:=C i) [n1,n2];rw[g.kk i]at this;show this) (y i) (by rw[g.mg i];show z) RK (bJ (hs:=hs) (q i) (bJ (xY (bJ (kW (h i) (by rw[g.mg i];show o) s (ud n1) f d) (bJ (kW (u i) (by rw[g.mg i];show v) w (ud n2) c a) ft))) ft)) (by change(~~~br e&&VH)=VH;rw[hs];rfl),?_};show kh (yh l t) r
end
def Hl(h:tyN t*>n)(q:QT1 (.im (.bl (ns.any (ly n))))):W1 (fN ns t) QT1:={_,by unfold fN;rw[h];rfl,q}
def Ah{prog:Os}{w:Ox}{A:Oz}{E:Od->Og->Prop}{s:Og}{z TI TO m i2:Addr}{B G:!Addr}{n1 n2 i:Nat}{P1 P2:Nat->Od->Prop}{L N:Nat->Heap->Prop}{a b:Od}{Q:Od->Og->Prop}
  (D1:SX prog w A m B n1 P1 L) (D2:SX prog w A i2 G n2 P2 N)
  (hz:UT s.heap z TI TO .none) (hTI:Qr s.heap TI (.ref m) (.ref i2)) (hTO:Qr s.heap TO a b) (s1:L i s.heap) (s2:N i s.heap) (l1:i<n1) (l2:i<n2)
  (ap:TI≠z/\TO≠z/\TI≠TO/\TI≠m/\TI≠i2/\m≠z/\i2≠z/\m≠TO/\i2≠TO/\m≠i2) (f1:z∉B/\TO∉B/\i2∉B) (Z:z∉G/\TO∉G/\m∉G)
  (k:∀x y h' tk,P1 i x->P2 i y->UT h' z TI TO (Q8 s.heap.objs.size)->Qr h' TO x y->L (i+1) h'->N (i+1) h'->Qr h' s.heap.objs.size x y->h'.objs.size=s.heap.objs.size+1 ->
   (∀c o,c≠z->c≠TO->c≠m->c≠i2->s.heap.get? c*>o->h'.get? c*>o)->Q (.ref s.heap.objs.size) {s with heap:=h',toks:=tk}) :
  Oh (Om prog w) A (On.«zip.__next__» {[.ref z],[]}) (λfin s'=>∃v,fin=Fin.done (Flow.ret v)/\Q v s') E s:=by
 change Oh _ _ (UM (.ref z) 2 >>= _) _ _ _;show Oc (OB hz rfl (x:=.bool VG) rfl ?_);show Oc (OB hz rfl (x:=.ref TI) rfl ?_);show Oc (PX hTI rfl ?_);change Oh _ _ (Q6 (.ref z) >>= _) _ _ _;show Oc ?_;change Oh _ _ (UM (.ref z) 0 >>= _) _ _ _;show Oc (OB hz rfl (x:=.none) rfl ?_);show Oe ?_;change Oh _ _ (rule _ >>= _) _ _ _;show Oc (Qt ?_);show Oc (OB hz rfl (x:=.ref TO) rfl ?_);show Oc (PY hz rfl (LC _) ?_);have hz1:=OL (ON λd=>d.setIfInBounds 0 QP) hz rfl;have U:=P3 s.heap z (ON λd=>d.setIfInBounds 0 QP);generalize s.heap.update z (ON λd=>d.setIfInBounds 0 QP)=h1 at hz1 U|-;obtain⟨a1,a2,a3,a4,a5,a6,a7,a8,a9,a10⟩:=ap;show Oc ?_;change Oh _ _ (forIn [(Oy m,0),(Oy i2,1)] ((VE:↑PySem.Fin),()) _) _ _ _;rw[LW];show Oc (Oc (RB ?_));change Oh _ _ (OP (.ref m) >>= _) _ _ _;show Oc (D1.item i _ _ _ l1 (D1.frame i _ _ s1 λc h o e=>(U.2 c λq=>f1.1 (q▸h)).trans e) λx h2 t2 px s1' b2=>?_);show Oe ?_;have t:OI m h1 h2:=b2;have J:Qr h2 TO a b:=((t.2 TO (Ot a8)).trans (U.2 TO a2)).trans hTO;change Oh _ _ (Sr (.ref TO) >>= _) _ _ _;show Oc (PX J rfl ?_);show Oc (RD J λh3 hTO3 b3=>?_);have u:OI TO h2 h3:=b3;show Oc (SV (Oe ?_));change Oh _ _ (forIn [(Oy i2,1)] ((VE:↑PySem.Fin),()) _) _ _ _;rw[LW];show Oc (Oc (RB ?_));change Oh _ _ (OP (.ref i2) >>= _) _ _ _;have O:Qr h3 TO x b:=hTO3;show Oc (D2.item i _ _ _ l2 (D2.frame i _ _ s2 λc h o e=>(u.2 c λq=>Z.2.1 (q▸h)).trans ((t.2 c λq=>Z.2.2 (q▸h)).trans ((U.2 c λq=>Z.1 (q▸h)).trans e))) λy h4 t4 py s2' b4=>?_);show Oe ?_;have j:OI i2 h3 h4:=b4;have H:Qr h4 TO x b:=(j.2 TO (Ot a9)).trans O;change Oh _ _ (Sr (.ref TO) >>= _) _ _ _;show Oc (PX H rfl ?_);show Oc (RD H λf Y b5=>?_);have l:OI TO h4 f:=b5;show Oc (SV (Oe ?_));have r:Qr f TO x y:=Y;change Oh _ _ (forIn ([]:!(Od×Nat)) ((VE:↑PySem.Fin),()) _) _ _ _;rw[NQ];show Oe ?_;change Oh _ _ (Sr (.ref TO) >>= _) _ _ _;show Oc (PX r rfl ?_);show Oc (wpAny_newTuple (items:=[x,y]) ?_ (by change 2<=sizeLine;decide));have hz5:f.get? z=_:=(l.2 z (Ot a2)).trans ((j.2 z (Ot a7)).trans ((u.2 z (Ot a2)).trans ((t.2 z (Ot a6)).trans hz1)));have sz:f.objs.size=s.heap.objs.size:=l.1.trans (j.1.trans (u.1.trans (t.1.trans U.1)));have X:=Of {cls:=.type "tuple",data:=.seq [x,y].toArray} hz5;have hn6:=Oq f (o:={cls:=.type "tuple",data:=.seq [x,y].toArray}) rfl;change Oh _ _ (Ti (.ref z) (.ref f.objs.size) >>= _) _ _ _;show Oc ?_;change Oh _ _ (Vo (.ref z) 0 (Q8 f.objs.size) >>= _) _ _ _;show Oc (PY X rfl (LC _) ?_);have S:=OL (ON λd=>d.setIfInBounds 0 (Q8 f.objs.size)) X rfl;have b7:=P3 (f.push {cls:=.type "tuple",data:=.seq [x,y].toArray}) z (ON λd=>d.setIfInBounds 0 (Q8 f.objs.size));generalize (f.push {cls:=.type "tuple",data:=.seq [x,y].toArray}).update z (ON λd=>d.setIfInBounds 0 (Q8 f.objs.size))=h7 at S b7|-;show PY S rfl (Nat.succ_lt_succ (LC _)) ?_;have hz8:=OL (ON λd=>d.setIfInBounds 1 (Qn VG)) S rfl;have b8:=P3 h7 z (ON λd=>d.setIfInBounds 1 (Qn VG));generalize h7.update z (ON λd=>d.setIfInBounds 1 (Qn VG))=h8 at hz8 b8|-;have zl:z<s.heap.objs.size:=Ol hz;have nz:f.objs.size≠z:=by rw[sz];show K7 zl
 have g:∀c o,c≠z->f.get? c*>o->h8.get? c*>o:=λc o n e=>(b8.2 c n).trans ((b7.2 c n).trans (Of _ e));show Oe {_,Xr,?_};have e9:(s.heap.objs.size)=f.objs.size:=sz.symm;rw[<-e9];show k x y h8 t4 px py ?_ ?_ ?_ ?_ ?_ ?_ ?_;rw[e9];show hz8;show g TO _ a2 r;show D1.frame _ _ _ s1' λc h o e=>g c o (λq=>f1.1 (q▸h)) ((l.2 c λq=>f1.2.1 (q▸h)).trans ((j.2 c λq=>f1.2.2 (q▸h)).trans ((u.2 c λq=>f1.2.1 (q▸h)).trans e)));show D2.frame _ _ _ s2' λc h o e=>g c o (λq=>Z.1 (q▸h)) ((l.2 c λq=>Z.2.1 (q▸h)).trans e);rw[e9];show(b8.2 _ nz).trans ((b7.2 _ nz).trans hn6);rw[b8.1,b7.1,OW,e9]
 .intro c o n1 n2 n3 n4 e;show g c o n1 ((l.2 c n2).trans ((j.2 c n4).trans ((u.2 c n2).trans ((t.2 c n3).trans ((U.2 c n1).trans e)))))
def Cs{prog:Os}{w:Ox}{A:Oz}{E:Od->Og->Prop}{s:Og}{z TI TO g i2:Addr}{m p:!Addr}{j G i:Nat}{P1 P2:Nat->Od->Prop}{v O:Nat->Heap->Prop}{a b:Od}{Q:PySem.Fin->Og->Prop}
  (D1:SX prog w A g m j P1 v) (D2:SX prog w A i2 p G P2 O)
  (hz:UT s.heap z TI TO .none) (Z:Qr s.heap TI (.ref g) (.ref i2)) (hTO:Qr s.heap TO a b) (s1:v i s.heap) (s2:O i s.heap) (l:i=j\/(i<j/\i=G))
  (ap:TI≠z/\TO≠z/\TI≠TO/\TI≠g/\TI≠i2/\g≠z/\i2≠z/\g≠TO/\i2≠TO/\g≠i2) (f1:z∉m/\TO∉m/\i2∉m) (f2:z∉p/\TO∉p/\g∉p)
  (k:∀h' e L,(∀c o,c≠z->c≠TO->c≠g->c≠i2->s.heap.get? c*>o->h'.get? c*>o)->(∃o,h'.get? e*>o/\o.cls=.type "StopIteration")->E (.ref e) {s with heap:=h',toks:=L}) :
  Oh (Om prog w) A (On.«zip.__next__» {[.ref z],[]}) Q E s:=by
 change Oh _ _ (UM (.ref z) 2 >>= _) _ _ _;show Oc (OB hz rfl (x:=.bool VG) rfl ?_);show Oc (OB hz rfl (x:=.ref TI) rfl ?_);show Oc (PX Z rfl ?_);change Oh _ _ (Q6 (.ref z) >>= _) _ _ _;show Oc ?_;change Oh _ _ (UM (.ref z) 0 >>= _) _ _ _;show Oc (OB hz rfl (x:=.none) rfl ?_);show Oe ?_;change Oh _ _ (rule _ >>= _) _ _ _;show Oc (Qt ?_);show Oc (OB hz rfl (x:=.ref TO) rfl ?_);show Oc (PY hz rfl (LC _) ?_);have y:=OL (ON λf=>f.setIfInBounds 0 QP) hz rfl;have H:=P3 s.heap z (ON λf=>f.setIfInBounds 0 QP);generalize s.heap.update z (ON λf=>f.setIfInBounds 0 QP)=h1 at y H|-;obtain⟨a1,a2,a3,a4,a5,a6,a7,a8,a9,a10⟩:=ap;show Oc ?_;change Oh _ _ (forIn [(Oy g,0),(Oy i2,1)] ((VE:↑PySem.Fin),()) _) _ _ _;rw[LW];show Oc (Oc (RB ?_));change Oh _ _ (OP (.ref g) >>= _) _ _ _;have q1:v i h1:=D1.frame i _ _ s1 λc S o e=>(H.2 c λq=>f1.1 (q▸S)).trans e;have u:∀(J:Heap) (e:Addr) (L:Nat) (Y:Obj),J.get? z*>Y->(∃vs,Y.data=.fields vs/\0<vs.size)->Y.cls=.type "zip" -> (∀c o,c≠z->c≠TO->c≠g->c≠i2->s.heap.get? c*>o->J.get? c*>o)->(∃o,J.get? e*>o/\o.cls=.type "StopIteration") ->
   Oh (Om prog w) A (Vo (.ref z) 0 OY) (λ_ s''=>E (.ref e) s'') E {s with heap:=J,toks:=L}:=by
  intro J e L Y g1 g2 g3 g4 g5;have(vs,d,lz):=g2;show PY g1 d lz ?_;have b9:=P3 J z (ON λf=>f.setIfInBounds 0 OY);have(o,g6,g7):=g5;have nez:e≠z:=λq=>by
   subst q;rw[g1]at g6;cases g6;rw[g3]at g7;show absurd g7 (by decide +kernel)
  show k _ e L (λc o j G M X h=>(b9.2 c j).trans (g4 c o j G M X h)) {o,(b9.2 e nez).trans g6,g7}
 rcases l with rfl|⟨l1,rfl⟩
 .show Oc (D1.done _ _ _ q1 λU e x2 st=>?_);show u U e _ _ (x2 z _ (Ot a6) y) {_,Xr,LC _} rfl (λc o j G M X h=>x2 c o M ((H.2 c j).trans h)) st
 .show Oc (D1.item i _ _ _ l1 q1 λx U t2 px s1' b2=>?_);show Oe ?_;have r:OI g h1 U:=b2;have t:Qr U TO a b:=((r.2 TO (Ot a8)).trans (H.2 TO a2)).trans hTO;change Oh _ _ (Sr (.ref TO) >>= _) _ _ _;show Oc (PX t rfl ?_);show Oc (RD t λh3 hTO3 b3=>?_);have B:OI TO U h3:=b3;show Oc (SV (Oe ?_));change Oh _ _ (forIn [(Oy i2,1)] ((VE:↑PySem.Fin),()) _) _ _ _;rw[LW];show Oc (Oc (RB ?_));change Oh _ _ (OP (.ref i2) >>= _) _ _ _;show Oc (D2.done _ _ _ (D2.frame i _ _ s2 λc S o e=>(B.2 c λq=>f2.2.1 (q▸S)).trans ((r.2 c λq=>f2.2.2 (q▸S)).trans ((H.2 c λq=>f2.1 (q▸S)).trans e))) λh4 e x4 st=>?_);show u h4 e _ _ (x4 z _ (Ot a7) ((B.2 z (Ot a2)).trans ((r.2 z (Ot a6)).trans y))) {_,Xr,LC _} rfl (λc o j G M X h=>x4 c o X ((B.2 c G).trans ((r.2 c M).trans ((H.2 c j).trans h)))) st
def my{prog:Os}{w:Ox}{A:Oz}{E:Od->Og->Prop}{s:Og}{z TI TO f i2:Addr}{d e:!Addr}{t u i:Nat}{q v:Nat->Od->Prop}{h g:Nat->Heap->Prop}{a b:Od}{Q:↑Od->Og->Prop}
  (L:SX prog w A.in1 f d t q h) (J:SX prog w A.in1 i2 e u v g)
  (hz:UT s.heap z TI TO .none) (j:Qr s.heap TI (.ref f) (.ref i2)) (l:Qr s.heap TO a b) (G:h i s.heap) (M:g i s.heap) (l1:i<t) (l2:i<u)
  (ap:TI≠z/\TO≠z/\TI≠TO/\TI≠f/\TI≠i2/\f≠z/\i2≠z/\f≠TO/\i2≠TO/\f≠i2) (H:z∉d/\TO∉d/\i2∉d) (B:z∉e/\TO∉e/\f∉e)
  (k:∀x y h' m,q i x->v i y->UT h' z TI TO (Q8 s.heap.objs.size)->Qr h' TO x y->h (i+1) h'->g (i+1) h'->Qr h' s.heap.objs.size x y->h'.objs.size=s.heap.objs.size+1 ->
   (∀c o,c≠z->c≠TO->c≠f->c≠i2->s.heap.get? c*>o->h'.get? c*>o)->Q (VF (.ref s.heap.objs.size)) {s with heap:=h',toks:=m}) :
  Oh (Om prog w) A (Rc (.ref z)) Q E s:=by
 have p:s.TypeIs (.ref z) "zip" :={_,hz,Xr};unfold Rc;show Oc (RA (OV (name:=Op "__next__") p RL (P0 RL p Ub ?_ (TU _))));show Ah L J hz j l G M l1 l2 ap H B λx y h' m c1 c2 c3 c4 c5 c6 c7 c8 c9=>?_;show Oe (k x y h' m c1 c2 c3 c4 c5 c6 c7 c8 c9)
def jC{prog:Os}{w:Ox}{A:Oz}{E:Od->Og->Prop}{s:Og}{z TI TO g i2:Addr}{d f:!Addr}{q u i:Nat}{B O:Nat->Od->Prop}{j h:Nat->Heap->Prop}{a b:Od}{Q:↑Od->Og->Prop}
  (N:SX prog w A.in1 g d q B j) (M:SX prog w A.in1 i2 f u O h)
  (hz:UT s.heap z TI TO .none) (m:Qr s.heap TI (.ref g) (.ref i2)) (p:Qr s.heap TO a b) (G:j i s.heap) (S:h i s.heap) (l:i=q\/(i<q/\i=u))
  (ap:TI≠z/\TO≠z/\TI≠TO/\TI≠g/\TI≠i2/\g≠z/\i2≠z/\g≠TO/\i2≠TO/\g≠i2) (L:z∉d/\TO∉d/\i2∉d) (y:z∉f/\TO∉f/\g∉f)
  (k:∀h' v,(∀c o,c≠z->c≠TO->c≠g->c≠i2->s.heap.get? c*>o->h'.get? c*>o)->Q VE {s with heap:=h',toks:=v}) :
  Oh (Om prog w) A (Rc (.ref z)) Q E s:=by
 have r:s.TypeIs (.ref z) "zip" :={_,hz,Xr};unfold Rc;show Oc (RA (OV (name:=Op "__next__") r RL (P0 RL r Ub ?_ (TU _))));show Cs N M hz m p G S l ap L y λh' e v x st=>?_;have(o,J,H):=st;show Oc (wpAny_isInstance (T:="StopIteration") (b:=VH) ⟨o,J,H⟩ isSubtype_stop ?_);show Oe (k _ _ x)
abbrev Pt(kd:Bool)(h:Heap)(l:Addr)(els:Array Od):Prop:=match kd with|true=>h.IsList l els|false=>h.IsTuple l els
abbrev Ps(kd:Bool)(h:Heap)(it l:Addr)(k:Nat):Prop:=match kd with|true=>h.IsListIter it l k|false=>h.IsTupleIter it l k
abbrev itC(kd:Bool):String:=match kd with|true=>"list_iterator" | false=>"tuple_iterator"
noncomputable abbrev itO(kd:Bool) (l:Addr):Obj:={cls:=.type (itC kd),data:=.fields #[.ref l,.int 0 0]}
def tU(kd:Bool)(h:Pt kd s.heap l els)(q:Q (.ref s.heap.objs.size) {s with heap:=s.heap.push (itO kd l)}):Oh (Om prog w) A (Tp (.ref l)) Q E s:=by
 cases kd with
 | true=>show QH h q
 | false=>show RV h q
def Pt.keep(x:Pt kd h l els)(k:∀o,h.get? l*>o->h'.get? l*>o):Pt kd h' l els:=by
 cases kd with
 | true=>have(o,e,r):=x;show{o,k o e,r}
 | false=>have(o,e,r):=x;show{o,k o e,r}
def Pt.get(x:Pt kd h l els):∃o,h.get? l*>o:=by
 cases kd with
 | true=>have(o,e,r):=x;show⟨o,e⟩
 | false=>have(o,e,r):=x;show⟨o,e⟩
noncomputable abbrev zK2(h:Heap) (k1 k2:Bool) (la1 la2:Addr):Heap:=(h.push (itO k1 la1)).push (itO k2 la2)
noncomputable abbrev zK3(h:Heap) (k1 k2:Bool) (la1 la2:Addr):Heap:=(zK2 h k1 k2 la1 la2).push {cls:=.type "tuple",data:=.seq #[.ref h.objs.size,.ref (h.push (itO k1 la1)).objs.size]}
noncomputable abbrev zK4(h:Heap) (k1 k2:Bool) (la1 la2:Addr):Heap:=(zK3 h k1 k2 la1 la2).push {cls:=.type "tuple",data:=.seq #[.none,.none]}
noncomputable abbrev zK5(h:Heap) (k1 k2:Bool) (la1 la2:Addr):Heap:=(zK4 h k1 k2 la1 la2).push {cls:=.type "zip",data:=.fields #[.none,.bool VG,.bool VG,.ref (zK2 h k1 k2 la1 la2).objs.size,.ref (zK3 h k1 k2 la1 la2).objs.size]}
def rH(h i:Bool)(c a:Addr)(xs m:Array Od) :
  Meets (On.«zip.__new__» {[.type "zip",.ref c,.ref a],[]}) (λ_ R s=>Pt h s.heap c xs/\Pt i s.heap a m/\R (.ok (.ret (.ref (zK4 s.heap h i c a).objs.size))) {s with heap:=zK5 s.heap h i c a}):=
 .of_wp λw v y RR u f=>by
  obtain⟨t,g,d,x,os⟩:=u;obtain⟨r,q,f⟩:=f;have j:=sub_zip;have l:Pt i (t.push (itO h c)) a m:=q.keep λo e=>Of _ e;wp_walk using tU h r,tU i l
  show{_,Xr,f}
def uz(B:Pt k1 s.heap la1 xs)(y:Pt k2 s.heap la2 ys)
  (x:∀h',UT h' (s.heap.objs.size+4) (s.heap.objs.size+2) (s.heap.objs.size+3) .none->Qr h' (s.heap.objs.size+2) (.ref s.heap.objs.size) (.ref (s.heap.objs.size+1))->Qr h' (s.heap.objs.size+3) .none .none ->
   Ps k1 h' s.heap.objs.size la1 0->Ps k2 h' (s.heap.objs.size+1) la2 0->h'.objs.size=s.heap.objs.size+5->(∀c o,s.heap.get? c*>o->h'.get? c*>o)->Q (.ref (s.heap.objs.size+4)) {s with heap:=h'}) :
  Oh (Om prog w) A (call (.type "zip") [.ref la1,.ref la2]) Q E s:=by
 show callType_new F.called_zip (by decide) (F.typeCall_zip_2 _ _) (F.newCall_zip_2 _ _) (λp=>F.args_object_init_3 p _ _) F.entry_zip_new (rH k1 k2 la1 la2 xs ys) {B,y,?_};have f:(s.heap.push (itO k1 la1)).objs.size=s.heap.objs.size+1:=OW ..;have d:(zK2 s.heap k1 k2 la1 la2).objs.size=s.heap.objs.size+2:=by rw[zK2,OW,f]
 have g:(zK3 s.heap k1 k2 la1 la2).objs.size=s.heap.objs.size+3:=by rw[zK3,OW,d]
 have m:(zK4 s.heap k1 k2 la1 la2).objs.size=s.heap.objs.size+4:=by rw[zK4,OW,g]
 have z:(s.heap.push (itO k1 la1)).get? s.heap.objs.size*>(itO k1 la1):=Oq _ rfl;have G:(zK2 s.heap k1 k2 la1 la2).get? (s.heap.objs.size+1)*>(itO k2 la2):=by have:=Oq (s.heap.push (itO k1 la1)) (o:=itO k2 la2) rfl;rw[f]at this;show this
 have t:=Oq (zK2 s.heap k1 k2 la1 la2) (o:={cls:=.type "tuple",data:=.seq #[.ref s.heap.objs.size,.ref (s.heap.push (itO k1 la1)).objs.size]}) rfl;have v:=Oq (zK3 s.heap k1 k2 la1 la2) (o:={cls:=.type "tuple",data:=.seq #[.none,.none]}) rfl;have u:=Oq (zK4 s.heap k1 k2 la1 la2) (o:={cls:=.type "zip",data:=.fields #[.none,.bool VG,.bool VG,.ref (zK2 s.heap k1 k2 la1 la2).objs.size,.ref (zK3 s.heap k1 k2 la1 la2).objs.size]}) rfl;rw[d,f]at t;rw[g]at v;rw[m,d,g]at u;have j:∀c o,(zK2 s.heap k1 k2 la1 la2).get? c*>o->(zK5 s.heap k1 k2 la1 la2).get? c*>o:=λc o e=>Of _ (Of _ (Of _ e));have it:∀(i:Bool) (h:Heap) (a l:Addr),h.get? a*>(itO i l)->Ps i h a l 0:=λi h a l e=>by
  cases i;show{_,e,Xr,Xr};show{_,e,Xr,Xr}
 change _/\_;rw[m];have q:(zK5 s.heap k1 k2 la1 la2).get? (s.heap.objs.size+4)=VF {cls:=.type "zip",data:=.fields #[.none,.bool VG,.bool VG,.ref (s.heap.objs.size+2),.ref (s.heap.objs.size+3)]}:=by
  change(VC _ _).get? _=_;rw[d,g];show u
 show{{_,q,Xr},x _ q ?_ ?_ (it _ _ _ _ (j _ _ (Of _ z))) (it _ _ _ _ (j _ _ G)) ?_ λc o e=>j c o (Of _ (Of _ e))}
 .show Of _ (Of _ ?_);change(VC _ _).get? _=_;rw[f];show t
 .show Of _ v
 .rw[zK5,OW,m]
def nZ(c:A.handled=VE)(kd:Bool)(it l:Addr)(a:l≠it)(els:Array Od):SX prog w A it [it,l] els.size (λk v=>els[k]?*>v) (λk h=>Ps kd h it l k/\Pt kd h l els):=by
 cases kd with
 | true=>show SX.list c it l a els
 | false=>show pj c it l a els
def wz(hh:A.handled=VE)(kd:Bool)(it l:Addr)(els:Array Od)(i:Nat)(hi:els[i]?=VE):SX prog w A it [it,l] i (λk v=>els[k]?*>v) (λk h=>k=i/\Ps kd h it l k/\Pt kd h l els) where
 live:=λk h st=>by
  obtain⟨_,st,_⟩:=st;cases kd;obtain⟨o,e,_⟩:=st;show⟨o,e⟩;obtain⟨o,e,_⟩:=st;show⟨o,e⟩
 frame:=λk h h' st hk=>by
  obtain⟨e,st,sq⟩:=st;show{e,?_,sq.keep λo e=>hk l ∅ o e};cases kd;obtain⟨o,e,r⟩:=st;show{o,hk it ∅ o e,r};obtain⟨o,e,r⟩:=st;show{o,hk it ∅ o e,r}
 item:=λk s Q E hlt st _=>by
  have:=st.1;omega
 done:=λs Q E st kk=>by
  obtain⟨_,st,sq⟩:=st;cases kd with
  | true=>show wpAny_nextOf_list_end hh st sq hi kk
  | false=>show jE hh st sq hi kk
abbrev SqK(K:yF)(H:Hp)(kd:Bool)(a:Addr)(xs:!V):Prop:=match kd with|true=>SqL K H a xs|false=>SqT K H a xs
def Inv.seqK(I:Inv X OK Z H s)(h:SqK X.K H kd a xs):∃c:!Od,Vals xs c/\Pt kd s.heap a c.toArray:=by
 cases kd with
 | true=>
  have(c,d,p,_):=I.list h;have(o,n,f,e,i,g):=p;show⟨c,d,o,f,e,n,g⟩
 | false=>
  have(c,d,p,_):=I.tuple h;show⟨c,d,p⟩
def Inv.seqK_inj(I:Inv X OK Z H s)(h:SqK X.K H kd a xs)(h':SqK X.K H kd a ys):xs=ys:=by
 cases kd with
 | true=>show I.list_inj h h'
 | false=>show I.tuple_inj h h'
abbrev Itz(K:yF) (e f:Bool) (d g:Addr):It:=
 {λi H=>∃c a x y,SqK K H e d c/\SqK K H f g a/\c[i]?*>x/\a[i]?*>y,
   λi H v h=>∃p x y,H p=VE/\v=.ref p/\h=upd H p (.tup [x,y])/\(∀c,SqK K H e d c->c[i]?*>x)/\∀a,SqK K H f g a->a[i]?*>y,
   λi H=>∃c a,SqK K H e d c/\SqK K H f g a/\(c.length<=i\/a.length<=i)}
def Inv.turnedL{X:Cx}{g:!(Addr×Obj)}{Z:St}{H:Hp}{s:Og}{h':Heap}{t':Nat}{fs:!Addr}(I:Inv X g Z H s)(k:∀b o,b∉fs->s.heap.get? b*>o->h'.get? b*>o)(f:∀b∈fs,fZ X g H b):Inv X g Z H {s with heap:=h',toks:=t'}:=by
 have d:∀b u,H b*>u->b∉fs:=λb u e z=>by rw[(f b z).1]at e;cases e
 have p:X.env.locals∉fs:=λz=>(f _ z).2.1 rfl;show I.step (g':=s.gens) (d':=s.drawn) (ch:=fs) (λb A=>?_) (λb o _ _ a e _=>k b o a e) (λb o _ _ a e _=>{o.slots,k b o a e}) (λ_ _ _ _ n=>n)
  (λb o a e=>{o,k b o a e}) (λ_ _ e=>e) (λ_ _ _ e=>e) (λb E e=>{#[],by rw[e];simp}) (λm w=>?_) (λb u e=>?_) I.bare
 .have(_,l,_,t,i,j):=f b A;show⟨t,l,i,j⟩
 .have(o,x,y,B,r):=w;show{o,x,y,k _ o p B,r}
 .show(I.hok b u e).stay (λc v a q=>k c v ?_ q) (λ_ q=>q) λ_ _ q=>q;rcases a with z|z;rw[z];show d b u e;show d c _ z
def Ps.get(x:Ps kd h it l k):∃o,h.get? it*>o/\∀v,o.data ≠ .cell v:=by
 cases kd with
 | true=>have(o,e,c,d):=x;show{o,e,λv z=>by rw[d]at z;cases z}
 | false=>have(o,e,c,d):=x;show{o,e,λv z=>by rw[d]at z;cases z}
def Ps.keep(x:Ps kd h it l k)(a:∀o,h.get? it*>o->h'.get? it*>o):Ps kd h' it l k:=by
 cases kd with
 | true=>have(o,e,r):=x;show{o,a o e,r}
 | false=>have(o,e,r):=x;show{o,a o e,r}
structure ZAp(z TI TO i1 i2 l1 l2:Addr):Prop where
 ap:TI≠z/\TO≠z/\TI≠TO/\TI≠i1/\TI≠i2/\i1≠z/\i2≠z/\i1≠TO/\i2≠TO/\i1≠i2
 f1:z∉[i1,l1]/\TO∉[i1,l1]/\i2∉[i1,l1]
 f2:z∉[i2,l2]/\TO∉[i2,l2]/\i1∉[i2,l2]
 n1:l1≠i1
 n2:l2≠i2
def zM{P:Os}{w:Ox}{K:yF}{elts:!Expr}{k0:Nat}{pos:Pos}(k1 k2:Bool){z TI TO i1 i2 l1 l2:Addr}(A:ZAp z TI TO i1 i2 l1 l2) :
  PJ P w K (.Tuple elts k0 pos) (Itz K k1 k2 l1 l2) [z,TI,TO,i1,i2] z (λi h=>UT h z TI TO .none/\Qr h TI (.ref i1) (.ref i2)/\(∃a b,Qr h TO a b)/\Ps k1 h i1 l1 i/\Ps k2 h i2 l2 i) where
 mem:=by simp
 obj:=λi h st b hb=>by
  obtain⟨s1,s2,⟨a,c,s3⟩,s4,s5⟩:=st;dsimp[Kq,Ku,or_false]at hb;rcases hb with rfl|rfl|rfl|rfl|rfl;show{_,s1,λv z=>by cases z};show{_,s2,λv z=>by cases z};show{_,s3,λv z=>by cases z};show s4.get;show s5.get
 keep:=λi h h' st k=>by
  obtain⟨s1,s2,⟨a,c,s3⟩,s4,s5⟩:=st;show{k z ∅ _ s1,k TI ∅ _ s2,{a,c,k TO ∅ _ s3},s4.keep λo e=>k i1 ∅ o e,s5.keep λo e=>k i2 ∅ o e}
 item:=by
  intro X hP hw hK hc i OK s Z H E I hf st hg;subst hP hw hK;have(xs,ys,x,y,hq1,hq2,hx,hy):=hg;have(its1,rv1,p1):=I.seqK hq1;have(its2,rv2,p2):=I.seqK hq2;have(u1,hu1,ru1):=rv1.get hx;have(u2,hu2,ru2):=rv2.get hy;obtain⟨s1,s2,⟨a,c,s3⟩,s4,s5⟩:=st;have hn1:i<its1.toArray.size:=by rw[JM];show(JJ.mp hu1).1
  have hn2:i<its2.toArray.size:=by rw[JM];show(JJ.mp hu2).1
  have hh:X.A.in1.handled=VE:=I.ok.hd hc;show my (nZ (A:=X.A.in1) hh k1 i1 l1 A.n1 its1.toArray) (nZ (A:=X.A.in1) hh k2 i2 l2 A.n2 its2.toArray) s1 s2 s3 ⟨s4,p1⟩ ⟨s5,p2⟩ hn1 hn2 A.ap A.f1 A.f2 λx' y' h1 tk px py hz1 hTO1 st1 st2 hpr hsz kk=>?_;have ex:x'=u1:=by
   have e1:its1.toArray[i]?*>x':=px;have e2:its1.toArray[i]?*>u1:=by exists hu1
   rw[e1]at e2;show Ke.inj e2
  have ey:y'=u2:=by
   have e1:its2.toArray[i]?*>y':=py;have e2:its2.toArray[i]?*>u2:=by exists hu2
   rw[e1]at e2;show Ke.inj e2
  subst ex ey;show{_,Xr,wpAny_letOwnedTupleGo_zip hz1 λh2 hz2 sb=>?_};have sb':OI z h1 h2:=sb;have hzl:z<s.heap.objs.size:=Ol s1;obtain⟨a1,a2,a3,a4,a5,a6,a7,a8,a9,a10⟩:=A.ap;have k2':∀b o,b∉[z,TO,i1,i2]->s.heap.get? b*>o->h2.get? b*>o:=λb o n q=>by
   dsimp[Kq,Ku,or_false,not_or]at n;show(sb'.2 b n.1).trans (kk b o n.1 n.2.1 n.2.2.1 n.2.2.2 q)
  have I1:Inv X OK Z H {s with heap:=h2,toks:=tk}:=I.turnedL k2' λb hb=>hf b (by
   dsimp[Kq,Ku,or_false]at hb|-;rcases hb with h|h|h|h<;>simp[h])
  have fz:fZ X OK H s.heap.objs.size:=I.fpOk (JQ _) (I.hok.fresh (JQ _));have hT2:h2.get? s.heap.objs.size=VF {cls:=.type "tuple",data:=.seq #[x',y']}:=(sb'.2 _ (K7 hzl)).trans hpr;have I2:Inv X OK Z (upd H s.heap.objs.size (.tup [x,y])) {s with heap:=h2,toks:=tk}:=I1.track fz (.inr I.sz) I.sz {by change 2<=sizeLine;decide,[x',y'],.cons ru1 (.cons ru2 .nil),{_,hT2,⟨Xr,Xr⟩,_,Xr}};show{.ref s.heap.objs.size,_,I2,Xr,{_,x,y,fz.1,Xr,Xr,λys' hy'=>by rw[I.seqK_inj hy' hq1];show hx,λys' hy'=>by rw[I.seqK_inj hy' hq2];show hy},{hz2,?_,{_,_,(sb'.2 TO a2).trans hTO1},st1.1.keep λo e=>(sb'.2 i1 a6).trans e,st2.1.keep λo e=>(sb'.2 i2 a7).trans e},λb hb=>?_};show(sb'.2 TI a1).trans (kk TI _ a1 a3 a4 a5 s2)
  .have hbo:∃o,s.heap.get? b*>o:=by
    dsimp[Kq,Ku,or_false]at hb;rcases hb with rfl|rfl|rfl|rfl|rfl;show{_,s1};show{_,s2};show{_,s3};have(o,e,_):=s4.get;show⟨o,e⟩;have(o,e,_):=s5.get;show⟨o,e⟩
   have(o,q):=hbo;rw[upd_ne (J3 (Ol q))];show(hf b hb).1
 done:=by
  intro X hP hw hK hc i OK s Z H E I hf st hg;subst hP hw hK;have(xs,ys,hq1,hq2,hl):=hg;have(its1,rv1,p1):=I.seqK hq1;have(its2,rv2,p2):=I.seqK hq2;obtain⟨s1,s2,⟨a,c,s3⟩,s4,s5⟩:=st;have hh:X.A.in1.handled=VE:=I.ok.hd hc;have fin:∀h' tk,(∀c o,c≠z->c≠TO->c≠i1->c≠i2->s.heap.get? c*>o->h'.get? c*>o)->(VE:↑Od)=VE/\Inv X OK Z H {s with heap:=h',toks:=tk}:=λh' tk kk=>
   {Xr,I.turnedL (fs:=[z,TO,i1,i2]) (λb o n q=>by
    dsimp[Kq,Ku,or_false,not_or]at n;show kk b o n.1 n.2.1 n.2.2.1 n.2.2.2 q) λb hb=>hf b (by
    dsimp[Kq,Ku,or_false]at hb|-;rcases hb with h|h|h|h<;>simp[h])}
  have l1':=rv1.length;have l2':=rv2.length;by_cases h1:xs.length<=i
  .have e1:its1.toArray[i]?=VE:=by simp;omega
   show jC (wz (A:=X.A.in1) hh k1 i1 l1 its1.toArray i e1) (nZ (A:=X.A.in1) hh k2 i2 l2 A.n2 its2.toArray) s1 s2 s3 ⟨Xr,s4,p1⟩ ⟨s5,p2⟩ (.inl rfl) A.ap A.f1 A.f2 fin
  .have h2:ys.length<=i:=by omega
   have e2:its2.toArray[i]?=VE:=by simp;omega
   have hn1:i<its1.toArray.size:=by rw[JM];omega
   show jC (nZ (A:=X.A.in1) hh k1 i1 l1 A.n1 its1.toArray) (wz (A:=X.A.in1) hh k2 i2 l2 its2.toArray i e2) s1 s2 s3 ⟨s4,p1⟩ ⟨Xr,s5,p2⟩ (.inr ⟨hn1,Xr⟩) A.ap A.f1 A.f2 fin
 self:=λ_ _ _ _ _ st h=>Uc st.1 h
abbrev GP(K:yF)(i:TA):TI:=λZ H R=>i Z H λvs c=>∃e f a d h g,vs=[.ref a,.ref d]/\SqK K c e a h/\SqK K c f d g/\R (Itz K e f a d) c
def EW{X:Cx}{a b:Expr}{M:TA}{elts:!Expr}{k0:Nat}{p pos pt:Pos}(hg:Gl X "zip")(hm:X.mg "zip" = VE)(ha:PA X [a,b] M)(v:bc [a,b]=VH):PI X (.Tuple elts k0 pt) (.Call (.Name "zip" p) [a,b] [] pos) (GP X.K M):=by
 intro OK s Z H R I h;have t:br a=VG:=by
  cases q:br a with
  | true=>rw[bc,q]at v;cases v
  | false=>rfl
 have J:br b=VG:=by
  cases q:br b with
  | true=>rw[bc,t,bc,q]at v;cases v
  | false=>rfl
 show Call_ (gS I hg hm boot_zip (K6 (thn (ha pos OK s Z H _ I h) λus f ⟨vs,H1,r,r1,q1⟩=>?_) (aZ t) (by rw[aZ J];rfl)));obtain⟨k1,k2,l1,l2,xs,ys,e,y,G,q⟩:=q1;subst e;have(u,u',rfl,ru,A):=l7 r1;cases ru;cases A;have(L,rv1,U):=r.seqK y;have(O,rv2,S):=r.seqK G;have j:l1<f.heap.objs.size:=by have(o,e):=U.get;show Ol e
 have l:l2<f.heap.objs.size:=by have(o,e):=S.get;show Ol e
 show uz U S λh1 Q w x E B hsz kk=>?_;show Uc Q ?_;have i:∀c:Nat,f.heap.objs.size+c≠l1:=λc=>K7 (Kc j (K1 _ c));have g:∀c:Nat,f.heap.objs.size+c≠l2:=λc=>K7 (Kc l (K1 _ c));have N:∀{c d:Nat},c≠d->f.heap.objs.size+c≠f.heap.objs.size+d:=λh z=>h (Nat.add_left_cancel z);show{f.heap.objs.size+4,[f.heap.objs.size+4,f.heap.objs.size+2,f.heap.objs.size+3,f.heap.objs.size,f.heap.objs.size+1],_,_,H1,Xr,r.kept (t':=f.toks) λb o e=>kk b o e,zM k1 k2 {?_,?_,?_,?_,?_},{Q,w,{_,_,x},E,B},λb Y=>?_,q};show{?_,?_,?_,?_,?_,?_,?_,?_,?_,?_}<;>first|show i _|show g _|show i 0|show g 0|show J3 j|show J3 l|show λz=>absurd (show(_:Nat)=_ from z) ⋯
 .dsimp[Kq,Ku,or_false,not_or];show{{?_,?_},{?_,?_},?_,?_}<;>first|show i _|show g _|show i 0|show g 0|show J3 j|show J3 l|show λz=>absurd (show(_:Nat)=_ from z) ⋯
 .dsimp[Kq,Ku,or_false,not_or];show{{?_,?_},{?_,?_},?_,?_}<;>first|show i _|show g _|show i 0|show g 0|show J3 j|show J3 l|show λz=>absurd (show(_:Nat)=_ from z) ⋯
 .first|show i _|show g _|show i 0|show g 0|show J3 j|show J3 l|show λz=>absurd (show(_:Nat)=_ from z) ⋯
 .first|show Ot (g 1)|show i _|show g _|show i 0|show g 0|show J3 j|show J3 l|show λz=>absurd (show(_:Nat)=_ from z) ⋯
 .have m:f.heap.objs.size<=b:=by
   dsimp[Kq,Ku,or_false]at Y;rcases Y with rfl|rfl|rfl|rfl|rfl<;>first|show JQ _|show K1 _ _
  show r.fpOk m (r.hok.fresh m)
abbrev oX:T->↑(Bool×!I)
 | .im (.tup a)=>VF (VG,a)
 | .li a=>VF (VH,a)
 | _=>VE
abbrev sG(is js:!I):!R:=(is.zip js).map λp=>{.ow,.im (.tup [p.1,p.2])}
private def rD(a:MA):MI:={λO=>match a.run O with
 | some ([c,d],g)=>(match oX c.t,oX d.t with
  | some (_,e),VF (_,f)=>VF (([c,d],sG e f),g)
  | _,_=>VE)
 | _=>VE,a.mu}
def k7{K:yF}{H:Hp}{kd:Bool}{is:!I}{v:V}:∀{t:T},Rpx K H t v->oX t*>(kd,is)->∃a xs,v=.ref a/\SqK K H kd a xs/\vx K H is xs
 | .im (.tup _),r,e=>by cases e;show bX r
 | .li _,r,e=>by cases e;have(a,xs,d,c,f):=bW r;show{a,xs,d,.inl c,f}
 | .im .non,_,e=>by cases e
 | .im (.bl _),_,e=>by cases e
 | .im (.int _),_,e=>by cases e
 | .im (.str _),_,e=>by cases e
 | .im (.ls _),_,e=>by cases e
 | .im (.fd _ _),_,e=>by cases e
 | .im (.exn _ _ _),_,e=>by cases e
 | .tup _,_,e=>by cases e
 | .lst _,_,e=>by cases e
 | .di _,_,e=>by cases e
 | .dc _,_,e=>by cases e
 | .ins _ _,_,e=>by cases e
def Go{a:Gm}{B M:Bool}{f c:Addr}{h d:R}{is js:!I}(U:oX h.t*>(B,is))(e2:oX d.t*>(M,js)):iO a (Itz a.K B M f c) [.ref f,.ref c] [h,d] (sG is js):=λH O Z E S=>by
 replace S:Sim a H O Z ({VE,.ref f,h}::{VE,.ref c,d}::E):=S;have R1:Rpx a.K H h.t (.ref f):=S.rd (e:={VE,.ref f,h}) ymS;have R2:Rpx a.K H d.t (.ref c):=S.rd (e:={VE,.ref c,d}) (ymC _ ymS);have(b1,l,u,q,N):=k7 R1 U;cases u;have(b2,s,u,o,L):=k7 R2 e2;cases u;show{λi G=>{l,s,q,o,?_},λi r Y=>?_}
 .rw[N.length,L.length];unfold sG at G;rw[JK,MY]at G;omega
 .have(p,hp,rfl):=aI Y;have(v,w):=LS.mp hp;have(w1,g,m):=N.get v;have(X,j,A):=L.get w;show{⟨l,s,w1,X,q,o,g,j⟩,λx H' y=>?_};have(pp,x',y',z,rfl,rfl,hx,hy):=y;have J:=hx l q;rw[g]at J;cases J;have Q:=hy s o;rw[j]at Q;cases Q;show S.fresh (New.tup z (.cons m (.cons A (by rw[vx]))))
def BZ{K:yF}{s:TA}{a:MA}(G:fH K s a):le K (GP K s) (rD a):=by
 intro c H O Z E Rr m h M x f S q;dsimp[rD]at f q;ext f j g O1 J;ext f B Y X js y z;cases f;show G c H O Z E _ _ _ x J S λvs d i u=>?_;obtain⟨v1,v2,rfl⟩:∃v1 v2,vs=[v1,v2]:=by
  cases vs with
  | nil=>cases i
  | cons v r=>cases r with
   | nil=>cases i
   | cons w r=>cases r with
    | nil=>show⟨v,w,Xr⟩
    | cons _ _=>cases i
 have p:Sim c d M Z (⟨VE,v1,j⟩::⟨VE,v2,g⟩::ah a.mu E):=u;have Q:Rpx c.K d j.t v1:=p.rd (e:=⟨VE,v1,j⟩) ymS;have R2:Rpx c.K d g.t v2:=p.rd (e:=⟨VE,v2,g⟩) (ymC _ ymS);have(o,A,rfl,N,g2):=k7 Q y;have(l,U,rfl,L,h2):=k7 R2 z;subst x;show{B,X,o,l,A,U,Xr,N,L,q c rfl (λ_ _ _ _ S=>S) _ [.ref o,.ref l] d rfl u (Go y z)}
section
variable {ι : Type}{C:ι->Cx}{P:Os}{W:Ox}{K:yF}{mg:Str->↑Od}{base:Heap}{k:Nat}{a b:Expr}{ms:MA}{pos:Pos}
def Fg(c:CK C P W K mg base k)(T:Bi mg)(d:QA C K [a,b] ms)(e:∀i,Gl (C i) "zip" :=by intro _;rfl):QI C K (.Tuple elts k0 pt) (.Call (.Name "zip" p) [a,b] [] pos) (rD ms):=by
 have(f,q,n,r):=d;show{_,λi=>by have:=EW (X:=C i) (elts:=elts) (k0:=k0) (p:=p) (pos:=pos) (pt:=pt) (e i) (by rw[c.mg i];show T.b_zip) (q i) n;rw[c.kk i]at this;show this,BZ r}
end
def Gr(h:WA ms O λrs f=>∃a c d e is js,rs=[a,c]/\oX a.t*>(d,is)/\oX c.t*>(e,js)/\QI' [a,c] (sG is js) f):WI (rD ms) O QI':=by
 obtain⟨rs,f,i,a,c,d,e,is,js,rfl,g,j,q⟩:=h;show{_,_,_,by dsimp[rD,i,g,j],q}
section
variable {S α:Type}{O:Rho}{m:ME}{ms:MA}{g:MG}{s1:MS}{QE':R->Rho->Prop}{Q:Fl->Rho->Prop}{fr:! ↑Nat}
def zU(st:S->Rho)(emb : α->I)(P:Nat->S->!α->Prop) (h:WA ms O λrs c=>∃f d u w is js,rs=[f,d]/\oX f.t*>(u,is)/\oX d.t*>(w,js)/\min is.length js.length<sizeLine/\(dJ fr c.length&&dE (g.mu++([]++m.mu)) fr.length&&[f,d].all (az (muF fr (g.mu++([]++m.mu)))))=VH/\∃o,c=st o/\P 0 o [] /\
  (∀(j:Nat) x y s l,is[j]?*>x->js[j]?*>y->P j s l->WG g {.ow,.im (.tup [x,y])} (inR fr (st s)) λc=>WE m c λr G=>∃x i,r={.ow,.im (emb x)}/\de fr (g.mu++([]++m.mu)) G (st s)=st i/\P (j+1) i (l++[x])) /\
  ∀s l,P (min is.length js.length) s l->QE' {.ow,.li (l.map emb)} (st s)):WE (bg fr (rD ms) g mYes m) O QE':=by unhygienic
 obtain⟨rs,c,J,f,d,u,w,is,js,rfl,X,e3,N,Z,o,rfl,M,L,he⟩:=h;show o3 (Gr {_,_,J,f,d,u,w,is,js,Xr,X,e3,Z,by unfold sG;rw[JK,MY];show N,λj a O=>∃s l,a=l.map (λx=>T.im (emb x))/\O=st s/\P j s l,{o,[],Xr,Xr,M},?_,?_})
 .rintro j r a O U ⟨s,l,rfl,rfl,E⟩;have(p,Y,rfl):=aI U;have(A,B):=LS.mp Y;show WG.mono (L j p.1 p.2 s l A B E) λc q=>kr {λ_=>q.mono λr G ⟨x,i,e,H,v⟩=>{_,e,i,l++[x],by simp,H,v},λz=>by cases z}
 .rintro a O ⟨s,l,rfl,rfl,E⟩;rw[fQ];show he s l ?_;have:(sG is js).length=min is.length js.length:=by unfold sG;rw[JK,MY]
  rw[<-this];show E
end
def xE(h:tyN t*>n)(a:ns.any (ly n)=b)(q:QT1 (.im (.bl b))):W1 (fN ns t) QT1:=Hl h (by rw[a];show q)
def EC(q:QT1 (.im (.bl VG))):W1 (neT (.im (.bl a)) (.im (.bl a))) QT1:=w1 (x:=.im (.bl VG)) (by unhygienic (cases a<;>rfl)) q
end L2
namespace L2
open PySem
noncomputable section
abbrev il(rec:!T->↑T):MS:=(aq (mIf (aB (mUn (fN ["tuple","list"]) (ae 1))) (aq (mIf (mOr (aB (mOp neT (mUn (fN ["tuple"]) (ae 0)) (mUn (fN ["tuple"]) (ae 1)))) (aB (mOp neT (mUn (fN ["list"]) (ae 0)) (mUn (fN ["list"]) (ae 1))))) (bh (mC (.bl VG))) mNext)
  (bh (jx (mOp eqT (mB bG (ac 0 mNil)) (mB bG (ac 1 mNil))) (mB qN (aa (bg [VE,VE,VE,VE] (rD (ac 0 (ac 1 mNil))) (bH (ay (ag 2) (ay (ag 3) mGNil))) mYes (mB rec (ac 2 (ac 3 mNil)))) mNil))))) mNext)
  (aq (mIf (mOr (aB (mOp neT (mUn (fN ["bool"]) (ae 0)) (mUn (fN ["bool"]) (ae 1)))) (aB (mOp neT (mUn (fN ["str"]) (ae 0)) (mUn (fN ["str"]) (ae 1))))) (bh (mC (.bl VG))) mNext)
  (bh (jx (lG (mUn (fN ["tuple","list"]) (ae 0))) (mOp eqT (ae 0) (ae 1))))))
abbrev eA:Nat->!T->↑T
 | 0=>λa=>if a.length=2 then du cf 2 a else VE
 | n+1=>λa=>if a.length=2 then du (il (eA n)) 2 a else VE
end
end L2
namespace L2
open PySem PySem.Spec PyProof.Rows
section
variable {κ : Type}[DecidableEq κ]
abbrev oZ(kvs:!(κ×V)) (k : κ):↑V:=(kvs.find? λa=>decide (a.1=k)).map (·.2)
def qE{p : κ×V}{r:!(κ×V)}{k : κ}(e:p.1=k):oZ (p::r) k*>p.2:=by simp[oZ,Mm,e]
def qD{p : κ×V}{r:!(κ×V)}{k : κ}(e:¬ p.1=k):oZ (p::r) k=oZ r k:=by simp[oZ,Mm,e]
def KV.val{kvs:!(κ×V)}{vs:!(κ×Od)}(r:KV kvs vs)(k : κ):RelO (oZ kvs k) (Tf vs k):=by
 unfold KV at r
 induction r with
 | nil=>show Ry
 | @cons p q i c h t g=>
  have(d,f):=h;by_cases e:p.1=k
  .have a:q.1=k:=d.symm.trans e;have b:Tf (q::c) k*>q.2:=by simp[Tf,Mm,a]
   rw[qE e,b];show f
  .have a:¬ q.1=k:=λz=>e (d.trans z);have b:Tf (q::c) k=Tf c k:=by simp[Tf,Mm,a]
   rw[qD e,b];show g
end
def xi{P:Os}{w:Ox}{k:Key}{u:Od}(r:RelV (kV k) u):(cx P w).is k u=VH:=by
 cases k with
 | inl i=>have(t,e):=(show∃t,u=OX i t from r);subst e;show pQ P w i t
 | inr x=>have(t,e):=(show∃t,u=Tc x t from r);subst e;show pR P w x t
section
variable {P:Os}{w:Ox}{H:Hp}{h:Heap}{a:Addr}
def Ir{u:HO}(c:HOk P w H h)(e:Rd H a u):Pe P w H h a u:=e.ok c
def wy{kvs:!(Key×V)}(c:HOk P w H h)(e:Rd H a (.dK kvs)):kvs.length<=sizeLine/\(a==Sv)=VG/\∃vs,KV kvs vs/\h.DictOf (cx P w) a vs:=
 show Pe P w H h a (.dK kvs)from Ir c e
end
abbrev PF(H:Hp)(a:Addr)(y:V)(r:↑V):Prop:=∃c k,Rd H a (.dK c)/\y=kV k/\r=oZ c k
def PF.k{H:Hp}{a:Addr}{kvs:!(Key×V)}{k:Key}(e:H a*>(.dK kvs)):PF H a (kV k) (oZ kvs k):={kvs,k,.inl e,Xr,Xr}
section
variable {X:Cx}{OK:!(Addr×Obj)}{Z:St}{H:Hp}{s:Og}{a:Addr}{y v:V}{u r:Od}{o:↑V}{A:Oz}{E:Od->Og->Prop}
def Inv.big(I:Inv X OK Z H s):Sv<s.heap.objs.size:=by
 have h:Ou<s.heap.objs.size:=(I.mod.glob.keeps I.bk).lt;show Nz (by decide) h
def uB{Q:Od->Og->Prop}(x:A.units+1<P7)(I:Inv X OK Z H s)(g:PF H a y (VF v))(t:RelV y u)(h:∀c i,Inv X OK Z H i->RelV v c->Q c i) :
  Oh (Om X.prog X.w) A (Rf (.ref a) u) Q E s:=by
 have(q,k,e,j,l):=g;subst j;have(z,B,vs,f,p):=wy I.hok e;have(c,m,d):=RelO.some_of (v:=v) (o:=Tf vs k) (by rw[l];show f.val k);show wpAny_getItem_of (xi t) p.mapOf m (h c _ (I.tok _) d)
end
abbrev Dl(i:Expr):Prop:=∀c a,SQ i VG c a=operate [c,a] (Rf c a)
def B9{prog:Os}{w:Ox}{A:Oz}{E:Od->Og->Prop}{s:Og}{env:Env}{a slice:Expr}{pos:Pos}{T id:String}{Q:Od->Og->Prop}
  (p:Sz (.type T) "__getitem__" = pure (VF (.builtin id))) (hs:Dl slice)
  (h:Oh (Om prog w) A (eval a env) (λo e=>Oh (Om prog w) A (eval slice env) (λi c=>c.TypeIs o T/\Oh (Om prog w) A (Rf o i) Q E c) E e) E s) :
  Oh (Om prog w) A (eval (.Subscript a slice pos) env) Q E s:=by
 show Tr (Ov h (λo e l=>Ov l (λi c d=>?_) λ_ _ x=>x) λ_ _ x=>x);obtain⟨m,d⟩:=d;unfold Sf;show Oc ?_;rw[getitemInPython_of_ne m.not_modules];show Oc (SG m p ?_);have g:Oh (Om prog w) A (SQ slice VG o i) (λr f=>Oh (Om prog w) A (letTemporaryGo a o r >>= λ_=>pure r) Q E f) E c:=by
  rw[hs o i];show wpAny_operating (Ov d (λr f j=>Oc (wpAny_letTemporaryGo (Oe j))) λ_ _ x=>x)
 first
  | show Oe (Oc g)
  | show Oc (Oe (Oc g))
  | show Oc g
def pf{X:Cx}{c:!(Addr×Obj)}{Z:St}{H:Hp}{s:Og}{a:Addr}{y:V}{o:↑V}(I:Inv X c Z H s)(g:PF H a y o):s.TypeIs (.ref a) "dict" :=by
 have(f,k,e,_,_):=g;have(_,_,vs,_,d):=wy I.hok e;show d.typeIs
abbrev Iy(f d:TE):TE:=λZ H Q=>f Z H λx e=>d Z e λy c=>∃a v,x=.ref a/\PF c a y (VF v)/\Q v c
section
variable {X:Cx}{o i e value:Expr}{pos pos' tpos:Pos}{td ty tv:TE}
def A8(l:X.A.units+1<P7)(L:PE X o td)(w:PE X i ty)(hs:Dl i):PE X (.Subscript o i pos) (Iy td ty):=by
 intro j s Z H Q I h;show B9 PySem.F.slot_dict_getitem.lookup hs (thn (L j s Z H _ I h) λu t d=>?_);have(x,p,r,q,J):=d;show thn (w j t Z p _ r J) λM O d=>?_;have(y,m,f,G,a,v,B,g,E):=d;subst B;obtain rfl:u=Oy a:=q;show{pf f g,uB l f g G λN S z c=>⟨v,m,z,c,E⟩}
end
def mr:Sz (.type "tuple") "keys" = pure VE:=Uu (by decide +kernel)
def oz:Sz (.type "list") "keys" = pure VE:=Uu (by decide +kernel)
section
variable {prog:Os}{w:Ox}{A:Oz}{E:Od->Og->Prop}{s:Og}
def kO(q:s.heap.get? a*>o)(l:o.cls=.type "tuple" /\ o.dict=VE)(f:o.data=.seq xs k)(z:A.handled=VE)
  (h:∀h' r,(∀b t,s.heap.get? b*>t->h'.get? b*>t)->Q VE {s with heap:=h',toks:=r}):Oh (Om prog w) A (SZ (.ref a) "keys") Q E s:=by
 have(c,B,x,v):=o;obtain⟨l,u⟩:=l;simp only at l f u;subst l f u;have(y,g,d,r,os):=s;have m:∀i,(⟨y,g,d,i,os⟩:Og).TypeIs (.ref a) "tuple" :=λ_=>{_,q,Xr};have J:=Tu;have G:=QZ.lookup;have L:=QZ.bind (.ref a);have H:=am_tuple_getattr_none;unfold SZ US T9;repeat (any_goals (first|assumption|show m _|((with_reducible change Oh _ _ (call (P6 "tuple.__getattribute__") _ _) _ _ _);show P5 QZ (m _) am_entry_tuple_getattribute (F.args_tuple_getattribute_2 _ _) (meets_getattribute_miss_tuple a xs k v (Op "keys") _ mr (by decide +kernel)) ⟨q,z,λh' i e j=>?_⟩)|wp_step))
 have(N,O,M):=j.there;change Oh _ _ (Q9 _ _ _ _ _ _ _) _ _ _;unfold Q9;repeat (any_goals (first|assumption|wp_step))
 all_goals (try show h _ _ j.keeps)
def lC(q:s.heap.get? a*>o)(l:o.cls=.type "list" /\ o.dict=VE)(f:o.data=.seq xs k)(z:A.handled=VE)
  (h:∀h' r,(∀b t,s.heap.get? b*>t->h'.get? b*>t)->Q VE {s with heap:=h',toks:=r}):Oh (Om prog w) A (SZ (.ref a) "keys") Q E s:=by
 have(c,B,x,v):=o;obtain⟨l,u⟩:=l;simp only at l f u;subst l f u;have(y,g,d,r,os):=s;have m:∀i,(⟨y,g,d,i,os⟩:Og).TypeIs (.ref a) "list" :=λ_=>{_,q,Xr};have J:=Tu;have G:=Q7.lookup;have L:=Q7.bind (.ref a);have H:=am_list_getattr_none;unfold SZ US T9;repeat (any_goals (first|assumption|show m _|((with_reducible change Oh _ _ (call (P6 "list.__getattribute__") _ _) _ _ _);show P5 Q7 (m _) am_entry_list_getattribute (F.args_list_getattribute_2 _ _) (meets_getattribute_miss_list a xs k v (Op "keys") _ oz (by decide +kernel)) ⟨q,z,λh' i e j=>?_⟩)|wp_step))
 have(N,O,M):=j.there;change Oh _ _ (Q9 _ _ _ _ _ _ _) _ _ _;unfold Q9;repeat (any_goals (first|assumption|wp_step))
 all_goals (try show h _ _ j.keeps)
end
def fe:entryFor table "dict.update.loop" = VF On.«dict.update.loop»:=entryFor_of_tree (by rfl')
def fk:plainId "dict.update.loop" = VH:=by decide +kernel
abbrev ItK(kd:Bool)(h:Heap)(it l:Addr)(k:Nat):Prop:=match kd with|true=>h.IsListIter it l k|false=>h.IsTupleIter it l k
abbrev SeK(kd:Bool)(h:Heap)(l:Addr)(els:Array Od):Prop:=match kd with|true=>h.IsList l els|false=>h.IsTuple l els
abbrev sto(ps:!(Key×Od)) (kvs:!(Key×Od)):!(Key×Od):=ps.foldl (λd p=>Ta d p.1 p.2) kvs
def sf{kvs:!(Key×Od)}{k:Key}{v:Od}:(Ta kvs k v).length<=kvs.length+1:=by
 unfold Ta;split;rw[JK];omega;simp
section
variable {prog:Os}{w:Ox}
abbrev GB(w:Ox)(prog:Os)(G:Heap)(d it:Addr)(x:Od)(p:Key×Od):Prop:=∃q a,x=.ref q/\q≠d/\q≠it/\(cx prog w).is p.1 a=VH/\∃o n,G.get? q*>o/\o.cls=.type "tuple" /\ o.data=.seq #[a,p.2] n
def zP{kd:Bool}{d it l:Addr}{els:!Od}{G:Heap}{R:UF->Og->Prop}(n1:d≠it)(n2:d≠l)(n3:it≠l)(hl:SeK kd G l els.toArray) :
  ∀(m:Nat) {A:Oz} (i:Nat) (ps:!(Key×Od)) (kvs:!(Key×Od)) (s:Og),A.handled=VE->m+i=els.length->Paired (GB w prog G d it) (els.drop i) ps->ItK kd s.heap it l i->s.heap.DictOf (cx prog w) d kvs->kvs.length+m<=sizeLine ->
   (∀b o,b≠d->b≠it->G.get? b*>o->s.heap.get? b*>o) ->
   (∀h' tk,(∀b o,b≠d->b≠it->G.get? b*>o->h'.get? b*>o)->h'.DictOf (cx prog w) d (sto ps kvs)->R (.ok (.ret .none)) {s with heap:=h',toks:=tk}) ->
   Qb (Om prog w) A (.builtin "dict.update.loop" {[.ref d,.ref it,Q8 i,.none],[]}) R s:=by
 intro m
 induction m with
 | zero=>
  intro A i ps kvs s hA hm X g hd hz z q;rw[KP]at hm;subst hm;rw[Mf]at X;cases X;show Uv fe ?_;rw[Tb fk _];change Oh _ _ (Rc (.ref it) >>= _) _ _ _;have u:∀h',Ui it s.heap h'->R (.ok (.ret .none)) {s with heap:=h'}:=λh' J=>
   q h' s.toks (λb o y h e=>J b o h (z b o y h e)) (hd.extBut J n1)
  cases kd with
  | true=>
   have(E,r,j):=hl;show Oc (Rl hA g {E,z _ _ (Ot n2) (Ot n3) r,j} ∅ λh' J=>Oc (Oe (Oe (u h' J))))
  | false=>
   have(E,r,j):=hl;show Oc (Sw hA g {E,z _ _ (Ot n2) (Ot n3) r,j} ∅ λh' J=>Oc (Oe (Oe (u h' J))))
 | succ m ih=>
  intro A i ps kvs s hA hm X g hd hz z q;have hi:i<els.length:=by omega
  rw[KW hi]at X;cases X with
  | @cons x p _ ps' hx hp'=>
  obtain⟨a,Y,ex,na1,O,M,o,n,ho,hc,S⟩:=hx;have N:els[i]?*>(.ref a):=by rw[Kw hi,ex]
  show Uv fe ?_;rw[Tb fk _];change Oh _ _ (Rc (.ref it) >>= _) _ _ _;have go:∀h',ItK kd h' it l (i+1)->OI it s.heap h'->Oh (Om prog w) A.in1 (O7 [Oy a] (do
    let L <-(SD (.ref a)).tryCatch λe=>do
     if  ~~~(<-R3 e (.type "TypeError"))then throw e
     rule "dict.update.element-no-sequence"
     raiseError "TypeError" s!"cannot convert dictionary update sequence element #{(i : Int)} to a sequence"
    match L with
    | [k,v]=>O7 [k,v] (dictSet d k v)
    | l=>
     rule "dict.update.element-length"
     raiseError "ValueError" s!"dictionary update sequence element #{(i : Int)} has length {l.length}; 2 is required") >>= λ_=>again (.builtin "dict.update.loop" {[.ref d,.ref it,Q8 ((i:Int)+1),.none],[]}))
    (λu Z=>match u with|.done f=>R (.ok f) Z|.again c'=>c'.quiet=VH/\Qb (Om prog w) A c' R Z) (λe Z=>R (.error e) Z) {s with heap:=h'}:=λh' c H=>by
   have Q:h'.get? a*>o:=(H.2 a O).trans (z a o na1 O ho);show Oc (OA (Oc (wpAny_tryCatch ?_)));unfold SD;show Oc (Ql (T:="tuple") ⟨o,Q,hc⟩ ?_);rw[if_pos (by rfl)];show Oc (PX Q S (Oe ?_));change Oh _ _ (O7 [Y,p.2] (dictSet d Y p.2)) _ _ _;show OA (wpAny_dictSet_pairs (hsz:=by omega) M (hd.sameBut H n1) λh2 hd2 B=>?_);show Oe {Qx _ (by decide +kernel),?_};have U:ItK kd h2 it l (i+1):=by
    cases kd with
    | true=>have(oi,r,j):=c;show{oi,(B.2 it (Ot n1)).trans r,j}
    | false=>have(oi,r,j):=c;show{oi,(B.2 it (Ot n1)).trans r,j}
   have:=ih (A:=A) (i+1) ps' _ {s with heap:=h2,toks:=s.toks+1} hA ⋯ hp' U hd2 (by have:=sf (kvs:=kvs) (k:=p.1) (v:=p.2);omega) (λb ob y h e=>(B.2 b y).trans ((H.2 b h).trans (z b ob y h e))) λh3 tk k3 d3=>q h3 tk k3 d3;show this
  cases kd with
  | true=>
   have(E,r,j):=hl;show Oc (Re g {E,z _ _ (Ot n2) (Ot n3) r,j} (x:=.ref a) (by exists N) λh' c H=>go h' c H)
  | false=>
   have(E,r,j):=hl;show Oc (Sj g {E,z _ _ (Ot n2) (Ot n3) r,j} (x:=.ref a) (by exists N) λh' c H=>go h' c H)
end
def nC:∀(ps kvs:!(Key×Od)),((kvs++ps).map (·.1)).Nodup->sto ps kvs=kvs++ps
 | [],kvs,_=>by simp[sto]
 | p::ps,kvs,h=>by
  have d:kvs.any (λa=>decide (a.1=p.1))=VG:=by
   rw[Nr];intro a c;rw[JZ,JP]at h;have:=h.2.2 a.1 (JS.mpr ⟨a,c,Xr⟩) p.1 ∅;exists this
  have e:Ta kvs p.1 p.2=kvs++[p]:=by unfold Ta;rw[d];rfl
  have:=nC ps (kvs++[p]) (by rw[Ka];show h);rw[show sto (p::ps) kvs=sto ps (Ta kvs p.1 p.2)from rfl,e,this,Ka];rfl
section
variable {X:Cx}{OK:!(Addr×Obj)}{Z:St}{H:Hp}{s:Og}{a:Addr}{xs:!V}
def Inv.tupleN(I:Inv X OK Z H s)(h:SqT X.K H a xs):∃c:!Od,Vals xs c/\Pq s.heap a c.toArray/\xs.length<=sizeLine:=by
 rcases h with h|⟨o,c,n,d,g,f,i,r⟩
 .have(z,c,r,p):=h.ok I.hok;show⟨c,r,p,z⟩
 .show{c.toList,r,{o,I.kIn a o d,g,n,by simpa using f},?_};have e:=r.length;dsimp[KY]at e;omega
end
abbrev PrV(K:yF)(H:Hp)(y:V)(q:Key×V):Prop:=∃t,y=.ref t/\SqT K H t [kV q.1,q.2]
abbrev t5(K:yF):!V->Hp->VK->Prop:=λd H Q=>∃p a c,d=[.ref p]/\(SqL K H p a\/SqT K H p a)/\Paired (PrV K H) a c/\(c.map (·.1)).Nodup/\∀l,H l=VE->Q (.ref l) (upd H l (.dK c))
section
variable {X:Cx}{OK:!(Addr×Obj)}{Z:St}{H:Hp}{s:Og}
def EY(I:Inv X OK Z H s){G:Heap}(B:∀b o,s.heap.get? b*>o->G.get? b*>o){d it:Addr}(x:s.heap.objs.size<=d)(m:s.heap.objs.size<=it):∀{g:!V} {ps:!(Key×V)} {us:!Od},Paired (PrV X.K H) g ps->Vals g us ->
  ∃c:!(Key×Od),Paired (GB X.w X.prog G d it) us c/\KV ps c
 :=by
 intro g ps us l a
 induction l generalizing us with
 | nil=>cases a;show{[],.nil,.nil}
 | @cons y p _ _ h l J=>
   cases a with
   | @cons _ u _ _ r a=>
  have(c,q,z):=J a;have(t,e,h):=h;subst e;have A:u=Oy t:=r;obtain⟨v,i,⟨o,j,L,n,M⟩,_⟩:=I.tupleN h;cases i with
  | cons i f=>cases f with
   | cons f E=>
    cases E;have lt:=Ol j;show{(p.1,_)::c,.cons {t,_,A,J3 (Kc lt x),J3 (Kc lt m),xi i,o,n,B _ _ j,L.1,M} q,.cons ⟨Xr,f⟩ z}
def D4{ps:!(Key×V)}{a:!(Key×Od)}(h:KV ps a):ps.map (·.1)=a.map (·.1):=by
 induction h with
 | nil=>rfl
 | cons h _ c=>rw[JN,JN,h.1,c]
def nQ(hc:X.calm=VH):Pi X (.type "dict") (t5 X.K):=by
 intro OK s Z H xs us Q I r h;have(p,ys,ps,rfl,L,hp,hn,q):=h;have(u,rfl,rx):=iN r;cases rx;have hA:=I.ok.hd hc;have src:∃(y:Bool) (c:!Od) (o:Obj) (n:Nat),s.heap.get? p*>o/\(o.cls=.type (if y then "list" else "tuple")/\o.dict=VE)/\o.data=.seq c.toArray n/\Vals ys c/\ys.length<=sizeLine:=by
  rcases L with L|L
  .obtain⟨E,r',⟨o,n,g,j,t,e4⟩,U⟩:=I.list L;show{VH,E,o,n,g,⟨j,t⟩,e4,r',U}
  .obtain⟨E,r',⟨o,g,j,n,t⟩,U⟩:=I.tupleN L;show⟨VG,E,o,n,g,j,t,r',U⟩
 have(y,c,o,n,g,j,t,rv,U):=src;have hlen:ys.length=c.length:=rv.length;show callType_codes (Q₁:=λN B=>N=.ref s.heap.objs.size/\B={s with heap:=s.heap.push {cls:=.type "dict",data:=.dict #[]}}) F.kt_called_dict (F.kt_typeCall_dict_1 _) F.entry_dict_init (kt_code_dict_new _ ⟨Xr,Xr⟩) ?_;rintro N B ⟨rfl,rfl⟩;have a:(s.heap.push {cls:=.type "dict",data:=.dict #[]}).DictOf (cx X.prog X.w) s.heap.objs.size []:=VD s.heap;have m:∀b f,s.heap.get? b*>f->(s.heap.push {cls:=.type "dict",data:=.dict #[]}).get? b*>f:=λb f e=>Of _ e;have sz1:(s.heap.push {cls:=.type "dict",data:=.dict #[]}).objs.size=s.heap.objs.size+1:=OW _ _;generalize s.heap.push {cls:=.type "dict",data:=.dict #[]}=h1 at a m sz1|-;show{a.typeIs,F.args_dict_init_2 _ _,?_};unfold On.«dict.__init__»;show Oc ?_;unfold UV;show Oc (wpAny_notOrdered_dict a.typeIs ?_);change Oh _ _ (pure (s.heap.objs.size,[Oy p])) _ _ _;show Oe ?_;change Oh _ _ (Ss "dict.__init__" s.heap.objs.size (.ref p) [] .none) _ _ _;unfold Ss;have Y:X.A.in1.in1.handled=VE:=hA;have z:∀(x:Heap) (J:Nat) (it:Addr),(∀b f,h1.get? b*>f->x.get? b*>f)->s.heap.objs.size<it->ItK y x it p 0 ->
   Qb (Om X.prog X.w) X.A.in1 (.builtin "dict.update.loop" {[.ref s.heap.objs.size,.ref it,Q8 0,.none],[]}) (wants (λr M=>r=.none/\EP X OK Z Q (.ref s.heap.objs.size) M) X.xe) {s with heap:=x,toks:=J}:=by
  intro x J it i v hI;have(qs,p1,p2):=EY I (G:=x) (λb f e=>i b f (m b f e)) (d:=s.heap.objs.size) (it:=it) (JQ _) (Mn v) hp rv;have lp:=Ol g;have sl:SeK y x p c.toArray:=by
   cases y with
   | true=>show{o,i _ _ (m _ _ g),j.1,n,t}
   | false=>show{o,i _ _ (m _ _ g),j.1,n,t}
  show zP (G:=x) (kd:=y) (els:=c) (l:=p) (J3 v) (K7 lp) (K7 (Nz lp v)) sl c.length 0 qs [] _ Y ⋯ (by exists p1) hI ?_ (by simp;omega) (λ_ _ _ _ e=>e) λh3 tk3 k3 d3=>?_
  .have(od,es,ep,S,f2):=a;show{od,es,ep,i _ _ S,f2}
  .rw[nC _ _ (by rw[KT,<-D4 p2];show hn),KT]at d3;show{Xr,.ref s.heap.objs.size,_,I.laid (t':=tk3) (λb f e=>?_) (JQ _) (show Pe X.prog X.w _ h3 _ (.dK ps)from{?_,?_,qs,p2,d3}),Xr,q _ (I.hok.fresh (JQ _))}
   .have lb:=Ol e;show k3 b f (J3 lb) (J3 (Nz lb v)) (i b f (m b f e))
   .have:=hp.length;omega
   .show beq_eq_false_iff_ne.mpr (Ot (J3 I.big))
 cases y with
 | true=>
  show Oc (Ql (T:="list") {o,m _ _ g,j.1} ?_);rw[if_pos (by decide)];show Oc (lC (m _ _ g) j t Y λx J i=>?_);rw[if_pos (by rfl)];show Oc (Qt (Oc (QH {o,i _ _ (m _ _ g),j.1,n,t} ?_)));show Oe {Qx _ (by decide +kernel),?_};show z _ J _ (λb f e=>Of _ (i b f e)) (by have(_,_,_,S,_):=a;show Ol (i _ _ S)) {_,Oq _ rfl,Xr,Xr}
 | false=>
  show Oc (Ql (T:="tuple") {o,m _ _ g,j.1} ?_);rw[if_pos (by decide)];show Oc (kO (m _ _ g) j t Y λx J i=>?_);rw[if_pos (by rfl)];show Oc (Qt (Oc (RV {o,i _ _ (m _ _ g),j.1,n,t} ?_)));show Oe {Qx _ (by decide +kernel),?_};show z _ J _ (λb f e=>Of _ (i b f e)) (by have(_,_,_,S,_):=a;show Ol (i _ _ S)) {_,Oq _ rfl,Xr,Xr}
end
abbrev pG(i:I):↑Key:=match i with
 | .int n=>VF (.inl n)
 | .str x=>VF (.inr x)
 | _=>VE
abbrev pr1(i:I):↑(Key×I):=match i with
 | .tup a=>(match a with
  | []=>VE
  | k::r=>(match r with
   | []=>VE
   | v::c=>(match c with
    | []=>(pG k).map λq=>(q,v)
    | _::_=>VE)))
 | _=>VE
abbrev vm:!I->Option !(Key×I)
 | []=>VF []
 | i::a=>match pr1 i with
  | some p=>(vm a).map (p :: ·)
  | none=>VE
abbrev wx(is:!I):↑T:=match vm is with
 | some l=>if(l.map (·.1)).Nodup then VF (.di (l.map λp=>(gb p.1,p.2)))else VE
 | none=>VE
abbrev Iv(g:!I->↑T) (t:T):↑T:=match t with
 | .im i=>(match i with
  | .tup a=>g a
  | _=>VE)
 | .li a=>g a
 | _=>VE
private def pe:!T->↑T:=l1 (Iv wx)
section
variable {K:yF}{H:Hp}
def ju(e:pG i*>q):i=gb q:=by
 unfold pG at e;split at e<;>cases e<;>rfl
def oy(e:pG i*>q)(r:RpI K H i x):x=kV q:=by
 rw[ju e]at r;cases q<;>(rw[gb,RpI]at r;show r)
def EX(e:pr1 i*>p)(r:RpI K H i x):∃w,PrV K H x (p.1,w)/\RpI K H p.2 w:=by
 unfold pr1 at e;ext e;split at e;cases e
 .split at e;cases e
  .ext e;rename_i k _ v _ _;have(q,f,h):=KA.mp e;cases h;rw[RpI]at r;have(a,l,rfl,d,c):=r;rw[vx]at c;have(y,m,rfl,j,c):=c;rw[vx]at c;have(z,o,rfl,g,c):=c;rw[vx]at c;subst c;rw[oy f j]at d;show{z,⟨a,Xr,d⟩,g}
def tO:∀{is:!I} {l:!(Key×I)} {xs:!V},vm is*>l->vx K H is xs->∃ps:!(Key×V),Paired (PrV K H) xs ps/\ps.map (·.1)=l.map (·.1)/\vx K H (l.map (·.2)) (ps.map (·.2))
 | [],_,_,e,r=>by
  cases e;rw[vx]at r;subst r;show{[],.nil,Xr,by rw[Lv,vx];rfl}
 | i::is,l,xs,e,r=>by
  rw[vx]at r;have(x,xs,rfl,j,d):=r;rw[vm]at e;ext e p f;have(q,m,rfl):=KA.mp e;have(w,h,a):=EX f j;have(ps,c,o,g):=tO m d;show{(p.1,w)::ps,.cons h c,by rw[JN,JN,o],?_};rw[JN,JN,vx];show{w,_,Xr,a,g}
def New.di(hp:H p=VE)(d:ps.map (λq=>gb q.1)=kvs.map (·.1))(h:vx K H (kvs.map (·.2)) (ps.map (·.2))):New K H (upd H p (.dK ps)) (.di kvs) (.ref p):=by
 show{Pk.laid hp,[p],?_,by simp,λa c=>?_}
 .rw[Rp];show{p,ps.map (λq=>(gb q.1,q.2)),Xr,⟨ps,ao,Xr⟩,?_,?_,Xr}
  .have:(ps.map (λq=>(gb q.1,q.2))).map (·.2)=ps.map (·.2):=by rw[Kr];rfl
   rw[this];show h.same (Pk.laid hp)
  .rw[Kr,<-d];rfl
 .cases ysM c;show{hp,_,ao,Xr}
def sT(e:wx is*>t)(r:vx K H is xs)(hs:SqL K H p xs\/SqT K H p xs)(q:∀v H',New K H H' t v->Q v H'):t5 K [.ref p] H Q:=by
 unfold wx at e;ext e l h;ext e f;cases e;have(i,c,a,d):=tO h r;show{p,xs,i,Xr,hs,c,by rw[a];show f,λj g=>q _ _ (.di g ?_ ?_)}
 .rw[Kr];have:=congrArg (List.map gb) a;rw[Kr,Kr]at this;show this
 .rw[Kr];show d
def vg:gM K (t5 K) pe:=by
 intro H vs h t Q r e q;unfold pe at e;have g:=eD e;clear e;have(x,rfl,e):=g;have(v,rfl,d):=mD r;unfold Iv at e;split at e
 .ext e;have(p,f,rfl,c,a):=bX d;show sT e a (.inr c) q
 .have(p,f,rfl,c,a):=bW d;show sT e a (.inl (aQ c)) q
 .cases e
def b_dict:wd "dict" pe:={_,t5,N4,λ_ h=>nQ h,λ_=>vg}
abbrev jn:!(I×I)->I->↑I
 | [],_=>VE
 | p::r,k=>if p.1=k then VF p.2 else jn r k
abbrev dg1(kvs:!(I×I)) (k:I):↑T:=match pG k with
 | some _=>(jn kvs k).map T.im
 | none=>VE
private def dgT(t u:T):↑T:=match t with
 | .di a=>(match u with
  | .im k=>dg1 a k
  | _=>VE)
 | _=>VE
abbrev dgR:R2:=λx y H Q=>∃a v,x=.ref a/\PF H a y (VF v)/\Q v H
def pH(h:gb a=gb b):a=b:=by cases a<;>cases b<;>(unfold gb at h;cases h)<;>rfl
def ph:∀{kvs:!(I×I)} {zs:!(Key×V)},jn kvs (gb q)*>v->zs.map (λz=>gb z.1)=kvs.map (·.1)->vx K H (kvs.map (·.2)) (zs.map (·.2))->∃w,oZ zs q*>w/\RpI K H v w
 | [],_,e,_,_=>by cases e
 | p::r,zs,e,a,d=>by
  cases zs with
  | nil=>cases a
  | cons z zs=>
   rw[JN,JN,Lp.injEq]at a;rw[JN,JN,vx]at d;have(x,l,f,i,g):=d;rw[Lp.injEq]at f;have(rfl,rfl):=f;rw[jn]at e;split at e
   .delta c;cases e;show{z.2,qE (pH (a.1.trans c)),i}
   .delta c;have(w,j,h):=ph e a.2 g;show{w,by rw[qD λe=>c (by rw[<-a.1,e])];show j,h}
def Bl:eC K dgR dgT:=by
 intro H x y r u t Q c j e q;unfold dgT at e;ext e;ext e;unfold dg1 at e;ext e;rename_i m k _ z f;have(v,h,rfl):=KA.mp e;obtain⟨F,c⟩:=c;rw[Rp]at c;obtain⟨a,p,rfl,⟨s,i,rfl⟩,g,d,_⟩:=c;rw[Kr]at g d;rw[oy f (cu j)];rw[ju f]at h;have(w,o,l):=ph h d g;show{a,w,Xr,?_,q _ _ (.im l)};rw[<-o];show PF.k i
end
section
variable {ι : Type}{C:ι->Cx}{P:Os}{W:Ox}{K:yF}{mg:Str->↑Od}{base:Heap}{k:Nat}{a b:Expr}{ma mb:ME}{pos:Pos}
def HH(c:CK C P W K mg base k)(d:QE C K a ma)(f:QE C K b mb)(hs:Dl b:=by intro _ _;rfl):QE C K (.Subscript a b pos) (mOp dgT ma mb):=by
 have(j,p,r):=d;have(h,g,e):=f;show{_,λi=>A8 (GN (c.room i)) (p i) (g i) hs,kf (red:=dgR) Bl r e}
end
section
variable {X:Cx}{OK:!(Addr×Obj)}{Z:St}{H:Hp}{s:Og}
def Inv.frz(I:Inv X OK Z H s)(h:H a*>(.lst xs)):∃o,Inv X OK Z (upd H a (.frz o (.lst xs))) s:=by
 have(z,c,n,r,e):=(show Pe X.prog X.w H s.heap a (.lst xs)from I.hok a _ h);show{_,I.write (t':=s.toks) (h':=s.heap) (by rw[h];show Ry) (.inl rfl) (λb u _ q=>q) {_,e} ⟨e,z,c,n,r,e⟩}
abbrev IB(t:TE):TE:=λZ H Q=>t Z H λv d=>∃a c,v=.ref a/\d a*>(.lst c)/\∀o,Q v (upd d a (.frz o (.lst c)))
def EM(h:PE X e t):PE X e (IB t):=by
 intro OK s Z H Q I q;show thn (h OK s Z H _ I q) λu p i=>?_;have(v,m,g,d,a,l,r,f,j):=i;have(o,c):=g.frz f;show{v,_,c,d,j o}
end
abbrev DJ(r:R):↑I:=match r.k with
 | .ow=>(match r.t with
  | .li a=>VF (.ls a)
  | _=>VE)
 | _=>VE
def wV(h:DJ r*>i):∃is,r={.ow,.li is}/\i=.ls is:=by
 have(k,t):=r;unfold DJ at h;dsimp only at h;ext h;split at h;cases h;show{_,Xr,Xr};cases h
private def AM(a:ME):ME:={λO=>match a.run O with
 | some (r,c)=>(match DJ r with
  | some i=>VF ({.ow,.im i},c)
  | none=>VE)
 | none=>VE,a.mu}
section
variable {K:yF}
def G4(h:Rd H a (.lst xs))(m:Mu H a):H a*>(.lst xs):=by
 rcases h with h|⟨o,h⟩;show h
 .have(u,e,z):=m;rw[h]at e;cases e;cases z
def BJ(s:be K ta a):be K (IB ta) (AM a):=by unhygienic
 intro p H O Z E Q r U z d S q;dsimp[AM]at d;ext d ra N t;ext d i A;cases d;have(m,rfl,rfl):=wV A;show s p H O Z E _ _ _ z t S λx X v=>?_;have(F,j,Y,f,k):=Sim.use (vs:=[x]) (ts:=[.li m]) v rfl;rw[Rps]at j;have(y,r,J,L,G,h,l,rfl):=j;cases G;rw[Rps]at l;have(_,rfl):=l;rw[Rp]at h;have(b,g,rfl,u,w,rfl):=h;have B:=G4 u (f b ∅);show{b,g,Xr,B,λo=>q _ _ (k _ _ _ [] ?_ ?_ KS ∅ (dF ?_))};show Pd.upd.mono ∅
 .intro c e;have:c=b:=by exists e
  subst this;show{_,ao}
 .rw[RpI];show{b,o,g,Xr,ao,?_};show vx.off (M:=[b]) Pd.upd (λc e=>by rw[ysM e];show f _ ∅) w
end
section
variable {ι : Type}{C:ι->Cx}{P:Os}{W:Ox}{K:yF}{mg:Str->↑Od}{base:Heap}{k:Nat}{a b:Expr}{ma mb:ME}{pos:Pos}
def HJ(c:QE C K a ma):QE C K a (AM ma):=by
 have(d,p,r):=c;show{_,λi=>EM (p i),BJ r}
end
end L2
namespace L2
open PySem
noncomputable section
abbrev dP(rec:!T->↑T):MS:=(aq (mIf (aB (mOp eqT (mIx (ae 0) (mC (.int 0))) (mC (.str "num")))) (bh (aU [] mNil)) mNext)
  (aq (mIf (aB (mOp eqT (mIx (ae 0) (mC (.int 0))) (mC (.str "at")))) (bh (aU [] (aa (ar [] (aa (mIx (ae 0) (mC (.int 1))) (aa (mIx (ae 0) (mC (.int 2))) mNil))) mNil))) mNext)
  (aq (aC (aU [] mNil) (ag 1))
  (aq (cr (mIt (mSl (ae 0) (ff (mOp aW (mC (.int 1)) (mB pE (aa (mOp eqT (mIx (ae 0) (mC (.int 0))) (mC (.str "op"))) mNil)))) mNoPart)) (ag 2)
  (bS [2] (bD (dm 1 [] oe (ae 1) (aa (mB rec (ac 2 mNil)) mNil)))))
  (bh (ae 1))))))
abbrev cQ:Nat->!T->↑T
 | 0=>λa=>if a.length=1 then du cf 3 a else VE
 | n+1=>λa=>if a.length=1 then du (dP (cQ n)) 3 a else VE
abbrev iw:MS:=(aq (aC (aU [] mNil) (ag 1))
  (aq (cr (mIt (mIx (ae 0) (mC (.int 2)))) (bH (ay (ag 2) (ay (ag 3) mGNil)))
  (bS [2,3,4,5] (cr (mIt (mB (cQ 24) (ac 3 mNil))) (bH (ay (ag 4) (ay (ag 5) mGNil)))
  (bS [4,5] (mIf (aB (mOp pT (ar [2,4,5] (ac 2 (ac 4 (ac 5 mNil)))) (ae 1))) (bD (dm 1 [] apT (ae 1) (aa (ar [2,4,5] (ac 2 (ac 4 (ac 5 mNil)))) mNil))) mNext)))))
  (bh (ae 1))))
abbrev iF(ts:!T):↑T:=if ts.length=1 then du iw 6 ts else VE
end
end L2
namespace L2
open PySem PySem.Spec PyProof.Rows
section
variable {κ : Type}[DecidableEq κ]
abbrev cz{a:Type}:!(κ × a)->κ->a->!(κ × a)
 | [],k,v=>[(k,v)]
 | p::r,k,v=>if p.1=k then(p.1,v)::r else p::cz r k v
def tI:∀{vs:!(κ×Od)},k∉vs.map (·.1)->vs.map (λa=>if a.1=k then(a.1,u)else a)=vs
 | [],_=>rfl
 | p::r,h=>by
  rw[JN,Kq,not_or]at h;rw[JN,if_neg (λz=>h.1 z.symm),tI h.2]
def nE(k : κ)(u:Od):∀{vs:!(κ×Od)},(vs.map (·.1)).Nodup->Ta vs k u=cz vs k u
 | [],_=>by simp[Ta,cz]
 | p::r,h=>by
  rw[JN,Ks]at h;have a:=nE k u h.2;have(c,t):=p;unfold Ta at a|-;rw[cz];by_cases e:c=k
  .subst e;rw[if_pos ∅,if_pos rfl,JN,if_pos rfl,tI h.1]
  .rw[if_neg e,<-a,Mg];dsimp[decide_eq_false e,Nl,JN,if_neg e,Kn];split<;>rfl
def KV.put{k : κ}{y:V}{u:Od}(c:RelV y u){kvs:!(κ×V)}{vs:!(κ×Od)}(h:KV kvs vs):KV (cz kvs k y) (cz vs k u):=by
 induction h with
 | nil=>show .cons ⟨Xr,c⟩ .nil
 | @cons p q _ _ h t f=>
  have(a,g):=p;have(d,i):=q;have e:a=d:=h.1;subst e;rw[cz,cz];by_cases e:a=k;rw[if_pos e,if_pos e];show .cons ⟨Xr,c⟩ t;rw[if_neg e,if_neg e];show .cons h f
end
abbrev C7:Aj:=λo i v H Q=>∃a c k,o=.ref a/\i=kV k/\H a*>(.dK c)/\(cz c k v).length<=sizeLine/\Q (upd H a (.dK (cz c k v)))
def zx{X:Cx}:Dm X C7:=by
 intro M s Z H o i v N L u Q I E t y h;have(a,d,k,rfl,rfl,e,B,q):=h;cases E;have(z,r,vs,f,g):=(show Pe X.prog X.w H s.heap a (.dK d)from I.hok a _ e);have A:vs.length<=sizeLine:=by have:=Paired.length f;omega
 show wpAny_setItem_pairs (hsz:=A) (xi t) g λj c p=>{_,?_,q};have G:∃q,j.get? a*>q:=by have(q,_,_,m,_):=c;show⟨q,m⟩
 show I.write (x:=a) (e:=a) (t':=s.toks+1) (by rw[e];show Ry) (.inl rfl) (λb q J z=>(p.2 b J).trans z) G (show Pe X.prog X.w _ j a (.dK (cz d k v))from{B,r,_,KV.put y f,by rw[nE k u (by have(_,_,_,_,_,_,_,_,l):=g;show l)]at c;show c})
abbrev kPD:Key->Qc
 | .inl i=>.int i
 | .inr x=>.str x
mutual
noncomputable def I.pd:I->Qc
 | .non=>.none|.bl b=>.bool b|.int i=>.int i|.str x=>.str x|.tup is=>.tuple (I.pds is)|.ls is=>.list (I.pds is)|.fd ks is=>.dict ((ks.map kPD).zip (I.pds is))|.exn _ _ _=>.none
noncomputable def I.pds:!I->!Qc
 | []=>[]
 | i::is=>i.pd::I.pds is
end
mutual
noncomputable def I.lay:I->Bool
 | .fd _ _=>VG|.exn _ _ _=>VG|.tup is=>I.lays is|.ls is=>I.lays is|.str x=>Qc.strOk x|.non=>VH|.bl _=>VH|.int _=>VH
noncomputable def I.lays:!I->Bool
 | []=>VH
 | i::is=>i.lay&&I.lays is
end
mutual
theorem tH:∀i:I,i.lay=VH->i.pd.canLay0=VH
 | .non,_=>by rw[I.pd,Qi]
 | .bl _,_=>by rw[I.pd,Qi]
 | .int _,_=>by rw[I.pd,Qi]
 | .str x,h=>by rw[I.pd,Qi];rw[I.lay]at h;show h
 | .tup a,h=>by rw[I.pd,Qi];rw[I.lay]at h;show jv a h
 | .ls a,h=>by rw[I.pd,Qi];rw[I.lay]at h;show jv a h
theorem jv:∀is:!I,I.lays is=VH->Sc (I.pds is)=VH
 | [],_=>by rw[I.pds,Sc]
 | i::is,h=>by
  rw[I.lays,JL]at h;rw[I.pds,Sc,tH i h.1,jv is h.2];rfl
end
section
section
variable {X:Cx}{OK:!(Addr×Obj)}{Z:St}{H:Hp}{s:Og}
mutual
theorem t7(J:Inv X OK Z H s):∀(i:I) {v:V} {u:Od},i.lay=VH->RpI X.K H i v->RelV v u->∃g,Reads s.heap u i.pd g
 | .non,_,_,_,r,q=>by rw[RpI]at r;subst r;cases q;show{_,.none}
 | .bl b,_,_,_,r,q=>by rw[RpI]at r;subst r;cases q;show{_,.bool b}
 | .int i,_,_,_,r,q=>by rw[RpI]at r;subst r;have(t,rfl):=q;show{_,.int i t}
 | .str x,_,_,_,r,q=>by rw[RpI]at r;subst r;have(t,rfl):=q;show{_,.str x t}
 | .tup h,_,_,f,r,q=>by
  rw[RpI]at r;have(a,j,rfl,p,l):=r;cases q;obtain⟨w,m,⟨o,e,c,n,d⟩,_⟩:=J.tuple p;have(g,y):=jK J h (by rw[I.lay]at f;show f) l m;show{g,.tuple e c d y}
 | .ls h,_,_,f,r,q=>by
  rw[RpI]at r;have(a,o,j,rfl,p,l):=r;cases q;obtain⟨w,m,⟨o,n,e,c,_,d⟩,_⟩:=J.list (a:=a) (xs:=j) (.inl (.inr ⟨o,p⟩));have(g,y):=jK J h (by rw[I.lay]at f;show f) l m;show⟨a::g,.list e c d y⟩
 | .exn _ _ _,_,_,f,_,_=>by cases f
 | .fd _ _,_,_,f,_,_=>by cases f
theorem jK(J:Inv X OK Z H s):∀(is:!I) {vs:!V} {us:!Od},I.lays is=VH->vx X.K H is vs->Vals vs us->∃c,ReadsAll s.heap us (I.pds is) c
 | [],_,_,_,r,q=>by rw[vx]at r;subst r;cases q;show{[],.nil}
 | i::is,_,_,a,r,q=>by
  rw[vx]at r;have(x,m,rfl,f,d):=r;cases q with
  | cons j g=>
   have(c,h):=t7 J i (LQ.mp (by rw[I.lays]at a;show a)).1 f j;have(e,l):=jK J is (LQ.mp (by rw[I.lays]at a;show a)).2 d g;show{c++e,.cons h l}
end
abbrev PN(K:yF)(H:Hp)(x:V)(d:Qc):Prop:=(∃i:I,i.lay=VH/\RpI K H i x/\d=i.pd) \/ ∃(a:Addr) (e:!V) (c:!I),x=.ref a/\Rd H a (.lst e)/\vx K H c e/\I.lays c=VH/\d=.list (I.pds c)
def PN.reads(J:Inv X OK Z H s)(h:PN X.K H x d)(r:RelV x u):∃f,Reads s.heap u d f/\d.canLay0=VH:=by
 rcases h with⟨i,j,l,rfl⟩|⟨a,p,m,rfl,j,l,q,rfl⟩
 .have(f,g):=t7 J i j l r;show{f,g,tH i j}
 .cases r;obtain⟨v,t,⟨o,n,e,c,_,d⟩,_⟩:=J.list (a:=a) (xs:=p) (.inl j);have(f,w):=jK J m q l t;show⟨a::f,.list e c d w,by rw[Qi];show jv m q⟩
end
end
private def keysT:!T->↑T:=l1 λt=>match t with
 | .di a=>VF (.li (a.map (·.1)))
 | _=>VE
abbrev Cy:!Key->!I->Key->↑I
 | k::c,i::a,q=>if k=q then VF i else Cy c a q
 | _,_,_=>VE
private def fdgT(t u:T):↑T:=match t with
 | .im i=>(match i with
  | .fd c a=>(match u with
   | .im k=>(match pG k with
    | some q=>(Cy c a q).map T.im
    | none=>VE)
   | _=>VE)
  | _=>VE)
 | _=>VE
abbrev Cv(kvs:!(I×I)) (k v:I):↑T:=match pG k with
 | some _=>if(cz kvs k v).length<=sizeLine then VF (.di (cz kvs k v))else VE
 | none=>VE
abbrev sV(s k v:T):↑T:=match s with
 | .di a=>(match k with
  | .im c=>(match v with
   | .im vi=>Cv a c vi
   | _=>VE)
  | _=>VE)
 | _=>VE
private def kC(j:Nat)(o i:ME):MG:={λr O=>match r with
 | ⟨.ow,d⟩=>match o.run O with
  | some (⟨.vw (VF g) (VF p),s⟩,e)=>match i.run e with
   | some (c,a)=>if(decide (g=j) &&  ~~~i.mu.contains j)=VH then(match sV s c.t d with
    | some f=>(match a[j]? with
     | some (VF ⟨k,t⟩)=>if k.isOw=VH then VF ((au [j] a).set j (VF {k,t.put p f}))else VE
     | _=>VE)
    | none=>VE)else VE
   | none=>VE
  | _=>VE
 | _=>VE,(o.mu++i.mu)++[j]}
section
variable {K:yF}{H:Hp}
def tT(d:RpI K H vi w):∀{kvs:!(I×I)} {zs:!(Key×V)},zs.map (λz=>gb z.1)=kvs.map (·.1)->vx K H (kvs.map (·.2)) (zs.map (·.2)) ->
  (cz zs q w).map (λz=>gb z.1)=(cz kvs (gb q) vi).map (·.1)/\vx K H ((cz kvs (gb q) vi).map (·.2)) ((cz zs q w).map (·.2))
 | [],zs,a,c=>by
  have:zs=[]:=by cases zs with|nil=>rfl|cons _ _=>cases a
  subst this;show{Xr,by change vx K H [vi] [w];rw[vx];show{w,[],Xr,d,by rw[vx]}}
 | p::r,zs,a,c=>by
  cases zs with
  | nil=>cases a
  | cons z zs=>
   rw[JN,JN,Lp.injEq]at a;rw[JN,JN,vx]at c;have(x,l,f,i,g):=c;rw[Lp.injEq]at f;have(rfl,rfl):=f;rw[cz,cz];by_cases e:z.1=q
   .rw[if_pos e,if_pos (by rw[<-a.1,e])];show{by rw[JN,JN,a.1,a.2],?_};rw[JN,JN,vx];show{w,_,Xr,d,g}
   .rw[if_neg e,if_neg (λz=>e (pH (a.1.trans z)))];have(j,h):=tT d a.2 g;show{by rw[JN,JN,a.1,j],?_};rw[JN,JN,vx];show{z.2,_,Xr,i,h}
def y6(ho:be K to o)(hi:be K ti i):jg K (DL to ti C7) (kC j o i):=by unhygienic
 intro B H O Z E Q v r O' hK c S q;dsimp[kC]at c q;ext c tv;ext c j' p s O1 e1;ext c X O2 e2;ext c hc;rw[JL,decide_eq_true_eq,Kt]at hc;have(rfl,J):=hc;ext c s' d;ext c k t e4;ext c hw;cases c;show ho B H O Z _ _ _ _ hK e1 S λx H1 S1=>?_;show hi B H1 O1 Z _ _ _ _ hK e2 S1 λy N L=>?_;have k1:aD i.mu {VE,x,{.vw (VF j') (VF p),s}}=VH:=by unfold aD;dsimp[Kd.root];rw[J];rfl
 have k2:∀M:!Nat,aD M {VE,v,{.ow,tv}}=VH:=λM=>rfl;rw[ax k1,af,ax (k2 _)]at L;have ry:=L.rd ymS;have S3:=L.drop rfl;have(G,F,h1,h2,h3,h4,h5):=Sim.mut (vs:=[v]) (ts:=[tv]) (S3.perm (List.Perm.swap _ _ _)) rfl e4 hw;generalize A:X.t=tri at d;unfold sV at d;ext d;ext d;ext d;rename_i m _ ki _ vi;unfold Cv at d;ext d e w;ext d Y;cases d;rw[Rp]at h1;obtain⟨a,ys,rfl,⟨u,g,rfl⟩,g1,g2,rfl⟩:=h1;rw[Kr]at g1 g2;have(z,ez,g3):=vF h2;cases ez;have(g4,rfl):=aV g3;have h:∃F,Rp B.K N X.t y F:=ry;have ey:y=kV e:=by rw[A]at h;show oy w (cu h)
 subst ey;rw[ju w]at Y;have(U,g6):=tT (q:=e) g4 g2 g1;have l:(cz u e v).length=(cz m (gb e) vi).length:=by have:=congrArg Ln U;exists this
 show{a,u,e,Xr,Xr,g,by rw[l];show Y,q Z _ ?_};have hM:∀b∈[a],Mu N b:=λb f=>by rw[ysM f];show{_,g,Xr}
 have:=h5 (upd N a (.dK (cz u e v))) (.di (cz m ki vi)) [a] Pd.upd (λb f=>by rw[ysM f];show{_,ao}) ∅ (λb f=>by rw[ysM f];show{.inl ∅,_,ao,Xr}) (by
  rw[Rp];show{a,(cz u e v).map (λp=>(gb p.1,p.2)),Xr,{_,ao,Xr},?_,?_,Xr};rw[Kr,ju w];show g6.off Pd.upd hM;rw[Kr,ju w];show U)
 rw[af]at this;show this
end
section
variable {ι : Type}{C:ι->Cx}{P:Os}{W:Ox}{K:yF}{mg:Str->↑Od}{base:Heap}{k:Nat}{a b e o:Expr}{es:!Expr}{ma mb mo mi m:ME}{ms:MA}{pos:Pos}
def Bv(j:Nat)(l:QE C K o mo)(q:QE C K e mi)
  (g:∀i v,QD (.Subscript o e pos) (C i).env v=(do
   let c <-O7 [v] (eval o (C i).env)
   let d <-O7 [v,c] (eval e (C i).env)
   Qj pos
   O7 [v,c,d] (R8 c d v)
   Uw [v,c,d] []):=by intro _ _;rfl):QG C K VE (.Subscript o e pos) (kC j mo mi):=by
 have(w,p,r):=l;have(u,t,s):=q;show{_,λi=>x8 (p i) (t i) zx (g i),y6 r s,λf h=>by cases h}
end
section
variable {a b m:ME}{O:Rho}{QF:R->Rho->Prop}{QG':Rho->Prop}{Q:T->Prop}
def o5(h:WE a O λg d=>WE b d λe c=>AtS j g λp s=>Gu (~~~b.mu.contains j) (AtM j c λk t=>W1 (sV s e.t tv) λf=>QG' ((au [j] c).set j (VF {k,t.put p f})))):WG (kC j a b) {.ow,tv} O QG':=by
 obtain⟨g,d,l,e,c,o,p,s,rfl,r,k,t,v,u,f,i,q⟩:=h;show{_,?_,q};dsimp[kC,l,o,r,decide_true,LL,if_true,i,v,u]
def rQ(h:(cz kvs (.str z) v).length<=sizeLine)(q:Q (.di (cz kvs (.str z) v))):W1 (sV (.di kvs) (.im (.str z)) (.im v)) Q:=by
 show w1 (x:=.di (cz kvs (.str z) v)) ?_ q;change(if(cz kvs (.str z) v).length<=sizeLine then _ else _)=_;rw[if_pos h]
end
open AutoSeq1 (wpAny_loadPart')
open MeetsSeq MeetsSeq2 MeetsSeq3 SeqRoads2
open PySem.W (KasT kas_sort)
structure Ord(f:Nat->Nat->Bool):Prop where
 as:∀{i j},f i j=VH->f j i=VG
 tr:∀{i j k},f j i=VG->f k j=VG->f k i=VG
open PySem.W (KasT kas_sort kas_ask kat_run kat_snds KatLex kat_lt kat_cons kat_nil kat_one kat_yes kat_no kat_kind KatTups)
open PySem.W (KasT kas_sort kas_ask kat_run kat_snds KatLex KatGo kat_lt kat_cons kat_nil kat_one kat_yes kat_no kat_kind KatTups)
abbrev one(z:Str):!Str:=[z]
def iL{prog:Os}{w:Ox}{A:Oz}{E:Od->Og->Prop}{s:Og}{t sl:Addr}{items:Array Od}{j f:Od}{lo g:↑Int}{Q:Od->Og->Prop}(a:Ud s.heap t items)(hs:s.heap.IsSliceOf sl j f .none)(pl:RF j lo)(l:RF f g)
  (i:HT.sIx items.size 0 lo=0/\HT.sIx items.size items.size g=items.size) (h:Q (.ref t) s):Oh (Om prog w) A (Rf (.ref t) (.ref sl)) Q E s:=by
 have(os,e,c,o):=id hs;have d:s.TypeIs (.ref sl) "slice" :=⟨os,e,c⟩;unfold Rf;try with_reducible refine OA ?_
 first|refine Oc (Oe ?_)|skip
 show Oc (Rg a.typeIs (by decide) ?_);show Oc (OV (name:=Op "__getitem__") a.typeIs Km
  (P0 Km a.typeIs RM ?_ (RX _ _)))
 change Oh _ _ (QM (.ref t) >>= _) _ _ s;show Oc (Sd a (Oc (Ql d ?_)));rw[if_pos (by decide)];show Oc (HT.sliceApplied_gen hs pl l ?_);rw[i.1,i.2];change Oh _ _ (if((((0:Nat):Int)==0&&(1:Int)==1&&(items.size-0)==items.size)=VH)then _ else _) _ _ s;rw[if_pos ∅];show Oc (m:=R4 (.ref t)) ?_;unfold R4;show Oc (Ql a.typeIs (Oe ?_));rw[if_pos (by decide)];show Oc (Qt ?_);show Oe {_,Xr,Oe h}
abbrev Iq(K:yF):V->↑Int->↑Int->Hp->VK->Prop:=λx lo d H Q=>∃a c,x=.ref a/\SqT K H a c/\(HT.sIx c.length 0 lo=0/\HT.sIx c.length c.length d=c.length)/\Q (.ref a) H
def zz:SlR X (Iq X.K):=by
 intro w s Z H x v z t lo y p Q I j o i g h;have(a,f,rfl,m,l,q):=h;cases j;have(d,r,e,u):=I.tuple m;have c:d.toArray.size=f.length:=by rw[JM];show r.length.symm
 show{"tuple",_,Km.lookup,e.typeIs,iL e o i g (by rw[c];show l) {.ref a,H,I,Xr,q}}
abbrev Io(K:yF):V->↑Int->↑Int->Hp->VK->Prop:=λx lo a H Q=>Fy K x lo a H Q\/Iq K x lo a H Q
abbrev slT(t:T) (lo c:↑Int):↑R:=match t with
 | .im (.tup a)=>↥(.tup (cy a lo c))
 | _=>VE
private def pK(a:ME)(lo c:MO):ME:={λO=>match a.run O with
 | some (d,g)=>match lo.run g with
  | some (l,f)=>match c.run f with
   | some (h,e)=>if az (lo.mu++c.mu) d=VH then(match slT d.t l h with
    | some r=>VF (r,e)
    | none=>VE)else VE
   | none=>VE
  | none=>VE
 | none=>VE,a.mu++(lo.mu++c.mu)}
section
variable {K:yF}
def qV{c:Type}{is:!c}{lo a:↑Int}(h:HT.sIx is.length 0 lo=0/\HT.sIx is.length is.length a=is.length):cy is lo a=is:=by
 unfold cy;rw[h.1,h.2,Mp,N5,NF]
def BS{y:TE}{B z:TO}{a:ME}{lo w:MO}(G:be K y a)(hl:qM K B lo)(L:qM K z w):be K (tSl (Io K) y B z) (pK a lo w):=by unhygienic
 intro g H O Z E Q r O' e c S q;dsimp[pK]at c;ext c A v J;ext c l U e2;ext c h O3 e3;ext c al;ext c r0 i;cases c;show G g H O Z E _ A v e J S λx Y S1=>?_;show hl g Y v Z _ _ l _ e e2 S1 λX M=>?_;show L g X U Z _ _ h _ e e3 M λH3 m=>?_;rw[af,ax (bj al),af]at m;have s:=m.rd ymS;have(k0,N):=A;replace s:Rpx g.K H3 N x:=s;unfold slT at i;dsimp only at i;ext i f;cases i;have r2:=s;have(p,t,j,d,o):=bX s;by_cases u:HT.sIx f.length 0 l=0/\HT.sIx f.length f.length h=f.length
 .show .inr {p,t,j,by rw[e]at d;show d,by rw[o.length];show u,?_};rw[<-j];show q _ _ ((m.drop rfl).imm ?_);rw[qV u,j,RpI];show⟨p,t,Xr,d,o⟩
 .rw[e]at d;show .inl {p,t,j,d,by rw[o.length];show u,λp hp=>q _ _ ((m.drop rfl).fresh (.tup hp (o.cut l h)))}
end
section
variable {ι : Type}{C:ι->Cx}{P:Os}{W:Ox}{K:yF}{mg:Str->↑Od}{base:Heap}{k:Nat}{a:Expr}{ma:ME}{pos:Pos}
def HX{lo e:↑Expr}{f g:MO}{l:Pos}(h:CK C P W K mg base k)(j:QE C K a ma)(m:QO C K lo f)(q:QO C K e g):QE C K (.Subscript a (.Slice lo e VE l) pos) (pK ma f g):=by
 have(v,p,r):=j;have(u,s,o):=m;have(t,d,c):=q;show{_,λi=>pW (r:=Io K) (by have:=SlR.or (sl_tup (X:=C i)) zz;rw[h.kk i]at this;show this) (p i) (s i) (d i),BS r o c}
end
section
variable {O:Rho}{a:ME}{QE':R->Rho->Prop}
def qF{lo d:MO}(h:WE a O λe g=>WO lo g λl f=>WO d f λu c=>Gu (az (lo.mu++d.mu) e) (∃is,e.t=.im (.tup is)/\QE' {.ow,.im (.tup (cy is l u))} c)):WE (pK a lo d) O QE':=by
 obtain⟨e,g,p,l,f,i,u,c,m,j,is,o,q⟩:=h;show{_,c,by dsimp[pK,p,i,m,j,if_true,o,slT],q}
end
open PySem.W (Frag)
mutual
noncomputable def I.noex:I->Bool
 | .exn _ _ _=>VG|.tup is=>I.noexs is|.ls is=>I.noexs is|.fd _ is=>I.noexs is|.non=>VH|.bl _=>VH|.int _=>VH|.str _=>VH
noncomputable def I.noexs:!I->Bool
 | []=>VH
 | i::is=>i.noex&&I.noexs is
end
abbrev tz:HO->Bool
 | .ext _=>VH|_=>VG
mutual
theorem RpI.ext{K:Frag}{H H':Hp}(x:∀b o,H b*>o->tz o=VG->H' b*>o):∀{t:I} {v:V},t.noex=VH->RpI K H t v->RpI K H' t v
 | .non,_,_,h=>by rw[RpI]at h|-;show h
 | .bl _,_,_,h=>by rw[RpI]at h|-;show h
 | .int _,_,_,h=>by rw[RpI]at h|-;show h
 | .str _,_,_,h=>by rw[RpI]at h|-;show h
 | .tup g,_,n,h=>by
  rw[RpI]at h|-;have(a,f,c,d,e):=h;show{a,f,c,?_,vx.ext x (by rw[I.noex]at n;show n) e};rcases d with(h|⟨u,h⟩)|h;show .inl (.inl (x a _ h rfl));show .inl (.inr {u,x a _ h rfl});show .inr h
 | .ls g,_,n,h=>by
  rw[RpI]at h|-;have(a,o,f,c,d,e):=h;show{a,o,f,c,x a _ d rfl,vx.ext x (by rw[I.noex]at n;show n) e}
 | .fd l g,_,n,h=>by
  rw[RpI]at h|-;have(a,o,j,c,d,e,i):=h;show{a,o,j,c,x a _ d rfl,e,vx.ext x (by rw[I.noex]at n;show n) i}
 | .exn _ _ _,_,n,_=>by rw[I.noex]at n;cases n
theorem vx.ext{K:Frag}{H H':Hp}(x:∀b o,H b*>o->tz o=VG->H' b*>o):∀{ts:!I} {xs:!V},I.noexs ts=VH->vx K H ts xs->vx K H' ts xs
 | [],_,_,h=>by rw[vx]at h|-;show h
 | t::ts,_,n,h=>by
  rw[I.noexs,JL]at n;rw[vx]at h|-;have(y,r,d,a,c):=h;show{y,r,d,RpI.ext x n.1 a,vx.ext x n.2 c}
end
abbrev f9(run:!T->↑T):!T->Option !I
 | []=>VF []
 | t::a=>match run [t]with
  | some (.im i)=>(f9 run a).map (i :: ·)
  | _=>VE
private def exR(x:Str)(ks:!Str)(run:!T->↑T)(ts:!T):↑T:=match f9 run ts with
 | some a=>if(decide (a.length=ks.length)&&I.noexs a)=VH then VF (.im (.exn x ks a))else VE
 | none=>VE
abbrev B6(K:Frag)(run:!T->↑T):!Str->Sp
 | []=>vJ K
 | [F]=>Iw K F (spP K run)
 | [F,G]=>Db K F G (spP K run)
 | _=>λ_ _ _ _=>False
abbrev vZ(P:Os)(W:Ox)(K:Frag)(mg:Str->↑Od)(base:Heap)(k:Nat)(x:Str)(ks:!Str)(run:!T->↑T):Prop:=
 ∃(C f:Addr) (a:PV) (c:!Str),ks.length<=2/\mg x*>(.ref C)/\KJ K Ou x*>(VF (.ref C))/\EMk K C f/\Pm K a c []/\Pp P W K mg base CX0 k f a c (B6 K run ks)/\∀F∈ks,Pl K C F
def zA{K:Frag}{run:!T->↑T}:wc (spP K run):=λvs H Q g E ⟨f,t,c,d,e⟩ h=>{f,t,c,d,λv a n=>h v a (e v a n)}
section
section
variable {K:Frag}{H:Hp}
def Pr.same(s:Pk H H'):∀{ts:!T} {vs:!V},Pr K H ts vs->Pr K H' ts vs
 | [],_,h=>h
 | t::ts,_,⟨v,r,e,⟨F,c⟩,a⟩=>{v,r,e,{F,c.same s},a.same s}
def l4(h:H a=VE):Pk H (upd H a o):=(Pk.refl H).put h
def dM{run:!T->↑T}{t:T}{ts:!T}{is:!I}(h:f9 run (t::ts)*>is):∃i js,run [t]*>(.im i)/\f9 run ts*>js/\is=i::js:=by
 rw[f9]at h;ext h i e;have(js,a,rfl):=KA.mp h;show⟨i,js,e,a,Xr⟩
def kA{run:!T->↑T}:∀{ts:!T} {is:!I},f9 run ts*>is->is.length=ts.length
 | [],_,h=>by cases h;rfl
 | t::ts,_,h=>by have(i,c,_,a,rfl):=dM h;rw[JY,JY,kA a]
def yo{C:Addr}{x:Str}{ks:!Str}{run:!T->↑T}(hk:ks.length<=2)(U:KJ K Ou x*>(VF (.ref C)))(ex:ExK K C)(na:∀F∈ks,Pl K C F) :
  ∀(H:Hp) (vs:!V) (ts:!T) (t:T) (Q:VK),Pr K H ts vs->exR x ks run ts*>t->(∀v H',New K H H' t v->(∃a d,v=.ref a/\H a=VE/\H' a*>(exO VG C d a)/\Rp K (upd H' a (exO VH C d a)) t v [])->Q v H') ->
  vs.length<=100/\∀x,H x=VE->B6 K run ks (.ref x::vs) (upd H x (exF C x)) (λv M=>v=.non/\Q (.ref x) M) E0:=by
 intro H vs ts t Q r e q;unfold exR at e;ext e is e1;ext e hc;cases e;rw[JL,decide_eq_true_eq]at hc;have(hl,J):=hc;have B:=kA e1;rcases ks with _|⟨F,_|⟨G,_|⟨_,_⟩⟩⟩;rotate_right;show absurd hk ∅
 .obtain rfl:=KR.mp hl;obtain rfl:=KR.mp B.symm;cases (show vs=[]from r);show{Ld _,λa s=>{a,C,Xr,ao,ex,Xr,q _ _ {l4 s,[],?_,KS,λ_ h=>nomatch h} {a,VE,Xr,s,ao,dF (by rw[RpI];show{C,a,Xr,U,VH,.inl ⟨Xr,Xr,ao⟩})}}};show dF ?_;rw[RpI];show{C,a,Xr,U,VG,.inl ⟨Xr,Xr,ao⟩}
 .have(i,rfl):=KI.mp hl;have(t1,rfl):=KI.mp B.symm;have(v,rfl,r1):=mD r;have(i',js,k1,k2,k3):=dM e1;cases k3;rw[I.noexs,JL]at J;show{(show 1<=100 by decide),λa s=>{a,C,v,Xr,ao,ex,na F ymS,{[t1],.im i,r.same (l4 s),k1,λw H' nw=>?_}}};have(S,F',rp,_,_):=nw;have Z:=(aV rp).1;have m:H' a*>(exF C a):=S a _ ao;show{m,λf N g=>{Xr,q _ _ {?_,[],dF ?_,KS,λ_ h=>nomatch h} {a,VF f,Xr,s,ao,dF ?_}}}
  .intro b o c;have l:b≠a:=λz=>by rw[z,s]at c;cases c
   have E:H' b*>o:=S b o (by rw[upd_ne l];show c);have p:b≠f:=λz=>by rw[z,N]at E;cases E
   rw[upd_ne l,upd_ne p];show E
  .rw[RpI];show{C,a,Xr,U,VG,.inr {f,[(F,w)],ao,by rw[upd_ne g];show ao,Xr,vx.one (RpI.ext (λb o c A=>?_) J.1 Z)}};have l:b≠a:=λz=>by rw[z,m]at c;cases c;cases A
   have p:b≠f:=λz=>by rw[z,N]at c;cases c
   rw[upd_ne l,upd_ne p];show c
  .rw[RpI];show{C,a,Xr,U,VH,.inr {f,[(F,w)],ao,by rw[upd_ne g,upd_ne g];show ao,Xr,vx.one (RpI.ext (λb o c A=>?_) J.1 Z)}};have l:b≠a:=λz=>by rw[z,m]at c;cases c;cases A
   have p:b≠f:=λz=>by rw[z,N]at c;cases c
   rw[upd_ne l,upd_ne l,upd_ne p];show c
 .have(i,is1,rfl):=Ko hl;have(j,rfl):=KI.mp (Lo.inj hl);have(t1,ts1,rfl):=Ko B.symm;have(t2,rfl):=KI.mp (Lo.inj B.symm);have(v,u,rfl,r1,r2):=B4 r;have(i',js,k1,k2,k3):=dM e1;cases k3;have(j',js',k4,k5,k6):=dM k2;cases k6;rw[I.noexs,JL,I.noexs,JL]at J;show{(show 2<=100 by decide),λa s=>{a,C,v,u,Xr,ao,ex,na F ymS,na G (ymC _ ymS),{[t1],.im i,{v,[],Xr,let ⟨F1,z⟩:=r1;{F1,z.same (l4 s)},Xr},k1,λw H' nw=>?_}}};have(S,F',rp,_,_):=nw;have Z:=(aV rp).1;have m:H' a*>(exF C a):=S a _ ao;show{m,λf N g=>?_};have Y:Pk H (upd (upd H' f (exX [(F,w)] f)) a (exD C f a)):=by
   intro b o c;have l:b≠a:=λz=>by rw[z,s]at c;cases c
   have E:H' b*>o:=S b o (by rw[upd_ne l];show c);have p:b≠f:=λz=>by rw[z,N]at E;cases E
   rw[upd_ne l,upd_ne p];show E
  have X:RpI K (upd (upd H' f (exX [(F,w)] f)) a (exD C f a)) i w:=RpI.ext (λb o c A=>by
   have l:b≠a:=λz=>by rw[z,m]at c;cases c;cases A
   have p:b≠f:=λz=>by rw[z,N]at c;cases c
   rw[upd_ne l,upd_ne p];show c) J.1 Z
  show{[t2],.im j,{u,[],Xr,let ⟨F1,z⟩:=r2;{F1,z.same Y},Xr},k4,λz M nz=>?_};have(y,F2,rp2,_,_):=nz;have rj:=(aV rp2).1;have e2:M a*>(exD C f a):=y a _ ao;have e3:M f*>(exX [(F,w)] f):=y f _ (by rw[upd_ne g];show ao);have O:∀b o,M b*>o->tz o=VG->upd M f (exX [(F,w),(G,z)] f) b*>o:=λb o c A=>by
   have p:b≠f:=λz=>by rw[z,e3]at c;cases c;cases A
   rw[upd_ne p];show c
  show{e2,e3,Xr,q _ _ {?_,[],dF ?_,KS,λ_ h=>nomatch h} {a,VF f,Xr,s,by rw[upd_ne (Ot g)];show e2,dF ?_}}
  .intro b o c;have E:=y b o (Y b o c);have l:b≠a:=λz=>by rw[z,s]at c;cases c
   have h0:H' b*>o:=S b o (by rw[upd_ne l];show c);have p:b≠f:=λz=>by rw[z,N]at h0;cases h0
   rw[upd_ne p];show E
  .rw[RpI];show{C,a,Xr,U,VG,.inr {f,[(F,w),(G,z)],by rw[upd_ne (Ot g)];show e2,ao,Xr,.cons (RpI.ext O J.1 (X.same y)) (.one (RpI.ext O J.2.1 rj))}}
  .have L:∀b o,M b*>o->tz o=VG->upd (upd M f (exX [(F,w),(G,z)] f)) a (exO VH C (VF f) a) b*>o:=λb o c A=>by
    rw[upd_ne (λz=>by rw[z,e2]at c;cases c;cases A)];show O b o c A
   rw[RpI];show{C,a,Xr,U,VH,.inr {f,[(F,w),(G,z)],ao,by rw[upd_ne g];show ao,Xr,.cons (RpI.ext L J.1 (X.same y)) (.one (RpI.ext L J.2.1 rj))}}
end
end
open PySem.W (Frag)
protected def Tab:=!(Str×!Str)
abbrev rh(x y:Str):Bool:=decide (x=y)||decide (y = "HouseError")
abbrev gL(K:Frag)(mg:Str->↑Od)(a:Tab):Prop:=mg "ValueError" = VE/\∀p∈a,∃C,KJ K Ou p.1*>(VF (.ref C))/\mg p.1*>(.ref C)/\ExK K C/\(∀f∈p.2,Pl K C f) /\
 KZ K (.ref C) (.type "ValueError")*>VH/\∀q∈a,∃D,mg q.1*>(.ref D)/\KZ K (.ref C) (.ref D)*>(rh p.1 q.1)
abbrev kK(a:Tab) (x:Str):↑(Str×!Str):=a.find? λp=>decide (p.1=x)
def ie(h:kK tab x*>p):p∈tab/\p.1=x:=by
 unfold kK at h;show{List.mem_of_find?_eq_some h,by simpa using List.find?_some h}
private def wT(a:Tab)(f:Str)(t:T):↑T:=match t with
 | .im i=>(match i with
  | .exn x d c=>(match kK a x with
   | some p=>if p.2.contains f=VH then(dN (d.zip c) f).map T.im else VE
   | none=>VE)
  | _=>VE)
 | _=>VE
private def iT(a:Tab)(y:Str)(t:T):↑T:=match t with
 | .im i=>(match i with
  | .exn x d c=>(match kK a x with
   | some p=>(match kK a y with
    | some q=>VF (.im (.bl (rh p.1 q.1)))
    | none=>VE)
   | none=>VE)
  | _=>VE)
 | _=>VE
private def xh(a:Tab)(t:T):↑T:=match t with
 | .im i=>(match i with
  | .exn x d c=>(match kK a x with
   | some p=>VF (.im (.bl VH))
   | none=>VE)
  | _=>VE)
 | _=>VE
def qJ{K:Frag}{H:Hp}{f:Str}{i:I}:∀{a:!(Str×V)} {is:!I},vx K H is (a.map (·.2))->dN ((a.map (·.1)).zip is) f*>i->∃v,a.lookup f*>v/\RpI K H i v
 | [],is,r,e=>by simp[dN]at e
 | (k,y)::a,is,r,e=>by
  cases is with
  | nil=>have:=r.nil_inv;cases this
  | cons m is=>
   have(x,o,h,j,d):=r.cons_inv;cases h;dsimp[JN,List.zip_cons_cons,dN]at e;by_cases c:k=f
   .subst c;rw[if_pos rfl]at e;cases e;show{y,by rw[Ki,beq_self_eq_true],j}
   .rw[if_neg c]at e;have(v,g,l):=qJ d e;show{v,by rw[Ki,beq_eq_false_iff_ne.mpr (Ot c)];show g,l}
abbrev Jz(K:Frag)(f:Str):V->Hp->VK->Prop:=λx d Q=>∃a r C c e v,x=.ref a/\d a*>(exO r C (VF c) a)/\d c*>(exX e c)/\ExK K C/\Pl K C f/\e.lookup f*>v/\Q v d
def ye{K:Frag}{mg:Str->↑Od}{c:Tab}(B:gL K mg c)(f:Str):jf K (Jz K f) (wT c f):=by
 intro H x U t Q r e q;unfold wT at e;ext e;ext e z X O;ext e p M;have(o,G):=ie M;ext e L;have(i,g,rfl):=KA.mp e;have r:=cu r;rw[RpI]at r;have(C,a,rfl,s,h):=r;obtain⟨S,m,Y,y,u,_⟩:=B.2 p o;rw[G,s]at m;cases m;obtain⟨b,h⟩:=h;rcases h with⟨d,l,j⟩|⟨J,E,d,l,j,N⟩;rw[d]at g;simp[dN]at g
 .subst j;have(v,A,w):=qJ N g;show{a,b,C,J,E,v,Xr,d,l,y,u f (by exists L),A,q _ _ (.im w)}
abbrev r6(K:Frag)(w:V):V->Hp->VK->Prop:=λx H Q=>∃a C c b,x=.ref a/\(∀u,RelV w u->u=c)/\(∃r,H a*>(exO r C VE a) \/ ∃d e,H a*>(exO r C (VF d) a)/\H d*>(exX e d))/\ExK K C/\KZ K (.ref C) c*>b/\Q (.bl b) H
def o7:Pi X (.builtin "isinstance") (λxs H Q=>∃x w,xs=[x,w]/\r6 X.K w x H Q):=by
 intro p s Z H xs o Q I e h;obtain⟨x,w,rfl,a,C,c,b,rfl,i,j,d,f,q⟩:=h;have(u,r,rfl,l,g):=l7 e;cases l;have:=i _ g;subst this;show wE I j d f λm=>{.bl b,H,I.tok m,Xr,q}
def yj{K:Frag}{mg:Str->↑Od}{c:Tab}(s:gL K mg c){y:Str}{D:Addr}(O:mg y*>(.ref D)):jf K (r6 K (.ref D)) (iT c y):=by
 intro H x X t Q r e q;unfold iT at e;ext e;ext e z ks S;ext e p M;have(j,E):=ie M;ext e A f;have(v,w):=ie f;cases e;have r:=cu r;rw[RpI]at r;have(C,a,rfl,l,d):=r;have(U,g,n2,m,Z,Y,N):=s.2 p j;rw[E,l]at g;cases g;have(D',i,o):=N A v;rw[w,O]at i;cases i;show{a,C,.ref D,_,Xr,λu h=>h,d.imp λr d=>d.imp (λz=>z.2.2) (fun⟨G,B,L,J,_⟩=>⟨G,B,L,J⟩),m,o,q _ _ (.sc rfl)}
def yi{K:Frag}{mg:Str->↑Od}{c:Tab}(m:gL K mg c):jf K (r6 K (.ty "ValueError")) (xh c):=by
 intro H x G t Q r e q;unfold xh at e;ext e;ext e z L B;ext e p A;have(g,s):=ie A;cases e;have r:=cu r;rw[RpI]at r;have(C,a,rfl,j,d):=r;have(E,f,M,l,J,i,N):=m.2 p g;rw[s,j]at f;cases f;show{a,C,.type "ValueError",_,Xr,λu h=>h,d.imp λr d=>d.imp (λz=>z.2.2) (fun⟨v,o,y,w,_⟩=>⟨v,o,y,w⟩),l,i,q _ _ (.sc rfl)}
structure CK0{ι : Type}(C:ι->Cx)(P:Os)(W:Ox)(K:Frag)(mg:Str->↑Od)(base:Heap):Prop where
 prog:∀i,(C i).prog=P
 w:∀i,(C i).w=W
 kk:∀i,(C i).K=K
 mg:∀i,(C i).mg=mg
 base:∀i,(C i).base=base
 un:∀i,(C i).A.units+64<P7
section
variable {ι : Type}{C:ι->Cx}{P:Os}{W:Ox}{K:Frag}{mg:Str->↑Od}{base:Heap}{k j:Nat}{e:Expr}{es:!Expr}{m:ME}{ms:MA}{x y:Str}{p p1 pos:Pos}{tab:Tab}
def CT(a:CK0 C P W K mg base)(d:gL K mg tab)(c:QE C K e m)(f:∀i,O6 e x (C i).env (eval e (C i).env)=eval e (C i).env:=by intro _;rfl):QE C K (.Attribute e x pos) (mUn (wT tab x) m):=by
 have(g,q,r):=c;show{_,λi=>by have:=A9 (pos:=pos) (q i) (f i);rw[a.kk i]at this;show this,kh (ye d x) r}
def g8(a:CK0 C P W K mg base)(l:gL K mg tab)(G:mg "isinstance" = VE)(E:∃q∈tab,q.1=y)(u:QE C K e m)(B:∀i,Gl (C i) "isinstance" :=by intro _;rfl)(d:∀i,Gl (C i) y:=by intro _;rfl)
  (hs:br e=VG:=by rfl) (c:(y==("__debug__" : Str))=VG:=by decide):QE C K (.Call (.Name "isinstance" p) [e,.Name y p1] [] pos) (mUn (iT tab y) m):=by
 have(h,A,rfl):=E;have(D,_,f,_):=l.2 h A;have(J,q,r):=u;show{_,λi=>fR (r:=λs H Q=>∃x w,s=[x,w]/\r6 K w x H Q) (by have:=o7 (X:=C i);rw[a.kk i]at this;show this) (B i) (by rw[a.mg i];show G) RK (bJ (hs:=hs) (q i) (bJ (tN (pos:=p1) (v:=.ref D) (d i) (by rw[a.mg i];show f) rfl c) ft)) (by change(~~~br e&&VH)=VH;rw[hs];rfl),?_};show kh (show jf K (λx H Q=>∃o g,[x,.ref D]=[o,g]/\r6 K g o H Q) (iT tab h.1)from λH x z t Q r e q=>{_,_,Xr,yj l f H x z t Q r e q}) r
def HN(a:CK0 C P W K mg base)(f:gL K mg tab)(s:mg "isinstance" = VE)(l:QE C K e m)(u:∀i,Gl (C i) "isinstance" :=by intro _;rfl)(c:∀i,Gl (C i) "ValueError" :=by intro _;rfl)
  (hs:br e=VG:=by rfl):QE C K (.Call (.Name "isinstance" p) [e,.Name "ValueError" p1] [] pos) (mUn (xh tab) m):=by
 have(v,q,r):=l;show{_,λi=>fR (r:=λh H Q=>∃x w,h=[x,w]/\r6 K w x H Q) (by have:=o7 (X:=C i);rw[a.kk i]at this;show this) (u i) (by rw[a.mg i];show s) RK (bJ (hs:=hs) (q i) (bJ (kW (pos:=p1) (c i) (by rw[a.mg i];show f.1) (by rfl') (ud "ValueError")) ft)) (by change(~~~br e&&VH)=VH;rw[hs];rfl),?_};show kh (show jf K (λx H Q=>∃g d,[x,.ty "ValueError"]=[g,d]/\r6 K d g H Q) (xh tab)from λH x o t Q r e q=>{_,_,Xr,yi f H x o t Q r e q}) r
end
abbrev dtT(t:T):↑Qc:=match t with
 | .im i=>if i.lay=VH then VF i.pd else VE
 | .li a=>if I.lays a=VH then VF (.list (I.pds a))else VE
 | _=>VE
def wA{K:Frag}{H:Hp}{t:T}{x:V}{d:Qc}(r:Rpx K H t x)(e:dtT t*>d):PN K H x d:=by
 unfold dtT at e;split at e
 .delta i;split at e;cases e;show .inl {i,by assumption,cu r,Xr};cases e
 .delta c;ext e;cases e;have(a,f,rfl,h,g):=bW r;show .inr {a,f,c,Xr,h,g,by assumption,Xr}
 .cases e
abbrev dt2(f:Qc->Qc->↑Bool) (x y:T):↑T:=match dtT x with
 | some d=>(match dtT y with
  | some a=>if d.depth<=50 then(f d a).map λb=>.im (.bl b)else VE
  | none=>VE)
 | none=>VE
def Ap(e:dt2 f x y*>t):∃d d' b,dtT x*>d/\dtT y*>d'/\d.depth<=50/\f d d'*>b/\t=.im (.bl b):=by
 unfold dt2 at e;ext e d c;ext e d' a;ext e h;have(b,g,rfl):=KA.mp e;show⟨d,d',b,c,a,h,g,Xr⟩
abbrev Ct(d d':Qc):↑Bool:=match d' with
 | .list a=>VF (a.any λz=>Vu z d)
 | _=>VE
open PySem.W (Frag)
abbrev xz(K:Frag):Bool:=K.all λp=>match p.2.cls with
 | .type n=>n != "list"
 | _=>VH
def uU{K:Frag}{a:Addr}(h:K.lookup a=VE):eY K a=K:=by
 unfold eY;rw[Lb];intro p c;rw[Kt,beq_eq_false_iff_ne];rintro rfl
 induction K with
 | nil=>cases c
 | cons q K d=>
  rw[Ki]at h;split at h;cases h
  .delta e;rcases ycM c with rfl|c;simp at e;show d c h
def rM{K:Frag}{a:Addr}(h:xz K=VH)(f:PQ K a):eY K a=K:=by
 cases e:K.lookup a with
 | none=>show uU e
 | some o=>
  have(vs,rfl):=f o e;exfalso;have i:∃p∈K,p.2.cls=Oo "list" :=by
   clear h f
   induction K with
   | nil=>cases e
   | cons q K g=>
    rw[Ki]at e;split at e;show{q,ymS,by rw[Ke.inj e]};have(p,c,d):=g e;show{p,ymC _ c,d}
  have(p,c,d):=i;have:=Ky.mp h p c;dsimp[d]at this;show absurd this (by decide)
def walkN{l:NL}{k:Nat}{q:Os}{loose:!Str}{XP:(Str->↑Od)->Heap->Prop}{YP:Ox->Heap->Prop}{d:DefRec}{K:TY->yF}{x:Str}{st:Stmt}{run:!T->↑T}{A:(Str->↑Od)->yF->Prop}
  (u:l.most=VF 63) (g:d.params.defaults=[]) (G:Pj k SB)
  (E:∀(w:Ox) (h:Heap),YP w h->(K w.params).In h)
  (H:∀(w:Ox) (mg:Str->↑Od) (h:Heap),(K w.params).In h->h.Ns Ou mg->A mg (K w.params))
  (y:∀P,xz (K P)=VH)
  (B:∀(mg:Str->↑Od) (K:yF),A mg K->Def K mg d.name st [x])
  (J:∀(kV i t:Od) (p:↑Addr) (j o:Od) (s:Og) (v:Od),Sy s (KD d.name d.name (cc st) (ba st) (ai st) .none kV i t p j o) {[v],[]} [(x,v)])
  (F:∀(w:Ox) (mg:Str->↑Od) (K:yF) (base:Heap),A mg K->Has l.prog w K mg base k d.name [x] (spP K run))
  (e:∀ns:!Int,ns.length<=63->run [.li (ns.map .int)]*>(.im (.bl VH))) :
  NU q loose XP YP l.row.toRowW d [] (λf vs=>PySem.call f vs):=
 Ja (K:=K) (A:=λmg c=>A mg c/\xz c=VH) u g G E (λw mg h a b=>{H w mg h a b,y _}) (λmg c a ⟨z,m⟩ r=>by rw[rM m r];show⟨z,m⟩) (λmg c h=>B mg c h.1) J (λw mg c base h=>F w mg c base h.1) e
end L2
namespace L2
open PySem
noncomputable section
abbrev EXN:Tab:=[("HouseError",[]),("NoHouse",["word","name"]),("NoText",["row"]),("Loose",[]),("TooLong",["many"]),("Ring",["cells"]),("Early",["cell"]),("NoWay",[]),("NoTurn",[]),("NoCell",["cell"]),("NoRow",[]),("NoName",["name"])]
abbrev lI:MS:=(bh (AN (aB (mUn (fN ["list"]) (ae 0))) (AM (mB uV (ac 0 mNil))) (ae 0)))
abbrev bL(ts:!T):↑T:=if ts.length=1 then du lI 1 ts else VE
end
end L2
namespace L2
open PySem PySem.Spec PyProof.Rows
open PySem.W (Frag)
abbrev Fly(h:Heap)(x:Addr):Prop:=∃o vs,h.get? x*>o/\o.data=.fields vs/\(vs[1]?*>.none \/ ∃t u a,vs[1]?*>(.ref t)/\t≠x/\h.get? t*>u/\u.data=.fields a/\a[3]?*>.none)
structure PK(fs:!Addr)(x:Addr)(h h':Heap):Prop where
 keep:∀b o,b∉fs->b≠x->h.get? b*>o->h'.get? b*>o
 slot:∀b o,b∈fs->h.get? b*>o->∃sl,h'.get? b=VF {o with slots:=sl}
 self:∀o,h.get? x*>o->∃vs,h'.get? x=VF {o with data:=.fields vs}
 fly:Fly h' x
section
variable {M:Ve}{A:Oz}{E:Od->Og->Prop}{s:Og}{base:Heap}{env:Env}{outer:!Env}{L x:Addr}{o:Obj}{vs:Array Od}{hd:Od}{nx:Bool}{Q:Unit->Og->Prop}
def uI(d:o.data=.fields vs)(f:Array Od->Array Od):o.mapFields f={o with data:=.fields (f vs)}:=by
 have(c,g,h,e):=o;cases d;rfl
def pv(fr:A.frames*>(env::outer))(v:s.heap.FunFrames base (env::outer))(J:env.frame*>L)(t:s.heap.get? x*>o)(h:o.data=.fields vs)(r:1<vs.size)
  (k:∀h',PK (frs (env::outer)) x s.heap h'->Q () {s with heap:=h'}) :
  Oh M A (do let a <-frameOf env;let p <-entryPlaceOf L nx;let b <-Tj hd a .none (Q8 L) .none p;Vo (.ref x) 1 b) (λ_ S=>Oh M A (Tg (.ref x) VE) Q E S) E s:=by
 have w:x∉frs (env::outer):=λz=>by
  have(_,u,c,O):=v.mem z;rw[t]at c;cases c;show O _ h
 show Oc (wpAny_frameOf_fun fr v J λg i=>Oc (wpAny_entryPlaceOf λp P=>?_));unfold Tj newFields;show Oc (OC ?_ (P.sizeOk5 _ _ _ _ _));generalize e:({cls:=.type "traceback",dict:=VE,data:=.fields ([hd,.ref L,.none,Q8 L,.none]++(if p.isEmpty then JO 6 OY else p)).toArray}:Obj)=tb;have G:g.get? x*>o:=(i.2.1 x w).trans t;have C:(g.push tb).get? x*>o:=Of _ G;have f:g.objs.size≠x:=K7 (Ol G);show PY C h r ?_;have l:=Qw h (·.setIfInBounds 1 (Oy g.objs.size));have m:=OL (ON (·.setIfInBounds 1 (Oy g.objs.size))) C (Rm l);have y:((g.push tb).update x (ON (·.setIfInBounds 1 (Oy g.objs.size)))).get? g.objs.size*>tb:=by
  rw[OM _ _ (Ot f)];show Oq g (by rw[<-e];rfl)
 unfold Tg;show Oc (OB m l (x:=.ref g.objs.size) (by simp[r]) ?_);rw[if_pos ∅];have j:tb.data=.fields ([hd,.ref L,.none,Q8 L,.none]++(if p.isEmpty then JO 6 OY else p)).toArray:=by rw[<-e]
 show PY y j (by dsimp[JM,JT,JY,Ml];omega) (k _ {λb u N K q=>?_,λb u U q=>?_,λu c=>?_,?_})
 .have d:g.get? b*>u:=(i.2.1 b N).trans q;rw[OM _ _ (K7 (Ol d)),OM _ _ (Ot K)];show Of _ d
 .have(H,d):=i.2.2 b u q;show{H,?_};rw[OM _ _ (K7 (Ol d)),OM _ _ (show x≠b from λz=>w (z▸U))];show Of _ d
 .rw[t]at c;cases c;show{_,by rw[OM _ _ f,m];show congrArg VF (uI h _)}
 .show{_,_,by rw[OM _ _ f];show m,l,.inr {_,_,_,by simp[r],f,OL _ y (Rm (Qw j _)),Qw j _,?_}};rw[Array.getElem?_setIfInBounds];simp
def pI(fr:A.frames*>(env::outer))(j:s.heap.FunFrames base (env::outer))(h:env.frame*>L)(m:Fly s.heap x)
  (k:∀h',PK (frs (env::outer)) x s.heap h'->Q () {s with heap:=h'}):Oh M A (So (.ref x) env) (λ_ p=>Oh M A (Tg (.ref x) VE) Q E p) E s:=by
 have(o,vs,d,c,a):=m;unfold So;dsimp[h];rcases a with a|⟨t,u,r,a,v,i,g,f⟩
 .show Oc (OB d c a ?_);rw[if_neg (by decide)];show pv fr j h d c (La.mp a).1 k
 .show Oc (OB d c a ?_);rw[if_pos ∅];show Oc (OB i g f ?_);rw[if_neg (by simp[Q8])];have q:=(La.mp f).1;show Oc (PY i g q ?_);have e:s.heap.update t (ON (·.setIfInBounds 3 OY))=s.heap:=R7 s.heap t u r 3 OY i g f;rw[e];show pv fr j h d c (La.mp a).1 k
end
section
variable {X:Cx}{OK:!(Addr×Obj)}{Z:St}{H:Hp}{s:Og}{h':Heap}{x C:Addr}{d:↑Addr}
def Inv.left(I:Inv X OK Z H s)(g:H x*>(exO VH C d x))(l:PK (frs X.stack) x s.heap h'):Inv X OK Z H {s with heap:=h'}:=by
 have j:∀b o,H b*>o->b∉frs X.stack:=λb o e z=>by rw[I.stkFree b z]at e;cases e
 show I.call' (ch:=[]) rfl {λb o q n h _=>l.keep b o h (λz=>by rw[z,g]at n;cases n) q,λb o q n h _=>l.slot b o h q,λb o q n _=>n,λb o q _=>?_,λ_ _ e=>e,λ_ _ _ e=>e,λb r e=>{#[],by rw[e];simp}} (λb o e=>?_) I.bare λb m=>nomatch m
 .by_cases e:b=x
  .subst e;have(vs,z):=l.self o q;show{_,z}
  .by_cases f:b∈frs X.stack
   .have(p,z):=l.slot b o f q;show{_,z}
   .show{o,l.keep b o f e q}
 .by_cases q:b=x
  .subst q;rw[g]at e;cases e;have(vs,k,_):=gR I.hok g;have(ws,z):=l.self _ k;show oa z λz=>nomatch z
  .show(I.hok b o e).stay (λc u a z=>l.keep c u ?_ ?_ z) (λ_ q=>q) λ_ _ q=>q
   .rcases a with rfl|a;show j _ _ e;show j _ _ a
   .rcases a with rfl|a;show q;rintro rfl;rw[g]at a;cases a
abbrev CXE(P:Os)(w:Ox):CXT:=λa H s E e c=>∃x C d f,e=.ref x/\c.os=s.os/\RP c.gens/\Un (frs a) [] H f s.heap c.heap/\HOk P w f c.heap/\f x*>(exO VH C d x)/\Fly c.heap x/\E (.ref x) VE f
abbrev XR(X:Cx)(R:VK):Prop:=∀(OK:!(Addr×Obj)) (Z:St) (H:Hp) (s:Og) (x C:Addr) (d:↑Addr),Inv X OK Z H s->H x*>(exO VH C d x)->Fly s.heap x->R (.ref x) H->X.xe (.ref x) s
abbrev XP(X:Cx)(OK:!(Addr×Obj))(Z:St)(R:VK)(e:Od)(c:Og):Prop:=∃x C d a,e=.ref x/\Inv X OK Z a c/\a x*>(exO VH C d x)/\Fly c.heap x/\R (.ref x) a
def Inv.afterX(I:Inv X OK Z H s)(h:CXE X.prog X.w X.stack H s E e s'):XP X OK Z (λv H'=>∃x,v=.ref x/\E (.ref x) VE H') e s':=by
 obtain⟨x,C,d,H',rfl,os,a,i,c,f,g,q⟩:=h;show{x,C,d,H',Xr,I.call' (ch:=[]) os i c a (λb z=>absurd z ∅),f,g,x,Xr,q}
end
open PySem.W (Frag)
def wP:∀{l:!Od},dI l=VH->l.contains (.type "BaseException")=VH
 :=by
 intro l
 induction l with
 | nil=>intro e;cases e
 | cons v r a=>
  intro e;cases v with
  | ref c=>rw[Lg,a e,L9]
  | type n=>
   rw[dI,JL,beq_iff_eq,beq_iff_eq]at e;have(rfl,rfl):=e;decide
  | _=>cases e
section
variable {M:Ve}{A:Oz}{E:Od->Og->Prop}{env:Env}{K:Frag}
def yV(k:A.handled=VE)
  (h:Oh M A v (λu c=>∃a C d t,u=.ref a/\K.In c.heap/\wM K C=VH/\c.heap.get? a=VF {cls:=.ref C,dict:=d,data:=.fields #[.ref t,.none,.none,.none,.bool VG,.none]}/\E (.ref a) c) E s) :
  Oh M A (U1 env (VF v) VE) Q E s:=by
 unfold U1;show Oc (Ov h (λu c w=>?_) λ_ _ x=>x);have(a,C,d,t,j,X,l,y,m):=w;subst j;obtain⟨S,q,N,B,i,f,J,sub,G,o,H,O,z,P,L,Z,p,_,_,_,c4,_⟩:=kS l;have e:=X _ _ p;have r:(Oy C::i).contains (.type "BaseException")=VH:=by rw[Lg,wP c4,L9]
 have(Y,g,dr,U,os):=c;repeat (first|with_reducible refine Qm y ?_|with_reducible refine Qm e ?_|(with_reducible refine Qq e ?_;rw[r])|wp_step)
 show wpAny_raiseNew_none k m
end
abbrev qI(RR:VK)(t:TS):TS:=λD Z H=>t {D with rt:=RR} Z H
abbrev tRz(K:Frag)(e:TE):TS:=λD Z H=>e Z H λv c=>∃a C d,v=.ref a/\ExK K C/\c a*>(exO VG C d a)/\D.rt v (upd c a (exO VH C d a))
section
variable {X:Cx}{e:Expr}{te:TE}{pos:Pos}{RR:VK}
def yB(w:PE X e te)(A:X.calm=VH)(y:XR X RR):PS X (.Raise (VF e) VE pos) (qI RR (tRz X.K te)):=by
 intro i s Z H D I h;rw[arm_exec_Raise];show Oc (OZ ?_);change Oh _ _ (U1 X.env (VF (do let v <-eval e X.env;Qj pos;pure v)) VE) _ _ _;show yV (K:=X.K) (I.ok.hd A) (Oc (thn (w i s Z H _ I h) λu j m=>Oc (OZ (Oe ?_))));obtain⟨v,B,f,r,a,C,d,l,p,g,q⟩:=m;subst l;obtain rfl:u=Oy a:=r;have(vs,c,k):=gR f.hok g;have(t,rfl):=k rfl;show{a,C,d,t,Xr,f.kIn,p.obj,c,y i Z _ j a C d (f.write (t':=j.toks) (x:=a) (e:=a) (o:=exO VH C d a) (by rw[g];trivial) (.inl rfl) (λb o _ z=>z) {_,c} (oa c λz=>nomatch z)) ao {_,_,c,Xr,.inl rfl} q}
end
section
variable {P:Os}{w:Ox}{K:Frag}{mg:Str->↑Od}{base:Heap}{N:!Str}{qual:Str}{scope:QV}{f:Addr}{cdv:Od}{A:Oz}{outer:!Env}{s:Og}{H:Hp}{E:XK}
def Gx:XR (iK (CXE P w) P w K mg base N qual scope f cdv A outer s H E) (λv H'=>∃x,v=.ref x/\E (.ref x) VE H'):=by
 intro i Z c j x C d I a h q;obtain⟨y,e,q⟩:=q;cases e;change Oh _ _ (leaving _ _) _ _ _;unfold leaving;rcases I.ok.stk with z|⟨z,g⟩;show absurd (congrArg Ln z) (Nat.succ_ne_self _)
 .show Oc (pI (base:=base) (outer:=outer) I.ok.frames I.stack g h λk l=>?_);have J:=I.left a l;show⟨x,C,d,c,Xr,J.os,J.bare,J.base,J.hok,a,l.fly,q⟩
end
def SP.imp{X:Cx}{g:!(Addr×Obj)}{D e:Pw}{f:Flow}{i:Og}(h:SP X g D f i)(n:∀Z H,D.nx Z H->e.nx Z H)(r:∀v H,D.rt v H->e.rt v H)(b:∀Z H,D.bk Z H->e.bk Z H)(c:∀Z H,D.ct Z H->e.ct Z H):SP X g e f i:=by
 cases f with
 | next=>have(d,a,I,q):=h;show{d,a,I,n _ _ q}
 | brk=>have(d,a,I,q):=h;show{d,a,I,b _ _ q}
 | cont=>have(d,a,I,q):=h;show{d,a,I,c _ _ q}
 | ret u=>have(v,d,a,I,z,q):=h;show{v,d,a,I,z,r _ _ q}
def uK{P:Os}{w:Ox}{K:Frag}{o:Str->↑Od}{base:Heap}{k:Nat}{f:Addr}{name qual:Str}{a:TW}{d:!Stmt}{scope:QV}{C kV g B c r oc:Od}{u od:↑Addr}
  {m:Array ↑Od} {N ps:!Str} {sp:Sp} (G:K.lookup f*>{oc,od,.func (KD name qual a d scope C kV g B u c r),m}) (i:LA K c qual=VH) (S:Pa N ps scope)
  (j:∀vs H Q E,sp vs H Q E->vs.length=ps.length)
  (e:∀(A:Oz) (outer:!Env) (s:Og) (H:Hp) (vs:!V) (Q:VK) (E:XK),Pj k (A.deeper (Rn qual scope s.heap.objs.size f c))->sp vs H Q E ->
   ∃t,(∀RR,XR (iK (CXE P w) P w K o base N qual scope f c A outer s H E) RR->PSs (iK (CXE P w) P w K o base N qual scope f c A outer s H E) d (qI RR t))/\t {nx:=λ_ _=>False,rt:=λv H'=>∃x,v=.ref x/\E (.ref x) VE H'} (bR N vs) H) :
  Pp P w K o base (CXE P w) (k+1) f (KD name qual a d scope C kV g B u c r) ps sp:=by
 show Cz G i S j λA outer s H vs Q E M h=>?_;have(t,p,q):=e A outer s H vs Q E M h;show{λ_ Z l=>t {nx:=λ_ _=>False,rt:=λv H'=>∃x,v=.ref x/\E (.ref x) VE H'} Z l,λL J Z l D I z=>?_,q};show thn (p _ Gx L J Z l {nx:=λ_ _=>False,rt:=λ_ _=>False} I z) λO U y=>y.imp (λ_ _ z=>z.elim) (λ_ _ z=>z.elim) (λ_ _ z=>z.elim) (λ_ _ z=>z.elim)
protected def TX:=St->Hp->VK->VK->Prop
abbrev PEX(X:Cx)(e:Expr)(t:TX):Prop:=∀(a:!(Addr×Obj)) (s:Og) (Z:St) (H:Hp) (Q RR:VK),Inv X a Z H s->t Z H Q RR->Oh (Om X.prog X.w) X.A (eval e X.env) (EP X a Z Q) (XP X a Z RR) s
section
variable {X:Cx}{k:Nat}{f:Addr}{fd:PV}{ps:!Str}{sp0 sp1:Sp}{e:Expr}{es:!Expr}{t:TA}{x:Str}{p pos:Pos}
abbrev zD(sp0 sp1:Sp)(t:TA):TX:=λZ H Q RR=>t Z H λvs a=>sp0 vs a Q E0\/sp1 vs a (λ_ _=>False) λu _ c=>∀y,u=.ref y->RR (.ref y) c
def B3(l:Pp X.prog X.w X.K X.mg X.base CX0 k f fd ps sp0)(g:Pp X.prog X.w X.K X.mg X.base (CXE X.prog X.w) k f fd ps sp1)(i:Pj k X.A)(J:Pm X.K fd ps [])
  (I:Inv X OK Z H s) (r:Vals vs us) (h:sp0 vs H Q E0\/sp1 vs H (λ_ _=>False) λu _ H'=>∀y,u=.ref y->RR (.ref y) H'):Oh (Om X.prog X.w) X.A (call (.ref f) us) (EP X OK Z Q) (XP X OK Z RR) s:=by
 have o:us.length=ps.length:=by
  rw[<-r.length];rcases h with h|h;show l.len _ _ _ _ h;show g.len _ _ _ _ h
 have b:=J s us I.kIn (by rw[Kb];show o);rw[Kb]at b;rcases h with h|h
 .show Qu (Qv (l.run X.A X.stack s H {us,[]} us vs Q E0 i I.env0 b r h) λr j a=>?_);cases r with
  | error e=>show OE a
  | ok c=>
   cases c with
   | ret u=>show I.after a
   | next=>show OE a
   | brk=>show OE a
   | cont=>show OE a
 .show Qu (Qv (g.run X.A X.stack s H {us,[]} us vs _ _ i I.env0 b r h) λr j a=>?_);cases r with
  | error e=>
   have a:CXE X.prog X.w X.stack H s (λu _ H'=>∀y,u=.ref y->RR (.ref y) H') e j:=a;obtain⟨y,C,d,H',v,B,E,m,z,G,q⟩:=I.afterX a;cases G;show{y,C,d,H',v,B,E,m,q y rfl}
  | ok c=>
   cases c with
   | ret u=>have(_,_,_,_,_,_,_,q):=a;show q.elim
   | next=>show OE a
   | brk=>show OE a
   | cont=>show OE a
def x0(y:Pp X.prog X.w X.K X.mg X.base CX0 k f fd ps sp0)(j:Pp X.prog X.w X.K X.mg X.base (CXE X.prog X.w) k f fd ps sp1)(m:Pj k X.A)(u:Gl X x)(o:X.mg x*>(.ref f))(l:Lm X.K (.ref f)=VH)(v:Pm X.K fd ps [])
  (i:PA X.nox (e::es) t) (c:bc (e::es)=VH) (a:(x==("__debug__" : Str))=VG:=by decide):PEX X (.Call (.Name x p) (e::es) [] pos) (zD sp0 sp1 t):=by
 rw[bc,JL]at c;intro d s Z H Q RR I h;show Qf ?_;show ik (X:=X.wish (XP X d Z RR)) (I.wish _) u o ?_ a;show LX (h₀:=X.base) I.ok.mod.kin l (Ov (i pos d s Z H _ (I.wish _) h) (λB E ⟨vs,C,g,r,q⟩=>{g.unwish.kIn,?_}) λ_ _ z=>OE z) (aZ (by exists c.1)) (bT c.2);show B3 y j m v g.unwish r q
end
open PySem.W (Frag)
noncomputable abbrev Cx.suite(X:Cx) (a:Addr):Cx:={X with A:=X.A.mark (VF (.ref a)),calm:=VG,xe:=λ_ _=>False}
section
variable {X:Cx}{OK:!(Addr×Obj)}{Z:St}{H:Hp}{s:Og}{a:Addr}
def Cx.Ok.suite(c:X.Ok)(a:Addr):(X.suite a).Ok:=
 {c.mod,c.kind,c.glob,c.blt,c.above,c.inj,c.has,c.cab,(λz=>nomatch z),(λz=>nomatch z),c.frames,c.stk,c.exf,c.bs,c.bsz,c.noex,c.exfs,c.funs,c.frf}
def Inv.suite(I:Inv X OK Z H s)(a:Addr):Inv (X.suite a) OK Z H s:={I.ok.suite a,I.os,I.bare,I.base,I.loc,I.cell,I.free,I.freeC,I.pin,I.hok,I.len}
def Inv.back(J:Inv X OK [] H s\/X.Ok)(I:Inv (X.suite a) OK Z H s):Inv X OK Z H s:={J.elim (·.ok) id,I.os,I.bare,I.base,I.loc,I.cell,I.free,I.freeC,I.pin,I.hok,I.len}
def uJ(f:Fly s.heap x)(q:Q () s):Oh M A (Tg (.ref x) VE) Q E s:=by
 have(o,vs,j,g,c):=f;unfold Tg;rcases c with c|⟨t,u,k,c,l,h,e,d⟩
 .show Oc (OB j g c ?_);rw[if_neg (by decide)];show Oe q
 .show Oc (OB j g c ?_);rw[if_pos ∅];show PY h e (La.mp d).1 ?_;change Q () {s with heap:=s.heap.update t (ON (·.setIfInBounds 3 OY))};rw[R7 s.heap t u k 3 OY h e d];show q
def Inv.relocal(I:Inv X OK Z H s)(w:h'.Ns X.env.locals m')(hs:OI X.env.locals s.heap h')(A:Z'.length=Z.length)
  (J:∀(i:Nat) (x:Str) (v:V),X.N[i]?*>x->Z'[i]?*>(VF v)->Vis X.env.scope x->∃u,RelV v u/\Gy X.env h' m' x u):Inv X OK Z' H {s with heap:=h',toks:=t'}:=by
 have j:∀b,b<X.s₀.heap.objs.size->h'.get? b=s.heap.get? b:=λb g=>hs.2 b (J3 (Kc g I.ok.above));show{I.ok,I.os,I.bare,{λb o e n g f=>(j b (Ol e)).trans (I.base.keep b o e n g f),λb o e n g f=>?_,I.base.free,λb o e f=>?_,I.base.tups,I.base.frzs,I.base.tbls},{_,w,J},λy c e=>?_,I.free,I.freeC,λp C=>?_,λb G e=>?_,A.trans I.len}
 .have(t,k):=I.base.slot b o e n g f;show{t,(j b (Ol e)).trans k}
 .have(E,k):=I.base.there b o e f;show{E,(j b (Ol e)).trans k}
 .have(m,z):=I.cell y c e;show{m,z.sameBut hs (I.cne y c e)}
 .have(e,n,r,B,d):=I.pin p C;show{(hs.2 p.1 r).trans e,n,r,B,d}
 .show(I.hok b G e).stay (λc m h q=>(hs.2 c ?_).trans q) (λ_ q=>q) λ_ _ q=>q;rintro rfl;rcases h with rfl|h;rw[I.free]at e;cases e;rw[I.free]at h;cases h
def iz(I:Inv X OK Z H s)(p:X.N.Nodup)(g:X.N[j]?*>n)(e:X.env.scope.names.lookup n*>.local)
  (q:∀C,Inv X OK (Z.set j VE) H C->Q () C):Oh M A (do QK X.env n .none;RE X.env n pos) Q E s:=by
 show Oc (QL (cv I p g (.inl e) (v:=.non) (u:=.none) rfl (λS B=>?_) (.inr e)));unfold RE;show RB ?_;have(m,K,r):=id B.loc;have f:j<Z.length:=by rw[I.len];show(JJ.mp g).1
 have(u,_,O):=r j n .non g (KG f) (.inl e);have L:m n*>u:=by
  rcases O with⟨_,z⟩|⟨z,_⟩;show z;rcases z with z|z<;>(rw[show X.env.kindOf n*>.local from e]at z;cases z)
 show wpAny_unbindName_local e K L (by rw[I.ok.kind];rfl) λY w o G=>q _ ?_;show B.relocal (t':=S.toks) o G (by rw[Lr,Lr]) λi x v t h U=>?_;have d:i≠j:=λz=>by rw[z,KG f]at h;cases h
 rw[J4 (Ot d)]at h;have l:x≠n:=λz=>d (jD p t (z▸g));have(P,J,z):=r i x v t (by rw[J4 (Ot d)];show h) U;show{P,J,?_};rcases z with⟨k,z⟩|⟨k,c,z,y⟩;show .inl {k,(if_neg l).trans z};show .inr {k,c,z,y.sameBut G (I.cne x c z)}
end
abbrev II(K:Frag)(g:Addr)(t:TX)(i j:Nat)(ts:TS):TS:=λD Z H=>t Z H (λv f=>D.nx (Z.set i (VF v)) f) λv f=>∃a b C d,v=.ref a/\f a*>(exO b C d a)/\Mr K (.ref C) (.ref g)*>VH /\
 ts {D with nx:=λe c=>D.nx (e.set j VE) c,bk:=λe c=>D.bk (e.set j VE) c,ct:=λe c=>D.ct (e.set j VE) c} (Z.set j (VF v)) f
section
variable {X:Cx}{e:Expr}{t:TX}{ts:TS}{i j:Nat}{x n y:Str}{px py ap hp pos:Pos}{b0:Stmt}{suite:!Stmt}{D0:Addr}
def E6(he:PEX X e t)(p:X.N.Nodup)(hi:X.N[i]?*>x)(hx:X.env.scope.names.lookup x*>.local)(B:X.N[j]?*>n)(o:X.env.scope.names.lookup n*>.local)(m:X.stack=X.env::X.outer)(S:X.env.frame*>X.env.locals)
  (hg:Gl X y) (hm:X.mg y*>(.ref D0)) (hs:∀a,PSs (X.suite a) (b0::suite) ts) (L:(y==("__debug__" : Str))=VG:=by decide) (U:Ra e (VF (.Name x px)) ap.line X.env=pure VG:=by rfl) :
  PS X (.Try [.Assign [.Name x px] e ap] [.ExceptHandler (VF (.Name y py)) (VF n) (b0::suite) hp] [] [] pos) (II X.K D0 t i j ts):=by
 intro Q s Z H D I h;show wpAny_Try_except (Si (Tx (Ov (he Q s Z H _ _ I h) (λu s1 ⟨v,P,E,r1,q1⟩=>?_) λe' s1 z=>?_) U))
 .show cv E p hi (.inl hx) r1 (λs2 G=>?_) (.inr hx);show Qz (Qz {_,P,G,q1})
 .obtain⟨a,C',d',P,rfl,E,Y,fl,a',b,C,d,e1,h1,M,q⟩:=z;cases e1;show pI (base:=X.base) (outer:=X.outer) (by rw[I.ok.frames,m]) (by rw[<-m];show E.stack) S fl λh' l=>?_;rw[<-m]at l;have J:=E.left Y l;have Js:=J.suite a;have(vs,ha,_):=gR J.hok h1;show wpAny_handleBy_cons (codeAny_handlers_test (ik (X:=X.suite a) Js hg hm ?_ L)) (by intro z;cases z);have LT:PySem.W.Looks (Om X.prog X.w) h' (RG (.ref a)) (.ref C):=(PySem.W.Looks.ld ha).andThen .now;show(PySem.W.exm_one J.kIn LT M).here ?_;show codeAny_handlers_suite_as (uJ l.fly ?_);show cv (X:=X.suite a) Js p B (.inl o) (v:=.ref a) rfl (λs2 G=>?_) (.inr o);show Ov (hs a Q s2 _ P _ G q) (λf s3 z=>?_) λ_ _ z=>OE z;change Oh _ _ (do QK X.env n .none;RE X.env n hp) (λ_ A=>SP X Q D f A) X.xe s3;cases f with
  | next=>obtain⟨O,k,g,z⟩:=z;show iz (Inv.back (.inr I.ok) g) p B o λA c=>{_,k,c,z}
  | brk=>obtain⟨O,k,g,z⟩:=z;show iz (Inv.back (.inr I.ok) g) p B o λA c=>{_,k,c,z}
  | cont=>obtain⟨O,k,g,z⟩:=z;show iz (Inv.back (.inr I.ok) g) p B o λA c=>{_,k,c,z}
  | ret u=>obtain⟨v,O,k,g,r,z⟩:=z;show iz (Inv.back (.inr I.ok) g) p B o λA c=>{v,_,k,c,r,z}
end
open PySem.W (Frag)
private def mRz(f:!T->↑T)(a:MA):MS:={λO=>match a.run O with
 | some (c,d)=>(match f (c.map (·.t))with
  | some t=>VF (.rt t,d.map λ_=>VE)
  | none=>VE)
 | none=>VE,a.mu}
abbrev xA:↑(Fl×Rho)->↑(Fl×Rho)
 | some (.rt _,_)=>VE
 | r=>r
private def jy(m:MS):MS:={λO=>xA (m.run O),m.mu}
def uZ(h:xA r*>(f,O)):r*>(f,O)/\∀t,f ≠ .rt t:=by
 cases r with
 | none=>cases h
 | some p=>
  have(g,a):=p;cases g with
  | rt t=>cases h
  | nx=>cases h;show{Xr,λ_ z=>nomatch z}
  | bk=>cases h;show{Xr,λ_ z=>nomatch z}
  | ct=>cases h;show{Xr,λ_ z=>nomatch z}
abbrev zq(m:MS) (n:Nat) (ts:!T):↑I:=match m.run (cA ts n)with
 | some (.rt (.im (.exn x c a)),_)=>VF (.exn x c a)
 | _=>VE
def pw:∀{k:Nat} {Z:St} {O:Rho},aF k Z (O.map λ_=>VE)=[]
 | _,[],_=>rfl
 | _,x::_,[]=>by cases x<;>rfl
 | k,x::Z,y::O=>by cases x<;>show pw (k:=k+1) (Z:=Z) (O:=O)
section
variable {Γ:Gm}{H H3:Hp}{O:Rho}{Z:St}{E:!En}{K:Frag}{a:Addr}{o:HO}{t:T}{v:V}
def Sim.raised(S:Sim Γ H O Z E)(f:H a=VE)(e:Pk H H3)(l:Rp Γ.K (upd H3 a o) t v []):Sim Γ (upd H3 a o) (O.map λ_=>VE) Z [{VE,v,{.ow,t}}]:=by
 have(L,g,_):=S.sl;have st:∀b u,H b*>u->upd H3 a o b*>u:=λb u h=>by
  rw[upd_ne (λz=>by rw[z,f]at h;cases h)];show e b u h
 show{{[{{VE,v,{.ow,t}},[]}],{by simp[Hd.own],λb d=>?_,λx c=>?_,λx c=>?_,by simp,λb u h n=>st b u (g.fr b u h n),λb d=>?_},by rw[pw];rfl},λi r h=>?_,by rw[JK];show S.len,λx c j k=>?_};simp[Hd.own]at d;cases ysM c;show l;cases ysM c;show λb d=>nomatch d;have(u,h):=g.iol b d;show{u,st b u h}
 .rw[JR]at h;cases q : O[i]?<;>rw[q]at h<;>cases h
 .cases ysM c;cases k
end
structure QX{ι : Type}(C:ι->Cx)(K:Frag)(st:Stmt)(m:MS):Prop where
 ex:∃ts,(∀i R,XR (C i) R->PS (C i) st (qI R ts))/\cD K ts m
structure QXs{ι : Type}(C:ι->Cx)(K:Frag)(st:!Stmt)(m:MS):Prop where
 ex:∃ts,(∀i R,XR (C i) R->PSs (C i) st (qI R ts))/\cD K ts m
noncomputable abbrev nox{ι : Type} (C:ι->Cx):ι->Cx:=λi=>(C i).nox
def PS.nox{X:Cx}{st:Stmt}{t:TS}(h:PS X.nox st t):PS X st t:=λa s Z H D I c=>
 Ov (h a s Z H D (I.wish _) c) (λ_ _ q=>q.unwish) λ_ _ z=>OE z
def PG.nox(h:PG X.nox e t):PG X e t:=λc s Z H v u Q I r f=>
 Ov (h c s Z H v u Q (I.wish _) r f) (λ_ _ ⟨g,d,a,q⟩=>⟨g,d,a.unwish,q⟩) λ_ _ z=>OE z
def PI.nox(h:PI X.nox tg e t):PI X tg e t:=λf s Z H R I j=>
 Ov (h f s Z H R (I.wish _) j) (λ_ _ q=>Ov q (λ_ _ z=>by have(it,a,c,J,g,i,d,z):=z;show⟨it,a,c,J,g,i,d.unwish,z⟩) λ_ _ z=>OE z) λ_ _ z=>OE z
section
variable {ι : Type}{C:ι->Cx}{P:Os}{W:Ox}{K:Frag}{mg:Str->↑Od}{base:Heap}{k j:Nat}{c e:Expr}{es:!Expr}{m s1 s2:MS}{mt:MT}{ms:MA}{x:Str}{p pos pos':Pos}{ks:!Str}{run:!T->↑T}{st:Stmt}{rest b1 b2:!Stmt}
def zc(h:cD K ts m):cD K (λD=>ts {D with rt:=λ_ _=>False}) (jy m):=by unhygienic
 intro g H O Z E D f o l r a S q;dsimp[jy]at a q;have(i,d):=uZ a;show h g H O Z E _ f o l r i S ?_;cases f with
 | rt t=>show absurd rfl (d t)
 | nx=>show q
 | bk=>show q
 | ct=>show q
def G7{X:Cx}{t:TS}{R:VK}(h:PS X st t):PS X st (qI R λD=>t {D with rt:=λ_ _=>False}):=λa s Z H D I z=>
 thn (h a s Z H {D with rt:=λ_ _=>False} I z) λf s1 y=>y.imp (λ_ _ z=>z) (λ_ _ z=>z.elim) (λ_ _ z=>z) (λ_ _ z=>z)
def CW(h:QS (nox C) K st m):QX C K st (jy m):=by
 have(t,p,r):=h;show{_,λi R _=>G7 (p i).nox,zc r}
def yO:QX C K st cf:={λ_ _ _=>False,λ_ _ _ _ _ _ _ _ _ h=>h.elim,ke}
def jI:QXs C K [] mNext:={_,λ_ _ _=>tQ,qq}
def gq(a:QX C K st s1):QXs C K [st] s1:=by
 have(t,p,r):=a;show{_,λi R h=>kX (p i R h),r}
def eP(d:QX C K st s1)(a:QXs C K rest s2):QXs C K (st::rest) (aq s1 s2):=by
 have(t,p,r):=d;have(u,g,f):=a;show{FP t u,λi R h=>jG (p i R h) (g i R h),ub r f}
def qd(o:QT (nox C) K c mt)(f:QXs C K b1 s1)(d:QXs C K b2 s2):QX C K (.If c b1 b2 pos) (mIf mt s1 s2):=by
 have(s,l,a):=o;have(t,p,r):=f;have(u,q,g):=d;show{_,λi R h=>CS (l i).nox (p i R h) (q i R h),ua a r g}
def Fq(hp:∀i,QU (Om (C i).prog (C i).w) (C i).A (C i).env (C i).xe)(a:CK (nox C) P W K mg base k)(f:QI (nox C) K tg iter it)(s:QG (nox C) K VE tg g)(t:QXs C K b1 s1)(hs:∀i x,OJ iter (C i).env x=pure x:=by intro _ _;rfl):QX C K (.For tg iter b1 [] pos) (cr it g s1):=by
 have(v,p,r):=f;have(q,l,o,_):=s;have(y,u,d):=t;show{_,λi R h=>yz (hp i) (a.calm i) (p i).nox (l i).nox (u i R h) (hs i),t9 r o d}
def FI(u:ks.length<=2)(w:KJ K Ou x*>(VF (.ref D0)))(ex:ExK K D0)(z:∀F∈ks,Pl K D0 F)(r:fH K ta ms) :
  cD K (tRz K (zH D0 (B6 K run ks) E0 ta)) (mRz (exR x ks run) ms):=by unhygienic
 intro s H O Z E D f X h Y g S q;dsimp[mRz]at g q;ext g N U y;ext g t Q;cases g;show r s H O Z E _ N _ h y S λvs L M l=>?_;have o:=l.rds M;rw[h]at o;show yo u w ex z L vs _ t (λv i=>∃a C d,v=.ref a/\ExK K C/\i a*>(exO VG C d a)/\D.rt v (upd i a (exO VH C d a))) o Q λv H3 n ⟨a,d,A,J,B,G⟩=>{a,D0,d,A,ex,B,q v Z _ (l.drops.raised J n.1 (by rw[h];show G))}
def g9(a:CK (nox C) P W K mg base k)(h:vZ P W K mg base j x ks run)(s:QA (nox C) K (e::es) ms)(z:j+1<=k:=by first|decide|omega)(B:∀i,Gl (C i) x:=by intro _;rfl)(d:(x==("__debug__" : Str))=VG:=by decide):QX C K (.Raise (VF (.Call (.Name x p) (e::es) [] pos)) VE pos') (mRz (exR x ks run) ms):=by
 obtain⟨A,f,l,o,H,t,u,g,G,v,y⟩:=h;have(L,q,n,r):=s;show{_,λi R J=>?_,FI H u g.ex y r};have:=yB (pos:=pos') (PE.nox (xR (X:=(C i).nox) (C:=A) (f:=f) (fd:=l) (ps:=o) (CX:=CX0) (k:=j) (sp:=B6 K run ks) (E:=E0) (p:=p) (pos:=pos) (by rw[a.kk i];show g) (by rw[a.prog i,a.w i,a.kk i,a.mg i,a.base i];show v) ((a.room i).mono z) (B i) (by rw[a.mg i];show t) (by rw[a.kk i];show G) xN (q i) n d)) (a.calm i) J;rw[show(C i).K=K from a.kk i]at this;show this
end
open PySem.W (Frag)
abbrev spX(K:Frag)(run:!T->↑I):Sp:=λvs H _ E=>∃c i,Pr K H c vs/\run c*>i/\∀x a,New K H a (.im i) (.ref x)->E (.ref x) VE a
abbrev PP(P:Os)(w:Ox)(K:Frag)(c:Str->↑Od)(base:Heap)(k:Nat)(name:Str)(ps:!Str)(sp:Sp):Prop:=
 ∃(f:Addr) (d:PV),c name*>(.ref f)/\Pp P w K c base (CXE P w) k f d ps sp/\∃oc e a,K.lookup f*>{oc,e,.func d,a}
section
variable {P:Os}{W:Ox}{K:Frag}{mg:Str->↑Od}{base:Heap}{k j:Nat}{name:Str}{st:Stmt}{N ps:!Str}{run:!T->↑T}{rX:!T->↑I}
noncomputable abbrev dX(P:Os) (W:Ox) (K:Frag) (mg:Str->↑Od) (base:Heap) (k:Nat) (N:!Str) (name:Str) (st:Stmt):DI k name st->Cx:=λd=>iK (CXE P W) P W K mg base N name (ai st) d.f d.cdv d.A d.outer d.s d.H d.E
def ckX:CK (nox (dX P W K mg base k N name st)) P W K mg base k:=
 {λ_=>rfl,λ_=>rfl,λ_=>rfl,λ_=>rfl,λ_=>rfl,λ_=>rfl,λd=>d.hr}
def owX(i:DI k name st):QU (Om (dX P W K mg base k N name st i).prog (dX P W K mg base k N name st i).w) (dX P W K mg base k N name st i).A (dX P W K mg base k N name st i).env (dX P W K mg base k N name st i).xe:=QU.leaving
def Def.qx(d:Def K mg name st ps)(S:Pa N ps (ai st))(h:QXs (dX P W K mg base k N name st) K (ba st) m)
  (c:∀ts,rX ts=if ts.length=ps.length then zq m N.length ts else VE):PP P W K mg base (k+1) name ps (spX K rX):=by
 have(f,fd,B,F,b):=d;obtain⟨oc,M,kV,G,pm,an,o,ct,l,rfl,p,i⟩:=F.ex;show{f,_,B,uK p i S (λvs H Q E z=>?_) (λA g s H vs Q E Z z=>?_),oc,M,l,p}
 .have(ts,t,r,e,_):=z;rw[c]at e;split at e;delta U;rw[r.length,U];cases e
 .have(ts,t,r,e,q):=z;rw[c]at e;ext e;have(y,p1,O):=h;show{y,p1 ⟨f,o,A,g,s,H,E,Z⟩,?_};unfold zq at e;ext e x ks is J w;cases e;show O {K,H,[],[]} H _ _ [] _ _ J rfl ∅ w (ug (N:=N) r) λv Z' X Y=>?_;have n:=wG Y;have(_,F',L,_):=id n;have u:=(aV L).1;rw[RpI]at u;have(C,a,rfl,_):=u;show{a,Xr,q a X n}
end
noncomputable abbrev zB{ι : Type} (C:ι->Cx):ι×Addr->Cx:=λp=>(C p.1).suite p.2
section
variable {ι : Type}{C:ι->Cx}{P:Os}{W:Ox}{K:Frag}{mg:Str->↑Od}{base:Heap}{k:Nat}
def CK.suite(a:CK C P W K mg base k):CK0 (zB C) P W K mg base:={λi=>a.prog i.1,λi=>a.w i.1,λi=>a.kk i.1,λi=>a.mg i.1,λi=>a.base i.1,λi=>(a.room i.1).units}
variable {a b:Expr}{ma mb:ME}{pos:Pos}
def yH(c:CK0 C P W K mg base)(d:QE C K a ma)(f:QE C K b mb):QE C K (.BinOp a .Add b pos) (mOp aW ma mb):=by
 have(l,p,r):=d;have(h,g,e):=f;show{_,λi=>CQ (r:=tZ K) (by have:=tK (X:=C i);rw[c.kk i]at this;show this) (p i) (g i),kf pY r e}
def BB(d:CK0 C P W K mg base)(g:fG op f)(e:QE C K a ma)(o:QE C K b mb)(l:Qo op b=VG):QT C K (.Compare a [op] [b] pos) (aB (mOp f ma mb)):=by
 have(c,s,h):=g;have(u,p,r):=e;have(t,q,m):=o;show{_,λi=>tR (r:=c K) (by have:=s (C i) (d.un i);rw[d.kk i]at this;show this) (p i) (q i) l,lY (kf (h K) r m)}
end
abbrev okX(a:Tab) (y:Str):I->Bool
 | .exn z _ _=>(kK a z).isSome&&rh z y &&  ~~~rh y z
 | _=>VG
def Ec{K:Frag}{mg:Str->↑Od}{c:Tab}{y:Str}{H:Hp}{i:I}{v:V}(u:gL K mg c)(X:∃q∈c,q.1=y)(h:okX c y i=VH)(r:RpI K H i v){D:Addr}(m:mg y*>(.ref D)) :
  ∃a b C d,v=.ref a/\H a*>(exO b C d a)/\Mr K (.ref C) (.ref D)*>VH:=by
 have(q,s,rfl):=X;cases i with
 | exn z ks Z=>
  rw[okX,JL,JL,Kt]at h;obtain⟨⟨E,L⟩,M⟩:=h;have(p,S):=Li.mp E;have(o,J):=ie S;subst J;rw[RpI]at r;have(C,a,rfl,A,b,G):=r;have(C',w,Q,ex,_,_,U):=u.2 p o;rw[A]at w;cases w;have(D1,t,g):=U q s;rw[m]at t;cases t;have(D2,_,x,exD,_,_,B):=u.2 q s;rw[m]at x;cases x;have(C2,c2,f):=B p o;rw[Q]at c2;cases c2;have Y:¬ (Oy C==Oy D)=VH:=λz=>by
   have z:C=D:=by exists z
   subst z;rw[M]at f;unfold KZ at f;rw[if_pos ∅]at f;cases f
  unfold KZ at g;rw[if_neg Y,L]at g;have e:Mr K (.ref C) (.ref D)*>VH:=by
   unfold Mr;rw[if_pos (by rw[exD.sub];rfl),g]
  rcases G with⟨_,_,l⟩|⟨O,ys,l,_⟩;show⟨a,b,C,VE,Xr,l,e⟩;show{a,b,C,VF O,Xr,l,e}
 | _=>cases h
abbrev vO(r:!T->↑T) (ts:!T):Bool:=match r ts with
 | some (.im .non)=>VH
 | _=>VG
abbrev FT(i:Nat) (t:T) (O:Rho):↑(Fl×Rho):=((ag i).run {.ow,t} O).map λa=>(.nx,a)
abbrev FS(j:Nat) (b:MS) (e:I) (O:Rho):↑(Fl×Rho):=match (ag j).run {.ow,.im e} O with
 | some a=>(b.run a).map λp=>(p.1,fgt j p.2)
 | none=>VE
private def pM(c:Tab)(y:Str)(d:!T->Bool)(h:!T->↑T)(rX:!T->↑I)(a:MA)(i j:Nat)(b:MS):MS:={λO=>match a.run O with
 | some (f,g)=>if d (f.map (·.t))=VH then(match h (f.map (·.t))with
   | some t=>FT i t g
   | none=>VE)
  else(match rX (f.map (·.t))with
   | some e=>if okX c y e=VH then FS j b e g else VE
   | none=>VE)
 | none=>VE,a.mu++(i::j::b.mu)}
def xl(h:∀x∈A,x∈B):ah B (ah A E)=ah B E:=by
 unfold ah;rw[LZ];congr 1;funext e;unfold aD;split
 .rename_i j _;cases q:B.contains j with
  | true=>simp
  | false=>
   have:A.contains j=VG:=by
    cases z:A.contains j with
    | false=>rfl
    | true=>
     have:=h j (by exists z);rw[<-M4,q]at this;cases this
   rw[this];rfl
 .rfl
def Sim.up(S:Sim Γ H O Z (ah A E))(h:∀x∈A,x∈B):Sim Γ H O Z (ah B E):=by
 rw[<-xl h];show S.weak B
def Sim.unset(S:Sim Γ H (L2.fgt j O) Z E):Sim Γ H (L2.fgt j O) (Z.set j VE) E:=by
 unfold L2.fgt at S|-;show{by rw[jU];show S.sl,λi r h=>?_,by rw[Lr];show S.len,S.hi};by_cases e:j=i
 .subst e;rw[List.getElem?_set]at h;split at h;split at h<;>cases h;contradiction
 .rw[J4 e];show S.al i r h
def BW{K:Frag}{mg:Str->↑Od}{m:Tab}{y:Str}{D0:Addr}{rN:!T->↑T}{rX:!T->↑I}{a:MA}{ta:TA}{b:MS}{ts:TS}{i j:Nat}{L:!T->Bool}(hE:gL K mg m)(hy:∃q∈m,q.1=y)(hD:mg y*>(.ref D0))(ha:fH K ta a)(hb:cD K ts b) :
  cD K (II K D0 (zD (spP K rN) (spX K rX) ta) i j ts) (pM m y L rN rX a i j b):=by unhygienic
 intro s H O Z E D f O' r J c S q;dsimp[pM]at c q;ext c rs O1 e1;show ha s H O Z E _ rs _ r e1 S λvs H1 hl S1=>?_;have U:=S1.rds hl;rw[r]at U;split at c
 .ext c t e2;show .inl {_,t,U,e2,λv Y n=>?_};unfold FT at c;have(M,G,X):=KA.mp c;cases X;rw[<-r]at n;show hJ (K:=K) (i:=i) s Y O1 Z _ _ v {.ow,t} _ r G (S1.drops.fresh n) λu w B=>q u w (by rw[show(ag i).mu=[i]from rfl,af]at B;show B.up λx o=>by dsimp[LU,Kq,Ku,or_false]at o|-;rcases o with h|h<;>simp[h])
 .ext c e G;ext c o;show .inr {_,e,U,G,λx Y n z hz=>?_};cases hz;have(_,F',rp,_):=id n;have(a',b',C,d,X,h4,h5):=Ec hE hy o (aV rp).1 hD;show{a',b',C,d,X,h4,h5,?_};unfold FS at c;ext c M e5;have(p,e6,e7):=KA.mp c;have(g,O3):=p;cases e7;rw[<-r]at n;show hJ (K:=K) (i:=j) s Y O1 Z _ (λu w=>ts _ u w) (.ref x) {.ow,.im e} M r e5 (S1.drops.fresh n) λu w B=>?_;show hb s w M u _ _ g O3 r (bC (bC J)) e6 B ?_;have Q:∀{O:Rho} {Z:St} {H:Hp},Sim s H O Z (ah b.mu (ah (ag j).mu (ah a.mu E)))->Sim s H (fgt j O) (Z.set j VE) (ah (a.mu++(i::j::b.mu)) E):=λ{O Z H} l=>by
   have S4:=(l.fgt j).unset;rw[show(ag j).mu=[j]from rfl,af,af,af]at S4;show S4.up λx o=>by dsimp[LU,Kq,Ku,or_false]at o|-;rcases o with h|h|h|h<;>simp[h]
  cases g with
  | nx=>show λA H3 l=>q _ H3 (Q l)
  | bk=>show λA H3 l=>q _ H3 (Q l)
  | ct=>show λA H3 l=>q _ H3 (Q l)
  | rt t=>show λv A H3 l=>q v A H3 (l.fgt j)
section
variable {ι : Type}{C:ι->Cx}{P:Os}{W:Ox}{K:Frag}{mg:Str->↑Od}{base:Heap}{k l:Nat}{tab:Tab}{x y z n:Str}{e:Expr}{es:!Expr}{ps:!Str}{rN:!T->↑T}{rX:!T->↑I}{ms:MA}{b:MS}{b0:Stmt}{suite:!Stmt}{px py p cp ap hp pos:Pos}
def Fk(m:!T->Bool)(i j:Nat)(c:CK C P W K mg base k)(L:gL K mg tab)(h0:Has P W K mg base l x ps (spP K rN))(h1:PP P W K mg base l x ps (spX K rX))(Q:QA (nox C) K (e::es) ms)(hb:QSs (zB C) K (b0::suite) b)(h:∀a,(C a).N.Nodup)(H:∃q∈tab,q.1=y:=by decide)
  (hl:l<=k:=by first|decide|omega) (hi:∀a,(C a).N[i]?*>z:=by intro _;rfl) (hz:∀a,(C a).env.scope.names.lookup z*>.local:=by intro _;rfl) (hj:∀a,(C a).N[j]?*>n:=by intro _;rfl) (Z:∀a,(C a).env.scope.names.lookup n*>.local:=by intro _;rfl)
  (B:∀a,(C a).stack=(C a).env::(C a).outer:=by intro _;rfl) (t:∀a,(C a).env.frame=VF (C a).env.locals:=by intro _;rfl) (hg:∀a,Gl (C a) x:=by intro _;rfl) (v:∀a,Gl (C a) y:=by intro _;rfl) (u:(x==("__debug__" : Str))=VG:=by decide) (o:(y==("__debug__" : Str))=VG:=by decide)
  (A:∀a,Ra (.Call (.Name x p) (e::es) [] cp) (VF (.Name z px)) ap.line (C a).env=pure VG:=by intro _;rfl) :
  QS C K (.Try [.Assign [.Name z px] (.Call (.Name x p) (e::es) [] cp) ap] [.ExceptHandler (VF (.Name y py)) (VF n) (b0::suite) hp] [] [] pos) (pM tab y m rN rX ms i j b):=by
 obtain⟨f,O,G,kp,bd,F0,oc,od,osl,lk⟩:=h0;have(f',S,M,U,Y,od',J,d):=h1;rw[G]at M;cases M;rw[lk]at d;cases d;have(ta,q,ns,r):=Q;have(ts,q2,r2):=hb;have(q0,hq,rfl):=id H;have(D0,_,E,_):=L.2 q0 hq;show{_,λa=>?_,BW L H E r r2};have g:Pp (C a).prog (C a).w (C a).K (C a).mg (C a).base CX0 l f O ps (spP K rN):=by rw[c.prog a,c.w a,c.kk a,c.mg a,c.base a];show F0
 have s:Pp (C a).prog (C a).w (C a).K (C a).mg (C a).base (CXE (C a).prog (C a).w) l f O ps (spX K rX):=by rw[c.prog a,c.w a,c.kk a,c.mg a,c.base a];show U
 have:=E6 (X:=C a) (x0 (p:=p) (pos:=cp) g s ((c.room a).mono hl) (hg a) (by rw[c.mg a];show G) (by rw[c.kk a];show kp) (by rw[c.kk a];show bd) (q a) ns u) (h a) (hi a) (hz a) (hj a) (Z a) (B a) (t a) (v a) (by rw[c.mg a];show E) (λb=>q2 (a,b)) (px:=px) (py:=py) (ap:=ap) (hp:=hp) (pos:=pos) o (A a);rw[c.kk a]at this;show this
end
def zQ:∀{c:!(Key×V)} {vs:!(Key×Od)} {us:!Od},KV c vs->us.length=vs.length->(∀(i:Nat) (v:Od),us[i]?*>v->∃k,vs[i]?*>(k,v))->Vals (c.map (·.2)) us
 | [],_,us,.nil,a,_=>by have:us=[]:=KR.mp a;subst this;show .nil
 | p::ps,_,us,.cons (b:=q) r t,a,h=>by
  cases us with
  | nil=>cases a
  | cons u us=>
   show .cons ?_ (zQ t (by exists a) λi v e=>by simpa using h (i+1) v (by exists e));have(k,e):=h 0 u rfl;simp at e;change RelV p.2 u;have:=r.2;rw[e]at this;show this
abbrev zI(e:TE):TE:=λZ H Q=>e Z H λx d=>∃a c,x=.ref a/\Rd d a (.dK c)/\∀l,d l=VE->Q (.ref l) (upd d l (.lst (c.map (·.2))))
def xX(Y:X.calm=VH)(hg:Gl X "list")(hm:X.mg "list" = VE)(ho:PE X o te)
  (c:O6 o "values" X.env (eval o X.env)=eval o X.env:=by rfl) (d:(apos.endLine==pos2.line)=VH:=by rfl) :
  PE X (.Call (.Name "list" p) [.Call (.Attribute o "values" apos) [] [] pos2] [] pos) (zI te):=by
 intro OK s Z H Q I h;show Qf (gS I hg hm boot_list ?_);show K6 ?_ rfl rfl;rw[show OD [.Call (.Attribute o "values" apos) [] [] pos2] X.env=[(VG,eval (.Call (.Attribute o "values" apos) [] [] pos2) X.env)]from rfl];change Oh _ _ (spliced ((VG,eval (.Call (.Attribute o "values" apos) [] [] pos2) X.env)::[])) _ _ s;show Tq ?_;show Sl c d (thn (ho OK s Z H _ I h) λv f z9=>?_);have(x,H1,u,r1,S):=z9;have(a,C,rfl,O,q):=S;cases r1;have(z,G,vs,m,t):=wy u.hok O;have(E,A):=t.dictAt;have hl:C.length=vs.length:=Paired.length m;show{"dict","dict.values",PySem.F.plainAttrs_dict,Tv,F.type_dict_values,t.typeIs,λb eb=>?_,Rh rfl (Nd ?_)}
 .cases eb;have(od,es,L,e2,_):=A;show⟨od,L,e2.2.1⟩
 show call_meetsIn Tv t.typeIs F.entry_dict_values (F.args_dict_values_1 _) (meets_dict_values (cx X.prog X.w) a G) {⟨vs,t⟩,?_};show TC ?_;show PySem.W.kdl_call (s:={f with heap:=f.heap.push {cls:=.type "dict_values",data:=.fields #[.ref a]}}) (PySem.W.kdl_values (r:=f.heap.objs.size) (kvs:=vs) (ep:=E)) (u.ok.hd Y) {{_,Oq _ rfl,Xr,Xr},A.push _} ⋯ λU tk g c' J M y=>?_;have l:f.heap.objs.size<=(f.heap.push {cls:=.type "dict_values",data:=.fields #[.ref a]}).objs.size:=by rw[OW];show Mv _
 show{.ref _,_,u.laid (t':=tk) (λb o e=>J b o (Of _ e)) l (show Pe X.prog X.w _ U _ (.lst (C.map (·.2)))from{by rw[JK];show z,g.toList,c',?_,by rw[Array.toArray_toList];show M}),Xr,q _ (u.hok.fresh l)};show zQ m (by rw[KY];show y.1) λi v e=>y.2 i v (by rw[<-M3];show e)
section
variable {prog:Os}{w:Ox}{A:Oz}{E:Od->Og->Prop}
def pi(m:l≠it):∀(n i:Nat) (s:Og) (Q:!Od->Og->Prop),s.heap.IsListIter it l i->s.heap.IsList l items->i+n<=items.size ->
  (∀h',h'.IsListIter it l (i+n)->OI it s.heap h'->Q ((items.toList.drop i).take n) {s with heap:=h'})->Oh (Om prog w) A (draw (.ref it) n) Q E s
 | 0,i,s,Q,a,_,_,q=>Oe (by simpa using q s.heap a (Vy ..))
 | n+1,i,s,Q,a,g,z,q=>by
  have lt:i<items.size:=by omega
  change Oh _ _ (Rc (.ref it) >>= _) Q E s;show Oc (Re a g (x:=items[i]) (by simp[lt]) λt d p=>?_);have f:t.IsList l items:=g.at λo e=>(p.2 l m).trans e;show Oc (OA (pi m n (i+1) _ _ d f ⋯ λr c u=>Oe ?_));have:=q r (by rw[show i+(n+1)=i+1+n by omega];show c) (p.trans u);rw[show items.toList.drop i=items[i]::items.toList.drop (i+1) by simp[KW,lt],List.take_succ_cons]at this;show this
def sB(r:A.handled=VE)(c:s.heap.IsList l items)(q:targets.length=items.size)(hs:targets.findIdx? (·.1)=VE)
  (h:∀h',Ui s.heap.objs.size s.heap h'->Oh (Om prog w) A (Q0 (targets.map (·.2)) items.toList) Q E {s with heap:=h'}):Oh (Om prog w) A (unpack (.ref l) targets) Q E s:=by
 have g:l≠s.heap.objs.size:=by have(o,u,_):=c;show J3 (Ol u)
 unfold unpack;rw[q,hs];show Oc (OA ?_);unfold Ue notIterableAtAll;show Oc (Oc (SG c.typeIs slot_list_iter.lookup (Oe ?_)));dsimp[Le,if_false];show Oc (OA (QH c ?_));have a:(s.heap.push {cls:=.type "list_iterator",data:=.fields #[.ref l,.int 0 0]}).IsList l items:=c.at λo e=>Of _ e;show Oc (OA (pi g items.size 0 _ _ {_,Oq _ rfl,Xr,Xr} a ⋯ λv d i=>?_));rw[show List.take items.size (List.drop 0 items.toList)=items.toList by rw[Mp];show J1 ∅];rw[if_neg ∅];show Oc (OA (Rl r d (a.at λo e=>(i.2 l g).trans e) ∅ λp t=>?_));dsimp[Option.isSome_none,Le,if_false];show Oe (h p λb o m e=>t b o m (i.extBut b o m (Of _ e)))
end
abbrev CA(K:yF)(n:Nat)(t:TGs):TG:=λv Z H Q=>∃a c,v=.ref a/\SqL K H a c/\c.length=n/\t c Z H Q
def Bc(C:X.calm=VH)(h:PGs X es t)(m:(O9 es X.env).length=n:=by rfl)(d:(O9 es X.env).findIdx? (·.1)=VE:=by rfl):PG X (.Tuple es k pos) (CA X.K n t):=by
 intro g s Z H v u Q I r c;obtain⟨a,l,w,p,q,c⟩:=c;subst w;cases r;obtain⟨A,f,x,E⟩:=I.list p;rw[assign_Tuple];show Oc (OZ (sB (I.ok.hd C) x.isList (by simp[m,<-q,f.length]) d λB z=>?_));have y:Inv X g Z H {s with heap:=B}:=I.kept (t':=s.toks) λb o e=>z b o (J3 (Ol e)) e;show h g _ Z H l _ Q y (by exists f) c
open PySem.W (Frag)
abbrev C4(K:Frag):R2:=λx y H Q=>∃a c,PN K H x a/\PN K H y (.list c)/\a.depth<=50/\Q (.bl (~~~(c.any λz=>Vu z a))) H
section
variable {X:Cx}
def AX(r:X.A.units+64<P7):OpR X (OQ .NotIn) (C4 X.K):=by
 intro t s Z H x y v u Q J f l h;have(d,e,i,c,p,q):=h;have(w,m,g):=i.reads J f;have(z,o,a):=c.reads J l;rw[Qi]at a;show SeqAt.notIn_list_reads o m a g (by have:=NA (Qc.depthAll e) d.depth;omega) {.bl _,H,J,Xr,q}
end
private def xw:T->T->↑T:=dt2 λd a=>(Ct d a).map (~~~·)
def wo:fG .NotIn xw:=by
 show{C4,λ_ h=>AX h,λK H x y p s t Q o l e q=>?_};unfold xw at e;have(d,r,b,m,f,g,c,rfl):=Ap e;have(u,a,i):=KA.mp c;subst i;clear c e;unfold Ct at a;ext a;obtain rfl:=Ke.inj a;show{d,_,wA o m,wA l f,g,q _ _ (.sc rfl)}
private def nJ:T->↑T
 | .di a=>VF (.li (a.map (·.2)))
 | _=>VE
def vk{K:Frag}:jf K (λx H Q=>∃a kvs,x=.ref a/\Rd H a (.dK kvs)/\∀l,H l=VE->Q (.ref l) (upd H l (.lst (kvs.map (·.2))))) nJ:=by
 intro H x m t Q r e q;unfold nJ at e;ext e;cases e;obtain⟨F,r⟩:=r;rw[Rp]at r;obtain⟨a,h,rfl,⟨f,d,rfl⟩,c,i,_⟩:=r;show{a,f,Xr,.inl d,λl g=>q _ _ (.li g ?_)};rw[Kr]at c;show c
section
variable {ι : Type}{C:ι->Cx}{P:Os}{W:Ox}{K:Frag}{mg:Str->↑Od}{base:Heap}{k:Nat}{o:Expr}{m:ME}{p apos pos pos2:Pos}{st:Stmt}{sts:!Stmt}{s:MS}
def Bu(d:CK C P W K mg base k)(T:Bi mg)(e:QE C K o m)(f:∀i,Gl (C i) "list" :=by intro _;rfl)(c:∀i,O6 o "values" (C i).env (eval o (C i).env)=eval o (C i).env:=by intro _;rfl)(a:(apos.endLine==pos2.line)=VH:=by rfl) :
  QE C K (.Call (.Name "list" p) [.Call (.Attribute o "values" apos) [] [] pos2] [] pos) (mUn nJ m):=by
 have(g,q,r):=e;show{zI g,λi=>xX (d.calm i) (f i) (by rw[d.mg i];show T.b_list) (q i) (c i) a,kh vk r}
def BD(ks:!Nat)(h:QXs C K sts s):QXs C K sts (bS ks s):=by
 have(t,p,r):=h;show{t,p,oQ r}
end
private def lF(a:MGs):MG:={λr O=>match r with
 | ⟨.ow,.li c⟩=>a.run (c.map λi=>{.ow,.im i}) O
 | _=>VE,a.mu}
def vB{K:Frag}{i:TGs}{e:MGs}{n:Nat}(h:mI K i e)(o:∀rs O f,e.run rs O*>f->rs.length=n):jg K (CA K n i) (lF e):=by
 intro m H O Z E Q v r f t c S q;dsimp[lF]at c q;ext c l;have(a,d,rfl,s,g):=bW (S.rd ymS);have p:d.length=l.length:=g.length;show{a,d,Xr,aQ s,?_,h m H O Z E _ d _ f t c ?_ ((S.drop rfl).imms g) q}
 .have:=o _ _ _ c;rw[JK]at this;omega
 .rw[JK];show p
section
variable {ι : Type}{C:ι->Cx}{P:Os}{W:Ox}{K:Frag}{mg:Str->↑Od}{base:Heap}{k:Nat}{es:!Expr}{gs:MGs}{pos:Pos}
def Bw(c:CK C P W K mg base k)(h:QGs C K VE n es gs)(e:∀i,(O9 es (C i).env).length=n:=by intro _;rfl)(a:∀i,(O9 es (C i).env).findIdx? (·.1)=VE:=by intro _;rfl):QG C K VE (.Tuple es k0 pos) (lF gs):=by
 have(g,p,r,_,l):=h;show{_,λi=>(c.kk i)▸Bc (c.calm i) (p i) (e i) (a i),vB r l,λf d=>nomatch d}
end
end L2
namespace L2
open PySem
noncomputable section
abbrev iX:MS:=(aq (mIf (aB (mOp neT (mIx (ae 0) (mC (.int 0))) (mIx (ae 1) (mC (.int 0))))) cf mNext)
  (aq (mIf (aB (mOp neT (mIx (ae 0) (mC (.int 1))) (mIx (ae 1) (mC (.int 1))))) cf mNext)
  (aq (mIf (aB (mOp (dH λi j=>decide (j<i)) (mOp aW (mB bG (aa (mIx (ae 0) (mC (.int 2))) mNil)) (mB bG (aa (mIx (ae 1) (mC (.int 2))) mNil))) (mC (.int 6)))) cf mNext)
  (aq (aC (bg [VE,VE,VE,VE,VE,VE] (mIt (mIx (ae 0) (mC (.int 2)))) (bH (ay (ag 3) (ay (ag 4) mGNil))) mYes (ae 3)) (ag 2))
  (aq (cr (mIt (mIx (ae 1) (mC (.int 2)))) (bH (ay (ag 3) (ay (ag 4) mGNil)))
  (bS [3,4] (mIf (aB (mOp inT (ae 3) (ae 2))) cf mNext)))
  (aq (aC (ar [] (aa (mIx (ae 0) (mC (.int 0))) (aa (mIx (ae 0) (mC (.int 1))) (aa (mOp aW (mIx (ae 0) (mC (.int 2))) (mIx (ae 1) (mC (.int 2)))) mNil)))) (ag 5))
  (aq (mIf (aB (mOp (dH λi j=>decide (j<i)) (mB bG (aa (mB dZ (ac 5 mNil)) mNil)) (mC (.int 16)))) cf mNext)
  (bh (ae 5)))))))))
abbrev i6(ts:!T):↑T:=if ts.length=2 then du iX 6 ts else VE
abbrev gk:MS:=(aq (mIf (aB (mOp neT (mIx (ae 0) (mC (.int 0))) (mIx (ae 1) (mC (.int 0))))) (mRz (exR "NoHouse" ["word","name"] bL) (aa (mC (.str "ways")) (aa (mC (.str "")) mNil))) mNext)
  (aq (mIf (aB (mOp neT (mIx (ae 0) (mC (.int 1))) (mIx (ae 1) (mC (.int 1))))) (mRz (exR "NoHouse" ["word","name"] bL) (aa (mC (.str "wheel")) (aa (mC (.str "")) mNil))) mNext)
  (aq (mIf (aB (mOp (dH λi j=>decide (j<i)) (mOp aW (mB bG (aa (mIx (ae 0) (mC (.int 2))) mNil)) (mB bG (aa (mIx (ae 1) (mC (.int 2))) mNil))) (mC (.int 6)))) (mRz (exR "NoHouse" ["word","name"] bL) (aa (mC (.str "desks")) (aa (mC (.str "")) mNil))) mNext)
  (aq (jy (aC (bg [VE,VE,VE,VE,VE,VE] (mIt (mIx (ae 0) (mC (.int 2)))) (bH (ay (ag 3) (ay (ag 4) mGNil))) mYes (ae 3)) (ag 2)))
  (aq (cr (mIt (mIx (ae 1) (mC (.int 2)))) (bH (ay (ag 3) (ay (ag 4) mGNil)))
  (bS [3,4] (mIf (aB (mOp inT (ae 3) (ae 2))) (mRz (exR "NoHouse" ["word","name"] bL) (aa (mC (.str "name")) (ac 3 mNil))) mNext)))
  (aq (jy (aC (ar [] (aa (mIx (ae 0) (mC (.int 0))) (aa (mIx (ae 0) (mC (.int 1))) (aa (mOp aW (mIx (ae 0) (mC (.int 2))) (mIx (ae 1) (mC (.int 2)))) mNil)))) (ag 5)))
  (aq (mIf (aB (mOp (dH λi j=>decide (j<i)) (mB bG (aa (mB dZ (ac 5 mNil)) mNil)) (mC (.int 16)))) (mRz (exR "NoHouse" ["word","name"] bL) (aa (mC (.str "steps")) (aa (mC (.str "")) mNil))) mNext)
  cf)))))))
abbrev dY(ts:!T):↑I:=if ts.length=2 then zq gk 6 ts else VE
abbrev fh(rec:!T->↑T):MS:=(aq (mIf (aB (mOp eqT (mIx (ae 0) (mC (.int 0))) (mC (.str "num")))) (bh (ae 0)) mNext)
  (aq (mIf (aB (mOp eqT (mIx (ae 0) (mC (.int 0))) (mC (.str "at")))) (bh (ar [] (aa (mC (.str "at")) (aa (mOp dgT (ae 1) (mIx (ae 0) (mC (.int 1)))) (aa (pK (mOp aW (mIx (ae 0) (mC (.int 2))) (ar [] (aa (mC (.int 0)) (aa (mC (.int 1)) mNil)))) mNoPart (ff (ae 2))) mNil))))) mNext)
  (aq (aC (mOp aW (mC (.int 1)) (mB pE (aa (mOp eqT (mIx (ae 0) (mC (.int 0))) (mC (.str "op"))) mNil))) (ag 3))
  (bh (mOp aW (pK (ae 0) mNoPart (ff (ae 3))) (mB kn (aa (bg [VE,VF 1,VF 2,VE,VE] (mIt (pK (ae 0) (ff (ae 3)) mNoPart)) (ag 4) mYes (mB rec (ac 4 (ac 1 (ac 2 mNil))))) mNil)))))))
abbrev dq:Nat->!T->↑T
 | 0=>λa=>if a.length=3 then du cf 4 a else VE
 | n+1=>λa=>if a.length=3 then du (fh (dq n)) 4 a else VE
abbrev gj:MS:=(aq (nq 2 3 4 (aa (am 0 0 ak (ac 0 (aa (mC (.int 4)) mNil))) (aa (am 0 0 ak (ac 0 (aa (mC (.int 3)) mNil))) (aa (am 0 0 ak (ac 0 (aa (mC (.int 4)) mNil))) mNil))))
  (aq (aC (am 0 0 iE (ac 0 mNil)) (bH (ay (ag 5) (ay (ag 6) (ay (ag 7) mGNil)))))
  (aq (mIf (aB (mOp (dH λi j=>decide (j<i)) (ae 2) (mC (.int 0)))) (aC (mIx (ae 1) (mC (.int 0))) (ag 5)) mNext)
  (aq (mIf (aB (mOp (dH λi j=>decide (j<i)) (ae 4) (mC (.int 0)))) (aC (mIx (ae 1) (mC (.int 1))) (ag 6)) mNext)
  (aq (aC (mB pe (aa (bg [VE,VE,VE,VE,VE,VE,VE,VE,VE,VE,VE,VE,VE] (mIt (ae 7)) (bH (ay (ag 9) (ay (ag 12) mGNil))) mYes (ar [9] (ac 9 (aa (mOp aW (ae 9) (mC (.str "u"))) mNil)))) mNil)) (ag 8))
  (aq (bS [9,10] (mIf (aB (mOp eqT (ae 3) (mC (.int 0)))) (aq (aC (mIx (mIx (ae 7) (am 0 0 ak (ac 0 (aa (mB bG (ac 7 mNil)) mNil)))) (mC (.int 0))) (ag 9))
  (aq (aC (mIx (mIx (mIx (ae 1) (mC (.int 2))) (am 0 0 ak (ac 0 (aa (mB bG (aa (mIx (ae 1) (mC (.int 2))) mNil)) mNil)))) (mC (.int 0))) (ag 10))
  (mIf (aB (mOp pT (ae 10) (mUn nJ (ae 8)))) (aC (ae 10) (kC 8 (ae 8) (ae 9))) mNext))) mNext))
  (aq (bS [11] (mIf (mw (aB (mOp eqT (ae 3) (mC (.int 1)))) (aB (mOp (dH λi j=>decide (j<i)) (mB oA (aa (mB bG (ac 7 mNil)) (aa (mB bG (aa (mIx (ae 1) (mC (.int 2))) mNil)) mNil))) (mC (.int 1))))) (aq (aC (aU [] (aa (mIx (mIx (mIx (ae 1) (mC (.int 2))) (mC (.int 1))) (mC (.int 0))) (aa (mIx (mIx (mIx (ae 1) (mC (.int 2))) (mC (.int 0))) (mC (.int 0))) mNil))) (ag 11))
  (mIf (aB (mOp eqT (bg [VE,VE,VE,VE,VE,VE,VE,VE,VF 8,VE,VE,VE,VE] (mIt (ae 11)) (ag 12) (aB (mOp inT (ae 12) (mUn nJ (ae 8)))) (ae 12)) (aU [] mNil))) (aq (aC (mIx (ae 11) (mC (.int 0))) (kC 8 (ae 8) (mIx (mIx (ae 7) (mC (.int 0))) (mC (.int 0)))))
  (aC (mIx (ae 11) (mC (.int 1))) (kC 8 (ae 8) (mIx (mIx (ae 7) (mC (.int 1))) (mC (.int 0)))))) mNext)) mNext))
  (bh (ar [5,6] (ac 5 (ac 6 (aa (mB kn (aa (bg [VE,VE,VE,VE,VE,VF 5,VE,VE,VF 8,VE,VE,VE,VE] (mIt (ae 7)) (bH (ay (ag 9) (ay (ag 12) mGNil))) mYes (ar [] (aa (mOp dgT (ae 8) (ae 9)) (aa (mB (dq 24) (ac 12 (ac 8 (ac 5 mNil)))) mNil)))) mNil)) mNil))))))))))))
abbrev i5(ts:!T):↑(T×T):=if ts.length=2 then fW gj 0 12 ts else VE
abbrev gi:MS:=(aq (aC (ar [] (aa (mOp aW (mC (.int 2)) (am 0 0 ak (ac 0 (aa (mC (.int 9)) mNil)))) (aa (am 0 0 ak (ac 0 (aa (mC (.int 13)) mNil))) (aa (mOp aW (mC (.int 5)) (am 0 0 ak (ac 0 (aa (mC (.int 7)) mNil)))) mNil)))) (bH (ay (ag 2) (ay (ag 3) (ay (ag 4) mGNil)))))
  (aq (aC (aU [] mNil) (ag 5))
  (aq (cr (mIt (ar [] (aa (ar [4] (aa (mC (.str "p")) (ac 4 mNil))) (aa (ar [] (aa (mC (.str "q")) (aa (mOp aW (mOp cW (mC (.int 16)) (ae 4)) (ae 1)) mNil))) mNil)))) (bH (ay (ag 6) (ay (ag 7) mGNil)))
  (bS [6,7,8] (aq (aC (bg [VE,VE,VE,VF 3,VE,VE,VF 6,VE,VE,VE] (bt (ac 7 mNil)) (ag 9) mYes (ar [6] (aa (mC (.str "at")) (ac 6 (aa (ar [] (aa (mOp cW (mOp gK (mOp aW (ae 3) (ae 9)) (mC (.int 5))) (mC (.int 2))) (aa (mOp cW (mOp jo (mOp aW (ae 3) (ae 9)) (mC (.int 5))) (mC (.int 2))) mNil))) mNil))))) (ag 8))
  (bD (dm 5 [] apT (ae 5) (aa (ar [2] (aa (mC (.int 2)) (ac 2 (aa (ar [] (aa (ar [6] (ac 6 (aa (am 0 0 iD (ac 0 (ac 8 mNil))) mNil))) mNil)) mNil)))) mNil))))))
  (bh (ae 5)))))
abbrev gt(ts:!T):↑(T×T):=if ts.length=2 then fW gi 0 9 ts else VE
abbrev gf:MS:=(aq (aC (bg [VE,VE,VE,VE,VE,VE] (mIt (mIx (ae 0) (mC (.int 2)))) (bH (ay (ag 4) (ay (ag 5) mGNil))) mYes (ae 4)) (ag 2))
  (aq (aC (bg [VE,VE,VF 2,VE,VE,VE] (mIt (mIx (ae 1) (mC (.int 2)))) (bH (ay (ag 4) (ay (ag 5) mGNil))) (aB (mOp inT (ae 4) (ae 2))) (ae 4)) (ag 3))
  (aq (mIf (aB (mOp neT (mIx (ae 0) (mC (.int 0))) (mIx (ae 1) (mC (.int 0))))) (bh (ar [] (aa (mC (.str "ways")) (aa (mC (.str "")) mNil)))) mNext)
  (aq (mIf (aB (mOp neT (mIx (ae 0) (mC (.int 1))) (mIx (ae 1) (mC (.int 1))))) (bh (ar [] (aa (mC (.str "wheel")) (aa (mC (.str "")) mNil)))) mNext)
  (aq (mIf (aB (mOp (dH λi j=>decide (j<i)) (mOp aW (mB bG (aa (mIx (ae 0) (mC (.int 2))) mNil)) (mB bG (aa (mIx (ae 1) (mC (.int 2))) mNil))) (mC (.int 6)))) (bh (ar [] (aa (mC (.str "desks")) (aa (mC (.str "")) mNil)))) mNext)
  (aq (mIf (aB (mOp neT (ae 3) (aU [] mNil))) (bh (ar [] (aa (mC (.str "name")) (aa (mIx (ae 3) (mC (.int 0))) mNil)))) mNext)
  (bh (mIx (aU [] (aa (mC .non) (aa (ar [] (aa (mC (.str "steps")) (aa (mC (.str "")) mNil))) mNil))) (mB pE (aa (mOp (dH λi j=>decide (j<i)) (mOp aW (mB bG (aa (mB iF (ac 0 mNil)) mNil)) (mB bG (aa (mB iF (ac 1 mNil)) mNil))) (mC (.int 16))) mNil))))))))))
abbrev bU(ts:!T):↑T:=if ts.length=2 then du gf 4 ts else VE
abbrev lH:MS:=(aq (aC (mC .non) (ag 2))
  (aq (pM EXN "HouseError" (vO bU) i6 dY (ac 0 (ac 1 mNil)) 2 4
  (aq (aC (aU [] (aa (mUn (iT EXN "Early") (ae 4)) (aa (mUn (iT EXN "Loose") (ae 4)) (aa (mUn (iT EXN "NoCell") (ae 4)) (aa (mUn (iT EXN "NoName") (ae 4)) mNil))))) (ag 3))
  (aq (aC (mOp aW (ae 3) (aU [] (aa (mUn (iT EXN "NoRow") (ae 4)) (aa (mUn (iT EXN "NoText") (ae 4)) (aa (mUn (iT EXN "NoTurn") (ae 4)) (aa (mUn (iT EXN "NoWay") (ae 4)) mNil)))))) (ag 3))
  (aq (aC (mOp aW (ae 3) (aU [] (aa (mUn (iT EXN "Ring") (ae 4)) (aa (mUn (iT EXN "TooLong") (ae 4)) (aa (lG (mUn (xh EXN) (ae 4))) mNil))))) (ag 3))
  (aq (aC (mC (.str "other")) (ag 2))
  (mIf (mw (aB (mUn (iT EXN "NoHouse") (ae 4))) (aB (mOp xw (mC (.bl VH)) (ae 3)))) (aC (ar [] (aa (mC (.str "amiss")) (aa (mUn (wT EXN "word") (ae 4)) (aa (mUn (wT EXN "name") (ae 4)) mNil)))) (ag 2)) mNext))))))
  (bh (ae 2))))
abbrev fV(ts:!T):↑T:=if ts.length=2 then du lH 5 ts else VE
abbrev fg:MS:=(aq (cr (bt (aa (mB pP (aa (mC (.int 2)) (aa (mB oA (aa (mB bG (ac 0 mNil)) (aa (mC (.int 6)) mNil))) mNil))) mNil)) (ag 1)
  (bS [1,2,3,4,5,6,7,8] (aq (aC (mB jJ (ac 0 (ac 1 mNil))) (ag 2))
  (aq (aC (am 0 2 iE (ac 2 mNil)) (ag 3))
  (aq (aC (am 0 2 i5 (ac 2 (ac 3 mNil))) (ag 4))
  (cr (mIt (ar [] (aa (ar [3,4] (ac 3 (ac 4 mNil))) (aa (ar [4,3] (ac 4 (ac 3 mNil))) (aa (ar [3,3] (ac 3 (ac 3 mNil))) (aa (ar [3,4] (ac 3 (ac 4 mNil))) mNil)))))) (bH (ay (ag 5) (ay (ag 6) mGNil)))
  (bS [5,6,7,8] (aq (aC (mB bU (ac 5 (ac 6 mNil))) (ag 7))
  (aq (aC (ar [] (aa (mIx (ae 5) (mC (.int 0))) (aa (mIx (ae 5) (mC (.int 1))) (aa (mOp aW (mIx (ae 5) (mC (.int 2))) (mIx (ae 6) (mC (.int 2)))) mNil)))) (ag 8))
  (aq (mIf (aB (mOp xx (ae 7) (mC .non))) (aC (mOp aW (ar [] (aa (mC (.str "amiss")) mNil)) (ae 7)) (ag 8)) mNext)
  (mIf (rB (aB (mB (eA 24) (aa (mB fV (ac 5 (ac 6 mNil))) (ac 8 mNil))))) (bh (mC (.bl VG))) mNext)))))))))))
  (aq (aC (mB jJ (ac 0 (aa (mC (.int 7)) mNil))) (ag 2))
  (aq (aC (am 0 2 gt (ac 2 (aa (mC (.int 0)) mNil))) (lF (ay (ag 3) (ay (ag 4) mGNil))))
  (aq (mIf (rB (aB (mB (eA 24) (aa (mB fV (ac 3 (ac 4 mNil))) (aa (ar [] (aa (mC (.int 2)) (aa (mIx (ae 3) (mC (.int 1))) (aa (mOp aW (mIx (ae 3) (mC (.int 2))) (mIx (ae 4) (mC (.int 2)))) mNil)))) mNil))))) (bh (mC (.bl VG))) mNext)
  (aq (aC (am 0 2 gt (ac 2 (aa (mC (.int 1)) mNil))) (lF (ay (ag 3) (ay (ag 4) mGNil))))
  (bh (jx (mOp eqT (mB fV (ac 3 (ac 4 mNil))) (ar [] (aa (mC (.str "amiss")) (aa (mC (.str "steps")) (aa (mC (.str "")) mNil))))) (mOp eqT (mB fV (ac 4 (ac 3 mNil))) (ar [] (aa (mC (.str "amiss")) (aa (mC (.str "steps")) (aa (mC (.str "")) mNil))))))))))))
abbrev r_l_law_v10(ts:!T):↑T:=if ts.length=1 then du fg 9 ts else VE
end
end L2
namespace K49
open PySem PySem.Spec PyProof.Rows L2
structure GT(K:yF)(mg:Str->↑Od):Prop where
 triv:True
 g_MOST_DESKS:PD mg "MOST_DESKS" (.int 6)
 g_MOST_STEPS:PD mg "MOST_STEPS" (.int 16)
end K49
namespace L2
open PySem PySem.Spec PyProof.Rows
abbrev vs(x:String) (t:Tok):Od:=.str (Op x) t
abbrev vi(n:Int):Od:=.int n 0
abbrev vr(a:Addr):Od:=.ref a
abbrev eO(p:TY) (x:String) (t:Tok) (v:Od):Sh:={Uz p (Op x),.str (Op x) t,v}
abbrev oC(vs:!Od):Obj:={cls:=.type "code",data:=.fields vs.toArray}
abbrev oD(a:!Sh) (n:Nat):Obj:={cls:=.type "dict",data:=.dict a.toArray n}
abbrev oF(x:String) (st:Stmt) (a:Od) (c:Addr):Obj:={cls:=.type "function",data:=.func (KD (Op x) (Op x) (cc st) (ba st) (ai st) .none .none .none a VE (.ref c) .none)}
abbrev oc(x:String) (t l n r:Nat) (v:↑(Nat×Nat)) (d e:Nat):Obj:=oC [vs x t,vs x (t+1),vs "/claim/cut.py" (t+2),vi l,vi n,vi 0,vi 0,vi 3,vr r,.bool VH,vi 181,vr (r+1),.none,(match v with|some p=>vr p.1|none=>.none),(match v with|some p=>vr p.2|none=>.none),vr d,vi e,vi l,vs "/claim/cut.py" (e+1)]
def Pb.mkO{K:yF}{h:Heap}{mg:Str->↑Od}{x:String}{st:Stmt}{ps:!Str}(X:K.In h)(G:h.Ns Ou mg)(f:Addr)(d:Od)(c:Addr)
  (p:∀(kV e d:Od) (m:↑Addr) (g i:Od) (us:!Od),us.length=ps.length->SO (KD (Op x) (Op x) (cc st) (ba st) (ai st) .none kV e d m g i) {us,[]}=pure (ps.zip us))
  (a:KJ K Ou (Op x)*>(VF (.ref f)):=by rfl') (l:K.lookup f*>(oF x st d c):=by rfl') (o:LA K (.ref c) (Op x)=VH:=by rfl'):Pb K mg (Op x) st ps:=
 Pb.mk' X G a l o (by unfold Lm;dsimp only;rw[l];rfl) p
def bN{K:yF}{h:Heap}{mg:Str->↑Od}(X:K.In h)(G:h.Ns Ou mg){n:Str}(e:KJ K Ou n*>VE:=by rfl'):mg n=VE:=PySem.W.mg_none_of X G e
section
variable {α A B C D E F:Type}{f g:A->B->C->D->E->F->!Od->α}
def Py{α:Type}{n:Nat}{l:!α}(h:l.length=n+1):∃a r,l=a::r/\r.length=n:=by
 cases l with
 | nil=>cases h
 | cons a r=>show{a,r,Xr,Lo.inj h}
def by1(h:∀a l i m d c o,f a l i m d c [o]=g a l i m d c [o]):∀a l i m d c (us:!Od),us.length=1->f a l i m d c us=g a l i m d c us:=λa l i m d c us e=>by
 have(o,q,rfl,p):=Py e;obtain rfl:=KR.mp p;show h a l i m d c o
def by2(h:∀a l i m d c p o,f a l i m d c [p,o]=g a l i m d c [p,o]):∀a l i m d c (us:!Od),us.length=2->f a l i m d c us=g a l i m d c us:=λa l i m d c us e=>by
 have(p,s,rfl,q):=Py e;have(o,t,rfl,r):=Py q;obtain rfl:=KR.mp r;show h a l i m d c p o
def by3(h:∀d m a c l i q p o,f d m a c l i [q,p,o]=g d m a c l i [q,p,o]):∀d m a c l i (us:!Od),us.length=3->f d m a c l i us=g d m a c l i us:=λd m a c l i us e=>by
 have(q,v,rfl,t):=Py e;have(p,w,rfl,r):=Py t;have(o,u,rfl,s):=Py r;obtain rfl:=KR.mp s;show h d m a c l i q p o
end
section
variable {O:Rho}{a b m:ME}{ms:MA}{QE':R->Rho->Prop}{QA':!R->Rho->Prop}
def we:az M {.ow,t}=VH:=by unhygienic rfl
def bZ:az [] r=VH:=by
 have(k,t):=r;cases k with
 | vw o p=>cases o<;>unhygienic rfl
 | _=>unhygienic rfl
def I0(h:WA ms O λrs c=>QA' ({.ow,.im i}::rs) c):WA (aa (mC i) ms) O QA':=o4 (w_C (WA.mono h λ_ _ q=>gu we q))
def JI(h:WE m O λr c=>QA' [r] c):WA (aa m mNil) O QA':=o4 (WE.mono h λ_ _ q=>md (gu (by unhygienic show bZ) q))
def IV(h:WE a O λc d=>W1 (f c.t (.im i)) λt=>QE' {.ow,t} d):WE (mOp f a (mC i)) O QE':=sE (WE.mono h λ_ _ q=>w_C (gu (by unhygienic show bZ) q))
def IW(h:WE a O λd g=>WE (ae n) g λc e=>W1 (f d.t c.t) λt=>QE' {.ow,t} e):WE (mOp f a (ae n)) O QE':=sE (WE.mono h λ_ _ h=>WE.mono h λ_ _ q=>gu (by unhygienic show bZ) q)
abbrev owL:Nat->!R->Option !T
 | _,[]=>VF []
 | n+1,⟨.ow,t⟩::c=>match owL n c with
  | some d=>VF (t::d)
  | none=>VE
 | _,_=>VE
def lN{mv:!Nat}{O:Rho}:∀{n:Nat} {rs:!R} {ts:!T},owL n rs*>ts->rs.length<=n/\consL mv rs O*>(ts,O)
 | _,[],ts,h=>by rw[owL]at h;cases h;show{Ld _,Xr}
 | 0,_::_,ts,h=>by simp[owL]at h
 | n+1,⟨k,t⟩::rs,ts,h=>by
  cases k with
  | ow=>
   rw[owL]at h;cases e:owL n rs with
   | none=>rw[e]at h;cases h
   | some f=>
    rw[e]at h;cases h;have(d,c):=lN (mv:=mv) (O:=O) e;show{MM d,by rw[consL,c]}
  | _=>simp[owL]at h
abbrev OwT(rs:!R)(Q:!T->Prop):Prop:=∃c,owL 1000 rs*>c/\Q c
def Hc(h:owL 1000 rs*>ts)(q:Q ts):OwT rs Q:=⟨ts,h,q⟩
def Gj(h:WA ms O λrs c=>OwT rs λts=>QE' {.ow,nr ts} c):WE (ar [] ms) O QE':=z8 (WA.mono h λ_ _ ⟨_,e,q⟩=>gu (decide_eq_true (lN (mv:=[]) (O:=O) e).1) {_,_,(lN e).2,q})
def F8(h:WA ms O λrs c=>OwT rs λts=>QE' {.ow,bI ts} c):WE (aU [] ms) O QE':=zZ (WA.mono h λ_ _ ⟨_,e,q⟩=>gu (decide_eq_true (lN (mv:=[]) (O:=O) e).1) {_,_,(lN e).2,q})
def JG{run:!T->↑(T×T)}{k0:Nat}{t:T}{i:I}(h:W2 (run [t,.im i]) λx s=>QE' {.ow,x} (VF {.io k0,s}::au [0] O)):WE (am 0 0 run (ac 0 (aa (mC i) mNil))) (VF {.io k0,t}::O) QE':=
 o0 (eX rfl (I0 (md (qQ rfl (Dp rfl (by unhygienic rfl) rfl rfl (W2.mono h λx s q=>by rw[oH];show q))))))
def IZ{run:!T->↑(T×T)}{k0 n:Nat}{t:T}{r0:R}(c : O[n]?*>(VF r0))(d:az [0] (rdR (n+1) r0)=VH)(h:W2 (run [t,(rdR (n+1) r0).t]) λx s=>QE' {.ow,x} (VF {.io k0,s}::au [0] O)):WE (am 0 0 run (ac 0 (ac (n+1) mNil))) (VF {.io k0,t}::O) QE':=
 o0 (eX rfl (eX (r0:=r0) c (md (qQ (r:=r0) c (qQ rfl (Dp rfl (by change(VH&&_)=VH;simp[Kk,Kk.loop,d]) rfl rfl (W2.mono h λx s q=>by rw[oH];show q)))))))
def Aa(c : O[n]?*>(VF r0))(q:QA' [rdR n r0] O):WA (ac n mNil) O QA':=eX (r0:=r0) c (md (qQ (r:=r0) c q))
def I9{n:Nat}{r0:R}{k:Int}{Q:Int->Rho->Prop}(c : O[n]?*>(VF r0))(d:(rdR n r0).t=.im (.int k))(q:Q k O):WA (ac n mNil) O (λrs e=>PL rs λk=>Q k e):=Aa c (tu (by rw[JN,d];rfl) q)
def F6(c : O[n]?*>(VF r0))(h:W1 (ixR (rdR n r0) (.im i)) λr=>QE' r O):WE (mIx (ae n) (mC i)) O QE':=zX (gJ c (w_C (gu (by unhygienic show bZ) h)))
def F7{n m:Nat}{r0 c:R}(e : O[n]?*>(VF r0))(d : O[m]?*>(VF c))(h:W1 (ixR (rdR n r0) (rdR m c).t) λr=>QE' r O):WE (mIx (ae n) (ae m)) O QE':=zX (gJ e (gJ d (gu (by unhygienic show bZ) h)))
def Gf{f:T->T->↑T}{n m:Nat}{r0 c:R}(e : O[n]?*>(VF r0))(d : O[m]?*>(VF c))(h:W1 (f (rdR n r0).t (rdR m c).t) λt=>QE' {.ow,t} O):WE (mOp f (ae n) (ae m)) O QE':=sE (gJ e (gJ d (gu (by unhygienic show bZ) h)))
def Ge(c : O[n]?*>(VF r0))(h:W1 (f (rdR n r0).t (.im i)) λt=>QE' {.ow,t} O):WE (mOp f (ae n) (mC i)) O QE':=sE (gJ c (w_C (gu (by unhygienic show bZ) h)))
def Gd(c : O[n]?*>(VF r0))(h:W1 (f (.im i) (rdR n r0).t) λt=>QE' {.ow,t} O):WE (mOp f (mC i) (ae n)) O QE':=sE (w_C (gJ c (gu (by unhygienic show bZ) h)))
def Gc(h:W1 (f (.im i) (.im j)) λt=>QE' {.ow,t} O):WE (mOp f (mC i) (mC j)) O QE':=sE (w_C (w_C (gu (by unhygienic show bZ) h)))
def Dj{n m:Nat}{r0 c:R}(d : O[n]?*>(VF r0))(e : O[m]?*>(VF c))(q:QA' [rdR n r0,rdR m c] O):WA (ac n (ac m mNil)) O QA':=eX (r0:=r0) d (Aa e (qQ (r:=r0) d q))
def I8{n m k:Nat}{r0 c e:R}(d : O[n]?*>(VF r0))(g : O[m]?*>(VF c))(f : O[k]?*>(VF e))(q:QA' [rdR n r0,rdR m c,rdR k e] O):WA (ac n (ac m (ac k mNil))) O QA':=eX (r0:=r0) d (Dj g f (qQ (r:=r0) d q))
end
open PySem.W (Frag clsIn findIn subIn specialIn instIn mroIn takesIn keepIn readsIn findCls handedIn)
abbrev As(K:Frag) (C:Addr):Bool:=wM K C&&(decide (P8 K (.ref C) "__setattr__" = VF (VF (.builtin "object.__setattr__")))&&(decide (P8 K (.ref C) "__getattribute__" = VF (VF (.builtin "BaseException.__getattribute__"))) &&
 (decide (P8 K (.ref C) "__getattr__" = VF VE)&&(decide (Vm K (.ref C) (.type "BaseException")*>VH)&&(decide (Rv K (.ref C) "__call__" = VF (VF (.builtin "type.__call__")))&&(decide (instIn K (.ref C) (.type "type")*>VH) &&
 (decide (P8 K (.ref C) "__class__" = VF (VF (.builtin "object.__class__")))&&(decide (Rv K (.builtin "object.__class__") "__get__" = VF (VF (.builtin "getset_descriptor.__get__")))&&(decide (takesIn K (.builtin "object.__class__")*>VH)&&decide (Vx K C (.type "object")*>VH))))))))))
def wN{K:Frag}{C:Addr}(h:As K C=VH):ExK K C:=by
 dsimp[As,JL,decide_eq_true_eq]at h;obtain⟨f,e,i,l,g,m,p,o,d,a,c⟩:=h;show⟨f,e,i,l,g,m,p,o,d,a,c⟩
abbrev t8:↑↑Od->↑Addr
 | some (VF (.ref C))=>VF C
 | _=>VE
def qj(h:t8 o*>C):o*>(VF (.ref C)):=by
 unfold t8 at h;split at h;cases h;rfl;cases h
abbrev Cu(K:Frag) (a:Tab) (p:Str×!Str) (C:Addr):Bool:=As K C&&(p.2.all (λf=>decide (P8 K (.ref C) f*>VE))&&(decide (KZ K (.ref C) (.type "ValueError")*>VH) &&
 a.all λq=>match t8 (KJ K Ou q.1)with
  | some D=>decide (KZ K (.ref C) (.ref D)*>(rh p.1 q.1))
  | none=>VG))
abbrev IL(K:Frag) (a:Tab):Bool:=a.all λp=>match t8 (KJ K Ou p.1)with
 | some C=>Cu K a p C
 | none=>VG
def Cc{K:Frag}{h:Heap}{mg:Str->↑Od}{a:Tab}(X:K.In h)(G:h.Ns Ou mg)(u:mg "ValueError" = VE)(t:IL K a=VH):gL K mg a:=by
 show{u,λp r=>?_};have:=Ky.mp t p r;ext this C e;have e:=qj e;dsimp[Cu,JL,decide_eq_true_eq]at this;have(o,g,i,s):=this;show{C,e,Mh X G e,wN o,λf l=>(show P8 K (.ref C) f*>VE from of_decide_eq_true (Ky.mp g f l)),i,λq m=>?_};have d:=Ky.mp s q m;ext d D c;have c:=qj c;show{D,Mh X G c,of_decide_eq_true d}
abbrev oFq(x q:String) (st:Stmt) (a:Od) (c:Addr):Obj:={cls:=.type "function",data:=.func (KD (Op x) (Op q) (cc st) (ba st) (ai st) .none .none .none a VE (.ref c) .none)}
abbrev ocq(x q:String) (t l n r:Nat) (v:↑(Nat×Nat)) (d e:Nat):Obj:=oC [vs x t,vs q (t+1),vs "/claim/cut.py" (t+2),vi l,vi n,vi 0,vi 0,vi 3,vr r,.bool VH,vi 181,vr (r+1),.none,(match v with|some p=>vr p.1|none=>.none),(match v with|some p=>vr p.2|none=>.none),vr d,vi e,vi l,vs "/claim/cut.py" (e+1)]
abbrev oK(x:String) (C N:Addr) (b:Od) (m:!Od) (a:!Od) (s t u:Nat):Obj:={cls:=.type "type",data:=.cls {name:=Op x,bases:=[b],mro:=vr C::m,ns:=N,qualname:=Op x,subclasses:=a},slots:=#[VF (vr s),VE,VF (vs x t),VF (vs x u),VF (.builtin "ValueError.__new__"),VF (.bool VH)]}
abbrev MkF(K:Frag)(mg:Str->↑Od)(x:Str)(ks:!Str)(qual:Str)(st:Stmt)(ps:!Str):Prop:=
 ∃(C f:Addr) (a:PV),mg x*>(.ref C)/\KJ K Ou x*>(VF (.ref C))/\EMk K C f/\Fun K "__init__" qual st f a/\Pm K a ps []/\∀F∈ks,Pl K C F
abbrev G3(K:Frag) (ks:!Str) (C f:Addr):Bool:=As K C&&(decide (P8 K (.ref C) "__init__" = VF (VF (.ref f)))&&(Nv K (.ref f)&&(U9 K (.ref C)&&(U9 K (.ref f)&&ks.all λF=>decide (P8 K (.ref C) F*>VE)))))
def MkF.mkO{K:Frag}{h:Heap}{mg:Str->↑Od}{x q:String}{ks ps:!Str}{st:Stmt}(X:K.In h)(G:h.Ns Ou mg)(C f:Addr)(d:Od)(c:Addr)
  (v:∀(kV g d:Od) (o:↑Addr) (i m:Od) (us:!Od),us.length=ps.length->SO (KD (Op "__init__") (Op q) (cc st) (ba st) (ai st) .none kV g d o i m) {us,[]}=pure (ps.zip us))
  (a:KJ K Ou (Op x)*>(VF (.ref C)):=by rfl') (l:K.lookup f*>(oFq "__init__" q st d c):=by rfl') (t:LA K (.ref c) (Op q)=VH:=by rfl') (e:G3 K ks C f=VH:=by rfl'):MkF K mg (Op x) ks (Op q) st ps:=by
 dsimp[G3,JL,decide_eq_true_eq]at e;have(r,u,z,p,s,y):=e;have F:=wW (x:="__init__") (qual:=Op q) (st:=st) (f:=f) l t s;show{C,f,_,Mh X G a,a,{wN r,u,z,p},F,F.binds v,λF w=>(show P8 K (.ref C) F*>VE from of_decide_eq_true (Ky.mp y F w))}
structure HEf(K:Frag)(mg:Str->↑Od)(st:Stmt):Prop where
 mf:MkF K mg "HouseError" [] "HouseError.__init__" st ["self"]
 ci:∀C f,KJ K Ou "HouseError" = VF (VF (.ref C))->P8 K (.ref C) "__init__" = VF (VF (.ref f))->CIn K C f
 ve:mg "ValueError" = VE
def GH{K:Frag}(C f:Addr)(a:KJ K Ou "HouseError" = VF (VF (.ref C)):=by rfl')(b:P8 K (.ref C) "__init__" = VF (VF (.ref f)):=by rfl')
  (i:Rv K (.ref C) "__getattribute__" = VF (VF (.builtin "type.__getattribute__")):=by rfl') (e:readsIn K C (.type "type")=VH:=by rfl') (g:U8 K (.ref C) (.type "type") "__init__" = VF (.val (.ref f)):=by rfl') (l:U9 K (.ref f)=VH:=by rfl') (h:UP (.ref f)=VH:=by rfl') :
  ∀C f,KJ K Ou "HouseError" = VF (VF (.ref C))->P8 K (.ref C) "__init__" = VF (VF (.ref f))->CIn K C f:=by
 intro m o c d;rw[a]at c;cases c;rw[b]at d;cases d;show⟨i,e,g,l,h⟩
section
variable {P:Os}{W:Ox}{K:Frag}{mg:Str->↑Od}{base:Heap}{st sh:Stmt}{qn x:Str}{p1 p2 p3 p4 p5 p6 p7 p8 p9 p10 p11 p12 p13 p14 p15 p16 p17:Pos}{run:!T->↑T}{A B F G:Str}
abbrev HEr(P:Os)(W:Ox)(K:Frag)(mg:Str->↑Od)(base:Heap)(k:Nat):Prop:=∃(a g:Addr) (c:PV),mg "HouseError" = VF (.ref a)/\CIn K a g/\Pp P W K mg base CX0 k g c ["self"] (vJ K)/\Pm K c ["self"] []/\KJ K Ou "HouseError" = VF (VF (.ref a))/\EMk K a g
def GM(h:HEf K mg st)(S:Pa ["self"] ["self"] (ai st))(l:ba st=[.Expr (.Call (.Attribute (.Name "ValueError" p1) "__init__" p2) [.Name "self" p3] [] p4) p5])
  (o:(ai st).names.lookup (Op "ValueError")*>.globalImplicit) (i:Vis (ai st) "self") (p:fF "ValueError" (.Name "self" p3) p1 p2 p4):HEr P W K mg base (k+1):=by
 have(C,f,m,d,a,c,g,e,_):=h.mf;show{C,f,m,d,h.ci C f a c.init,AF g S l h.ve o i p,e,a,c}
def D7(h:MkF K mg x [F,G] qn st ["self",A,B])(H:HEr P W K mg base 1)(r:Has P W K mg base 1 "kept" ["thing"] (spP K run))(S:Pa ["self",A,B] ["self",A,B] (ai st))(t:ba st=[.Expr (.Call (.Attribute (.Name "HouseError" p1) "__init__" p2) [.Name "self" p3] [] p4) p5,.Assign [.Attribute (.Name "self" p6) F p7] (.Call (.Name "kept" p8) [.Name A p9] [] p10) p11,.Assign [.Attribute (.Name "self" p12) G p13] (.Call (.Name "kept" p14) [.Name B p15] [] p16) p17])
  (i:F≠G) (O:(ai st).names.lookup (Op "HouseError")*>.globalImplicit) (d:(ai st).names.lookup (Op "kept")*>.globalImplicit) (J:Vis (ai st) "self") (e:Vis (ai st) A) (l:(A==("__debug__" : Str))=VG) (o:(A==("__classdict__" : Str))=VG) (c:Vis (ai st) B) (a:(B==("__debug__" : Str))=VG) (m:(B==("__classdict__" : Str))=VG) (u:fF "HouseError" (.Name "self" p3) p1 p2 p4):vZ P W K mg base 2 x [F,G] run:=by
 have(C,f,M,y,p,q,E,w,s):=h;have(X,g,U,L,v,Q,z,_):=H;show{C,f,M,_,(show 2<=2 by decide),y,p,q,w,DP E S t v Q z L r zA i O d J e l o c a m u,s}
end
local macro_rules|`(tactic| ac_nf)=>`(tactic| try simp only[DV,GU,GS,AI,GV,List.set_cons_zero,Np,oH,BG,Fz,FC,FA,BH,wS,uH])
local macro_rules|`(tactic| injection $x:ident)=>`(tactic| refine $x ?_)
local macro_rules|`(tactic| infer_instance)=>`(tactic| first
 | injection tj|injection Ay|(refine Av ?_;try ac_nf)|injection Aw|injection DG|injection DF|refine GK rfl ?_|injection GL
 | injection Di|injection IR|injection IY|injection sC|injection Ga|injection IS|injection IX|injection Gg
 | injection w_C|refine gJ rfl ?_|refine Gf rfl rfl ?_|refine Ge rfl ?_|refine Gd rfl ?_|injection Gc|injection IV|injection IW|injection sE|injection JH|injection w_B|injection w_M|refine F6 rfl ?_|refine F7 rfl rfl ?_|injection zX|injection JF|injection Gj|injection F8|refine Hc (by unhygienic rfl) ?_|injection zZ|injection z8|injection F3|injection Gb|injection JG|refine IZ rfl (by unhygienic rfl) ?_|injection o0|injection z0|injection F9
 | injection Cp|injection Cq
 | injection md|injection I0|injection JI|refine I9 rfl rfl ?_|refine Aa rfl ?_|refine Dj rfl rfl ?_|refine I8 rfl rfl rfl ?_|injection o4|refine eX rfl ?_
 | injection Cr|injection Gw|injection Gv|injection Gs|injection Jb|injection kr
 | (refine uu (by unhygienic rfl) ?_;try ac_nf)|refine Gq rfl ?_|refine Af (by unhygienic rfl) ?_|injection Cm|injection Gp|injection Ae
 | refine gu (by unhygienic rfl) ?_
 | injection Es|injection Hv|injection Hf|injection Hh|injection Ho|injection Hi|injection EA|injection Ey|injection A4|injection Hn|injection Hm|injection Ew|injection EJ|injection EB|injection Ht|injection Hu|injection EG|refine EH rfl ?_
 | refine CM rfl ?_|refine CN rfl ?_|refine xK (n:=0) rfl (M8 rfl) ?_|refine xK (n:=1) rfl (M8 rfl) ?_
 | refine xH (Ju (by decide) (by decide)) ?_|refine xH (G6 (by decide) (by decide)) ?_|refine xG ⋯ ?_|refine Ev ⋯ ?_
 | refine sD (by rfl) ?_|injection qU|injection sM
 | refine xE (b:=true) rfl (by decide) ?_|refine xE (b:=false) rfl (by decide) ?_|injection EC
 | injection Jp|injection Jq|refine qQ rfl ?_|refine Dp rfl (by unhygienic rfl) rfl rfl ?_|refine Dq rfl rfl ?_|injection Jf|injection FU|injection zL|refine tu rfl ?_|refine AG rfl ?_)
local macro_rules|`(tactic| omega)=>`(tactic| decide)
local macro_rules|`(tactic| and_intros)=>`(tactic| repeat infer_instance)
local macro_rules|`(tactic| cbv)=>`(tactic| unhygienic rfl)
local macro_rules|`(tactic| clear_value $h:ident)=>`(tactic| first|refine dsp (fun $h=>?_) (fun $h=>?_)|refine Jm (fun $h=>?_) (fun $h=>?_)|refine bsp (fun $h=>?_) (fun $h=>?_))
def bA{ns:!Int}{kd:Kd}{a:Int}{d:R->Prop}(g:0<=a)(f:a<ns.length)(q:∀y,y∈ns->ns[a.toNat]?*>y->d {.ow,.im (.int y)}):W1 (ixR {kd,.li (ns.map .int)} (.im (.int a))) d:=by
 show rS g (by exists f) λx c=>?_;rw[JR]at c;cases e:ns[a.toNat]? with
 | none=>rw[e]at c;cases c
 | some y=>rw[e]at c;cases c;show q y (ymG e) e
def u7{ns:!Int}{kd:Kd}{a:Int}{d:R->Prop}(g:0<=a)(f:a<ns.length)(q:∀y,y∈ns->ns[a.toNat]?*>y->d {.ow,.im (.int y)}):W1 (ixR {kd,.im (.tup (ns.map .int))} (.im (.int a))) d:=by
 show iZ g (by exists f) λx c=>?_;rw[JR]at c;cases e:ns[a.toNat]? with
 | none=>rw[e]at c;cases c
 | some y=>rw[e]at c;cases c;show q y (ymG e) e
def bq{a:Type}{P : a->Prop}{l:!a}{y : a}(h:∀x∈l,P x)(d:P y):∀x∈l++[y],P x:=λx c=>(yaM c).elim (h x) λz=>by rw[ysM z];show d
abbrev fT(f:Int×Int):T:=.li [.int f.1,.int f.2]
def av(a:0<n)(e:n<2^64)(q:∀d c,0<=d->d<n->Q (.im (.int d)) (fT c)):W2 (ak [fT f,.im (.int n)]) Q:=by
 show iI rfl rfl ?_;unfold jA;and_intros
 (refine aT ?_;and_intros;clear_value h)
 .and_intros;show q _ (f.1 / n,f.2) (LK _ (by lia)) (Lx _ a)
 .and_intros;show q _ (f.1,(f.2*48271 % 2147483647*40692+30103) % 2147483399+1) (LK _ (by lia)) (Lx _ a)
abbrev sk(is:!Int):T:=.im (.tup (is.map .int))
def zn{f:Int×Int}{n:Int}(p:1<=n)(m:n<=3){Q:T->T->Prop}(q:∀is l,is.length=n.toNat->(∀x∈is,-2<=x/\x<=2)->Q (sk is) (fT l)):W2 (kY [fT f,.im (.int n)]) Q:=by
 show iI rfl rfl ?_;unfold kT;and_intros;show aT ?_;and_intros;show av (by lia) (by lia) λd f c e=>?_;ac_nf;and_intros;clear_value h
 .and_intros;show xJ (is:=[.int 0]) {by simp,by decide,by lia,by lia} ?_;and_intros;have:(JO n.toNat [I.int 0]).flatten=(JO n.toNat (0:Int)).map .int:=by simp
  rw[this];show q _ f ∅ (by intro x a;rw[(LI.mp a).2];decide)
 .and_intros;show eW (λf:Int×Int=>[VF {.io 0,fT f},↥(.int n)]) I.int (λj _ is=>is.length=j/\∀x∈is,-2<=x/\x<=2) ?_;and_intros;show{{by lia,by lia},by cbv,f,by cbv,{Xr,by simp},λj f is o ⟨g,a⟩=>?_,λf is ⟨g,a⟩=>?_}
  .and_intros;show av (by lia) (by lia) λd f c e=>?_;ac_nf;and_intros;show bA (ns:=[0,1,0-1,2,0-2]) c e λy i _=>{y,f,Xr,by cbv,by simp[g],bq a (by simp at i;lia)}
  .and_intros;show q is f g a
def An{f:Int×Int}{n:Int}(u:1<=n)(s:n<=3){Q:T->T->Prop}(q:∀is r,is.length=n.toNat->(∀x∈is,-2<=x/\x<=2)->(∃(k:Nat) (y:Int) (m:!Int),is=JO k 0++y::m/\y<0)->Q (sk is) (fT r)):W2 (dW [fT f,.im (.int n)]) Q:=by
 show iI rfl rfl ?_;unfold dO;and_intros;show av (by lia) (by lia) λd f c e=>?_;ac_nf;and_intros;show vU (λf:Int×Int=>[VF {.io 0,fT f},↥(.int n),↥(.int d),VE]) I.int (λj _ is=>is.length=j/\∀x∈is,-2<=x/\x<=2) ?_;and_intros;show{{by lia,by lia,by lia,by lia,by lia},by cbv,f,by cbv,{Xr,by simp},λj f is t ⟨l,h⟩=>?_,λf is ⟨l,h⟩=>?_}
 .and_intros;show av (by lia) (by lia) λd f c e=>?_;ac_nf;and_intros;show bA (ns:=[0,1,0-1,2,0-2]) c e λy p _=>{y,f,Xr,by cbv,by simp[l],bq h (by simp at p;lia)}
 .and_intros;show xI (is:=[.int 0]) {by lia,by lia,by simp;rw[Oj];lia} ?_;and_intros;show av (by lia) (by lia) λg f o i=>?_;ac_nf;and_intros;show rP (is:=(JO d.toNat [I.int 0]).flatten) (js:=[.int (0-1-g)]) (by simp;rw[Oj];lia) ?_;and_intros;show rP (is:=(JO d.toNat [I.int 0]).flatten++[.int (0-1-g)]) (js:=is.map I.int) (by simp;rw[Oj];lia) ?_;and_intros;have:(JO d.toNat [I.int 0]).flatten++[.int (0-1-g)]++is.map I.int=(JO d.toNat 0++(0-1-g)::is).map I.int:=by simp
  rw[this];show q _ f (by simp;lia) (λx a=>by
   rcases yaM a with a|a;rw[(LI.mp a).2];decide
   .rcases ycM a with rfl|a
    .lia
    .show h x a) {d.toNat,_,is,Xr,by lia}
def vQ{row signs:!Int}{a:Int}(d:1<=row.length)(c:row.length<=1000)(v:0<=a)(hs:signs.length=row.length)(l:∀x∈row,-(2^64)<x/\x<2^64){Q:T->Prop}(q:∀is:!Int,is.length=row.length->(∀(k:Nat) x s,row[(k+a.toNat) % row.length]?*>x->signs[k]?*>s->is[k]?*>(x*s))->Q (sk is)):W1 (cR [sk row,.im (.int a),.li (signs.map .int)]) Q:=by
 show ue rfl rfl ?_;unfold cJ;and_intros;show dh (λp:!Int=>[⇑(sk row),↥(.int a),VF {.vw VE VE,.li (signs.map .int)},⇑(.li (p.map .int)),VE]) (λj p=>p.length=j/\∀(k:Nat),k<j->∀x s,row[(k+a.toNat) % row.length]?*>x->signs[k]?*>s->p[k]?*>(x*s)) ?_;and_intros;rw[JK];show{{by lia,by lia},[],by cbv,{Xr,λk e=>absurd e (MZ _)},λj is u ⟨f,g⟩=>?_,λis ⟨f,g⟩=>?_}
 .and_intros;show xG (by simp;lia) ?_;and_intros;rw[JK];have o:((j:Int)+a) % (row.length:Int)=(((j+a.toNat) % row.length:Nat):Int):=by
   rw[Int.natCast_emod,Int.natCast_add];congr 1;lia
  rw[o];have r:(j+a.toNat) % row.length<row.length:=Ms _ (by lia);show u7 (ns:=row) (by lia) (by lia) λy m h=>?_;and_intros;show bA (ns:=signs) (by lia) (by lia) λz t i=>?_;and_intros;show xH (G6 (l y m).1 (l y m).2) ?_;and_intros;show cL (by simp[f];rw[Oj];lia) ?_;and_intros;show{is++[y*z],?_,by simp[f],λk e x s d c=>?_}
  .change _=[_,_,_,_,_];rw[JZ]
   cbv
  .rcases Nat.lt_succ_iff_lt_or_eq.mp e with e|rfl;rw[KO (by lia)];show g k e x s d c
   .rw[Kh]at h i;rw[h]at d;rw[i]at c;cases d;cases c;rw[K8 (by lia),f];simp
 .and_intros;show q is (by lia) λk x s d c=>g k (by have:=(JJ.mp c).1;lia) x s d c
abbrev tRd(p:Int×!Int):I:=.tup [.int p.1,.tup (p.2.map .int)]
abbrev aK(l:!(Int×!Int)):T:=.li (l.map tRd)
def fY(l:!(Int×!Int))(i:I):aK l ≠ .im i:=by unfold aK;intro z;cases z
def yG{ls:! !(Int×!Int)}{n:Nat}{l:!(Int×!Int)}{p:Int×!Int}(h:ls[n]?*>l):T.put (.lst (ls.map aK)) [.ix n] (.li (l.map tRd++[tRd p]))=.lst ((ls.set n (l++[p])).map aK):=by
 rw[yE (u:=aK l) (by rw[JR,h];rfl),MR];simp[aK]
def zY{O:Rho}{Q:Fl->Rho->Prop}{L X:Nat}{a:MA}{ls:! !(Int×!Int)}{i:Int}(n:Nat){l:!(Int×!Int)}(m : O[L]?*>(⇑(.lst (ls.map aK))))(s : O[X]?*>(↥(.int i)))(o:i=(n:Int))(g:ls[n]?*>l)(hz:l.length<1000)(r:a.mu.contains L=VG)
  (h:WA a O λrs d=>∃p,rs=[{.ow,.im (tRd p)}]/\d[L]?*>(⇑(.lst (ls.map aK)))/\Q .nx ((au [L] d).set L (⇑(.lst ((ls.set n (l++[p])).map aK))))):WS (bD (dm L [] apT (mIx (ae L) (ae X)) a)) O Q:=by
 subst o;show sC (z0 (zX (gJ m (gJ s (gu (by cbv) ?_)))));have f:(ls.map aK)[(n:Int).toNat]?*>(aK l):=by rw[Kh,JR,g];rfl
 show rR (u:=aK l) (kd:=.vw (VF L) (VF [.ix (n:Int).toNat])) ⋯ f (fY l) rfl ?_;rw[Kh];show WA.mono h λrs d ⟨p,e,c,q⟩=>?_;subst e;show gu ?_ (sD rfl (sM (qU (Dq c rfl ?_))))
 .change dD a.mu {.vw (VF L) (VF [.ix n]),aK l}=VH;unfold dD;dsimp[Kd.root];rw[r];rfl
 .show cL (is:=l.map tRd) (by simp;rw[Oj];omega) ?_;rw[yG g];show q
abbrev Looks(P:Nat->Int×!Int->Prop)(c:Nat)(m:Nat)(ls:! !(Int×!Int)):Prop:=ls.length=m/\∀x l,ls[x]?*>l->l.length<=c/\∀p∈l,P x p
def Looks.get(h:Looks P c m ls)(a:n<m):∃l,ls[n]?*>l/\l.length<=c/\∀p∈l,P n p:=by
 have:n<ls.length:=by rw[h.1];show a
 show{ls[n],Kw this,h.2 n _ (Kw this)}
def fm{c:Type}{l:!c}{n x:Nat}{a b : c}(h:(l.set n a)[x]?*>b):(n=x/\b=a)\/(n≠x/\l[x]?*>b):=by
 by_cases e:n=x
 .subst e;have:=(JJ.mp h).1;rw[KG (by exists this)]at h;cases h;show .inl ⟨Xr,Xr⟩
 .rw[J4 e]at h;show .inr ⟨e,h⟩
def Looks.set{P:Nat->Int×!Int->Prop}{c m:Nat}{ls:! !(Int×!Int)}{n:Nat}{l a:!(Int×!Int)}(h:Looks P c m ls)(f:ls[n]?*>l)(e:a.length<=c)(hp:∀p∈a,P n p):Looks P c m (ls.set n a):=by
 show{by rw[Lr];show h.1,λx a d=>?_};rcases fm d with⟨rfl,rfl⟩|⟨_,d⟩;show⟨e,hp⟩;show h.2 x a d
abbrev mj(w m:Int)(p:Int×!Int):Prop:=0<=p.1/\p.1<m/\p.2.length=w.toNat/\∀x∈p.2,-2<=x/\x<=2
def Ax{f:Int×Int}{w m:Int}(J:1<=w)(M:w<=3)(Z:1<=m)(Y:m<=6){Q:T->T->Prop}(q:∀ls X,Looks (λ_ p=>mj w m p) 3 m.toNat ls->Q (.lst (ls.map aK)) (fT X)):W2 (eQ [fT f,.im (.int w),.im (.int m)]) Q:=by
 show iI rfl rfl ?_;unfold cG;and_intros;show l9 (λ_:Unit=>[VF {.io 0,fT f},↥(.int w),↥(.int m),VE,VE,VE]) aK fY (λ_ _ l=>∀x∈l,x=[]) ?_;and_intros;show{{by omega,by omega},by cbv,(),by cbv,by simp,λj _ l O a=>?_,λ_ l a H=>?_}
 .and_intros;show{[],(),Xr,by cbv,bq a rfl}
 and_intros;show dh (λs:(Int×Int)×! !(Int×!Int)=>[VF {.io 0,fT s.1},↥(.int w),↥(.int m),⇑(.lst (s.2.map aK)),VE,VE]) (λj s=>Looks (λ_ p=>mj w m p) 3 m.toNat s.2/\∀y l,j<=y->s.2[y]?*>l->l=[]) ?_;and_intros;show{{by omega,by omega},(f,l),by cbv,{{H,λx i o=>by rw[a i (ymG o)];simp},λy i _ o=>a i (ymG o)},λx s o ⟨g,h⟩=>?_,λs ⟨g,_⟩=>?_}
 .and_intros;show dh (λt:(Int×Int)×! !(Int×!Int)=>[VF {.io 0,fT t.1},↥(.int w),↥(.int m),⇑(.lst (t.2.map aK)),↥(.int x),VE]) (λj t=>Looks (λ_ p=>mj w m p) 3 m.toNat t.2/\(∀l,t.2[x]?*>l->l.length<=j)/\∀y l,x+1<=y->t.2[y]?*>l->l=[]) ?_;and_intros;show av ⋯ ⋯ λd f S U=>?_;ac_nf;and_intros;show{{by omega,by omega},(f,s.2),by cbv,{g,λl a=>by rw[h x l (JQ _) a];simp,λy l E a=>h y l ⋯ a},λj t O ⟨g,L,h⟩=>?_,λt ⟨g,_,h⟩=>by and_intros;show{t,by cbv,g,h}};have(l,a,G,B):=g.get (n:=x) ⋯;iterate 2 infer_instance
  show zY (ls:=t.2) x rfl rfl rfl a ⋯ (by cbv) ?_;and_intros;show av ⋯ ⋯ λe f r v=>?_;ac_nf;and_intros;show zn J M λC f A u=>?_;ac_nf;and_intros;have:=L l a;show{(e,C),Xr,Xr,?_};and_intros;show{(f,t.2.set x (l++[(e,C)])),by cbv,g.set a (by simp;omega) (bq B ⟨r,v,A,u⟩),λi c=>?_,λy i E c=>?_}
  .rcases fm c with⟨_,rfl⟩|⟨z,_⟩;simp;omega;show absurd rfl z
  .rcases fm c with⟨z,_⟩|⟨_,c⟩;omega;show h y i E c
 .and_intros;show q s.2 s.1 g
abbrev qL(w m:Int)(x:Nat)(p:Int×!Int):Prop:=mj w m p/\((p.1<x/\∀e∈p.2,e=0) \/ ∃(k:Nat) (y:Int) (r:!Int),p.2=JO k 0++y::r/\y<0)
def tF(Z:1<=w)(h2:w<=3)(h3:1<=m)(h4:m<=6)(q:∀ls f',Looks (qL w m) 3 m.toNat ls->Q (.lst (ls.map aK)) (fT f')):W2 (cO [fT f,.im (.int w),.im (.int m)]) Q:=by
 show iI rfl rfl ?_;unfold cH;and_intros;show l9 (λ_:Unit=>[VF {.io 0,fT f},↥(.int w),↥(.int m),VE,VE,VE]) aK fY (λ_ _ l=>∀x∈l,x=[]) ?_;and_intros;show{{by lia,by lia},by cbv,(),by cbv,by simp,λj _ l hj c=>?_,λ_ l c X=>?_}
 .and_intros;show{[],(),Xr,by cbv,bq c rfl}
 and_intros;show dh (λs:(Int×Int)×! !(Int×!Int)=>[VF {.io 0,fT s.1},↥(.int w),↥(.int m),⇑(.lst (s.2.map aK)),VE,VE]) (λj s=>Looks (qL w m) 3 m.toNat s.2/\∀y l,j<=y->s.2[y]?*>l->l=[]) ?_;and_intros;show{{by lia,by lia},(f,l),by cbv,{{X,λx g H=>by rw[c g (ymG H)];simp},λy g _ H=>c g (ymG H)},λx s H ⟨o,C⟩=>?_,λs ⟨o,_⟩=>?_}
 .and_intros;show dh (λt:(Int×Int)×! !(Int×!Int)=>[VF {.io 0,fT t.1},↥(.int w),↥(.int m),⇑(.lst (t.2.map aK)),↥(.int x),VE]) (λj t=>Looks (qL w m) 3 m.toNat t.2/\(∀l,t.2[x]?*>l->l.length<=j)/\∀y l,x+1<=y->t.2[y]?*>l->l=[]) ?_;and_intros;show av (by lia) (by lia) λd f hd0 hd1=>?_;ac_nf;and_intros;show{{by lia,by lia},(f,s.2),by cbv,{o,λl c=>by rw[C x l (JQ _) c];simp,λy l E c=>C y l (by lia) c},λj t hj ⟨o,hc,C⟩=>?_,λt ⟨o,_,C⟩=>by and_intros;show{t,by cbv,o,C}};have(l,c,U,M):=o.get (n:=x) (by lia);have hcl:=hc l c;have u:∀(e:Int) (a:!Int) (f:Int×Int),qL w m x (e,a)->Looks (qL w m) 3 m.toNat (t.2.set x (l++[(e,a)]))/\(∀g,(t.2.set x (l++[(e,a)]))[x]?*>g->g.length<=j+1)/\∀y g,x+1<=y->(t.2.set x (l++[(e,a)]))[y]?*>g->g=[]:=λe a f v=>by
   show{o.set c (by simp;lia) (bq M v),λg h=>?_,λy g E h=>?_}
   .rcases fm h with⟨_,rfl⟩|⟨z,_⟩;simp;lia;show absurd rfl z
   .rcases fm h with⟨z,_⟩|⟨_,h⟩
    .lia
    .show C y g E h
  have i:∀f,WS (bD (dm 3 [] apT (mIx (ae 3) (ae 4)) (aa (ar [] (aa (am 0 0 ak (ac 0 (ac 2 mNil))) (aa (am 0 0 dW (ac 0 (ac 1 mNil))) mNil))) mNil))) [VF {.io 0,fT f},↥(.int w),↥(.int m),⇑(.lst (t.2.map aK)),↥(.int x),↥(.int j)] λB O=>B=.nx/\∃e a f,O=[VF {.io 0,fT f},↥(.int w),↥(.int m),⇑(.lst ((t.2.set x (l++[(e,a)])).map aK)),↥(.int x),↥(.int j)]/\qL w m x (e,a):=λf=>by
   show zY (ls:=t.2) x rfl rfl rfl c (by lia) (by cbv) ?_;and_intros;show av (by lia) (by lia) λe f p A=>?_;ac_nf;and_intros;show An Z h2 λa f L J hb=>?_;ac_nf;and_intros;show{(e,a),Xr,Xr,by trivial,e,a,f,by cbv,⟨p,A,L,J⟩,.inr hb}
  have r:∀f,(0:Int)<x->WS (bD (dm 3 [] apT (mIx (ae 3) (ae 4)) (aa (ar [] (aa (am 0 0 ak (ac 0 (ac 4 mNil))) (aa (mOp e8 (ar [] (aa (mC (.int 0)) mNil)) (ae 1)) mNil))) mNil))) [VF {.io 0,fT f},↥(.int w),↥(.int m),⇑(.lst (t.2.map aK)),↥(.int x),↥(.int j)] λB O=>B=.nx/\∃e a f,O=[VF {.io 0,fT f},↥(.int w),↥(.int m),⇑(.lst ((t.2.set x (l++[(e,a)])).map aK)),↥(.int x),↥(.int j)]/\qL w m x (e,a):=λf G=>by
   show zY (ls:=t.2) x rfl rfl rfl c (by lia) (by cbv) ?_;and_intros;show av (by lia) (by lia) λe f p A=>?_;ac_nf;and_intros;show xJ (is:=[.int 0]) {by simp,by decide,by lia,by lia} ?_;have S:(JO w.toNat [I.int 0]).flatten=(JO w.toNat (0:Int)).map .int:=by simp
   rw[S];and_intros;show{(e,JO w.toNat 0),Xr,Xr,by trivial,e,_,f,by cbv,{p,by lia,by simp,λy E=>?_},.inl {A,λy E=>(LI.mp E).2}};rw[(LI.mp E).2];decide
  and_intros
  (refine aT ?_;and_intros;clear_value G)
  .and_intros;show av (by lia) (by lia) λz f Y hz1=>?_;ac_nf;and_intros;clear_value hz
   .show WS.mono (r f G) ?_;rintro B O ⟨rfl,e,a,f,rfl,v⟩;and_intros;show{(f,_),by cbv,u e a f v}
   .show WS.mono (i f) ?_;rintro B O ⟨rfl,e,a,f,rfl,v⟩;and_intros;show{(f,_),by cbv,u e a f v}
  .show{λz=>absurd z (by decide),λ_=>?_};show WS.mono (i _) ?_;rintro B O ⟨rfl,e,a,f,rfl,v⟩;and_intros;show{(f,_),by cbv,u e a f v}
 .and_intros;show q s.2 s.1 o
def Looks.mono(h:Looks P c m ls)(d:c<=c'):Looks P c' m ls:={h.1,λx l a=>{Kg (h.2 x l a).1 d,(h.2 x l a).2}}
abbrev tTr(p:Int×Int×!Int):I:=.tup [.int p.1,.int p.2.1,.tup (p.2.2.map .int)]
abbrev Jc(w:Int)(p:Int×Int×!Int):Prop:=0<=p.1/\p.1<w/\0<=p.2.1/\p.2.1<w/\p.2.2.length=w.toNat/\∀x∈p.2.2,-2<=x/\x<=2
def sA{row signs:!Int}{a:Int}(p:1<=row.length)(i:row.length<=1000)(o:0<=a)(hs:signs.length=row.length)(f:∀x∈row,-2<=x/\x<=2)(v:∀x∈signs,x=1\/x = -1){Q:T->Prop}(q:∀is:!Int,is.length=row.length->(∀x∈is,-2<=x/\x<=2)->(∀(k:Nat) x s,row[(k+a.toNat) % row.length]?*>x->signs[k]?*>s->is[k]?*>(x*s))->Q (sk is)):W1 (cR [sk row,.im (.int a),.li (signs.map .int)]) Q:=by
 show vQ p i o hs (λx m=>by have:=f x m;lia) λis l e=>q is l (λy w=>?_) e;have(k,c):=LM.mp w;have t:=(JJ.mp c).1;have r:(k+a.toNat) % row.length<row.length:=Ms _ (by lia);have d:row[(k+a.toNat) % row.length]?=VF row[(k+a.toNat) % row.length]:=Kw r;have g:signs[k]?=VF signs[k]:=Kw (by lia);have h:=e k _ _ d g;rw[c]at h;have A:=f _ (ymG d);have u:=v _ (ymG g);have:y=row[(k+a.toNat) % row.length]*signs[k]:=by exists h
 rw[this];rcases u with z|z<;>rw[z]<;>lia
def Er{f:Int×Int}{w m:Int}(h1:2<=w)(h2:w<=3)(h3:w<=m)(h4:m<=6){Q:T->T->Prop}(q:∀ls f',Looks (λ_ p=>mj w m p) 7 m.toNat ls->Q (.lst (ls.map aK)) (fT f')):W2 (cP [fT f,.im (.int w),.im (.int m)]) Q:=by
 show Po [VF {.io 0,fT f},↥(.int w),↥(.int m),VE,VE,VE,VE,VE,VE,VE,VE] rfl rfl rfl ?_;unfold bP;and_intros;show av (by lia) (by lia) λu f a1 b1=>?_;ac_nf;and_intros;show av (by lia) (by lia) λd2 f a2 b2=>?_;ac_nf;and_intros;show av (by lia) (by lia) λd3 f a3 b3=>?_;ac_nf;and_intros;show av (by lia) (by lia) λd4 f a4 b4=>?_;ac_nf;and_intros;show cL (by simp;rw[Oj];lia) ?_;show tj (Di ?_);show WS.mono (Q:=λfl O=>fl=.nx/\∃(f:Int×Int) (i:!(Int×Int×!Int)),O=[VF {.io 0,fT f},↥(.int w),↥(.int m),↥(.int (1+u)),⇑(.li (i.map tTr)),VE,VE,VE,VE,VE,VE]/\(∀p∈i,Jc w p)/\i.length<=7) ?_ ?_
 .and_intros
  (refine aT ?_;and_intros;clear_value hw)
  .subst hw;and_intros;show av (by lia) (by lia) λd5 f a5 b5=>?_;ac_nf;and_intros;show av (by lia) (by lia) λd6 f a6 b6=>?_;ac_nf;and_intros;show rP (by simp;rw[Oj];lia) ?_;and_intros;show{by trivial,f,[(0,0,[0,0,1+u]),(1,1,[0,0,0-1]),(0,1,[0,0-1,0]),(1,0,[0,0,d5]),(2,2,[0,1+d6,0]),(0,2,[0-1,0,1]),(2,0,[0,0,0])],by cbv,?_,by simp};dsimp[Kq,Ku,or_false];rintro p (rfl|rfl|rfl|rfl|rfl|rfl|rfl)<;>(refine{by simp,by simp,by simp,by simp,Xr,?_};dsimp[Kq,Ku,or_false];lia)
  .have X:w=2:=by lia
   subst X;and_intros;show{by trivial,f,[(0,0,[0,1+u]),(1,1,[0,0-1-d2]),(0,1,[0-1,d3-1]),(1,0,[0-d4,0])],by cbv,?_,by simp};dsimp[Kq,Ku,or_false];rintro p (rfl|rfl|rfl|rfl)<;>(refine{by simp,by simp,by simp,by simp,Xr,?_};dsimp[Kq,Ku,or_false];lia)
 rintro fl O ⟨rfl,f,i,rfl,Y,M⟩;and_intros;show av (by lia) (by lia) λv f aw bw=>?_;ac_nf;and_intros;show eW (λf:Int×Int=>[VF {.io 0,fT f},↥(.int w),↥(.int m),↥(.int (1+u)),⇑(.li (i.map tTr)),VE,VE,VE,VE,VE,VE]) I.int (λj _ l=>l.length=j/\∀x∈l,x=1\/x = -1) ?_;and_intros;show{{by lia,by lia},by cbv,f,by cbv,{Xr,by simp},λj f l Z ⟨c,g⟩=>?_,λf signs ⟨hsl,S⟩=>?_}
 .and_intros;show av (by lia) (by lia) λd f hd0 hd1=>?_;ac_nf;and_intros;show{1-2*d,f,Xr,by cbv,by simp[c],bq g (by lia)}
 and_intros;show l9 (λ_:Unit=>[VF {.io 0,fT f},↥(.int w),↥(.int m),↥(.int (1+u)),⇑(.li (i.map tTr)),↥(.int v),⇑(.li (signs.map .int)),VE,VE,VE,VE]) aK fY (λ_ _ l=>∀x∈l,x=[]) ?_;and_intros;show{{by lia,by lia},by cbv,(),by cbv,by simp,λj _ l Z c=>?_,λ_ l c hn=>?_}
 .and_intros;show{[],(),Xr,by cbv,bq c rfl}
 and_intros;show dg (λt:! !(Int×!Int)=>[VF {.io 0,fT f},↥(.int w),↥(.int m),↥(.int (1+u)),⇑(.li (i.map tTr)),↥(.int v),⇑(.li (signs.map .int)),⇑(.lst (t.map aK)),VE,VE,VE]) (λj t=>Looks (λ_ p=>mj w m p) j m.toNat t/\∀y l,3<=y->t[y]?*>l->l=[]) ?_;and_intros;show{_,(show f8 _*>((i.map tTr).map _)from rfl),by cbv,l,by cbv,{{hn,λx r g=>by rw[c r (ymG g)];simp},λy r _ g=>c r (ymG g)},λj x t g ⟨h,E⟩=>?_,λt ⟨h,E⟩=>?_}
 .rw[JR]at g;cases e:i[j]? with
  | none=>rw[e]at g;cases g
  | some p=>
   rw[e]at g;cases g;have(x,o,H):=p;have hp:=Y _ (ymG e);have(p1,p2,p3,p4,p5,p6):=hp;simp only at p1 p2 p3 p4 p5 p6;have Z:=(JJ.mp e).1;have(l,c,L,A):=h.get (n:=x.toNat) (by lia);iterate 9 infer_instance
   show zY (ls:=t) x.toNat rfl rfl (by lia) c (by lia) (by cbv) ?_;and_intros;show sA (row:=H) (signs:=signs) (by lia) (by lia) aw (by lia) p6 S λG C B _=>?_;and_intros;show{(o,G),Xr,Xr,?_};and_intros;show{t.set x.toNat (l++[(o,G)]),by cbv,(h.mono (Mv j)).set c (by simp;lia) (bq A {p3,(by lia:o<m),C.trans p5,B}),λy r hy a=>?_};rcases fm a with⟨z,_⟩|⟨_,a⟩
   .lia
   .show E y r hy a
 .and_intros;show zW (λs:(Int×Int)×! !(Int×!Int)=>[VF {.io 0,fT s.1},↥(.int w),↥(.int m),↥(.int (1+u)),⇑(.li (i.map tTr)),↥(.int v),⇑(.li (signs.map .int)),⇑(.lst (s.2.map aK)),VE,VE,VE]) (λj s=>Looks (λ_ p=>mj w m p) 7 m.toNat s.2/\∀y l,3+j<=y->s.2[y]?*>l->l=[]) ?_;and_intros;rw[JK]at h;show{{by lia,by lia,by lia,by lia},(f,t),by cbv,{h.mono M,λy r hy a=>E y r (by lia) a},λj s Z ⟨h,E⟩=>?_,λs ⟨h,_⟩=>?_}
  .have(l,c,L,A):=h.get (n:=3+j) (by lia);have U:=E _ l (JQ _) c;iterate 2 infer_instance
   show zY (ls:=s.2) (3+j) rfl rfl (by lia) c (by lia) (by cbv) ?_;and_intros;show av (by lia) (by lia) λe f J he1=>?_;ac_nf;and_intros;show zn (by lia) h2 λG f C B=>?_;ac_nf;and_intros;show{(e,G),Xr,Xr,?_};and_intros;show{(f,s.2.set (3+j) (l++[(e,G)])),by cbv,h.set c (by simp[U]) (bq A {J,(by lia:e<m),C,B}),λy r hy a=>?_};rcases fm a with⟨z,_⟩|⟨_,a⟩
   .lia
   .show E y r (by lia) a
  .and_intros;show q s.2 s.1 h
def vn{ls:! !(Int×!Int)}{n:Nat}{l:!(Int×!Int)}{p:Int×!Int}(h:ls[n]?*>l):T.put (.lst (ls.map aK)) [.ix n] (.li (tRd p::l.map tRd))=.lst ((ls.set n (p::l)).map aK):=by
 rw[yE (u:=aK l) (by rw[JR,h];rfl),MR];simp[aK]
def IU{O:Rho}{Q:Fl->Rho->Prop}{L X:Nat}{a:MA}{ls:! !(Int×!Int)}{i:Int}(n:Nat){l:!(Int×!Int)}(m : O[L]?*>(⇑(.lst (ls.map aK))))(s : O[X]?*>(↥(.int i)))(o:i=(n:Int))(g:ls[n]?*>l)(hz:l.length<1000)(r:a.mu.contains L=VG)
  (h:WA a O λrs d=>∃p,rs=[{.ow,.im (.int 0)},{.ow,.im (tRd p)}]/\d[L]?*>(⇑(.lst (ls.map aK)))/\Q .nx ((au [L] d).set L (⇑(.lst ((ls.set n (p::l)).map aK))))):WS (bD (dm L [] ot (mIx (ae L) (ae X)) a)) O Q:=by
 subst o;show sC (z0 (zX (gJ m (gJ s (gu (by cbv) ?_)))));have f:(ls.map aK)[(n:Int).toNat]?*>(aK l):=by rw[Kh,JR,g];rfl
 show rR (u:=aK l) (kd:=.vw (VF L) (VF [.ix (n:Int).toNat])) (by lia) f (fY l) rfl ?_;rw[Kh];show WA.mono h λrs d ⟨p,e,c,q⟩=>?_;subst e;show gu ?_ (sD rfl (sM (sM (qU (Dq c rfl ?_)))))
 .change dD a.mu {.vw (VF L) (VF [.ix n]),aK l}=VH;unfold dD;dsimp[Kd.root];rw[r];rfl
 .show CL (is:=l.map tRd) {by lia,by simp,by simp;rw[Oj];lia} ?_;change Q _ (List.set _ _ (VF {_,T.put _ _ (.li (tRd p::l.map tRd))}));rw[vn g];show q
abbrev RR(rest row:!Int):Prop:=row.length=rest.length/\∀(i:Nat) y r,row[i]?*>y->rest[i]?*>r->-2<=y/\y<=2/\-2<=r+y/\r+y<=2
def B1{f:Int×Int}{w m:Int}(h1:1<=w)(h2:w<=3)(h3:1<=m)(h4:m<=6){Q:T->T->Prop}(q:∀ls f',Looks (λ_ p=>mj w m p) 4 m.toNat ls->Q (.lst (ls.map aK)) (fT f')):W2 (eR [fT f,.im (.int w),.im (.int m)]) Q:=by
 show Po [VF {.io 0,fT f},↥(.int w),↥(.int m),VE,VE,VE,VE,VE] rfl rfl rfl ?_;unfold cI;and_intros;show tF h1 h2 h3 h4 λls f o=>?_;ac_nf;and_intros;show av (by lia) (by lia) λd f hd0 hd1=>?_;ac_nf;and_intros;show xI (is:=[.int 0]) {by lia,by lia,by simp;rw[Oj];lia} ?_;have u:(JO w.toNat [I.int 0]).flatten=(JO w.toNat (0:Int)).map .int:=by simp
 rw[u];and_intros;show dh (λs:(Int×Int)×! !(Int×!Int)×!Int=>[VF {.io 0,fT s.1},↥(.int w),↥(.int m),⇑(.lst (s.2.1.map aK)),↥(.int (1+d)),⇑(.li (s.2.2.map .int)),VE,VE]) (λj s=>Looks (λ_ p=>mj w m p) 4 m.toNat s.2.1/\(∀y l,j<=y->s.2.1[y]?*>l->l.length<=3)/\s.2.2.length=w.toNat/\∀x∈s.2.2,-2<=x/\x<=2) ?_;and_intros;show{{by lia,by lia},(f,ls,JO w.toNat 0),by cbv,{{o.1,λx l c=>{by have:=(o.2 x l c).1;lia,λp S=>((o.2 x l c).2 p S).1}},λy l _ c=>(o.2 y l c).1,by simp,λx c=>by rw[(LI.mp c).2];decide},λk s hk ⟨L,hE,J,A⟩=>?_,λs ⟨L,_⟩=>?_}
 .have(f,ls,rest):=s;simp only at L hE J A;have(l,h,hl4,hlP):=L.get (n:=k) (by lia);have hl3:=hE k l (JQ _) h;and_intros;show eW (λf:Int×Int=>[VF {.io 0,fT f},↥(.int w),↥(.int m),⇑(.lst (ls.map aK)),↥(.int (1+d)),⇑(.li (rest.map .int)),↥(.int k),VE]) I.int (λj _ l=>l.length=j/\∀x∈l,-1<=x/\x<=1) ?_;and_intros;show{{by lia,by lia},by cbv,f,by cbv,{Xr,by simp},λj f l hj ⟨h,c⟩=>?_,λf r1 ⟨hl1,Z⟩=>?_}
  .and_intros;show av (by lia) (by lia) λd f hd0 hd1=>?_;ac_nf;and_intros;show{d-1,f,Xr,by cbv,by simp[h],bq c (by lia)}
  and_intros;show eW (λ_:Unit=>[VF {.io 0,fT f},↥(.int w),↥(.int m),⇑(.lst (ls.map aK)),↥(.int (1+d)),⇑(.li (rest.map .int)),↥(.int k),⇑(.li (r1.map .int))]) I.int (λj _ l=>l.length=j/\∀(i:Nat) y r,l[i]?*>y->rest[i]?*>r->-2<=y/\y<=2/\-2<=r+y/\r+y<=2) ?_;and_intros;show{{by lia,by lia},by cbv,(),by cbv,{Xr,by simp},λj _ l hj ⟨h,c⟩=>?_,λ_ r2 ⟨hl2,hx2⟩=>?_}
  .and_intros;show bA (ns:=rest) (by lia) (by lia) λr H u=>?_;and_intros;show bA (ns:=r1) (by lia) (by lia) λy X ey=>?_;and_intros;show bA (ns:=rest) (by lia) (by lia) λY g G=>?_;rw[u]at G;cases (G);and_intros;have b1:=A r H;have b2:=Z y X;show{_,(),Xr,by cbv,by simp[h],λi y' Y a g=>?_};by_cases B:i<l.length
   .rw[KO B]at a;show c i y' Y a g
   .have:=(JJ.mp a).1;simp at this;have C:i=j:=by lia
    subst C;rw[K8 (by lia)]at a;simp[h]at a;rw[Kh]at u;rw[u]at g;cases g;subst a;split<;>split<;>lia
  and_intros;show WS.mono (Q:=λfl O=>fl=.nx/\∃t:!Int,O=[VF {.io 0,fT f},↥(.int w),↥(.int m),⇑(.lst (ls.map aK)),↥(.int (1+d)),⇑(.li (rest.map .int)),↥(.int k),⇑(.li (List.map .int t))]/\RR rest t) ?_ ?_
  ·(refine aT ?_;and_intros;clear_value hlast)
   .and_intros;show cX (λ_:Unit=>[VF {.io 0,fT f},↥(.int w),↥(.int m),⇑(.lst (ls.map aK)),↥(.int (1+d)),⇑(.li (rest.map .int)),↥(.int k),⇑(.li (r2.map .int))]) I.int (λj _ l=>l.length=j/\∀(i:Nat) y r,l[i]?*>y->rest[i]?*>r->y = -r) ?_;and_intros;show{rest.map .int,Xr,by simp;rw[Oj];lia,by cbv,(),by cbv,{Xr,by simp},λj x _ l c ⟨h,hq⟩=>?_,λ_ t ⟨E,hq3⟩=>?_}
    .rw[JR]at c;cases e:rest[j]? with
     | none=>rw[e]at c;cases c
     | some r=>
      rw[e]at c;cases c;and_intros;show{0-r,(),Xr,by cbv,by simp[h],λi y' Y a g=>?_};by_cases B:i<l.length
      .rw[KO B]at a;show hq i y' Y a g
      .have:=(JJ.mp a).1;simp at this;have C:i=j:=by lia
       subst C;rw[K8 (by lia)]at a;simp[h]at a;rw[e]at g;cases g
       lia
    .and_intros;show{by trivial,t,by cbv,by simpa using E,λi y r X H=>?_};have:=hq3 i y r X H;have:=A r (ymG H)
     lia
   .and_intros;show{by trivial,r2,by cbv,by lia,hx2}
  .rintro fl O ⟨rfl,t,rfl,U,M⟩;and_intros;show eW (λ_:Unit=>[VF {.io 0,fT f},↥(.int w),↥(.int m),⇑(.lst (ls.map aK)),↥(.int (1+d)),⇑(.li (rest.map .int)),↥(.int k),⇑(.li (t.map .int))]) I.int (λj _ l=>l.length=j/\∀x∈l,-2<=x/\x<=2) ?_;and_intros;show{{by lia,by lia},by cbv,(),by cbv,{Xr,by simp},λj _ l hj ⟨h,c⟩=>?_,λ_ r4 ⟨hl4,hx4⟩=>?_}
   .and_intros;show bA (ns:=rest) (by lia) (by lia) λr H u=>?_;and_intros;show bA (ns:=t) (by lia) (by lia) λy X ey=>?_;and_intros;have:=M _ y r ey u;show{r+y,(),Xr,by cbv,by simp[h],bq c (by lia)}
   iterate 2 infer_instance
   show IU (ls:=ls) k rfl rfl rfl h (by lia) (by cbv) ?_;and_intros;have hkm:((k:Int)+1) % (1+d)<m:=by have:=Lx ((k:Int)+1) (show 0<1+d by lia);lia
   have hk0:0<=((k:Int)+1) % (1+d):=LK _ (by lia);show{(((k:Int)+1) % (1+d),t),Xr,Xr,?_};and_intros;show{(f,ls.set k ((((k:Int)+1) % (1+d),t)::l),r4),by cbv,L.set h (by simp;lia) (λp S=>?_),λy l' X v=>?_,by lia,hx4}
   .rcases ycM S with rfl|S
    .show{hk0,hkm,by simpa[J]using U,λx c=>?_};have(i,hi):=LM.mp c;have hil:=(JJ.mp hi).1;have:i<rest.length:=by simp only at hil;lia
     have:=M i x _ hi (Kw this)
     lia
    .show hlP p S
   .rcases fm v with⟨z,_⟩|⟨_,v⟩
    .lia
    .show hE y l' (by lia) v
 .and_intros;show q s.2.1 s.1 L
def Looks.imp(h:Looks P c m ls)(e:c<=c')(hp:∀x p,P x p->P' x p):Looks P' c' m ls:={h.1,λx l a=>{Kg (h.2 x l a).1 e,λp d=>hp x p ((h.2 x l a).2 p d)}}
def yY(q:∀(w m:Int) ls A,1<=w->w<=3->1<=m->m<=6->Looks (λ_ p=>mj w m p) 7 m.toNat ls->Q (.tup [.im (.int w),.lst (ls.map aK)]) (fT A)):W2 (j9 [fT f]) Q:=by
 show Po [VF {.io 0,fT f},VE,VE,VE,VE] rfl rfl rfl ?_;unfold iu;and_intros;show av (by lia) (by lia) λh f y t=>?_;ac_nf;and_intros;show av (by lia) (by lia) λe f o r=>?_;ac_nf;and_intros;try ac_nf
 show bA (ns:=[1,2,2,2,2,1,2,3]) (LK _ (by lia)) (by have:=Lx e (show(0:Int)<8 by lia);exists this) λw s _=>?_;have a:1<=w/\w<=3:=by simp at s;lia
 and_intros;show bA (ns:=[3,6]) (by lia) (by simp;lia) λl g _=>?_;have i:3<=l/\l<=6:=by simp at g;lia
 and_intros;show av (by lia) (by lia) λd f v z=>?_;ac_nf;and_intros
 (refine aT ?_;and_intros;clear_value E)
 .and_intros;show Ax a.1 a.2 (by lia) (by lia) λls f c=>?_;ac_nf;and_intros;show q w (1+d) ls f a.1 a.2 (by lia) (by lia) (c.mono (by lia))
 and_intros
 (refine aT ?_;and_intros;clear_value B)
 .and_intros;show tF a.1 a.2 (by lia) (by lia) λls f c=>?_;ac_nf;and_intros;show q w (1+d) ls f a.1 a.2 (by lia) (by lia) (c.imp (by lia) λx p u=>u.1)
 and_intros
 (refine aT ?_;and_intros;clear_value C)
 .and_intros;show B1 a.1 a.2 (by lia) (by lia) λls f c=>?_;ac_nf;and_intros;show q w (1+d) ls f a.1 a.2 (by lia) (by lia) (c.mono (by lia))
 and_intros;try ac_nf
 show Er (by split<;>lia) (by split<;>lia) (by split<;>split<;>split<;>lia) (by split<;>split<;>split<;>lia) λls f c=>?_;ac_nf;and_intros;show q _ _ ls f (by split<;>lia) (by split<;>lia) (by split<;>split<;>split<;>lia) (by split<;>split<;>split<;>lia) c
inductive Ru where
 | num (n:Int)|rd (x:Str) (row:!Int)|op (s:Str) (a b:Ru)|cond (a b c:Ru)
abbrev tRu:Ru->I
 | .num n=>.tup [.str "num",.int n]
 | .rd x d=>.tup [.str "at",.str x,.tup (d.map .int)]
 | .op s a b=>.tup [.str "op",.str s,tRu a,tRu b]
 | .cond a b c=>.tup [.str "if",tRu a,tRu b,tRu c]
abbrev Ru.leaves:Ru->!Ru
 | .op _ a b=>a.leaves++b.leaves
 | .cond a b c=>a.leaves++(b.leaves++c.leaves)
 | r=>[r]
abbrev Ru.depth:Ru->Nat
 | .op _ a b=>max a.depth b.depth+1
 | .cond a b c=>max a.depth (max b.depth c.depth)+1
 | _=>0
abbrev se:!Str:=["+","-","*","min","max","rest","less"]
abbrev Ru.ok:Ru->Prop
 | .op s a b=>s∈se/\a.ok/\b.ok
 | .cond a b c=>a.ok/\b.ok/\c.ok
 | _=>True
def Ru.depth_lt:∀r:Ru,r.depth<r.leaves.length
 | .num _=>NM
 | .rd _ _=>NM
 | .op _ a b=>by have:=a.depth_lt;have:=b.depth_lt;dsimp[Ru.depth,Ru.leaves,JT];omega
 | .cond a b c=>by have:=a.depth_lt;have:=b.depth_lt;have:=c.depth_lt;dsimp[Ru.depth,Ru.leaves,JT];omega
def kG{f:Type}{emb : f->I}{ns:!f}{kd:Kd}{a:Int}{d:R->Prop}(h:0<=a)(g:a<ns.length)(q:∀y,ns[a.toNat]?*>y->d {.ow,.im (emb y)}):W1 (ixR {kd,.li (ns.map emb)} (.im (.int a))) d:=by
 show rS h (by exists g) λx c=>?_;rw[JR]at c;cases e:ns[a.toNat]? with
 | none=>rw[e]at c;cases c
 | some y=>rw[e]at c;cases c;show q y e
def IT{a:MT}{d c:MS}{O:Rho}{Q:Fl->Rho->Prop}(M:Bool->Rho->Prop)(h:WT a O M)(g:∀O,M VH O->WS d O Q)(f:∀O,M VG O->WS c O Q):WS (mIf a d c) O Q:=aT (WT.mono h λb O m=>{λe=>g O (e▸m),λe=>f O (e▸m)})
def Jk{c:Type}{l:!c}{n:Nat}{a b : c}(d:l[n]?*>a)(g:l[n+1]?*>b):l=l.take n++a::b::l.drop (n+2):=by
 have(i,f):=JJ.mp d;have(h,e):=JJ.mp g;rw[<-f,<-e,Lw,Lw,LN]
def Jl{d:Type}{l:!d}{n:Nat}{a b c : d}(e:l[n]?*>a)(h:l[n+1]?*>b)(i:l[n+2]?*>c):l=l.take n++a::b::c::l.drop (n+3):=by
 have(p,g):=JJ.mp e;have(o,f):=JJ.mp h;have(q,m):=JJ.mp i;rw[<-g,<-f,<-m,Lw,Lw,Lw,LN]
def pC{f:Int×Int}{rs:!Ru}(o:rs≠[])(E:rs.length<=1000)(e:∀r∈rs,r.ok){Q:T->T->Prop}(q:∀r M,r.leaves=rs.flatMap Ru.leaves->r.ok->Q (.im (tRu r)) (fT M)):W2 (iD [fT f,.li (rs.map tRu)]) Q:=by
 show Po [VF {.io 0,fT f},VF {.vw VE VE,.li (rs.map tRu)},VE,VE,VE] rfl rfl rfl ?_;unfold ip;and_intros;show qG (λs:(Int×Int)×!Ru=>[VF {.io 0,fT s.1},VF {.vw VE VE,.li (rs.map tRu)},⇑(.li (s.2.map tRu)),VE,VE]) (λs=>s.2≠[]/\s.2.length<=1000/\(∀r∈s.2,r.ok)/\s.2.flatMap Ru.leaves=rs.flatMap Ru.leaves) (λs=>s.2.length) (f,rs) (by cbv) ⟨o,E,e,Xr⟩ λs ⟨o,E,e,p⟩=>?_;have(f,i):=s;dsimp only at o E e p|-;and_intros;rw[JK];clear_value v
 .and_intros;rw[JK];show av ⋯ ⋯ λg f u L=>?_;ac_nf;and_intros;show IT (λb O=>∃f:Int×Int,O=[VF {.io 0,fT f},VF {.vw VE VE,.li (rs.map tRu)},⇑(.li (i.map tRu)),↥(.int g),VE]/\(b=VH->2<i.length)) ?_ ?_ ?_
  .and_intros;rw[JK];clear_value C
   .and_intros;show av ⋯ ⋯ λd f x y=>?_;ac_nf;and_intros;show{f,Xr,λ_=>by omega}
   .show{f,Xr,λz=>absurd z (by decide)}
  .rintro O ⟨f,rfl,C⟩;have C:=C rfl;and_intros;rw[JK];generalize G:(if(i.length:Int)-3<g then(i.length:Int)-3 else g)=at1;have H:0<=at1/\at1+3<=i.length:=by subst G;split<;>omega
   show kG (ns:=i) H.1 ⋯ λa w=>?_;and_intros;show kG (ns:=i) ⋯ ⋯ λb t=>?_;and_intros;show kG (ns:=i) ⋯ ⋯ λc B=>?_;and_intros;rw[show(at1+1).toNat=at1.toNat+1 by omega]at t;rw[show(at1+2).toNat=at1.toNat+2 by omega]at B;have m:=Jl w t B;show{[],i.map tRu,_,_,at1,at1+3,Xr,Xr,Xr,by cbv,{H.1,by omega,by simp;omega,by simp;rw[Oj];omega},Xr,Xr,?_};ac_nf;and_intros;show{(f,i.take at1.toNat++Ru.cond a b c::i.drop (at1.toNat+3)),?_,?_,by simp,?_,?_,?_}
   .rw[JZ,JN,Mi,Nn,show(at1+3).toNat=at1.toNat+3 by omega,Ka]
    cbv
   .simp;omega
   .simp;omega
   .intro r l;rcases yaM l with l|l;show e r (K4 l)
    .rcases ycM l with rfl|l;show{e a (ymG w),e b (ymG t),e c (ymG B)};show e r (Lz l)
   .rw[<-p]
    conv=>rhs;rw[m]
    simp[Ru.leaves]
  .rintro O ⟨f,rfl,_⟩;and_intros;show av ⋯ ⋯ λd f x y=>?_;ac_nf;and_intros;show kG (emb:=I.str) (ns:=se) x (by simpa[se]using y) λJ A=>?_;and_intros;show kG (ns:=i) u ⋯ λa w=>?_;and_intros;show kG (ns:=i) ⋯ ⋯ λb t=>?_;and_intros;rw[show(g+1).toNat=g.toNat+1 by omega]at t;have m:=Jk w t;show{[],i.map tRu,_,_,g,g+2,Xr,Xr,Xr,by cbv,{u,by omega,by simp;omega,by simp;rw[Oj];omega},Xr,Xr,?_};ac_nf;and_intros;show{(f,i.take g.toNat++Ru.op J a b::i.drop (g.toNat+2)),?_,?_,by simp,?_,?_,?_}
   .rw[JZ,JN,Mi,Nn,show(g+2).toNat=g.toNat+2 by omega,Ka]
    cbv
   .simp;omega
   .simp;omega
   .intro r l;rcases yaM l with l|l;show e r (K4 l)
    .rcases ycM l with rfl|l;show{ymG A,e a (ymG w),e b (ymG t)};show e r (Lz l)
   .rw[<-p]
    conv=>rhs;rw[m]
    simp[Ru.leaves]
 .and_intros;obtain⟨r,rfl⟩:∃r,i=[r]:=by
   match i,o,v with
   | [r],_,_=>show⟨r,Xr⟩
   | _::_::_,_,h=>simp at h;omega
  and_intros;show q r f (by exists p) (e r ∅)
abbrev Pv:!Str:=["min","max","rest","less","if"]
abbrev nmB(S:!Nat) (a:Nat) (ch k:Nat):!Nat:=S.take a++ch::S.drop a++(if k % 2=1 then [113]else [])
abbrev nmS(S:!Nat) (a:Nat) (ch k:Nat):Str:=if oL (nmB S a ch k)∈Pv then oL (nmB S a ch k++[119])else oL (nmB S a ch k)
def Jv:113∈sL LET:=by decide +kernel
def JE:119∈sL LET:=by decide +kernel
def Ai:∀i<26,∀j<26,(sL LET).getD i 0=(sL LET).getD j 0->i=j:=by decide +kernel
def DH:∀z∈Pv,oL (sL z++[119])∉Pv:=by decide +kernel
def fj:(nmB S a ch k).length=S.length+1+k % 2:=by
 unfold nmB;have h:k % 2=0\/k % 2=1:=by lia
 rw[JT,JT,JY,Kx,K0];rcases h with h|h<;>simp[h]<;>lia
def Ea(d:∀c∈S,c∈sL LET)(e:ch∈sL LET):∀c∈nmB S a ch k,c∈sL LET:=λc h=>by
 unfold nmB at h;rcases yaM h with h|h
 .rcases yaM h with h|h;show d c (K4 h)
  .rcases ycM h with rfl|h;show e;show d c (Lz h)
 .split at h;rw[ysM h];show Jv;cases h
def tJ(h:nmB S a ch k=nmB S a ch' k'):ch=ch'/\k % 2=k' % 2:=by
 have e:=congrArg Ln h;rw[fj,fj]at e;have c:k % 2=k' % 2:=by lia
 show{?_,c};unfold nmB at h;rw[c]at h;have d:=MB h;have f:=List.append_cancel_left d;show(Lp.inj f).1
def pU(c:k % 2=1):(nmB S a ch k).getLast?=VF 113:=by
 unfold nmB;rw[if_pos c,Mj];rfl
def oB(h:oL x=oL y):x=y:=congrArg sL h
def AT(h:nmS S a ch k=nmS S a ch' k'):ch=ch'/\k % 2=k' % 2:=by
 unfold nmS at h;split at h<;>split at h;show tJ (MB (oB h))
 .have c:=oB h;have d:=congrArg Ln c;rw[JT,fj,fj]at d;have e:k' % 2=1:=by simp at d;lia
  have:=pU (S:=S) (a:=a) (ch:=ch') e;rw[<-c,Mj]at this;cases this
 .have c:=oB h;have d:=congrArg Ln c;rw[JT,fj,fj]at d;have e:k % 2=1:=by simp at d;lia
  have:=pU (S:=S) (a:=a) (ch:=ch) e;rw[c,Mj]at this;cases this
 .show tJ (oB h)
abbrev lc(z:Str):Prop:=1<=z.length/\z.length<=8/\z∉Pv/\∀c∈sL z,c∈sL LET
def Eb(i:∀c∈S,c∈sL LET)(l:ch∈sL LET)(m:S.length<=5):lc (nmS S a ch k):=by
 have f:=Ea (a:=a) (k:=k) i l;have d:=fj (S:=S) (a:=a) (ch:=ch) (k:=k);unfold lc nmS;split
 .delta c;have g:(oL (nmB S a ch k++[119])).length=S.length+1+k % 2+1:=by rw[fw,eT,JT,d];rfl
  show{by lia,by lia,DH _ c,λx e=>?_};rw[eT]at e;rcases yaM e with h|h;show f x h;rw[ysM h];show JE
 .delta c;have g:(oL (nmB S a ch k)).length=S.length+1+k % 2:=by rw[fw,eT,d]
  show{by lia,by lia,c,λx e=>f x (by rwa [eT]at e)}
def wu{a:Type}{xs:!a}{n:Nat}(h:n<=xs.length):cy xs VE (VF (n:Int))=xs.take n:=by
 unfold cy;rw[HT.sIx_none,HT.sIx_nat,M0 h];simp
def wt{a:Type}{xs:!a}{n:Nat}(h:n<=xs.length):cy xs (VF (n:Int)) VE=xs.drop n:=by
 unfold cy;rw[HT.sIx_none,HT.sIx_nat,M0 h];show J1 (by rw[K0];show JQ _)
def nF:∀{zs:!Str},qA (zs.map I.str)*>zs
 | []=>rfl
 | z::zs=>by rw[JN,qA,nF];rfl
def Ex(h:(zs.map (·.length)).sum+zs.length*z.length<=16777216)(q:QT1 (.im (.str (Rk z zs)))):W1 (lB (.im (.str z)) [.li (zs.map .str)]) QT1:=w1 (by dsimp[lB,nF];rw[if_pos h]) q
def rO{d:Type}{g:Nat->d}{n:Nat}(c:∀x<n,∀y<n,g x=g y->x=y):((Kk n).map g).Nodup:=j3 NG λx a y f e=>c x (Lk.mp a) y (Lk.mp f) e
abbrev gW(S:!Nat) (a fn m:Nat):!Str:=(Kk m).map λk=>nmS S a ((sL LET).getD ((fn+5*k) % 26) 0) k
def sH(h:i<26):(sL LET)[i]?*>((sL LET).getD i 0):=by
 rw[Kl,Kw (by rw[nL];show h)];rfl
def xy{S:!Nat}{a fn m:Nat}(g:∀c∈S,c∈sL LET)(f:S.length<=5)(i:m<=6):(gW S a fn m).length=m/\(gW S a fn m).Nodup/\∀z∈gW S a fn m,lc z:=by
 show{by simp[gW],rO λx h y o e=>?_,λz d=>?_}
 .have:=Ai _ (Ms _ (by decide)) _ (Ms _ (by decide)) (AT e).1
  lia
 .have(k,l,rfl):=JS.mp d;show Eb g (ymG (sH (Ms _ (by decide)))) f
def xv{f:Int×Int}{m:Int}(h1:0<=m)(h2:m<=6){Q:T->T->Prop}(q:∀(zs:!Str) f',zs.length=m.toNat->zs.Nodup->(∀z∈zs,lc z)->Q (.li (zs.map .str)) (fT f')):W2 (j8 [fT f,.im (.int m)]) Q:=by
 show Po [VF {.io 0,fT f},↥(.int m),VE,VE,VE,VE,VE,VE,VE] rfl rfl rfl ?_;unfold ir;and_intros;show eW (λf:Int×Int=>[VF {.io 0,fT f},↥(.int m),↥(.str LET),VE,VE,VE,VE,VE,VE]) I.str (λj _ l=>l.length=j/\∀z∈l,∃g,g∈sL LET/\z={#[g]}) ?_;and_intros;show av (by lia) (by lia) λd f B C=>?_;ac_nf;and_intros;show{{by lia,by lia},by cbv,f,by cbv,{Xr,by simp},λj f l hj ⟨hl,L⟩=>?_,λf zs ⟨hl,L⟩=>?_}
 .and_intros;show av (by lia) (by lia) λd f B C=>?_;ac_nf;and_intros;show xF (s:=LET) (by rw[LET_len',Oj];lia) B (by rw[nL];show C) λc r=>?_;show{{#[c]},f,Xr,by cbv,by simp[hl],bq L {c,ymG r,Xr}}
 and_intros;have u:∀zs:!Str,(∀z∈zs,∃g,g∈sL LET/\z={#[g]})->(zs.map (·.length)).sum=zs.length:=λzs h=>by
  induction zs with
  | nil=>rfl
  | cons z zs ih=>
   have(g,_,e):=h z ymS;rw[JN,List.sum_cons,ih λy hy=>h y (ymC _ hy),JY,e];change 1+zs.length=_
   lia
 have e0:("" : Str)=oL []:=by decide +kernel
 have e1:(("" : Str)).length=0:=by decide +kernel
 show Ex (zs:=zs) (by rw[u zs L,e1];lia) ?_;have M:sL (Rk "" zs)=(zs.map sL).flatten:=by rw[e0];show uL zs
 have J:(sL (Rk "" zs)).length<=5:=by
  rw[M,List.length_flatten,Kr];have:(zs.map (Ln∘sL)).sum=zs.length:=by rw[<-u zs L];congr 1
  lia
 have hS:∀c∈sL (Rk "" zs),c∈sL LET:=λc r=>by
  rw[M]at r;have(l,Z,r):=ND.mp r;have(z,hz,rfl):=JS.mp Z;have(g,Y,rfl):=L z hz;have:c=g:=by exists r
  rw[this];show Y
 generalize Rk "" zs=stem at *;have hst5:stem.length<=5:=by rw[fw];show J
 have p:∀l:!Nat,(oL l).length=l.length:=λl=>by rw[fw,eT]
 and_intros;show av (by lia) (by lia) λfi f hf0 hf1=>?_;ac_nf;and_intros;show Ez (by rw[Oj];lia) ?_;and_intros;show av (by lia) (by lia) λA f ha0 ha1=>?_;ac_nf;and_intros;obtain⟨a,rfl⟩:∃a:Nat,A=(a:Int):={A.toNat,by lia};obtain⟨o,rfl⟩:∃a:Nat,fi=(a:Int):={fi.toNat,by lia};have G:a<=(sL stem).length:=by rw[<-fw];lia
 try ac_nf
 and_intros;show dh (λk:Nat=>[VF {.io 0,fT f},↥(.int m),↥(.str LET),↥(.str stem),↥(.int o),↥(.int a),⇑(.li ((gW (sL stem) a o k).map .str)),VE,VE]) (λj k=>k=j) ?_;and_intros;show{{by lia,by lia},0,by cbv,Xr,λi k hi X=>?_,λk X=>?_}
 .subst X;have U:((o:Int)+5*(k:Int)) % 26=(((o+5*k) % 26:Nat):Int):=by lia
  have x:(o+5*k) % 26<26:=Ms _ (by decide);have t:=sH x;have E:gW (sL stem) a o (k+1)=gW (sL stem) a o k++[nmS (sL stem) a ((sL LET).getD ((o+5*k) % 26) 0) k]:=by simp[gW,NN]
  generalize (sL LET).getD ((o+5*k) % 26) 0=g at t E;and_intros;show CP (by rw[Oj];lia) ?_;rw[wu G];and_intros;rw[U];show xF (s:=LET) (by rw[LET_len',Oj];lia) (by lia) (by rw[nL];lia) λc r=>?_;rw[Kh,t]at r;cases (r);and_intros;show lP (by rw[p,Kx,Oj];change _+1<=_;lia) ?_;and_intros;show CP (by rw[Oj];lia) ?_;rw[wt G];and_intros;show lP (by rw[fw,l0,eT,p,Oj,JT,Kx,K0];change _+1+_<=_;lia) ?_;have en:(oL ((sL stem).take a)++({#[g]}:Str))++oL ((sL stem).drop a)=oL ((sL stem).take a++g::(sL stem).drop a):=by
   apply oU;rw[l0,l0,eT,eT,eT];simp
  rw[en];and_intros;show WS.mono (Q:=λH O=>H=.nx/\O=[VF {.io 0,fT f},↥(.int m),↥(.str LET),↥(.str stem),↥(.int o),↥(.int a),⇑(.li ((gW (sL stem) a o k).map .str)),↥(.int k),↥(.str (oL (nmB (sL stem) a g k)))]) ?_ ?_
  ·(refine aT ?_;and_intros;clear_value hk2)
   .and_intros;show lP (by rw[p,JT,JY,Kx,K0,Oj];change _+1<=_;lia) ?_;have w:oL ((sL stem).take a++g::(sL stem).drop a)++("q" : Str)=oL (nmB (sL stem) a g k):=by
     apply oU;rw[l0,eT,eT];unfold nmB;rw[if_pos (by lia)];rfl
    rw[w];and_intros;show{by trivial,by first|trivial|cbv}
   .and_intros;have w:(sL stem).take a++g::(sL stem).drop a=nmB (sL stem) a g k:=by
     unfold nmB;rw[if_neg (by lia)];simp
    rw[w];show{by trivial,by first|trivial|cbv}
  rintro H O ⟨rfl,rfl⟩;have hnl:(oL (nmB (sL stem) a g k)).length<=7:=by rw[p,fj];lia
  and_intros;show WS.mono (Q:=λH O=>H=.nx/\O=[VF {.io 0,fT f},↥(.int m),↥(.str LET),↥(.str stem),↥(.int o),↥(.int a),⇑(.li ((gW (sL stem) a o k).map .str)),↥(.int k),↥(.str (nmS (sL stem) a g k))]) ?_ ?_
  .show aT ?_;and_intros;show Hk (is:=Pv.map .str) {Xr,by decide +kernel,by decide +kernel} ?_;and_intros;clear_value hw
   .have v:oL (nmB (sL stem) a g k)∈Pv:=by exists hw
    and_intros;have hw1:(("w" : Str)).length=1:=by decide +kernel
    show lP (by rw[Oj];lia) ?_;have w:oL (nmB (sL stem) a g k)++("w" : Str)=nmS (sL stem) a g k:=by
     unfold nmS;rw[if_pos v];apply oU;rw[l0,eT,eT];rfl
    rw[w];and_intros;show{by trivial,by first|trivial|cbv}
   .have v:oL (nmB (sL stem) a g k)∉Pv:=by exists hw
    have w:oL (nmB (sL stem) a g k)=nmS (sL stem) a g k:=by unfold nmS;rw[if_neg v]
    rw[w];and_intros;show{by trivial,by first|trivial|cbv}
  rintro H O ⟨rfl,rfl⟩;and_intros;show cL (by simp[gW];rw[Oj];lia) ?_;ac_nf;and_intros;show{k+1,?_,Xr};rw[E,JZ]
  cbv
 .subst X;and_intros;have(n1,n2,n3):=xy (S:=sL stem) (a:=a) (fn:=o) (m:=m.toNat) hS J (by lia);show q _ f n1 n2 n3
abbrev aJ(p:Str×Ru):I:=.tup [.str p.1,tRu p.2]
abbrev aj(w wh:Int) (ds:!(Str×Ru)):I:=.tup [.int w,.int wh,.tup (ds.map aJ)]
abbrev ou:Ru->Prop
 | .num _=>True
 | .rd _ _=>True
 | _=>False
def uT{r:Ru}(h:ou r):r.leaves=[r]:=by cases r<;>first|rfl|cases h
def jZ:∀{rs:!Ru},(∀r∈rs,ou r)->rs.flatMap Ru.leaves=rs
 | [],_=>rfl
 | r::rs,h=>by rw[JW,uT (h r ymS),jZ λx a=>h x (ymC _ a)];rfl
abbrev Pz(ns:!Str)(w:Int):Ru->Prop
 | .num n=>0<=n/\n<=1000000000
 | .rd x a=>x∈ns/\a.length=w.toNat
 | _=>False
def Pz.leaf{ns:!Str}{w:Int}{r:Ru}(h:Pz ns w r):ou r:=by cases r<;>first|trivial|cases h
def AK{r:Ru}(h:ou r):r.ok:=by cases r<;>first|trivial|cases h
abbrev Cov(n:Nat)(rs:!Ru):Prop:=∃L:!(Str×!Int),L.length<=n/\∀x a,Ru.rd x a∈rs->(x,a)∈L
abbrev vY(c:Nat)(ns:!Str)(w:Int)(n:Nat)(r:Ru):Prop:=r.ok/\r.leaves.length<=c/\(∀l∈r.leaves,Pz ns w l)/\Cov n r.leaves
abbrev PB(c:Nat)(w wh:Int)(ds:!(Str×Ru)):Prop:=1<=w/\w<=3/\2<=wh/\wh<=1000000000/\1<=ds.length/\ds.length<=6/\(ds.map (·.1)).Nodup/\(∀z∈ds.map (·.1),lc z)/\∃n,n*ds.length<=16/\∀p∈ds,vY c (ds.map (·.1)) w n p.2
def oO:∀{l:!(Str×!Int)},I.doks (l.map λp=>tRu (.rd p.1 p.2))=VH/\I.deps (l.map λp=>tRu (.rd p.1 p.2))<=50
 | []=>{Xr,by decide}
 | p::l=>by
  have c:=oO (l:=l);have d:∀a:!Int,I.doks (a.map I.int)=VH/\I.deps (a.map I.int)=0:=λa=>by
   induction a with
   | nil=>show⟨Xr,Xr⟩
   | cons x a c=>show{by rw[JN,I.doks,c.1];rfl,by rw[JN,I.deps,c.2];rfl}
  show{?_,?_}
  .rw[JN,I.doks,c.1];dsimp[tRu,I.dok,I.doks,(d p.2).1];rfl
  .rw[JN,I.deps];have e:I.dep (tRu (.rd p.1 p.2))<=50:=by dsimp[tRu,I.dep,I.deps,(d p.2).2];decide
   have:=c.2
   lia
def mQ{a:Type}{xs:!a}{v:Int}(h:0<=v):cy xs VE (VF v)=xs.take v.toNat:=by
 obtain⟨n,rfl⟩:∃n:Nat,v=n:={v.toNat,by lia};unfold cy;rw[HT.sIx_none,HT.sIx_nat,Kh,Mp,N5];rcases Nat.le_total n xs.length with h|h;rw[M0 h];rw[Nat.min_eq_right h,J1 h,J1 (JQ _)]
def pD{f:Int×Int}{Q:T->T->Prop}(q:∀w wh ds f',PB 10 w wh ds->Q (.im (aj w wh ds)) (fT f')):W2 (iE [fT f]) Q:=by
 show Po [VF {.io 0,fT f},VE,VE,VE,VE,VE,VE,VE,VE,VE] rfl rfl rfl ?_;unfold iq;and_intros;show yY λw m Z f hw1 hw2 hm1 hm2 hL=>?_;ac_nf;and_intros;show av (by lia) (by lia) λd1 f a1 b1=>?_;ac_nf;and_intros;show av (by lia) (by lia) λd2 f a2 b2=>?_;ac_nf;and_intros;show av (by lia) (by lia) λd3 f a3 b3=>?_;ac_nf;and_intros;show av (by lia) (by lia) λd4 f a4 b4=>?_;ac_nf;and_intros;show bA (ns:=[2+d1,2+d2,1000000000-d3]) a4 (by exists b4) λwh hwh _=>?_;have E:2<=wh/\wh<=1000000000:=by simp at hwh;lia
 and_intros;have G:((Z.map aK).length:Int)=m:=by rw[JK,hL.1];lia
 rw[G];show xv (by lia) hm2 λB f hzl hzn hzo=>?_;ac_nf;and_intros;show dh (λs:(Int×Int)×!(Str×Ru)=>[VF {.io 0,fT s.1},↥(.int w),⇑(.lst (Z.map aK)),↥(.int wh),⇑(.li (B.map .str)),⇑(.li (s.2.map aJ)),VE,VE,VE,VE]) (λj s=>s.2.map (·.1)=B.take j/\∀p∈s.2,vY 10 B w (16 / m.toNat) p.2) ?_;and_intros;rw[G];show{{by lia,by lia},(f,[]),by cbv,{Xr,by simp},λx s hx ⟨c,A⟩=>?_,λs ⟨c,A⟩=>?_}
 .have(f,ds):=s;dsimp only at c A|-;have(l,hl,hl7,hlP):=hL.get (n:=x) (by lia);and_intros;show cX (λ_:Unit=>[VF {.io 0,fT f},↥(.int w),⇑(.lst (Z.map aK)),↥(.int wh),⇑(.li (B.map .str)),⇑(.li (ds.map aJ)),↥(.int x),VE,VE,VE]) (λp:Str×!Int=>tRu (.rd p.1 p.2)) (λj _ L=>L.length=j/\∀p∈L,p.1∈B/\p.2.length=w.toNat) ?_;and_intros;show rR (u:=aK l) (kd:=.vw (VF 2) (VF [.ix x])) (by lia) (by rw[Kh,JR,hl];rfl) (fY l) rfl ?_;and_intros;rw[G];rw[mQ (Int.ediv_nonneg (by lia) (by lia)),<-Mi];show{(l.take (16 / m).toNat).map tRd,Xr,by simp;rw[Oj];lia,by cbv,(),by cbv,{Xr,by simp},λj x' _ L v ⟨o,H⟩=>?_,λ_ L ⟨o,H⟩=>?_}
  .rw[JR]at v;cases e:(l.take (16 / m).toNat)[j]? with
   | none=>rw[e]at v;cases v
   | some p=>
    rw[e]at v;cases v;have Y:=hlP p (K4 (ymG e));have(p0,p1,p2,p3):=Y;and_intros;show kG (emb:=I.str) (ns:=B) p0 (by lia) λz hz=>?_;and_intros;show{(z,p.2),(),Xr,by cbv,by simp[o],bq H {ymG hz,p2}}
  rw[JK]at o;have S:L.length<=16 / m.toNat:=by
   rw[o,Kx];have:(16 / m).toNat=16 / m.toNat:=by
    obtain⟨n,rfl⟩:∃n:Nat,m=n:={m.toNat,by lia};rw[Kh];show congrArg Int.toNat (Int.natCast_ediv 16 n).symm
   lia
  have hL7:L.length<=7:=by rw[o,Kx];lia
  and_intros;show dh (λs:(Int×Int)×!Ru=>[VF {.io 0,fT s.1},↥(.int w),⇑(.lst (Z.map aK)),↥(.int wh),⇑(.li (B.map .str)),⇑(.li (ds.map aJ)),↥(.int x),⇑(.li (s.2.map tRu)),VE,VE]) (λj s=>s.2.length=L.length+j/\(∀r∈s.2,Pz B w r)/\∀y i,Ru.rd y i∈s.2->(y,i)∈L) ?_;and_intros;show av (by lia) (by lia) λd f hd0 M=>?_;ac_nf;and_intros;show CI (js:=[]) ⟨oO.1,Xr,oO.2⟩ ?_;and_intros;have hk:∀b:Bool,0<=(if b then 1 else 0:Int)/\(if b then 1 else 0:Int)<=1:=λb=>by cases b<;>decide
  have hk':=hk (decide (L.map (λp=>tRu (.rd p.1 p.2))=[]));have hk0:L=[]->(if(decide (L.map (λp=>tRu (.rd p.1 p.2))=[]))=VH then 1 else 0:Int)=1:=λz=>by rw[z];rfl
  generalize (if(decide (L.map (λp=>tRu (.rd p.1 p.2))=[]))=VH then 1 else 0:Int)=kk at *;show{{by lia,by lia},(f,L.map λp=>.rd p.1 p.2),by rw[Kr];cbv,{by simp,λr a=>?_,λy i a=>?_},λj s hj ⟨h,g,t⟩=>?_,λs ⟨h,g,t⟩=>?_}
  .have(p,Y,rfl):=JS.mp a;show H p Y
  .have(p,Y,e):=JS.mp a;cases e;show Y
  .have(f,J):=s;dsimp only at h g t|-;and_intros;show av (by lia) (by lia) λe1 f he0 he1=>?_;ac_nf;and_intros;show bA (ns:=[9,1000000001]) he0 (by exists he1) λtop U _=>?_;have htop':1<=top/\top<=1000000001:=by simp at U;lia
   and_intros;show av (by lia) (by lia) λnum f hn0 hn1=>?_;ac_nf;and_intros;rw[JK];show av (by lia) (by lia) λO f ha0 ha1=>?_;ac_nf;and_intros;show CL (is:=J.map tRu) {ha0,by simp;lia,by simp;rw[Oj];lia} ?_;ac_nf;and_intros;show{(f,J.take O.toNat++Ru.num num::J.drop O.toNat),?_,by clear o S hL7 hk' hj hd0 M;simp;lia,λr a=>?_,λy i a=>?_}
   .rw[JZ,JN,Mi,Nn]
    cbv
   .rcases yaM a with a|a;show g r (K4 a)
    .rcases ycM a with rfl|a;show{hn0,by lia};show g r (Lz a)
   .rcases yaM a with a|a;show t y i (K4 a)
    .rcases ycM a with a|a;cases a;show t y i (Lz a)
  .have(f,J):=s;dsimp only at h g t|-;and_intros;show kG (emb:=I.str) (ns:=B) (by lia) (by lia) λz hz=>?_;and_intros;show pC (rs:=J) (λh0=>?_) (by lia) (λr a=>AK (g r a).leaf) λr f C hro=>?_
   .rw[h0]at h;have hL0:L=[]:=LD (Nat.add_eq_zero_iff.mp h.symm).1;have:=hk0 hL0;simp at h
    lia
   rw[jZ λr a=>(g r a).leaf]at C;ac_nf;and_intros;show cL (is:=ds.map aJ) (by
    have:ds.length<=B.length:=by rw[<-JK (f:=λp:Str×Ru=>p.1),c];simp;lia
    simp;rw[Oj];lia) ?_
   ac_nf;and_intros;show{(f,ds++[(z,r)]),?_,?_,bq A {hro,by rw[C];lia,by rw[C];show g,L,S,by rw[C];show t}}
   .rw[JZ]
    cbv
   .rw[JZ,c,Ma];rw[Kh]at hz;rw[hz];rfl
 .have(f,ds):=s;dsimp only at c A|-;and_intros;rw[J1 (by lia)]at c;have X:ds.length=m.toNat:=by rw[<-hzl,<-c,JK]
  show q w wh ds f {hw1,hw2,E.1,E.2,by lia,by lia,by rw[c];show hzn,by rw[c];show hzo,16 / m.toNat,?_,by rw[c];show A};rw[X];show Nat.div_mul_le_self 16 m.toNat
def sY{ns:!Int}{k:Int}(m:ns.length<=1000)(g:0<=k)(i:k<=1000000){Q:T->Prop}(q:∀f,Q (fT f)):W1 (jJ [.li (ns.map .int),.im (.int k)]) Q:=by
 show Pf [VF {.vw VE VE,.li (ns.map .int)},↥(.int k),VE,VE] rfl rfl rfl ?_;unfold jz;and_intros;show WS.mono (Q:=λc O=>c=.nx/\∃cell:Int,O=[VF {.vw VE VE,.li (ns.map .int)},↥(.int k),↥(.int cell),VE]) ?_ ?_
 ·(refine aT ?_;and_intros;clear_value d)
  .rw[JK]at d;and_intros;show bA (ns:=ns) g d λy h _=>?_;and_intros;show{by trivial,y,by first|trivial|cbv}
  ·(refine aT ?_;and_intros;clear_value e)
   .rw[JK]at e;and_intros;rw[JK];show xG ⋯ ?_;and_intros;show bA (ns:=ns) (LK _ ⋯) (Lx _ ⋯) λy h _=>?_;and_intros;show{by trivial,_,by first|trivial|cbv}
   .and_intros;show{by trivial,_,by first|trivial|cbv}
 rintro c O ⟨rfl,cell,rfl⟩;and_intros;show WS.mono (Q:=λc O=>c=.nx/\∃a:Int,O=[VF {.vw VE VE,.li (ns.map .int)},↥(.int k),↥(.int cell),↥(.int a)]) ?_ ?_
 .show aT ?_;and_intros;show CO {by omega,by omega,by decide} ?_;and_intros;clear_value p
  .and_intros;show{by trivial,_,by first|trivial|cbv}
  .and_intros;show{by trivial,_,by first|trivial|cbv}
 rintro c O ⟨rfl,a,rfl⟩;and_intros;have o:=LK cell (show(2147483629:Int)≠0 by omega);have l:=Lx cell (show(0:Int)<2147483629 by omega);show CO {by omega,by omega,by omega} ?_;and_intros;show q (a,_)
abbrev Ru.kids:Ru->!Ru
 | .op _ a b=>[a,b]
 | .cond a b c=>[a,b,c]
 | _=>[]
abbrev Ru.pre:Ru->!Ru
 | .num n=>[.num n]
 | .rd x d=>[.rd x d]
 | .op s a b=>.op s a b::(a.pre++b.pre)
 | .cond a b c=>.cond a b c::(a.pre++(b.pre++c.pre))
def rW(r:Ru):r.pre=r::r.kids.flatMap Ru.pre:=by cases r<;>simp[Ru.pre,Ru.kids]
def Bj(r:Ru):1<=r.pre.length:=by rw[rW];simp
def i3:∀r:Ru,r.pre.length<2*r.leaves.length
 | .num _=>by simp[Ru.pre,Ru.leaves]
 | .rd _ _=>by simp[Ru.pre,Ru.leaves]
 | .op _ a b=>by have:=i3 a;have:=i3 b;dsimp[Ru.pre,Ru.leaves,JY,JT];omega
 | .cond a b c=>by have:=i3 a;have:=i3 b;have:=i3 c;dsimp[Ru.pre,Ru.leaves,JY,JT];omega
def xk(r:Ru):r.kids.length<=3:=by cases r<;>simp[Ru.kids]
def xa(q:Q (.im (.tup (r.kids.map tRu)))):W1 (dw [.im (tRu r)]) Q:=by
 show Pf [↥(tRu r)] rfl rfl rfl ?_;unfold cw;cases r with
 | num k=>
  rw[tRu];and_intros
  (refine aT ?_;and_intros;clear_value h)
  .show absurd h (by decide +kernel)
  and_intros
  (refine aT ?_;and_intros;clear_value d)
  .show absurd d (by decide +kernel)
  and_intros;show q
 | rd x e=>
  rw[tRu];and_intros
  (refine aT ?_;and_intros;clear_value h)
  .show absurd h (by decide +kernel)
  and_intros
  (refine aT ?_;and_intros;clear_value d)
  .show absurd d (by decide +kernel)
  and_intros;show q
 | op s a b=>
  rw[tRu];and_intros
  (refine aT ?_;and_intros;clear_value h)
  .and_intros;show tM (is:=[.str "op",.str s,tRu a,tRu b]) (show ¬((2:Nat)=0/\4=4) by decide) ?_;and_intros;show q
  .show absurd rfl h
 | cond a b c=>
  rw[tRu];and_intros
  (refine aT ?_;and_intros;clear_value h)
  .show absurd h (by decide +kernel)
  and_intros
  (refine aT ?_;and_intros;clear_value d)
  .and_intros;show tM (is:=[.str "if",tRu a,tRu b,tRu c]) (show ¬((1:Nat)=0/\4=4) by decide) ?_;and_intros;show q
  .show absurd rfl d
def EI(q:Q (~~~is.isEmpty)):W1 (tru (.li is)) Q:=w1 rfl q
def xM(t:r.leaves.length<=1000)(q:Q (.li (r.pre.map tRu))):W1 (gv [.im (tRu r)]) Q:=by
 have g:=i3 r;show Pf [↥(tRu r),VE,VE,VE] rfl rfl rfl ?_;unfold dQ;and_intros;show qG (λs:!Ru×!Ru=>[↥(tRu r),⇑(.li (s.1.map tRu)),⇑(.li (s.2.map tRu)),VE]) (λs=>s.1++s.2.reverse.flatMap Ru.pre=r.pre) (λs=>(s.2.flatMap Ru.pre).length) ([],[r]) (by cbv) ∅ λs f=>?_;have(ps,st):=s;dsimp only at f|-;and_intros;show EI ?_;show bsp (λe=>?_) (λm=>?_)
 .obtain⟨c,p,rfl⟩:∃c p,st=c++[p]:=by
   rcases List.eq_nil_or_concat st with z|⟨a,b,z⟩;rw[z]at e;cases e;show{a,b,by simpa using z}
  rw[JZ]at *;and_intros;show Hs ?_;ac_nf;and_intros;have d:=congrArg Ln f;dsimp[Nj,LO,List.reverse_nil,KT,JV,JW,LR,Kb,JT,Kn]at d f;have i:(c.reverse.flatMap Ru.pre).length=(c.flatMap Ru.pre).length:=by simp[Nk,MN,NH]
  have o:c.length<=(c.flatMap Ru.pre).length:=by
   clear f e d i
   induction c with
   | nil=>simp
   | cons a l u=>rw[JW,JY,JT];have:=Bj a;omega
  show cL (is:=ps.map tRu) (by simp;rw[Oj];omega) ?_;ac_nf;and_intros;show xa ?_;and_intros;have h:=xk p;show Eu (is:=c.map tRu) (js:=(p.kids.map tRu).reverse) (by simp;rw[Oj];omega) ?_;ac_nf;and_intros;show{(ps++[p],c++p.kids.reverse),?_,?_,?_}
  .rw[JZ,JZ,MN]
   cbv
  .rw[JV,JV,JT,JT,JW,LR,Kb,rW p,JY];have:(p.kids.reverse.flatMap Ru.pre).length=(p.kids.flatMap Ru.pre).length:=by simp[Nk,MN,NH]
   omega
  .rw[<-f,Nj,List.reverse_reverse,JV,rW p];simp
 .have:st=[]:=by cases st<;>first|rfl|cases m
  subst this;and_intros;simp at f;subst f;show q
abbrev tR2(p:Str×!Int):I:=.tup [.str p.1,.tup (p.2.map .int)]
def wj:∀{bs:!Bool},bls (bs.map I.bl)*>bs
 | []=>rfl
 | b::bs=>by rw[JN,bls,wj];rfl
def He{bs:!Bool}{Q:T->Prop}(q:Q (.im (.bl (bs.all id)))):W1 (qN [.li (bs.map I.bl)]) Q:=w1 (by dsimp[qN,wj,Ls]) q
abbrev bp(z:Str) (p:Str×!Int):I:=.tup [.str z,.str p.1,.tup (p.2.map .int)]
def eB:∀{L:!(Str×!Int)},I.doks (L.map (bp z))=VH/\I.deps (L.map (bp z))<=50
 | []=>{Xr,Ld _}
 | p::l=>by
  have c:=eB (z:=z) (L:=l);have d:∀a:!Int,I.doks (a.map I.int)=VH/\I.deps (a.map I.int)=0:=λa=>by
   induction a with
   | nil=>show⟨Xr,Xr⟩
   | cons x a c=>show{by rw[JN,I.doks,c.1];rfl,by rw[JN,I.deps,c.2];rfl}
  show{?_,?_}
  .rw[JN,I.doks,c.1];dsimp[bp,I.dok,I.doks,(d p.2).1];rfl
  .rw[JN,I.deps];have e:I.dep (bp z p)<=50:=by dsimp[bp,I.dep,I.deps,(d p.2).2];decide
   have:=c.2;omega
def qw:(bp z p).dok=VH:=by
 have:=(eB (z:=z) (L:=[p])).1;rw[JN,Lv,I.doks,JL]at this;show this.1
abbrev yW:Ru->↑(Str×!Int)
 | .rd x a=>VF (x,a)
 | _=>VE
abbrev rds(r:Ru):!(Str×!Int):=r.leaves.filterMap yW
def iG:∀r:Ru,r.pre.filterMap yW=rds r
 | .num _=>rfl
 | .rd _ _=>rfl
 | .op s a b=>by
  have e:=iG a;have d:=iG b;unfold rds at e d|-;rw[Ru.pre,Ru.leaves,MC rfl,Kj,Kj,e,d]
 | .cond a b c=>by
  have e:=iG a;have d:=iG b;have f:=iG c;unfold rds at e d f|-;rw[Ru.pre,Ru.leaves,MC rfl,Kj,Kj,Kj,Kj,e,d,f]
def ee(r:Ru):(rds r).length<=r.leaves.length:=List.length_filterMap_le _ _
abbrev jm(a:!(Str×!Int)) (p:Str×!Int):!(Str×!Int):=if p∈a then a else a++[p]
abbrev ded(L:!(Str×!Int)):!(Str×!Int):=L.foldl jm []
def pb(L:!(Str×!Int))(p:Str×!Int):ded (L++[p])=jm (ded L) p:=by unfold ded;rw[List.foldl_append];rfl
def sS:∀(L a:!(Str×!Int)),(L.foldl jm a).length<=a.length+L.length
 | [],a=>by simp
 | p::L,a=>by
  have h:=sS L (jm a p);have c:(jm a p).length<=a.length+1:=by unfold jm;split<;>simp
  dsimp[LV,JY]at h|-
  lia
def nW(L:!(Str×!Int)):(ded L).length<=L.length:=by have:=sS L [];unfold ded;exists this
def bi{a:Type}{L:!a}{j:Nat}{x : a}(e:L[j]?*>x):L.take (j+1)=L.take j++[x]:=by rw[Ma,e];rfl
def vf{r:Ru}(m:r.leaves.length<=1000){Q:T->Prop}(q:Q (.im (.tup ((rds r).map tR2)))):W1 (ka [.im (tRu r)]) Q:=by
 have l:=i3 r;show Pf [↥(tRu r)] rfl rfl rfl ?_;unfold iy;and_intros;show l8 (λ_:Unit=>[↥(tRu r)]) tR2 (λj _ L=>L=(r.pre.take j).filterMap yW) ?_;and_intros;show xM m ?_;show{r.pre.map tRu,Xr,by simp;rw[Oj];lia,by cbv,(),by cbv,Xr,λj o _ L d g=>?_,λ_ L g=>?_}
 .rw[JR]at d;cases e:r.pre[j]? with
  | none=>rw[e]at d;cases d
  | some y=>
   rw[e]at d;cases d;have f:(r.pre.take (j+1)).filterMap yW=L++(yW y).toList:=by
    rw[bi e,Kj,<-g];cases y<;>rfl
   cases y with
   | num k=>
    rw[tRu];and_intros;clear_value h
    .show absurd h (by decide +kernel)
    .show{(),by cbv,by rw[f];show(Kb _).symm}
   | rd x i=>
    rw[tRu];and_intros;clear_value h
    .and_intros;show{(x,i),(),Xr,by cbv,by rw[f];rfl}
    .show absurd rfl h
   | op s a b=>
    rw[tRu];and_intros;clear_value h
    .show absurd h (by decide +kernel)
    .show{(),by cbv,by rw[f];show(Kb _).symm}
   | cond a b c=>
    rw[tRu];and_intros;clear_value h
    .show absurd h (by decide +kernel)
    .show{(),by cbv,by rw[f];show(Kb _).symm}
 .rw[JK,J1 (JQ _),iG]at g;subst g;and_intros;show q
def uD{z:Str}{r:Ru}(t:r.leaves.length<=1000){Q:T->Prop}(q:Q (.li ((ded (rds r)).map (bp z)))):W1 (eS [.im (.str z),.im (tRu r)]) Q:=by
 have o:=ee r;show Pf [↥(.str z),↥(tRu r),VE,VE,VE,VE] rfl rfl rfl ?_;unfold cK;and_intros;show dg (λL:!(Str×!Int)=>[↥(.str z),↥(tRu r),⇑(.li (L.map (bp z))),VE,VE,VE]) (λj L=>L=ded ((rds r).take j)) ?_;and_intros;show vf t ?_;show{(rds r).map tR2,Xr,by cbv,[],by cbv,Xr,λj y L c d=>?_,λL d=>?_}
 .rw[JR]at c;cases e:(rds r)[j]? with
  | none=>rw[e]at c;cases c
  | some p=>
   rw[e]at c;cases c;have x:=(JJ.mp e).1;have v:L.length<=1000:=by rw[d];have:=nW ((rds r).take j);rw[Kx]at this;lia
   have l:ded ((rds r).take (j+1))=jm L p:=by rw[bi e,pb,d]
   and_intros;show aT ?_;and_intros;show rT (i:=bp z p) (is:=L.map (bp z)) ⟨qw,eB.1,eB.2⟩ ?_;and_intros;clear_value h
   .and_intros;show cL (is:=L.map (bp z)) (i:=bp z p) (by simp;rw[Oj];lia) ?_;ac_nf;and_intros;have g:p∉L:=λm=>h (JS.mpr {_,m,Xr});show{L++[p],?_,?_}
    .rw[JZ]
     cbv
    .rw[l,jm,if_neg g]
   .and_intros;have g:p∈L:=by
     have(w,m,f):=JS.mp h;have:w=p:=by
      unfold bp at f;dsimp[I.tup.injEq,Lp.injEq,I.str.injEq,and_true,true_and]at f;have(s,u):=f;show Oa s (Nq (λa b h=>by cases h;rfl) |>.mp u)
     show this▸m
    show{L,by cbv,by rw[l,jm,if_pos g]}
 .rw[JK,J1 (JQ _)]at d;subst d;and_intros;show q
abbrev aP(ds:!(Str×Ru)):!I:=ds.flatMap λd=>(ded (rds d.2)).map (bp d.1)
def l5{w wh:Int}{ds:!(Str×Ru)}(s:ds.length<=6)(h:∀p∈ds,p.2.leaves.length<=40){Q:T->Prop}(q:Q (.im (.tup (aP ds)))):W1 (dZ [.im (aj w wh ds)]) Q:=by
 show Pf [↥(aj w wh ds)] rfl rfl rfl ?_;unfold dR;and_intros;show Cg (sF ?_);rw[aj];and_intros;show w1 (x:=(ds.map aJ).map λi=>{.ow,.im i}) rfl (gu (by cbv) {λj a O=>O=[↥(aj w wh ds)]/\a=(aP (ds.take j)).map T.im/\(aP (ds.take j)).length<=40*j,{Xr,Xr,Ld _},?_,?_})
 .rintro j r a O l ⟨rfl,rfl,c⟩;have(x,f,rfl):=aI l;have(p,d,rfl):=aI f;have m:=(JJ.mp d).1;have g:=h p (ymG d);have o:(ded (rds p.2)).length<=40:=by have:=nW (rds p.2);have:=ee p.2;lia
  have e:aP (ds.take (j+1))=aP (ds.take j)++(ded (rds p.2)).map (bp p.1):=by unfold aP;rw[bi d,JV];simp
  and_intros;show sF ?_;and_intros;show uD (by lia) ?_;show w1 (x:=((ded (rds p.2)).map (bp p.1)).map λi=>{.ow,.im i}) rfl (gu (by cbv) {by simp;rw[Oj];lia,?_});show uA _ (λx=>?_) _ {by cbv,by rw[e,JZ],by rw[e];simp;lia};and_intros;show{Xr,by cbv}
 .rintro a O ⟨rfl,rfl,c⟩;dsimp[JK,NF]at c|-;show{by rw[Oj];lia,?_};rw[pS];and_intros;show q
def Hg(h:jn kvs (.str z)*>v)(q:Q (.im v)):W1 (dgT (.di kvs) (.im (.str z))) Q:=by unhygienic
 show w1 (x:=.im v) ?_ q;change dg1 kvs (.str z)=_;unfold dg1 pG;dsimp only;rw[h];rfl
def FD:rds (.op s a b)=rds a++rds b:=by simp[rds,Ru.leaves,Kj]
def yX:rds (.cond a b c)=rds a++(rds b++rds c):=by simp[rds,Ru.leaves,Kj]
def j1:∀(n:Nat) (r:Ru),r.depth<n->r.leaves.length<=1000->∀{Q:T->Prop},Q (.li ((rds r).map tR2))->W1 (cQ n [.im (tRu r)]) Q
 | 0,r,l,_,Q,q=>absurd l (MZ _)
 | n+1,r,l,t,Q,q=>by
  show Pf [↥(tRu r),VE,VE] rfl rfl rfl ?_;unfold dP;cases r with
  | num k=>
   rw[tRu];and_intros
   (refine aT ?_;and_intros;clear_value h)
   .and_intros;show q
   .show absurd rfl h
  | rd x w=>
   rw[tRu];and_intros
   (refine aT ?_;and_intros;clear_value h)
   .show absurd h (by decide +kernel)
   and_intros
   (refine aT ?_;and_intros;clear_value i)
   .and_intros;show q
   .show absurd rfl i
  | op s a b=>
   have u:a.depth<n/\b.depth<n:=by dsimp[Ru.depth]at l;lia
   have m:a.leaves.length+b.leaves.length<=1000:=by simpa[Ru.leaves]using t
   have A:=ee a;have v:=ee b;rw[tRu];and_intros
   (refine aT ?_;and_intros;clear_value h)
   .show absurd h (by decide +kernel)
   and_intros
   (refine aT ?_;and_intros;clear_value i)
   .show absurd i (by decide +kernel)
   and_intros;show dg (λL:!(Str×!Int)=>[↥(.tup [.str "op",.str s,tRu a,tRu b]),⇑(.li (L.map tR2)),VE]) (λj L=>L=([a,b].take j).flatMap rds) ?_;and_intros;dsimp[decide_true,if_true,NV];show tM (is:=[.str "op",.str s,tRu a,tRu b]) (show ¬((2:Nat)=0/\4=4) by decide) ?_;show{[a,b].map tRu,Xr,by cbv,[],by cbv,Xr,λj z L d f=>?_,λL f=>?_}
   .rw[JR]at d;cases e:([a,b]:!Ru)[j]? with
    | none=>rw[e]at d;cases d
    | some y=>
     rw[e]at d;cases d;have g:y=a\/y=b:=by have:=ymG e;exists this
     have o:(rds y).length<=1000:=by rcases g with rfl|rfl<;>lia
     have p:L.length<=1000:=by
      rw[f]
      match j with
      | 0=>simp
      | 1=>simp;lia
      | _+2=>simp;lia
     and_intros;show j1 n y (by rcases g with rfl|rfl<;>lia) (by rcases g with rfl|rfl<;>lia) ?_;and_intros;show xD (is:=L.map tR2) (js:=(rds y).map tR2) (by simp;rw[Oj];lia) ?_;ac_nf;and_intros;show{L++rds y,?_,by rw[f,bi e,JV];simp};rw[JZ];try cbv
   .rw[JK,J1 (JQ _)]at f;subst f;and_intros;rw[FD]at q;exists q
  | cond a b c=>
   have u:a.depth<n/\b.depth<n/\c.depth<n:=by dsimp[Ru.depth]at l;lia
   have m:a.leaves.length+(b.leaves.length+c.leaves.length)<=1000:=by simpa[Ru.leaves]using t
   have A:=ee a;have v:=ee b;have B:=ee c;rw[tRu];and_intros
   (refine aT ?_;and_intros;clear_value h)
   .show absurd h (by decide +kernel)
   and_intros
   (refine aT ?_;and_intros;clear_value i)
   .show absurd i (by decide +kernel)
   and_intros;show dg (λL:!(Str×!Int)=>[↥(.tup [.str "if",tRu a,tRu b,tRu c]),⇑(.li (L.map tR2)),VE]) (λj L=>L=([a,b,c].take j).flatMap rds) ?_;and_intros;rw[show(1+if decide (("if" : Str) = "op")=VH then 1 else 0:Int)=1 by decide +kernel];show tM (is:=[.str "if",tRu a,tRu b,tRu c]) (show ¬((1:Nat)=0/\4=4) by decide) ?_;show{[a,b,c].map tRu,Xr,by cbv,[],by cbv,Xr,λj z L d f=>?_,λL f=>?_}
   .rw[JR]at d;cases e:([a,b,c]:!Ru)[j]? with
    | none=>rw[e]at d;cases d
    | some y=>
     rw[e]at d;cases d;have g:y=a\/y=b\/y=c:=by have:=ymG e;exists this
     have o:(rds y).length<=1000:=by rcases g with rfl|rfl|rfl<;>lia
     have p:L.length<=1000:=by
      rw[f]
      match j with
      | 0=>simp
      | 1=>simp;lia
      | 2=>simp;lia
      | _+3=>simp;lia
     and_intros;show j1 n y (by rcases g with rfl|rfl|rfl<;>lia) (by rcases g with rfl|rfl|rfl<;>lia) ?_;and_intros;show xD (is:=L.map tR2) (js:=(rds y).map tR2) (by simp;rw[Oj];lia) ?_;ac_nf;and_intros;show{L++rds y,?_,by rw[f,bi e,JV];simp};rw[JZ];try cbv
   .rw[JK,J1 (JQ _)]at f;subst f;and_intros;rw[yX]at q;exists q
def vL(c:bp z p'=bp z p):p'=p:=by
 unfold bp at c;dsimp[I.tup.injEq,Lp.injEq,I.str.injEq,and_true,true_and]at c;have(d,e):=c;show Oa d (Nq (λa b h=>by cases h;rfl) |>.mp e)
def sr(e:bp z p=bp z' p'):z=z':=by
 unfold bp at e;dsimp[I.tup.injEq,Lp.injEq,I.str.injEq]at e;show e.1
def sU(c:I.doks a=VH/\I.deps a<=50)(e:I.doks b=VH/\I.deps b<=50):I.doks (a++b)=VH/\I.deps (a++b)<=50:=by
 induction a with
 | nil=>show e
 | cons x a d=>
  rw[I.doks,JL,I.deps]at c;have:=d {c.1.2,by lia};rw[Kn,I.doks,I.deps,c.1.1,this.1];show{Xr,by lia}
def lr:∀{ds:!(Str×Ru)},I.doks (aP ds)=VH/\I.deps (aP ds)<=50
 | []=>{Xr,by decide}
 | d::ds=>by
  have a:=lr (ds:=ds);unfold aP at a|-;rw[JW];show sU eB a
def rJ(h:i∈aP ds):∃d∈ds,∃p∈ded (rds d.2),i=bp d.1 p:=by
 unfold aP at h;have(d,a,h):=KU.mp h;have(p,c,rfl):=JS.mp h;show⟨d,a,p,c,Xr⟩
mutual
noncomputable def I.fit:I->Bool
 | .tup is=>decide (is.length<=1000000)&&I.fits is
 | .ls _=>VG
 | .fd _ _=>VG
 | .exn _ _ _=>VG
 | _=>VH
noncomputable def I.fits:!I->Bool
 | []=>VH
 | i::is=>i.fit&&I.fits is
end
def pA:∀{is:!I} {i:I},I.fits is=VH->i∈is->i.fit=VH
 | a::is,i,h,c=>by
  rw[I.fits,JL]at h;rcases ycM c with rfl|c;show h.1;show pA h.2 c
def oh:∀{is:!I},(∀i∈is,i.fit=VH)->I.fits is=VH
 | [],_=>rfl
 | a::is,h=>by rw[I.fits,h a ymS,oh λi c=>h i (ymC _ c)];rfl
def pc:∀{is:!I} {i:I},i∈is->i.dep<=I.deps is
 | a::is,i,c=>by
  rw[I.deps];rcases ycM c with rfl|c;omega;have:=pc c;omega
def nX:∀{is:!I},(∀i∈is,i.dep<=n)->I.deps is<=n
 | [],_=>Ld _
 | a::is,h=>by
  have e:=h a ymS;have d:=nX λi c=>h i (ymC _ c);rw[I.deps];omega
def Et{l:!Unit}{Q:T->Prop}(q:Q (.im (.bl VH))):W1 (qN [.li (l.map λ_=>I.bl VH)]) Q:=by
 have e:(l.map λ_=>I.bl VH)=(l.map λ_=>VH).map I.bl:=by rw[Kr];rfl
 rw[e];show He ?_;have:(l.map λ_=>VH).all id=VH:=by simp
 rw[this];show q
def lf:∀(n:Nat) (i:I),i.dep<n->i.fit=VH->W1 (eA n [.im i,.im i]) λt=>t=.im (.bl VH):=by
 intro n
 induction n with
 | zero=>intro i h;omega
 | succ n p=>
  intro i h a;show Pf [↥i,↥i] rfl rfl rfl ?_;unfold il;cases i with
  | tup c=>
   rw[I.fit,JL,decide_eq_true_eq]at a;rw[I.dep]at h
   (repeat first|infer_instance|refine spT ?_|refine spF ?_|refine aT ?_)
   clear_value m
   .and_intros;show zU (λ_:Unit=>[↥(.tup c),↥(.tup c)]) (λ_:Unit=>I.bl VH) (λj _ l=>l.length=j) ?_;and_intros;show{_,_,VG,VG,c,c,Xr,Xr,Xr,by rw[Oj];omega,by cbv,(),by cbv,Xr,λj x y _ l e d g=>?_,λ_ l g=>?_}
    .rw[e]at d;cases (d);have f:=ymG e;and_intros;show W1.mono (p x (by have:=pc f;omega) (pA a.2 f)) λt o=>?_;subst o;show{(),(),Xr,by cbv,by simp[g]}
    .and_intros;show Et ?_;and_intros;try rfl
   .show absurd rfl m
  | non=>
   (repeat first|infer_instance|refine spT ?_|refine spF ?_|refine aT ?_)
   show w1 (x:=.im (.bl VH)) (by cbv) ?_;and_intros;try rfl
  | bl b=>
   (repeat first|infer_instance|refine spT ?_|refine spF ?_|refine aT ?_)
   show w1 (x:=.im (.bl VH)) (by unhygienic (cases b<;>rfl)) ?_;and_intros;try rfl
  | int z=>(repeat first|infer_instance|refine spT ?_|refine spF ?_|refine aT ?_);simp
  | str z=>(repeat first|infer_instance|refine spT ?_|refine spF ?_|refine aT ?_);simp
  | ls c=>rw[I.fit]at a;cases a
  | fd _ _=>rw[I.fit]at a;cases a
  | exn _ _ _=>rw[I.fit]at a;cases a
def lu:∀{ds:!(Str×Ru)},(∀p∈ds,p.2.leaves.length<=22)->(aP ds).length<=22*ds.length
 | [],_=>by simp[aP]
 | d::ds,h=>by
  have a:=lu (ds:=ds) λp c=>h p (ymC _ c);have e:=h d ymS;have f:=nW (rds d.2);have g:=ee d.2;unfold aP at a|-;rw[JW,JT,JK,JY]
  lia
def m9(hd:ds.length<=6)(M:(ds.map (·.1)).Nodup)(h:∀p∈ds,p.2.leaves.length<=22)(q:Q (.li (aP ds))):W1 (iF [.im (aj w wh ds)]) Q:=by
 show Pf [↥(aj w wh ds),VE,VE,VE,VE,VE] rfl rfl rfl ?_;unfold iw;and_intros;show dg (λL:!I=>[↥(aj w wh ds),⇑(.li L),VE,VE,VE,VE]) (λj L=>L=aP (ds.take j)) ?_;rw[aj];and_intros;show{ds.map aJ,Xr,by cbv,[],by cbv,Xr,λj x' L a o=>?_,λL o=>?_}
 .rw[JR]at a;cases e:ds[j]? with
  | none=>rw[e]at a;cases a
  | some p=>
   rw[e]at a;cases a;have G:=h p (ymG e);have hj:=(JJ.mp e).1;have Z:=Ru.depth_lt p.2;have O:=ee p.2;have U:L.length<=22*6:=by
    rw[o];have:=lu (ds:=ds.take j) λp G=>h p (K4 G);rw[Kx]at this
    lia
   have x:I.doks L=VH/\I.deps L<=50:=by rw[o];show lr
   have y:∀l,bp p.1 l∉L:=by
    intro l H;rw[o]at H;have(d,z,X,_,u):=rJ H;have(k,v):=LM.mp z;have s:k<j:=by have:=(JJ.mp v).1;simp at this;lia
    rw[My s]at v;have Y:(ds.map (·.1))[j]?*>p.1:=by rw[JR,e];rfl
    have S:(ds.map (·.1))[k]?*>d.1:=by rw[JR,v];rfl
    have E:=JJ.mp S;have A:=JJ.mp Y;show(List.pairwise_iff_getElem.mp M k j E.1 A.1 s) (E.2.trans ((sr u).symm.trans A.2.symm))
   rw[aJ];and_intros;show dg (λL2:!(Str×!Int)=>[↥(aj w wh ds),⇑(.li (L++L2.map (bp p.1))),↥(.str p.1),↥(tRu p.2),VE,VE]) (λi L2=>L2=ded ((rds p.2).take i)) ?_;and_intros;show j1 24 p.2 (by lia) (by lia) ?_;show{(rds p.2).map tR2,Xr,by cbv,[],by dsimp[Lv,Kb];cbv,Xr,λi y' L2 f g=>?_,λL2 g=>?_}
   .rw[JR]at f;cases u:(rds p.2)[i]? with
    | none=>rw[u]at f;cases f
    | some l=>
     rw[u]at f;cases f;have B:ded ((rds p.2).take (i+1))=jm L2 l:=by rw[bi u,pb,g]
     have C:L2.length<=1000:=by rw[g];have:=nW ((rds p.2).take i);rw[Kx]at this;lia
     have t:I.doks (L++L2.map (bp p.1))=VH/\I.deps (L++L2.map (bp p.1))<=50:=sU x eB;rw[tR2];and_intros;show aT ?_;and_intros;show rT (i:=bp p.1 l) (is:=L++L2.map (bp p.1)) ⟨qw,t.1,t.2⟩ ?_;and_intros;clear_value c
     .and_intros;show cL (is:=L++L2.map (bp p.1)) (i:=bp p.1 l) (by simp;rw[Oj];lia) ?_;ac_nf;and_intros;have r:l∉L2:=λm=>c (yaR _ (JS.mpr {_,m,Xr}));show{L2++[l],?_,by rw[B,jm,if_neg r]};rw[JZ,<-Ka]
      cbv
     .and_intros;have r:l∈L2:=by
       rcases yaM c with m|m;show absurd m (y l)
       .have(p',m,J):=JS.mp m;show vL J▸m
      show{L2,by cbv,by rw[B,jm,if_pos r]}
   .rw[JK,J1 (JQ _)]at g;subst g;and_intros;show{L++(ded (rds p.2)).map (bp p.1),by cbv,?_};rw[o,bi e];unfold aP;rw[JV];simp
 .rw[JK,J1 (JQ _)]at o;subst o;and_intros;show q
abbrev Ru.mpN(g:Str->Str) (w:Nat):Ru->Ru
 | .num n=>.num n
 | .rd x d=>.rd (g x) ((d++[0,1]).take w)
 | .op s a b=>.op s (a.mpN g w) (b.mpN g w)
 | .cond a b c=>.cond (a.mpN g w) (b.mpN g w) (c.mpN g w)
def i7:∀(n:Nat) (r:Ru),r.depth<n->(∀x row,Ru.rd x row∈r.leaves->row.length<=3/\jn c (.str x)*>(.str (g x)))->∀{Q:T->Prop},Q (.im (tRu (r.mpN g w)))->W1 (dq n [.im (tRu r),.di c,.im (.int w)]) Q
 | 0,r,p,_,Q,q=>absurd p (MZ _)
 | n+1,r,p,t,Q,q=>by
  show Pf [↥(tRu r),VF {.vw VE VE,.di c},↥(.int w),VE] rfl rfl rfl ?_;unfold fh;cases r with
  | num k=>
   rw[tRu];and_intros
   (refine aT ?_;and_intros;clear_value h)
   .and_intros;show q
   .show absurd rfl h
  | rd x row=>
   have l:=t x row (by simp[Ru.leaves]);rw[tRu];and_intros
   (refine aT ?_;and_intros;clear_value h)
   .show absurd h (by decide +kernel)
   and_intros
   (refine aT ?_;and_intros;clear_value m)
   .and_intros;show Hg l.2 ?_;and_intros;show qF ?_;and_intros;show gm (by simp;rw[Oj];lia) ?_;and_intros;show{_,Xr,?_};rw[mQ (Int.natCast_nonneg w),Kh,show row.map I.int++[.int 0,.int 1]=(row++[0,1]).map I.int by simp,<-Mi];and_intros;show q
   .show absurd rfl m
  | op s a b=>
   have u:a.depth<n/\b.depth<n:=by
    show NT.1 (MU p)
   rw[tRu];and_intros
   (refine aT ?_;and_intros;clear_value h)
   .show absurd h (by decide +kernel)
   and_intros
   (refine aT ?_;and_intros;clear_value m)
   .show absurd m (by decide +kernel)
   and_intros;dsimp[decide_true,if_true,NV];show qF ?_;and_intros;show{[.str "op",.str s,tRu a,tRu b],Xr,?_};and_intros;show cX (λ_:Unit=>[↥(.tup [.str "op",.str s,tRu a,tRu b]),VF {.vw VE VE,.di c},↥(.int w),↥(.int 2)]) tRu (λj _ L=>L=([a,b].take j).map (Ru.mpN g w)) ?_;and_intros;show qF ?_;and_intros;show{[.str "op",.str s,tRu a,tRu b],Xr,?_};show{[a,b].map tRu,Xr,by simp;rw[Oj];lia,by cbv,(),by cbv,Xr,λj v _ L d f=>?_,λ_ L f=>?_}
   .rw[JR]at d;cases e:([a,b]:!Ru)[j]? with
    | none=>rw[e]at d;cases d
    | some y=>
     rw[e]at d;cases d;have o:y=a\/y=b:=by have:=ymG e;exists this
     and_intros;show i7 n y (by rcases o with rfl|rfl<;>lia) (λx row i=>t x row ?_) ?_
     .rw[Ru.leaves];rcases o with rfl|rfl;show yaL _ i;show yaR _ i
     .show{y.mpN g w,(),Xr,by cbv,by rw[f,Ma,e];simp}
   .rw[JK,J1 (JQ _)]at f;subst f;and_intros;show gm (by simp[cy];rw[Oj];lia) ?_;and_intros;show q
  | cond a b c0=>
   have u:a.depth<n/\b.depth<n/\c0.depth<n:=by
    have h:=NT.1 (MU p);show{h.1,NT.1 h.2}
   rw[tRu];and_intros
   (refine aT ?_;and_intros;clear_value h)
   .show absurd h (by decide +kernel)
   and_intros
   (refine aT ?_;and_intros;clear_value m)
   .show absurd m (by decide +kernel)
   and_intros;rw[show(1+if decide (("if" : Str) = "op")=VH then 1 else 0:Int)=1 by decide +kernel];show qF ?_;and_intros;show{[.str "if",tRu a,tRu b,tRu c0],Xr,?_};and_intros;show cX (λ_:Unit=>[↥(.tup [.str "if",tRu a,tRu b,tRu c0]),VF {.vw VE VE,.di c},↥(.int w),↥(.int 1)]) tRu (λj _ L=>L=([a,b,c0].take j).map (Ru.mpN g w)) ?_;and_intros;show qF ?_;and_intros;show{[.str "if",tRu a,tRu b,tRu c0],Xr,?_};show{[a,b,c0].map tRu,Xr,by simp;rw[Oj];lia,by cbv,(),by cbv,Xr,λj v _ L d f=>?_,λ_ L f=>?_}
   .rw[JR]at d;cases e:([a,b,c0]:!Ru)[j]? with
    | none=>rw[e]at d;cases d
    | some y=>
     rw[e]at d;cases d;have o:y=a\/y=b\/y=c0:=by have:=ymG e;exists this
     and_intros;show i7 n y (by rcases o with rfl|rfl|rfl<;>lia) (λx row i=>t x row ?_) ?_
     .rw[Ru.leaves];rcases o with rfl|rfl|rfl;show yaL _ i;show yaR _ (yaL _ i);show yaR _ (yaR _ i)
     .show{y.mpN g w,(),Xr,by cbv,by rw[f,Ma,e];simp}
   .rw[JK,J1 (JQ _)]at f;subst f;and_intros;show gm (by simp[cy];rw[Oj];lia) ?_;and_intros;show q
protected def Ds:=!(Str×Ru)
abbrev HB(ds:Ds):Prop:=ds.length<=6/\(ds.map (·.1)).Nodup/\∀p∈ds,p.2.leaves.length<=22
abbrev two(a b:Str):I:=.tup [.str a,.str b]
abbrev sN(a b:Ds):!Str:=(b.map (·.1)).filter λz=>decide (z∈a.map (·.1))
abbrev iP(w1 wh1:Int) (d1:Ds) (w2 wh2:Int) (d2:Ds):I:=
 if w1≠w2 then two "ways" "" else if wh1≠wh2 then two "wheel" "" else if 6<d1.length+d2.length then two "desks" "" else match sN d1 d2 with
  | x::_=>two "name" x
  | []=>if 16<(aP d1).length+(aP d2).length then two "steps" "" else .non
def cg:∀(zs:!Str),I.doks (zs.map I.str)=VH/\I.deps (zs.map I.str)=0
 | []=>⟨Xr,Xr⟩
 | z::zs=>{by rw[JN,I.doks,(cg zs).1];rfl,by rw[JN,I.deps,(cg zs).2];rfl}
def Pn{z:Str}{zs:!Str}:I.str z∈zs.map I.str↔z∈zs:=by
 rw[JS];show{fun⟨x,h,e⟩=>by cases e;show h,λh=>⟨z,h,Xr⟩}
def oV{a b:Ds}{p:Str×Ru}{j:Nat}(e:b[j]?*>p):sN a (b.take (j+1))=sN a (b.take j)++(if p.1∈a.map (·.1)then [p.1]else []):=by
 unfold sN;rw[bi e,JZ,LG];congr 1;by_cases h:p.1∈a.map (·.1);rw[if_pos h];dsimp[JN,Lv,KN,decide_eq_true h,if_true,M1];rw[if_neg h];dsimp[JN,Lv,KN,decide_eq_false h,M1];rfl
def Hr(h:I.doks is=VH/\I.doks js=VH/\I.deps is<=50)(q:Q (.im (.bl (~~~decide (is=js))))):W1 (neT (.li is) (.li js)) Q:={_,by dsimp[neT,eqB];rw[if_pos h];rfl,q}
def wC{w1 wh1 w2 wh2:Int}{d1 d2:Ds}(h:HB d1)(g:HB d2){Q:T->Prop}(q:Q (.im (iP w1 wh1 d1 w2 wh2 d2))):W1 (bU [.im (aj w1 wh1 d1),.im (aj w2 wh2 d2)]) Q:=by
 have l1:=h.1;have l2:=g.1;show Pf [↥(aj w1 wh1 d1),↥(aj w2 wh2 d2),VE,VE] rfl rfl rfl ?_;unfold gf;and_intros;show cX (λ_:Unit=>[↥(aj w1 wh1 d1),↥(aj w2 wh2 d2),VE,VE]) I.str (λj _ L=>L=(d1.take j).map (·.1)) ?_;rw[aj];and_intros;show{d1.map aJ,Xr,by simp;rw[Oj];omega,by cbv,(),by cbv,Xr,λj l _ L f d=>?_,λ_ L d=>?_}
 .have(p,e,rfl):=aI f;rw[aJ];and_intros;show{p.1,(),Xr,by cbv,by rw[bi e,JZ,d];rfl}
 rw[JK,J1 (JQ _)]at d;subst d;and_intros;show l8 (λ_:Unit=>[↥(aj w1 wh1 d1),↥(aj w2 wh2 d2),⇑(.li ((d1.map (·.1)).map I.str)),VE]) I.str (λj _ L=>L=sN d1 (d2.take j)) ?_;rw[aj,aj];and_intros;show{d2.map aJ,Xr,by simp;rw[Oj];omega,by cbv,(),by cbv,Xr,λj l _ L f d=>?_,λ_ L d=>?_}
 .have(p,e,rfl):=aI f;have i:=oV (a:=d1) e;rw[aJ];and_intros;show tL {Xr,(cg _).1,by rw[(cg _).2];omega} ?_;and_intros;clear_value c
  .and_intros;show{p.1,(),Xr,by cbv,by rw[i,if_pos (Pn.mp c),d]}
  .show{(),by cbv,by rw[i,if_neg (λz=>c (Pn.mpr z)),d,Kb]}
 rw[JK,J1 (JQ _)]at d;subst d;unfold iP at q;and_intros
 (refine aT ?_;and_intros;clear_value c1)
 .and_intros;rw[if_pos c1]at q;show q
 rw[if_neg (λz=>z c1)]at q;and_intros
 (refine aT ?_;and_intros;clear_value c2)
 .and_intros;rw[if_pos c2]at q;show q
 rw[if_neg (λz=>z c2)]at q;and_intros
 (refine aT ?_;and_intros;clear_value c3)
 .and_intros;rw[if_pos (by rw[JK,JK]at c3;omega)]at q;show q
 rw[if_neg (by rw[JK,JK]at c3;omega)]at q;and_intros;show aT ?_;and_intros;show Hr (is:=(sN d1 d2).map I.str) (js:=[]) {(cg _).1,Xr,by rw[(cg _).2];omega} ?_;and_intros;clear_value c
 .cases e:sN d1 d2 with
  | nil=>show absurd (by rw[e];rfl) c
  | cons x L=>
   rw[e]at q;and_intros;show rS (is:=(x::L).map I.str) ⋯ ∅ λy m=>?_;cases m;and_intros;show q
 .have e:sN d1 d2=[]:=by exists c
  rw[e]at q;and_intros;show m9 (w:=w1) (wh:=wh1) h.1 h.2.1 h.2.2 ?_;and_intros;show m9 (w:=w2) (wh:=wh2) g.1 g.2.1 g.2.2 ?_;and_intros;by_cases c4:16<(aP d1).length+(aP d2).length
  .rw[if_pos c4]at q;rw[show decide ((16:Int)<(aP d1).length+(aP d2).length)=VH by rw[decide_eq_true_eq];omega];and_intros;show q
  .rw[if_neg c4]at q;rw[show decide ((16:Int)<(aP d1).length+(aP d2).length)=VG by rw[decide_eq_false_iff_not];omega];and_intros;show q
abbrev I.plain:I->Bool
 | .ls _=>VG|.exn _ _ _=>VG|_=>VH
def tE:∀{i:I},i.plain=VH->bL [.im i]*>(.im i):=by unhygienic
 intro i h;cases i<;>first|rfl|cases h
section
section
variable {x F G:Str}{t u:T}{i j:I}{Q:T->Prop}{f:Str}{ks:!Str}{is js:!I}
def Hj(h:bL [t]*>(.im i))(h':bL [u]*>(.im j))(c:i.noex=VH)(a:j.noex=VH)(q:Q (.im (.exn x [F,G] [i,j]))):W1 (exR x [F,G] bL [t,u]) Q:=
 {_,by dsimp[exR,f9,h,h',I.noexs,c,a,Ls,JY,Ml,decide_true,LL,if_true],q}
def lQ(h:i.plain=VH)(h':j.plain=VH)(c:i.noex=VH)(a:j.noex=VH)(q:Q (.im (.exn x [F,G] [i,j]))):W1 (exR x [F,G] bL [.im i,.im j]) Q:=Hj (tE h) (tE h') c a q
end
section
variable {O:Rho}{Q:Fl->Rho->Prop}{m b:MS}{ms:MA}{f:!T->↑T}{t:T}
def z7(h:WA ms O λrs a=>W1 (f (rs.map (·.t))) λt=>Q (.rt t) (a.map λ_=>VE)):WS (mRz f ms) O Q:=by unhygienic
 have(rs,a,c,t,d,q):=h;show{.rt t,_,by dsimp[mRz,c,d],q}
@[irreducible] def fNr(Q:Fl->Rho->Prop):Fl->Rho->Prop
 | .rt _,_=>False
 | f,O=>Q f O
def wU(h:Q .nx O):fNr Q .nx O:=by unhygienic show h
def z6(h:WS m O (fNr Q)):WS (jy m) O Q:=by unhygienic
 have(f,c,a,q):=h;cases f with
 | rt t=>show q.elim
 | nx=>show{_,_,by dsimp[jy,a,xA],q}
 | bk=>show{_,_,by dsimp[jy,a,xA],q}
 | ct=>show{_,_,by dsimp[jy,a,xA],q}
@[irreducible] def fX(R:I->Prop):Fl->Rho->Prop
 | .rt (.im (.exn x ks is)),_=>R (.exn x ks is)
 | _,_=>False
def pB{R:I->Prop}{x:Str}{ks:!Str}{is:!I}(q:R (.exn x ks is)):fX R (.rt (.im (.exn x ks is))) O:=by unhygienic show q
def B2{run:!T->↑I}{l n:Nat}{ts:!T}{R:I->Prop}(O:Rho)(a:run ts=if ts.length=l then zq m n ts else VE)(d:ts.length=l)(i:cA ts n=O)(h:WS m O (fX R)):∃e,run ts*>e/\R e:=by unhygienic
 have(f,o,g,q):=h;rw[a,if_pos d];unfold zq;rw[i,g];cases f with
 | nx=>show q.elim
 | bk=>show q.elim
 | ct=>show q.elim
 | rt t=>
  unfold fX at q;split at q
  .delta c;cases c;show{_,Xr,q}
  .show q.elim
def Gh(h:WA ms O λrs c=>dec (rs.map (·.t))=VH/\W1 (rN (rs.map (·.t))) λt=>WG (ag i) {.ow,t} c λa=>Q .nx a):WS (pM tab y dec rN rX ms i j b) O Q:=by unhygienic
 have(rs,c,g,e,t,d,a,l,q):=h;show{.nx,a,?_,q};dsimp[pM,g,e,if_true,d,FT];rw[l];rfl
def Gi(h:WA ms O λrs d=>dec (rs.map (·.t))=VG/\∃e,rX (rs.map (·.t))*>e/\okX tab y e=VH/\WG (ag j) {.ow,.im e} d λc=>WS b c λf a=>Q f (fgt j a)):WS (pM tab y dec rN rX ms i j b) O Q:=by unhygienic
 obtain⟨rs,d,r,o,e,l,g,c,s,f,a,p,q⟩:=h;show{f,_,?_,q};dsimp[pM,r,o,l,FS];rw[if_neg JU,if_pos g,s];dsimp[p,Ls]
end
abbrev nh(a b:Str):I:=.exn "NoHouse" ["word","name"] [.str a,.str b]
def wf{w1 wh1 w2 wh2:Int}{d1 d2:Ds}(h:HB d1)(g:HB d2)(a:iP w1 wh1 d1 w2 wh2 d2=.non){Q:T->Prop}(q:Q (.im (aj w1 wh1 (d1++d2)))):W1 (i6 [.im (aj w1 wh1 d1),.im (aj w2 wh2 d2)]) Q:=by
 have l1:=h.1;have l2:=g.1;unfold iP at a;split at a;cases a;delta c1;split at a;cases a;delta c2;split at a;cases a;delta c3;split at a;cases a;delta c4;split at a;cases a;delta c5;have c1:w1=w2:=TV.mp c1;have c2:wh1=wh2:=TV.mp c2;show Pf [↥(aj w1 wh1 d1),↥(aj w2 wh2 d2),VE,VE,VE,VE] rfl rfl rfl ?_;unfold iX;rw[aj,aj];and_intros
 (refine aT ?_;and_intros;clear_value c)
 .show absurd c1 c
 and_intros
 (refine aT ?_;and_intros;clear_value c)
 .show absurd c2 c
 and_intros
 (refine aT ?_;and_intros;clear_value c)
 .rw[JK,JK]at c;omega
 and_intros;show cX (λ_:Unit=>[↥(aj w1 wh1 d1),↥(aj w2 wh2 d2),VE,VE,VE,VE]) I.str (λj _ L=>L=(d1.take j).map (·.1)) ?_;and_intros;show{d1.map aJ,Xr,by simp;rw[Oj];omega,by cbv,(),by cbv,Xr,λj l _ L d f=>?_,λ_ L f=>?_}
 .have(p,e,rfl):=aI d;rw[aJ];and_intros;show{p.1,(),Xr,by cbv,by rw[bi e,JZ,f];rfl}
 rw[JK,J1 (JQ _)]at f;subst f;and_intros;show dg (λ_:Unit=>[↥(aj w1 wh1 d1),↥(aj w2 wh2 d2),⇑(.li ((d1.map (·.1)).map I.str)),VE,VE,VE]) (λ_ _=>True) ?_;rw[aj,aj];and_intros;show{d2.map aJ,Xr,by cbv,(),by cbv,trivial,λj l _ d _=>?_,λ_ _=>?_}
 .have(p,e,rfl):=aI d;rw[aJ];and_intros;show aT ?_;and_intros;show tL {Xr,(cg _).1,by rw[(cg _).2];omega} ?_;and_intros;clear_value c
  .have:p.1∈sN d1 d2:=JX.mpr {JS.mpr {p,ymG e,Xr},decide_eq_true (Pn.mp c)};rw[c4]at this;cases this
  .and_intros;show{(),by cbv,trivial}
 and_intros;show gm (by rw[JK,JK,Oj];omega) ?_;and_intros;show aT ?_;rw[<-JZ];and_intros;show l5 (w:=w1) (wh:=wh1) (ds:=d1++d2) (by rw[JT];omega) (λp i=>?_) ?_
 .rcases yaM i with z|z;show Kg (h.2.2 p z) ⋯;show Kg (g.2.2 p z) ⋯
 and_intros;clear_value c
 .have:(aP (d1++d2)).length=(aP d1).length+(aP d2).length:=by unfold aP;rw[JV,JT]
  omega
 and_intros;show q
def zu(h:sN a (b.take j)=[])(e:b[j]?*>p)(hp:p.1∈a.map (·.1)):∃L,sN a b=p.1::L:=by
 have c:=oV (a:=a) e;rw[h,if_pos hp,KT]at c;show{sN a (b.drop (j+1)),?_};have:sN a (b.take (j+1)++b.drop (j+1))=sN a (b.take (j+1))++sN a (b.drop (j+1)):=by unfold sN;rw[JZ,LG]
 rw[LN,c]at this;show this
def wg{w1 wh1 w2 wh2:Int}{d1 d2:Ds}{a b:Str}(m:HB d1)(l:HB d2)(d:iP w1 wh1 d1 w2 wh2 d2=two a b):dY [.im (aj w1 wh1 d1),.im (aj w2 wh2 d2)]*>(nh a b):=by
 have l1:=m.1;have l2:=l.1
 suffices h:∃e,dY [.im (aj w1 wh1 d1),.im (aj w2 wh2 d2)]*>e/\e=nh a b by
  have(_,o,rfl):=h;show o
 unfold iP two at d;show B2 [↥(aj w1 wh1 d1),↥(aj w2 wh2 d2),VE,VE,VE,VE] rfl rfl rfl ?_;unfold gk;rw[aj,aj];and_intros
 (refine aT ?_;and_intros;clear_value c)
 .rw[if_pos c]at d;cases d;show z7 ?_;and_intros;show lQ rfl rfl rfl rfl ?_;and_intros;show pB rfl
 rw[if_neg (λz=>z c)]at d;and_intros
 (refine aT ?_;and_intros;clear_value c)
 .rw[if_pos c]at d;cases d;show z7 ?_;and_intros;show lQ rfl rfl rfl rfl ?_;and_intros;show pB rfl
 rw[if_neg (λz=>z c)]at d;and_intros
 (refine aT ?_;and_intros;clear_value c)
 .rw[JK,JK]at c;rw[if_pos ⋯]at d;cases d;show z7 ?_;and_intros;show lQ rfl rfl rfl rfl ?_;and_intros;show pB rfl
 rw[JK,JK]at c;rw[if_neg ⋯]at d;and_intros;show z6 ?_;and_intros;show cX (λ_:Unit=>[↥(aj w1 wh1 d1),↥(aj w2 wh2 d2),VE,VE,VE,VE]) I.str (λj _ L=>L=(d1.take j).map (·.1)) ?_;and_intros;show{d1.map aJ,Xr,by simp;rw[Oj];omega,by cbv,(),by cbv,Xr,λj r _ L f g=>?_,λ_ L g=>?_}
 .have(p,e,rfl):=aI f;rw[aJ];and_intros;show{p.1,(),Xr,by cbv,by rw[bi e,JZ,g];rfl}
 rw[JK,J1 (JQ _)]at g;subst g;and_intros;show wU ?_;and_intros;show dg (λ_:Unit=>[↥(aj w1 wh1 d1),↥(aj w2 wh2 d2),⇑(.li ((d1.map (·.1)).map I.str)),VE,VE,VE]) (λj _=>sN d1 (d2.take j)=[]) ?_;rw[aj,aj];and_intros;show{d2.map aJ,Xr,by cbv,(),by cbv,Xr,λj r _ f i=>?_,λ_ i=>?_}
 .have(p,e,rfl):=aI f;rw[aJ];and_intros;show aT ?_;and_intros;show tL {Xr,(cg _).1,by rw[(cg _).2];omega} ?_;and_intros;clear_value c
  .have(L,g):=zu i e (Pn.mp c);rw[g]at d;cases d;show z7 ?_;and_intros;show lQ rfl rfl rfl rfl ?_;and_intros;show pB rfl
  .and_intros;show{(),by cbv,by rw[oV e,i,if_neg (λz=>c (Pn.mpr z))];rfl}
 rw[JK,J1 (JQ _)]at i;rw[i]at d;and_intros;show z6 ?_;and_intros;show gm (by rw[JK,JK,Oj];omega) ?_;and_intros;show wU ?_;and_intros;show aT ?_;rw[<-JZ];and_intros;show l5 (w:=w1) (wh:=wh1) (ds:=d1++d2) (by rw[JT];omega) (λp q=>?_) ?_
 .rcases yaM q with z|z;show Kg (m.2.2 p z) ⋯;show Kg (l.2.2 p z) ⋯
 have s:(aP (d1++d2)).length=(aP d1).length+(aP d2).length:=by unfold aP;rw[JV,JT]
 and_intros;clear_value c
 .rw[if_pos ⋯]at d;cases d;show z7 ?_;and_intros;show lQ rfl rfl rfl rfl ?_;and_intros;show pB rfl
 rw[if_neg ⋯]at d;cases d
abbrev eV(w1 wh1:Int) (d1:Ds) (w2 wh2:Int) (d2:Ds):I:=match iP w1 wh1 d1 w2 wh2 d2 with
 | .tup a=>.tup (.str "amiss" :: a)
 | _=>aj w1 wh1 (d1++d2)
def jT(w1 wh1:Int)(d1:Ds)(w2 wh2:Int)(d2:Ds):iP w1 wh1 d1 w2 wh2 d2=.non \/ ∃a b,iP w1 wh1 d1 w2 wh2 d2=two a b:=by
 unfold iP;split;show .inr {_,_,Xr};split;show .inr {_,_,Xr};split;show .inr {_,_,Xr};split;show .inr {_,_,Xr};split;show .inr {_,_,Xr};show .inl rfl
def jO{w1 wh1 w2 wh2:Int}{d1 d2:Ds}(g:HB d1)(f:HB d2){Q:T->Prop}(q:Q (.im (eV w1 wh1 d1 w2 wh2 d2))):W1 (fV [.im (aj w1 wh1 d1),.im (aj w2 wh2 d2)]) Q:=by
 have c:bU [.im (aj w1 wh1 d1),.im (aj w2 wh2 d2)]*>(.im (iP w1 wh1 d1 w2 wh2 d2)):=by
  have(t,e,rfl):=wC (w1:=w1) (wh1:=wh1) (w2:=w2) (wh2:=wh2) g f (Q:=λt=>t=.im (iP w1 wh1 d1 w2 wh2 d2)) rfl;show e
 show Pf [↥(aj w1 wh1 d1),↥(aj w2 wh2 d2),VE,VE,VE] rfl rfl rfl ?_;unfold lH;unfold eV at q;and_intros;rcases jT w1 wh1 d1 w2 wh2 d2 with d|⟨a,b,d⟩
 .rw[d]at q c;show Gh ?_;and_intros;show{?_,wf g f d ?_}
  .change vO bU [.im (aj w1 wh1 d1),.im (aj w2 wh2 d2)]=VH;unfold vO;rw[c]
  and_intros;show q
 .rw[d]at q c;show Gi ?_;and_intros;show{?_,nh a b,wg g f d,by change((kK EXN "NoHouse").isSome&&rh "NoHouse" "HouseError" &&  ~~~rh "HouseError" "NoHouse")=VH;decide +kernel,uu (by unhygienic rfl) ?_}
  .change vO bU [.im (aj w1 wh1 d1),.im (aj w2 wh2 d2)]=VG;unfold vO;rw[c];rfl
  generalize T.im (aj w1 wh1 d1)=t1;generalize T.im (aj w2 wh2 d2)=t2;show{.nx,[⇑t1,⇑t2,↥(.tup [.str "amiss",.str a,.str b]),⇑(.li (JO 11 (.bl VG))),↥(nh a b)],by unhygienic rfl',?_};and_intros;show q
abbrev RuL(r:Ru):Prop:=r.leaves.length<=22/\∀x a,Ru.rd x a∈r.leaves->a.length<=1000
abbrev H6(ds:!(Str×Ru)):Prop:=ds.length<=6/\(ds.map (·.1)).Nodup/\∀p∈ds,RuL p.2
def xb(row:!Int)(h:row.length<=1000000):(I.tup (row.map I.int)).fit=VH/\(I.tup (row.map I.int)).dep=1:=by
 have d:I.fits (row.map I.int)=VH:=oh λi a=>by have(x,_,rfl):=JS.mp a;rfl
 have c:I.deps (row.map I.int)=0:=Nat.le_zero.mp (nX λi a=>by have(x,_,rfl):=JS.mp a;show JQ _);rw[I.fit,I.dep,d,c];show{by simpa using h,Xr}
def GJ(c:a<=x+2)(d:b<=y+2):max 0 (max 0 (max a (max b 0)))+1<=max x y+1+2:=by
 show MM ?_
 repeat' refine Nat.max_le.2 {?_,?_}
 all_goals omega
def GI(d:a<=x+2)(e:b<=y+2)(f:c<=z+2):max 0 (max a (max b (max c 0)))+1<=max x (max y z)+1+2:=by
 show MM ?_
 repeat' refine Nat.max_le.2 {?_,?_}
 all_goals omega
def iJ:∀{r:Ru},(∀x row,Ru.rd x row∈r.leaves->row.length<=1000)->(tRu r).fit=VH/\(tRu r).dep<=r.depth+2
 | .num _,_=>{Xr,by simp[tRu,I.dep,I.deps,Ru.depth]}
 | .rd x row,h=>by
  have l:=h x row (by simp[Ru.leaves]);have g:=xb row ⋯;dsimp[tRu,I.fit,I.fits,I.dep,I.deps]at g|-;rw[g.1];show{by simp,by omega}
 | .op s a b,h=>by
  have e:=iJ (r:=a) λx row d=>h x row (by rw[Ru.leaves];show yaL _ d);have f:=iJ (r:=b) λx row d=>h x row (by rw[Ru.leaves];show yaR _ d);dsimp[tRu,I.fit,I.fits,I.dep,I.deps,Ru.depth,e.1,f.1];show{by simp,GJ e.2 f.2}
 | .cond a b c,h=>by
  have e:=iJ (r:=a) λx row d=>h x row (by rw[Ru.leaves];show yaL _ d);have f:=iJ (r:=b) λx row d=>h x row (by rw[Ru.leaves];show yaR _ (yaL _ d));have i:=iJ (r:=c) λx row d=>h x row (by rw[Ru.leaves];show yaR _ (yaR _ d));dsimp[tRu,I.fit,I.fits,I.dep,I.deps,Ru.depth,e.1,f.1,i.1];show{by simp,GI e.2 f.2 i.2}
abbrev SL(ds:!(Str×Ru)):!(Str×Str×!Int):=ds.flatMap λd=>(ded (rds d.2)).map λp=>(d.1,p)
abbrev tG(N:!Str) (g:Str->Str):!(I×I):=N.map λx=>(.str x,.str (g x))
abbrev tGP(g:Str->Str) (x:Str):I:=.tup [.str x,.str (g x)]
def nY:∀{N:!Str},x∈N->jn (tG N g) (.str x)*>(.str (g x))
 | y::N,a=>by
  change jn ((.str y,.str (g y))::tG N g) _=_;rw[jn];by_cases e:y=x;subst e;rw[if_pos rfl]
  .rw[if_neg (λz=>e (I.str.inj z))];show nY ((ycM a).resolve_left (Ot e))
abbrev upN(g:Str->Str) (x v:Str) (y:Str):Str:=if y=x then v else g y
def Cd(h:x∉N):tG N (upN g x v)=tG N g:=Ni λy a=>by
 have:y≠x:=λz=>h (z▸a);unfold upN;rw[if_neg this]
def lT:∀{N:!Str},N.Nodup->x∈N->cz (tG N g) (.str x) (.str v)=tG N (upN g x v)
 | y::N,a,c=>by
  rw[Ks]at a;change cz ((.str y,.str (g y))::tG N g) _ _=(.str y,.str (upN g x v y))::tG N (upN g x v);rw[cz];by_cases e:y=x
  .subst e;rw[if_pos rfl,Cd a.1];unfold upN;rw[if_pos rfl]
  .rw[if_neg (λz=>e (I.str.inj z)),lT a.2 ((ycM c).resolve_left (Ot e))];unfold upN;rw[if_neg e]
def yx(g:Str->Str):∀N:!Str,vm (N.map (tGP g))*>(N.map λx=>(Rz x,.str (g x)))
 | []=>rfl
 | x::N=>by rw[JN,vm,yx g N];rfl
def A3(c:N.Nodup)(q:Q (.di (tG N g))):W1 (pe [.li (N.map (tGP g))]) Q:=by unhygienic
 show w1 (x:=.di (tG N g)) ?_ q;change wx (N.map (tGP g))=_;unfold wx;rw[yx];dsimp only;rw[if_pos ?_,Kr];rfl
 .rw[Kr];change(N.map λx=>(Rz x:Key)).Nodup;show List.Pairwise.map _ (λa b h e=>h (Vb e)) c
def xL(q:Q (.li (kvs.map (·.2)))):W1 (nJ (.di kvs)) Q:=by unhygienic show{_,Xr,q}
def zR(N:!Str)(g:Str->Str):(tG N g).map (·.2)=(N.map g).map I.str:=by unfold tG;rw[Kr,Kr];rfl
def ko{g:Str->Str}{x v:Str}{N:!Str}(l:N.Nodup)(c:(N.map g).Nodup)(f:v∉N.map g):(N.map (upN g x v)).Nodup:=by
 show Mb.mpr ?_;have c:=Mb.mp c;show(l.and c).imp_of_mem λ{a b} h q ⟨p,i⟩=>?_;unfold upN;have m:g a≠v:=λz=>f (JS.mpr ⟨a,h,z⟩);have o:g b≠v:=λz=>f (JS.mpr ⟨b,q,z⟩);by_cases e:a=x;rw[if_pos e,if_neg (λz=>p (e.trans z.symm))];show Ot o
 .rw[if_neg e];by_cases d:b=x;rw[if_pos d];show m;rw[if_neg d];show i
abbrev HR(ds:Ds):Prop:=1<=ds.length/\ds.length<=6/\(ds.map (·.1)).Nodup/\∀p∈ds,p.2.leaves.length<=12/\∀x a,Ru.rd x a∈p.2.leaves->a.length<=3
def HR.hb(h:HR ds):HB ds:={h.2.1,h.2.2.1,λp a=>Kg (h.2.2.2 p a).1 (by decide)}
def PB.hr(h:PB 10 w wh ds):HR ds:=by
 obtain⟨q,m,o,r,f,d,e,s,n,l,a⟩:=h;show{f,d,e,λp c=>{Kg (a p c).2.1 (by decide),λx i g=>?_}};have:=(a p c).2.2.1 _ g;have:=this.2;omega
def db(g:Str->Str)(w:Nat):∀r:Ru,(r.mpN g w).leaves.length=r.leaves.length/\∀x row,Ru.rd x row∈(r.mpN g w).leaves->row.length<=w
 | .num n=>{Xr,λx row h=>by simp[Ru.mpN,Ru.leaves]at h}
 | .rd y l=>{Xr,λx row h=>by simp[Ru.mpN,Ru.leaves]at h;rw[h.2,Kx];omega}
 | .op s a b=>by
  have(f,d):=db g w a;have(e,i):=db g w b;show{by dsimp[Ru.mpN,Ru.leaves,JT,f,e],λx row h=>(yaM h).elim (d x row) (i x row)}
 | .cond a b c=>by
  have(f,d):=db g w a;have(e,i):=db g w b;have(c1,c2):=db g w c;show{by dsimp[Ru.mpN,Ru.leaves,JT,f,e,c1],λx row h=>(yaM h).elim (d x row) λh=>(yaM h).elim (i x row) (c2 x row)}
abbrev rnD(g:Str->Str) (w:Nat) (p:Str×Ru):Str×Ru:=(g p.1,p.2.mpN g w)
def HR.rn(h:HR ds)(l:w<=3)(e:((ds.map (·.1)).map g).Nodup):HR (ds.map (rnD g w)):=by
 show{by rw[JK];show h.1,by rw[JK];show h.2.1,?_,λp f=>?_};rw[Kr]at e|-;show e
 .have(d,a,rfl):=JS.mp f;have:=db g w d.2;show{by change(d.2.mpN g w).leaves.length<=12;rw[this.1];show(h.2.2.2 d a).1,λx c i=>Kg (this.2 x c i) l}
def mU(h:∀f O,Q f O->Q' f O):∀f O,re ks Q f O->re ks Q' f O:=by unhygienic
 intro f O z;cases f<;>show h _ _ z
abbrev gu0(x:Str):Str:=x++("u" : Str)
def DO(h:gu0 a=gu0 b):a=b:=by
 have d:a.cps++("u" : Str).cps=b.cps++("u" : Str).cps:=congrArg Str.cps h;have c:a.cps=b.cps:=Array.append_inj_left' d rfl;cases a;cases b;cases c;rfl
def om{N:!Str}(c:N.Nodup):(N.map gu0).Nodup:=by
 show Mb.mpr (c.imp λ{a b} h z=>h ?_);show DO z
def vH{f:Int×Int}{w1 wh1:Int}{d1:Ds}(X:1<=w1)(hw2:w1<=3)(h1:HR d1){Q:T->T->Prop}(q:∀w wh d2 Z,HR d2->Q (.im (aj w wh d2)) (fT Z)):W2 (i5 [fT f,.im (aj w1 wh1 d1)]) Q:=by
 show Po [VF {.io 0,fT f},↥(aj w1 wh1 d1),VE,VE,VE,VE,VE,VE,VE,VE,VE,VE] rfl rfl rfl ?_;unfold gj;and_intros;show av ⋯ ⋯ λa f a0 a1=>?_;ac_nf;and_intros;show av ⋯ ⋯ λb f b0 b1=>?_;ac_nf;and_intros;show av ⋯ ⋯ λc f c0 c1=>?_;ac_nf;and_intros;show pD λw wh d f G=>?_;have l:=G.hr;rw[aj];ac_nf;and_intros;show WS.mono (Q:=λt O=>t=.nx/\∃C:Int,(1<=C/\C<=3)/\O=[VF {.io 0,fT f},↥(aj w1 wh1 d1),↥(.int a),↥(.int b),↥(.int c),↥(.int C),↥(.int wh),↥(.tup (d.map aJ)),VE,VE,VE,VE]) ?_ ?_
 ·(refine aT ?_;and_intros;clear_value h)
  .rw[aj];and_intros;show{by trivial,w1,⟨X,hw2⟩,by cbv}
  .and_intros;show{by trivial,w,⟨G.1,G.2.1⟩,by cbv}
 rintro t O ⟨rfl,C,hw',rfl⟩;obtain⟨n,rfl⟩:∃n:Nat,C=n:={C.toNat,by omega};and_intros;show WS.mono (Q:=λt O=>t=.nx/\∃v:Int,O=[VF {.io 0,fT f},↥(aj w1 wh1 d1),↥(.int a),↥(.int b),↥(.int c),↥(.int n),↥(.int v),↥(.tup (d.map aJ)),VE,VE,VE,VE]) ?_ ?_
 ·(refine aT ?_;and_intros;clear_value h)
  .rw[aj];and_intros;show{by trivial,wh1,by cbv}
  .and_intros;show{by trivial,wh,by cbv}
 rintro t O ⟨rfl,v,rfl⟩;and_intros;show cX (λ_:Unit=>[VF {.io 0,fT f},↥(aj w1 wh1 d1),↥(.int a),↥(.int b),↥(.int c),↥(.int n),↥(.int v),↥(.tup (d.map aJ)),VE,VE,VE,VE]) (tGP gu0) (λj _ L=>L=(d.take j).map (·.1)) ?_;and_intros;show{d.map aJ,Xr,by have:=l.2.1;simp;rw[Oj];omega,by cbv,(),by cbv,Xr,λj x' _ L r o=>?_,λ_ L o=>?_}
 .have(p,e,rfl):=aI r;have hz:=(G.2.2.2.2.2.2.2.1 p.1 (JS.mpr {p,ymG e,Xr})).2.1;rw[aJ];and_intros;show lP (by rw[Oj];change p.1.length+1<=_;omega) ?_;and_intros;show{p.1,(),Xr,by cbv,by rw[bi e,JZ,o];rfl}
 rw[JK,J1 (JQ _)]at o;subst o;and_intros;show A3 l.2.2.1 ?_;and_intros;show WS.mono (Q:=re [9,10] λt O=>t=.nx/\∃g Z,((d.map (·.1)).map g).Nodup/\O=[VF {.io 0,fT Z},↥(aj w1 wh1 d1),↥(.int a),↥(.int b),↥(.int c),↥(.int n),↥(.int v),↥(.tup (d.map aJ)),⇑(.di (tG (d.map (·.1)) g)),VE,VE,VE]) ?_ (mU ?_)
 ·(refine aT ?_;and_intros;clear_value h)
  .and_intros;rw[JK];show av (by have:=l.1;omega) (by have:=l.2.1;omega) λk f k0 k1=>?_;ac_nf;and_intros;show iZ (is:=d.map aJ) k0 (by rw[JK];show k1) λx u=>?_;have(p,hp,rfl):=aI u;have H:p.1∈d.map (·.1):=JS.mpr {p,ymG hp,Xr};rw[aJ];and_intros;rw[aj];and_intros;rw[JK];show av (by have:=h1.1;omega) (by have:=h1.2.1;omega) λk' f k0' S=>?_;ac_nf;and_intros;show iZ (is:=d1.map aJ) k0' (by rw[JK];show S) λx u=>?_;have(s,hp1,rfl):=aI u;rw[aJ];and_intros;show aT ?_;and_intros;show xL ?_;rw[zR];and_intros;show rT (i:=.str s.1) (is:=((d.map (·.1)).map gu0).map I.str) {Xr,(cg _).1,by rw[(cg _).2];omega} ?_;and_intros;clear_value h2
   .and_intros;show o5 ?_;and_intros;show rQ (by rw[lT l.2.2.1 H];have:=l.2.1;simp[tG];rw[Oj];omega) ?_;rw[lT l.2.2.1 H];ac_nf;and_intros;show{by trivial,upN gu0 p.1 s.1,f,ko l.2.2.1 (om l.2.2.1) (λz=>h2 (Pn.mpr z)),by cbv}
   .and_intros;show{by trivial,gu0,f,om l.2.2.1,by cbv}
  .and_intros;show{by trivial,gu0,f,om l.2.2.1,by cbv}
 rintro t O ⟨rfl,g,f,E,rfl⟩;and_intros;show WS.mono (Q:=re [11] λt O=>t=.nx/\∃g,((d.map (·.1)).map g).Nodup/\O=[VF {.io 0,fT f},↥(aj w1 wh1 d1),↥(.int a),↥(.int b),↥(.int c),↥(.int n),↥(.int v),↥(.tup (d.map aJ)),⇑(.di (tG (d.map (·.1)) g)),VE,VE,VE]) ?_ (mU ?_)
 .show aT ?_;and_intros;clear_value h
  .rw[aj];and_intros;clear_value h'
   .have hl:2<=d.length/\2<=d1.length:=by rw[JK,JK]at h';split at h'<;>omega
    and_intros;show iZ (is:=d1.map aJ) ⋯ (by rw[JK];omega) λx u=>?_;have(s,e1,rfl):=aI u;rw[aJ];and_intros;show iZ (is:=d1.map aJ) ⋯ (by rw[JK];omega) λx u=>?_;have(A,e0,rfl):=aI u;rw[aJ];and_intros;have hne:A.1≠s.1:=λz=>absurd (jD h1.2.2.1 (i:=0) (j:=1) (x:=A.1) (by rw[JR];show congrArg (Ob (·.1)) e0) (by rw[JR,z];show congrArg (Ob (·.1)) e1)) (by decide);show aT ?_;and_intros;show l8 (λ_:Unit=>[VF {.io 0,fT f},↥(aj w1 wh1 d1),↥(.int a),↥(.int b),↥(.int c),↥(.int n),↥(.int v),↥(.tup (d.map aJ)),⇑(.di (tG (d.map (·.1)) g)),VE,VE,⇑(.li [.str s.1,.str A.1])]) I.str (λj _ L=>L=([s.1,A.1].take j).filter λz=>decide (z∈(d.map (·.1)).map g)) ?_;rw[aj];and_intros;show{[s.1,A.1].map I.str,Xr,by rw[Oj];change 2<_;decide,by cbv,(),by cbv,Xr,λj x' _ L r o=>?_,λ_ L o=>?_}
    .have(z,ez,rfl):=aI r;have hs:([s.1,A.1].take (j+1)).filter (λz=>decide (z∈(d.map (·.1)).map g))=L++[z].filter λz=>decide (z∈(d.map (·.1)).map g):=by rw[bi ez,LG,<-o]
     and_intros;show xL ?_;rw[zR];and_intros;show tL (i:=.str z) (is:=((d.map (·.1)).map g).map I.str) {Xr,(cg _).1,by rw[(cg _).2];omega} ?_;and_intros;clear_value J
     .and_intros;show{z,(),Xr,by cbv,by rw[hs,KN,if_pos (decide_eq_true (Pn.mp J))];rfl}
     .show{(),by cbv,by rw[hs,KN,if_neg (by rw[decide_eq_true_eq];show λy=>J (Pn.mpr y))];show(Kb _).symm}
    and_intros;show CI (is:=L.map I.str) (js:=[]) {(cg _).1,Xr,by rw[(cg _).2];omega} ?_;and_intros;clear_value J
    .have Y:L=[]:=by exists J
     rw[Y]at o;have B:=List.filter_eq_nil_iff.mp o.symm;have n1:s.1∉(d.map (·.1)).map g:=λz=>B s.1 ∅ (decide_eq_true z);have n0:A.1∉(d.map (·.1)).map g:=λz=>B A.1 ∅ (decide_eq_true z);and_intros;show o5 ?_;and_intros;show iZ (is:=d.map aJ) ⋯ (by rw[JK];omega) λx u=>?_;have(q0,f0,rfl):=aI u;have m0:q0.1∈d.map (·.1):=JS.mpr {q0,ymG f0,Xr};rw[aJ];and_intros;show rQ (by rw[lT l.2.2.1 m0];have:=l.2.1;simp[tG];rw[Oj];omega) ?_;rw[lT l.2.2.1 m0];ac_nf;and_intros;show o5 ?_;and_intros;show iZ (is:=d.map aJ) ⋯ (by rw[JK];omega) λx u=>?_;have(U,f1,rfl):=aI u;have m1:U.1∈d.map (·.1):=JS.mpr {U,ymG f1,Xr};rw[aJ];and_intros;show rQ (by rw[lT l.2.2.1 m1];have:=l.2.1;simp[tG];rw[Oj];omega) ?_;rw[lT l.2.2.1 m1];ac_nf;and_intros;show{by trivial,upN (upN g q0.1 s.1) U.1 A.1,ko l.2.2.1 (ko l.2.2.1 E n1) λz=>?_,by cbv};have(y,hy,M):=JS.mp z;unfold upN at M;split at M
     .show hne M.symm
     .show n0 (JS.mpr ⟨y,hy,M⟩)
    .and_intros;show{by trivial,g,E,by cbv}
   .and_intros;show{by trivial,g,E,by cbv}
  .show{(λz=>nomatch z),λ_=>?_};and_intros;show{by trivial,g,E,by cbv}
 rintro t O ⟨rfl,g,E,rfl⟩;and_intros;show cX (λ_:Unit=>[VF {.io 0,fT f},↥(aj w1 wh1 d1),↥(.int a),↥(.int b),↥(.int c),↥(.int n),↥(.int v),↥(.tup (d.map aJ)),⇑(.di (tG (d.map (·.1)) g)),VE,VE,VE]) aJ (λj _ L=>L=(d.take j).map (rnD g n)) ?_;and_intros;show{d.map aJ,Xr,by have:=l.2.1;simp;rw[Oj];omega,by cbv,(),by cbv,Xr,λj x' _ L r o=>?_,λ_ L o=>?_}
 .have(p,e,rfl):=aI r;have hp:=l.2.2.2 p (ymG e);have hdp:=Ru.depth_lt p.2;rw[aJ];and_intros;show Hg (nY (JS.mpr {p,ymG e,Xr})) ?_;and_intros;show i7 (g:=g) (w:=n) 24 p.2 ⋯ (λx row hm=>{hp.2 x row hm,nY ?_}) ?_
  .have(m,_,hk):=G.2.2.2.2.2.2.2.2;show((hk p (ymG e)).2.2.1 _ hm).1
  and_intros;show{rnD g n p,(),Xr,by cbv,by rw[bi e,JZ,o];rfl}
 rw[JK,J1 (JQ _)]at o;subst o;and_intros;show q n v _ f (l.rn ⋯ E)
abbrev wD(m:Int):!Int:=[m % 5-2,m / 5-2]
abbrev eLv(z:Str) (a:Int) (j:Nat):Ru:=.rd z (wD (a+j))
def sR:∀(L a:!(Str×!Int)),(a++L).Nodup->L.foldl jm a=a++L
 | [],a,_=>(Kb _).symm
 | p::L,a,h=>by
  have c:p∉a:=λz=>(JP.mp h).2.2 p z p ymS rfl;rw[LV,jm,if_neg c,sR L (a++[p]) (by rw[Ka];show h),Ka];rfl
def Dw(h:L.Nodup):ded L=L:=sR L [] h
def Dy(h:r.leaves=(Kk k).map (eLv z far)):(ded (rds r)).length=k/\r.leaves.length=k:=by
 have e:rds r=(Kk k).map λj:Nat=>(z,wD (far+j)):=by
  unfold rds;rw[h,LF];show congrFun List.filterMap_eq_map' _
 show{?_,by rw[h,JK,Mw]};rw[e,Dw ?_,JK,Mw];show Mb.mpr ((NG (n:=k)).imp λ{a b} h z=>h ?_);have c:wD (far+a)=wD (far+b):=congrArg Prod.snd z;unfold wD at c;injection c with f d;injection d with d _
 lia
structure E1(z:Str)(k:Nat)(d:Ds):Prop where
 ex:∃r,d=[(z,r)]
 hr:HR d
 st:(aP d).length=k
def E1.mk'(d:k<=12)(h:r.leaves=(Kk k).map (eLv z far)):E1 z k [(z,r)]:=by
 have e:=Dy h;show{⟨r,Xr⟩,{JQ 1,(by decide:1<=6),List.pairwise_singleton ..,λp c=>?_},?_}
 .cases ysM c;show{by rw[e.2];show d,λx f a=>?_};rw[h]at a;have(j,_,g):=JS.mp a;cases g;show(by decide:2<=3)
 .unfold aP;rw[JW,LR,Kb,JK];show e.1
def mS(hm:m<=1)(q:∀wh k d1 d2 J,E1 "p" k d1->E1 "q" (16-k+m) d2->k<=11->Q (.li [aj 2 wh d1,aj 2 wh d2]) (fT J)):W2 (gt [fT f,.im (.int m)]) Q:=by
 show Po [VF {.io 0,fT f},↥(.int m),VE,VE,VE,VE,VE,VE,VE] rfl rfl rfl ?_;unfold gi;and_intros;show av (by lia) (by lia) λa f a0 S=>?_;ac_nf;and_intros;show av (by lia) (by lia) λe f M O=>?_;ac_nf;and_intros;show av (by lia) (by lia) λc f c0 c1=>?_;ac_nf;and_intros;obtain⟨k,y,A,v⟩:∃k:Nat,5+c=k/\5<=k/\k<=11:={(5+c).toNat,by lia,by lia,by lia};rw[y];show dg (λs:(Int×Int)×!Ds=>[VF {.io 0,fT s.1},↥(.int m),↥(.int (2+a)),↥(.int e),↥(.int k),⇑(.li (s.2.map (aj 2 (2+a)))),VE,VE,VE]) (λj s=>s.2.length=j/\∀(i:Nat) d,s.2[i]?*>d->∃p,([("p",k),("q",16-k+m)]:!(Str×Nat))[i]?*>p/\E1 p.1 p.2 d) ?_;and_intros;show{([("p",k),("q",16-k+m)]:!(Str×Nat)).map λp=>.tup [.str p.1,.int p.2],?_,by cbv,(f,[]),by cbv,{Xr,by simp},λj U s w g=>?_,λs g=>?_}
 .rw[show(16-(k:Int)+m)=((16-k+m:Nat):Int) by lia];rfl
 .have(p,x,rfl):=aI w;have(f,L):=s;have(t,h):=g;dsimp only at t h|-;have G:1<=p.2/\p.2<=12:=by
   have:=ymG x;simp at this;rcases this with rfl|rfl<;>simp<;>lia
  have Y:j<2:=(JJ.mp x).1;and_intros;show eW (λ_:Unit=>[VF {.io 0,fT f},↥(.int m),↥(.int (2+a)),↥(.int e),↥(.int k),⇑(.li (L.map (aj 2 (2+a)))),↥(.str p.1),↥(.int p.2),VE]) (λi=>tRu (eLv p.1 e i)) (λi _ l=>l=Kk i) ?_;and_intros;show{{by lia,by lia},by cbv,(),by cbv,Xr,λi _ l C g=>?_,λ_ l g=>?_}
  .and_intros;show{i,(),Xr,by cbv,by rw[g,NN]}
  rw[Kh]at g;subst g;rw[show(Kk p.2).map (λi=>tRu (eLv p.1 e i))=((Kk p.2).map (eLv p.1 e)).map tRu by rw[Kr];rfl];and_intros;show pC (rs:=(Kk p.2).map (eLv p.1 e)) (by intro z;have:=congrArg Ln z;simp at this;lia) (by simp;lia) (λr u=>?_) λr f u _=>?_
  .have(i,_,rfl):=JS.mp u;trivial
  rw[jZ (λr u=>by have(i,_,rfl):=JS.mp u;trivial)]at u;ac_nf;and_intros;show cL (by rw[JK,Oj];lia) ?_;ac_nf;and_intros;show{(f,L++[[(p.1,r)]]),by rw[JZ];cbv,by simp[t],λi d o=>?_};rw[List.getElem?_append]at o;split at o
  .show h i d o
  .delta C;have:i=j:=by
    have:=(JJ.mp o).1;simp at this
    lia
   subst this;rw[t,Nat.sub_self]at o;cases o;show{p,x,E1.mk' G.2 u}
 .have(f,L):=s;have(t,h):=g;dsimp only at t h|-
  match L,t with
  | [d1,d2],_=>
   have(Z,B,E1):=h 0 d1 rfl;have(X,H,E):=h 1 d2 rfl;cases B;cases H;and_intros;show q (2+a) k d1 d2 f E1 E v
def uC(o:ds.length<=1000)(h:∀p∈ds,p.2.leaves.length<=12/\∀x row,Ru.rd x row∈p.2.leaves->row.length<=3):(aj w wh ds).fit=VH/\(aj w wh ds).dep<24:=by
 have c:∀i∈ds.map aJ,i.fit=VH/\i.dep<=15:=by
  intro i a;have(p,g,rfl):=JS.mp a;have(s,d):=h p g;have(e,t):=iJ (r:=p.2) λx row l=>Kg (d x row l) (by decide);have q:=Ru.depth_lt p.2;dsimp[aJ,I.fit,I.fits,I.dep,I.deps,e];show{Xr,by lia}
 have f:I.fits (ds.map aJ)=VH:=oh λi a=>(c i a).1;have m:I.deps (ds.map aJ)<=15:=nX λi a=>(c i a).2;dsimp[aj,I.fit,I.fits,I.dep,I.deps,f,JK];show{?_,by lia};simp
 lia
def qC{w1 wh1 w2 wh2:Int}{d1 d2:Ds}(e:HR d1)(d:HR d2):(eV w1 wh1 d1 w2 wh2 d2).fit=VH/\(eV w1 wh1 d1 w2 wh2 d2).dep<24:=by
 unfold eV;rcases jT w1 wh1 d1 w2 wh2 d2 with c|⟨a,b,c⟩
 .rw[c];have l1:=e.2.1;have l2:=d.2.1;show uC (by rw[JT];lia) λp f=>(yaM f).elim (e.2.2.2 p) (d.2.2.2 p)
 .rw[c];show{Xr,by unfold two;dsimp[I.dep,I.deps];decide}
def wB(hz:z1≠z2)(d:E1 z1 k1 d1)(a:E1 z2 k2 d2):iP 2 wh d1 2 wh d2=if 16<k1+k2 then two "steps" "" else .non:=by
 obtain⟨⟨c,rfl⟩,_,h⟩:=d;obtain⟨⟨f,rfl⟩,_,g⟩:=a;have e:sN [(z1,c)] [(z2,f)]=[]:=by
  unfold sN;dsimp[JN,Lv,KN,M1,No];rw[if_neg (by simpa using Ot hz)]
 unfold iP;rw[if_neg ∅,if_neg ∅,if_neg ∅,e,h,g]
protected def H3:=Int×Int×Ds
abbrev tH3(h:H3):I:=aj h.1 h.2.1 h.2.2
def ED(h:i ≠ .non)(q:Q (.im (.bl VH))):W1 (xx (.im i) (.im .non)) Q:=by unhygienic
 cases i<;>first|show absurd rfl h|show⟨_,rfl,q⟩
def EF(q:Q (.im (.bl VG))):W1 (xx (.im .non) (.im .non)) Q:=by unhygienic show{_,Xr,q}
def Ad(h:WGs gs (is.map λi=>{.ow,.im i}) O Q):WG (lF gs) {.ow,.li is} O Q:=by unhygienic
 have(a,e,q):=h;show{a,by dsimp[lF,e],q}
def k49_law{ns:!Int}(U:ns.length<=63):W1 (r_l_law_v10 [.li (ns.map .int)]) λt=>t=.im (.bl VH):=by
 show Pf [VF {.vw VE VE,.li (ns.map .int)},VE,VE,VE,VE,VE,VE,VE,VE] rfl rfl rfl ?_;unfold fg;and_intros;show dh (λ_:Unit=>[VF {.vw VE VE,.li (ns.map .int)},VE,VE,VE,VE,VE,VE,VE,VE]) (λ_ _=>True) ?_;and_intros;show{{by split<;>split<;>lia,by split<;>split<;>lia},(),by cbv,trivial,λk _ G _=>?_,λ_ _=>?_}
 .have S:(k:Int)<6:=by split at G<;>split at G<;>lia
  and_intros;show sY (ns:=ns) (by lia) (by lia) (by lia) λf=>?_;ac_nf;and_intros;show pD λw h B f J=>?_;have Q:=J.hr;ac_nf;and_intros;show vH J.1 J.2.1 Q λH y l f Y=>?_;ac_nf;and_intros;show dg (λ_:Unit=>[VF {.vw VE VE,.li (ns.map .int)},↥(.int k),⇑(fT f),↥(aj w h B),↥(aj H y l),VE,VE,VE,VE]) (λ_ _=>True) ?_;and_intros;show{([((w,h,B),(H,y,l)),((H,y,l),(w,h,B)),((w,h,B),(w,h,B)),((w,h,B),(H,y,l))]:!(H3×H3)).map λp=>.tup [tH3 p.1,tH3 p.2],Xr,by cbv,(),by cbv,trivial,λj X _ C _=>?_,λ_ _=>?_}
  .have(p,O,rfl):=aI C;obtain⟨r,s⟩:HR p.1.2.2/\HR p.2.2.2:=by
    have:=ymG O;simp at this;rcases this with rfl|rfl|rfl|rfl<;>show{by assumption,by assumption}
   obtain⟨⟨w1,d,i⟩,⟨o,g,u⟩⟩:=p;clear O C;dsimp only[tH3]at r s|-;have l1:=r.2.1;have l2:=s.2.1;and_intros;show wC r.hb s.hb ?_;have v:=qC (w1:=w1) (wh1:=d) (w2:=o) (wh2:=g) r s;rcases jT w1 d i o g u with q|⟨a,b,q⟩
   .have e:eV w1 d i o g u=aj w1 d (i++u):=by unfold eV;rw[q]
    rw[e]at v;rw[q];ac_nf;rw[show aj w1 d i=.tup [.int w1,.int d,.tup (i.map aJ)]from rfl,show aj o g u=.tup [.int o,.int g,.tup (u.map aJ)]from rfl];and_intros;show gm (by rw[JK,JK,Oj];lia) ?_;rw[<-JZ];and_intros;show aT ?_;and_intros;show EF ?_;and_intros;show spF ?_;and_intros;show aT ?_;and_intros;show jO (w1:=w1) (wh1:=d) (d1:=i) (w2:=o) (wh2:=g) (d2:=u) r.hb s.hb ?_;rw[e];and_intros;show W1.mono (lf 24 (aj w1 d (i++u)) v.2 v.1) λt E=>?_;subst E;and_intros;show spF ?_;and_intros;show{(),by cbv,trivial}
   .have e:eV w1 d i o g u=.tup [.str "amiss",.str a,.str b]:=by unfold eV;rw[q];rfl
    rw[e]at v;rw[q];ac_nf;rw[show aj w1 d i=.tup [.int w1,.int d,.tup (i.map aJ)]from rfl,show aj o g u=.tup [.int o,.int g,.tup (u.map aJ)]from rfl];and_intros;show gm (by rw[JK,JK,Oj];lia) ?_;and_intros;show aT ?_;and_intros;show ED (by intro z;cases z) ?_;and_intros;show spT ?_;and_intros;show gm (is:=[.str "amiss"]) (js:=[.str a,.str b]) (by rw[Oj];change 3<=_;decide) ?_;and_intros;show aT ?_;and_intros;show jO (w1:=w1) (wh1:=d) (d1:=i) (w2:=o) (wh2:=g) (d2:=u) r.hb s.hb ?_;rw[e];and_intros;show W1.mono (lf 24 (.tup [.str "amiss",.str a,.str b]) v.2 v.1) λt E=>?_;subst E;and_intros;show spF ?_;and_intros;show{(),by cbv,trivial}
  .and_intros;show{(),by cbv,trivial}
 .and_intros;show sY (ns:=ns) (by lia) (by lia) (by lia) λf=>?_;ac_nf;and_intros;show mS (m:=0) (by lia) λh k i l f x A G=>?_;ac_nf;and_intros;show Ad ?_;and_intros;have q:iP 2 h i 2 h l=.non:=by rw[wB (by decide) x A,if_neg (by lia)]
  have l1:=x.hr.2.1;have l2:=A.hr.2.1;have v:=qC (w1:=2) (wh1:=h) (w2:=2) (wh2:=h) x.hr A.hr;have e:eV 2 h i 2 h l=aj 2 h (i++l):=by unfold eV;rw[q]
  rw[e]at v;show aT ?_;and_intros;show jO (w1:=2) (wh1:=h) (d1:=i) (w2:=2) (wh2:=h) (d2:=l) x.hr.hb A.hr.hb ?_;rw[e];rw[show aj 2 h i=.tup [.int 2,.int h,.tup (i.map aJ)]from rfl,show aj 2 h l=.tup [.int 2,.int h,.tup (l.map aJ)]from rfl];and_intros;show gm (by rw[JK,JK,Oj];lia) ?_;rw[<-JZ];and_intros;show W1.mono (lf 24 (aj 2 h (i++l)) v.2 v.1) λt E=>?_;subst E;and_intros;show spF ?_;and_intros;show mS (m:=1) (by lia) λh k i l f x A G=>?_;ac_nf;and_intros;show Ad ?_;and_intros;have M:eV 2 h i 2 h l=.tup [.str "amiss",.str "steps",.str ""]:=by unfold eV;rw[wB (by decide) x A,if_pos (by lia)];rfl
  have L:eV 2 h l 2 h i=.tup [.str "amiss",.str "steps",.str ""]:=by unfold eV;rw[wB (by decide) A x,if_pos (by lia)];rfl
  show jO (w1:=2) (wh1:=h) (d1:=i) (w2:=2) (wh2:=h) (d2:=l) x.hr.hb A.hr.hb ?_;rw[M];and_intros;show CJ (is:=[.str "amiss",.str "steps",.str ""]) (js:=[.str "amiss",.str "steps",.str ""]) {Xr,Xr,by decide +kernel} ?_;and_intros;clear_value c
  .and_intros;show jO (w1:=2) (wh1:=h) (d1:=l) (w2:=2) (wh2:=h) (d2:=i) A.hr.hb x.hr.hb ?_;rw[L];and_intros;show CJ (is:=[.str "amiss",.str "steps",.str ""]) (js:=[.str "amiss",.str "steps",.str ""]) {Xr,Xr,by decide +kernel} ?_;and_intros;rw[decide_eq_true rfl]
  .show absurd rfl c
end
end L2
namespace K49
open PySem PySem.Spec PyProof.Rows L2
local macro_rules|`(tactic| exfalso)=>`(tactic| exact⟨rfl,rfl,rfl,by decide +kernel,rfl,by decide +kernel,by decide +kernel⟩)
structure Adr(mg:Str->↑Od)(K:yF):Prop where
 d0:Pb K mg "_law_feed" hU ["_law_script","_law_k"]
 d1:Pb K mg "_law_take" ib ["_law_feed_here","_law_many"]
 d2:Pb K mg "_law_grown" gz ["_law_feed_here","_law_leaves"]
 d3:Pb K mg "_law_eights" fA ["_law_feed_here","_law_more"]
 d4:Pb K mg "_law_turned_row" cV ["_law_row_here","_law_way","_law_signs"]
 d5:Pb K mg "_law_row" ja ["_law_feed_here","_law_ways"]
 d6:Pb K mg "_law_opposed_reads" bY ["_law_feed_here","_law_ways","_law_many"]
 d7:Pb K mg "_law_free_reads" cS ["_law_feed_here","_law_ways","_law_many"]
 d8:Pb K mg "_law_back_row" dz ["_law_feed_here","_law_ways"]
 d9:Pb K mg "_law_late_reads" cT ["_law_feed_here","_law_ways","_law_many"]
 d10:Pb K mg "_law_ring_reads" cU ["_law_feed_here","_law_ways","_law_many"]
 d11:Pb K mg "_law_reads" gC ["_law_feed_here"]
 d12:Pb K mg "_law_names" gB ["_law_feed_here","_law_many"]
 d13:Pb K mg "_law_house" gA ["_law_feed_here"]
 d14:Pb K mg "_law_renamed" eU ["_law_rule","_law_names_here","_law_ways"]
 d15:Pb K mg "_law_second" fB ["_law_feed_here","_law_house_here"]
 d16:Pb K mg "_law_alike" gy ["_law_found","_law_due_here"]
 d17:Pb K mg "_law_reads_of" dA ["_law_rule"]
 d18:Pb K mg "_law_steps" gD ["_law_house_here"]
 d19:Pb K mg "_law_due" i9 ["_law_one","_law_other"]
 d20:Pb K mg "inner_parts" fD ["part"]
 d21:Pb K mg "parts_of" jb ["rule"]
 d22:Pb K mg "reads" oW ["rule"]
 d23:Pb K mg "desk_steps" gE ["name","rule"]
 d24:Pb K mg "steps_of" jc ["house"]
 d25:Pb K mg "kept" sd ["thing"]
 d26:Pb K mg "beside" l3 ["one","other"]
 d27:Pb K mg "_law_told" ic ["_law_one","_law_other"]
 d28:Pb K mg "law" s_law ["_law_script"]
 m_NoHouse:MkF K mg "NoHouse" ["word","name"] "NoHouse.__init__" jd ["self","word","name"]
 H:HEf K mg fE
 E:gL K mg EXN
 T:Bi mg
 G:GT K mg
def adr0(w:Ox)(a:Str->↑Od)(h:Heap)(X:(KF w.params).In h)(G:h.Ns Ou a):Adr a (KF w.params):=
 {Pb.mkO X G 293 pm0 292 (by2 λ_ _ _ _ _ _ _ _=>rfl),
   Pb.mkO X G 300 pm0 299 (by2 λ_ _ _ _ _ _ _ _=>rfl),
   Pb.mkO X G 356 pm0 355 (by2 λ_ _ _ _ _ _ _ _=>rfl),
   Pb.mkO X G 395 pm0 394 (by2 λ_ _ _ _ _ _ _ _=>rfl),
   Pb.mkO X G 332 pm0 331 (by3 λ_ _ _ _ _ _ _ _ _=>rfl),
   Pb.mkO X G 310 pm0 309 (by2 λ_ _ _ _ _ _ _ _=>rfl),
   Pb.mkO X G 337 pm0 336 (by3 λ_ _ _ _ _ _ _ _ _=>rfl),
   Pb.mkO X G 320 pm0 319 (by3 λ_ _ _ _ _ _ _ _ _=>rfl),
   Pb.mkO X G 315 pm0 314 (by2 λ_ _ _ _ _ _ _ _=>rfl),
   Pb.mkO X G 325 pm0 324 (by3 λ_ _ _ _ _ _ _ _ _=>rfl),
   Pb.mkO X G 342 pm0 341 (by3 λ_ _ _ _ _ _ _ _ _=>rfl),
   Pb.mkO X G 349 pm0 348 (by1 λ_ _ _ _ _ _ _=>rfl),
   Pb.mkO X G 305 pm0 304 (by2 λ_ _ _ _ _ _ _ _=>rfl),
   Pb.mkO X G 361 pm0 360 (by1 λ_ _ _ _ _ _ _=>rfl),
   Pb.mkO X G 385 pm0 384 (by3 λ_ _ _ _ _ _ _ _ _=>rfl),
   Pb.mkO X G 390 pm0 389 (by2 λ_ _ _ _ _ _ _ _=>rfl),
   Pb.mkO X G 380 pm0 379 (by2 λ_ _ _ _ _ _ _ _=>rfl),
   Pb.mkO X G 368 pm0 367 (by1 λ_ _ _ _ _ _ _=>rfl),
   Pb.mkO X G 375 pm0 374 (by1 λ_ _ _ _ _ _ _=>rfl),
   Pb.mkO X G 400 pm0 399 (by2 λ_ _ _ _ _ _ _ _=>rfl),
   Pb.mkO X G 257 pm1 256 (by1 λ_ _ _ _ _ _ _=>rfl),
   Pb.mkO X G 264 pm1 263 (by1 λ_ _ _ _ _ _ _=>rfl),
   Pb.mkO X G 269 pm1 268 (by1 λ_ _ _ _ _ _ _=>rfl),
   Pb.mkO X G 276 pm2 275 (by2 λ_ _ _ _ _ _ _ _=>rfl),
   Pb.mkO X G 281 pm2 280 (by1 λ_ _ _ _ _ _ _=>rfl),
   Pb.mkO X G 21 pm3 20 (by1 λ_ _ _ _ _ _ _=>rfl),
   Pb.mkO X G 286 pm4 285 (by2 λ_ _ _ _ _ _ _ _=>rfl),
   Pb.mkO X G 407 pm0 406 (by2 λ_ _ _ _ _ _ _ _=>rfl),
   Pb.mkO X G 414 pm0 413 (by1 λ_ _ _ _ _ _ _=>rfl),
   MkF.mkO X G 58 55 pm3 54 (by3 λ_ _ _ _ _ _ _ _ _=>rfl),
   {MkF.mkO X G 38 35 pm3 34 (by1 λ_ _ _ _ _ _ _=>rfl),GH 38 35,bN X G},
   Cc X G (bN X G) (by rfl'),
   {bN X G,bN X G,bN X G,bN X G,bN X G,bN X G,bN X G,bN X G,bN X G,bN X G,bN X G,bN X G,bN X G,bN X G,bN X G,bN X G,bN X G,bN X G,bN X G,bN X G,bN X G},{trivial,PD.mk' X G (u:=(OX 6 517)) (by rfl') {_,Xr},PD.mk' X G (u:=(OX 16 519)) (by rfl') {_,Xr}}}
def c0:Pa ["_law_script","_law_k","_law_cell","_law_own"] ["_law_script","_law_k"] (ai hU):=by exfalso
def c1:Pa ["_law_feed_here","_law_many","_law_digit","_law_one"] ["_law_feed_here","_law_many"] (ai ib):=by exfalso
def c2:Pa ["_law_feed_here","_law_leaves","_law_found","_law_at","_law_sign"] ["_law_feed_here","_law_leaves"] (ai gz):=by exfalso
def c3:Pa ["_law_feed_here","_law_more","_law_wheel","_law_far","_law_first","_law_found","_law_name","_law_many","_law_leaves"] ["_law_feed_here","_law_more"] (ai fA):=by exfalso
def c4:Pa ["_law_row_here","_law_way","_law_signs","_law_found","_law_k"] ["_law_row_here","_law_way","_law_signs"] (ai cV):=by exfalso
def c5:Pa ["_law_feed_here","_law_ways"] ["_law_feed_here","_law_ways"] (ai ja):=by exfalso
def c6:Pa ["_law_feed_here","_law_ways","_law_many","_law_far","_law_some","_law_way","_law_signs","_law_looks","_law_x","_law_other","_law_row_here"] ["_law_feed_here","_law_ways","_law_many"] (ai bY):=by exfalso
def c7:Pa ["_law_feed_here","_law_ways","_law_many","_law_looks","_law_x","_law_k"] ["_law_feed_here","_law_ways","_law_many"] (ai cS):=by exfalso
def c8:Pa ["_law_feed_here","_law_ways","_law_at","_law_more"] ["_law_feed_here","_law_ways"] (ai dz):=by exfalso
def c9:Pa ["_law_feed_here","_law_ways","_law_many","_law_looks","_law_x","_law_k"] ["_law_feed_here","_law_ways","_law_many"] (ai cT):=by exfalso
def c10:Pa ["_law_feed_here","_law_ways","_law_many","_law_looks","_law_long","_law_rest","_law_k","_law_row_here"] ["_law_feed_here","_law_ways","_law_many"] (ai cU):=by exfalso
def c11:Pa ["_law_feed_here","_law_form","_law_wide","_law_ways","_law_many"] ["_law_feed_here"] (ai gC):=by exfalso
def c12:Pa ["_law_feed_here","_law_many","_law_letters","_law_stem","_law_first","_law_at","_law_found","_law_k","_law_name"] ["_law_feed_here","_law_many"] (ai gB):=by exfalso
def c13:Pa ["_law_feed_here","_law_ways","_law_looks","_law_wheel","_law_names_here","_law_desks","_law_x","_law_leaves","_law_k","_law_number"] ["_law_feed_here"] (ai gA):=by exfalso
def c14:Pa ["_law_rule","_law_names_here","_law_ways","_law_begun"] ["_law_rule","_law_names_here","_law_ways"] (ai eU):=by exfalso
def c15:Pa ["_law_feed_here","_law_house_here","_law_alike_here","_law_called","_law_wheel","_law_ways","_law_own","_law_desks","_law_names_here","_law_name","_law_taken","_law_turned_about"] ["_law_feed_here","_law_house_here"] (ai fB):=by exfalso
def c16:Pa ["_law_found","_law_due_here"] ["_law_found","_law_due_here"] (ai gy):=by exfalso
def c17:Pa ["_law_rule","_law_found","_law_part"] ["_law_rule"] (ai dA):=by exfalso
def c18:Pa ["_law_house_here","_law_found","_law_name","_law_rule","_law_other","_law_row_here"] ["_law_house_here"] (ai gD):=by exfalso
def c19:Pa ["_law_one","_law_other","_law_names_here","_law_some"] ["_law_one","_law_other"] (ai i9):=by exfalso
def c20:Pa ["part"] ["part"] (ai fD):=by exfalso
def c21:Pa ["rule","parts","due","part"] ["rule"] (ai jb):=by exfalso
def c22:Pa ["rule"] ["rule"] (ai oW):=by exfalso
def c23:Pa ["name","rule","steps","other","row","step"] ["name","rule"] (ai gE):=by exfalso
def c24:Pa ["house"] ["house"] (ai jc):=by exfalso
def c25:Pa ["thing"] ["thing"] (ai sd):=by exfalso
def c26:Pa ["one","other","names","name","rule","house"] ["one","other"] (ai l3):=by exfalso
def c27:Pa ["_law_one","_law_other","_law_found","_law_others","e"] ["_law_one","_law_other"] (ai ic):=by exfalso
def c28:Pa ["_law_script","_law_k","_law_feed_here","_law_one","_law_other","_law_first","_law_second_here","_law_due_here","_law_wanted"] ["_law_script"] (ai s_law):=by exfalso
def mq:Pa ["self"] ["self"] (ai fE):=by exfalso
def qT:Pa ["self","word","name"] ["self","word","name"] (ai jd):=by exfalso
local macro_rules|`(tactic| ac_nf)=>`(tactic| first|exact aA|exact CK.blk aA)
local macro_rules|`(tactic| injection $x:ident)=>`(tactic| refine $x ?_)
local macro_rules|`(tactic| infer_instance)=>`(tactic| first
 | ((with_reducible change QE _ _ _ _);first|exact bK|exact CU|refine Bu nofun ?_ ?_|refine HK ?_ ?_ ?_|exact aM _|exact gI|exact HF|exact jH G!|refine dv nofun ?_ ?_|refine tW _ ?_|refine tV _ ?_|refine qc nofun ?_ ?_|refine HY nofun ?_ ?_|refine HQ nofun ?_ ?_|refine HP nofun ?_ ?_|refine Fc nofun ?_ ?_|refine HV nofun ?_ ?_|refine HI _ nofun (by with_reducible assumption) ?_|refine lU nofun (by with_reducible first|exact b_len|exact b_max|exact b_min|exact b_all) ?_ ?_|refine Jy nofun (by with_reducible first|exact b_tuple|exact b_int|exact b_list|exact b_dict) ?_ ?_|refine yI nofun (by with_reducible assumption) ?_|refine Jw nofun ?_ ?_ ?_|refine HX nofun ?_ ?_ ?_|refine HW nofun ?_|refine HS _ _ nofun (by with_reducible first|exact xq|exact xr|exact xt) ?_ ?_|refine Fe _ nofun GZ ?_|refine Fd nofun D6 ?_ ?_|refine HG nofun ?_ ?_ ?_ (by unhygienic rfl)|refine HL nofun (Bi.b_isinstance (by assumption)) (by with_reducible first|exact Bi.b_bool (by assumption)|exact Bi.b_list (by assumption)|exact Bi.b_str (by assumption)|exact Bi.b_tuple (by assumption)) (by with_reducible first|exact Mc|exact LH|exact Md|exact LB) (by decide) ?_|refine HM nofun (Bi.b_isinstance (by assumption)) (by with_reducible first|exact Bi.b_bool (by assumption)|exact Bi.b_list (by assumption)|exact Bi.b_str (by assumption)|exact Bi.b_tuple (by assumption)) (by with_reducible first|exact Mc|exact LH|exact Md|exact LB) (by decide) (by with_reducible first|exact Bi.b_bool (by assumption)|exact Bi.b_list (by assumption)|exact Bi.b_str (by assumption)|exact Bi.b_tuple (by assumption)) (by with_reducible first|exact Mc|exact LH|exact Md|exact LB) (by decide) ?_|refine HH nofun ?_ ?_|injection HJ|injection CV|refine HD ?_ ?_|injection HU)
 | ((with_reducible change QA _ _ _ _);first|exact bB|refine fS _ ?_|refine aE ?_ ?_)
 | ((with_reducible change QSs _ _ _ _);first|exact i4|exact iC|refine tX _ ?_|refine bQ ?_ ?_|injection eM)
 | ((with_reducible change QS _ _ _ _);first|refine gp _ ?_ ?_|exact fU|injection rZ|injection Bz|refine Fh ?_ ?_|refine Fj _ _ nofun ?_ ?_|refine BA _ _ _ nofun ?_ ?_|refine lW ?_ ?_ ?_|refine yK nofun (λ_=>SJ) ?_ ?_ ?_|refine yL (λ_=>SJ) ?_ ?_|refine Fi _ ?_)
 | ((with_reducible change QT _ _ _ _);first|refine eN nofun ?_ ?_ ?_ (by unhygienic rfl)|injection Fm|refine Fo nofun ?_|injection yM|refine QW.t ?_)
 | ((with_reducible change QW _ _ _ _);first|refine yN ?_ ?_|refine HZ ?_ ?_|injection tY|injection Fp)
 | ((with_reducible change QG _ _ _ _ _);first|refine dU _ ?_|refine j7 nofun (bu ?_ (bu ?_ gn))|refine j7 nofun (bu ?_ (bu ?_ (bu ?_ gn)))|refine Bw nofun (bu ?_ (bu ?_ gn))|refine Ff _ ?_ ?_|refine Bv _ ?_ ?_|refine yJ _ ?_ ?_ ?_)
 | ((with_reducible change QI _ _ _ _ _);first|refine vp nofun ?_ ?_|refine vq nofun ?_ ?_|refine Fg nofun ?_ ?_|refine lV nofun ?_)
 | ((with_reducible change QO _ _ _ _);first|exact Bx|injection By)
 | ((with_reducible change QTs _ _ _ _);first|exact oI|injection BC)
 | ((with_reducible change fG _ _);first|exact Jh|exact Ji|exact wm|exact Du|exact Jj|exact wn|exact GF|exact wo|exact GG)
 | ((with_reducible show∀_,List.Nodup _);intro _;first|assumption|exact gH (by rfl'))
 | with_reducible first|assumption|exact Bi.b_all (by assumption)|exact Bi.b_bool (by assumption)|exact Bi.b_dict (by assumption)|exact Bi.b_int (by assumption)|exact Bi.b_isinstance (by assumption)|exact Bi.b_len (by assumption)|exact Bi.b_list (by assumption)|exact Bi.b_max (by assumption)|exact Bi.b_min (by assumption)|exact Bi.b_str (by assumption)|exact Bi.b_tuple (by assumption))
local macro_rules|`(tactic| and_intros)=>`(tactic| repeat' (first|infer_instance|fail))
section
variable {P:Os}{W:Ox}{K:yF}{mg:Str->↑Od}{base:Heap}(A:Adr mg K)
include A
def v0:Has P W K mg base 1 "_law_feed" ["_law_script","_law_k"] (spP K jJ):=by
 have:=c0.nd;have:=A.T;show Def.qp A.d0.to c0 (m:=jz) ?_ (λ_=>rfl);unfold jz;and_intros
def v1:Has P W K mg base 1 "_law_take" ["_law_feed_here","_law_many"] (spI K 0 ak):=by
 have:=c1.nd;have:=A.T;show Def.qi A.d1.to c1 (m:=jA) ?_ (λ_=>rfl);unfold jA;and_intros
def v2:Has P W K mg base 2 "_law_grown" ["_law_feed_here","_law_leaves"] (spI K 0 iD):=by
 have:=@v1 P W K mg base A;have:=c2.nd;have:=A.T;show Def.qi A.d2.to c2 (m:=ip) ?_ (λ_=>rfl);unfold ip;and_intros
def v3:Has P W K mg base 3 "_law_eights" ["_law_feed_here","_law_more"] (spI K 0 gt):=by
 have:=@v1 P W K mg base A;have:=@v2 P W K mg base A;have:=c3.nd;have:=A.T;show Def.qi A.d3.to c3 (m:=gi) ?_ (λ_=>rfl);unfold gi;and_intros
 .show bF _ (N':=["_law_feed_here","_law_more","_law_wheel","_law_far","_law_first","_law_found","_law_name","_law_many","_law_leaves","_law_k"]) (by ac_nf) (λ_=>(by first|assumption|show gH (by rfl'))) (λ_=>Blk.of (by rfl')) ?_ ?_ ?_ ?_<;>and_intros
def v4:Has P W K mg base 1 "_law_turned_row" ["_law_row_here","_law_way","_law_signs"] (spP K cR):=by
 have:=c4.nd;have:=A.T;show Def.qp A.d4.to c4 (m:=cJ) ?_ (λ_=>rfl);unfold cJ;and_intros
def v5:Has P W K mg base 2 "_law_row" ["_law_feed_here","_law_ways"] (spI K 0 kY):=by
 have:=@v1 P W K mg base A;have:=c5.nd;have:=A.T;show Def.qi A.d5.to c5 (m:=kT) ?_ (λ_=>rfl);unfold kT;and_intros
 .show cN (N':=["_law_feed_here","_law_ways","_law_k"]) (by ac_nf) (λ_=>Blk.of (by rfl')) ?_ ?_ ?_ ?_<;>and_intros
def v6:Has P W K mg base 3 "_law_opposed_reads" ["_law_feed_here","_law_ways","_law_many"] (spI K 0 cP):=by
 have:=@v1 P W K mg base A;have:=@v4 P W K mg base A;have:=@v5 P W K mg base A;have:=c6.nd;have:=A.T;show Def.qi A.d6.to c6 (m:=bP) ?_ (λ_=>rfl);unfold bP;and_intros
 .show cN (N':=["_law_feed_here","_law_ways","_law_many","_law_far","_law_some","_law_way","_law_signs","_law_looks","_law_x","_law_other","_law_row_here","_law_k"]) (by ac_nf) (λ_=>Blk.of (by rfl')) ?_ ?_ ?_ ?_<;>and_intros
 .show bF _ (N':=["_law_feed_here","_law_ways","_law_many","_law_far","_law_some","_law_way","_law_signs","_law_looks","_law_x","_law_other","_law_row_here"]) (by ac_nf) (λ_=>(by first|assumption|show gH (by rfl'))) (λ_=>Blk.of (by rfl')) ?_ ?_ ?_ ?_<;>and_intros
def v7:Has P W K mg base 3 "_law_free_reads" ["_law_feed_here","_law_ways","_law_many"] (spI K 0 eQ):=by
 have:=@v1 P W K mg base A;have:=@v5 P W K mg base A;have:=c7.nd;have:=A.T;show Def.qi A.d7.to c7 (m:=cG) ?_ (λ_=>rfl);unfold cG;and_intros
 .show bF _ (N':=["_law_feed_here","_law_ways","_law_many","_law_looks","_law_x","_law_k"]) (by ac_nf) (λ_=>(by first|assumption|show gH (by rfl'))) (λ_=>Blk.of (by rfl')) ?_ ?_ ?_ ?_<;>and_intros
def v8:Has P W K mg base 2 "_law_back_row" ["_law_feed_here","_law_ways"] (spI K 0 dW):=by
 have:=@v1 P W K mg base A;have:=c8.nd;have:=A.T;show Def.qi A.d8.to c8 (m:=dO) ?_ (λ_=>rfl);unfold dO;and_intros
 .show bF _ (N':=["_law_feed_here","_law_ways","_law_at","_law_more","_law_k"]) (by ac_nf) (λ_=>(by first|assumption|show gH (by rfl'))) (λ_=>Blk.of (by rfl')) ?_ ?_ ?_ ?_<;>and_intros
def v9:Has P W K mg base 3 "_law_late_reads" ["_law_feed_here","_law_ways","_law_many"] (spI K 0 cO):=by
 have:=@v1 P W K mg base A;have:=@v8 P W K mg base A;have:=c9.nd;have:=A.T;show Def.qi A.d9.to c9 (m:=cH) ?_ (λ_=>rfl);unfold cH;and_intros
 .show bF _ (N':=["_law_feed_here","_law_ways","_law_many","_law_looks","_law_x","_law_k"]) (by ac_nf) (λ_=>(by first|assumption|show gH (by rfl'))) (λ_=>Blk.of (by rfl')) ?_ ?_ ?_ ?_<;>and_intros
def v10:Has P W K mg base 4 "_law_ring_reads" ["_law_feed_here","_law_ways","_law_many"] (spI K 0 eR):=by
 have:=@v9 P W K mg base A;have:=@v1 P W K mg base A;have:=c10.nd;have:=A.T;show Def.qi A.d10.to c10 (m:=cI) ?_ (λ_=>rfl);unfold cI;and_intros
 .show cN (N':=["_law_feed_here","_law_ways","_law_many","_law_looks","_law_long","_law_rest","_law_k","_law_row_here","_law_j"]) (by ac_nf) (λ_=>Blk.of (by rfl')) ?_ ?_ ?_ ?_<;>and_intros
 .show cN (N':=["_law_feed_here","_law_ways","_law_many","_law_looks","_law_long","_law_rest","_law_k","_law_row_here","_law_j"]) (by ac_nf) (λ_=>Blk.of (by rfl')) ?_ ?_ ?_ ?_<;>and_intros
 .show cN (N':=["_law_feed_here","_law_ways","_law_many","_law_looks","_law_long","_law_rest","_law_k","_law_row_here","_law_number"]) (by ac_nf) (λ_=>Blk.of (by rfl')) ?_ ?_ ?_ ?_<;>and_intros
 .show cN (N':=["_law_feed_here","_law_ways","_law_many","_law_looks","_law_long","_law_rest","_law_k","_law_row_here","_law_j"]) (by ac_nf) (λ_=>Blk.of (by rfl')) ?_ ?_ ?_ ?_<;>and_intros
def v11:Has P W K mg base 5 "_law_reads" ["_law_feed_here"] (spI K 0 j9):=by
 have:=@v1 P W K mg base A;have:=@v7 P W K mg base A;have:=@v9 P W K mg base A;have:=@v10 P W K mg base A;have:=@v6 P W K mg base A;have:=c11.nd;have:=A.T;show Def.qi A.d11.to c11 (m:=iu) ?_ (λ_=>rfl);unfold iu;and_intros
def v12:Has P W K mg base 2 "_law_names" ["_law_feed_here","_law_many"] (spI K 0 j8):=by
 have:=@v1 P W K mg base A;have:=c12.nd;have:=A.T;show Def.qi A.d12.to c12 (m:=ir) ?_ (λ_=>rfl);unfold ir;and_intros
 .show cN (N':=["_law_feed_here","_law_many","_law_letters","_law_stem","_law_first","_law_at","_law_found","_law_k","_law_name"]) (by ac_nf) (λ_=>Blk.of (by rfl')) ?_ ?_ ?_ ?_<;>and_intros
def v13:Has P W K mg base 6 "_law_house" ["_law_feed_here"] (spI K 0 iE):=by
 have:=@v11 P W K mg base A;have:=@v1 P W K mg base A;have:=@v12 P W K mg base A;have:=@v2 P W K mg base A;have:=c13.nd;have:=A.T;show Def.qi A.d13.to c13 (m:=iq) ?_ (λ_=>rfl);unfold iq;and_intros
 .show bF _ (N':=["_law_feed_here","_law_ways","_law_looks","_law_wheel","_law_names_here","_law_desks","_law_x","_law_leaves","_law_k","_law_number","_law_other","_law_row_here"]) (by ac_nf) (λ_=>(by first|assumption|show gH (by rfl'))) (λ_=>Blk.of (by rfl')) ?_ ?_ ?_ ?_<;>and_intros
def v14:∀n,Has P W K mg base (1+n) "_law_renamed" ["_law_rule","_law_names_here","_law_ways"] (spP K (dq n))
 | 0=>Def.qp A.d14.to c14 (m:=cf) iC (λ_=>rfl)
 | n+1=>by
  have a:=v14 n;have:=c14.nd;have:=A.T;show Def.qp (k:=1+n) A.d14.to c14 (m:=fh (dq n)) ?_ (λ_=>rfl);unfold fh;and_intros
  .show cN (N':=["_law_rule","_law_names_here","_law_ways","_law_begun","_law_part"]) (by ac_nf) (λ_=>Blk.of (by rfl')) ?_ ?_ ?_ ?_<;>and_intros
def v15:Has P W K mg base 26 "_law_second" ["_law_feed_here","_law_house_here"] (spI K 0 i5):=by
 have:=@v1 P W K mg base A;have:=@v13 P W K mg base A;have:=@v14 P W K mg base A 24;have:=c15.nd;have:=A.T;show Def.qi A.d15.to c15 (m:=gj) ?_ (λ_=>rfl);unfold gj;and_intros
 .show cN (N':=["_law_feed_here","_law_house_here","_law_alike_here","_law_called","_law_wheel","_law_ways","_law_own","_law_desks","_law_names_here","_law_name","_law_taken","_law_turned_about","_law_rule"]) (by ac_nf) (λ_=>Blk.of (by rfl')) ?_ ?_ ?_ ?_<;>and_intros
 .show cN (N':=["_law_feed_here","_law_house_here","_law_alike_here","_law_called","_law_wheel","_law_ways","_law_own","_law_desks","_law_names_here","_law_name","_law_taken","_law_turned_about","_law_one"]) (by ac_nf) (λ_=>Blk.of (by rfl')) ?_ ?_ ?_ ?_<;>and_intros
 .show cN (N':=["_law_feed_here","_law_house_here","_law_alike_here","_law_called","_law_wheel","_law_ways","_law_own","_law_desks","_law_names_here","_law_name","_law_taken","_law_turned_about","_law_rule"]) (by ac_nf) (λ_=>Blk.of (by rfl')) ?_ ?_ ?_ ?_<;>and_intros
def v16:∀n,Has P W K mg base (1+n) "_law_alike" ["_law_found","_law_due_here"] (spP K (eA n))
 | 0=>Def.qp A.d16.to c16 (m:=cf) iC (λ_=>rfl)
 | n+1=>by
  have a:=v16 n;have:=c16.nd;have:=A.T;show Def.qp (k:=1+n) A.d16.to c16 (m:=il (eA n)) ?_ (λ_=>rfl);unfold il;and_intros
  .show cN (N':=["_law_found","_law_due_here","_law_one","_law_other"]) (by ac_nf) (λ_=>Blk.of (by rfl')) ?_ ?_ ?_ ?_<;>and_intros
def v17:∀n,Has P W K mg base (1+n) "_law_reads_of" ["_law_rule"] (spP K (cQ n))
 | 0=>Def.qp A.d17.to c17 (m:=cf) iC (λ_=>rfl)
 | n+1=>by
  have a:=v17 n;have:=c17.nd;have:=A.T;show Def.qp (k:=1+n) A.d17.to c17 (m:=dP (cQ n)) ?_ (λ_=>rfl);unfold dP;and_intros
def v18:Has P W K mg base 26 "_law_steps" ["_law_house_here"] (spP K iF):=by
 have:=@v17 P W K mg base A 24;have:=c18.nd;have:=A.T;show Def.qp A.d18.to c18 (m:=iw) ?_ (λ_=>rfl);unfold iw;and_intros
def v19:Has P W K mg base 27 "_law_due" ["_law_one","_law_other"] (spP K bU):=by
 have:=@v18 P W K mg base A;have:=c19.nd;have:=A.T;show Def.qp A.d19.to c19 (m:=gf) ?_ (λ_=>rfl);unfold gf;and_intros
 .show cN (N':=["_law_one","_law_other","_law_names_here","_law_some","_law_name","_law_rule"]) (by ac_nf) (λ_=>Blk.of (by rfl')) ?_ ?_ ?_ ?_<;>and_intros
 .show bF _ (N':=["_law_one","_law_other","_law_names_here","_law_some","_law_name","_law_rule"]) (by ac_nf) (λ_=>(by first|assumption|show gH (by rfl'))) (λ_=>Blk.of (by rfl')) ?_ ?_ ?_ ?_<;>and_intros
def v20:Has P W K mg base 1 "inner_parts" ["part"] (spP K dw):=by
 have:=c20.nd;have:=A.T;show Def.qp A.d20.to c20 (m:=cw) ?_ (λ_=>rfl);unfold cw;and_intros
def v21:Has P W K mg base 2 "parts_of" ["rule"] (spP K gv):=by
 have:=@v20 P W K mg base A;have:=c21.nd;have:=A.T;show Def.qp A.d21.to c21 (m:=dQ) ?_ (λ_=>rfl);unfold dQ;and_intros
def v22:Has P W K mg base 3 "reads" ["rule"] (spP K ka):=by
 have:=@v21 P W K mg base A;have:=c22.nd;have:=A.T;show Def.qp A.d22.to c22 (m:=iy) ?_ (λ_=>rfl);unfold iy;and_intros
 .show cN (N':=["rule","part"]) (by ac_nf) (λ_=>Blk.of (by rfl')) ?_ ?_ ?_ ?_<;>and_intros
def v23:Has P W K mg base 4 "desk_steps" ["name","rule"] (spP K eS):=by
 have:=@v22 P W K mg base A;have:=c23.nd;have:=A.T;show Def.qp A.d23.to c23 (m:=cK) ?_ (λ_=>rfl);unfold cK;and_intros
def v24:Has P W K mg base 5 "steps_of" ["house"] (spP K dZ):=by
 have:=@v23 P W K mg base A;have:=c24.nd;have:=A.T;show Def.qp A.d24.to c24 (m:=dR) ?_ (λ_=>rfl);unfold dR;and_intros
 .show Bt (N':=["house","name","rule","step"]) (by ac_nf) (λ_=>Blk.of (by rfl')) rfl ?_ ?_ ?_ ?_ ?_ ?_<;>and_intros
def v25:Has P W K mg base 1 "kept" ["thing"] (spP K bL):=by
 have:=c25.nd;have:=A.T;show Def.qp A.d25.to c25 (m:=lI) ?_ (λ_=>rfl);unfold lI;and_intros
def Jn{k:Nat}:HEr P W K mg base (k+1):=GM A.H mq rfl rfl (by first|show Rx rfl|show Qy (Rx rfl)|show Qy (Qy rfl)) (λ_=>{_,Xr})
def eH:vZ P W K mg base 2 "NoHouse" ["word","name"] bL:=D7 A.m_NoHouse (Jn A) (v25 A) qT rfl (by decide) rfl rfl (by first|show Rx rfl|show Qy (Rx rfl)|show Qy (Qy rfl)) (by first|show Rx rfl|show Qy (Rx rfl)|show Qy (Qy rfl)) (by decide) (by decide) (by first|show Rx rfl|show Qy (Rx rfl)|show Qy (Qy rfl)) (by decide) (by decide) (λ_=>{_,Xr})
def v26:Has P W K mg base 6 "beside" ["one","other"] (spP K i6):=
 Def.qp A.d26.to c26 (m:=iX) (bQ (lW (eN aA wn (dv aA (aM 0) bK) (dv aA (aM 1) bK) (gX _)) (eM fU) i4)
  (bQ (lW (eN aA wn (dv aA (aM 0) bK) (dv aA (aM 1) bK) (gX _)) (eM fU) i4)
  (bQ (lW (eN aA wm (qc aA (lU aA b_len A.T.b_len (aE (dv aA (aM 0) bK) bB)) (lU aA b_len A.T.b_len (aE (dv aA (aM 1) bK) bB))) (jH aA A.G.g_MOST_DESKS rfl) (gX _)) (eM fU) i4)
  (bQ (bF 2 (N':=["one","other","names","name","rule","house"]) (f:=[VE,VE,VE,VE,VE,VE]) aA (λ_=>c26.nd) (λ_=>Blk.of (by rfl')) (lV aA (dv aA (aM 0) bK)) (j7 (CK.blk aA) (bu (dU 3 (λ_=>gH (by rfl'))) (bu (dU 4 (λ_=>gH (by rfl'))) gn))) oI (aM 3))
  (bQ (yK aA (λ_=>SJ) (lV aA (dv aA (aM 1) bK)) (j7 aA (bu (dU 3 (λ_=>c26.nd)) (bu (dU 4 (λ_=>c26.nd)) gn))) (tX [3,4] (eM (lW (eN aA Du (aM 3) (aM 2) (by unhygienic rfl)) (eM fU) i4))))
  (bQ (gp 5 (λ_=>c26.nd) (tW [] (aE (dv aA (aM 0) bK) (aE (dv aA (aM 0) bK) (aE (qc aA (dv aA (aM 0) bK) (dv aA (aM 1) bK)) bB)))))
  (bQ (lW (eN aA wm (lU aA b_len A.T.b_len (aE (yI aA (v24 A) (fS 5 bB)) bB)) (jH aA A.G.g_MOST_STEPS rfl) (gX _)) (eM fU) i4)
  (eM (rZ (aM 5)))))))))) (λ_=>rfl)
def on:PP P W K mg base 6 "beside" ["one","other"] (spX K dY):=
 Def.qx A.d26.to c26 (m:=gk) (eP (qd (eN ckX wn (dv ckX (aM 0) bK) (dv ckX (aM 1) bK) (gX _)) (gq (g9 ckX (eH A) (aE gI (aE gI bB)))) jI)
  (eP (qd (eN ckX wn (dv ckX (aM 0) bK) (dv ckX (aM 1) bK) (gX _)) (gq (g9 ckX (eH A) (aE gI (aE gI bB)))) jI)
  (eP (qd (eN ckX wm (qc ckX (lU ckX b_len A.T.b_len (aE (dv ckX (aM 0) bK) bB)) (lU ckX b_len A.T.b_len (aE (dv ckX (aM 1) bK) bB))) (jH ckX A.G.g_MOST_DESKS rfl) (gX _)) (gq (g9 ckX (eH A) (aE gI (aE gI bB)))) jI)
  (eP (CW (bF 2 (N':=["one","other","names","name","rule","house"]) (f:=[VE,VE,VE,VE,VE,VE]) ckX (λ_=>c26.nd) (λ_=>Blk.of (by rfl')) (lV ckX (dv ckX (aM 0) bK)) (j7 (CK.blk ckX) (bu (dU 3 (λ_=>gH (by rfl'))) (bu (dU 4 (λ_=>gH (by rfl'))) gn))) oI (aM 3)))
  (eP (Fq owX ckX (lV ckX (dv ckX (aM 1) bK)) (j7 ckX (bu (dU 3 (λ_=>c26.nd)) (bu (dU 4 (λ_=>c26.nd)) gn))) (BD [3,4] (gq (qd (eN ckX Du (aM 3) (aM 2) (by unhygienic rfl)) (gq (g9 ckX (eH A) (aE gI (fS 3 bB)))) jI))))
  (eP (CW (gp 5 (λ_=>c26.nd) (tW [] (aE (dv ckX (aM 0) bK) (aE (dv ckX (aM 0) bK) (aE (qc ckX (dv ckX (aM 0) bK) (dv ckX (aM 1) bK)) bB))))))
  (eP (qd (eN ckX wm (lU ckX b_len A.T.b_len (aE (yI ckX (v24 A) (fS 5 bB)) bB)) (jH ckX A.G.g_MOST_STEPS rfl) (gX _)) (gq (g9 ckX (eH A) (aE gI (aE gI bB)))) jI)
  (gq yO)))))))) (λ_=>rfl)
def v27:Has P W K mg base 7 "_law_told" ["_law_one","_law_other"] (spP K fV):=
 Def.qp A.d27.to c27 (m:=lH) (bQ (gp 2 (λ_=>c27.nd) CU)
  (bQ (Fk (vO bU) 2 4 aA A.E (v26 A) (on A) (fS 0 (fS 1 bB)) (bQ (gp 3 (λ_=>c27.nd) (tV [] (aE (g8 (CK.suite aA) A.E A.T.b_isinstance (by decide) (aM 4)) (aE (g8 (CK.suite aA) A.E A.T.b_isinstance (by decide) (aM 4)) (aE (g8 (CK.suite aA) A.E A.T.b_isinstance (by decide) (aM 4)) (aE (g8 (CK.suite aA) A.E A.T.b_isinstance (by decide) (aM 4)) bB))))))
  (bQ (gp 3 (λ_=>c27.nd) (yH (CK.suite aA) (aM 3) (tV [] (aE (g8 (CK.suite aA) A.E A.T.b_isinstance (by decide) (aM 4)) (aE (g8 (CK.suite aA) A.E A.T.b_isinstance (by decide) (aM 4)) (aE (g8 (CK.suite aA) A.E A.T.b_isinstance (by decide) (aM 4)) (aE (g8 (CK.suite aA) A.E A.T.b_isinstance (by decide) (aM 4)) bB)))))))
  (bQ (gp 3 (λ_=>c27.nd) (yH (CK.suite aA) (aM 3) (tV [] (aE (g8 (CK.suite aA) A.E A.T.b_isinstance (by decide) (aM 4)) (aE (g8 (CK.suite aA) A.E A.T.b_isinstance (by decide) (aM 4)) (aE (CV (HN (CK.suite aA) A.E A.T.b_isinstance (aM 4))) bB))))))
  (bQ (gp 2 (λ_=>c27.nd) gI)
  (eM (lW (QW.t (yN (yM (g8 (CK.suite aA) A.E A.T.b_isinstance (by decide) (aM 4))) (tY (BB (CK.suite aA) wo HF (aM 3) (by unhygienic rfl))))) (eM (gp 2 (λ_=>c27.nd) (tW [] (aE gI (aE (CT (CK.suite aA) A.E (aM 4)) (aE (CT (CK.suite aA) A.E (aM 4)) bB)))))) i4)))))) (λ_=>c27.nd))
  (eM (rZ (aM 2))))) (λ_=>rfl)
def v28:Has P W K mg base 28 "law" ["_law_script"] (spP K r_l_law_v10):=by
 have:=@v0 P W K mg base A;have:=@v13 P W K mg base A;have:=@v15 P W K mg base A;have:=@v19 P W K mg base A;have:=@v16 P W K mg base A 24;have:=@v27 P W K mg base A;have:=@v3 P W K mg base A;have:=c28.nd;have:=A.T;show Def.qp A.d28.to c28 (m:=fg) ?_ (λ_=>rfl);unfold fg;and_intros
end
end K49
open PySem PySem.W PyProof.Rows
set_option maxRecDepth 100000 in
set_option maxHeartbeats 0 in
theorem PySem.Challenge.cw_clockhouse_k49_houses_side_by_side_holds : PySem.Challenge.rw_clockhouse_k49_houses_side_by_side.Holds := by
 show holds_law K49.ws λsaid=>?_;show holds_open (q:=K49.KQ) (loose:=K49.KL) (XP:=XL K49.KQ []) (YP:=K49.KH.says) K49.left K49.KH.of K49.KH.keeps (λs e=>xl_of s (LQ.mp e).1) XL.keeps (by rfl) (by rfl) (by rfl) (λs e=>recFacts_of (LQ.mp e).2) (by rfl) said (by rfl') {Xr,Xr,Xr,Xr,Xr,by decide +kernel} ?hw ?hc
 case hw=>w_witness2
 show L2.walkN (l:=PySem.Challenge.rw_clockhouse_k49_houses_side_by_side) (k:=28) (x:="_law_script") (st:=K49.s_law) (run:=L2.r_l_law_v10) (A:=K49.Adr) (K:=K49.KF) rfl rfl {Xr,Xr,by decide,by decide} (λw h Y=>Y) K49.adr0 (λP=>by rfl') (λmg K A=>A.d28.to) (λ_ _ _ _ _ _ s v=>.of_eq rfl) (λw mg K base A=>K49.v28 A) (λns hn=>by have(t,h1,h2):=L2.k49_law (ns:=ns) hn;rw[h1,h2])
